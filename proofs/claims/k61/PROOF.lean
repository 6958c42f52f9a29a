import PyProof.Rows.All
import Wide.All
import OpenK.AllK
import Wide.FinOn
import Lean
import PyProof.EqAt
import PyProof.EqKinds
import PyProof.TupleCall
import KE.KUnpack
import PyProof.NeKinds
import PyProof.EnumFor
import PyProof.EnumStmt
import PyProof.EnumMake
import PyProof.Draws
import PyProof.StrWalks
import PyProof.Rows.FStr
import PyProof.Rows.CallKw2
import PyProof.StrBlockL
import KE.KIntText
import PyProof.ConsumeWalk
import PyProof.StrBlockG
import PyProof.CallStr
import PyProof.Rows.Range3
import PyProof.MeetsDict
import PyProof.DictList
import PyProof.StrLawsChain
import PyProof.StrLawsNeg
import KE.IntTextLaws
import KE.IntTextText
import PyProof.CallFns
import PyProof.CompUse
import PyProof.DictWalks
import KE.KDictSum
import PyProof.FString5
import KE.KLam
import KE.KSortKey
import KE.KNestM
import PyProof.Rows.RuleN_abs
import PyProof.WalkInts
import KE.KMinKey
import KE.KSortTup
import PyProof.DictCompW
import PyProof.SetRoads
import PyProof.SetNew
import KE.KEqDict
import PyProof.ListRange
import KE.KRevSl
import PySem.Challenge.RW_cleanrows_k61_worths_told
open PySem renaming wpAny_bind->fv,Shared->LF,wpAny_pure->LJ,mainGlobals->LN,wpAny->LS,Program->LV,model->LZ,Builtin->L5,starEach->Ma,wpAny_field->Me,World->Mf,Around->Mn,boot_len->Mr,wpAny_holding->Mt,wpAny_mono->Mv,Expr->Mw,compareOp->MA,wpAny_callSpecial?_slot->ME,wpAny_newObj_type->MG,eval->MJ,sizeLine_eq->ML,wpAny_call_entry->MO,rawInt->MP,wpAny_Call_Name_kw->MT,Spec->MX,mem_of_lookup->M4,wpAny_setField->M6,wpAny_seqItems->M7,attributeBase->M9,PassesOwn->Nb,FuncData->Nc,NameKind->Ng,binaryOp->Nl,wpAny_truthy_bool->Nr,foldedSetIterable->Nt,assignEach->Nv,wpAny_Call_method_late->Nx,wpAny_standAt->Ny,backTo->NA,wpAny_passesOwn->NF,wpAny_pyIter_list->NJ,wpAny_rule->NN,keywordEach->NY,wpAny_setField_rec->NZ,tupleKind_room_in1->N0,bootBuiltins->N4,strIterType->Ob,call_meets->Oe,callWith->Of,holding->Ol,getMethod->Om,codeAny_mono->On,IsPair->Os,wpAny_attempt->Ot,wpAny_execs_nil->Ou,letOwnedTupleGo->Ov,pyNext->Oy,sliceBounds->OE,wpAny_pyIter_enum->OH,codeAny->OJ,intText?->OL,wpAny_isInstance->OS,typeIs_str->OT,closureFor->OU,checkBuiltinCall->OV,builtinsNs->OW,standAt->OY,behindInMarks->O1,wpAny_newFunctionEnv->O4,wpAny_loadName_local->O5,wpAny_letGo->O6,codeAny_call_builtin->Pb,backToKw->Pc,IsRangeIter->Pg,codeAny_builtin->Pj,wpAny_pyIter_tuple->Pt,wpAny_Constant_int->Pu,isSubtype_stop->PC,field->PD,IsPart->PN,wpAny_pyIter_strU->PU,wpAny_newList->PZ,plainId_quiet->P0,assignInOrder->Qf,tupleKind->Qi,seqItems?->Qj,seqIndex?->Qk,noteFrame->Qm,DictEntry->Qu,wpAny_typeOf->Qv,wpAny_call->Qw,getItem->QC,call_meetsIn->QF,Within->QH
open List renaming getElem?_eq_getElem->il,length_map->KE,getD_eq_getElem?_getD->LG,getElem?_eq_some_iff->LH,mem_cons->LI,mem_cons_of_mem->LO,not_mem_nil->LP,mem_singleton->LU,mem_of_getElem?->LX,size_toArray->LY,getElem?_map->L6,mem_append_right->Mb,mem_cons_self->Mc,length_append->Md,replicate->Mg,take_of_length_le->Mj,map_append->Mq,mem_append->My,all_eq_true->Mz,map_map->MB,getElem_mem->MC,map_cons->MD,take_add_one->MH,getElem_of_mem->MI,length_replicate->MQ,mem_append_left->MR,pairwise_cons->MS,nodup_cons->MU,length_cons->MW,replicate_succ->M8,pairwise_map->Nf,getElem?_append_right->Nh,length_take_le'->Ni,length_take->Nj,length_set->Nm,getElem?_eq_none->Nn,map_congr_left->Nq,append_nil->Nw,getElem?_append_left->NB,drop_eq_getElem_cons->NC,mem_map->NK,lookup->NM,contains_iff_mem->NT,length_eq_zero_iff->NU,getElem?_replicate->NV,filter_cons_of_pos->NW,filter_cons_of_neg->NX,getElem?_set_self->N5,filter_cons->Oc,nodup_append->Oi,length_singleton->Oj,pairwise_iff_getElem->Oo,mem_or_eq_of_mem_set->Oq,getElem?_set_ne->Ow,length_nil->Oz,find?_cons->OA,pairwise_singleton->OF,Perm->OG,flatten_cons->OI,drop_eq_nil_of_le->OO,length_filter_le->OQ,zip_cons_cons->OX,mem_filterMap->O0,length_drop->O8,mem_of_mem_take->Pd,getElem?_of_mem->Pe,eq_nil_of_length_eq_zero->Pf,range->Pk,filterMap_cons->Pl,getElem?_inj->Pn,mem_filter->Pz,any_cons->PH,map_replicate->PK,length_eraseIdx_of_lt->PL,mem_range->Qn,cons_append->Qt,toArray->Qx,nil_append->Qz,forIn_cons->QD,foldl_cons->QE,of_mem_zip->QJ,drop_zero->QN
open PySem.Heap renaming get?_push_of_some->p8,get?_push_size->LW,lt_size->L7,get?_update_other->Mo,get?_update_self->M3,size_push->NG,SameBut->Po
open PySem.Str renaming ofString->vv,length_append->OK,empty->Pr
open Nat renaming le_refl->we,lt_of_lt_of_le->L9,lt_of_succ_lt->Mi,lt_irrefl->Ml,le_trans->Mp,ne_of_lt->Mx,zero_le->MM,lt_of_le_of_lt->MY,ne_of_gt->NQ,lt_succ_of_lt->N7,le_succ_of_le->N9,le_of_lt->Pa,lt_succ_self->Pm,le_of_eq->PB,le_succ->PV,min_eq_left->QI,toDigits->QK
open PySem.W renaming Frag->LK,mg_none_of->MV,kia_one->M0,findIn->Na,nsIn->NO,mg_of->NR,keepIn->Ph,methodCall_KW->P9,mroIn->Qg,plainGet->Ql,hasDictIn->Qp,of_hideAll->Qy,instObj->QA,callWith_K->QG
open PySem.Value renaming ref->LL,none->Mm,int->NI,bool->Og,str->Pq
open Bool renaming false_ne_true->LM,and_eq_true->Mu,false_eq_true->Nz,eq_false_iff->N2,eq_iff_iff->N6,or_false->O2,false_and->PP
open Or renaming inl->LQ,inr->OM
open Ne renaming symm->L8
open Option renaming map_eq_some_iff->Mh,some->Ms,bind_some->Pp,map_some->QL
open Array renaming getElem?_setIfInBounds_self_of_lt->MF,getElem?_eq_some_iff->MZ,length_toList->NP,getElem?_setIfInBounds_ne->OP,getElem?_toList->Pi,getElem?_eq_getElem->PR
open PyProof.Rows renaming slot_tuple_getitem->MK,callWith_type1->Nd,seqObj->Nk,boot_isinstance->NH,strKind->NL,subscriptTail_builtinR->N1,AllBare->Oa,envOfC->Od,slot_tuple_getitem->Pw,size_push'->Py,assignInOrder_cons->PF,boot_sorted->PX,IsTup->PY
open PySem.Txt renaming split->MN,slice->M1,rfind->Ox,join->QM
open PySem.Obj renaming isFreed_of_fields->M5,data_mapFields->NS,mapSeq->N8,cls_mapFields->ON,mapFields->Qo
open Int renaming toNat_natCast->Np,eq_ofNat_of_zero_le->Nu,lt_of_le_of_lt->OB,lt_irrefl->Qh
open Classical renaming byContradiction->ND
open PySem.PyData renaming keyHash->Oh
open PySem.F renaming slot_dict_get->OZ,slot_str_split->Px,slot_dict_delitem->PQ,plainAttrs_dict->Qq,attr_ValueError->Qr,args_dict_get_3->Qs
open PySem.W (methodObj hideAll hideAll_get lookIn handedIn plainGet_of isFn plainOver takerIn makesIn emptyDict callWith_K0 fnOf codeIn excIn clsIn kla_obj tabObj kla_fn codeHdIn)
open List (foldl map_nil lookup_cons range' all_append map map_set nodup_nil)
open PySem.Heap (UpToSlots ExtBut)
open Nat (lt_trans not_lt gcd gcd_comm)
open Option (isSome_iff_exists getD_none isSome_map bind_eq_some_iff)
open PySem.Value (float type builtin)
open PyProof.Rows (KeyOrd)
open PySem.F (slot_tuple_add entry_tuple_add args_tuple_add_2 plainAttrs_list entry_str_split args_str_split_2 entry_dict_get)
local macro_rules | `(f!$_)=>`(by decide +kernel)
set_option Elab.async false
set_option linter.all false
set_option maxRecDepth 100000
namespace L2
open PySem PySem.Spec PyProof.Rows
variable{us:List Value}{C L a b:Addr}{o:Obj}{u:Value}{α:Sort _}{P:LV}{w:Mf}{base h:Heap}{A:Mn}{i j t':Nat}{ch fp:List Addr}{x:Str}{e tg:Mw}{N ps:List Str}{M:Model}{E Q:Value->LF->Prop}{c:Bool}{D:Prop}{s:LF}{pos:Pos}{Go:List (Addr×Obj)}{K:LK}{f:Value->Value->Sem Value}{op:CmpOp}{Zz:List Stmt}{pl:Sem Bool}{kw:List (Str×Value)}{mg:Str->Option Value}
structure W(p:Prop):Prop where
 h:p
abbrev Key:=Sum Int Str
def dQ:Key->Value->Bool
 | .inl k,v=>Value.isInt k v
 | .inr x,v=>Value.isStrOf x v
def Dz(w:Mf):Key->Int
 | .inl k=>hashInt k
 | .inr x=>hashStr w x
theorem cY:∀{k:Key}{v:Value},dQ k v=true->(∃i t,k=Sum.inl i/\v=NI i t)\/(∃x t,k=Sum.inr x/\v=Pq x t)
 | .inl i,v,h=>by
  obtain ⟨t,e⟩:=Value.isInt_shape (k:=i) (v:=v) h;exact .inl ⟨i,t,rfl,e⟩
 | .inr x,v,h=>by
  obtain ⟨t,e⟩:=Value.isStrOf_shape (x:=x) (v:=v) h;exact .inr ⟨x,t,rfl,e⟩
theorem KI(i:Int)(t:Tok):dQ (.inl i) (.int i t)=true:=by simp [dQ,Value.isInt]
theorem AR(x:Str)(t:Tok):dQ (.inr x) (.str x t)=true:=by simp [dQ,Value.isStrOf]
theorem Gr(a b:Int):decide ((Sum.inl a:Key)=Sum.inl b)=(a==b):=by
 by_cases e:a=b
 .subst e;simp
 .have h : ¬ (Sum.inl a:Key)=Sum.inl b:=λq=>e (Sum.inl.inj q);rw [decide_eq_false h];exact (beq_eq_false_iff_ne.mpr e).symm
theorem Af(a b:Str):decide ((Sum.inr a:Key)=Sum.inr b)=decide (a=b):=by
 by_cases e:a=b
 .subst e;simp
 .have h : ¬ (Sum.inr a:Key)=Sum.inr b:=λq=>e (Sum.inr.inj q);rw [decide_eq_false h,decide_eq_false e]
theorem Eh(a:Int)(b:Str):decide ((Sum.inl a:Key)=Sum.inr b)=false:=decide_eq_false (λq=>nomatch q)
theorem Ki(a:Str)(b:Int):decide ((Sum.inr a:Key)=Sum.inl b)=false:=decide_eq_false (λq=>nomatch q)
def ak(prog:LV)(w:Mf):PySem.KeyKind prog w Key where
 is:=dQ
 hash:=Dz w
 inj:=λv a b ha hb=>by
  rcases cY ha with ⟨i,t,rfl,rfl⟩|⟨x,t,rfl,rfl⟩
  .rcases cY hb with ⟨j,u,rfl,e⟩|⟨y,u,rfl,e⟩
   .injection e with e1 _;rw [e1]
   .exact nomatch e
  .rcases cY hb with ⟨j,u,rfl,e⟩|⟨y,u,rfl,e⟩
   .exact nomatch e
   .injection e with e1 _;rw [e1]
 byValue:=λk v h=>by
  rcases cY h with ⟨i,t,rfl,rfl⟩|⟨x,t,rfl,rfl⟩<;>rfl
 pyHash:=λhv h=>by
  rcases cY hv with ⟨i,t,rfl,rfl⟩|⟨x,t,rfl,rfl⟩
  .exact wpAny_pyHash_int h
  .exact wpAny_pyHash_str h
 eqBool:=λhu hv h=>by
  rcases cY hu with ⟨i,t,rfl,rfl⟩|⟨x,t,rfl,rfl⟩
  .rcases cY hv with ⟨j,u,rfl,rfl⟩|⟨y,u,rfl,rfl⟩
   .rw [Gr] at h;exact wpAny_eqBool_int h
   .rw [Eh] at h;exact SeqAt.EqAt.int_str i t y u _ _ _ _ h
  .rcases cY hv with ⟨j,u,rfl,rfl⟩|⟨y,u,rfl,rfl⟩
   .rw [Ki] at h;exact SeqAt.EqAt.str_int x t j u _ _ _ _ h
   .rw [Af] at h;exact wpAny_eqBool_str h
 «strs»:=λk x t v h=>by
  rcases cY h with ⟨i,u,rfl,e⟩|⟨y,u,rfl,e⟩
  .exact nomatch e
  .injection e with e1 _
   subst e1;cases v<;>rfl
theorem AC(prog:LV)(w:Mf)(i:Int)(t:Tok):(ak prog w).is (.inl i) (.int i t)=true:=KI i t
theorem j8(prog:LV)(w:Mf)(x:Str)(t:Tok):(ak prog w).is (.inr x) (.str x t)=true:=AR x t
inductive V where
 | non|bl (b:Bool)|int (i:Int)|str (x:Str)|byt (b:Array UInt8)|flt (b:UInt64)|ref (a:Addr)|ty (n:String)
 deriving DecidableEq
variable{vs xs:List V}{v y:V}
def zp:V->Value->Prop
 | .non,u=>u=Mm
 | .bl b,u=>u=Og b
 | .int i,u=>∃t,u=NI i t
 | .str x,u=>∃t,u=Pq x t
 | .byt b,u=>∃t,u=Value.bytes b t
 | .flt b,u=>∃t,u=float b t
 | .ref a,u=>u=LL a
 | .ty n,u=>u=type n
abbrev zq:List V->List Value->Prop:=Paired zp
theorem zq.length(r:zq xs us):xs.length=us.length:=Paired.length r
theorem zq.get:∀{xs:List V}{us:List Value}{i:Nat}{x:V},zq xs us->xs[i]?=some x->∃u,us[i]?=some u/\zp x u
 | _,_,_,_,.nil,e=>by simp at e
 | _,_,0,_,.cons r _,e=>by simp at e;subst e;exact ⟨_,rfl,r⟩
 | _,_,i+1,x,.cons _ t,e=>by
  obtain ⟨u,h1,h2⟩:=zq.get (i:=i) (x:=x) t (by simpa using e);exact ⟨u,by simpa using h1,h2⟩
theorem zq.set{x:V}{u:Value}(r:zp x u):∀{xs:List V}{us:List Value}(i:Nat),zq xs us->zq (xs.set i x) (us.set i u)
 | _,_,_,.nil=>.nil
 | _,_,0,.cons _ t=>.cons r t
 | _,_,i+1,.cons q t=>.cons q (zq.set r i t)
theorem zq.append{ys:List V}{ws:List Value}(h:zq xs us)(k:zq ys ws):zq (xs++ys) (us++ws):=by
 induction h with
 | nil=>exact k
 | cons r t ih=>exact .cons r ih
theorem zq.take:∀{xs:List V}{us:List Value}(n:Nat),zq xs us->zq (xs.take n) (us.take n)
 | _,_,0,_=>.nil
 | _,_,_+1,.nil=>.nil
 | _,_,n+1,.cons r t=>.cons r (zq.take n t)
theorem zq.drop:∀{xs:List V}{us:List Value}(n:Nat),zq xs us->zq (xs.drop n) (us.drop n)
 | _,_,0,r=>r
 | _,_,_+1,.nil=>.nil
 | _,_,n+1,.cons _ t=>zq.drop n t
def bh:Option V->Option Value->Prop
 | some v,some u=>zp v u
 | none,none=>True
 | _,_=>False
def KV{κ:Type}:List (κ×V)->List (κ×Value)->Prop:=Paired λ(p:κ×V)(q:κ×Value)=>p.1=q.1/\zp p.2 q.2
def kV:Key->V
 | .inl i=>.int i
 | .inr x=>.str x
inductive HO where
 | lst (xs:List V)
 | tup (xs:List V)
 | dK (kvs:List (Key×V))|dT (kvs:List (List Key×V))
 | set (S:Int->Bool) (n:Nat)
 | ins (C dx:Addr) (fs:List (Str×V))
 | own (x:Addr)
 | xd (fs:List (Str×V))
 | met (f x:Addr)
 | rng (lo hi:Int)
 | frz (o:Obj) (u:HO)
 | tbl (ps:Array Value)
 | ext (φ:Heap->Prop)
abbrev Hp:=Addr->Option HO
variable{H:Hp}
def upd(H:Hp)(a:Addr)(o:HO):Hp:=λb=>if b=a then some o else H b
theorem zy{o:HO}:upd H a o a=some o:=by unfold upd;rw [if_pos rfl]
theorem ze{o:HO}(h:b≠a):upd H a o b=H b:=by unfold upd;rw [if_neg h]
theorem dW{o u:HO}:upd (upd H a o) a u=upd H a u:=by
 funext b;unfold upd;split<;>rfl
theorem DN{o u:HO}(h:H a=some o)(h':H b=some u)(d:o≠u):a≠b:=by
 intro e;subst e;rw [h] at h';exact d (Ms.inj h')
theorem zC{o:HO}(h:H a=some o)(h':H b=none):a≠b:=by
 intro e;subst e;rw [h] at h';cases h'
section
variable (P:LV) (w:Mf)
def af(H:Hp)(h:Heap)(a:Addr):HO->Prop
 | .lst xs=>xs.length<=sizeLine/\∃(its:List Value)(n:Nat),zq xs its/\h.get? a=some { cls:=.type "list",data:=.seq its.toArray n }
 | .tup xs=>xs.length<=sizeLine/\∃its:List Value,zq xs its/\PY h a its.toArray
 | .dK kvs=>kvs.length<=sizeLine/\(a==sysModules)=false/\∃vs,KV kvs vs/\h.DictOf (ak P w) a vs
 | .dT kvs=>kvs.length<=sizeLine/\(a==sysModules)=false/\∃xs:List (List Key×Addr×Value),
   Paired (λ(p:List Key×V)(q:List Key×Addr×Value)=>p.1=q.1/\H q.2.1=some (.tup (p.1.map kV))/\zp p.2 q.2.2) kvs xs /\
   ∃o es ep,h.get? a=some o/\o.ExactDict/\o.data = .dict es ep/\es.toList=xs.map (entryOfKey (Qi (ak P w)))/\(xs.map (·.1)).Nodup
 | .set S n=>h.SetOf (intKind P w) a S n
 | .ins C dx fs=>H dx=some (.own a)/\fs.length<=1000/\dx≠a/\h.get? a=some (QA C dx) /\
   ∃mA,h.Ns1 dx mA/\(∀f,bh (fs.lookup f) (mA f))/\QH mA (fs.map (·.1))
 | .own _=>∃o,h.get? a=some o
 | .xd fs=>∃mA,h.Ns1 a mA/\∀f,bh (fs.lookup f) (mA f)
 | .rng lo hi=>∃t u v,h.get? a=some { cls:=.type "range",data:=.fields #[.int lo t,.int hi u,.int 1 v] }
 | .frz o u=>h.get? a=some o/\af H h a u
 | .tbl ps=>h.get? a=some { cls:=.none,data:=.fields ps }
 | .met f x=>h.get? a=some (methodObj (.ref f) (.ref x))
 | .ext φ=>φ h/\(∃o,h.get? a=some o)/\∀h1 h2:Heap,φ h1->(∀o,h1.get? a=some o->h2.get? a=some o)->φ h2
def HOk(H:Hp)(h:Heap):Prop:=∀a o,H a=some o->af P w H h a o
end
section
variable {P:LV}{w:Mf}{H H':Hp}{h h':Heap}{a:Addr}{o:HO}
theorem af.lt(x:af P w H h a o):a<h.objs.size:=by
 cases o with
 | lst xs=>obtain ⟨_,_,_,_,e⟩:=x;exact L7 e
 | tup xs=>obtain ⟨_,_,_,p⟩:=x;exact p.lt
 | dK kvs=>obtain ⟨_,_,_,_,o,_,_,e,_⟩:=x;exact L7 e
 | dT kvs=>obtain ⟨_,_,_,_,o,_,_,e,_⟩:=x;exact L7 e
 | set S n=>obtain ⟨o,_,_,_,e,_⟩:=x;exact L7 e
 | ins C dx fs=>obtain ⟨_,_,_,e,_⟩:=x;exact L7 e
 | own y=>obtain ⟨_,e⟩:=x;exact L7 e
 | xd fs=>obtain ⟨_,⟨_,_,_,e,_⟩,_⟩:=x;exact L7 e
 | rng lo hi=>obtain ⟨_,_,_,e⟩:=x;exact L7 e
 | frz ob u=>obtain ⟨e,_⟩:=x;exact L7 e
 | tbl ps=>exact L7 (show h.get? a=some _ from x)
 | met f y=>exact L7 (show h.get? a=some _ from x)
 | ext φ=>obtain ⟨_,⟨_,e⟩,_⟩:=x;exact L7 e
theorem Paired.mapP{α β:Type}{F G:α->β->Prop}{l₁:List α}{l₂:List β}(h:Paired F l₁ l₂)(f:∀a b,F a b->G a b):Paired G l₁ l₂:=by
 induction h with
 | nil=>exact .nil
 | cons r t ih=>exact .cons (f _ _ r) ih
theorem af.stay(x:af P w H h a o)(k:∀b u,(b=a\/H b=some (.own a))->h.get? b=some u->h'.get? b=some u)
  (ho:∀b,H b=some (.own a)->H' b=some (.own a)) (ht:∀b xs,H b=some (.tup xs)->H' b=some (.tup xs)):af P w H' h' a o:=by
 induction o with
 | lst xs=>obtain ⟨z,its,n,r,e⟩:=x;exact ⟨z,its,n,r,k _ _ (.inl rfl) e⟩
 | tup xs=>obtain ⟨z,its,r,ob,e,c⟩:=x;exact ⟨z,its,r,ob,k _ _ (.inl rfl) e,c⟩
 | dK kvs=>obtain ⟨z,y,vs,r,ob,es,ep,e,c⟩:=x;exact ⟨z,y,vs,r,ob,es,ep,k _ _ (.inl rfl) e,c⟩
 | dT kvs =>
  obtain ⟨z,y,xs,r,ob,es,ep,e,c⟩:=x;exact ⟨z,y,xs,Paired.mapP r λp q z=>⟨z.1,ht _ _ z.2.1,z.2.2⟩,ob,es,ep,k _ _ (.inl rfl) e,c⟩
 | set S n=>obtain ⟨ob,es,ep,t,e,c⟩:=x;exact ⟨ob,es,ep,t,k _ _ (.inl rfl) e,c⟩
 | ins C dx fs =>
  obtain ⟨d,z,ne,e,mA,⟨od,es,ep,e2,c⟩,r⟩:=x;exact ⟨ho _ d,z,ne,k _ _ (.inl rfl) e,mA,⟨od,es,ep,k _ _ (.inr d) e2,c⟩,r⟩
 | own y=>obtain ⟨ob,e⟩:=x;exact ⟨ob,k _ _ (.inl rfl) e⟩
 | xd fs=>obtain ⟨mA,⟨od,es,ep,e,c⟩,r⟩:=x;exact ⟨mA,⟨od,es,ep,k _ _ (.inl rfl) e,c⟩,r⟩
 | rng lo hi=>obtain ⟨t,u,v,e⟩:=x;exact ⟨t,u,v,k _ _ (.inl rfl) e⟩
 | frz ob u ih=>obtain ⟨e,q⟩:=x;exact ⟨k _ _ (.inl rfl) e,ih q⟩
 | tbl ps =>
  have e:h.get? a=some { cls:=.none,data:=.fields ps }:=x;show h'.get? a=some { cls:=.none,data:=.fields ps };exact k a _ (.inl rfl) e
 | met f y =>
  have e:h.get? a=some (methodObj (.ref f) (.ref y)):=x;show h'.get? a=some (methodObj (.ref f) (.ref y));exact k a _ (.inl rfl) e
 | ext φ=>obtain ⟨p,⟨o,e⟩,st⟩:=x;exact ⟨st _ _ p λo q=>k _ _ (.inl rfl) q,⟨o,k _ _ (.inl rfl) e⟩,st⟩
theorem HOk.lt(x:HOk P w H h)(e:H a=some o):a<h.objs.size:=(x a o e).lt
theorem HOk.fresh(x:HOk P w H h)(e:h.objs.size<=a):H a=none:=by
 cases q:H a with
 | none=>rfl
 | some u=>exact absurd (L9 (x.lt q) e) (Ml _)
theorem HOk.kept(x:HOk P w H h)(k:∀b u,h.get? b=some u->h'.get? b=some u):HOk P w H h':=λa o e =>
 (x a o e).stay (λb u _ q=>k b u q) (λ_ q=>q) λ_ _ q=>q
theorem HOk.laid(x:HOk P w H h)(k:∀b u,h.get? b=some u->h'.get? b=some u)(hp:h.objs.size<=a)(new:af P w (upd H a o) h' a o):HOk P w (upd H a o) h':=λb u e=>by
 have hn:=x.fresh hp;by_cases hb:b=a
 .subst hb;rw [zy] at e;cases e;exact new
 .rw [ze hb] at e;exact (x b u e).stay (λc v _ q=>k c v q) (λc q=>by rw [ze (zC q hn)];exact q) λc xs q=>by rw [ze (zC q hn)];exact q
end
def Rd(H:Hp)(a:Addr)(u:HO):Prop:=H a=some u\/∃o,H a=some (.frz o u)
theorem Rd.ok{u:HO}(r:Rd H a u)(x:HOk P w H h):af P w H h a u:=by
 rcases r with r|⟨o,r⟩
 .exact x a u r
 .obtain ⟨_,q⟩:=x a _ r;exact q
def Mut:Option HO->Prop
 | some (.lst _)=>True
 | some (.dK _)=>True
 | some (.dT _)=>True
 | some (.set _ _)=>True
 | some (.ins _ _ _)=>True
 | some (.ext _)=>True
 | _=>False
section
variable {P:LV}{w:Mf}{H:Hp}{h h':Heap}{x e:Addr}{o':HO}
theorem HOk.write(ok:HOk P w H h)(mu:Mut (H x))(he:e=x\/H e=some (.own x))(k:∀b u,b≠e->h.get? b=some u->h'.get? b=some u)(heo:∃u,h'.get? e=some u)
  (new:af P w (upd H x o') h' x o'):HOk P w (upd H x o') h':=λb u q=>by
 have nown:∀c y,H c=some (.own y)->c≠x:=λc y r z=>by subst z;rw [r] at mu;exact mu
 have ntup:∀c xs,H c=some (.tup xs)->c≠x:=λc xs r z=>by subst z;rw [r] at mu;exact mu
 by_cases hb:b=x
 .subst hb;rw [zy] at q;cases q;exact new
 .rw [ze hb] at q;by_cases hbe:b=e
  .have q':H b=some (.own x):=by
    rcases he with z|z
    .exact absurd (hbe.trans z) hb
    .rw [hbe];exact z
   rw [q] at q';cases q';obtain ⟨v,hv⟩:=heo;exact ⟨v,by rw [hbe];exact hv⟩
  .refine (ok b u q).stay (λc v hc r=>k c v ?_ r) (λc r=>by rw [ze (nown c b r)];exact r) λc xs r=>by rw [ze (ntup c xs r)];exact r
   rcases hc with rfl|hc
   .exact hbe
   .rintro rfl;rcases he with z|z
    .exact nown c b hc z
    .rw [hc] at z;cases z;exact hb rfl
end
structure Un(fs ex:List Addr)(H H':Hp)(h h':Heap):Prop where
 keep:∀b o,h.get? b=some o->H b=none->b∉fs->b∉ex->h'.get? b=some o
 slot:∀b o,h.get? b=some o->H b=none->b∈fs->b∉ex->∃sl,h'.get? b=some { o with slots:=sl }
 free:∀b o,h.get? b=some o->H b=none->b∉ex->H' b=none
 there:∀b o,h.get? b=some o->b∉ex->∃o',h'.get? b=some o'
 tups:∀b xs,H b=some (.tup xs)->H' b=some (.tup xs)
 frzs:∀b o u,H b=some (.frz o u)->H' b=some (.frz o u)
 tbls:∀b ps,H b=some (.tbl ps)->∃more,H' b=some (.tbl (ps++more))
section
variable {fs fs' ex ex':List Addr}{H H1 H2:Hp}{h h1 h2 h':Heap}{a x e:Addr}{o:HO}
theorem Un.any(u:Un fs ex H H1 h h1){ob:Obj}(q:h.get? b=some ob)(n:H b=none)(hx:b∉ex):∃sl,h1.get? b=some { ob with slots:=sl }:=by
 by_cases hb:b∈fs
 .exact u.slot b ob q n hb hx
 .exact ⟨ob.slots,u.keep b ob q n hb hx⟩
theorem Un.kept(k:∀b u,h.get? b=some u->h'.get? b=some u):Un fs ex H H h h' :=
 ⟨λb ob q _ _ _=>k b ob q,λb ob q _ _ _=>⟨ob.slots,k b ob q⟩,λ_ _ _ n _=>n,λb ob q _=>⟨ob,k b ob q⟩,λ_ _ q=>q,λ_ _ _ q=>q,λ_ ps q=>⟨#[],by rw [q];simp⟩⟩
theorem Un.refl:Un fs ex H H h h:=Un.kept λ_ _ q=>q
theorem Un.laid(k:∀b u,h.get? b=some u->h'.get? b=some u)(hp:h.objs.size<=a)(hn:H a=none):Un fs ex H (upd H a o) h h' where
 keep:=λb u q _ _ _=>k b u q
 slot:=λb u q _ _ _=>⟨u.slots,k b u q⟩
 free:=λb u q n _=>by rw [ze (Mx (L9 (L7 q) hp))];exact n
 there:=λb u q _=>⟨u,k b u q⟩
 tups:=λb xs q=>by rw [ze (zC q hn)];exact q
 frzs:=λb u xs q=>by rw [ze (zC q hn)];exact q
 tbls:=λb ps q=>⟨#[],by rw [ze (zC q hn),q];simp⟩
theorem Un.write(mu:Mut (H x))(he:e=x\/H e=some (.own x))(k:∀b u,b≠e->h.get? b=some u->h'.get? b=some u)(heo:∃u,h'.get? e=some u):Un fs ex H (upd H x o) h h':=by
 have hx:∀b,H b=none->b≠x:=λb n z=>by subst z;rw [n] at mu;exact mu
 have hb:∀b,H b=none->b≠e:=λb n z=>by
  subst z;rcases he with r|r
  .exact hx b n r
  .rw [n] at r;cases r
 have hm:∀b u,H b=some u->¬ Mut (some u)->b≠x:=λb u q nm z=>by subst z;rw [q] at mu;exact nm mu
 refine ⟨λb u q n _ _=>k b u (hb b n) q,λb u q n _ _=>⟨u.slots,k b u (hb b n) q⟩,λb u q n _=>by rw [ze (hx b n)];exact n,λb u q _=>?_,
  λb xs q=>by rw [ze (hm b _ q λz=>z)];exact q,λb u xs q=>by rw [ze (hm b _ q λz=>z)];exact q,λb ps q=>⟨#[],by rw [ze (hm b _ q λz=>z),q];simp⟩⟩
 by_cases hbe:b=e
 .subst hbe;exact heo
 .exact ⟨u,k b u hbe q⟩
end
def trk(h:Heap)(H:Hp):List Addr:=(Pk h.objs.size).filter λa=>(H a).isSome
def dD(h:Heap)(H:Hp):Heap:=hideAll h (trk h H)
theorem CQ(h:Heap)(H:Hp):(dD h H).objs.size=h.objs.size:=PySem.W.hideAll_size _ _
theorem JP(e:h.get? b=some o)(n:H b=none):(dD h H).get? b=some o :=
 hideAll_get _ e λhm=>by
  have q:(H b).isSome=true:=(Pz.mp hm).2;rw [n] at q;simp at q
theorem Ln(e:(dD h H).get? b=some o):h.get? b=some o/\H b=none:=by
 have e':h.get? b=some o:=Qy (trk h H) e;refine ⟨e',?_⟩;cases q:H b with
 | none=>rfl
 | some x =>
  have hm:b∈trk h H:=Pz.mpr ⟨Qn.mpr (L7 e'),by simp [q]⟩;have z:(dD h H).get? b=none:=PySem.W.hideAll_none (trk h H) hm;rw [z] at e;cases e
def gi(g h:Heap)(L:Addr):List (Addr×Obj):=(Pk h.objs.size).filterMap λa=>if a=L\/(g.get? a).isSome=true then none else (h.get? a).map λo=>(a,o)
theorem Gs{g:Heap}(h1:a≠L)(h2:g.get? a=none)(h3:h.get? a=some o):(a,o)∈gi g h L :=
 O0.mpr ⟨a,Qn.mpr (L7 h3),by simp [h1,h2,h3]⟩
theorem Kb{g:Heap}{p:Addr×Obj}(hp:p∈gi g h L):p.1≠L/\g.get? p.1=none/\h.get? p.1=some p.2:=by
 obtain ⟨b,_,e⟩:=O0.mp hp;split at e
 .cases e
 .rename_i hn;cases q:h.get? b with
  | none=>rw [q] at e;simp at e
  | some u =>
   rw [q] at e;simp only [QL,Ms.injEq] at e;subst e;refine ⟨λz=>hn (.inl z),?_,q⟩;show g.get? b=none;cases r:g.get? b with
   | none=>rfl
   | some v=>exact (hn (.inr (by simp [r]))).elim
theorem JF{g:Heap}:News g L h (gi g h L):=λp hp=>let ⟨a,b,c⟩:=Kb hp;⟨c,a,b⟩
structure Mod(K:LK)(mg:Str->Option Value)(base:Heap):Prop where
 kin:K.In base
 glob:base.Ns LN mg
 blt:∃mb,base.Ns OW mb/\∀x:Str,x≠"__name__"->mb x=N4 x
 nolimit:base.NoLimit
def ip(A:Mn)(H:Hp):Prop:=A.handled=none\/∃(a:Addr)(o:Obj)(vs:Array Value),A.handled=some (.ref a)/\H a=some (.frz o (.own 0))/\o.data = .fields vs/\vs[2]?=some .none/\∃C,o.cls = .ref C
theorem ip.same{H':Hp}(x:ip A H)(k:∀b o u,H b=some (.frz o u)->H' b=some (.frz o u)):ip A H':=by
 rcases x with x|⟨a,o,vs,h1,h2,h3⟩
 .exact .inl x
 .exact .inr ⟨a,o,vs,h1,k _ _ _ h2,h3⟩
structure Cx where
 prog:LV
 w:Mf
 K:LK
 mg:Str->Option Value
 base:Heap
 A:Mn
 N:List Str
 s₀:LF
 H₀:Hp
 env:Env
 outer:List Env
 stack:List Env
 ex:List Addr
 fn:Str->Bool
 calm:Bool
 pn:List (Addr×Obj)
 xe:Value->LF->Prop
variable{X:Cx}
def frs(l:List Env):List Addr:=l.filterMap (·.frame)
abbrev Cx.fs(X:Cx):List Addr:=frs X.outer
def Vis(sc:Scope)(x:Str):Prop:=sc.names.lookup x=some .local\/sc.names.lookup x=some .cell\/sc.names.lookup x=some .free
def Loc(sc:Scope)(x:Str):Prop:=sc.names.lookup x=some .local\/sc.names.lookup x=some .cell
def Ie(env:Env)(h:Heap)(m:Str->Option Value)(x:Str)(u:Value):Prop :=
 (env.kindOf x=some .local/\m x=some u)\/((env.kindOf x=some .cell\/env.kindOf x=some .free)/\∃c,env.cells.lookup x=some c/\h.IsCell c (some u))
structure Cx.Ok(X:Cx):Prop where
 mod:Mod X.K X.mg X.base
 kind:X.env.scope.kind = .function
 glob:X.env.globals=LN
 blt:X.env.builtins=OW
 above:X.s₀.heap.objs.size<=X.env.locals
 inj:∀x y c,X.env.cells.lookup x=some c->X.env.cells.lookup y=some c->x=y
 has:∀x,(X.env.kindOf x=some .cell\/X.env.kindOf x=some .free)->∃c,X.env.cells.lookup x=some c
 cab:∀x c,X.fn x=true->X.env.cells.lookup x=some c->X.s₀.heap.objs.size<=c
 hd:X.calm=true->X.A.handled=none
 frames:X.A.frames=some X.stack
 stk:X.stack=X.outer\/(X.stack=X.env::X.outer/\X.env.frame=some X.env.locals)
 exf:∀b∈X.ex,b≠X.env.locals/\∀x c,X.env.cells.lookup x=some c->c≠b
 bs:∀b o,X.base.get? b=some o->X.s₀.heap.get? b=some o/\X.H₀ b=none
 bsz:X.base.objs.size<=X.s₀.heap.objs.size
 noex:∀b o,X.base.get? b=some o->b∉X.ex
 exfs:∀b∈X.ex,b∉X.fs
 funs:X.s₀.heap.FunFrames X.base X.outer
 frf:∀b∈X.fs,X.H₀ b=none
structure Inv(X:Cx)(Go:List (Addr×Obj))(σ:List (Option V))(H:Hp)(s:LF):Prop where
 ok:X.Ok
 os:s.os=X.s₀.os
 bare:Oa s.gens
 base:Un X.fs X.ex X.H₀ H X.s₀.heap s.heap
 loc:∃m,s.heap.Ns X.env.locals m/\∀(i:Nat)(x:Str)(v:V),X.N[i]?=some x->σ[i]?=some (some v)->Vis X.env.scope x->∃u,zp v u/\Ie X.env s.heap m x u
 cell:∀x c,X.env.cells.lookup x=some c->∃v,s.heap.IsCell c v
 free:H X.env.locals=none
 freeC:∀x c,X.env.cells.lookup x=some c->H c=none
 pin:∀p∈X.pn++Go,s.heap.get? p.1=some p.2/\H p.1=none/\p.1≠X.env.locals/\p.1∉X.fs/\∀v,p.2.data≠.cell v
 hok:HOk X.prog X.w H s.heap
 len:σ.length=X.N.length
 hdk:ip X.A H
section
variable {X:Cx}{Go:List (Addr×Obj)}{σ:List (Option V)}{H H':Hp}{s:LF}{h':Heap}
theorem Cx.Ok.nofr(ok:X.Ok)(e:X.base.get? b=some o):b∉X.fs:=λhb=>by
 have:=(ok.funs.mem hb).1;rw [e] at this;cases this
theorem Inv.bs(I:Inv X Go σ H s):∀b o,X.base.get? b=some o->s.heap.get? b=some o/\H b=none:=λb o e =>
 ⟨I.base.keep b o (I.ok.bs b o e).1 (I.ok.bs b o e).2 (I.ok.nofr e) (I.ok.noex b o e),I.base.free b o (I.ok.bs b o e).1 (I.ok.bs b o e).2 (I.ok.noex b o e)⟩
theorem Inv.bk(I:Inv X Go σ H s):∀b o,X.base.get? b=some o->s.heap.get? b=some o:=λb o e=>(I.bs b o e).1
theorem Inv.mod(I:Inv X Go σ H s):Mod X.K X.mg X.base:=I.ok.mod
theorem Inv.kIn(I:Inv X Go σ H s):X.K.In s.heap:=I.ok.mod.kin.keeps I.bk
theorem Inv.fr(I:Inv X Go σ H s):∃m,Fr X.base X.env.locals s.heap m :=
 let ⟨m,hn,_⟩:=I.loc
 ⟨m,hn,I.bk,Mp I.ok.bsz I.ok.above⟩
theorem Inv.lt(I:Inv X Go σ H s):X.env.locals<s.heap.objs.size:=let ⟨_,hn,_⟩:=I.loc;hn.lt
theorem Inv.sz(I:Inv X Go σ H s):X.s₀.heap.objs.size<=s.heap.objs.size:=Mp I.ok.above (Pa I.lt)
theorem Inv.nofs(I:Inv X Go σ H s)(h:s.heap.objs.size<=a):a∉X.fs:=λhb=>by
 obtain ⟨_,o,ho,_⟩:=I.ok.funs.mem hb;exact absurd (L9 (L7 ho) (Mp I.sz h)) (Ml _)
theorem Inv.cne(I:Inv X Go σ H s):∀x c,X.env.cells.lookup x=some c->c≠X.env.locals:=λx c e z=>by
 obtain ⟨v,o,ho,hd⟩:=I.cell x c e;obtain ⟨m,⟨o',es,ep,Yu,hd',_⟩,_⟩:=I.loc;rw [z,Yu] at ho;cases ho;rw [hd'] at hd;cases hd
theorem Inv.funs(I:Inv X Go σ H s):s.heap.FunFrames X.base X.outer:=by
 have all:∀(l:List Env),(∀b∈frs l,b∈X.fs)->X.s₀.heap.FunFrames X.base l->s.heap.FunFrames X.base l:=by
  intro l
  induction l with
  | nil=>intro _ _;trivial
  | cons env r ih =>
   intro hs hl;obtain ⟨hk,⟨L,o,hf,hn,ho,hd⟩,hr⟩:=hl;have hL:L∈X.fs:=hs L (by unfold frs;rw [Pl,hf];exact Mc);obtain ⟨sl,e⟩:=I.base.slot L o ho (I.ok.frf L hL) hL λz=>I.ok.exfs L z hL;exact ⟨hk,⟨L,_,hf,hn,e,hd⟩,ih (λb hb=>hs b (by unfold frs;rw [Pl,hf];exact LO _ hb)) hr⟩
 exact all X.outer (λ_ hb=>hb) I.ok.funs
theorem Inv.stack(I:Inv X Go σ H s):s.heap.FunFrames X.base X.stack:=by
 rcases I.ok.stk with e|⟨e,hf⟩
 .rw [e];exact I.funs
 .rw [e];obtain ⟨m,hn,_⟩:=I.loc;refine .cons (by rw [I.ok.kind];decide) hf hn ?_ I.funs;exact Heap.get?_none_of_le (Mp I.ok.bsz I.ok.above)
theorem Inv.stkSub(I:Inv X Go σ H s):∀b∈frs X.stack,b∈X.env.locals::X.fs:=λb hb=>by
 rcases I.ok.stk with e|⟨e,hf⟩
 .rw [e] at hb;exact LO _ hb
 .rw [e] at hb;unfold frs at hb;rw [Pl,hf] at hb;exact hb
theorem Inv.stkFree(I:Inv X Go σ H s):∀b∈frs X.stack,H b=none:=λb hb=>by
 rcases LI.mp (I.stkSub b hb) with e|hb
 .rw [e];exact I.free
 .obtain ⟨_,o,ho,_⟩:=I.ok.funs.mem hb;exact I.base.free b o ho (I.ok.frf b hb) λz=>I.ok.exfs b z hb
theorem Inv.step{g':Array GenState}{d':Drawn}(I:Inv X Go σ H s)
  (Xr:∀b∈ch,(b∈X.ex\/X.s₀.heap.objs.size<=b)/\b≠X.env.locals/\(∀x c,X.env.cells.lookup x=some c->c≠b)/\∀p∈X.pn++Go,p.1≠b)
  (keep:∀b o,b≠X.env.locals->b∉X.fs->b∉ch->s.heap.get? b=some o->H b=none->h'.get? b=some o)
  (slot:∀b o,b≠X.env.locals->b∈X.fs->b∉ch->s.heap.get? b=some o->H b=none->∃sl,h'.get? b=some { o with slots:=sl }) (free:∀b o,b∉ch->s.heap.get? b=some o->H b=none->H' b=none)
  (there:∀b o,b∉ch->s.heap.get? b=some o->∃o',h'.get? b=some o')
  (tups:∀b xs,H b=some (.tup xs)->H' b=some (.tup xs)) (frzs:∀b o u,H b=some (.frz o u)->H' b=some (.frz o u)) (tbls:∀b ps,H b=some (.tbl ps)->∃more,H' b=some (.tbl (ps++more)))
  (ns:∀m,s.heap.Ns X.env.locals m->h'.Ns X.env.locals m) (hok:HOk X.prog X.w H' h') (hg:Oa g') :
  Inv X Go σ H' { s with heap:=h',gens:=g',drawn:=d',toks:=t' }:=by
 have neL:∀b o,X.s₀.heap.get? b=some o->b≠X.env.locals:=λb o e=>Mx (L9 (L7 e) I.ok.above);have neC:∀b o,X.s₀.heap.get? b=some o->b∉X.ex->b∉ch:=λb o e hx hb=>by
  rcases (Xr b hb).1 with z|z
  .exact hx z
  .exact absurd (L9 (L7 e) z) (Ml _)
 have cellK:∀x c,X.env.cells.lookup x=some c->∀v,s.heap.IsCell c v->h'.IsCell c v:=λx c e v ⟨o,ho,hd⟩=>by
  have nch:c∉ch:=λz=>(Xr c z).2.2.1 x c e rfl;by_cases hc:c∈X.fs
  .obtain ⟨sl,q⟩:=slot c o (I.cne x c e) hc nch ho (I.freeC x c e);exact ⟨_,q,hd⟩
  .exact ⟨o,keep c o (I.cne x c e) hc nch ho (I.freeC x c e),hd⟩
 refine ⟨I.ok,I.os,hg,⟨λb o e n hb hx=>?_,λb o e n hb hx=>?_,λb o e n hx=>?_,λb o e hx=>?_,λb xs e=>tups b xs (I.base.tups b xs e),λb o xs e=>frzs b o xs (I.base.frzs b o xs e),λb ps e=>?_⟩,?_,λx c e=>?_,?_,λx c e=>?_,λp hp=>?_,hok,I.len,I.hdk.same frzs⟩
 .exact keep b o (neL b o e) hb (neC b o e hx) (I.base.keep b o e n hb hx) (I.base.free b o e n hx)
 .obtain ⟨sl,e1⟩:=I.base.slot b o e n hb hx;obtain ⟨XX,e2⟩:=slot b _ (neL b o e) hb (neC b o e hx) e1 (I.base.free b o e n hx);exact ⟨XX,e2⟩
 .obtain ⟨o',e1⟩:=I.base.there b o e hx;exact free b o' (neC b o e hx) e1 (I.base.free b o e n hx)
 .obtain ⟨o',e1⟩:=I.base.there b o e hx;exact there b o' (neC b o e hx) e1
 .obtain ⟨m1,e1⟩:=I.base.tbls b ps e;obtain ⟨m2,e2⟩:=tbls b _ e1;exact ⟨m1++m2,by rw [e2,Array.append_assoc]⟩
 .obtain ⟨m,hn,hl⟩:=I.loc;refine ⟨m,ns m hn,λi x v e1 e2 e3=>?_⟩;obtain ⟨u,r,l⟩:=hl i x v e1 e2 e3;refine ⟨u,r,?_⟩;rcases l with l|⟨k,c,e,z⟩
  .exact .inl l
  .exact .inr ⟨k,c,e,cellK x c e _ z⟩
 .obtain ⟨v,z⟩:=I.cell x c e;exact ⟨v,cellK x c e v z⟩
 .obtain ⟨m,⟨o,_,_,ho,_⟩,_⟩:=I.loc;exact free _ o (λz=>(Xr _ z).2.1 rfl) ho I.free
 .obtain ⟨v,o,ho,hd⟩:=I.cell x c e;exact free c o (λz=>(Xr c z).2.2.1 x c e rfl) ho (I.freeC x c e)
 .obtain ⟨e,n,ne,nf,d⟩:=I.pin p hp;have nch:p.1∉ch:=λz=>(Xr p.1 z).2.2.2 p hp rfl;exact ⟨keep p.1 p.2 ne nf nch e n,free p.1 p.2 nch e n,ne,nf,d⟩
theorem Inv.un(I:Inv X Go σ H s)(u:Un X.fs [] H H' s.heap h')(hok:HOk X.prog X.w H' h'):Inv X Go σ H' { s with heap:=h',toks:=t' }:=by
 obtain ⟨m,⟨o,es,ep,ho,r⟩,_⟩:=id I.loc;obtain ⟨sl,hL⟩:=u.any ho I.free (by simp);exact I.step (g':=s.gens) (d':=s.drawn) (ch:=[]) (λ_ z=>nomatch z) (λb o _ hb _ e n=>u.keep b o e n hb (by simp)) (λb o _ hb _ e n=>u.slot b o e n hb (by simp)) (λb o _ e n=>u.free b o e n (by simp)) (λb o _ e=>u.there b o e (by simp)) u.tups u.frzs u.tbls (λm' hm=>by
  obtain ⟨o',es',ep',Yu,r'⟩:=hm;rw [ho] at Yu;cases Yu;exact ⟨_,es',ep',hL,r'⟩) hok I.bare
theorem Inv.call{g':Array GenState}{d':Drawn}(I:Inv X Go σ H s)(u:Un (frs X.stack) ch H H' s.heap h')(hok:HOk X.prog X.w H' h')(hg:Oa g')
  (Xr:∀b∈ch,(b∈X.ex\/X.s₀.heap.objs.size<=b)/\b≠X.env.locals/\(∀x c,X.env.cells.lookup x=some c->c≠b)/\∀p∈X.pn++Go,p.1≠b) :
  Inv X Go σ H' { s with heap:=h',gens:=g',drawn:=d',toks:=t' }:=by
 obtain ⟨m,⟨o,es,ep,ho,r⟩,_⟩:=id I.loc;obtain ⟨sl,hL⟩:=u.any ho I.free λz=>(Xr _ z).2.1 rfl;exact I.step (ch:=ch) Xr (λb o hL hb hc e n=>u.keep b o e n (λz=>(LI.mp (I.stkSub b z)).elim hL hb) hc) (λb o _ _ hc e n=>u.any e n hc) (λb o hc e n=>u.free b o e n hc) (λb o hc e=>u.there b o e hc) u.tups u.frzs u.tbls (λm' hm=>by
  obtain ⟨o',es',ep',Yu,r'⟩:=hm;rw [ho] at Yu;cases Yu;exact ⟨_,es',ep',hL,r'⟩) hok hg
theorem Inv.turned{it:Addr}(I:Inv X Go σ H s)(k:∀b o,b≠it->s.heap.get? b=some o->h'.get? b=some o)(hn:H it=none)(hL:it≠X.env.locals)
  (h1:it∈X.ex\/X.s₀.heap.objs.size<=it) (h2:∀x c,X.env.cells.lookup x=some c->c≠it) (h3:∀p∈X.pn++Go,p.1≠it):Inv X Go σ H { s with heap:=h',toks:=t' }:=by
 have nit:∀b u,H b=some u->b≠it:=λb u e z=>by rw [z,hn] at e;cases e
 refine I.step (g':=s.gens) (d':=s.drawn) (ch:=[it]) (λb hb=>?_) (λb o _ _ hc e _=>k b o (λz=>hc (by simp [z])) e) (λb o _ _ hc e _=>⟨o.slots,k b o (λz=>hc (by simp [z])) e⟩) (λ_ _ _ _ n=>n)
  (λb o hc e=>⟨o,k b o (λz=>hc (by simp [z])) e⟩) (λ_ _ e=>e) (λ_ _ _ e=>e) (λb ps e=>⟨#[],by rw [e];simp⟩) (λm hm=>?_) (λb u e=>?_) I.bare
 .have e:b=it:=by simpa using hb
  subst e;exact ⟨h1,hL,h2,h3⟩
 .obtain ⟨o,es,ep,ho,r⟩:=hm;exact ⟨o,es,ep,k _ o (L8 hL) ho,r⟩
 .refine (I.hok b u e).stay (λc v hc q=>k c v ?_ q) (λ_ q=>q) λ_ _ q=>q;rcases hc with z|z
  .rw [z];exact nit b u e
  .exact nit c _ z
theorem Inv.tok(I:Inv X Go σ H s)(t:Nat):Inv X Go σ H { s with toks:=t }:=I.un (h':=s.heap) (t':=t) Un.refl I.hok
theorem Inv.kept(I:Inv X Go σ H s)(k:∀b u,s.heap.get? b=some u->h'.get? b=some u):Inv X Go σ H { s with heap:=h',toks:=t' }:=I.un (Un.kept k) (I.hok.kept k)
theorem Inv.laid{o:HO}(I:Inv X Go σ H s)(k:∀b u,s.heap.get? b=some u->h'.get? b=some u)(hp:s.heap.objs.size<=a)(new:af X.prog X.w (upd H a o) h' a o) :
  Inv X Go σ (upd H a o) { s with heap:=h',toks:=t' }:=I.un (Un.laid k hp (I.hok.fresh hp)) (I.hok.laid k hp new)
theorem Inv.write{x e:Addr}{o:HO}(I:Inv X Go σ H s)(mu:Mut (H x))(he:e=x\/H e=some (.own x))(k:∀b u,b≠e->s.heap.get? b=some u->h'.get? b=some u)(heo:∃u,h'.get? e=some u)
  (new:af X.prog X.w (upd H x o) h' x o):Inv X Go σ (upd H x o) { s with heap:=h',toks:=t' }:=I.un (Un.write mu he k heo) (I.hok.write mu he k heo new)
theorem Inv.pins_of{pins':List (Addr×Obj)}(I:Inv X Go σ H s)(h:∀p∈pins',s.heap.get? p.1=some p.2/\H p.1=none/\p.1≠X.env.locals/\p.1∉X.fs/\∀v,p.2.data≠.cell v):Inv X pins' σ H s :=
 ⟨I.ok,I.os,I.bare,I.base,I.loc,I.cell,I.free,I.freeC,λp hp=>(My.mp hp).elim (λz=>I.pin p (MR _ z)) (h p),I.hok,I.len,I.hdk⟩
theorem yp(hN:N.Nodup)(a:N[i]?=some x)(b:N[j]?=some x):i=j:=by
 obtain ⟨h1,e1⟩:=LH.mp a;obtain ⟨h2,e2⟩:=LH.mp b;exact (List.getElem_inj hN).mp (e1.trans e2.symm)
theorem Bh{Q:Unit->LF->Prop}(I:Inv X Go σ H s)(hN:X.N.Nodup)(hi:X.N[i]?=some x)(hx:Loc X.env.scope x)(r:zp v u)
  (h:∀s',Inv X Go (σ.set i (some v)) H s'->(∃a,Po a s.heap s'.heap/\(a=X.env.locals\/X.env.cells.lookup x=some a))->Q () s') (hf:X.fn x=true\/X.env.scope.names.lookup x=some .local:=by first|exact .inl rfl|exact .inr rfl|assumption):LS M A (storeName X.env x u) Q E s:=by
 obtain ⟨m,hn,hl⟩:=id I.loc;have hcls:(X.env.scope.kind == .class||(X.env.scope.kind == .module&&X.env.locals != X.env.globals))=false:=by rw [I.ok.kind];rfl
 have hiσ:i<σ.length:=by rw [I.len];exact (LH.mp hi).1
 have cne:=I.cne;have XG:∀{a:Addr}{h':Heap},(∃o,s.heap.get? a=some o/\H a=none)->Po a s.heap h'->HOk X.prog X.w H h':=λ{a h'} ha hs b ob e=>by
  obtain ⟨_,_,hfree⟩:=ha;refine (I.hok b ob e).stay (λc w' hc q=>(hs.2 c ?_).trans q) (λ_ q=>q) λ_ _ q=>q;rintro rfl;rcases hc with rfl|hc
  .rw [hfree] at e;cases e
  .rw [hfree] at hc;cases hc
 rcases hx with hk|hk
 .refine wpAny_storeName_local hk hn (λh' hn' hs=>?_) hcls;obtain ⟨oL,_,_,Xq,_⟩:=id hn;refine h _ ⟨I.ok,I.os,I.bare,⟨λb o e n hb hx=>?_,λb o e n hb hx=>?_,I.base.free,λb o e hx=>?_,I.base.tups,I.base.frzs,I.base.tbls⟩,⟨_,hn',λj y v' e1 e2 e3=>?_⟩,λy c e=>?_,I.free,I.freeC,λp hp=>?_,XG ⟨oL,Xq,I.free⟩ hs,by simpa using I.len,I.hdk⟩ ⟨_,hs,.inl rfl⟩
  .exact (hs.2 b (Mx (L9 (L7 e) I.ok.above))).trans (I.base.keep b o e n hb hx)
  .obtain ⟨sl,e1⟩:=I.base.slot b o e n hb hx;exact ⟨sl,(hs.2 b (Mx (L9 (L7 e) I.ok.above))).trans e1⟩
  .obtain ⟨o',e1⟩:=I.base.there b o e hx;exact ⟨o',(hs.2 b (Mx (L9 (L7 e) I.ok.above))).trans e1⟩
  .by_cases hj:j=i
   .subst hj;rw [hi] at e1;cases e1;rw [N5 hiσ] at e2;cases e2;exact ⟨u,r,.inl ⟨hk,by simp⟩⟩
   .rw [Ow (L8 hj)] at e2;obtain ⟨u',r',q⟩:=hl j y v' e1 e2 e3;refine ⟨u',r',?_⟩;rcases q with ⟨k,e⟩|⟨k,c,e,z⟩
    .refine .inl ⟨k,?_⟩;have:y≠x:=λe=>hj (yp hN e1 (e ▸ hi));simp [this,e]
    .exact .inr ⟨k,c,e,z.sameBut hs (cne y c e)⟩
  .obtain ⟨w',z⟩:=I.cell y c e;exact ⟨w',z.sameBut hs (cne y c e)⟩
  .obtain ⟨e,n,ne,nf,d⟩:=I.pin p hp;exact ⟨(hs.2 p.1 ne).trans e,n,ne,nf,d⟩
 .have hfn:X.fn x=true:=by
   rcases hf with z|z
   .exact z
   .rw [z] at hk;cases hk
  obtain ⟨c,hc⟩:=I.ok.has x (.inl hk);obtain ⟨w',z⟩:=I.cell x c hc;refine wpAny_storeName_cell I.ok.kind hk hc z (λh' Yy hs=>?_);obtain ⟨oc,hoc,hocd⟩:=id z;refine h { s with heap:=h' } ⟨I.ok,I.os,I.bare,⟨λb o e n hb hx=>?_,λb o e n hb hx=>?_,I.base.free,λb o e hx=>?_,I.base.tups,I.base.frzs,I.base.tbls⟩,⟨m,hn.sameBut hs (L8 (cne x c hc)),λj y v' e1 e2 e3=>?_⟩,λy c' e=>?_,I.free,I.freeC,λp hp=>?_,XG ⟨oc,hoc,I.freeC x c hc⟩ hs,by simpa using I.len,I.hdk⟩ ⟨c,hs,.inr hc⟩
  .exact (hs.2 b (Mx (L9 (L7 e) (I.ok.cab x c hfn hc)))).trans (I.base.keep b o e n hb hx)
  .obtain ⟨sl,e1⟩:=I.base.slot b o e n hb hx;exact ⟨sl,(hs.2 b (Mx (L9 (L7 e) (I.ok.cab x c hfn hc)))).trans e1⟩
  .obtain ⟨o',e1⟩:=I.base.there b o e hx;exact ⟨o',(hs.2 b (Mx (L9 (L7 e) (I.ok.cab x c hfn hc)))).trans e1⟩
  .by_cases hj:j=i
   .subst hj;rw [hi] at e1;cases e1;rw [N5 hiσ] at e2;cases e2;exact ⟨u,r,.inr ⟨.inl hk,c,hc,Yy⟩⟩
   .rw [Ow (L8 hj)] at e2;obtain ⟨u',r',q⟩:=hl j y v' e1 e2 e3;refine ⟨u',r',?_⟩;rcases q with q|⟨k,c',e,z'⟩
    .exact .inl q
    .refine .inr ⟨k,c',e,z'.sameBut hs ?_⟩;rintro rfl;exact hj (yp hN e1 (I.ok.inj _ _ _ e hc ▸ hi))
  .by_cases hcc:c'=c
   .subst hcc;exact ⟨_,Yy⟩
   .obtain ⟨w2,z2⟩:=I.cell y c' e;exact ⟨w2,z2.sameBut hs hcc⟩
  .obtain ⟨e,n,ne,nf,d⟩:=I.pin p hp;refine ⟨(hs.2 p.1 ?_).trans e,n,ne,nf,d⟩;intro q;rw [q,hoc] at e;have q':oc=p.2:=Ms.inj e;exact d w' (by rw [<- q'];exact hocd)
theorem h8{Q:Unit->LF->Prop}(I:Inv X Go σ H s)(hN:X.N.Nodup)(hi:X.N[i]?=some x)(hx:Loc X.env.scope x)(r:zp v u)
  (h:∀s',Inv X Go (σ.set i (some v)) H s'->Q () s') (hf:X.fn x=true\/X.env.scope.names.lookup x=some .local:=by first|exact .inl rfl|exact .inr rfl|assumption):LS M A (storeName X.env x u) Q E s :=
 Bh I hN hi hx r (λs' I' _=>h s' I') hf
theorem Inv.call'{s':LF}(I:Inv X Go σ H s)(ho:s'.os=s.os)(u:Un (frs X.stack) ch H H' s.heap s'.heap)(hok:HOk X.prog X.w H' s'.heap)(hg:Oa s'.gens)
  (Xr:∀b∈ch,(b∈X.ex\/X.s₀.heap.objs.size<=b)/\b≠X.env.locals/\(∀x c,X.env.cells.lookup x=some c->c≠b)/\∀p∈X.pn++Go,p.1≠b):Inv X Go σ H' s':=by
 obtain ⟨h',g',d',t',o'⟩:=s';have e:o'=s.os:=ho;subst e;exact I.call (g':=g') (t':=t') (d':=d') u hok hg Xr
end
abbrev XK:=Value->Option Addr->Hp->Prop
abbrev St:=List (Option V)
variable{σ:St}
abbrev VK:=V->Hp->Prop
abbrev TE:=St->Hp->VK->Prop
variable{te:TE}
abbrev TT:=St->Hp->(Bool->Hp->Prop)->Prop
abbrev TA:=St->Hp->(List V->Hp->Prop)->Prop
structure aL where
 nx:St->Hp->Prop
 rt:VK
 bk:St->Hp->Prop:=λ_ _=>False
 ct:St->Hp->Prop:=λ_ _=>False
abbrev TS:=aL->St->Hp->Prop
variable{tb:TS}
def EP(X:Cx)(Go:List (Addr×Obj))(σ:St)(Q:VK)(u:Value)(s':LF):Prop:=∃v H',Inv X Go σ H' s'/\zp v u/\Q v H'
def TP(X:Cx)(Go:List (Addr×Obj))(σ:St)(Q:Bool->Hp->Prop)(b:Bool)(s':LF):Prop:=∃H',Inv X Go σ H' s'/\Q b H'
def AP(X:Cx)(Go:List (Addr×Obj))(σ:St)(Q:List V->Hp->Prop)(us:List Value)(s':LF):Prop:=∃vs H',Inv X Go σ H' s'/\zq vs us/\Q vs H'
def SP(X:Cx)(Go:List (Addr×Obj))(D:aL)(f:Flow)(s':LF):Prop :=
 match f with
 | .next=>∃σ' H',Inv X Go σ' H' s'/\D.nx σ' H'
 | .brk=>∃σ' H',Inv X Go σ' H' s'/\D.bk σ' H'
 | .cont=>∃σ' H',Inv X Go σ' H' s'/\D.ct σ' H'
 | .ret u=>∃v σ' H',Inv X Go σ' H' s'/\zp v u/\D.rt v H'
def PE(X:Cx)(e:Mw)(t:TE):Prop :=
 ∀(Go:List (Addr×Obj))(s:LF)(σ:St)(H:Hp)(Q:VK),Inv X Go σ H s->t σ H Q->LS (LZ X.prog X.w) X.A (MJ e X.env) (EP X Go σ Q) X.xe s
def PT(X:Cx)(e:Mw)(t:TT):Prop :=
 ∀(Go:List (Addr×Obj))(s:LF)(σ:St)(H:Hp)(Q:Bool->Hp->Prop),Inv X Go σ H s->t σ H Q->LS (LZ X.prog X.w) X.A (isTrue e X.env (MJ e X.env)) (TP X Go σ Q) X.xe s
def PW(X:Cx)(e:Mw)(t:TT):Prop :=
 ∀(YO:Sem Value)(Go:List (Addr×Obj))(s:LF)(σ:St)(H:Hp)(Q:Bool->Hp->Prop),Inv X Go σ H s->t σ H Q->LS (LZ X.prog X.w) X.A (isTrue e X.env YO) (TP X Go σ Q) X.xe s
theorem PW.pt{t:TT}(h:PW X e t):PT X e t:=h _
def PA(X:Cx)(es:List Mw)(t:TA):Prop :=
 ∀(pos:Pos)(Go:List (Addr×Obj))(s:LF)(σ:St)(H:Hp)(Q:List V->Hp->Prop),Inv X Go σ H s->t σ H Q->LS (LZ X.prog X.w) X.A (spliced (NA pos (Ma es X.env))) (AP X Go σ Q) X.xe s
def PS(X:Cx)(st:Stmt)(t:TS):Prop :=
 ∀(Go:List (Addr×Obj))(s:LF)(σ:St)(H:Hp)(D:aL),Inv X Go σ H s->t D σ H->LS (LZ X.prog X.w) X.A (exec st X.env) (SP X Go D) X.xe s
def PSs(X:Cx)(st:List Stmt)(t:TS):Prop :=
 ∀(Go:List (Addr×Obj))(s:LF)(σ:St)(H:Hp)(D:aL),Inv X Go σ H s->t D σ H->LS (LZ X.prog X.w) X.A (execs st X.env) (SP X Go D) X.xe s
theorem x2e{a b c:Prop}(f:a->b->c)(h:a/\b):c:=f h.1 h.2
theorem x3e{A B:α->Prop}(f:∀x,A x->B x->D)(h:∃x,A x/\B x):D:=h.elim λx z=>f x z.1 z.2
theorem x4e{β:Sort _}{A B:α->β->Prop}(f:∀x y,A x y->B x y->D)(h:∃x y,A x y/\B x y):D:=h.elim λx=>x3e (f x)
theorem x5e{β:Sort _}{A B C:α->β->Prop}(f:∀x y,A x y->B x y->C x y->D)(h:∃x y,A x y/\B x y/\C x y):D:=h.elim λx=>x3e λy a=>x2e (f x y a)
theorem thn{α:Type}{t:Sem α}{Q Q':α->LF->Prop}(h:LS M A t Q E s)(hQ:∀a s,Q a s->Q' a s):LS M A t Q' E s:=Mv h hQ λ_ _ x=>x
section
variable {X:Cx}
def j9(i:Nat):TE:=λσ H Q=>∃v,σ[i]?=some (some v)/\Q v H
def tC(v:V):TE:=λ_ H Q=>Q v H
theorem EJ(hN:X.N[i]?=some x)(hv:Vis X.env.scope x)(hd:(x==("__debug__":Str))=false:=by decide)(hcd:(x==("__classdict__":Str))=false:=by decide):PE X (.Name x pos) (j9 i):=by
 intro Go s σ H Q I h;obtain ⟨v,e,h⟩:=h;obtain ⟨m,hn,hl⟩:=I.loc;obtain ⟨u,r,l⟩:=hl i x v hN e hv;have YG:EP X Go σ Q u s:=⟨v,H,I,r,h⟩;rcases l with ⟨hk,hm⟩|⟨hk,c,hc,XF⟩
 .exact wpAny_Name (O5 I.ok.kind hk hn hm YG) hd
 .rcases hk with hk|hk
  .exact wpAny_Name (wpAny_loadName_cell I.ok.kind hk hc XF YG) hd
  .exact wpAny_Name (wpAny_loadName_free I.ok.kind hk hc XF YG hcd) hd
theorem pM{i j pos}:PE X (.Constant (.int i) j pos) (tC (.int i)):=λ_ _ _ H _ I h=>Pu ⟨.int i,H,I.tok _,⟨_,rfl⟩,h⟩
theorem bO{b j pos}:W (PE X (.Constant (.bool b) j pos) (tC (.bl b))):=⟨λ_ _ _ H _ I h=>Constant_bool ⟨.bl b,H,I,rfl,h⟩⟩
theorem bf{j pos}:W (PE X (.Constant .none j pos) (tC .non)):=⟨λ_ _ _ H _ I h=>Constant_none ⟨.non,H,I,rfl,h⟩⟩
theorem zI{x j pos}:W (PE X (.Constant (.str x) j pos) (tC (.str x))):=⟨λ_ _ _ H _ I h=>Calls.Constant_str ⟨.str x,H,I.tok _,⟨_,rfl⟩,h⟩⟩
def Gl(X:Cx)(x:Str):Prop:=X.env.kindOf x=some .globalImplicit
theorem gh(I:Inv X Go σ H s)(hg:Gl X x)(hm:X.mg x=some u)(h:Q u s)
  (hd:(x==("__debug__":Str))=false:=by decide):LS (LZ X.prog X.w) X.A (MJ (.Name x pos) X.env) Q E s :=
 Calls.Name_function_global I.ok.kind hg (Calls.loadGlobal_global (by rw [I.ok.glob];exact I.mod.glob.keeps I.bk) hm h) hd
theorem dO(I:Inv X Go σ H s)(hg:Gl X x)(hm:X.mg x=none)(hv:N4 x=some u)(h:Q u s)
  (hn:x≠"__name__":=by decide) (hd:(x==("__debug__":Str))=false:=by decide):LS (LZ X.prog X.w) X.A (MJ (.Name x pos) X.env) Q E s:=by
 obtain ⟨mb,h1,h2⟩:=I.mod.blt;exact Calls.Name_function_global I.ok.kind hg (Calls.loadGlobal_builtin (by rw [I.ok.glob];exact I.mod.glob.keeps I.bk) hm (by rw [I.ok.blt];exact h1.keeps I.bk) ((h2 x hn).trans hv) h) hd
theorem Ii(hg:Gl X x)(hm:X.mg x=some u)(r:zp v u)(hd:(x==("__debug__":Str))=false:=by decide):PE X (.Name x pos) (tC v) :=
 λ_ _ _ H _ I h=>gh I hg hm ⟨v,H,I,r,h⟩ hd
theorem fP(hg:Gl X x)(hm:X.mg x=none)(hv:N4 x=some u)(r:zp v u)(hn:x≠"__name__":=by decide)(hd:(x==("__debug__":Str))=false:=by decide):W (PE X (.Name x pos) (tC v)):=⟨λ_ _ _ H _ I h=>dO I hg hm hv ⟨v,H,I,r,h⟩ hn hd⟩
variable {a b:Mw}{ta tb:TE}{pos:Pos}
variable {tA tB':TT}{Y9:List Mw}
def vX(t u:TT):TT:=λσ H Q=>t σ H λc H1=>if c=true then u σ H1 Q else Q false H1
def tOr(t u:TT):TT:=λσ H Q=>t σ H λc H1=>if c=true then Q true H1 else u σ H1 Q
def vn(t:TT):TT:=λσ H Q=>t σ H λc H1=>Q (!c) H1
theorem gS(ha:W (PT X a tA)):W (PW X (.BoolOp .And [a] pos) tA):=by
 refine ⟨?_⟩;have ha:=ha.h;intro wh Go s σ H Q I h;refine isTrue_and (thn (ha Go s σ H Q I h) λc s1 e=>?_);cases c with
 | true=>exact isTrue_and_nil e
 | false=>exact e
theorem iS(ha:W (PT X a tA)):W (PW X (.BoolOp .Or [a] pos) tA):=by
 refine ⟨?_⟩;have ha:=ha.h;intro wh Go s σ H Q I h;refine isTrue_or (thn (ha Go s σ H Q I h) λc s1 e=>?_);cases c with
 | false=>exact isTrue_or_nil e
 | true=>exact e
theorem hV(ha:W (PT X a tA))(hb:W (PW X (.BoolOp .And (b::Y9) pos) tB')):W (PW X (.BoolOp .And (a::b::Y9) pos) (vX tA tB')):=by
 refine ⟨?_⟩;have ha:=ha.h;have hb:=hb.h;intro wh Go s σ H Q I h;refine isTrue_and (thn (ha Go s σ H _ I h) λc s1=>x3e λH1 I1 q1=>?_);cases c with
 | true=>exact hb wh Go s1 σ H1 Q I1 q1
 | false=>exact ⟨H1,I1,q1⟩
theorem eT(ha:W (PT X a tA))(hb:W (PW X (.BoolOp .Or (b::Y9) pos) tB')):W (PW X (.BoolOp .Or (a::b::Y9) pos) (tOr tA tB')):=by
 refine ⟨?_⟩;have ha:=ha.h;have hb:=hb.h;intro wh Go s σ H Q I h;refine isTrue_or (thn (ha Go s σ H _ I h) λc s1=>x3e λH1 I1 q1=>?_);cases c with
 | true=>exact ⟨H1,I1,q1⟩
 | false=>exact hb wh Go s1 σ H1 Q I1 q1
theorem cQ(ha:W (PT X a tA)):W (PT X (.UnaryOp .Not a pos) (vn tA)):=by
 refine ⟨?_⟩;have ha:=ha.h;intro Go s σ H Q I h;exact isTrue_not (ha Go s σ H (λc H1=>Q (!c) H1) I h)
def pF(ta tb:TE):TE:=λσ H Q=>ta σ H λx H1=>∃c,x = .bl c/\if c=true then tb σ H1 Q else Q (.bl false) H1
def rj(ta tb:TE):TE:=λσ H Q=>ta σ H λx H1=>∃c,x = .bl c/\if c=true then Q (.bl true) H1 else tb σ H1 Q
def ou(ta:TE):TE:=λσ H Q=>ta σ H λx H1=>∃c,x = .bl c/\Q (.bl (!c)) H1
theorem iH{op}{t:TE}(h:W (PE X a t)):W (PE X (.BoolOp op [a] pos) t):=by refine ⟨?_⟩;have h:=h.h;exact λGo s σ H Q I hw=>BoolOp_one (h Go s σ H Q I hw)
theorem kh(ha:W (PE X a ta))(hb:W (PE X (.BoolOp .And (b::Y9) pos) tb)):W (PE X (.BoolOp .And (a::b::Y9) pos) (pF ta tb)):=by
 refine ⟨?_⟩;have ha:=ha.h;have hb:=hb.h;intro Go s σ H Q I h;refine BoolOp_and (thn (ha Go s σ H _ I h) λv s1=>x5e λx H1 I1 r1 q1=>?_);obtain ⟨c,rfl,q1⟩:=q1;cases r1;refine Nr ?_;cases c with
 | true=>exact hb Go s1 σ H1 Q I1 q1
 | false=>exact ⟨.bl false,H1,I1,rfl,q1⟩
theorem Gg(ha:W (PE X a ta))(hb:W (PE X (.BoolOp .Or (b::Y9) pos) tb)):W (PE X (.BoolOp .Or (a::b::Y9) pos) (rj ta tb)):=by
 refine ⟨?_⟩;have ha:=ha.h;have hb:=hb.h;intro Go s σ H Q I h;refine BoolOp_or (thn (ha Go s σ H _ I h) λv s1=>x5e λx H1 I1 r1 q1=>?_);obtain ⟨c,rfl,q1⟩:=q1;cases r1;refine Nr ?_;cases c with
 | false=>exact hb Go s1 σ H1 Q I1 q1
 | true=>exact ⟨.bl true,H1,I1,rfl,q1⟩
theorem vQ(ha:W (PE X a ta)):W (PE X (.UnaryOp .Not a pos) (ou ta)):=by
 refine ⟨?_⟩;have ha:=ha.h;intro Go s σ H Q I h;refine UnaryOp_ (thn (ha Go s σ H _ I h) λv s1=>x5e λx H1 I1 r1 q1=>?_);obtain ⟨c,rfl,q1⟩:=q1;cases r1;exact not_of (Nr ⟨.bl (!c),H1,I1,rfl,q1⟩)
def tIf(t:TT)(ta tb:TE):TE:=λσ H Q=>t σ H λc H1=>if c=true then ta σ H1 Q else tb σ H1 Q
theorem jS{c:Mw}(hc:W (PT X c tA))(ha:W (PE X a ta))(hb:W (PE X b tb)):W (PE X (.IfExp c a b pos) (tIf tA ta tb)):=by
 refine ⟨?_⟩;have hc:=hc.h;have ha:=ha.h;have hb:=hb.h;intro Go s σ H Q I h;refine wpAny_IfExp (thn (hc Go s σ H _ I h) λd s1=>x3e λH1 I1 q1=>?_);cases d with
 | true=>exact ha Go s1 σ H1 Q I1 q1
 | false=>exact hb Go s1 σ H1 Q I1 q1
end
def SqL(K:LK)(H:Hp)(a:Addr)(xs:List V):Prop :=
 Rd H a (.lst xs) \/
  ∃(o:Obj)(its:Array Value)(n:Nat),K.lookup a=some o/\o.cls = .type "list"/\o.dict=none/\o.data = .seq its n/\its.size<=sizeLine/\zq xs its.toList
def SqT(K:LK)(H:Hp)(a:Addr)(xs:List V):Prop :=
 Rd H a (.tup xs) \/
  ∃(o:Obj)(its:Array Value)(n:Nat),K.lookup a=some o/\o.cls = .type "tuple"/\o.data = .seq its n/\its.size<=sizeLine/\zq xs its.toList
def JG:Value->Option V
 | .none=>some .non
 | .bool b=>some (.bl b)
 | .int i _=>some (.int i)
 | .str x _=>some (.str x)
 | .bytes b _=>some (.byt b)
 | .float b _=>some (.flt b)
 | .ref a=>some (.ref a)
 | .type n=>some (.ty n)
 | _=>none
theorem zp.abs{x:V}(r:zp x u):JG u=some x:=by
 cases x with
 | non=>cases r;rfl
 | bl _=>cases r;rfl
 | int _=>obtain ⟨t,rfl⟩:=r;rfl
 | str _=>obtain ⟨t,rfl⟩:=r;rfl
 | byt _=>obtain ⟨t,rfl⟩:=r;rfl
 | flt _=>obtain ⟨t,rfl⟩:=r;rfl
 | ref _=>cases r;rfl
 | ty _=>cases r;rfl
theorem zp.inj{x:V}(r:zp x u)(q:zp y u):x=y:=Ms.inj (r.abs.symm.trans q.abs)
theorem zq.inj(h:zq xs us):∀{ys:List V},zq ys us->xs=ys:=by
 induction h with
 | nil=>intro ys k;cases k;rfl
 | cons r t ih =>
  intro ys k;cases k with
  | cons r' t'=>rw [r.inj r',ih t']
section
variable {X:Cx}{Go:List (Addr×Obj)}{σ:St}{H:Hp}{s:LF}{a:Addr}{xs ys:List V}
theorem SqL.of(h:H a=some (.lst xs)):SqL K H a xs:=.inl (.inl h)
theorem SqT.of(h:H a=some (.tup xs)):SqT K H a xs:=.inl (.inl h)
theorem Inv.list(I:Inv X Go σ H s)(h:SqL X.K H a xs):∃its:List Value,zq xs its/\PlainL s.heap a its.toArray/\xs.length<=sizeLine:=by
 rcases h with h|⟨o,its,n,hk,hc,hd,hs,hz,r⟩
 .obtain ⟨z,its,n,r,e⟩:=h.ok I.hok;exact ⟨its,r,⟨_,n,e,rfl,rfl,rfl⟩,z⟩
 .refine ⟨its.toList,r,⟨o,n,I.kIn a o hk,hc,hd,by simpa using hs⟩,?_⟩;have e:=r.length;simp only [NP] at e;lia
theorem Inv.tuple(I:Inv X Go σ H s)(h:SqT X.K H a xs):∃its:List Value,zq xs its/\PY s.heap a its.toArray/\xs.length<=sizeLine:=by
 rcases h with h|⟨o,its,n,hk,hc,hs,hz,r⟩
 .obtain ⟨z,its,r,p⟩:=h.ok I.hok;exact ⟨its,r,p,z⟩
 .refine ⟨its.toList,r,⟨o,I.kIn a o hk,hc,n,by simpa using hs⟩,?_⟩;have e:=r.length;simp only [NP] at e;lia
theorem Inv.list_inj(I:Inv X Go σ H s)(h:SqL X.K H a xs)(h':SqL X.K H a ys):xs=ys:=by
 obtain ⟨its,r,⟨o,n,e,_,_,d⟩,_⟩:=I.list h;obtain ⟨its',r',⟨o',n',e',_,_,d'⟩,_⟩:=I.list h';rw [e] at e';cases e';rw [d] at d';injection d' with d1 _
 have:its=its':=by simpa using congrArg Array.toList d1
 subst this;exact r.inj r'
theorem Inv.tuple_inj(I:Inv X Go σ H s)(h:SqT X.K H a xs)(h':SqT X.K H a ys):xs=ys:=by
 obtain ⟨its,r,⟨o,e,_,n,d⟩,_⟩:=I.tuple h;obtain ⟨its',r',⟨o',e',_,n',d'⟩,_⟩:=I.tuple h';rw [e] at e';cases e';rw [d] at d';injection d' with d1 _
 have:its=its':=by simpa using congrArg Array.toList d1
 subst this;exact r.inj r'
end
abbrev Cx.wish(X:Cx)(E:Value->LF->Prop):Cx:={ X with xe:=E }
abbrev Cx.nox(X:Cx):Cx:=X.wish λ_ _=>False
theorem Cx.Ok.wish(ok:X.Ok)(E:Value->LF->Prop):(X.wish E).Ok :=
 ⟨ok.mod,ok.kind,ok.glob,ok.blt,ok.above,ok.inj,ok.has,ok.cab,ok.hd,ok.frames,ok.stk,ok.exf,ok.bs,ok.bsz,ok.noex,ok.exfs,ok.funs,ok.frf⟩
theorem Cx.Ok.unwish(ok:(X.wish E).Ok):X.Ok :=
 ⟨ok.mod,ok.kind,ok.glob,ok.blt,ok.above,ok.inj,ok.has,ok.cab,ok.hd,ok.frames,ok.stk,ok.exf,ok.bs,ok.bsz,ok.noex,ok.exfs,ok.funs,ok.frf⟩
section
variable {X:Cx}{Go:List (Addr×Obj)}{σ:St}{H:Hp}{s:LF}{E:Value->LF->Prop}
theorem Inv.wish(I:Inv X Go σ H s)(E:Value->LF->Prop):Inv (X.wish E) Go σ H s:=⟨I.ok.wish E,I.os,I.bare,I.base,I.loc,I.cell,I.free,I.freeC,I.pin,I.hok,I.len,I.hdk⟩
theorem Inv.unwish(I:Inv (X.wish E) Go σ H s):Inv X Go σ H s:=⟨I.ok.unwish,I.os,I.bare,I.base,I.loc,I.cell,I.free,I.freeC,I.pin,I.hok,I.len,I.hdk⟩
theorem SP.unwish{D:aL}{f:Flow}{s':LF}(h:SP (X.wish E) Go D f s'):SP X Go D f s':=by
 cases f with
 | next=>obtain ⟨σ',H',I,q⟩:=h;exact ⟨σ',H',I.unwish,q⟩
 | brk=>obtain ⟨σ',H',I,q⟩:=h;exact ⟨σ',H',I.unwish,q⟩
 | cont=>obtain ⟨σ',H',I,q⟩:=h;exact ⟨σ',H',I.unwish,q⟩
 | ret u=>obtain ⟨v,σ',H',I,r,q⟩:=h;exact ⟨v,σ',H',I.unwish,r,q⟩
theorem PSs.nox{st:List Stmt}{t:TS}(h:PSs X.nox st t):PSs X st t:=λGo s σ H D I hw =>
 Mv (h Go s σ H D (I.wish _) hw) (λ_ _ q=>q.unwish) λ_ _ z=>False.elim z
end
section
variable {X:Cx}{st:Stmt}{Y9:List Stmt}{t u:TS}{e:Mw}{te:TE}{pos:Pos}
def p9:TS:=λD σ H=>D.nx σ H
def lX(t u:TS):TS:=λD σ H=>t { D with nx:=u D } σ H
theorem v8:PSs X [] p9:=λ_ _ σ H _ I h=>Ou ⟨σ,H,I,h⟩
theorem vU(h1:PS X st t)(h2:PSs X Y9 u):PSs X (st::Y9) (lX t u):=by
 intro Go s σ H D I h;refine wpAny_execs_cons (thn (h1 Go s σ H { D with nx:=u D } I h) λf s1 q=>?_);cases f with
 | next =>
  obtain ⟨σ',H',I',q⟩:=q;exact h2 Go s1 σ' H' D I' q
 | ret v=>exact q
 | brk=>exact q
 | cont=>exact q
theorem nK(h1:PS X st t):PSs X [st] t:=by
 intro Go s σ H D I h;refine wpAny_execs_cons (thn (h1 Go s σ H D I h) λf s1 q=>?_);cases f with
 | next=>exact Ou q
 | ret v=>exact q
 | brk=>exact q
 | cont=>exact q
theorem Inv.quiet(I:Inv X Go σ H s):interactive X.env=false:=by simp [interactive,I.ok.kind]
def rM(te:TE):TS:=λD σ H=>te σ H λ_ H1=>D.nx σ H1
theorem aq(he:W (PE X e te))(hs:swapsWith e none pos.line X.env=pure false:=by rfl):W (PS X (.Expr e pos) (rM te)):=by
 refine ⟨?_⟩;have he:=he.h;intro Go s σ H D I h;exact wpAny_Expr_any (thn (he Go s σ H _ I h) λv s1=>x5e λx H1 I1 r1 q1=>⟨σ,H1,I1,q1⟩) I.quiet hs
def nA(te:TE):TS:=λD σ H=>te σ H D.rt
theorem nB(he:PE X e te):PS X (.Return (some e) pos) (nA te):=by
 intro Go s σ H D I h;exact wpAny_Return_some (thn (he Go s σ H _ I h) λv s1=>x5e λx H1 I1 r1 q1=>⟨x,σ,H1,I1,r1,q1⟩)
def pa(c:TT)(t u:TS):TS:=λD σ H=>c σ H λb H1=>if b=true then t D σ H1 else u D σ H1
theorem sy{c:Mw}{a b:List Stmt}{tc:TT}(hc:PT X c tc)(ha:PSs X a t)(hb:PSs X b u):PS X (.If c a b pos) (pa tc t u):=by
 intro Go s σ H D I h;refine wpAny_If (thn (hc Go s σ H _ I h) λd s1=>x3e λH1 I1 q1=>?_);cases d with
 | true=>exact ha Go s1 σ H1 D I1 q1
 | false=>exact hb Go s1 σ H1 D I1 q1
end
abbrev TG:=V->St->Hp->(St->Hp->Prop)->Prop
abbrev TGs:=List V->St->Hp->(St->Hp->Prop)->Prop
def PG(X:Cx)(ZA:Mw)(t:TG):Prop :=
 ∀(Go:List (Addr×Obj))(s:LF)(σ:St)(H:Hp)(v:V)(u:Value)(Q:St->Hp->Prop),Inv X Go σ H s->zp v u->t v σ H Q ->
  LS (LZ X.prog X.w) X.A (assign ZA X.env u) (λ_ s'=>∃σ' H',Inv X Go σ' H' s'/\Q σ' H') X.xe s
def PGs(X:Cx)(ts:List Mw)(t:TGs):Prop :=
 ∀(Go:List (Addr×Obj))(s:LF)(σ:St)(H:Hp)(vs:List V)(us:List Value)(Q:St->Hp->Prop),Inv X Go σ H s->zq vs us->t vs σ H Q ->
  LS (LZ X.prog X.w) X.A (Qf ((Nv ts X.env).map (·.2)) us) (λ_ s'=>∃σ' H',Inv X Go σ' H' s'/\Q σ' H') X.xe s
abbrev nr:=V->V->V->Hp->(Hp->Prop)->Prop
def oo(X:Cx)(t:nr):Prop :=
 ∀(Go:List (Addr×Obj))(s:LF)(σ:St)(H:Hp)(o i v:V)(ov iv u:Value)(Q:Hp->Prop),Inv X Go σ H s->zp o ov->zp i iv->zp v u->t o i v H Q ->
  LS (LZ X.prog X.w) X.A (setItem ov iv u) (λ_ s'=>∃H',Inv X Go σ H' s'/\Q H') X.xe s
abbrev TIp:=V->V->Hp->VK->Prop
def PIp(X:Cx)(op:Operator)(t:TIp):Prop :=
 ∀(Go:List (Addr×Obj))(s:LF)(σ:St)(H:Hp)(x y:V)(v u:Value)(Q:VK),Inv X Go σ H s->zp x v->zp y u->t x y H Q ->
  LS (LZ X.prog X.w) X.A (inplaceOp op v u) (EP X Go σ Q) X.xe s
section
variable {X:Cx}{pos:Pos}
def dX(i:Nat):TG:=λv σ H Q=>Q (σ.set i (some v)) H
theorem wB(hN:X.N.Nodup)(hi:X.N[i]?=some x)(hx:Loc X.env.scope x)(hf:X.fn x=true\/X.env.scope.names.lookup x=some .local:=by first|exact .inl rfl|exact .inr rfl|assumption):PG X (.Name x pos) (dX i):=by
 intro Go s σ H v u Q I r h;exact wpAny_assign_Name (h8 I hN hi hx r (λs' I'=>⟨_,H,I',h⟩) hf)
def xG:TGs:=λvs σ H Q=>vs=[]/\Q σ H
def pb(t:TG)(u:TGs):TGs:=λvs σ H Q=>∃v r,vs=v::r/\t v σ H λσ' H'=>u r σ' H' Q
theorem bS:W (PGs X [] xG):=by
 refine ⟨?_⟩;intro Go s σ H vs us Q I r h;obtain ⟨e,h⟩:=h;subst e;cases r;exact assignInOrder_nil ⟨σ,H,I,h⟩
theorem zU{es:List Mw}{t:TG}{u:TGs}(h1:W (PG X e t))(h2:W (PGs X es u))
  (hs:(Nv (e::es) X.env).map (·.2)=assign e X.env::(Nv es X.env).map (·.2):=by rfl):W (PGs X (e::es) (pb t u)):=by
 refine ⟨?_⟩;have h1:=h1.h;have h2:=h2.h;intro Go s σ H vs us Q I r h;obtain ⟨v,vr,e1,h⟩:=h;subst e1;cases r with
 | cons r rr =>
  rw [hs];refine PF (thn (h1 Go s σ H _ _ _ I r h) λ_ s1=>x4e λσ1 H1 I1 q1=>?_);exact h2 Go s1 σ1 H1 _ _ Q I1 rr q1
def oX(K:LK)(n:Nat)(t:TGs):TG:=λv σ H Q=>∃a xs,v = .ref a/\SqT K H a xs/\xs.length=n/\t xs σ H Q
def xk(to ti:TE)(t:nr):TG:=λv σ H Q=>to σ H λo H1=>ti σ H1 λi H2=>t o i v H2 λH3=>Q σ H3
theorem dY{o i:Mw}{to ti:TE}{t:nr}(ho:W (PE X o to))(hi:W (PE X i ti))(hs:oo X t)
  (ha:∀v,assign (.Subscript o i pos) X.env v=(do
   let ov<-Ol [v] (MJ o X.env)
   let iv<-Ol [v,ov] (MJ i X.env)
   OY pos
   Ol [v,ov,iv] (setItem ov iv v)
   release [v,ov,iv] []):=by intro _;rfl):W (PG X (.Subscript o i pos) (xk to ti t)):=by
 refine ⟨?_⟩;have ho:=ho.h;have hi:=hi.h;intro Go s σ H v u Q I r h;rw [ha];refine fv (Mt (thn (ho Go s σ H _ I h) λov s1=>x5e λx H1 I1 r1 q1=>?_));refine fv (Mt (thn (hi Go s1 σ H1 _ I1 q1) λiv s2=>x5e λy H2 I2 r2 q2=>?_));refine fv (Ny (fv (Mt (thn (hs Go s2 σ H2 x y v ov iv u _ I2 r1 r2 r q2) λ_ s3=>x3e λH3 I3 q3=>?_))));exact wpAny_release ⟨σ,H3,I3,q3⟩
def iX(te:TE)(g:TG):TS:=λD σ H=>te σ H λx H1=>g x σ H1 D.nx
theorem cW{g:TG}(he:W (PE X e te))(hg:W (PG X tg g))(hs:swapsWithSole [tg] e pos.line X.env=pure false:=by rfl)(hw:swappedStores [tg] e X.env=pure none:=by rfl)
  (h1:(Nv [tg] X.env).map (·.2)=[assign tg X.env]:=by rfl):W (PS X (.Assign [tg] e pos) (iX te g)):=by
 refine ⟨?_⟩;have he:=he.h;have hg:=hg.h;intro Go s σ H D I h;refine wpAny_Assign_stores (thn (he Go s σ H _ I h) λv s1=>x5e λx H1 I1 r1 q1=>?_) hs hw;rw [h1];exact thn (hg Go s1 σ H1 x v _ I1 r1 q1) λ_ s2 q=>q
theorem zA{Y6:Pos}(hN:X.N.Nodup)(hi:X.N[i]?=some x)(hx:Loc X.env.scope x)(he:W (PE X e te))(hs:swapsWith e (some (.Name x Y6)) pos.line X.env=pure false:=by rfl)(hf:X.fn x=true\/X.env.scope.names.lookup x=some .local:=by first|exact .inl rfl|exact .inr rfl|assumption):W (PS X (.Assign [.Name x Y6] e pos) (iX te (dX i))):=by
 refine ⟨?_⟩;have he:=he.h;intro Go s σ H D I h;refine wpAny_Assign_Name (thn (he Go s σ H _ I h) λv s1=>x5e λy H1 I1 r1 q1=>?_) hs;exact h8 I1 hN hi hx r1 (λs2 I2=>⟨_,H1,I2,q1⟩) hf
def qw(i j:Nat)(ta:TA):TS:=λD σ H=>ta σ H λvs H1=>∃v w,vs=[v,w]/\D.nx ((σ.set i (some v)).set j (some w)) H1
theorem Eb{y:Str}{a b:Mw}{ta:TA}{px py pt:Pos}{kt k2 pt2}(hc:X.calm=true)(hN:X.N.Nodup)(hi:X.N[i]?=some x)(hj:X.N[j]?=some y)(Yh:i≠j)
  (hx:X.env.scope.names.lookup x=some .local) (hy:X.env.scope.names.lookup y=some .local) (ha:PA X [a,b] ta)
  (hw:swappedStores [.Tuple [.Name x px,.Name y py] kt pt] (.Tuple [a,b] k2 pt2) X.env=pure (some [x,y]))
  (hs:swapsWithSole [.Tuple [.Name x px,.Name y py] kt pt] (.Tuple [a,b] k2 pt2) pos.line X.env=pure false:=by rfl) :
  PS X (.Assign [.Tuple [.Name x px,.Name y py] kt pt] (.Tuple [a,b] k2 pt2) pos) (qw i j ta):=by
 intro Go s σ H D I h;rw [exec_Assign_arm];refine fv (Ny ?_);rw [hs];refine fv (LJ ?_);rw [if_neg (by decide)];refine fv (Tuple_ (thn (ha _ Go s σ H _ I h) λus s1=>x5e λvs H1 I1 r1 q1=>?_));obtain ⟨v,w,e1,q1⟩:=q1;subst e1;obtain ⟨u1,u2,rfl,rv,XU⟩:∃u1 u2,us=[u1,u2]/\zp v u1/\zp w u2:=by
  cases r1 with
  | cons p q =>
   cases q with
   | cons p' q' =>
    cases q';exact ⟨_,_,rfl,p,p'⟩
 refine MG ?_ (by show 2<=sizeLine;decide);have I2:Inv X Go σ H1 { s1 with heap:=s1.heap.push { cls:=.type "tuple",data:=.seq [u1,u2].toArray } }:=I1.kept (t':=s1.toks) λb o e=>p8 _ e;rw [hw];refine fv (LJ ?_);show LS (LZ X.prog X.w) X.A (do rule "assign.swapped-stores";let items<-unpackItems (.ref s1.heap.objs.size) 2 none;Qf [λv=>bindName X.env y v,λv=>bindName X.env x v] items.reverse;pure Flow.next) _ _ _;refine fv (NN (fv (unpackItems_tuple (items:=#[u1,u2]) (I.ok.hd hc) (PY.new s1.heap _) λh' hx'=>?_)));have I3:=I2.kept (h':=h') (t':=s1.toks) λb o e=>hx' b o (Mx (L7 e)) e;show LS _ _ (Qf [λv=>bindName X.env y v,λv=>bindName X.env x v] [u2,u1]>>=λ_=>pure Flow.next) _ _ _;refine fv (PF (wpAny_bindName (h8 I3 hN hj (.inl hy) XU (λs2 I4=>?_) (.inr hy))));refine PF (wpAny_bindName (h8 I4 hN hi (.inl hx) rv (λs3 I5=>assignInOrder_nil (LJ ?_)) (.inr hx)));rw [List.set_comm _ _ (L8 Yh)] at I5;exact ⟨_,H1,I5,q1⟩
def xi(i:Nat)(te:TE)(ti:TIp):TS:=λD σ H=>∃x,σ[i]?=some (some x)/\te σ H λy H1=>ti x y H1 λz H2=>D.nx (σ.set i (some z)) H2
theorem Kr{op:Operator}{ti:TIp}{Y6:Pos}(hN:X.N.Nodup)(hi:X.N[i]?=some x)(hx:Loc X.env.scope x)(he:W (PE X e te))(ho:PIp X op ti)(hf:X.fn x=true\/X.env.scope.names.lookup x=some .local:=by first|exact .inl rfl|exact .inr rfl|assumption):W (PS X (.AugAssign (.Name x Y6) op e pos) (xi i te ti)):=by
 refine ⟨?_⟩;have he:=he.h;intro Go s σ H D I h;obtain ⟨v,e1,h⟩:=h;obtain ⟨m,hn,hl⟩:=I.loc;have vis:Vis X.env.scope x:=by rcases hx with k|k;exact .inl k;exact .inr (.inl k)
 obtain ⟨u,r,l⟩:=hl i x v hi e1 vis;refine wpAny_AugAssign_Name ?_;have go:LS (LZ X.prog X.w) X.A (MJ e X.env) (λw s₂=>LS (LZ X.prog X.w) X.A (inplaceOp op u w) (λr s₃=>LS (LZ X.prog X.w) X.A (storeName X.env x r) (λ_=>SP X Go D .next) X.xe s₃) X.xe s₂) X.xe s:=by
  refine thn (he Go s σ H _ I h) λw s1=>x5e λy H1 I1 r1 q1=>?_;refine thn (ho Go s1 σ H1 v y u w _ I1 r r1 q1) λz s2=>x5e λzv H2 I2 r2 q2=>?_;exact h8 I2 hN hi hx r2 (λs3 I3=>⟨_,H2,I3,q2⟩) hf
 rcases l with ⟨hk,hm⟩|⟨hk,c,hc,XF⟩
 .exact O5 I.ok.kind hk hn hm go
 .rcases hk with hk|hk
  .exact wpAny_loadName_cell I.ok.kind hk hc XF go
  .rcases hx with k|k
   .have:X.env.scope.names.lookup x=some .free:=hk;rw [k] at this;cases this
   .have:X.env.scope.names.lookup x=some .free:=hk;rw [k] at this;cases this
def ipI(f:Int->Int->Int):TIp:=λx y H Q=>∃i j,x = .int i/\y = .int j/\Q (.int (f i j)) H
theorem DS:PIp X .Add (ipI λi j=>i+j):=by
 intro Go s σ H x y v u Q I r1 r2 h;obtain ⟨i,j,e1,e2,q⟩:=h;subst e1;subst e2;obtain ⟨t,rfl⟩:=r1;obtain ⟨t',rfl⟩:=r2;exact iadd_int ⟨.int _,H,I.tok _,⟨_,rfl⟩,q⟩
def oh(c:TT)(tb:TS):TS:=λD σ H=>∃W:Nat->St->Hp->Prop,(∃m,W m σ H)/\∀m σ H,W m σ H ->
 c σ H λb H1=>if b=true then ∃N:St->Hp->Prop,(∀σ' H',N σ' H'->∃m',m'<m/\W m' σ' H')/\tb { D with nx:=N,ct:=N,bk:=D.nx } σ H1 else D.nx σ H1
theorem sR{c:Mw}{tc:TT}(hp:Nb (LZ X.prog X.w) X.A X.env X.xe)(hc:W (PT X c tc))(hb:W (PSs X Zz tb)):W (PS X (.While c Zz [] pos) (oh tc tb)):=by
 refine ⟨?_⟩;have hc:=hc.h;have hb:=hb.h;intro Go s σ H D I h;obtain ⟨W,⟨m0,w0⟩,Yt⟩:=h;refine wpAny_While (codeAny_whileLoop (λn s'=>∃σ' H',Inv X Go σ' H' s'/\W n σ' H') ?_ m0 ⟨σ,H,I,w0⟩);rintro n s1 ⟨σ1,H1,I1,w1⟩;refine NF hp (thn (hc Go s1 σ1 H1 _ I1 (Yt n σ1 H1 w1)) λb s2=>x3e λH2 I2 q2=>?_);cases b with
 | true =>
  obtain ⟨N,hN,q2⟩:=q2;rw [if_pos rfl];refine NF hp (thn (hb Go s2 σ1 H2 _ I2 q2) λf s3 q3=>?_);cases f with
  | next =>
   obtain ⟨σ3,H3,I3,n3⟩:=q3;obtain ⟨m',hm,w3⟩:=hN σ3 H3 n3;exact ⟨m',hm,σ3,H3,I3,w3⟩
  | cont =>
   obtain ⟨σ3,H3,I3,n3⟩:=q3;obtain ⟨m',hm,w3⟩:=hN σ3 H3 n3;exact ⟨m',hm,σ3,H3,I3,w3⟩
  | brk=>exact q3
  | ret v=>exact q3
 | false =>
  rw [if_neg LM];exact Ou ⟨σ1,H2,I2,q2⟩
end
structure It where
 go:Nat->Hp->Prop
 yld:Nat->Hp->V->Hp->Prop
 stop:Nat->Hp->Prop
def cn(X:Cx)(Go:List (Addr×Obj))(H:Hp)(b:Addr):Prop :=
 H b=none/\b≠X.env.locals/\b∉X.fs/\(b∈X.ex\/X.s₀.heap.objs.size<=b)/\(∀x c,X.env.cells.lookup x=some c->c≠b)/\∀p∈X.pn++Go,p.1≠b
theorem Inv.fpOk{H':Hp}(I:Inv X Go σ H s)(hb:s.heap.objs.size<=b)(hn:H' b=none):cn X Go H' b:=by
 refine ⟨hn,NQ (L9 I.lt hb),I.nofs hb,.inr (Mp I.sz hb),λx c e z=>?_,λp hp z=>?_⟩
 .obtain ⟨v,q⟩:=I.cell x c e;exact absurd (L9 q.lt (by rw [z];exact hb)) (Ml _)
 .exact absurd (L9 (L7 (I.pin p hp).1) (by rw [z];exact hb)) (Ml _)
structure dj(c:Bool)(P:LV)(w:Mf)(K:LK)(tg:Mw)(J:It)(fp:List Addr)(it:Addr)(tn:Nat->Heap->Prop):Prop where
 mem:it∈fp
 obj:∀i h,tn i h->∀b∈fp,∃o,h.get? b=some o/\∀v,o.data≠.cell v
 keep:∀i h h',tn i h->(∀b∈fp,∀o,h.get? b=some o->h'.get? b=some o)->tn i h'
 item:∀(X:Cx),X.prog=P->X.w=w->X.K=K->(c=true->X.calm=true)->∀(i:Nat)(Go:List (Addr×Obj))(s:LF)(σ:St)(H:Hp)(E:Value->LF->Prop),Inv X Go σ H s->(∀b∈fp,cn X Go H b)->tn i s.heap->J.go i H ->
  LS (LZ P w) X.A (Oy (.ref it)) (λr s1=>∃u,r=some u /\
   LS (LZ P w) X.A (Ov tg (.ref it) u) (λ_ s2=>∃x H',Inv X Go σ H' s2/\zp x u/\J.yld i H x H'/\tn (i+1) s2.heap/\∀b∈fp,H' b=none) E s1) E s
 done:∀(X:Cx),X.prog=P->X.w=w->X.K=K->(c=true->X.calm=true)->∀(i:Nat)(Go:List (Addr×Obj))(s:LF)(σ:St)(H:Hp)(E:Value->LF->Prop),Inv X Go σ H s->(∀b∈fp,cn X Go H b)->tn i s.heap->J.stop i H ->
  LS (LZ P w) X.A (Oy (.ref it)) (λr s1=>r=none/\Inv X Go σ H s1) E s
 self:∀(A:Mn)(i:Nat)(s:LF)(Q:Value->LF->Prop)(E:Value->LF->Prop),tn i s.heap->Q (.ref it) s->LS (LZ P w) A (pyIter (.ref it)) Q E s
abbrev TI:=St->Hp->(It->Hp->Prop)->Prop
def PIE(c:Bool)(X:Cx)(Go:List (Addr×Obj))(σ:St)(tg:Mw)(R:It->Hp->Prop)(itv:Value)(s2:LF):Prop :=
 ∃(it:Addr)(fp:List Addr)(tn:Nat->Heap->Prop)(J:It)(H':Hp),itv = .ref it/\Inv X Go σ H' s2/\dj c X.prog X.w X.K tg J fp it tn/\tn 0 s2.heap/\(∀b∈fp,cn X Go H' b)/\R J H'
def PIc(c:Bool)(X:Cx)(tg iter:Mw)(wi:TI):Prop :=
 ∀(Go:List (Addr×Obj))(s:LF)(σ:St)(H:Hp)(R:It->Hp->Prop),Inv X Go σ H s->wi σ H R ->
  LS (LZ X.prog X.w) X.A (MJ iter X.env) (λv s1=>LS (LZ X.prog X.w) X.A (pyIter v) (PIE c X Go σ tg R) X.xe s1) X.xe s
abbrev PI:=PIc true
theorem gv{it:Addr}{n:String}{vs:Array Value}{Q:Unit->LF->Prop}(ho:s.heap.get? it=some o)(hc:o.cls = .type n)(hd:o.data = .fields vs)
  (hn:["enumerate","zip","dict_itemiterator","dict_reverseitemiterator","odict_iterator","itertools.zip_longest","itertools.pairwise"].contains n=false) (hQ:Q () s):LS M A (Ov tg (.ref it) u) Q E s:=by
 unfold Ov;cases tg<;>first
  | exact LJ hQ
  | (cases u<;>first
    | exact LJ hQ
    | (refine fv (wpAny_load ho ?_)
       rw [hc, hd];show LS M A (if (["enumerate", "zip", "dict_itemiterator", "dict_reverseitemiterator", "odict_iterator", "itertools.zip_longest", "itertools.pairwise"].contains n && vs[0]? == some (MP _)) = true then _ else _) Q E s;rw [if_neg (by intro h; rw [hn, PP] at h; cases h)];exact LJ hQ))
def Itl(K:LK)(a:Addr):It :=
 ⟨λi H=>∃xs x,SqL K H a xs/\xs[i]?=some x,λi H x H'=>H'=H/\∀xs,SqL K H a xs->xs[i]?=some x,λi H=>∃xs,SqL K H a xs/\xs.length<=i⟩
def Itt(K:LK)(a:Addr):It :=
 ⟨λi H=>∃xs x,SqT K H a xs/\xs[i]?=some x,λi H x H'=>H'=H/\∀xs,SqT K H a xs->xs[i]?=some x,λi H=>∃xs,SqT K H a xs/\xs.length<=i⟩
def Itr(lo:Int)(n:Nat):It:=⟨λi _=>i<n,λi H x H'=>H'=H/\x = .int (lo+i),λi _=>n<=i⟩
theorem jO(a it:Addr):dj true P w K tg (Itl K a) [it] it (λi h=>h.IsListIter it a i) where
 mem:=by simp
 obj:=λi h st b hb=>by
  have e:b=it:=by simpa using hb
  subst e;obtain ⟨o,e,c,d⟩:=st;exact ⟨o,e,λv z=>by rw [d] at z;cases z⟩
 keep:=λi h h' st k=>st.at λo e=>k it (by simp) o e
 item:=by
  intro X hP hw hK hc i Go s σ H E I hf st hg;subst hP hw hK;obtain ⟨xs,x,hq,hx⟩:=hg;obtain ⟨its,rv,p,hz⟩:=I.list hq;obtain ⟨u,hu,ru⟩:=rv.get hx;obtain ⟨f0,f1,f2,f3,f4,f5⟩:=hf it (by simp);refine wpAny_pyNext_list_item st p.isList (x:=u) (by simpa using hu) λh' YR sb=>?_;have I1:Inv X Go σ H { s with heap:=h' }:=I.turned (t':=s.toks) (λb o hb e=>(sb.2 b hb).trans e) f0 f1 f3 f4 f5;obtain ⟨o,e,c,d⟩:=id YR;exact ⟨u,rfl,gv (s:={ s with heap:=h' }) e c d (by decide) ⟨x,H,I1,ru,⟨rfl,λys hy=>by rw [I.list_inj hy hq];exact hx⟩,YR,λb hb=>(hf b hb).1⟩⟩
 done:=by
  intro X hP hw hK hc i Go s σ H E I hf st hg;subst hP hw hK;obtain ⟨xs,hq,hx⟩:=hg;obtain ⟨its,rv,p,hz⟩:=I.list hq;obtain ⟨f0,f1,f2,f3,f4,f5⟩:=hf it (by simp);have hl:=rv.length;exact wpAny_pyNext_list_end (I.ok.hd (hc rfl)) st p.isList (by simp;lia) λh' eb=>⟨rfl,I.turned (t':=s.toks) (λb o hb e=>eb b o hb e) f0 f1 f3 f4 f5⟩
 self:=λ_ _ _ _ _ st h=>wpAny_pyIter_listiter st h
theorem uQ(a it:Addr):dj true P w K tg (Itt K a) [it] it (λi h=>h.IsTupleIter it a i) where
 mem:=by simp
 obj:=λi h st b hb=>by
  have e:b=it:=by simpa using hb
  subst e;obtain ⟨o,e,c,d⟩:=st;exact ⟨o,e,λv z=>by rw [d] at z;cases z⟩
 keep:=λi h h' st k=>st.at λo e=>k it (by simp) o e
 item:=by
  intro X hP hw hK hc i Go s σ H E I hf st hg;subst hP hw hK;obtain ⟨xs,x,hq,hx⟩:=hg;obtain ⟨its,rv,p,hz⟩:=I.tuple hq;obtain ⟨u,hu,ru⟩:=rv.get hx;obtain ⟨f0,f1,f2,f3,f4,f5⟩:=hf it (by simp);refine wpAny_pyNext_tuple_item st (show s.heap.IsTuple a its.toArray from p) (x:=u) (by simpa using hu) λh' YR sb=>?_;have I1:Inv X Go σ H { s with heap:=h' }:=I.turned (t':=s.toks) (λb o hb e=>(sb.2 b hb).trans e) f0 f1 f3 f4 f5;obtain ⟨o,e,c,d⟩:=id YR;exact ⟨u,rfl,gv (s:={ s with heap:=h' }) e c d (by decide) ⟨x,H,I1,ru,⟨rfl,λys hy=>by rw [I.tuple_inj hy hq];exact hx⟩,YR,λb hb=>(hf b hb).1⟩⟩
 done:=by
  intro X hP hw hK hc i Go s σ H E I hf st hg;subst hP hw hK;obtain ⟨xs,hq,hx⟩:=hg;obtain ⟨its,rv,p,hz⟩:=I.tuple hq;obtain ⟨f0,f1,f2,f3,f4,f5⟩:=hf it (by simp);have hl:=rv.length;exact wpAny_pyNext_tuple_end (I.ok.hd (hc rfl)) st (show s.heap.IsTuple a its.toArray from p) (by simp;lia) λh' eb=>⟨rfl,I.turned (t':=s.toks) (λb o hb e=>eb b o hb e) f0 f1 f3 f4 f5⟩
 self:=λ_ _ _ _ _ st h=>wpAny_pyIter_tupleiter st h
theorem nC(it:Addr)(lo:Int)(n:Nat):dj true P w K tg (Itr lo n) [it] it (λi h=>Pg h it (lo+(i:Nat)*1) ((n:Int)-(i:Nat)) 1) where
 mem:=by simp
 obj:=λi h st b hb=>by
  have e:b=it:=by simpa using hb
  subst e;exact ⟨_,st,λv z=>by
   have z':Data.fields _=Data.cell v:=z;cases z'⟩
 keep:=λi h h' st k=>k it (by simp) _ st
 item:=by
  intro X hP hw hK hc i Go s σ H E I hf st hg;subst hP hw hK;obtain ⟨f0,f1,f2,f3,f4,f5⟩:=hf it (by simp);have W:=Walks.range (prog:=X.prog) (w:=X.w) (I.ok.hd (hc rfl)) it lo 1 n;refine W.item i s _ _ hg st λv h' tk hv YR kk=>?_;obtain ⟨t,rfl⟩:=hv;have I1:Inv X Go σ H { s with heap:=h',toks:=tk }:=I.turned (λb o hb e=>kk b o (by simpa using hb) e) f0 f1 f3 f4 f5;refine ⟨_,rfl,gv (s:={ s with heap:=h',toks:=tk }) (n:="range_iterator") YR rfl rfl (by decide) ⟨.int (lo+i),H,I1,⟨t,?_⟩,⟨rfl,rfl⟩,YR,λb hb=>(hf b hb).1⟩⟩;rw [Int.mul_one]
 done:=by
  intro X hP hw hK hc i Go s σ H E I hf st hg;subst hP hw hK;obtain ⟨f0,f1,f2,f3,f4,f5⟩:=hf it (by simp);exact wpAny_pyNext_range_end (I.ok.hd (hc rfl)) st (by have:n<=i:=hg;lia) λh' eb=>⟨rfl,I.turned (t':=s.toks) (λb o hb e=>eb b o hb e) f0 f1 f3 f4 f5⟩
 self:=λ_ _ _ _ _ st h=>wpAny_pyIter_rangeiter st h
section
variable {X:Cx}{tg:Mw}
def iz(K:LK)(tl:TE):TI:=λσ H R=>tl σ H λx H1=>∃a,x = .ref a/\(∃xs,SqL K H1 a xs)/\R (Itl K a) H1
def vI(K:LK)(tl:TE):TI:=λσ H R=>tl σ H λx H1=>∃a,x = .ref a/\(∃xs,SqT K H1 a xs)/\R (Itt K a) H1
theorem bR{l:Mw}{tl:TE}(hl:W (PE X l tl)):W (PI X tg l (iz X.K tl)):=by
 refine ⟨?_⟩;have hl:=hl.h;intro Go s σ H R I h;refine thn (hl Go s σ H _ I h) λv s1=>x5e λx H1 I1 r1 q1=>?_;obtain ⟨a,e,⟨xs,hq⟩,q⟩:=q1;subst e;cases r1;obtain ⟨its,rv,p,hz⟩:=I1.list hq;refine NJ p.isList ?_;refine ⟨s1.heap.objs.size,[s1.heap.objs.size],_,_,H1,rfl,I1.kept (t':=s1.toks) λb o e=>p8 _ e,jO a _,⟨_,LW _ rfl,rfl,rfl⟩,λb hb=>?_,q⟩;have e:b=s1.heap.objs.size:=by simpa using hb
 subst e;exact I1.fpOk (we _) (I1.hok.fresh (we _))
theorem BS{l:Mw}{tl:TE}(hl:W (PE X l tl)):W (PI X tg l (vI X.K tl)):=by
 refine ⟨?_⟩;have hl:=hl.h;intro Go s σ H R I h;refine thn (hl Go s σ H _ I h) λv s1=>x5e λx H1 I1 r1 q1=>?_;obtain ⟨a,e,⟨xs,hq⟩,q⟩:=q1;subst e;cases r1;obtain ⟨its,rv,p,hz⟩:=I1.tuple hq;refine Pt (show s1.heap.IsTuple a its.toArray from p) ?_;refine ⟨s1.heap.objs.size,[s1.heap.objs.size],_,_,H1,rfl,I1.kept (t':=s1.toks) λb o e=>p8 _ e,uQ a _,⟨_,LW _ rfl,rfl,rfl⟩,λb hb=>?_,q⟩;have e:b=s1.heap.objs.size:=by simpa using hb
 subst e;exact I1.fpOk (we _) (I1.hok.fresh (we _))
theorem GQ{R:It->Hp->Prop}{lo hi:Int}{t u v:Tok}{tk:Nat}(I:Inv X Go σ H s)(h1 : -(2 ^ 62)<=lo)(h2:lo<2 ^ 62)(h3 : -(2 ^ 62)<=hi)(h4:hi<2 ^ 62)
  (q:R (Itr lo (hi-lo).toNat) H):LS (LZ X.prog X.w) X.A (pyIter (.ref s.heap.objs.size)) (PIE true X Go σ tg R) E { s with heap:=s.heap.push { cls:=.type "range",data:=.fields #[.int lo t,.int hi u,.int 1 v] },toks:=tk }:=by
 refine wpAny_pyIter_range (IsRange.new ..) (small_one h1 h2 h3 h4) ?_;have I1:Inv X Go σ H { s with heap:=s.heap.push { cls:=.type "range",data:=.fields #[.int lo t,.int hi u,.int 1 v] },toks:=tk }:=I.kept λb o e=>p8 _ e;refine ⟨(s.heap.push { cls:=.type "range",data:=.fields #[.int lo t,.int hi u,.int 1 v] }).objs.size,[(s.heap.push { cls:=.type "range",data:=.fields #[.int lo t,.int hi u,.int 1 v] }).objs.size],_,_,H,rfl,
  I1.kept (t':=tk) λb o e=>p8 _ e,nC _ lo (hi-lo).toNat,?_,λb hb=>?_,q⟩
 .have e1:lo+((0:Nat):Int)*1=lo:=by simp
  have e2:(((hi-lo).toNat:Nat):Int)-((0:Nat):Int)=L5.Range.rangeSize lo hi 1:=by rw [rangeSize_one];split<;>lia
  show Pg _ _ (lo+((0:Nat):Int)*1) ((((hi-lo).toNat:Nat):Int)-((0:Nat):Int)) 1;rw [e1,e2];exact LW _ rfl
 .have e:b=(s.heap.push { cls:=.type "range",data:=.fields #[.int lo t,.int hi u,.int 1 v] }).objs.size:=by simpa using hb
  subst e;exact I1.fpOk (we _) (I1.hok.fresh (we _))
def iy(ta:TA):TI:=λσ H R=>ta σ H λvs H1=>∃j:Int,vs=[.int j]/\-(2 ^ 62)<=j/\j<2 ^ 62/\R (Itr 0 j.toNat) H1
theorem Ls{a:Mw}{ta:TA}{p:Pos}(hg:Gl X "range")(hm:X.mg "range"=none)(ha:PA X [a] ta)(hs:Ma [a] X.env=[(false,MJ a X.env)]:=by rfl):PI X tg (.Call (.Name "range" p) [a] [] pos) (iy ta):=by
 intro Go s σ H R I h;refine Call_ (dO I hg hm boot_range (Nd (thn (ha pos Go s σ H _ I h) λus s1=>x5e λvs H1 I1 r1 q1=>?_) hs rfl));obtain ⟨j,e,q1,q2,q⟩:=q1;subst e;cases r1 with
 | cons r rr =>
  cases rr;obtain ⟨t,rfl⟩:=r;exact call_range_1 (GQ I1 (by lia) (by lia) q1 q2 (by simpa using q))
def rq(wi:TI)(g:TG)(tb:TS):TS:=λD σ H=>wi σ H λJ H1=>∃W:Nat->Nat->St->Hp->Prop,(∃m,W 0 m σ H1)/\∀i m σ H,W i m σ H ->
 (J.stop i H/\D.nx σ H)\/(J.go i H/\∃N:St->Hp->Prop,(∀σ' H',N σ' H'->∃m',m'<m/\W (i+1) m' σ' H')/\∀x H',J.yld i H x H'->g x σ H' λσ2 H2=>tb { D with nx:=N,ct:=N,bk:=D.nx } σ2 H2)
def gU(fp:List Addr)(h:Heap):List (Addr×Obj):=fp.filterMap λb=>(h.get? b).map λo=>(b,o)
theorem jB(hb:b∈fp)(e:h.get? b=some o):(b,o)∈gU fp h:=O0.mpr ⟨b,hb,by rw [e];rfl⟩
theorem CV{p:Addr×Obj}(hp:p∈gU fp h):p.1∈fp/\h.get? p.1=some p.2:=by
 obtain ⟨b,hb,e⟩:=O0.mp hp;cases q:h.get? b with
 | none=>rw [q] at e;cases e
 | some o =>
  rw [q] at e;have e':(b,o)=p:=Ms.inj e;subst e';exact ⟨hb,q⟩
theorem Inv.pinned(I:Inv X Go σ H s)(hf:∀b∈fp,cn X Go H b)(ho:∀b∈fp,∃o,s.heap.get? b=some o/\∀v,o.data≠.cell v):Inv X (Go++gU fp s.heap) σ H s :=
 I.pins_of λp hp=>(My.mp hp).elim (λz=>I.pin p (Mb _ z)) λz=>by
  obtain ⟨hb,e⟩:=CV z;obtain ⟨f0,f1,f2,_⟩:=hf p.1 hb;obtain ⟨o,e',d⟩:=ho p.1 hb;rw [e] at e';cases e';exact ⟨e,f0,f1,f2,d⟩
theorem Inv.unpinned{pl:List (Addr×Obj)}(I:Inv X (Go++pl) σ H s):Inv X Go σ H s:=I.pins_of λp hp=>I.pin p (Mb _ (MR _ hp))
theorem cb{iter:Mw}{wi:TI}{g:TG}(hp:Nb (LZ X.prog X.w) X.A X.env X.xe)(hc:c=true->X.calm=true)(hi:W (PIc c X tg iter wi))(hg:W (PG X tg g))(hb:W (PSs X Zz tb))
  (hs:∀x,Nt iter X.env x=pure x:=by intro _;rfl):W (PS X (.For tg iter Zz [] pos) (rq wi g tb)):=by
 refine ⟨?_⟩;have hi:=hi.h;have hg:=hg.h;have hb:=hb.h;intro Go s σ H D I h;refine wpAny_For (thn (hi Go s σ H _ I h) λv s1 h1=>thn h1 λitv s2 h2=>?_) hs;obtain ⟨it,fp,tn,J,H2,e,I2,T,st2,f2,W,⟨m0,w0⟩,Yt⟩:=h2;subst e;have stat:∀{H':Hp},(∀b∈fp,H' b=none)->∀b∈fp,cn X Go H' b:=λhn b hb=>⟨hn b hb,(f2 b hb).2⟩;refine codeAny_forLoop_any (λn s'=>∃i σ' H',Inv X Go σ' H' s'/\tn i s'.heap/\(∀b∈fp,H' b=none)/\W i n σ' H') ?_ m0 ⟨0,σ,H2,I2,st2,λb hb=>(f2 b hb).1,w0⟩;rintro n s3 ⟨i,σ3,H3,I3,st3,fr3,w3⟩;rcases Yt i n σ3 H3 w3 with ⟨stop,qn⟩|⟨go,N,hN,step⟩
 .refine NF hp (thn (T.done X rfl rfl rfl hc i Go s3 σ3 H3 X.xe I3 (stat fr3) st3 stop) λr s4=>x2e λhr I4=>?_);subst hr;exact Ou ⟨σ3,H3,I4,qn⟩
 .refine NF hp (thn (T.item X rfl rfl rfl hc i Go s3 σ3 H3 X.xe I3 (stat fr3) st3 go) λr s4=>x3e λu hr h4=>?_);subst hr;refine NF hp (thn h4 λ_ s5=>x5e λx H5 I5 r5 Ys=>?_);obtain ⟨y5,st5,fr5⟩:=Ys;have I5':=I5.pinned (stat fr5) (T.obj _ _ st5);refine NF hp (thn (hg _ s5 σ3 H5 x u _ I5' r5 (step x H5 y5)) λ_ s6=>x4e λσ6 H6 I6 q6=>?_);refine NF hp (thn (hb _ s6 σ6 H6 _ I6 q6) λf s7 q7=>?_);have again:∀{σ7:St}{H7:Hp},Inv X (Go++gU fp s5.heap) σ7 H7 s7->N σ7 H7->∃m,m<n/\∃i σ' H',Inv X Go σ' H' s7/\tn i s7.heap/\(∀b∈fp,H' b=none)/\W i m σ' H':=λ{σ7 H7} I7 n7=>by
   obtain ⟨m',hm,w7⟩:=hN σ7 H7 n7;refine ⟨m',hm,i+1,σ7,H7,I7.unpinned,T.keep _ _ _ st5 λb hb o e=>(I7.pin (b,o) (Mb _ (Mb _ (jB hb e)))).1,λb hb=>?_,w7⟩;obtain ⟨o,e,d⟩:=T.obj _ _ st5 b hb;exact (I7.pin (b,o) (Mb _ (Mb _ (jB hb e)))).2.1
  cases f with
  | next=>obtain ⟨σ7,H7,I7,n7⟩:=q7;exact again I7 n7
  | cont=>obtain ⟨σ7,H7,I7,n7⟩:=q7;exact again I7 n7
  | brk=>obtain ⟨σ7,H7,I7,q7⟩:=q7;exact ⟨σ7,H7,I7.unpinned,q7⟩
  | ret v=>obtain ⟨x7,σ7,H7,I7,r7,q7⟩:=q7;exact ⟨x7,σ7,H7,I7.unpinned,r7,q7⟩
end
theorem GN{g:TG}{D:aL}(Pv:Nat->St->Hp->Prop)(h0:Pv 0 σ H)(hl:∀i σ H,i<=xs.length->Pv i σ H->SqL K H a xs)
  (hs:∀i x σ H,xs[i]?=some x->Pv i σ H->g x σ H λσ2 H2=>tb { D with nx:=Pv (i+1),ct:=Pv (i+1),bk:=D.nx } σ2 H2) (hd:∀σ H,Pv xs.length σ H->D.nx σ H) :
  ∃W:Nat->Nat->St->Hp->Prop,(∃m,W 0 m σ H)/\∀i m σ H,W i m σ H ->
   ((Itl K a).stop i H/\D.nx σ H)\/((Itl K a).go i H/\∃N:St->Hp->Prop,(∀σ' H',N σ' H'->∃m',m'<m/\W (i+1) m' σ' H')/\∀x H',(Itl K a).yld i H x H'->g x σ H' λσ2 H2=>tb { D with nx:=N,ct:=N,bk:=D.nx } σ2 H2):=by
 refine ⟨λi m σ H=>m=xs.length-i/\i<=xs.length/\Pv i σ H,⟨xs.length,by simp,MM _,h0⟩,?_⟩;rintro i m σ H ⟨rfl,hi,p⟩;have q:=hl i σ H hi p;by_cases ZO:i<xs.length
 .refine .inr ⟨⟨xs,xs[i],q,by simp [ZO]⟩,Pv (i+1),λσ' H' p'=>⟨xs.length-(i+1),by lia,rfl,ZO,p'⟩,λx H' y=>?_⟩;obtain ⟨e,y⟩:=y;subst e;exact hs i x σ _ (y xs q) p
 .have e:i=xs.length:=by lia
  subst e;exact .inl ⟨⟨xs,q,we _⟩,hd σ H p⟩
theorem KQ{lo:Int}{n:Nat}{g:TG}{D:aL}(Pv:Nat->St->Hp->Prop)(h0:Pv 0 σ H)
  (hs:∀i σ H,i<n->Pv i σ H->g (.int (lo+i)) σ H λσ2 H2=>tb { D with nx:=Pv (i+1),ct:=Pv (i+1),bk:=D.nx } σ2 H2) (hd:∀σ H,Pv n σ H->D.nx σ H) :
  ∃W:Nat->Nat->St->Hp->Prop,(∃m,W 0 m σ H)/\∀i m σ H,W i m σ H ->
   ((Itr lo n).stop i H/\D.nx σ H)\/((Itr lo n).go i H/\∃N:St->Hp->Prop,(∀σ' H',N σ' H'->∃m',m'<m/\W (i+1) m' σ' H')/\∀x H',(Itr lo n).yld i H x H'->g x σ H' λσ2 H2=>tb { D with nx:=N,ct:=N,bk:=D.nx } σ2 H2):=by
 refine ⟨λi m σ H=>m=n-i/\i<=n/\Pv i σ H,⟨n,by simp,MM _,h0⟩,?_⟩;rintro i m σ H ⟨rfl,hi,p⟩;by_cases ZO:i<n
 .refine .inr ⟨ZO,Pv (i+1),λσ' H' p'=>⟨n-(i+1),by lia,rfl,ZO,p'⟩,λx H' y=>?_⟩;obtain ⟨e,y⟩:=y;subst e y;exact hs i σ _ ZO p
 .have e:i=n:=by lia
  subst e;exact .inl ⟨we _,hd σ H p⟩
abbrev R2:=V->V->Hp->VK->Prop
def OpR(X:Cx)(f:Value->Value->Sem Value)(r:R2):Prop :=
 ∀(Go:List (Addr×Obj))(s:LF)(σ:St)(H:Hp)(x y:V)(v u:Value)(Q:VK),Inv X Go σ H s->zp x v->zp y u->r x y H Q ->
  LS (LZ X.prog X.w) X.A (f v u) (EP X Go σ Q) X.xe s
def UnR(X:Cx)(f:Value->Sem Value)(r:V->Hp->VK->Prop):Prop :=
 ∀(Go:List (Addr×Obj))(s:LF)(σ:St)(H:Hp)(x:V)(v:Value)(Q:VK),Inv X Go σ H s->zp x v->r x H Q ->
  LS (LZ X.prog X.w) X.A (f v) (EP X Go σ Q) X.xe s
def zN(X:Cx)(f:Value)(r:List V->Hp->VK->Prop):Prop :=
 ∀(Go:List (Addr×Obj))(s:LF)(σ:St)(H:Hp)(xs:List V)(us:List Value)(Q:VK),Inv X Go σ H s->zq xs us->r xs H Q ->
  LS (LZ X.prog X.w) X.A (call f us) (EP X Go σ Q) X.xe s
def yV(X:Cx)(r:V->Hp->(Bool->Hp->Prop)->Prop):Prop :=
 ∀(Go:List (Addr×Obj))(s:LF)(σ:St)(H:Hp)(x:V)(v:Value)(Q:Bool->Hp->Prop),Inv X Go σ H s->zp x v->r x H Q ->
  LS (LZ X.prog X.w) X.A (truthy v) (TP X Go σ Q) X.xe s
def tOp(r:R2)(ta tb:TE):TE:=λσ H Q=>ta σ H λx H1=>tb σ H1 λy H2=>r x y H2 Q
def tUn(r:V->Hp->VK->Prop)(ta:TE):TE:=λσ H Q=>ta σ H λx H1=>r x H1 Q
def rI(C:Int->Int->Prop)(g:Int->Int->V):R2:=λx y H Q=>∃i j,x = .int i/\y = .int j/\C i j/\Q (g i j) H
def rI0(g:Int->Int->V):R2:=λx y H Q=>∃i j,x = .int i/\y = .int j/\Q (g i j) H
def rU(g:Int->V):V->Hp->VK->Prop:=λx H Q=>∃i,x = .int i/\Q (g i) H
section
variable {X:Cx}{a b c:Mw}{ta tb tc:TE}{pos:Pos}
theorem mi(ha:PE X a ta)(hb:PE X b tb){R:V->V->Hp->Prop}(I:Inv X Go σ H s)
  (h:ta σ H λx H1=>tb σ H1 λy H2=>R x y H2) 
  (hf:∀v u s2 x y H2,Inv X Go σ H2 s2->zp x v->zp y u->R x y H2->LS (LZ X.prog X.w) X.A (f v u) Q X.xe s2) :
  LS (LZ X.prog X.w) X.A (MJ a X.env) (λv s₁=>LS (LZ X.prog X.w) X.A (MJ b X.env) (λu s₂=>LS (LZ X.prog X.w) X.A (f v u) Q X.xe s₂) X.xe s₁) X.xe s:=by
 refine thn (ha Go s σ H _ I h) λv s1=>x5e λx H1 I1 r1 q1=>?_;refine thn (hb Go s1 σ H1 _ I1 q1) λu s2=>x5e λy H2 I2 r2 q2=>?_;exact hf v u s2 x y H2 I2 r1 r2 q2
theorem zz{op:Operator}{r:R2}(ho:OpR X (Nl op) r)(ha:W (PE X a ta))(hb:W (PE X b tb)):W (PE X (.BinOp a op b pos) (tOp r ta tb)):=by
 refine ⟨?_⟩;have ha:=ha.h;have hb:=hb.h;intro Go s σ H Q I h;exact wpAny_BinOp (mi ha hb I h λv u s2 x y H2 I2 rx ry q=>ho Go s2 σ H2 x y v u Q I2 rx ry q)
theorem jR{op:UnaryOp}{r:V->Hp->VK->Prop}(ho:UnR X (unaryOp op) r)(ha:W (PE X a ta)):W (PE X (.UnaryOp op a pos) (tUn r ta)):=by
 refine ⟨?_⟩;have ha:=ha.h;intro Go s σ H Q I h;exact UnaryOp_ (thn (ha Go s σ H _ I h) λv s1=>x5e λx H1 I1 r1 q1=>ho Go s1 σ H1 x v Q I1 r1 q1)
theorem opI{C:Int->Int->Prop}{g:Int->Int->Int}
  (rule:∀(i j:Int)(t u:Tok)(s:LF)(Q:Value->LF->Prop)(E:Value->LF->Prop),C i j->Q (.int (g i j) s.toks) { s with toks:=s.toks+1 }->LS (LZ X.prog X.w) X.A (f (.int i t) (.int j u)) Q E s) :
  OpR X f (rI C λi j=>.int (g i j)):=by
 intro Go s σ H x y v u Q I rx ry h;obtain ⟨i,j,rfl,rfl,hc,q⟩:=h;obtain ⟨t,rfl⟩:=rx;obtain ⟨t',rfl⟩:=ry;exact rule i j t t' s _ _ hc ⟨.int (g i j),H,I.tok _,⟨_,rfl⟩,q⟩
theorem uN{g:Int->Int->Int}
  (rule:∀(i j:Int)(t u:Tok)(s:LF)(Q:Value->LF->Prop)(E:Value->LF->Prop),Q (.int (g i j) s.toks) { s with toks:=s.toks+1 }->LS (LZ X.prog X.w) X.A (f (.int i t) (.int j u)) Q E s) :
  OpR X f (rI0 λi j=>.int (g i j)):=by
 intro Go s σ H x y v u Q I rx ry h;obtain ⟨i,j,rfl,rfl,q⟩:=h;obtain ⟨t,rfl⟩:=rx;obtain ⟨t',rfl⟩:=ry;exact rule i j t t' s _ _ ⟨.int (g i j),H,I.tok _,⟨_,rfl⟩,q⟩
theorem mv{g:Int->Int->Bool}
  (rule:∀(i j:Int)(t u:Tok)(s:LF)(Q:Value->LF->Prop)(E:Value->LF->Prop),Q (.bool (g i j)) s->LS (LZ X.prog X.w) X.A (f (.int i t) (.int j u)) Q E s) :
  OpR X f (rI0 λi j=>.bl (g i j)):=by
 intro Go s σ H x y v u Q I rx ry h;obtain ⟨i,j,rfl,rfl,q⟩:=h;obtain ⟨t,rfl⟩:=rx;obtain ⟨t',rfl⟩:=ry;exact rule i j t t' s _ _ ⟨.bl (g i j),H,I,rfl,q⟩
def EX(i j:Int):Prop:=0<j/\j<1073741824
def Ff(i j:Int):Prop:=0<=j/\j<=1000000/\i.natAbs<2 ^ 64
def hG(i j:Int):Prop:=(-(2 ^ 64)<i/\i<2 ^ 64)\/(-(2 ^ 64)<j/\j<2 ^ 64)
theorem hG.ok{i j:Int}(h:hG i j):IntMulOk i j:=by
 rcases h with ⟨h1,h2⟩|⟨h1,h2⟩
 .exact .of_left (intBits_le_64 h1 h2)
 .exact .of_right (intBits_le_64 h1 h2)
theorem DK:OpR X (Nl .Add) (rI0 λi j=>.int (i+j)):=uN λ_ _ _ _ _ _ _ q=>add_int q
theorem fg:OpR X (Nl .Sub) (rI0 λi j=>.int (i-j)):=uN λ_ _ _ _ _ _ _ q=>sub_int q
theorem BK:OpR X (Nl .Mult) (rI hG λi j=>.int (i*j)):=opI λ_ _ _ _ _ _ _ hc q=>mul_int q hc.ok
theorem o3:OpR X (Nl .FloorDiv) (rI EX λi j=>.int (i / j)):=opI λi j _ _ _ _ _ hc q=>by
 have h1:(0:Int)<j:=hc.1;have h2:j<1073741824:=hc.2;exact floordiv_int (by lia) (by rw [Int.fdiv_eq_ediv_of_nonneg i (by lia)];exact q) (.inl (PyProof.noPylong_small (by lia)))
theorem eY:OpR X (Nl .Mod) (rI (λ_ j=>0<j) λi j=>.int (i % j)):=opI λi j _ _ _ _ _ hc q=>by
 have h1:(0:Int)<j:=hc;exact mod_int' (by lia) (by rw [Int.fmod_eq_emod_of_nonneg i (by lia)];exact q)
theorem qE:OpR X (Nl .Pow) (rI Ff λi j=>.int (i ^ j.toNat)):=opI λ_ _ _ _ _ _ _ hc q=>pow_int_small hc.1 hc.2.1 hc.2.2 q
theorem unI{f:Value->Sem Value}{g:Int->Int}
  (rule:∀(i:Int)(t:Tok)(s:LF)(Q:Value->LF->Prop)(E:Value->LF->Prop),Q (.int (g i) s.toks) { s with toks:=s.toks+1 }->LS (LZ X.prog X.w) X.A (f (.int i t)) Q E s) :
  UnR X f (rU λi=>.int (g i)):=by
 intro Go s σ H x v Q I rx h;obtain ⟨i,rfl,q⟩:=h;obtain ⟨t,rfl⟩:=rx;exact rule i t s _ _ ⟨.int (g i),H,I.tok _,⟨_,rfl⟩,q⟩
theorem jn:UnR X (unaryOp .USub) (rU λi=>.int (-i)):=unI λ_ _ _ _ _ q=>neg_int q
end
def fB:V->V->Bool
 | .non,.non=>true | .non,.int _=>true | .int _,.non=>true | .non,.bl _=>true | .bl _,.non=>true | .non,.str _=>true | .str _,.non=>true
 | .int _,.int _=>true | .bl _,.bl _=>true | .str _,.str _=>true | .byt _,.byt _=>true
 | .int _,.str _=>true | .str _,.int _=>true | .bl _,.str _=>true | .str _,.bl _=>true
 | _,_=>false
def rEq:R2:=λx y H Q=>fB x y=true/\Q (.bl (decide (x=y))) H
def rNe:R2:=λx y H Q=>fB x y=true/\Q (.bl (!decide (x=y))) H
theorem yL{i j:Int}:decide (V.int i=V.int j)=(i==j):=by
 rw [N6];simp
theorem yc{i j:Bool}:decide (V.bl i=V.bl j)=(i==j):=by
 rw [N6];simp
theorem uA{i j:Str}:decide (V.str i=V.str j)=(i==j):=by
 rw [N6];simp
theorem qM{i j:Array UInt8}:decide (V.byt i=V.byt j)=(i.toList==j.toList):=by
 rw [N6];cases i;cases j;simp
section
variable {X:Cx}{a b c:Mw}{ta tb tc:TE}{pos:Pos}
theorem zV{Q:VK}{k k':Bool}(I:Inv X Go σ H s)(q:Q (.bl k) H)(e:k=k'):EP X Go σ Q (.bool k') s:=by
 subst e;exact ⟨.bl k,H,I,rfl,q⟩
theorem Cd:OpR X (MA .Eq) rEq:=by
 intro Go s σ H x y v u Q I rx ry h;obtain ⟨hs,q⟩:=h;cases x with
 | non =>
  cases rx;cases y with
  | non=>cases ry;exact PySem.EqNone.eq_none_none (zV I q (by simp))
  | bl j=>cases ry;exact PySem.EqNone.eq_none_bool (zV I q (by simp))
  | int j=>obtain ⟨t',rfl⟩:=ry;exact PySem.EqNone.eq_none_int (zV I q (by simp))
  | str j=>obtain ⟨t',rfl⟩:=ry;exact PySem.EqNone.eq_none_str (zV I q (by simp))
  | _=>exact absurd (show false=true from hs) LM
 | bl i =>
  cases rx;cases y with
  | non=>cases ry;exact PySem.EqNone.eq_bool_none (zV I q (by simp))
  | bl j=>cases ry;exact eq_bool (zV I q yc)
  | str j=>obtain ⟨t',rfl⟩:=ry;exact PySem.EqMixed.eq_bool_str (zV I q (by simp))
  | _=>exact absurd (show false=true from hs) LM
 | int i =>
  obtain ⟨t,rfl⟩:=rx;cases y with
  | non=>cases ry;exact PySem.EqNone.eq_int_none (zV I q (by simp))
  | int j=>obtain ⟨t',rfl⟩:=ry;exact eq_int (zV I q yL)
  | str j=>obtain ⟨t',rfl⟩:=ry;exact PySem.EqMixed.eq_int_str (zV I q (by simp))
  | _=>exact absurd (show false=true from hs) LM
 | str i =>
  obtain ⟨t,rfl⟩:=rx;cases y with
  | non=>cases ry;exact PySem.EqNone.eq_str_none (zV I q (by simp))
  | bl j=>cases ry;exact PySem.EqMixed.eq_str_bool (zV I q (by simp))
  | int j=>obtain ⟨t',rfl⟩:=ry;exact PySem.EqMixed.eq_str_int (zV I q (by simp))
  | str j=>obtain ⟨t',rfl⟩:=ry;exact eq_str (zV I q uA)
  | _=>exact absurd (show false=true from hs) LM
 | byt i =>
  obtain ⟨t,rfl⟩:=rx;cases y with
  | byt j=>obtain ⟨t',rfl⟩:=ry;exact PySem.W.eq_bytes (zV I q qM)
  | _=>exact absurd (show false=true from hs) LM
 | _=>cases y<;>exact absurd (show false=true from hs) LM
theorem BM:OpR X (MA .NotEq) rNe:=by
 intro Go s σ H x y v u Q I rx ry h;obtain ⟨hs,q⟩:=h;cases x with
 | non =>
  cases rx;cases y with
  | non=>cases ry;exact PySem.EqNone.ne_none_none (zV I q (by simp))
  | bl j=>cases ry;exact PySem.EqNone.ne_none_bool (zV I q (by simp))
  | int j=>obtain ⟨t',rfl⟩:=ry;exact PySem.EqNone.ne_none_int (zV I q (by simp))
  | str j=>obtain ⟨t',rfl⟩:=ry;exact PySem.EqNone.ne_none_str (zV I q (by simp))
  | _=>exact absurd (show false=true from hs) LM
 | bl i =>
  cases rx;cases y with
  | non=>cases ry;exact PySem.EqNone.ne_bool_none (zV I q (by simp))
  | bl j=>cases ry;exact ne_bool (zV I q (congrArg not yc))
  | str j=>obtain ⟨t',rfl⟩:=ry;exact PySem.EqMixed.ne_bool_str (zV I q (by simp))
  | _=>exact absurd (show false=true from hs) LM
 | int i =>
  obtain ⟨t,rfl⟩:=rx;cases y with
  | non=>cases ry;exact PySem.EqNone.ne_int_none (zV I q (by simp))
  | int j=>obtain ⟨t',rfl⟩:=ry;exact ne_int (zV I q (congrArg not yL))
  | str j=>obtain ⟨t',rfl⟩:=ry;exact PySem.EqMixed.ne_int_str (zV I q (by simp))
  | _=>exact absurd (show false=true from hs) LM
 | str i =>
  obtain ⟨t,rfl⟩:=rx;cases y with
  | non=>cases ry;exact PySem.EqNone.ne_str_none (zV I q (by simp))
  | bl j=>cases ry;exact PySem.EqMixed.ne_str_bool (zV I q (by simp))
  | int j=>obtain ⟨t',rfl⟩:=ry;exact PySem.EqMixed.ne_str_int (zV I q (by simp))
  | str j=>obtain ⟨t',rfl⟩:=ry;exact ne_str (zV I q (congrArg not uA))
  | _=>exact absurd (show false=true from hs) LM
 | byt i =>
  obtain ⟨t,rfl⟩:=rx;cases y with
  | byt j=>obtain ⟨t',rfl⟩:=ry;exact PySem.W.ne_bytes (zV I q (congrArg not qM))
  | _=>exact absurd (show false=true from hs) LM
 | _=>cases y<;>exact absurd (show false=true from hs) LM
theorem fT:OpR X (MA .Lt) (rI0 λi j=>.bl (decide (i<j))):=mv λ_ _ _ _ _ _ _ q=>lt_int q
theorem jc:OpR X (MA .LtE) (rI0 λi j=>.bl (decide (i<=j))):=mv λ_ _ _ _ _ _ _ q=>le_int q
theorem kR:OpR X (MA .Gt) (rI0 λi j=>.bl (decide (j<i))):=mv λ_ _ _ _ _ _ _ q=>gt_int q
theorem AY:OpR X (MA .In) (λx y H Q=>∃i j,x = .str i/\y = .str j/\Q (.bl (!(L5.Str.occurrences j i 0 j.length 1).isEmpty)) H):=by
 intro Go s σ H x y v u Q I rx ry h;obtain ⟨i,j,rfl,rfl,q⟩:=h;obtain ⟨t,rfl⟩:=rx;obtain ⟨t',rfl⟩:=ry;exact in_str (zV I q rfl)
theorem Io:OpR X (MA .Is) (λx y H Q=>y = .non/\Q (.bl (decide (x = .non))) H):=by
 intro Go s σ H x y v u Q I rx ry h;obtain ⟨rfl,q⟩:=h;cases ry;refine is_none_gen (zV I q ?_);cases x<;>first
  | (cases rx;rfl)
  | (obtain ⟨t,rfl⟩:=rx;rfl)
theorem AM:OpR X (MA .IsNot) (λx y H Q=>y = .non/\Q (.bl (!decide (x = .non))) H):=by
 intro Go s σ H x y v u Q I rx ry h;obtain ⟨rfl,q⟩:=h;cases ry;refine isnot_none_gen (zV I q ?_);cases x<;>first
  | (cases rx;rfl)
  | (obtain ⟨t,rfl⟩:=rx;rfl)
theorem OpR.or{r r':R2}(h:OpR X f r)(h':OpR X f r'):OpR X f (λx y H Q=>r x y H Q\/r' x y H Q):=by
 intro Go s σ H x y v u Q I rx ry q;rcases q with q|q
 .exact h Go s σ H x y v u Q I rx ry q
 .exact h' Go s σ H x y v u Q I rx ry q
theorem zF(b:Mw)(h:op≠.In:=by decide)(h2:op≠.NotIn:=by decide):O1 op b=false:=by
 have e1:(op==CmpOp.In)=false:=by cases op<;>first|rfl|exact absurd rfl h
 have e2:(op==CmpOp.NotIn)=false:=by cases op<;>first|rfl|exact absurd rfl h2
 cases b<;>simp [O1,e1,e2]
theorem dI{r:R2}(ho:OpR X (MA op) r)(ha:W (PE X a ta))(hb:W (PE X b tb))(hm:O1 op b=false):W (PE X (.Compare a [op] [b] pos) (tOp r ta tb)):=by
 refine ⟨?_⟩;have ha:=ha.h;have hb:=hb.h;intro Go s σ H Q I h;exact wpAny_Compare1 (mi ha hb I h λv u s2 x y H2 I2 rx ry q=>ho Go s2 σ H2 x y v u Q I2 rx ry q) hm
def kW(t:TE):TT:=λσ H Q=>t σ H λx H'=>∃k,x = .bl k/\Q k H'
theorem ue{r:R2}(ho:OpR X (MA op) r)(ha:PE X a ta)(hb:PE X b tb)(hm:O1 op b=false):PT X (.Compare a [op] [b] pos) (kW (tOp r ta tb)):=by
 intro Go s σ H Q I h;refine wpAny_isTrue_Compare1 (thn (ha Go s σ H _ I h) λv s1=>x5e λx H1 I1 r1 q1=>thn (hb Go s1 σ H1 _ I1 q1) λu s2=>x5e λy H2 I2 r2 q2 =>
  thn (ho Go s2 σ H2 x y v u _ I2 r1 r2 q2) λc s3=>x5e λz H3 I3 r3 Xy=>?_) hm
 obtain ⟨k,e,q3⟩:=Xy;subst e;cases r3;exact Nr ⟨H3,I3,q3⟩
def wt(r r':R2)(ta tb tc:TE):TE:=λσ H Q=>ta σ H λx H1=>tb σ H1 λy H2=>r x y H2 λz H3=>∃k,z = .bl k /\
 (if k=true then tc σ H3 λw' H4=>r' y w' H4 Q else Q (.bl false) H3)
theorem uv{op':CmpOp}{r r':R2}(ho:OpR X (MA op) r)(Yu:OpR X (MA op') r')(ha:W (PE X a ta))(hb:W (PE X b tb))(hc:W (PE X c tc))
  (hm:lastMarks [op,op'] [b,c]=false:=by with_unfolding_all rfl):W (PE X (.Compare a [op,op'] [b,c] pos) (wt r r' ta tb tc)):=by
 refine ⟨?_⟩;have ha:=ha.h;have hb:=hb.h;have hc:=hc.h;intro Go s σ H Q I h;refine Compare_chain (thn (ha Go s σ H _ I h) λv s1=>x5e λx H1 I1 r1 q1=>chain_link (thn (hb Go s1 σ H1 _ I1 q1) λu s2=>x5e λy H2 I2 r2 q2 =>
  thn (ho Go s2 σ H2 x y v u _ I2 r1 r2 q2) λd s3=>x5e λz H3 I3 r3 zz3=>?_)) hm
 obtain ⟨k,e,q3⟩:=zz3;subst e;cases r3;refine Nr ?_;cases k with
 | false=>exact ite_ff ⟨.bl false,H3,I3,rfl,q3⟩
 | true=>exact ite_tt (chain_last (thn (hc Go s3 σ H3 _ I3 q3) λw' s4=>x5e λz' H4 I4 r4 q4=>Yu Go s4 σ H4 y z' u w' Q I4 r2 r4 q4))
def fM(K:LK)(x:V)(H:Hp)(k:Bool):Prop :=
 match x with
 | .non=>k=false
 | .bl b=>k=b
 | .int i=>k=(i != 0)
 | .str y=>y.length<=sizeLine/\k=((y.length:Int) != 0)
 | .byt y=>y.size<=sizeLine/\k=((y.size:Int) != 0)
 | .ref p=>(∃xs,SqL K H p xs/\k = !xs.isEmpty)\/(∃xs,SqT K H p xs/\k = !xs.isEmpty)\/∃kvs,H p=some (.dK kvs)/\k = !kvs.isEmpty
 | _=>False
theorem BF{κ:Type}{kvs:List (κ×V)}{vs:List (κ×Value)}(r:KV kvs vs):(!vs.isEmpty) = !kvs.isEmpty:=by
 cases r<;>rfl
theorem yF{its:List Value}(r:zq xs its):(!its.toArray.isEmpty) = !xs.isEmpty:=by
 cases r<;>simp
theorem fu:(sizeLine:Nat)<2 ^ 63:=by rw [ML];decide
theorem Hm:yV X (λx H Q=>∃k,fM X.K x H k/\Q k H):=by
 intro Go s σ H x v Q I rx h;obtain ⟨k,e,q⟩:=h;have hl:=fu;have hs:sizeLine=16777216:=ML;cases x with
 | non =>
  cases rx;have e':k=false:=e;subst e';exact truthy_none ⟨H,I,q⟩
 | bl b =>
  cases rx;have e':k=b:=e;subst e';exact Nr ⟨H,I,q⟩
 | int i =>
  obtain ⟨t,rfl⟩:=rx;have e':k=(i != 0):=e;subst e';exact PySem.P.truthy_int ⟨H,I,q⟩
 | str y =>
  obtain ⟨t,rfl⟩:=rx;obtain ⟨hy,e'⟩:y.length<=sizeLine/\k=((y.length:Int) != 0):=e;subst e';exact PySem.P.truthy_str (by lia) ⟨H,I.tok _,q⟩
 | byt y =>
  obtain ⟨t,rfl⟩:=rx;obtain ⟨hy,e'⟩:y.size<=sizeLine/\k=((y.size:Int) != 0):=e;subst e';exact PySem.W.truthy_bytes (by lia) ⟨H,I.tok _,q⟩
 | ref p =>
  cases rx;have e':(∃xs,SqL X.K H p xs/\k = !xs.isEmpty)\/(∃xs,SqT X.K H p xs/\k = !xs.isEmpty)\/∃kvs,H p=some (.dK kvs)/\k = !kvs.isEmpty:=e;rcases e' with ⟨xs,hx,e'⟩|⟨xs,hx,e'⟩|⟨kvs,hx,e'⟩
  .subst e';obtain ⟨its,r,pl,hz⟩:=I.list hx;have Z5:=r.length;exact wpAny_truthy_list pl.isList (by simp only [LY];lia) ⟨H,I.tok _,by rw [yF r];exact q⟩
  .subst e';obtain ⟨its,r,pl,hz⟩:=I.tuple hx;have Z5:=r.length;exact truthy_tuple pl (by simp only [LY];lia) ⟨H,I.tok _,by rw [yF r];exact q⟩
  .subst e';obtain ⟨hz,hS,vs,r,m⟩:kvs.length<=sizeLine/\(p==sysModules)=false/\∃vs,KV kvs vs/\s.heap.DictOf (ak X.prog X.w) p vs:=I.hok p _ hx;have Z5:kvs.length=vs.length:=Paired.length r;exact wpAny_truthy_dict hS m (by lia) ⟨H,I.tok _,by rw [BF r];exact q⟩
 | _=>exact (show False from e).elim
theorem AK(ha:PE X a ta)(he:∀YO,isTrue a X.env YO=(do let v<-YO;OY a.pos;Ol [v] (truthy v))) :
  PT X a (λσ H Q=>ta σ H λx H'=>∃k,fM X.K x H' k/\Q k H'):=by
 intro Go s σ H Q I h;exact isTrue_plain (thn (ha Go s σ H _ I h) λv s1=>x5e λx H1 I1 r1 q1=>Hm Go s1 σ H1 x v Q I1 r1 q1) (he _)
theorem Cu:OpR X (Nl .Add) (λx y H Q=>∃i j,x = .str i/\y = .str j/\i.length+j.length<=sizeLine/\Q (.str (i++j)) H):=by
 intro Go s σ H x y v u Q I rx ry h;obtain ⟨i,j,rfl,rfl,hz,q⟩:=h;obtain ⟨t,rfl⟩:=rx;obtain ⟨t',rfl⟩:=ry;exact add_str (λt' tk=>⟨.str (i++j),H,I.tok _,⟨_,rfl⟩,q⟩) hz
theorem bY{x:V}(r:zq [x] us):∃u,us=[u]/\zp x u:=by
 cases r with
 | cons r1 r2=>cases r2;exact ⟨_,rfl,r1⟩
theorem mz{x:V}(r:zq [x,y] us):∃u w',us=[u,w']/\zp x u/\zp y w':=by
 cases r with
 | cons r1 r2 =>
  cases r2 with
  | cons r3 r4=>cases r4;exact ⟨_,_,rfl,r1,r3⟩
theorem DO(hc:X.calm=true):zN X (.builtin "max") (λxs H Q=>∃i j,xs=[.int i,.int j]/\Q (.int (if j>i then j else i)) H):=by
 intro Go s σ H xs us Q I r h;obtain ⟨i,j,rfl,q⟩:=h;obtain ⟨u,w',rfl,⟨t,rfl⟩,⟨t',rfl⟩⟩:=mz r;refine max_two_ints (I.ok.hd hc) λh' tk k=>⟨_,H,I.kept k,?_,q⟩;by_cases hj:j>i
 .rw [if_pos hj,if_pos hj];exact ⟨_,rfl⟩
 .rw [if_neg hj,if_neg hj];exact ⟨_,rfl⟩
theorem Bj(hc:X.calm=true):zN X (.builtin "min") (λxs H Q=>∃i j,xs=[.int i,.int j]/\Q (.int (if j<i then j else i)) H):=by
 intro Go s σ H xs us Q I r h;obtain ⟨i,j,rfl,q⟩:=h;obtain ⟨u,w',rfl,⟨t,rfl⟩,⟨t',rfl⟩⟩:=mz r;refine min_two_ints (I.ok.hd hc) λh' tk k=>⟨_,H,I.kept k,?_,q⟩;by_cases hj:j<i
 .rw [if_pos hj,if_pos hj];exact ⟨_,rfl⟩
 .rw [if_neg hj,if_neg hj];exact ⟨_,rfl⟩
theorem A3:zN X (.type "int") (λxs H Q=>(∃i,xs=[.int i]/\Q (.int i) H)\/∃k,xs=[.bl k]/\Q (.int (if k then 1 else 0)) H):=by
 intro Go s σ H xs us Q I r h;rcases h with ⟨i,rfl,q⟩|⟨k,rfl,q⟩
 .obtain ⟨u,rfl,t,rfl⟩:=bY r;exact call_int_int ⟨.int i,H,I,⟨_,rfl⟩,q⟩
 .obtain ⟨u,rfl,r1⟩:=bY r;cases r1;exact call_int_bool ⟨.int (if k then 1 else 0),H,I.tok _,⟨_,rfl⟩,q⟩
theorem AH:zN X (.type "str") (λxs H Q=>∃i,xs=[.int i]/\i.natAbs.log2<1920/\Q (.str (toString i)) H):=by
 intro Go s σ H xs us Q I r h;obtain ⟨i,rfl,hz,q⟩:=h;obtain ⟨u,rfl,t,rfl⟩:=bY r;exact PySem.P.str_of_int hz ⟨.str _,H,I.tok _,⟨_,rfl⟩,q⟩
theorem Di:zN X (.builtin "ord") (λxs H Q=>∃x,xs=[.str x]/\x.length=1/\Q (.int (x.cps.getD 0 0:Nat)) H):=by
 intro Go s σ H xs us Q I r h;obtain ⟨x,rfl,hz,q⟩:=h;obtain ⟨u,rfl,t,rfl⟩:=bY r;exact ord_of_one hz ⟨.int _,H,I.tok _,⟨_,rfl⟩,q⟩
end
structure fV(h:Heap)(x dx C:Addr)(mA:Str->Option Value):Prop where
 obj:h.get? x=some (QA C dx)
 ns:h.Ns1 dx mA
 ne:dx≠x
theorem HU{dx:Addr}{mA:Str->Option Value}(n:h.Ns1 dx mA):∃od,h.get? dx=some od/\∀name,lookIn name od=some (mA name):=by
 obtain ⟨o,es,ep,ho,hd,hk,_,hm⟩:=n;refine ⟨o,ho,λname=>?_⟩;have e:=hm name;unfold nsFind findBy at e;rw [<- Array.find?_toList] at e;unfold lookIn;rw [hd];dsimp only;split
 .rename_i y q;rw [q] at e;exact congrArg some e
 .rename_i q;rw [q] at e;have a:es.toList.any (·.refKey)=false:=by
   rw [List.any_eq_false];intro y hy;obtain ⟨z,t,X4⟩:=hk y (Array.mem_toList_iff.mp hy);simp [Qu.refKey,X4]
  have a' : ¬ es.toList.any (·.refKey)=true:=by rw [a];exact LM
  rw [if_neg a'];exact congrArg some e
theorem fV.look{x dx:Addr}{mA:Str->Option Value}(I:fV h x dx C mA):∃od,PySem.W.InstAt h x (QA C dx) C (some od)/\∀name,lookIn name od=some (mA name) :=
 let ⟨od,ho,hl⟩:=HU I.ns
 ⟨od,⟨I.obj,rfl,rfl,ho⟩,hl⟩
section
variable {prog:LV}{w:Mf}{A:Mn}{E:Value->LF->Prop}{s:LF}{K:LK}{x dx C f:Addr}{mA:Str->Option Value}{name:Str}{v:Value}
theorem Am{expr:Bool}(X:K.In s.heap)(I:fV s.heap x dx C mA)(hg:Ql K C name=true)(hh:Qp K C=true)
  (ha:Na K (.ref C) name=some none) (hv:mA name=some v) (hv':handedIn v=true) (h:Q v { s with toks:=s.toks+1 }) :
  LS (LZ prog w) A (getAttr (.ref x) name expr) Q E s:=by
 obtain ⟨od,J,hl⟩:=I.look;exact PySem.W.get_value X J (plainGet_of hg).1 (PySem.W.findObj_own hh ha rfl (by rw [hl,hv])) hv' h
theorem Cz{Q:Value×List Value->LF->Prop}(X:K.In s.heap)(I:fV s.heap x dx C mA)(hg:Ql K C name=true)
  (hf:Na K (.ref C) name=some (some (.ref f))) (ht:isFn K (.ref f)=true) (hv:mA name=none) (h:Q (.ref f,[.ref x]) s) :
  LS (LZ prog w) A (Om (.ref x) name pl) Q E s:=by
 obtain ⟨od,J,hl⟩:=I.look;exact PySem.W.method_fn X J (plainGet_of hg).1 (plainGet_of hg).2 hf (beq_iff_eq.mp ht) (by show (lookIn name od).map (·.isSome)=some false;rw [hl,hv];rfl) h
theorem Gj{ns:List Str}{Q:Unit->LF->Prop}(X:K.In s.heap)(I:fV s.heap x dx C mA)
  (hs:Na K (.ref C) "__setattr__"=some (some (.builtin "object.__setattr__"))) (hp:plainOver K C=true) (ht:takerIn K C name=some none) (hh:Qp K C=true)
  (hw:QH mA ns) (hsz:ns.length<=sizeLine)
  (h:∀h',fV h' x dx C (λy=>if y=name then some v else mA y)->Po dx s.heap h'->Q () { s with heap:=h',toks:=s.toks+2 }) :
  LS (LZ prog w) A (setAttr (.ref x) name v) Q E s:=by
 obtain ⟨od,J,hl⟩:=I.look;refine PySem.W.set_plain X J hs (PySem.W.osa_open (s:={ s with toks:=s.toks+1 }) (r:=none) X J hp ht λb=>?_);obtain ⟨cd,hc,hd'⟩:=PySem.W.any_some hh;have hx:s.heap.get? x=some ⟨.ref C,some dx,.plain,#[]⟩:=I.obj;refine fv (LJ (fv (fv (wpAny_loadPart hx (fv (PySem.W.Looks.here (s:={ s with toks:=s.toks+1 }) (PySem.W.looks_clsIn X hc) ?_))))));rw [hd'];refine LJ (a:=some dx) (fv (LJ (fv ?_)));refine wpAny_nsSet1 (s:={ s with toks:=s.toks+1 }) I.ns λh' hn2 Yv=>?_;obtain ⟨oD,esD,epD,hoD,hdD,hcD⟩:=hn2.count (QH.cons name v hw);refine fv (wpAny_lookBehind hoD (by rw [hdD];exact pastItsLine_dict (Mp hcD (by rw [MW];lia))) ?_);exact LJ (h _ ⟨(Yv.2 _ (L8 I.ne)).trans I.obj,hn2,I.ne⟩ Yv)
theorem F0{R:Result->LF->Prop}{vs:List Value}(X:K.In s.heap)(hm:makesIn K C=true)
  (hi:Na K (.ref C) "__init__"=some (some (.ref f))) (hf:PySem.W.typeIn K (.ref f)=some (.type "function"))
  (h:OJ (LZ prog w) (A.under (.builtin "type.__call__" ⟨.ref C::vs,kw⟩)) (.call (.ref f) ⟨.ref (s.heap.objs.size+1)::vs,kw⟩) (PySem.W.InitBack (s.heap.objs.size+1) R)
   { s with heap:=(s.heap.push emptyDict).push (QA C s.heap.objs.size) }) :
  OJ (LZ prog w) A (.call (.ref C) ⟨vs,kw⟩) R s:=by
 obtain ⟨hh,g,d,t,os⟩:=s;exact PySem.W.make_core (PySem.W.makes_of X hm) (PySem.W.looks_findIn X hi) (λself=>PySem.W.bind_fn X self hf) (.inl rfl) h
end
def zP(f:Str)(v:V):List (Str×V)->List (Str×V)
 | []=>[(f,v)]
 | (g,x)::r=>if g=f then (g,v)::r else (g,x)::zP f v r
theorem rm(f g:Str)(v:V):∀fs:List (Str×V),(zP f v fs).lookup g=if g=f then some v else fs.lookup g
 | []=>by
  show NM g [(f,v)]=_;by_cases h:g=f
  .have hb:(g==f)=true:=beq_iff_eq.mpr h;simp only [NM,hb,if_pos h]
  .have hb:(g==f)=false:=beq_eq_false_iff_ne.mpr h;simp only [NM,hb,if_neg h]
 | (k,x)::r=>by
  have ih:=rm f g v r;rw [show zP f v ((k,x)::r)=(if k=f then (k,v)::r else (k,x)::zP f v r) from rfl];by_cases hk:k=f
  .rw [if_pos hk];by_cases h:g=k
   .have hb:(g==k)=true:=beq_iff_eq.mpr h;simp only [NM,hb,if_pos (h.trans hk)]
   .have hb:(g==k)=false:=beq_eq_false_iff_ne.mpr h;simp only [NM,hb,if_neg (λe:g=f=>h (e.trans hk.symm))]
  .rw [if_neg hk];by_cases h:g=k
   .have hb:(g==k)=true:=beq_iff_eq.mpr h;simp only [NM,hb,if_neg (λe:g=f=>hk (h.symm.trans e))]
   .have hb:(g==k)=false:=beq_eq_false_iff_ne.mpr h;simp only [NM,hb];exact ih
theorem oj(f:Str)(v:V):∀fs:List (Str×V),f∈(zP f v fs).map (·.1)/\∀g,g∈fs.map (·.1)->g∈(zP f v fs).map (·.1)
 | []=>⟨by simp [zP],λg h=>by simp at h⟩
 | (k,x)::r=>by
  obtain ⟨i1,i2⟩:=oj f v r;rw [show zP f v ((k,x)::r)=(if k=f then (k,v)::r else (k,x)::zP f v r) from rfl];by_cases hk:k=f
  .rw [if_pos hk];subst hk;exact ⟨by simp,λg h=>by simpa using h⟩
  .rw [if_neg hk];refine ⟨?_,λg h=>?_⟩
   .rw [MD];exact LO _ i1
   .rw [MD] at h ⊢;rcases LI.mp h with e|e
    .exact LI.mpr (.inl e)
    .exact LO _ (i2 g e)
theorem u7(f:Str)(v:V):∀fs:List (Str×V),(zP f v fs).length<=fs.length+1
 | []=>by simp [zP]
 | (k,x)::r=>by
  have ih:=u7 f v r;rw [show zP f v ((k,x)::r)=(if k=f then (k,v)::r else (k,x)::zP f v r) from rfl];by_cases hk:k=f
  .rw [if_pos hk,MW,MW];lia
  .rw [if_neg hk,MW,MW];lia
theorem bh.some_of{o:Option Value}(r:bh (some v) o):∃u,o=some u/\zp v u:=by
 cases o with
 | none=>exact (show False from r).elim
 | some u=>exact ⟨u,rfl,r⟩
theorem bh.none_of{o:Option Value}(r:bh none o):o=none:=by
 cases o with
 | none=>rfl
 | some u=>exact (show False from r).elim
theorem yQ(r:zp v u):handedIn u=true:=by
 cases v with
 | non=>cases (show u=Mm from r);rfl
 | bl b=>cases (show u=Og b from r);rfl
 | int i=>obtain ⟨t,e⟩:=(show ∃t,u=NI i t from r);cases e;rfl
 | str x=>obtain ⟨t,e⟩:=(show ∃t,u=Pq x t from r);cases e;rfl
 | byt b=>obtain ⟨t,e⟩:=(show ∃t,u=Value.bytes b t from r);cases e;rfl
 | flt b=>obtain ⟨t,e⟩:=(show ∃t,u=float b t from r);cases e;rfl
 | ref a=>cases (show u=LL a from r);rfl
 | ty n=>cases (show u=type n from r);rfl
section
variable {P:LV}{w:Mf}{H H':Hp}{h h':Heap}{a C dx:Addr}{fs fs':List (Str×V)}
theorem jD(hok:HOk P w H h)(e:H a=some (.ins C dx fs)):∃mA,fV h a dx C mA/\(∀f,bh (fs.lookup f) (mA f))/\QH mA (fs.map (·.1))/\fs.length<=1000/\H dx=some (.own a):=by
 obtain ⟨d,z,ne,ob,mA,n,r,q⟩:=(show af P w H h a (.ins C dx fs) from hok a _ e);exact ⟨mA,⟨ob,n,ne⟩,r,q,z,d⟩
end
structure Cls(K:LK)(C:Addr):Prop where
 pg:Ql K C Pr=true
 hd:Qp K C=true
 po:plainOver K C=true
 sa:Na K (.ref C) "__setattr__"=some (some (.builtin "object.__setattr__"))
theorem Cls.get(c:Cls K C)(f:Str):Ql K C f=true:=c.pg
def bb(K:LK)(C:Addr)(f:Str):Prop:=Na K (.ref C) f=some none
theorem bb.taker{f:Str}(n:bb K C f):takerIn K C f=some none:=by
 unfold takerIn;rw [show Na K (.ref C) f=some none from n];rfl
structure fI(K:LK)(C:Addr)(m:Str)(f:Addr):Prop where
 at_:Na K (.ref C) m=some (some (.ref f))
 fn:isFn K (.ref f)=true
 kp:Ph K (.ref f)=true
section
variable {X:Cx}{Go:List (Addr×Obj)}{σ:St}{H:Hp}{s:LF}{a C dx:Addr}{fs:List (Str×V)}{f:Str}{v:V}{A:Mn}{E:Value->LF->Prop}
theorem xC{b:Bool}(I:Inv X Go σ H s)(e:H a=some (.ins C dx fs))(c:Cls X.K C)(n:bb X.K C f)(l:fs.lookup f=some v)
  (h:∀u s',Inv X Go σ H s'->zp v u->Q u s'):LS (LZ X.prog X.w) A (getAttr (.ref a) f b) Q E s:=by
 obtain ⟨mA,O,r,_,_,_⟩:=jD I.hok e;obtain ⟨u,hu,ru⟩:=bh.some_of (v:=v) (o:=mA f) (by rw [<- l];exact r f);exact Am I.kIn O (c.get f) c.hd n hu (yQ ru) (h u _ (I.tok _) ru)
theorem lA{m:Str}{g:Addr}{Q:Value×List Value->LF->Prop}(I:Inv X Go σ H s)(e:H a=some (.ins C dx fs))(c:Cls X.K C)(k:fI X.K C m g)(l:fs.lookup m=none)
  (h:Q (.ref g,[.ref a]) s):LS (LZ X.prog X.w) A (Om (.ref a) m pl) Q E s:=by
 obtain ⟨mA,O,r,_,_,_⟩:=jD I.hok e;have hn:mA m=none:=bh.none_of (by rw [<- l];exact r m);exact Cz I.kIn O (c.get m) k.at_ k.fn hn h
theorem wy{Q:Unit->LF->Prop}(I:Inv X Go σ H s)(e:H a=some (.ins C dx fs))(c:Cls X.K C)(n:bb X.K C f)(hl:fs.length<1000)(ry:zp y u)
  (h:∀s',Inv X Go σ (upd H a (.ins C dx (zP f y fs))) s'->Q () s'):LS (LZ X.prog X.w) A (setAttr (.ref a) f u) Q E s:=by
 obtain ⟨mA,O,r,wi,_,ho⟩:=jD I.hok e;have hz:(fs.map (·.1)).length<=sizeLine:=by rw [KE,ML];lia
 refine Gj I.kIn O c.sa c.po n.taker c.hd wi hz λh' O' sb=>h _ ?_;have hd:∃o,h'.get? dx=some o:=let ⟨o,_,_,e',_⟩:=O'.ns;⟨o,e'⟩;refine I.write (x:=a) (e:=dx) (by rw [e];exact True.intro) (.inr ho) (λb q hb z=>(sb.2 b hb).trans z) hd ?_;refine ⟨by rw [ze O.ne];exact ho,?_,O.ne,O'.obj,_,O'.ns,λg=>?_,λg hg=>?_⟩
 .have:=u7 f y fs;lia
 .show bh ((zP f y fs).lookup g) (if g=f then some u else mA g);rw [rm];by_cases q:g=f
  .rw [if_pos q,if_pos q];exact ry
  .rw [if_neg q,if_neg q];exact r g
 .by_cases q:g=f
  .rw [q];exact (oj f y fs).1
  .refine (oj f y fs).2 g (wi g λz=>hg ?_);show (if g=f then some u else mA g)=none;rw [if_neg q];exact z
theorem Inv.made(I:Inv X Go σ H s):Inv X Go σ (upd (upd H s.heap.objs.size (.own (s.heap.objs.size+1))) (s.heap.objs.size+1) (.ins C s.heap.objs.size []))
  { s with heap:=(s.heap.push emptyDict).push (QA C s.heap.objs.size) }:=by
 have e1:(s.heap.push emptyDict).get? s.heap.objs.size=some emptyDict:=LW s.heap rfl;have e2:((s.heap.push emptyDict).push (QA C s.heap.objs.size)).get? (s.heap.objs.size+1)=some (QA C s.heap.objs.size):=by
  have:=LW (s.heap.push emptyDict) (o:=QA C s.heap.objs.size) rfl;rwa [NG] at this
 have e3:(s.heap.push emptyDict).Ns s.heap.objs.size (λ_=>none):=⟨emptyDict,#[],_,e1,rfl,(λe he=>absurd he (by simp)),λ_=>rfl⟩;have I1:=I.laid (a:=s.heap.objs.size) (o:=.own (s.heap.objs.size+1)) (h':=s.heap.push emptyDict) (t':=s.toks) (λb u q=>p8 _ q) (we _) ⟨_,e1⟩;refine I1.laid (a:=s.heap.objs.size+1) (o:=.ins C s.heap.objs.size []) (t':=s.toks) (λb u q=>p8 _ q) (PB (NG _ _)) ?_;have ne:s.heap.objs.size≠s.heap.objs.size+1:=Mx (Pm _);refine ⟨by rw [ze ne,zy],MM _,ne,e2,λ_=>none,(Heap.Ns1.of_empty e3).at λo q=>p8 _ q,λ_=>True.intro,λy hy=>absurd rfl hy⟩
theorem Gd{prog:LV}{env:Env}{f:Str}(hb:M9 e f env (MJ e env)=MJ e env)
  (h:LS (LZ prog w) A (MJ e env) (λo s₁=>LS (LZ prog w) A (getAttr o f true) Q E s₁) E s):LS (LZ prog w) A (MJ (.Attribute e f pos) env) Q E s :=
 Attribute_any_ h (by rw [arm_eval_Attribute,hb])
end
def mX(X:Cx)(op:Operator)(rd:V->V->Hp->VK->Prop):Prop :=
 ∀(Go:List (Addr×Obj))(s:LF)(σ:St)(H:Hp)(x y:V)(u v:Value)(Q:VK),Inv X Go σ H s->zp x u->zp y v->rd x y H Q->LS (LZ X.prog X.w) X.A (inplaceOp op u v) (EP X Go σ Q) X.xe s
section
variable {X:Cx}{o e ZN:Mw}{f:Str}{pos Y6 Xk:Pos}{ta tv:TE}
def mQ:V->V->Hp->VK->Prop:=λx y H Q=>∃i j,x = .int i/\y = .int j/\Q (.int (i+j)) H
def pq:V->V->Hp->VK->Prop:=λx y H Q=>∃i j,x = .int i/\y = .int j/\Q (.int (i-j)) H
theorem Av:mX X .Add mQ:=by
 rintro Go s σ H x y u v Q I rx ry ⟨i,j,rfl,rfl,q⟩;obtain ⟨t,rfl⟩:=(show ∃t,u=NI i t from rx);obtain ⟨t',rfl⟩:=(show ∃t',v=NI j t' from ry);exact PyProof.Rows.iadd_int ⟨.int (i+j),H,I.tok _,⟨_,rfl⟩,q⟩
theorem Jg:mX X .Sub pq:=by
 rintro Go s σ H x y u v Q I rx ry ⟨i,j,rfl,rfl,q⟩;obtain ⟨t,rfl⟩:=(show ∃t,u=NI i t from rx);obtain ⟨t',rfl⟩:=(show ∃t',v=NI j t' from ry);exact PyProof.Rows.isub_int ⟨.int (i-j),H,I.tok _,⟨_,rfl⟩,q⟩
end
section
variable {X:Cx}{Go:List (Addr×Obj)}{σ:St}{H:Hp}{s:LF}{A:Mn}{E:Value->LF->Prop}{Q:Value->LF->Prop}{c:Value}{b:Bool}
inductive cx(K:LK)(H:Hp):V->Value->Prop where
 | non:cx K H .non (.type "NoneType")
 | bl (x:Bool):cx K H (.bl x) (.type "bool")
 | int (i:Int):cx K H (.int i) (.type "int")
 | str (x:Str):cx K H (.str x) (.type "str")
 | flt (x:UInt64):cx K H (.flt x) (.type "float")
 | lst {a:Addr}{xs:List V} (e:H a=some (.lst xs)):cx K H (.ref a) (.type "list")
 | frz {a:Addr}{o:Obj}{xs:List V} (e:H a=some (.frz o (.lst xs))):cx K H (.ref a) (.type "list")
 | tup {a:Addr}{xs:List V} (e:H a=some (.tup xs)):cx K H (.ref a) (.type "tuple")
 | dK {a:Addr}{kvs:List (Key×V)} (e:H a=some (.dK kvs)):cx K H (.ref a) (.type "dict")
 | dT {a:Addr}{kvs:List (List Key×V)} (e:H a=some (.dT kvs)):cx K H (.ref a) (.type "dict")
 | ins {a C dx:Addr}{fs:List (Str×V)} (e:H a=some (.ins C dx fs)) (cl:Cls K C) (ha:Na K (.ref C) "__class__"=some (some (.builtin "object.__class__")))
   (hn:PySem.W.specialIn K (.builtin "object.__class__") "__get__"=some (some (.builtin "getset_descriptor.__get__"))) (htk:PySem.W.takesIn K (.builtin "object.__class__")=some true)
   (hm:Qg K C (.type "object")=some true):cx K H (.ref a) (.ref C)
theorem CI{x:V}{t:Value}(I:Inv X Go σ H s)(rx:zp x u)(ty:cx X.K H x t)(e:PySem.W.kitOne X.K t c=some b)(h:∀tk,Q (.bool b) { s with toks:=tk }) :
  LS (LZ X.prog X.w) A (call (.builtin "isinstance") [u,c]) Q E s:=by
 cases ty with
 | non=>cases (show u=Mm from rx);exact M0 PySem.W.kitx_none I.kIn True.intro e (λz=>nomatch z) h
 | bl y=>cases (show u=Og y from rx);exact M0 PySem.W.kitx_bool I.kIn True.intro e (λz=>nomatch z) h
 | int i=>obtain ⟨t,q⟩:=(show ∃t,u=NI i t from rx);cases q;exact M0 PySem.W.kitx_int I.kIn True.intro e (λz=>nomatch z) h
 | str y=>obtain ⟨t,q⟩:=(show ∃t,u=Pq y t from rx);cases q;exact M0 PySem.W.kitx_str I.kIn True.intro e (λz=>nomatch z) h
 | flt y=>obtain ⟨t,q⟩:=(show ∃t,u=float y t from rx);cases q;exact M0 PySem.W.kitx_float I.kIn True.intro e (λz=>nomatch z) h
 | @lst a xs ea =>
  cases (show u=LL a from rx);obtain ⟨_,_,n,_,h1⟩:=(show af X.prog X.w H s.heap a (.lst xs) from I.hok a _ ea);exact M0 PySem.W.kitx_list I.kIn ⟨_,h1,rfl⟩ e (λz=>nomatch z) h
 | @frz a ob xs ea =>
  cases (show u=LL a from rx);obtain ⟨_,_,_,n,_,h1⟩:=(show af X.prog X.w H s.heap a (.frz ob (.lst xs)) from I.hok a _ ea);exact M0 PySem.W.kitx_list I.kIn ⟨_,h1,rfl⟩ e (λz=>nomatch z) h
 | @tup a xs ea =>
  cases (show u=LL a from rx);obtain ⟨_,_,_,p⟩:=(show af X.prog X.w H s.heap a (.tup xs) from I.hok a _ ea);obtain ⟨o,h1,h2,_⟩:=p;exact M0 PySem.W.kitx_tuple I.kIn ⟨o,h1,h2⟩ e (λz=>nomatch z) h
 | @dK a kvs ea =>
  cases (show u=LL a from rx);obtain ⟨_,_,vs,_,p⟩:=(show af X.prog X.w H s.heap a (.dK kvs) from I.hok a _ ea);obtain ⟨o,es,ep,h1,h2,_⟩:=p;exact M0 PySem.W.kitx_dict I.kIn ⟨o,h1,h2.1⟩ e (λz=>nomatch z) h
 | @dT a kvs ea =>
  cases (show u=LL a from rx);obtain ⟨_,_,xs,_,o,es,ep,h1,h2,_⟩:=(show af X.prog X.w H s.heap a (.dT kvs) from I.hok a _ ea);exact M0 PySem.W.kitx_dict I.kIn ⟨o,h1,h2.1⟩ e (λz=>nomatch z) h
 | @ins a C dx fs ea cl ha hn htk hm =>
  cases (show u=LL a from rx);obtain ⟨mA,O,_⟩:=jD I.hok ea;obtain ⟨od,J,_⟩:=O.look;exact M0 (PySem.W.kitx_own (cl.get _) cl.hd ha hn htk hm) I.kIn J e (λz=>nomatch z) h
end
structure zJ(c:Bool)(k:Nat)(A:Mn):Prop where
 hd:c=true->A.handled=none
 dp:A.depth+3*k+5<recursionLimit
 un:A.units+16*k+200<cLine
 gd:A.guards=some []
theorem zJ.mono{k:Nat}(r:zJ c k A)(h:j<=k):zJ c j A:=⟨r.hd,by have:=r.dp;lia,by have:=r.un;lia,r.gd⟩
theorem zJ.deeper{k:Nat}(r:zJ c (k+1) A)(env:Env):zJ c k (A.deeper env) :=
 ⟨r.hd,by have:=r.dp;show A.depth+1+3*k+5<_;lia,by have:=r.un;show A.units+3+16*k+200<_;lia,by first|exact r.gd|simpa [Mn.deeper,Mn.under,Code.isGuard] using r.gd⟩
theorem Fe:(A.under (.builtin "type.__call__" ⟨.ref C::us,kw⟩)).depth=A.depth+1:=by
 first|rfl|simp [Mn.under,Code.weight,Code.isCreation,Code.isGuard,Code.isCaller,Code.frames,Code.isFrame,guardIds]
theorem IV:(A.under (.builtin "type.__call__" ⟨.ref C::us,kw⟩)).units=A.units+1:=by
 first|rfl|simp [Mn.under,Code.cUnits,Code.frames,Code.isFrame]
theorem zJ.make{k:Nat}(r:zJ c (k+1) A)(C:Addr)(us:List Value)(kw:List (Str×Value)):zJ c k (A.under (.builtin "type.__call__" ⟨.ref C::us,kw⟩)) :=
 ⟨r.hd,by have:=r.dp;rw [Fe];lia,by have:=r.un;rw [IV];lia,by first|exact r.gd|simpa [Mn.under,Code.isGuard,guardIds] using r.gd⟩
theorem zJ.depth{k:Nat}(r:zJ c k A):A.depth<recursionLimit:=by have:=r.dp;lia
theorem zJ.units{k:Nat}(r:zJ c k A):A.units+64<cLine:=by have:=r.un;lia
def bQ:TA:=λ_ H Q=>Q [] H
def kG(ta:TE)(tr:TA):TA:=λσ H Q=>ta σ H λx H1=>tr σ H1 λxs H2=>Q (x::xs) H2
section
variable {X:Cx}{e:Mw}{es:List Mw}{te:TE}{t:TA}{pos:Pos}
theorem dM:PA X [] bQ:=λ_ _ _ _ H Q I h=>Calls.spliced_nil ⟨[],H,I,.nil,h⟩
theorem dE(ha:PE X e te)(hr:PA X es t)(hs:Ma (e::es) X.env=(false,MJ e X.env)::Ma es X.env:=by rfl):PA X (e::es) (kG te t):=by
 intro pos Go s σ H Q I h;rw [hs];show LS _ _ (spliced ((false,MJ e X.env)::NA pos (Ma es X.env))) _ _ s;refine Calls.spliced_cons (thn (ha Go s σ H _ I h) λu s1=>x5e λx H1 I1 r1 q1=>?_);exact thn (hr pos Go s1 σ H1 _ I1 q1) λus s2=>x5e λxs H2 I2 r2 q2=>⟨x::xs,H2,I2,.cons r1 r2,q2⟩
def Lb(t:TA):TE:=λσ H Q=>t σ H λxs H1=>xs.length<=sizeLine/\∀p,H1 p=none->Q (.ref p) (upd H1 p (.tup xs))
theorem Bt{x1}(h:PA X es t):PE X (.Tuple es x1 pos) (Lb t):=by
 intro Go s σ H Q I hq;refine wpAny_Tuple_spliced (thn (h pos Go s σ H _ I hq) λus s1=>x5e λxs H1 I1 r=>x2e λz q=>⟨by rw [<- r.length];exact z,?_⟩);have hf:H1 s1.heap.objs.size=none:=I1.hok.fresh (we _);refine ⟨.ref s1.heap.objs.size,upd H1 s1.heap.objs.size (.tup xs),I1.laid (t':=s1.toks) (λb u e=>p8 _ e) (we _) ?_,rfl,q _ hf⟩;exact ⟨z,us,r,⟨_,LW _ rfl,rfl,_,rfl⟩⟩
end
abbrev Sp:=List V->Hp->VK->XK->Prop
abbrev CXT:=List Env->Hp->LF->XK->Value->LF->Prop
structure f9(P:LV)(w:Mf)(K:LK)(mg:Str->Option Value)(base:Heap)(A:Mn)(outer:List Env)(s:LF)(H:Hp):Prop where
 frames:A.frames=some outer
 hdk:ip A H
 mod:Mod K mg base
 bs:∀b o,base.get? b=some o->s.heap.get? b=some o/\H b=none
 bsz:base.objs.size<=s.heap.objs.size
 funs:s.heap.FunFrames base outer
 frf:∀b∈frs outer,H b=none
 hok:HOk P w H s.heap
 bare:Oa s.gens
def CE(outer:List Env)(P:LV)(w:Mf)(H:Hp)(s:LF)(Q:VK)(u:Value)(s':LF):Prop :=
 ∃v H',s'.os=s.os/\Oa s'.gens/\Un (frs outer) [] H H' s.heap s'.heap/\HOk P w H' s'.heap/\zp v u/\Q v H'
def CR(CX:CXT)(outer:List Env)(P:LV)(w:Mf)(H:Hp)(s:LF)(Q:VK)(E:XK)(r:Result)(s':LF):Prop :=
 match r with
 | .ok (.ret u)=>CE outer P w H s Q u s'
 | .ok _=>False
 | .error e=>CX outer H s E e s'
structure zo(P:LV)(w:Mf)(K:LK)(mg:Str->Option Value)(base:Heap)(CX:CXT)(c:Bool)(k:Nat)(f:Addr)(fd:Nc)(ps:List Str)(sp:Sp):Prop where
 len:∀vs H Q E,sp vs H Q E->vs.length=ps.length
 run:∀(A:Mn)(outer:List Env)(s:LF)(H:Hp)(args:Args)(us:List Value)(vs:List V)(Q:VK)(E:XK),zJ c k A->f9 P w K mg base A outer s H->BindsTo s fd args (ps.zip us)->zq vs us->sp vs H Q E ->
  OJ (LZ P w) A (.call (.ref f) args) (CR CX outer P w H s Q E) s
theorem f9.make{outer:List Env}(e:f9 P w K mg base A outer s H)(C:Addr)(us:List Value)(kw:List (Str×Value)) :
  f9 P w K mg base (A.under (.builtin "type.__call__" ⟨.ref C::us,kw⟩)) outer s H:=⟨by first|exact e.frames|(simpa [Mn.under,Code.envs,Code.isFrame,pushEnvs] using e.frames),e.hdk,e.mod,e.bs,e.bsz,e.funs,e.frf,e.hok,e.bare⟩
section
variable {X:Cx}{Go:List (Addr×Obj)}{σ:St}{H:Hp}{s s':LF}
theorem Inv.env0(I:Inv X Go σ H s):f9 X.prog X.w X.K X.mg X.base X.A X.stack s H :=
 ⟨I.ok.frames,I.hdk,I.ok.mod,I.bs,Mp I.ok.bsz I.sz,I.stack,I.stkFree,I.hok,I.bare⟩
theorem Inv.after{Q:VK}(I:Inv X Go σ H s)(h:CE X.stack X.prog X.w H s Q u s'):EP X Go σ Q u s':=by
 obtain ⟨v,H',os,bare,un,hok,r,q⟩:=h;obtain ⟨hh,g,d,t,os'⟩:=s';obtain rfl:os'=s.os:=os;exact ⟨v,H',I.call (h':=hh) (g':=g) (d':=d) (t':=t) (ch:=[]) un hok bare (λb z=>absurd z (by simp)),r,q⟩
end
def jU(sp:Sp)(Zv:List V)(E:XK)(t:TA):TE:=λσ H Q=>t σ H λvs H1=>sp (vs++Zv) H1 Q E
def eP(C:Addr)(m:Str)(sp:Sp)(Zv:List V)(E:XK)(ta:TE)(t:TA):TE:=λσ H Q=>ta σ H λx H1=>∃a dx fs,x = .ref a/\H1 a=some (.ins C dx fs)/\fs.lookup m=none /\
 t σ H1 λvs H2=>sp (x::(vs++Zv)) H2 Q E
def vB(C:Addr)(sp:Sp)(Zv:List V)(E:XK)(t:TA):TE:=λσ H Q=>t σ H λvs H1=>∀x dx,H1 x=none->H1 dx=none->dx≠x ->
 sp (.ref x::(vs++Zv)) (upd (upd H1 dx (.own x)) x (.ins C dx [])) (λv H2=>v = .non/\Q (.ref x) H2) E
def bg(K:LK)(fd:Nc)(ps:List Str)(ds:List Value):Prop :=
 ∀(s:LF)(us:List Value),K.In s.heap->(us++ds).length=ps.length->BindsTo s fd ⟨us,[]⟩ (ps.zip (us++ds))
theorem bg.all{fd:Nc}(h:∀us:List Value,us.length=ps.length->bindArgs fd ⟨us,[]⟩=pure (ps.zip us)):bg K fd ps []:=λs us _ hl=>by
 rw [Nw] at hl ⊢;exact .of_eq (h us hl)
def fj(CX:CXT)(X:Cx)(E:XK):Prop:=∀(Go:List (Addr×Obj))(σ:St)(H:Hp)(s:LF)(e:Value)(s':LF),Inv X Go σ H s->CX X.stack H s E e s'->X.xe e s'
section
variable {X:Cx}{CX:CXT}{cm:Bool}{k:Nat}{f C:Addr}{fd:Nc}{ps:List Str}{sp:Sp}{Zv:List V}{ds:List Value}{E:XK}{x m:Str}{p pos Z3:Pos}{e o:Mw}{es:List Mw}{ta:TE}{t:TA}
theorem mq{Q:VK}(F:zo X.prog X.w X.K X.mg X.base CX cm k f fd ps sp)(hr:zJ cm k X.A)(hb:bg X.K fd ps ds)(hd:zq Zv ds)(hx:fj CX X E)
  (I:Inv X Go σ H s) (r:zq vs us) (h:sp (vs++Zv) H Q E):LS (LZ X.prog X.w) X.A (call (.ref f) us) (EP X Go σ Q) X.xe s:=by
 have r2:zq (vs++Zv) (us++ds):=r.append hd;have hl:(us++ds).length=ps.length:=by rw [<- r2.length];exact F.len _ _ _ _ h
 refine Qw (On (F.run X.A X.stack s H ⟨us,[]⟩ (us++ds) (vs++Zv) Q E hr I.env0 (hb s us I.kIn hl) r2 h) λr s' hq=>?_);cases r with
 | error e=>exact hx Go σ H s e s' I hq
 | ok fl =>
  cases fl with
  | ret u=>exact I.after hq
  | next=>exact False.elim hq
  | brk=>exact False.elim hq
  | cont=>exact False.elim hq
theorem CH(F:zo X.prog X.w X.K X.mg X.base CX cm k f fd ps sp)(hr:zJ cm k X.A)(hg:Gl X x)(hm:X.mg x=some (.ref f))(hk:Ph X.K (.ref f)=true)(hb:bg X.K fd ps ds)(hd:zq Zv ds)(hx:fj CX X E)
  (ha:PA X (e::es) t) (Y7:(x==("__debug__":Str))=false:=by decide) (he:Ma (e::es) X.env=(false,MJ e X.env)::Ma es X.env:=by rfl) (Yr:(NA pos (Ma es X.env)).any (·.1)=false:=by rfl) :
  PE X (.Call (.Name x p) (e::es) [] pos) (jU sp Zv E t):=by
 intro Go s σ H Q I h;refine MT (gh I hg hm ?_ Y7);refine QG (h₀:=X.base) I.ok.mod.kin hk (thn (ha pos Go s σ H _ I h) λus s1=>x5e λvs H1 I1 r q=>⟨I1.kIn,?_⟩) he Yr;exact mq F hr hb hd hx I1 r q
theorem AF(he:PE X o ta)(c:Cls X.K C)(hm:fI X.K C m f)(F:zo X.prog X.w X.K X.mg X.base CX cm k f fd ps sp)(hr:zJ cm k X.A)(hb:bg X.K fd ps ds)(hd:zq Zv ds)(hx:fj CX X E)(ha:PA X (e::es) t)
  (hst:Ma (e::es) X.env=(false,MJ e X.env)::Ma es X.env:=by rfl) (Yr:(NA pos (Ma es X.env)).any (·.1)=false:=by rfl)
  (ht:MJ (.Call (.Attribute o m Z3) (e::es) [] pos) X.env=(do
   let ov<-MJ o X.env
   OY Z3.atName
   let (f,first)<-Ol [ov] (Om ov m pl)
   Of pos f first (NA pos (Ma (e::es) X.env)) (Pc pos (NY [] X.env))):=by rfl) :
  PE X (.Call (.Attribute o m Z3) (e::es) [] pos) (eP C m sp Zv E ta t):=by
 intro Go s σ H Q I h;refine P9 (pl:=pl) (thn (he Go s σ H _ I h) λu s1=>x5e λx H1 I1 rx zz12=>?_) ht;obtain ⟨a,dx,fs,ex,ea,l,q⟩:=zz12;subst ex;obtain rfl:u=LL a:=rx;refine lA I1 ea c hm l ?_;refine QG (first:=[.ref a]) (h₀:=X.base) I.ok.mod.kin hm.kp (thn (ha pos Go s1 σ H1 _ I1 q) λus s2=>x5e λvs H2 I2 r q2=>⟨I2.kIn,?_⟩) hst Yr;exact mq (us:=.ref a::us) (vs:=.ref a::vs) F hr hb hd hx I2 (.cons rfl r) q2
theorem Kl(he:PE X o ta)(c:Cls X.K C)(hm:fI X.K C m f)(F:zo X.prog X.w X.K X.mg X.base CX cm k f fd ps sp)(hr:zJ cm k X.A)(hb:bg X.K fd ps ds)(hd:zq Zv ds)(hx:fj CX X E)
  (ht:MJ (.Call (.Attribute o m Z3) [] [] pos) X.env=(do
   let ov<-MJ o X.env
   OY Z3.atName
   let (f,first)<-Ol [ov] (Om ov m pl)
   Of pos f first (NA pos (Ma [] X.env)) (Pc pos (NY [] X.env))):=by rfl) :
  PE X (.Call (.Attribute o m Z3) [] [] pos) (eP C m sp Zv E ta bQ):=by
 intro Go s σ H Q I h;refine P9 (pl:=pl) (thn (he Go s σ H _ I h) λu s1=>x5e λx H1 I1 rx zz13=>?_) ht;obtain ⟨a,dx,fs,ex,ea,l,q⟩:=zz13;subst ex;obtain rfl:u=LL a:=rx;refine lA I1 ea c hm l ?_;exact callWith_K0 (first:=[.ref a]) I1.kIn hm.kp (mq (us:=[.ref a]) (vs:=[.ref a]) F hr hb hd hx I1 (.cons rfl .nil) q)
structure Mk(K:LK)(C f:Addr):Prop where
 makes:makesIn K C=true
 init:Na K (.ref C) "__init__"=some (some (.ref f))
 fn:isFn K (.ref f)=true
 kp:Ph K (.ref C)=true
theorem uZ{Q:VK}(M:Mk X.K C f)(F:zo X.prog X.w X.K X.mg X.base CX cm k f fd ps sp)(hr:zJ cm (k+1) X.A)(hb:bg X.K fd ps ds)(hd:zq Zv ds)
  (hx:fj CX X E) (I:Inv X Go σ H s) (r:zq vs us)
  (h:∀x dx,H x=none->H dx=none->dx≠x->sp (.ref x::(vs++Zv)) (upd (upd H dx (.own x)) x (.ins C dx [])) (λv H2=>v = .non/\Q (.ref x) H2) E) :
  LS (LZ X.prog X.w) X.A (call (.ref C) us) (EP X Go σ Q) X.xe s:=by
 have hq:=h (s.heap.objs.size+1) s.heap.objs.size (I.hok.fresh (PV _)) (I.hok.fresh (we _)) (Mx (Pm _));have I2:=Inv.made (C:=C) I;have r2:zq (V.ref (s.heap.objs.size+1)::(vs++Zv)) (LL (s.heap.objs.size+1)::(us++ds)):=.cons rfl (r.append hd);have hl:(LL (s.heap.objs.size+1)::us++ds).length=ps.length:=by
  have e:=r2.length;rw [F.len _ _ _ _ hq] at e;exact e.symm
 refine Qw (F0 (f:=f) I.kIn M.makes M.init (beq_iff_eq.mp M.fn) (On (F.run _ X.stack _ _ ⟨LL (s.heap.objs.size+1)::us,[]⟩ (LL (s.heap.objs.size+1)::(us++ds)) _ _ E (hr.make C us [])
  (I2.env0.make C us []) (hb _ (LL (s.heap.objs.size+1)::us) I2.kIn hl) r2 hq) λr s' hq'=>?_))
 cases r with
 | error e=>exact hx Go σ _ _ e s' I2 hq'
 | ok fl =>
  cases fl with
  | ret u =>
   obtain ⟨v,H',I3,rv,ev,q3⟩:=I2.after hq';subst ev;exact ⟨rv,⟨V.ref (s.heap.objs.size+1),H',I3,rfl,q3⟩⟩
  | next=>exact False.elim hq'
  | brk=>exact False.elim hq'
  | cont=>exact False.elim hq'
theorem EH(M:Mk X.K C f)(F:zo X.prog X.w X.K X.mg X.base CX cm k f fd ps sp)(hr:zJ cm (k+1) X.A)(hg:Gl X x)(hm:X.mg x=some (.ref C))(hb:bg X.K fd ps ds)(hd:zq Zv ds)(hx:fj CX X E)
  (ha:PA X (e::es) t) (Y7:(x==("__debug__":Str))=false:=by decide) (he:Ma (e::es) X.env=(false,MJ e X.env)::Ma es X.env:=by rfl) (Yr:(NA pos (Ma es X.env)).any (·.1)=false:=by rfl) :
  PE X (.Call (.Name x p) (e::es) [] pos) (vB C sp Zv E t):=by
 intro Go s σ H Q I h;refine MT (gh I hg hm ?_ Y7);refine QG (h₀:=X.base) I.ok.mod.kin M.kp (thn (ha pos Go s σ H _ I h) λus s1=>x5e λvs H1 I1 r q=>⟨I1.kIn,?_⟩) he Yr;exact uZ M F hr hb hd hx I1 r q
theorem GB(M:Mk X.K C f)(F:zo X.prog X.w X.K X.mg X.base CX cm k f fd ps sp)(hr:zJ cm (k+1) X.A)(hg:Gl X x)(hm:X.mg x=some (.ref C))(hb:bg X.K fd ps ds)(hd:zq Zv ds)(hx:fj CX X E)
  (Y7:(x==("__debug__":Str))=false:=by decide):PE X (.Call (.Name x p) [] [] pos) (vB C sp Zv E bQ):=by
 intro Go s σ H Q I h;refine MT (gh I hg hm ?_ Y7);exact callWith_K0 I.kIn M.kp (uZ (us:=[]) M F hr hb hd hx I .nil h)
end
section
variable {X:Cx}{CX:CXT}{cm:Bool}{k:Nat}{f C:Addr}{fd:Nc}{ps ks:List Str}{sp:Sp}{E:XK}{x m:Str}{p pos Z3 kpos:Pos}{e o:Mw}{es:List Mw}{kws:List Keyword}{te ta:TE}{t tk:TA}{nm:Option Str}
variable {g:List Value->List Value->List Value}{gV:List V->List V->List V}
end
structure zw(N P:List Str)(sc:Scope):Prop where
 kind:sc.kind = .function
 co:sc.isCoroutine=false
 gen:sc.isGenerator=false
 nd:N.Nodup
 pre:N.take P.length=P
 par:∀x∈P,sc.names.lookup x=some .local\/sc.names.lookup x=some .cell
 nofree:∀y∈sc.names,y.2≠.free
theorem rZ{kindOf:Str->Option Ng}{x:Str}:∀{binds:List (Str×Value)}{m:Str->Option Value},(∀v,(x,v)∉binds)->bindL kindOf binds m x=m x
 | [],_,_=>rfl
 | (n,v)::r,m,h=>by
  unfold bindL;rw [rZ λw hw=>h w (LO _ hw)];split
  .have:x≠n:=by rintro rfl;exact h v Mc
   simp [this]
  .rfl
theorem sq{kindOf:Str->Option Ng}{x:Str}:∀{binds:List (Str×Value)}{m:Str->Option Value},(∀v,(x,v)∉binds)->bindC kindOf binds m x=m x
 | [],_,_=>rfl
 | (n,v)::r,m,h=>by
  unfold bindC;rw [sq λw hw=>h w (LO _ hw)];split
  .rfl
  .have:x≠n:=by rintro rfl;exact h v Mc
   simp [this]
theorem wx{kindOf:Str->Option Ng}{x:Str}{v:Value}:∀{P:List Str}{vs:List Value}{i:Nat}{m:Str->Option Value},P.Nodup->P[i]?=some x->vs[i]?=some v->kindOf x=some .local ->
  bindL kindOf (P.zip vs) m x=some v
 | [],_,_,_,_,h,_,_=>by simp at h
 | _::_,[],_,_,_,_,h,_=>by simp at h
 | p::P,w::vs,0,m,nd,h1,h2,hk=>by
  simp at h1 h2;subst h1;subst h2;show bindL kindOf ((p,w)::P.zip vs) m p=_;unfold bindL;rw [rZ λv hv=>(MU.mp nd).1 (QJ hv).1,if_pos hk];simp
 | p::P,w::vs,i+1,m,nd,h1,h2,hk=>by
  show bindL kindOf ((p,w)::P.zip vs) m x=_;unfold bindL;exact wx (i:=i) (MU.mp nd).2 (by simpa using h1) (by simpa using h2) hk
theorem yn{kindOf:Str->Option Ng}{x:Str}{v:Value}:∀{P:List Str}{vs:List Value}{i:Nat}{m:Str->Option Value},P.Nodup->P[i]?=some x->vs[i]?=some v->kindOf x≠some .local ->
  bindC kindOf (P.zip vs) m x=some v
 | [],_,_,_,_,h,_,_=>by simp at h
 | _::_,[],_,_,_,_,h,_=>by simp at h
 | p::P,w::vs,0,m,nd,h1,h2,hk=>by
  simp at h1 h2;subst h1;subst h2;show bindC kindOf ((p,w)::P.zip vs) m p=_;unfold bindC;rw [sq λv hv=>(MU.mp nd).1 (QJ hv).1,if_neg hk];simp
 | p::P,w::vs,i+1,m,nd,h1,h2,hk=>by
  show bindC kindOf ((p,w)::P.zip vs) m x=_;unfold bindC;exact yn (i:=i) (MU.mp nd).2 (by simpa using h1) (by simpa using h2) hk
def start(N:List Str)(vs:List V):St:=vs.map some++Mg (N.length-vs.length) none
def cI(CX:CXT)(cm:Bool)(P:LV)(w:Mf)(K:LK)(mg:Str->Option Value)(base:Heap)(N:List Str)(qual:Str)(scope:Scope)(f:Addr)(cd:Value)(A:Mn)(outer:List Env)(s:LF)(H:Hp)(E:XK):Cx where
 prog:=P
 w:=w
 K:=K
 mg:=mg
 base:=base
 A:=A.deeper (Od qual scope s.heap.objs.size f cd)
 N:=N
 s₀:=s
 H₀:=H
 env:=Od qual scope s.heap.objs.size f cd
 outer:=outer
 stack:=Od qual scope s.heap.objs.size f cd::outer
 ex:=[]
 calm:=cm
 fn:=λ_=>true
 pn:=[]
 xe:=λe s'=>LS (LZ P w) (A.deeper (Od qual scope s.heap.objs.size f cd)) (leaving (Od qual scope s.heap.objs.size f cd) e) (λ_ s''=>CX outer H s E e s'') (λe' s''=>CX outer H s E e' s'') s'
theorem uJ{sc:Scope}{n:Nat}(h:sc.names.lookup x=some .cell):∃c,(cellsFrom n sc.names []).lookup x=some c:=by
 have q:=PySem.W.cellsFrom_some sc.names n [] (.inl h);exact isSome_iff_exists.mp q
theorem LA{CX:CXT}{cm:Bool}{qual:Str}{scope:Scope}{f:Addr}{cd:Value}{outer:List Env}{s1:LF}{E:XK}
  (S:zw N ps scope) (hd:cm=true->A.handled=none) (e0:f9 P w K mg base A outer s H) (hl:vs.length=ps.length) (r:zq vs us)
  (x:InCallC s s.heap.objs.size (bindL (Od qual scope s.heap.objs.size f cd).kindOf (ps.zip us) λ_=>none) (cellsFrom (s.heap.objs.size+1) scope.names []) (bindC (Od qual scope s.heap.objs.size f cd).kindOf (ps.zip us) λ_=>none) s1) :
  Inv (cI CX cm P w K mg base N qual scope f cd A outer s H E) [] (start N vs) H s1:=by
 have Yr:ps.length<=N.length:=by have:=congrArg List.length S.pre;rw [Nj] at this;lia
 obtain ⟨h1,tk,rfl,hk⟩:=x.done;have noA:∀b:Addr,b∉(cI CX cm P w K mg base N qual scope f cd A outer s H E).ex:=λb z=>absurd (show b∈([]:List Addr) from z) (by simp);refine ⟨⟨e0.mod,S.kind,rfl,rfl,we _,λy z c h1 h2=>?_,λy hy=>?_,λy c _ h=>?_,hd,Mn.frames_deeper e0.frames,.inr ⟨rfl,rfl⟩,λb z=>absurd z (noA b),e0.bs,e0.bsz,λb _ _=>noA b,λb z=>absurd z (noA b),e0.funs,e0.frf⟩,
  rfl,e0.bare,Un.kept hk,⟨_,x.toInCall.ns,λi y v h1 h2 h3=>?_⟩,λy c h=>⟨_,x.cell y c h⟩,e0.hok.fresh (we _),λy c h=>?_,λp hp=>absurd (show p∈([]:List (Addr×Obj)) from hp) (by simp),e0.hok.kept hk,?_,e0.hdk⟩
 .exact name_of_addr x.apart (M4 h1) (M4 h2)
 .have hy:scope.names.lookup y=some .cell\/scope.names.lookup y=some .free:=hy;rcases hy with hy|hy
  .exact uJ hy
  .exact absurd rfl (S.nofree _ (M4 hy))
 .exact Pa (x.above y c (M4 h))
 .have hi:i<vs.length:=by
   unfold start at h2;by_cases hi:i<vs.length
   .exact hi
   .rw [Nh (by simpa using hi)] at h2;rw [NV] at h2;split at h2<;>cases h2
  have ha:vs[i]?=some v:=by
   unfold start at h2;rw [NB (by simpa using hi),L6] at h2;cases e:vs[i]? with
   | none=>rw [e] at h2;cases h2
   | some a=>rw [e] at h2;cases h2;rfl
  obtain ⟨u,hu,rv⟩:=r.get ha;have hp:ps[i]?=some y:=by
   rw [<- S.pre,List.getElem?_take_of_lt (by lia)];exact h1
  have ndP:ps.Nodup:=by rw [<- S.pre];exact S.nd.sublist (List.take_sublist _ _)
  refine ⟨u,rv,?_⟩;rcases S.par y (LX hp) with k|k
  .exact .inl ⟨k,wx ndP hp hu k⟩
  .obtain ⟨c,e⟩:=uJ (n:=s.heap.objs.size+1) k;refine .inr ⟨.inl k,c,e,?_⟩;have q:=x.cell y c e;rw [yn ndP hp hu (by show scope.names.lookup y≠_;rw [k];decide)] at q;exact q
 .exact e0.hok.fresh (Pa (x.above y c (M4 h)))
 .unfold start;show _=N.length;rw [Md,KE,MQ];lia
theorem mf{CX:CXT}{cm:Bool}{k:Nat}{f:Addr}{name qual:Str}{ZS:Arguments}{scope:Scope}{dV kV Yj pm Z1 ct oc:Value}{an od:Option Addr}
  {osl:Array (Option Value)}{sp:Sp} (lk:K.lookup f=some ⟨oc,od,.func (fnOf name qual ZS Zz scope dV kV Yj pm an Z1 ct),osl⟩) (hcd:codeIn K Z1 qual=true) (S:zw N ps scope)
  (len:∀vs H Q E,sp vs H Q E->vs.length=ps.length)
  (Yq:∀(A:Mn)(outer:List Env)(s:LF)(H:Hp)(vs:List V)(Q:VK)(E:XK),zJ cm k (A.deeper (Od qual scope s.heap.objs.size f Z1))->sp vs H Q E ->
   ∃t,PSs (cI CX cm P w K mg base N qual scope f Z1 A outer s H E) Zz t/\t { nx:=λ_ H'=>Q .non H',rt:=Q } (start N vs) H) :
  zo P w K mg base CX cm (k+1) f (fnOf name qual ZS Zz scope dV kV Yj pm an Z1 ct) ps sp:=by
 refine ⟨len,λA outer s H args us vs Q E hr e0 hb r Xp=>?_⟩;have hl:=len _ _ _ _ Xp;have KX:K.In s.heap:=e0.mod.kin.keeps λb o e=>(e0.bs b o e).1;have lim:s.heap.NoLimit:=e0.mod.nolimit.keeps λb o e=>(e0.bs b o e).1;have Yg:∀y∈ps.zip us,scope.names.lookup y.1=some .local\/(scope.names.lookup y.1=some .cell/\((cellsFrom (s.heap.objs.size+1) scope.names []).lookup y.1).isSome=true):=λ⟨n,v⟩ hy=>by
  rcases S.par n (QJ hy).1 with q|q
  .exact .inl q
  .exact .inr ⟨q,PySem.W.cellsFrom_some _ _ _ (.inl q)⟩
 refine codeAny_call_function hr.depth (KX _ _ lk) rfl S.co S.gen rfl (PySem.W.codeRec_of KX hcd) (hb _ _ _ _ ?_);refine wpAny_newFunctionEnv_cells S.kind Yg λenv he s1 x=>?_;subst he;refine ⟨lim.keeps x.toInCall.keep,codeAny_func ?_⟩;obtain ⟨t,ht,hq⟩:=Yq A outer s H vs Q E (hr.deeper _) Xp;have I:Inv (cI CX cm P w K mg base N qual scope f Z1 A outer s H E) [] (start N vs) H s1:=LA S hr.hd e0 hl r x;refine Mv (ht [] s1 (start N vs) H _ I hq) (λfl s' hs=>?_) λe s' hs=>hs;have YG:∀{σ':St}{H':Hp}{v:V}{u:Value},Inv (cI CX cm P w K mg base N qual scope f Z1 A outer s H E) [] σ' H' s'->zp v u->Q v H'->CE outer P w H s Q u s' :=
  λ{σ' H' v u} J rv q=>⟨v,H',J.os,J.bare,J.base,J.hok,rv,q⟩
 cases fl with
 | ret u =>
  obtain ⟨v,σ',H',J,rv,q⟩:=hs;exact YG J rv q
 | next =>
  obtain ⟨σ',H',J,q⟩:=hs;exact YG (v:=V.non) (u:=Mm) J rfl q
 | brk =>
  obtain ⟨_,_,_,q⟩:=hs;exact False.elim q
 | cont =>
  obtain ⟨_,_,_,q⟩:=hs;exact False.elim q
section
variable {X:Cx}{x:Str}{p pos:Pos}{e:Mw}{es:List Mw}{t:TA}{id T:String}{r:List V->Hp->VK->Prop}
def tCB(r:List V->Hp->VK->Prop)(t:TA):TE:=λσ H Q=>t σ H λvs H1=>r vs H1 Q
theorem sN(hc:zN X (.builtin id) r)(hg:Gl X x)(hm:X.mg x=none)(hv:N4 x=some (.builtin id))(ha:PA X (e::es) t)(hn:x≠"__name__":=by decide)(Y7:(x==("__debug__":Str))=false:=by decide)
  (he:Ma (e::es) X.env=(false,MJ e X.env)::Ma es X.env:=by rfl) (Yr:(NA pos (Ma es X.env)).any (·.1)=false:=by rfl):PE X (.Call (.Name x p) (e::es) [] pos) (tCB r t):=by
 intro Go s σ H Q I h;refine MT (dO I hg hm hv ?_ hn Y7);exact PyProof.Rows.callWith_builtin1 (thn (ha pos Go s σ H _ I h) λus s1=>x5e λvs H1 I1 r1 q1=>hc Go s1 σ H1 vs us Q I1 r1 q1) he Yr
theorem HK(hc:zN X (.type T) r)(hg:Gl X x)(hm:X.mg x=none)(hv:N4 x=some (.type T))(ha:PA X (e::es) t)(hn:x≠"__name__":=by decide)(Y7:(x==("__debug__":Str))=false:=by decide)
  (he:Ma (e::es) X.env=(false,MJ e X.env)::Ma es X.env:=by rfl) (Yr:(NA pos (Ma es X.env)).any (·.1)=false:=by rfl):PE X (.Call (.Name x p) (e::es) [] pos) (tCB r t):=by
 intro Go s σ H Q I h;refine MT (dO I hg hm hv ?_ hn Y7);exact Nd (thn (ha pos Go s σ H _ I h) λus s1=>x5e λvs H1 I1 r1 q1=>hc Go s1 σ H1 vs us Q I1 r1 q1) he Yr
end
end L2
namespace HT
open PySem PyProof.Rows
section
open PySem.SeqAt
open PySem.AutoSeq1 (wpAny_loadPart')
open PySem.MeetsSeq PySem.MeetsSeq2 PySem.MeetsSeq3
end
section
variable {prog:LV}{w:Mf}{A:Mn}{E:Value->LF->Prop}{s:LF}
theorem cat_tup{t b:Addr}{vs ws:List Value}{Q:Value->LF->Prop}(ht:PY s.heap t vs.toArray)(hb:PY s.heap b ws.toArray)(hv:vs≠[])
  (h1:ws=[]->Q (.ref t) s) (h2:ws≠[]->Q (.ref s.heap.objs.size) { s with heap:=s.heap.push { cls:=.type "tuple",data:=.seq (vs++ws).toArray } })
  (hsz:vs.length+ws.length<=sizeLine):LS (LZ prog w) A (Nl .Add (.ref t) (.ref b)) Q E s:=by
 obtain ⟨⟨cls,dd,data,sl⟩,ho,hc,n,hd⟩:=id ht;obtain ⟨⟨cls2,Xj,data2,sl2⟩,ho2,hc2,n2,hd2⟩:=id hb;simp only at hc hd hc2 hd2;subst hc hd hc2 hd2;have e:vs.toArray++ws.toArray=(vs++ws).toArray:=by simp
 by_cases hw:ws=[]
 .exact concat_meets ⟨_,ho,rfl⟩ ⟨_,ho2,rfl⟩ noFill_tuple_add seq_tuple_add slot_tuple_add entry_tuple_add (args_tuple_add_2 _ _)
   (tuple_addW1 t b vs.toArray ws.toArray n n2 dd Xj sl sl2 (by simpa using hv) (by simp [hw])) ⟨ho,ho2,h1 hw⟩
 .refine concat_meets ⟨_,ho,rfl⟩ ⟨_,ho2,rfl⟩ noFill_tuple_add seq_tuple_add slot_tuple_add entry_tuple_add (args_tuple_add_2 _ _)
   (tuple_addW2 t b vs.toArray ws.toArray n n2 dd Xj sl sl2 (by simpa using hv) (by simpa using hw) (by rw [LY,LY];exact hsz)) ⟨ho,ho2,?_⟩
  rw [e];exact h2 hw
def sIx(n d:Nat):Option Int->Nat
 | none=>d
 | some v=>if v<0 then (v+(n:Int)).toNat else min v.toNat n
theorem sIx_none(n d:Nat):sIx n d none=d:=rfl
theorem sIx_nat(n d k:Nat):sIx n d (some (k:Int))=min k n:=by
 show (if (k:Int)<0 then ((k:Int)+(n:Int)).toNat else min (k:Int).toNat n)=min k n;rw [if_neg (by lia),Np]
theorem AD(n d:Nat)(hd:d<=n)(o:Option Int):sIx n d o<=n:=by
 cases o with
 | none=>exact hd
 | some v =>
  show (if v<0 then (v+(n:Int)).toNat else min v.toNat n)<=n;by_cases hv:v<0
  .rw [if_pos hv];lia
  .rw [if_neg hv];exact Nat.min_le_right _ _
theorem wz(v:Int)(n d:Nat):(if v<0 then max (v+(n:Int)) 0 else min v (n:Int))=((sIx n d (some v):Nat):Int):=by
 show (if v<0 then max (v+(n:Int)) 0 else min v (n:Int))=(((if v<0 then (v+(n:Int)).toNat else min v.toNat n):Nat):Int);by_cases hv:v<0
 .simp only [if_pos hv];lia
 .simp only [if_neg hv];lia
theorem HJ(lo hi:Option Int)(n:Nat):L5.Slice.sliceAdjust lo hi 1 (n:Int)=(((sIx n 0 lo:Nat):Int),((sIx n n hi:Nat):Int)):=by
 have h1 : ¬ ((1:Int)<0):=by lia
 unfold L5.Slice.sliceAdjust;simp only [h1,if_false];refine Prod.ext ?_ ?_
 .cases lo with
  | none=>rfl
  | some v=>exact wz v n 0
 .cases hi with
  | none=>rfl
  | some v=>exact wz v n n
theorem Fg(i j:Nat):L5.Slice.slicePlaces (i:Int) (j:Int) 1=j-i:=by
 unfold L5.Slice.slicePlaces;have h1:(1:Int)>0:=by lia
 simp only [h1,if_true,Int.ediv_one];split<;>lia
theorem uF{v:Value}{o:Option Int}{Q:Option Int->LF->Prop}(p:PN v o)(h:Q o s):LS (LZ prog w) A (L5.Slice.slicePartIndex v) Q E s:=by
 cases p with
 | none=>exact slicePart_none h
 | int i t=>exact slicePart_int h
theorem xw{sl:Addr}{vl vu:Value}{lo hi:Option Int}{n:Nat}{Q:Int×Int×Nat->LF->Prop}(hs:s.heap.IsSliceOf sl vl vu .none)(pl:PN vl lo)(pu:PN vu hi)
  (h:Q (((sIx n 0 lo:Nat):Int),1,sIx n n hi-sIx n 0 lo) s):LS (LZ prog w) A (L5.Slice.sliceApplied (.ref sl) (pure (n:Int))) Q E s:=by
 obtain ⟨os,hos,hcs,hds⟩:=id hs;unfold L5.Slice.sliceApplied L5.Slice.sliceFields;refine fv (fv (Me hos hds (x:=vl) rfl (fv (Me hos hds (x:=vu) rfl (fv (Me hos hds (x:=.none) rfl (LJ ?_)))))));refine fv (slicePart_none ?_);show LS _ _ (if ((1:Int)==0)=true then _ else _) _ _ s;rw [if_neg (by decide)];refine fv (uF pl (fv (uF pu (fv (LJ ?_)))));show LS _ _ (match L5.Slice.sliceAdjust lo hi 1 (n:Int) with|(lo,hi)=>pure (lo,(1:Int),L5.Slice.slicePlaces lo hi 1)) _ _ s;rw [HJ lo hi n];show LS _ _ (pure (((sIx n 0 lo:Nat):Int),(1:Int),L5.Slice.slicePlaces ((sIx n 0 lo:Nat):Int) ((sIx n n hi:Nat):Int) 1)) _ _ s;rw [Fg];exact LJ h
theorem DX(xs:Array Value)(i k:Nat):((Pk k).filterMap λ(m:Nat)=>xs[((i:Int)+(m:Int)*1).toNat]?).toArray=((xs.toList.drop i).take k).toArray:=by
 have e:(λ(m:Nat)=>xs[((i:Int)+(m:Int)*1).toNat]?)=λm=>xs[i+m]?:=by
  funext m;have:((i:Int)+(m:Int)*1).toNat=i+m:=by lia
  rw [this]
 rw [e];have:=pick_run xs i k;rw [List.filterMap_map] at this;have e2:((λx=>xs[x]?)∘λx=>i+x)=λm=>xs[i+m]?:=rfl;rw [e2] at this;rw [this]
theorem getItem_tuple_cut{t sl:Addr}{items:Array Value}{vl vu:Value}{lo hi:Option Int}{Q:Value->LF->Prop}(ht:PY s.heap t items)(hs:s.heap.IsSliceOf sl vl vu .none)(pl:PN vl lo)(pu:PN vu hi)
  (hw : ¬ (sIx items.size 0 lo=0/\sIx items.size items.size hi=items.size))
  (h:Q (.ref s.heap.objs.size) { s with heap:=s.heap.push { cls:=.type "tuple",data:=.seq ((items.toList.drop (sIx items.size 0 lo)).take (sIx items.size items.size hi-sIx items.size 0 lo)).toArray } })
  (hsz:items.size<=sizeLine):LS (LZ prog w) A (QC (.ref t) (.ref sl)) Q E s:=by
 have XD:sizeOk (.seq ((items.toList.drop (sIx items.size 0 lo)).take (sIx items.size items.size hi-sIx items.size 0 lo)).toArray):=by
  show ((items.toList.drop (sIx items.size 0 lo)).take (sIx items.size items.size hi-sIx items.size 0 lo)).toArray.size<=sizeLine;rw [LY,Nj,O8,NP];lia
 have hj:sIx items.size items.size hi<=items.size:=AD _ _ (we _) hi;obtain ⟨os,hos,hcs,hds⟩:=id hs;have hTs:s.TypeIs (.ref sl) "slice":=⟨os,hos,hcs⟩;unfold QC
 try with_reducible refine Mt ?_
 first|refine fv (LJ ?_)|skip
 refine fv (wpAny_sequenceKey ht.typeIs (by decide) ?_);refine fv (ME (name:=vv "__getitem__") ht.typeIs MK
  (MO MK ht.typeIs entry_tuple_getitem ?_ (args_tuple_getitem _ _)))
 show LS _ _ (L5.Tuple.tupleItemsOf (.ref t)>>=_) _ _ s;refine fv (tupleItemsOf_ ht ?_);refine fv (Qv hTs ?_);rw [if_pos (by decide)];refine fv (xw hs pl pu ?_);have hno : ¬ ((((sIx items.size 0 lo:Nat):Int)==0&&(1:Int)==1&&(sIx items.size items.size hi-sIx items.size 0 lo)==items.size)=true):=by
  intro q;rw [Mu,Mu] at q;have q1:((sIx items.size 0 lo:Nat):Int)=0:=eq_of_beq q.1.1;have q2:sIx items.size items.size hi-sIx items.size 0 lo=items.size:=eq_of_beq q.2;exact hw ⟨by lia,by lia⟩
 show LS _ _ (if (((sIx items.size 0 lo:Nat):Int)==0&&(1:Int)==1&&(sIx items.size items.size hi-sIx items.size 0 lo)==items.size)=true then _ else _) _ _ s;rw [if_neg hno,DX]
 first
  | exact fv (m:=L5.Tuple.tupleExact _) (MG (LJ ⟨_,rfl,LJ h⟩) XD)
  | exact fv (m:=L5.Tuple.tupleExact _) (MG (fv (LJ (LJ ⟨_,rfl,LJ h⟩))) XD)
  | exact fv (fv (m:=L5.Tuple.tupleExact _) (MG (LJ (LJ ⟨_,rfl,LJ h⟩)) XD))
  | exact fv (fv (m:=L5.Tuple.tupleExact _) (MG (LJ ⟨_,rfl,LJ h⟩) XD))
end
end HT
namespace L2
open PySem PySem.Spec PyProof.Rows
variable{xs:List V}{its us:List Value}{α:Type}{n:Nat}{Go:List (Addr×Obj)}{σ:St}{H:Hp}{s:LF}{x:V}
abbrev TO:=St->Hp->(Option Int->Hp->Prop)->Prop
def PO(X:Cx)(e:Option Mw)(t:TO):Prop :=
 ∀(Go:List (Addr×Obj))(s:LF)(σ:St)(H:Hp)(Q:Option Int->Hp->Prop),Inv X Go σ H s->t σ H Q ->
  LS (LZ X.prog X.w) X.A (evalPart e X.env) (λu s'=>∃o H',Inv X Go σ H' s'/\PN u o/\Q o H') X.xe s
def v7:TO:=λ_ H Q=>Q none H
def xY(t:TE):TO:=λσ H Q=>t σ H λx H1=>∃i,x = .int i/\Q (some i) H1
section
variable {X:Cx}{e:Mw}{te:TE}{lo hi:Option Mw}{tl th:TO}{pos p2:Pos}
theorem d6:W (PO X none v7):=by
 refine ⟨?_⟩;intro Go s σ H Q I h;rw [evalPart_none];exact LJ ⟨none,H,I,.none,h⟩
theorem ee(h:W (PE X e te)):W (PO X (some e) (xY te)):=by
 refine ⟨?_⟩;have h:=h.h;intro Go s σ H Q I hw;rw [evalPart_some];refine thn (h Go s σ H _ I hw) λu s1=>x5e λx H1 I1 r1 q1=>?_;obtain ⟨i,rfl,q⟩:=q1;obtain ⟨t,rfl⟩:=r1;exact ⟨some i,H1,I1,.int i t,q⟩
def SlR(X:Cx)(r:V->Option Int->Option Int->Hp->VK->Prop):Prop :=
 ∀(Go:List (Addr×Obj))(s:LF)(σ:St)(H:Hp)(x:V)(v vl vu:Value)(lo hi:Option Int)(sl:Addr)(Q:VK),Inv X Go σ H s->zp x v->s.heap.IsSliceOf sl vl vu .none->PN vl lo->PN vu hi->r x lo hi H Q ->
  ∃T id,typeLookup (.type T) "__getitem__"=pure (some (.builtin id))/\s.TypeIs v T/\LS (LZ X.prog X.w) X.A (QC v (.ref sl)) (EP X Go σ Q) X.xe s
theorem SlR.or{r r':V->Option Int->Option Int->Hp->VK->Prop}(h:SlR X r)(h':SlR X r'):SlR X (λx lo hi H Q=>r x lo hi H Q\/r' x lo hi H Q):=by
 intro Go s σ H x v vl vu lo hi sl Q I rx hs pl pu q;rcases q with q|q
 .exact h Go s σ H x v vl vu lo hi sl Q I rx hs pl pu q
 .exact h' Go s σ H x v vl vu lo hi sl Q I rx hs pl pu q
def tSl(r:V->Option Int->Option Int->Hp->VK->Prop)(te:TE)(tl th:TO):TE:=λσ H Q=>te σ H λx H1=>tl σ H1 λl H2=>th σ H2 λu H3=>r x l u H3 Q
theorem eE{r:V->Option Int->Option Int->Hp->VK->Prop}(hr:SlR X r)(he:W (PE X e te))(hl:W (PO X lo tl))(hu:W (PO X hi th)):W (PE X (.Subscript e (.Slice lo hi none p2) pos) (tSl r te tl th)):=by
 refine ⟨?_⟩;have he:=he.h;have hl:=hl.h;have hu:=hu.h;intro Go s σ H Q I h;refine Subscript_ (thn (he Go s σ H _ I h) λv s1=>x5e λx H1 I1 r1 q1=>?_);refine wpAny_Slice (thn (hl Go s1 σ H1 _ I1 q1) λvl s2=>x5e λl H2 I2 pl q2=>thn (hu Go s2 σ H2 _ I2 q2) λvu s3=>x5e λu H3 I3 pu q3=>?_);rw [evalPart_none];refine LJ ?_;have I4:Inv X Go σ H3 { s3 with heap:=s3.heap.push { cls:=.type "slice",data:=.fields #[vl,vu,.none] } }:=I3.kept (t':=s3.toks) λb ob q=>p8 _ q;obtain ⟨T,id,hT,ht,hg⟩:=hr Go { s3 with heap:=s3.heap.push { cls:=.type "slice",data:=.fields #[vl,vu,.none] } } σ H3 x v vl vu l u s3.heap.objs.size Q I4 r1 (Heap.IsSliceOf.new ..) pl pu q3;show LS (LZ X.prog X.w) X.A (subscriptTail e (.Slice lo hi none p2) v (.ref s3.heap.objs.size)) (EP X Go σ Q) X.xe { s3 with heap:=s3.heap.push { cls:=.type "slice",data:=.fields #[vl,vu,.none] } };exact tail_any (ops:=[.ref s3.heap.objs.size,v]) ht hT hg (by with_unfolding_all rfl)
def aU(xs:List V)(lo hi:Option Int):List V:=(xs.drop (HT.sIx xs.length 0 lo)).take (HT.sIx xs.length xs.length hi-HT.sIx xs.length 0 lo)
theorem tK(xs:List V)(lo hi:Option Int):(aU xs lo hi).length<=xs.length:=by
 unfold aU;rw [Nj,O8];lia
def FO(K:LK):V->Option Int->Option Int->Hp->VK->Prop:=λx lo hi H Q=>∃a xs,x = .ref a/\SqT K H a xs /\
 ¬ (HT.sIx xs.length 0 lo=0/\HT.sIx xs.length xs.length hi=xs.length)/\∀p,H p=none->Q (.ref p) (upd H p (.tup (aU xs lo hi)))
theorem HV:SlR X (FO X.K):=by
 intro Go s σ H x v vl vu lo hi sl Q I rx hs pl pu h;obtain ⟨a,xs,rfl,hx,hw,q⟩:=h;cases rx;obtain ⟨its,r,ht,hz⟩:=I.tuple hx;have Z5:its.toArray.size=xs.length:=by rw [LY];exact r.length.symm
 refine ⟨"tuple",_,MK.lookup,ht.typeIs,?_⟩;refine HT.getItem_tuple_cut ht hs pl pu (by rw [Z5];exact hw) ?_ (by rw [Z5];exact hz);rw [Z5];refine ⟨.ref s.heap.objs.size,_,I.laid (t':=s.toks) (o:=.tup (aU xs lo hi)) (λb ob q=>p8 _ q) (we _) ?_,rfl,q _ (I.hok.fresh (we _))⟩;exact ⟨Mp (tK xs lo hi) hz,_,(r.drop (HT.sIx xs.length 0 lo)).take (HT.sIx xs.length xs.length hi-HT.sIx xs.length 0 lo),PY.new _ _⟩
def Hh(K:LK):R2:=λx y H Q=>∃a b xs ys,x = .ref a/\y = .ref b/\SqT K H a xs/\SqT K H b ys/\xs≠[]/\xs.length+ys.length<=sizeLine /\
 (ys=[]->Q (.ref a) H)/\(ys≠[]->∀p,H p=none->Q (.ref p) (upd H p (.tup (xs++ys))))
theorem zq.nil_iff(r:zq xs us):us=[]↔xs=[]:=by
 cases r with
 | nil=>simp
 | cons _ _=>simp
theorem EC:OpR X (Nl .Add) (Hh X.K):=by
 intro Go s σ H x y v u Q I rx ry h;obtain ⟨a,b,xs,ys,rfl,rfl,ha,hb,hx,hz,q1,q2⟩:=h;cases rx;cases ry;obtain ⟨its,r1,p1,_⟩:=I.tuple ha;obtain ⟨Xi,r2,p2,_⟩:=I.tuple hb;refine HT.cat_tup p1 p2 (λz=>hx (r1.nil_iff.mp z)) (λz=>⟨.ref a,H,I,rfl,q1 (r2.nil_iff.mp z)⟩) (λz=>?_) (by rw [<- r1.length,<- r2.length];exact hz);refine ⟨.ref s.heap.objs.size,_,I.laid (t':=s.toks) (o:=.tup (xs++ys)) (λb ob q=>p8 _ q) (we _) ?_,rfl,q2 (λw=>z (r2.nil_iff.mpr w)) _ (I.hok.fresh (we _))⟩;exact ⟨by rw [Md];exact hz,_,r1.append r2,PY.new _ _⟩
end
def ixN(n:Nat)(i:Int):Option Nat:=if 0<=i then (if i<n then some i.toNat else none) else if -(n:Int)<=i then some (i+n).toNat else none
def atI(xs:List α)(i:Int):Option α:=(ixN xs.length i).bind λj=>xs[j]?
theorem vW{i:Int}{j:Nat}(h:ixN n i=some j):Qk i n=some j/\j<n/\-(n:Int)<=i/\i<n:=by
 unfold ixN at h;by_cases h0:0<=i
 .rw [if_pos h0] at h;by_cases h1:i<n
  .rw [if_pos h1] at h;have e:i.toNat=j:=Ms.inj h;exact ⟨by rw [seqIndex_of h0 h1,e],by lia,by lia,h1⟩
  .rw [if_neg h1] at h;cases h
 .rw [if_neg h0] at h;by_cases h1 : -(n:Int)<=i
  .rw [if_pos h1] at h;have e:(i+n).toNat=j:=Ms.inj h;exact ⟨by rw [seqIndex_neg (by lia) h1,e],by lia,h1,by lia⟩
  .rw [if_neg h1] at h;cases h
theorem mn{xs:List α}{i:Int}{v:α}(h:atI xs i=some v):∃j,Qk i xs.length=some j/\xs[j]?=some v/\j<xs.length/\-(xs.length:Int)<=i/\i<xs.length:=by
 unfold atI at h;cases e:ixN xs.length i with
 | none=>rw [e] at h;cases h
 | some j =>
  rw [e] at h;obtain ⟨h1,h2,h3,h4⟩:=vW e;exact ⟨j,h1,h,h2,h3,h4⟩
theorem cB{xs:List α}{j:Nat}{v:α}(h:xs[j]?=some v):atI xs (j:Int)=some v:=by
 have hj:j<xs.length:=(LH.mp h).1;have e:ixN xs.length (j:Int)=some j:=by
  unfold ixN;rw [if_pos (by lia),if_pos (by lia)];simp
 unfold atI;rw [e];exact h
theorem sL(xs:List α)(v:α):atI (xs++[v]) (-1)=some v:=by
 have hl:(xs++[v]).length=xs.length+1:=by simp
 have e:ixN (xs++[v]).length (-1)=some xs.length:=by
  unfold ixN;rw [hl,if_neg (by decide),if_pos (by lia)];congr 1;lia
 unfold atI;rw [e];show (xs++[v])[xs.length]?=some v;simp
def vG(b:Mw):Prop:=∀o i,subscripted b false o i=operate [o,i] (QC o i)
def IxR(X:Cx)(r:R2):Prop :=
 ∀(ZN Zb:Mw)(Go:List (Addr×Obj))(s:LF)(σ:St)(H:Hp)(x y:V)(v u:Value)(Q:VK),Inv X Go σ H s->zp x v->zp y u->r x y H Q ->
  subscripted Zb false v u=operate [v,u] (QC v u)->LS (LZ X.prog X.w) X.A (subscriptTail ZN Zb v u) (EP X Go σ Q) X.xe s
def MtR(X:Cx)(id:String)(r:V->List V->Hp->VK->Prop):Prop :=
 ∀(Go:List (Addr×Obj))(s:LF)(σ:St)(H:Hp)(x:V)(xs:List V)(v:Value)(us:List Value)(Q:VK),Inv X Go σ H s->zp x v->zq xs us->r x xs H Q ->
  LS (LZ X.prog X.w) X.A (call (.builtin id) (v::us)) (EP X Go σ Q) X.xe s
section
variable {X:Cx}{a b:Mw}{ta tb:TE}{pos:Pos}
theorem IxR.or{r r':R2}(h:IxR X r)(h':IxR X r'):IxR X (λx y H Q=>r x y H Q\/r' x y H Q):=by
 intro ZN Zb Go s σ H x y v u Q I rx ry q hs;rcases q with q|q
 .exact h ZN Zb Go s σ H x y v u Q I rx ry q hs
 .exact h' ZN Zb Go s σ H x y v u Q I rx ry q hs
theorem vV{r:R2}(hr:IxR X r)(ha:PE X a ta)(hb:PE X b tb)(hs:vG b):PE X (.Subscript a b pos) (tOp r ta tb):=by
 intro Go s σ H Q I h;exact Subscript_ (mi ha hb I h λv u s2 x y H2 I2 rx ry q=>hr a b Go s2 σ H2 x y v u Q I2 rx ry q (hs _ _))
def sj(K:LK):R2:=λx y H Q=>∃p xs i v,x = .ref p/\y = .int i/\SqL K H p xs/\atI xs i=some v/\Q v H
def vR(K:LK):R2:=λx y H Q=>∃p xs i v,x = .ref p/\y = .int i/\SqT K H p xs/\atI xs i=some v/\Q v H
def xg:R2:=λx y H Q=>∃z i c,x = .str z/\y = .int i/\z.length<=sizeLine/\atI z.cps.toList i=some c/\Q (.str ⟨#[c]⟩) H
theorem x9:IxR X (sj X.K):=by
 intro ZN Zb Go s σ H x y v u Q I rx ry h hs;obtain ⟨p,xs,i,z,rfl,rfl,hq,he,q⟩:=h;cases rx;obtain ⟨t,rfl⟩:=ry;obtain ⟨its,r,pl,hz⟩:=I.list hq;obtain ⟨j,h1,h2,h3,h4,h5⟩:=mn he;obtain ⟨w,ew,XU⟩:=r.get h2;have hl:=r.length;have hn:=fu;have YG:EP X Go σ Q w s:=⟨z,H,I,XU,q⟩;by_cases h0:0<=i
 .have hj:i.toNat=j:=by
   rw [seqIndex_of h0 h5] at h1;exact Ms.inj h1
  exact item_listR pl.isList h0 (by lia) (by rw [hj];simpa using ew) YG hs
 .have hj:(i+(its.toArray.size:Int)).toNat=j:=by
   rw [seqIndex_neg (by lia) h4] at h1;rw [LY,<- hl];exact Ms.inj h1
  exact N1 (x:=w) pl.isList.typeIs slot_list_getitem.lookup
   (wpAny_getItem_list_neg (Q:=λr s'=>r=w/\EP X Go σ Q r s') pl.isList (by lia) (by rw [LY]<;>lia) (by lia) (by rw [hj];simpa using ew) ⟨rfl,YG⟩) hs
theorem Js:IxR X (vR X.K):=by
 intro ZN Zb Go s σ H x y v u Q I rx ry h hs;obtain ⟨p,xs,i,z,rfl,rfl,hq,he,q⟩:=h;cases rx;obtain ⟨t,rfl⟩:=ry;obtain ⟨its,r,pl,hz⟩:=I.tuple hq;obtain ⟨j,h1,h2,h3,h4,h5⟩:=mn he;obtain ⟨w,ew,XU⟩:=r.get h2;have hl:=r.length;have hn:=fu;have YG:EP X Go σ Q w s:=⟨z,H,I,XU,q⟩;exact N1 (x:=w) pl.typeIs Pw.lookup
  (getItem_tuple (j:=j) (Q:=λr s'=>r=w/\EP X Go σ Q r s') pl (by lia) (by lia) (by rw [LY,<- hl];exact h1) (by simpa using ew) ⟨rfl,YG⟩) hs
theorem G4:IxR X xg:=by
 intro ZN Zb Go s σ H x y v u Q I rx ry h hs;obtain ⟨z,i,c,rfl,rfl,hz,he,q⟩:=h;obtain ⟨t,rfl⟩:=rx;obtain ⟨t',rfl⟩:=ry;obtain ⟨j,h1,h2,h3,h4,h5⟩:=mn he;have hl:z.cps.toList.length=z.length:=by simp [Str.length]
 rw [hl] at h1 h4 h5;have hn:=fu;exact tail_any (OT s z t) slot_str_getitem.lookup (getItem_str (c:=c) (by
  have e1:decide (i < -(2 ^ 63:Int))=false:=decide_eq_false (by lia);have e2:decide (i ≥ 2 ^ 63)=false:=decide_eq_false (by lia);rw [e1,e2,O2]) (by rw [h1];simpa using h2) ⟨.str ⟨#[c]⟩,H,I.tok _,⟨_,rfl⟩,q⟩) hs
def rIx(K:LK):R2:=λx y H Q=>sj K x y H Q\/vR K x y H Q\/xg x y H Q
theorem HN:IxR X (rIx X.K):=x9.or (Js.or G4)
theorem Gx(its:List Value)(n j:Nat)(u:Value):N8 (·.setIfInBounds j u) { cls:=.type "list",data:=.seq its.toArray n }={ cls:=.type "list",data:=.seq (its.set j u).toArray n }:=by
 simp [N8]
theorem Inv.lst{p:Addr}(I:Inv X Go σ H s)(h:H p=some (.lst xs)) :
  ∃(its:List Value)(n:Nat),zq xs its/\s.heap.get? p=some { cls:=.type "list",data:=.seq its.toArray n }/\xs.length<=sizeLine:=by
 obtain ⟨z,its,n,r,e⟩:=I.hok p _ h;exact ⟨its,n,r,e,z⟩
theorem Inv.lstUpd{p:Addr}{ys:List V}{its':List Value}{n':Nat}{f:Obj->Obj}(I:Inv X Go σ H s)(h:H p=some (.lst xs))
  (ho:s.heap.get? p=some { cls:=.type "list",data:=.seq its.toArray n }) (hf:f { cls:=.type "list",data:=.seq its.toArray n }={ cls:=.type "list",data:=.seq its'.toArray n' }) (r:zq ys its') (hz:ys.length<=sizeLine) (t:Nat) :
  Inv X Go σ (upd H p (.lst ys)) { s with heap:=s.heap.update p f,toks:=t }:=by
 have e:(s.heap.update p f).get? p=some { cls:=.type "list",data:=.seq its'.toArray n' }:=by
  rw [M3 f ho (by rw [hf]<;>rfl),hf]
 refine I.write (x:=p) (e:=p) (by rw [h];trivial) (.inl rfl) (λb u hb q=>(Mo _ _ (L8 hb)).trans q) ⟨_,e⟩ ?_;exact ⟨hz,its',n',r,e⟩
def qC:V->V->V->Hp->(Hp->Prop)->Prop:=λo i v H Q=>∃p xs k j,o = .ref p/\i = .int k/\H p=some (.lst xs)/\ixN xs.length k=some j/\Q (upd H p (.lst (xs.set j v)))
theorem gZ:oo X qC:=by
 intro Go s σ H o i v ov iv u Q I ro ri rv h;obtain ⟨p,xs,k,j,rfl,rfl,hp,hj,q⟩:=h;cases ro;obtain ⟨t,rfl⟩:=ri;obtain ⟨its,n,r,ho,hz⟩:=I.lst hp;obtain ⟨h1,h2,h3,h4⟩:=vW hj;have hl:=r.length;have hn:=fu;have I':Inv X Go σ (upd H p (.lst (xs.set j v))) { s with heap:=s.heap.update p (N8 (·.setIfInBounds j u)) } :=
  I.lstUpd hp ho (Gx its n j u) (r.set rv j) (by rw [Nm];exact hz) s.toks
 by_cases h0:0<=k
 .have hk:k.toNat=j:=by
   rw [seqIndex_of h0 h4] at h1;exact Ms.inj h1
  exact PySem.W.ki_setAt ho h0 (by lia) (by rw [LY,<- hl];exact h4) (by rw [hk];exact ⟨_,I',q⟩)
 .have hk:(k+(its.toArray.size:Int)).toNat=j:=by
   rw [seqIndex_neg (by lia) h3] at h1;rw [LY,<- hl];exact Ms.inj h1
  exact PySem.W.ki_setBack ho (by lia) (by rw [LY,<- hl];exact h3) (by lia) (by rw [hk];exact ⟨_,I',q⟩)
theorem Jz(lo hi:Option Int)(n:Nat):(OE lo hi none n).1=((HT.sIx n 0 lo:Nat):Int)/\(OE lo hi none n).2.1=((HT.sIx n n hi:Nat):Int)/\(OE lo hi none n).2.2=1:=by
 refine ⟨?_,?_,rfl⟩
 .cases lo with
  | none=>simp [OE,HT.sIx]
  | some i =>
   simp only [OE,HT.sIx,getD_none,show (1:Int)>0 by decide,if_true];by_cases h:i<0
   .simp only [h,if_true]<;>lia
   .simp only [h,if_false]<;>lia
 .cases hi with
  | none=>simp [OE,HT.sIx]
  | some i =>
   simp only [OE,HT.sIx,getD_none,show (1:Int)>0 by decide,if_true];by_cases h:i<0
   .simp only [h,if_true]<;>lia
   .simp only [h,if_false]<;>lia
theorem Au(its:List Value)(lo hi:Option Int):slicePick its.toArray lo hi none=((its.drop (HT.sIx its.length 0 lo)).take (HT.sIx its.length its.length hi-HT.sIx its.length 0 lo)).toArray:=by
 obtain ⟨h1,h2,h3⟩:=Jz lo hi its.toArray.size;unfold slicePick;rw [h1,h2,h3];simp only [sliceRange_one,pick_run,LY]<;>rfl
def A5(K:LK):V->Option Int->Option Int->Hp->VK->Prop:=λx lo hi H Q=>∃a xs,x = .ref a/\SqL K H a xs/\∀p,H p=none->Q (.ref p) (upd H p (.lst (aU xs lo hi)))
theorem DC:SlR X (A5 X.K):=by
 intro Go s σ H x v vl vu lo hi sl Q I rx hs pl pu h;obtain ⟨a,xs,rfl,hx,q⟩:=h;cases rx;obtain ⟨its,r,ht,hz⟩:=I.list hx;have Z5:=r.length;refine ⟨"list",_,slot_list_getitem.lookup,ht.isList.typeIs,?_⟩;refine wpAny_getItem_list_slice ht.isList hs pl pu .none (by simp) ?_ (by rw [LY]<;>lia);rw [Au,<- Z5];refine ⟨.ref s.heap.objs.size,_,I.laid (t':=s.toks) (o:=.lst (aU xs lo hi)) (λb ob q=>p8 _ q) (we _) ?_,rfl,q _ (I.hok.fresh (we _))⟩;exact ⟨Mp (tK xs lo hi) hz,_,0,(r.drop (HT.sIx xs.length 0 lo)).take (HT.sIx xs.length xs.length hi-HT.sIx xs.length 0 lo),LW _ rfl⟩
def zY:V->Bool
 | .non=>true
 | .bl _=>true
 | .int _=>true
 | .str _=>true
 | _=>false
def eqV:V->V->Bool
 | .non,.non=>true
 | .bl a,.bl b=>a==b
 | .bl a,.int b=>(if a then 1 else 0)==b
 | .int a,.bl b=>a==(if b then 1 else 0)
 | .int a,.int b=>a==b
 | .str a,.str b=>a==b
 | _,_=>false
theorem nt{A:Mn}{y:V}{u v:Value}(ry:zp y u)(rx:zp x v)(fy:zY y=true)(fx:zY x=true):SeqAt.EqAt A s u v (eqV y x):=by
 cases y with
 | non =>
  cases ry;cases x with
  | non=>cases rx;exact SeqAt.EqAt.same _
  | bl b=>cases rx;exact SeqAt.EqAt.none_bool b
  | int b=>obtain ⟨t,rfl⟩:=rx;exact SeqAt.EqAt.none_int b t
  | str b=>obtain ⟨t,rfl⟩:=rx;exact SeqAt.EqAt.none_str b t
  | _=>exact absurd (show false=true from fx) LM
 | bl a =>
  cases ry;cases x with
  | non=>cases rx;exact SeqAt.EqAt.bool_none a
  | bl b=>cases rx;exact SeqAt.EqAt.bool_bool a b
  | int b=>obtain ⟨t,rfl⟩:=rx;exact SeqAt.EqAt.bool_int a b t
  | str b=>obtain ⟨t,rfl⟩:=rx;exact SeqAt.EqAt.bool_str a b t
  | _=>exact absurd (show false=true from fx) LM
 | int a =>
  obtain ⟨t',rfl⟩:=ry;cases x with
  | non=>cases rx;exact SeqAt.EqAt.int_none a t'
  | bl b=>cases rx;exact SeqAt.EqAt.int_bool a t' b
  | int b=>obtain ⟨t,rfl⟩:=rx;exact SeqAt.EqAt.int_int a t' b t
  | str b=>obtain ⟨t,rfl⟩:=rx;exact SeqAt.EqAt.int_str a t' b t
  | _=>exact absurd (show false=true from fx) LM
 | str a =>
  obtain ⟨t',rfl⟩:=ry;cases x with
  | non=>cases rx;exact SeqAt.EqAt.str_none a t'
  | bl b=>cases rx;exact SeqAt.EqAt.str_bool a t' b
  | int b=>obtain ⟨t,rfl⟩:=rx;exact SeqAt.EqAt.str_int a t' b t
  | str b=>obtain ⟨t,rfl⟩:=rx;exact SeqAt.EqAt.str_str a t' b t
  | _=>exact absurd (show false=true from fx) LM
 | _=>exact absurd (show false=true from fy) LM
def eqU(x:V)(u:Value):Bool:=match u with
 | .none=>eqV .non x
 | .bool b=>eqV (.bl b) x
 | .int i _=>eqV (.int i) x
 | .str z _=>eqV (.str z) x
 | _=>false
theorem xj{y:V}{u:Value}(r:zp y u)(f:zY y=true):eqU x u=eqV y x:=by
 cases y with
 | non=>cases r;rfl
 | bl b=>cases r;rfl
 | int i=>obtain ⟨t,rfl⟩:=r;rfl
 | str z=>obtain ⟨t,rfl⟩:=r;rfl
 | _=>exact absurd (show false=true from f) LM
theorem jy(h:zq xs us)(f:xs.all zY=true):us.any (eqU x)=xs.any λy=>eqV y x:=by
 induction h with
 | nil=>rfl
 | cons r t ih =>
  rw [List.all_cons,Mu] at f;rw [PH,PH,xj r f.1,ih f.2]
theorem ic{A:Mn}{s:LF}{x:V}{v:Value}(rx:zp x v)(fx:zY x=true):∀{xs:List V}{us:List Value},zq xs us->xs.all zY=true->∀u∈us,SeqAt.EqAt A s u v (eqU x u)
 | _,_,.nil,_=>λu hu=>by cases hu
 | y::xs,u::us,.cons r t,f=>λu' hu=>by
  rw [List.all_cons,Mu] at f;rcases LI.mp hu with rfl|hu
  .rw [xj r f.1];exact nt r rx f.1 fx
  .exact ic rx fx t f.2 u' hu
def inV(x:V)(xs:List V):Bool:=xs.any λy=>eqV y x
def rIn(K:LK)(neg:Bool):R2:=λx y H Q=>∃p xs,y = .ref p/\(SqL K H p xs\/SqT K H p xs)/\zY x=true/\xs.all zY=true/\Q (.bl (if neg then !inV x xs else inV x xs)) H
theorem Lq:OpR X (MA .In) (rIn X.K false):=by
 intro Go s σ H x y v u Q I rx ry h;obtain ⟨p,xs,rfl,hq,fx,fs,q⟩:=h;cases ry;rcases hq with hq|hq
 .obtain ⟨its,r,pl,hz⟩:=I.list hq;refine SeqAt.in_listAt (eqU x) pl.isList (λw hw=>ic rx fx r fs w (by simpa using hw)) ⟨.bl _,H,I,rfl,?_⟩;rw [show its.toArray.any (eqU x)=its.any (eqU x) by simp,jy r fs];exact q
 .obtain ⟨its,r,pl,hz⟩:=I.tuple hq;refine SeqAt.in_tupleAt (eqU x) pl (λw hw=>ic rx fx r fs w (by simpa using hw)) ⟨.bl _,H,I,rfl,?_⟩;rw [show its.toArray.any (eqU x)=its.any (eqU x) by simp,jy r fs];exact q
theorem GS:OpR X (MA .NotIn) (rIn X.K true):=by
 intro Go s σ H x y v u Q I rx ry h;obtain ⟨p,xs,rfl,hq,fx,fs,q⟩:=h;cases ry;rcases hq with hq|hq
 .obtain ⟨its,r,pl,hz⟩:=I.list hq;refine SeqAt.notIn_listAt (eqU x) pl.isList (λw hw=>ic rx fx r fs w (by simpa using hw)) ⟨.bl _,H,I,rfl,?_⟩;rw [show its.toArray.any (eqU x)=its.any (eqU x) by simp,jy r fs];exact q
 .obtain ⟨its,r,pl,hz⟩:=I.tuple hq;refine SeqAt.notIn_tupleAt (eqU x) pl (λw hw=>ic rx fx r fs w (by simpa using hw)) ⟨.bl _,H,I,rfl,?_⟩;rw [show its.toArray.any (eqU x)=its.any (eqU x) by simp,jy r fs];exact q
theorem kP:zN X (.builtin "len") (λxs H Q=>∃p ys,xs=[.ref p]/\(SqL X.K H p ys\/SqT X.K H p ys)/\Q (.int ys.length) H):=by
 intro Go s σ H xs us Q I r h;obtain ⟨p,ys,rfl,hq,q⟩:=h;obtain ⟨u,rfl,rx⟩:=bY r;cases rx;have hn:=fu;rcases hq with hq|hq
 .obtain ⟨its,r',pl,hz⟩:=I.list hq;have Z5:=r'.length;exact Calls.call_len_list pl.isList (by simp only [LY]<;>lia) ⟨.int ys.length,H,I.tok _,⟨s.toks+1,by rw [LY,Z5]⟩,q⟩
 .obtain ⟨its,r',pl,hz⟩:=I.tuple hq;have Z5:=r'.length;exact len_tuple pl (by simp only [LY]<;>lia) ⟨.int ys.length,H,I.tok _,⟨s.toks+1,by rw [LY,Z5]⟩,q⟩
theorem CD:zN X (.builtin "len") (λxs H Q=>∃z,xs=[.str z]/\z.length<=sizeLine/\Q (.int z.length) H):=by
 intro Go s σ H xs us Q I r h;obtain ⟨z,rfl,hz,q⟩:=h;obtain ⟨u,rfl,t,rfl⟩:=bY r;have hn:=fu;exact len_str (by lia) ⟨.int z.length,H,I.tok _,⟨_,rfl⟩,q⟩
theorem zN.or{f:Value}{r r':List V->Hp->VK->Prop}(h:zN X f r)(h':zN X f r'):zN X f (λxs H Q=>r xs H Q\/r' xs H Q):=by
 intro Go s σ H xs us Q I rs q;rcases q with q|q
 .exact h Go s σ H xs us Q I rs q
 .exact h' Go s σ H xs us Q I rs q
theorem Lu:zN X (.type "list") (λxs H Q=>∃p ys,xs=[.ref p]/\(SqL X.K H p ys\/SqT X.K H p ys)/\∀l,H l=none->Q (.ref l) (upd H l (.lst ys))):=by
 intro Go s σ H xs us Q I r h;obtain ⟨p,ys,rfl,hq,q⟩:=h;obtain ⟨u,rfl,rx⟩:=bY r;cases rx;have YG:∀(its:List Value),zq ys its->ys.length<=sizeLine->∀(h':Heap)(c':Nat),(∀b o',s.heap.get? b=some o'->h'.get? b=some o') ->
   h'.get? s.heap.objs.size=some { cls:=.type "list",dict:=none,data:=.seq its.toArray c',slots:=#[] }->EP X Go σ Q (.ref s.heap.objs.size) { s with heap:=h' }:=λits r' hz h' c' kp e =>
  ⟨.ref s.heap.objs.size,_,I.laid (t':=s.toks) kp (we _) (show af X.prog X.w _ h' _ (.lst ys) from ⟨hz,its,c',r',e⟩),rfl,q _ (I.hok.fresh (we _))⟩
 rcases hq with hq|hq
 .obtain ⟨its,r',pl,hz⟩:=I.list hq;have Z5:=r'.length;obtain ⟨o,ho,hc,n,hd⟩:=pl.isList;exact call_list_seq p (.inl rfl) ho hc hd (λh' c' kp e=>YG its r' hz h' c' kp e) (by simp only [LY]<;>lia)
 .obtain ⟨its,r',pl,hz⟩:=I.tuple hq;have Z5:=r'.length;obtain ⟨o,ho,hc,n,hd⟩:=pl;exact call_list_seq p (.inr rfl) ho hc hd (λh' c' kp e=>YG its r' hz h' c' kp e) (by simp only [LY]<;>lia)
theorem A6:zN X (.type "tuple") (λxs H Q=>∃p ys,xs=[.ref p]/\((SqL X.K H p ys/\∀l,H l=none->Q (.ref l) (upd H l (.tup ys)))\/(SqT X.K H p ys/\Q (.ref p) H))):=by
 intro Go s σ H xs us Q I r h;obtain ⟨p,ys,rfl,h⟩:=h;obtain ⟨u,rfl,rx⟩:=bY r;cases rx;rcases h with ⟨hq,q⟩|⟨hq,q⟩
 .obtain ⟨its,r',pl,hz⟩:=I.list hq;have Z5:=r'.length;refine call_tuple_list pl.isList (λh' kp=>?_) (by simp only [LY]<;>lia);have I1:Inv X Go σ H { s with heap:=h' }:=I.kept (t':=s.toks) kp;have I2:Inv X Go σ (upd H h'.objs.size (.tup ys)) { s with heap:=h'.push { cls:=.type "tuple",data:=.seq its.toArray } } :=
   I1.laid (t':=s.toks) (λb o e=>p8 _ e) (we _) (show af X.prog X.w _ _ _ (.tup ys) from ⟨hz,its,r',PY.new _ _⟩)
  exact ⟨.ref h'.objs.size,_,I2,rfl,q _ (I1.hok.fresh (we _))⟩
 .obtain ⟨its,r',pl,hz⟩:=I.tuple hq;exact call_tuple_same pl ⟨.ref p,H,I,rfl,q⟩
def tyV(K:LK)(T:String)(x:V)(H:Hp):Prop:=match x with
 | .str _=>T="str"
 | .int _=>T="int"
 | .ref p=>(T="list"/\∃xs,SqL K H p xs)\/(T="tuple"/\∃o,K.lookup p=some o/\o.cls = .type "tuple"/\o.dict=none) \/
   (T="dict"/\((∃kvs,H p=some (.dK kvs))\/∃kvs,H p=some (.dT kvs)))\/(T="set"/\∃S n,H p=some (.set S n))
 | _=>False
theorem iL{T:String}{v:Value}(I:Inv X Go σ H s)(r:zp x v)(ty:tyV X.K T x H) :
  s.TypeIs v T/\∀a,v = .ref a->∃ob,s.heap.get? a=some ob/\ob.dict=none:=by
 cases x with
 | str z =>
  obtain ⟨t,rfl⟩:=r;cases (show T="str" from ty);exact ⟨OT s z t,λ_ e=>nomatch e⟩
 | int i =>
  obtain ⟨t,rfl⟩:=r;cases (show T="int" from ty);exact ⟨typeIs_int s i t,λ_ e=>nomatch e⟩
 | ref p =>
  cases r;rcases ty with ⟨rfl,xs,hq⟩|⟨rfl,o,hk,hc,hd⟩|⟨rfl,hk⟩|⟨rfl,S,n,hk⟩
  .obtain ⟨its,_,pl,_⟩:=I.list hq;refine ⟨pl.isList.typeIs,λa e=>?_⟩;cases e;obtain ⟨o,n,e,c,hd,_⟩:=pl;exact ⟨o,e,hd⟩
  .refine ⟨⟨o,I.kIn p o hk,hc⟩,λa e=>?_⟩;cases e;exact ⟨o,I.kIn _ o hk,hd⟩
  .have z:∃o,s.heap.get? p=some o/\o.ExactDict:=by
    rcases hk with ⟨kvs,hk⟩|⟨kvs,hk⟩
    .obtain ⟨_,_,_,_,o,_,_,e,ex,_⟩:=I.hok p _ hk;exact ⟨o,e,ex⟩
    .obtain ⟨_,_,_,_,o,_,_,e,ex,_⟩:=I.hok p _ hk;exact ⟨o,e,ex⟩
   obtain ⟨o,e,ex⟩:=z;refine ⟨⟨o,e,ex.1⟩,λa e2=>?_⟩;cases e2;exact ⟨o,e,ex.2.1⟩
  .obtain ⟨o,_,_,_,e,ex,_⟩:=I.hok p _ hk;refine ⟨⟨o,e,ex.1⟩,λa e2=>?_⟩;cases e2;exact ⟨o,e,ex.2.1⟩
 | _=>exact False.elim ty
variable {o e:Mw}{es:List Mw}{to:TE}{t:TA}{name:Str}{Z3 cpos:Pos}{T id:String}{r:V->List V->Hp->VK->Prop}
end
def MtM(X:Cx)(id:String)(r:V->List V->Hp->VK->Prop):Prop :=
 ∀(Go:List (Addr×Obj))(s:LF)(σ:St)(H:Hp)(x:V)(xs:List V)(v:Value)(us:List Value)(Q:VK),Inv X Go σ H s->zp x v->zq xs us->r x xs H Q ->
  LS (LZ X.prog X.w) X.A (call (.builtin id) (v::us)) (EP X Go σ Q) X.xe s
theorem GD{β:Type}{F:α->β->Prop}{x:α}{xs:List α}{us:List β}(h:Paired F (x::xs) us):∃u ws,us=u::ws/\F x u/\Paired F xs ws:=by
 cases h with
 | cons r t=>exact ⟨_,_,rfl,r,t⟩
theorem qR{β:Type}{F:α->β->Prop}{us:List β}(h:Paired F [] us):us=[]:=by cases h;rfl
theorem zq.one(h:zq [x] us):∃u,us=[u]/\zp x u:=by
 obtain ⟨u,ws,rfl,r,t⟩:=GD h;cases qR t;exact ⟨_,rfl,r⟩
def bX(k:V->Prop):List V->Prop
 | [y]=>k y
 | _=>False
theorem bX.ex{k:V->Prop}{vs:List V}(h:bX k vs):∃y,vs=[y]/\k y:=by
 cases vs with
 | nil=>exact h.elim
 | cons y t =>
  cases t with
  | nil=>exact ⟨y,rfl,h⟩
  | cons _ _=>exact h.elim
theorem zq.zero(h:zq [] us):us=[]:=qR h
theorem zq.eraseIdx:∀{xs:List V}{us:List Value}(i:Nat),zq xs us->zq (xs.eraseIdx i) (us.eraseIdx i)
 | _,_,_,.nil=>.nil
 | _,_,0,.cons _ t=>t
 | _,_,i+1,.cons r t=>.cons r (zq.eraseIdx i t)
theorem zq.rep{xs:List V}{us:List Value}(h:zq xs us):∀k:Nat,zq (Mg k xs).flatten (Mg k us).flatten
 | 0=>.nil
 | k+1=>by
  rw [M8,M8,OI,OI];exact zq.append h (zq.rep h k)
theorem vO{α:Type}:∀(l:List α)(i:Nat),(l.eraseIdx i).length<=l.length
 | [],_=>we _
 | _::_,0=>PV _
 | _::r,i+1=>Nat.succ_le_succ (vO r i)
theorem uf(its:List Value):∀(k:Nat)(Zi:List Value),
  foldl (λx1 x2=>x1++x2) Zi.toArray (Mg k its.toArray)=(Zi++(Mg k its).flatten).toArray
 | 0,Zi=>by simp
 | k+1,Zi=>by
  have e:Zi.toArray++its.toArray=(Zi++its).toArray:=by simp
  have e2:(Zi++its)++(Mg k its).flatten=Zi++(Mg (k+1) its).flatten:=by
   rw [M8,OI,List.append_assoc]
  rw [<- e2,<- uf its k (Zi++its),<- e,M8,QE]
section
variable {X:Cx}{Go:List (Addr×Obj)}{σ:St}{H:Hp}{s:LF}{l b:Addr}{xs ys zs:List V}
theorem Inv.lset{its':List Value}{f:Array Value->Array Value}{t':Nat}(I:Inv X Go σ H s)(hH:H l=some (.lst xs))
  (e:s.heap.get? l=some { cls:=.type "list",data:=.seq its.toArray n }) (hf:f its.toArray=its'.toArray) (hv:zq ys its') (hz:ys.length<=sizeLine) :
  Inv X Go σ (upd H l (.lst ys)) { s with heap:=s.heap.update l (N8 f),toks:=t' }:=by
 have q:=PySem.IsL.update e f;rw [hf] at q;refine I.write (x:=l) (e:=l) (by rw [hH];exact trivial) (.inl rfl) (λb' u hb hu=>(Mo s.heap (N8 f) (L8 hb)).trans hu) ⟨_,q⟩ ?_;exact ⟨hz,its',_,hv,q⟩
theorem Inv.lnew{t':Nat}(I:Inv X Go σ H s)(hv:zq ys its)(hz:ys.length<=sizeLine) :
  Inv X Go σ (upd H s.heap.objs.size (.lst ys)) { s with heap:=s.heap.push { cls:=.type "list",data:=.seq its.toArray },toks:=t' } :=
 I.laid (λ_ _ q=>p8 _ q) (we _) ⟨hz,its,0,hv,LW _ rfl⟩
theorem Inv.fresh(I:Inv X Go σ H s):H s.heap.objs.size=none:=I.hok.fresh (we _)
theorem Inv.lstM(I:Inv X Go σ H s)(hH:H l=some (.lst xs)):xs.length<=sizeLine/\∃(its:List Value)(n:Nat),zq xs its/\xs.length=its.length/\s.heap.get? l=some { cls:=.type "list",data:=.seq its.toArray n }:=by
 obtain ⟨z,its,n,r,e⟩:=I.hok l _ hH;exact ⟨z,its,n,r,r.length,e⟩
theorem AL(h:n<=sizeLine):L5.List.listTooLong n=false:=by
 unfold L5.List.listTooLong;exact decide_eq_false (by lia)
end
section
variable {X:Cx}
def Kd:V->List V->Hp->VK->Prop:=λx vs H Q=>∃l xs y,x = .ref l/\vs=[y]/\H l=some (.lst xs)/\xs.length<sizeLine/\Q .non (upd H l (.lst (xs++[y])))
theorem IW:MtM X "list.append" Kd:=by
 intro Go s σ H x vs v us Q I rx rv h;obtain ⟨l,xs,y,rfl,rfl,hH,hz,q⟩:=h;cases rx;obtain ⟨u,rfl,ru⟩:=rv.one;obtain ⟨z,its,n,r,hl,e⟩:=I.lstM hH;refine Oe F.slot_list_append ⟨_,e,rfl⟩ F.entry_list_append (F.args_list_append_2 _ _) (PySem.list_append l its.toArray n u (by rw [LY];lia)) ⟨e,?_⟩;refine ⟨.non,_,I.lset (its':=its++[u]) hH e (by simp) (r.append (.cons ru .nil)) ?_,rfl,q⟩;rw [Md,Oj];lia
def IT:V->List V->Hp->VK->Prop:=λx vs H Q=>∃l xs i k y,x = .ref l/\vs=[.int i]/\H l=some (.lst xs)/\-(2 ^ 63)<=i/\i<2 ^ 63/\Qk i xs.length=some k/\xs[k]?=some y/\Q y (upd H l (.lst (xs.eraseIdx k)))
theorem FI:MtM X "list.pop" IT:=by
 intro Go s σ H x vs v us Q I rx rv h;obtain ⟨l,xs,i,k,y,rfl,rfl,hH,h1,h2,hk,hy,q⟩:=h;cases rx;obtain ⟨u,rfl,ru⟩:=rv.one;obtain ⟨t,rfl⟩:=ru;obtain ⟨z,its,n,r,hl,e⟩:=I.lstM hH;obtain ⟨w,hw,XU⟩:=r.get hy;refine Oe F.slot_list_pop ⟨_,e,rfl⟩ F.entry_list_pop (F.args_list_pop_2 _ _)
  (MeetsSeq.list_pop_at l its.toArray n i t k w (fitsIndex_both h1 h2) (by rw [LY,<- hl];exact hk) (by rw [<- Pi];exact hw) (by rw [LY];lia)) ⟨e,?_⟩
 refine ⟨y,_,I.lset (its':=its.eraseIdx k) hH e ?_ (r.eraseIdx k) ?_,XU,q⟩
 .show its.toArray.eraseIdxIfInBounds k=(its.eraseIdx k).toArray;rw [List.eraseIdxIfInBounds_toArray]
 .have:=vO xs k;lia
def JO:V->List V->Hp->VK->Prop:=λx vs H Q=>∃l xs,x = .ref l/\vs=[]/\H l=some (.lst xs)/\Q .non (upd H l (.lst []))
theorem Em:MtM X "list.clear" JO:=by
 intro Go s σ H x vs v us Q I rx rv h;obtain ⟨l,xs,rfl,rfl,hH,q⟩:=h;cases rx;have hus:=rv.zero;subst hus;obtain ⟨z,its,n,r,hl,e⟩:=I.lstM hH;refine Oe F.slot_list_clear ⟨_,e,rfl⟩ F.entry_list_clear (F.args_list_clear_1 _) (AutoSeq1.list_clear_list_0 l its.toArray n (by rw [LY];lia)) ⟨e,?_⟩;exact ⟨.non,_,I.lset (its':=[]) (ys:=[]) hH e rfl .nil (MM _),rfl,q⟩
def Ge:R2:=λx y H Q=>∃l b xs zs,x = .ref l/\y = .ref b/\H l=some (.lst xs)/\H b=some (.lst zs)/\xs.length+zs.length<=sizeLine/\∀p,H p=none->Q (.ref p) (upd H p (.lst (xs++zs)))
theorem ID:OpR X (Nl .Add) Ge:=by
 intro Go s σ H x y v u Q I rx ry h;obtain ⟨l,b,xs,zs,rfl,rfl,hH,hB,hz,q⟩:=h;cases rx;cases ry;obtain ⟨z,its,n,r,hl,e⟩:=I.lstM hH;obtain ⟨z2,Xi,n2,r2,XW,e2⟩:=I.lstM hB;refine PySem.P.add_list e e2 ?_ (by rw [LY,LY];lia);have ea:its.toArray++Xi.toArray=(its++Xi).toArray:=by simp
 rw [ea];exact ⟨.ref _,_,I.lnew (t':=s.toks) (r.append r2) (by rw [Md];lia),rfl,q _ I.fresh⟩
def GH:R2:=λx y H Q=>∃l k xs,x = .ref l/\y = .int k/\H l=some (.lst xs)/\-(2 ^ 63)<=k/\k<2 ^ 63/\xs.length*k.toNat<=sizeLine /\
 ∀p,H p=none->Q (.ref p) (upd H p (.lst (Mg k.toNat xs).flatten))
theorem Jb(xs:List α)(k:Nat):(Mg k xs).flatten.length=k*xs.length:=by
 induction k with
 | zero=>simp
 | succ k ih=>rw [M8,OI,Md,ih,Nat.succ_mul,Nat.add_comm]
theorem Ku:OpR X (Nl .Mult) GH:=by
 intro Go s σ H x y v u Q I rx ry h;obtain ⟨l,k,xs,rfl,rfl,hH,h1,h2,hz,q⟩:=h;cases rx;obtain ⟨t,rfl⟩:=ry;obtain ⟨z,its,n,r,hl,e⟩:=I.lstM hH;have Z5:its.toArray.size*k.toNat<=sizeLine:=by rw [LY,<- hl];exact hz
 have hcap : ¬ its.toArray.size*k.toNat>(2 ^ 63-1) / 8:=by
  have:(sizeLine:Nat)<=(2 ^ 63-1) / 8:=by decide
  lia
 have hfit : ¬ (!Builtin.List.listFitsIndex k)=true:=by
  rw [fitsIndex_both h1 h2];exact LM
 have hlong : ¬ L5.List.listTooLong (its.toArray.size*k.toNat)=true:=by
  rw [AL Z5];exact LM
 have hnew:foldl (λx1 x2=>x1++x2) #[] (Mg (if its.toArray.isEmpty=true then 0 else k.toNat) its.toArray)=(Mg k.toNat its).flatten.toArray:=by
  have f0:∀m:Nat,foldl (λx1 x2=>x1++x2) #[] (Mg m its.toArray)=(Mg m its).flatten.toArray:=λm=>by
   have:=uf its m [];rw [Qz] at this;exact this
  rw [f0];cases its with
  | nil=>simp
  | cons a r'=>rw [if_neg (by simp)]
 refine wpAny_binaryOp_repeat_ref (T:="list") (U:="int") (by decide) ⟨_,e,rfl⟩ (λs'=>typeIs_int s' k t) noFill_list_mul F.fills_int_mul F.slot_int_rmul repeat_list F.slot_int_index.lookup
  (Oe F.slot_int_rmul (typeIs_int s k t) F.entry_int_rmul (F.args_int_rmul_2 _ _) (int___rmul___int_list k t l its.toArray n)
   ⟨e,rfl,⟨_,e,rfl⟩,Oe F.slot_list_mul ⟨_,e,rfl⟩ F.entry_list_mul (F.args_list_mul_2 _ _) (AutoListH.list___mul___list_int_3 l its.toArray n k t hfit hcap hlong) ⟨e,?_⟩⟩)
 rw [hnew];exact ⟨.ref _,_,I.lnew (t':=s.toks) (r.rep k.toNat) (by rw [Jb,Nat.mul_comm];exact hz),rfl,q _ I.fresh⟩
end
section
variable {prog:LV}{w:Mf}{A:Mn}{E:Value->LF->Prop}{s:LF}
end
section
variable {X:Cx}
end
end L2
namespace Att
open PySem PySem.W PySem.Calls PyProof.Rows
theorem A4{P:Params}{h:Heap}:∀(ns:List Int)(vs:List Value),WellAll P h vs (ns.map WData.int)->IntsAre vs ns:=by
 intro ns
 induction ns with
 | nil =>
  intro vs w;rw [map_nil] at w;cases w;exact .nil
 | cons n ns ih =>
  intro vs w;rw [MD] at w;cases w with
  | cons a b =>
   cases a;exact .cons _ _ (ih _ b)
theorem Ij{l:OpenLaw}{n:Nat}(hn:l.most=some n){P:Params}{h:Heap}{args:List WData}{vals:List Value}
  (hpre:l.row.toRowW.claim.pre args=true) (hwl:WellAll P h vals args) :
  ∃a vs ns,vals=[LL a]/\args=[WData.list (ns.map WData.int)]/\h.get? a=some { cls:=.type "list",data:=.seq vs.toArray }/\IntsAre vs ns/\ns.length<=n:=by
 have hsh:WShape.hasAll [] args [.list .int]=true:=(pre_splitW hpre).1;have hc:l.pre.holds [] { args:=args }=true:=(pre_splitW hpre).2;obtain ⟨d,r,rfl,h1,h2⟩:=hasAllW_cons hsh;obtain rfl:=hasAllW_nil h2;obtain ⟨xs,rfl,h3⟩:=hasW_list h1;obtain ⟨ns,rfl⟩:=items_int h3;have Z5:ns.length<=n:=by
  unfold OpenLaw.pre at hc;have h4:(WTm.not (.lt (.lit (.int (n:Int))) (.len (.arg 0)))).holds [] { args:=[.list (ns.map .int)] }=true:=by
   have h4:=(holds_andW hc).1;rw [hn] at h4;exact h4
  have h5:=condW_of h4 (w_not (w_lt w_lit (w_len_list (w_arg rfl))));rw [KE] at h5;refine Nat.le_of_not_lt λq=>?_;have q':(n:Int)<((ns.length:Nat):Int):=by lia
  first
   | (rw [decide_eq_true q'] at h5;exact absurd h5 (by decide))
   | (simp at h5;lia)
 cases hwl with
 | cons w1 w2 =>
  cases w2;cases w1 with
  | list ho hall=>exact ⟨_,_,ns,rfl,rfl,ho,A4 ns _ hall,Z5⟩
theorem FX(l:OpenLaw)(args:List WData):l.row.toRowW.claim.post args (.bool true) args=true :=
 postW_of (r:=l.row.toRowW) (X:=(true==true))
  (show WShape.has [] (.bool true) .bool=true by first|rfl|decide|simp [WShape.has,WShape.arms,WShape.armsAll])
  (show (WTm.eq .res (.lit (.bool true))).value [] { args:=args,res:=some (.bool true),after:=args }=some (.bool (true==true)) from w_eq_bool (w_res rfl) w_lit) rfl
theorem attach_call{l:OpenLaw}{n:Nat}{q:LV}{Yf:List Str}{XP:(Str->Option Value)->Heap->Prop}{YP:Mf->Heap->Prop}{d:DefRec}
  (hn:l.most=some n) (hdf:d.params.defaults=[])
  (call:∀(w:Mf)(s₀ s₁:LF)(mg mb:Str->Option Value)(fa:Addr)(o:Obj)(pm cd Yj:Value)(a:Addr)(vs:List Value)(ns:List Int),
   Ground q Yf [] XP w s₀ mg mb s₁.heap->YP w s₁.heap ->
   s₁.heap.get? fa=some o->o.data = .func (docDef d.name d.params d.body d.scope pm cd Yj)->s₁.heap.CodeRec cd d.name->mg d.name=some (.ref fa) ->
   s₁.heap.get? a=some { cls:=.type "list",data:=.seq vs.toArray }->IntsAre vs ns->ns.length<=n->s₁.gens = #[] ->
   OJ (LZ l.prog w) callerA (.call (.ref fa) ⟨[.ref a],[]⟩) (λr s'=>r = .ok (.ret (.bool true))/\OldK s₁.heap s'.heap/\s'.os=s₁.os/\Oa s'.gens) s₁) :
  WalkO q Yf XP YP l.row.toRowW d [] (λf vs=>PySem.call f vs):=by
 intro w s₀ s₁ mg mb G Y fa o pm cd Yj dV kV ho hd hcd hD hmg hg args vals as hpre hlay hrd hwl hlo;obtain rfl:dV = .none:=Dflts.none hD hdf;obtain rfl:kV = .none:=Dflts.noKw hD;obtain ⟨a,vs,ns,rfl,rfl,hobj,Xh,Z5⟩:=Ij hn hpre hwl;refine enter_call (On (call w s₀ s₁ mg mb fa o pm cd Yj a vs ns G Y ho (fd_plain hd) hcd hmg hobj Xh Z5 hg) λr s' hq=>?_);obtain ⟨rfl,h2,h3,h4⟩:=hq;exact ⟨.inl ⟨.bool true,.bool true,[],rfl,λ_=>rfl,.bool true,FX l _,λ_=>⟨List.Pairwise.nil,λ_ hm=>(nomatch hm)⟩⟩,h2,h3,h4⟩
section
variable {prog:LV}{w:Mf}{A:Mn}{E:Value->LF->Prop}{s:LF}{K:Frag}
end
end Att
namespace L2
open PySem PySem.Spec PyProof.Rows
variable{qual x:Str}{st:Stmt}{f:Addr}{A B:Prop}
theorem wF{vs:List Value}{ns:List Int}(h:IntsAre vs ns):zq (ns.map V.int) vs:=by
 induction h with
 | nil=>exact .nil
 | cons n t h ih=>exact .cons ⟨t,rfl⟩ ih
def ax(s:Stmt)(j:Nat):Stmt:=match s with
 | .ClassDef _ _ _ Zz _ _ _ _ _ _ _=>Zz.getD j (.Pass ⟨0,0,0,0⟩)
 | _=>.Pass ⟨0,0,0,0⟩
def gR(s:Stmt):Arguments:=match s with
 | .FunctionDef _ a _ _ _ _ _ _ _ _=>a
 | _=>{ posonlyargs:=[],args:=[],vararg:=none,kwonlyargs:=[],kw_defaults:=[],kwarg:=none,defaults:=[] }
def dS(s:Stmt):List Stmt:=match s with
 | .FunctionDef _ _ b _ _ _ _ _ _ _=>b
 | _=>[]
def zm(s:Stmt):Scope:=match s with
 | .FunctionDef _ _ _ _ _ _ sc _ _ _=>sc
 | _=>{ kind:=.function,names:=[],isGenerator:=false,isCoroutine:=false }
abbrev CX0:CXT:=λ_ _ _ _ _ _=>False
abbrev E0:XK:=λ_ _ _=>False
theorem iU{X:Cx}:fj CX0 X E0:=λ_ _ _ _ _ _ _ h=>h.elim
structure Fun(K:LK)(x qual:Str)(st:Stmt)(f:Addr)(fd:Nc):Prop where
 ex:∃(oc:Value)(od:Option Addr)(kV Yj pm:Value)(an:Option Addr)(Z1 ct:Value)(osl:Array (Option Value)),
  fd=fnOf x qual (gR st) (dS st) (zm st) .none kV Yj pm an Z1 ct/\K.lookup f=some ⟨oc,od,.func fd,osl⟩/\codeIn K Z1 qual=true
 kp:Ph K (.ref f)=true
section
variable {P:LV}{w:Mf}{K:LK}{mg:Str->Option Value}{base:Heap}
theorem Fun.ok{fd:Nc}{N ps:List Str}{cm:Bool}{k:Nat}{sp:Sp}(F:Fun K x qual st f fd)(S:zw N ps (zm st))(len:∀vs H Q E,sp vs H Q E->vs.length=ps.length)
  (Yq:∀(Z1:Value)(A:Mn)(outer:List Env)(s:LF)(H:Hp)(vs:List V)(Q:VK)(E:XK),zJ cm k (A.deeper (Od qual (zm st) s.heap.objs.size f Z1))->sp vs H Q E ->
   ∃t,PSs (cI CX0 cm P w K mg base N qual (zm st) f Z1 A outer s H E).nox (dS st) t/\t { nx:=λ_ H'=>Q .non H',rt:=Q } (start N vs) H):zo P w K mg base CX0 cm (k+1) f fd ps sp:=by
 obtain ⟨oc,od,kV,Yj,pm,an,Z1,ct,osl,rfl,lk,hcd⟩:=F.ex;refine mf lk hcd S len λA outer s H vs Q E hr Xp=>?_;obtain ⟨t,h,q⟩:=Yq Z1 A outer s H vs Q E hr Xp;exact ⟨t,h.nox,q⟩
theorem Fun.binds{fd:Nc}{ps:List Str}(F:Fun K x qual st f fd)
  (h:∀(kV Yj pm:Value)(an:Option Addr)(Z1 ct:Value)(us:List Value),us.length=ps.length->bindArgs (fnOf x qual (gR st) (dS st) (zm st) .none kV Yj pm an Z1 ct) ⟨us,[]⟩=pure (ps.zip us)):bg K fd ps []:=by
 obtain ⟨oc,od,kV,Yj,pm,an,Z1,ct,osl,rfl,lk,hcd⟩:=F.ex;exact .all (h kV Yj pm an Z1 ct)
theorem AQ{oc:Value}{od an:Option Addr}{osl:Array (Option Value)}{kV Yj pm Z1 ct:Value}(l:K.lookup f=some ⟨oc,od,.func (fnOf x qual (gR st) (dS st) (zm st) .none kV Yj pm an Z1 ct),osl⟩)
  (c:codeIn K Z1 qual=true) (k:Ph K (.ref f)=true):Fun K x qual st f (fnOf x qual (gR st) (dS st) (zm st) .none kV Yj pm an Z1 ct):=⟨⟨oc,od,kV,Yj,pm,an,Z1,ct,osl,rfl,l,c⟩,k⟩
end
theorem zQ{A:Mn}{c:Bool}{k:Nat}(hr:zJ c k A):A.units+1<cLine:=MY (Nat.add_le_add_left (by decide:1<=64) _) hr.units
theorem qA{n:Nat}(h:n<=1000):n<sizeLine:=MY h (by decide)
section
variable {X:Cx}
theorem pv(i:Nat){pos:Pos}(hN:X.N[i]?=some x:=by rfl)(hv:Vis X.env.scope x:=by first|exact LQ rfl|exact OM (LQ rfl)|exact OM (OM rfl))(hd:(x==("__debug__":Str))=false:=by decide)
  (hcd:(x==("__classdict__":Str))=false:=by decide):PE X (.Name x pos) (j9 i):=EJ hN hv hd hcd
end
theorem gG(h:B):if false=true then A else B:=by
 rw [if_neg LM];exact h
theorem gK(h:A):if true=true then A else B:=by
 rw [if_pos rfl];exact h
theorem aj{c:Prop} [Decidable c] (h1:c->A) (h2 : ¬ c->B):if c then A else B:=by
 by_cases h:c
 .rw [if_pos h];exact h1 h
 .rw [if_neg h];exact h2 h
def zl(H H':Hp):Prop:=∀b o,H b=some o->H' b=some o
theorem zl.refl(H:Hp):zl H H:=λ_ _ h=>h
theorem zl.trans{H H1 H2:Hp}(a:zl H H1)(b:zl H1 H2):zl H H2:=λc o h=>b c o (a c o h)
theorem zl.free{H H':Hp}(e:zl H H'){l:Addr}(h:H' l=Option.none):H l=Option.none:=by
 cases q:H l with
 | none=>rfl
 | some o =>
  rw [e l o q] at h;cases h
end L2
set_option maxHeartbeats 4000000
namespace L2
open PySem PySem.Spec PyProof.Rows
variable{sc scope:Scope}{env:Env}{X:Cx}{N':List Str}{ix:List (Option Nat)}{P:LV}{w:Mf}{H:Hp}{h:Heap}{C:Addr}{σ:St}{Go:List (Addr×Obj)}{s:LF}{Ye iter:Mw}{Za:List Mw}{pos:Pos}{Q:Unit->LF->Prop}{K:LK}
def aW(cells:List (Str×Addr)):List (Str×Ng)->List (Str×Addr)->List (Str×Addr)
 | [],cs=>cs
 | (n,k)::r,cs=>aW cells r (if k == .free then (match cells.lookup n with|some c=>(n,c)::cs|none=>cs) else cs)
theorem vy(h:∀y∈scope.names,y.2 = .free->∃c,env.cells.lookup y.1=some c):OU scope env=pure (aW env.cells scope.names []):=by
 simp only [OU];have all:∀(l:List (Str×Ng))(cs:List (Str×Addr)),(∀y∈l,y.2 = .free->∃c,env.cells.lookup y.1=some c) ->
   (forIn l cs λ(x:Str×Ng)(r:List (Str×Addr))=>match x with|(name,kind)=>if (kind==Ng.free)=true then do let a<-cellOf env name;pure (ForInStep.yield ((name,a)::r)) else pure (ForInStep.yield r):Sem (List (Str×Addr)))=pure (aW env.cells l cs):=by
  intro l
  induction l with
  | nil=>intro cs _;rfl
  | cons y r ih =>
   intro cs hy;obtain ⟨n,k⟩:=y;rw [QD];by_cases hk:k = .free
   .subst hk;obtain ⟨c,hc⟩:=hy (n,.free) Mc rfl;have Yy:env.cells.lookup n=some c:=hc;simp only [cellOf,Yy,aW,beq_self_eq_true,if_true];exact ih _ λz hz=>hy z (LO _ hz)
   .have hb:(k==Ng.free)=false:=by simpa using hk
    simp only [aW,hb,Nz,if_false];exact ih _ λz hz=>hy z (LO _ hz)
 have e:=all scope.names [] h;show (do let cs<-forIn scope.names [] _;pure cs)=_
 first
  | (rw [bind_pure];exact e)
  | exact e
  | (simpa using e)
theorem lu{cells:List (Str×Addr)}:∀{l:List (Str×Ng)}{cs:List (Str×Addr)}{x:Str}{c:Addr},(aW cells l cs).lookup x=some c->cs.lookup x=some c\/(cells.lookup x=some c/\(x,Ng.free)∈l)
 | [],_,_,_,h=>.inl h
 | (n,k)::r,cs,x,c,h=>by
  unfold aW at h;rcases lu h with h|⟨h1,h2⟩
  .by_cases hk:k = .free
   .subst hk;simp only [beq_self_eq_true,if_true] at h;cases e:cells.lookup n with
    | none=>rw [e] at h;exact .inl h
    | some c' =>
     rw [e] at h;simp only [lookup_cons] at h;by_cases hx:x=n
     .subst hx;simp only [beq_self_eq_true] at h;cases h;exact .inr ⟨e,Mc⟩
     .have hb:(x==n)=false:=by simpa using hx
      rw [hb] at h;exact .inl h
   .have hb:(k==Ng.free)=false:=by simpa using hk
    rw [hb] at h;exact .inl h
  .exact .inr ⟨h1,LO _ h2⟩
theorem u9{cells:List (Str×Addr)}:∀{l:List (Str×Ng)}{cs:List (Str×Addr)}{x:Str},(cs.lookup x).isSome=true->((aW cells l cs).lookup x).isSome=true
 | [],_,_,h=>h
 | (n,k)::r,cs,x,h=>by
  unfold aW;refine u9 ?_;split
  .split
   .simp only [lookup_cons];split
    .rfl
    .exact h
   .exact h
  .exact h
theorem vw{cells:List (Str×Addr)}:∀{l:List (Str×Ng)}{cs:List (Str×Addr)}{x:Str}{c:Addr},(x,Ng.free)∈l->cells.lookup x=some c->((aW cells l cs).lookup x).isSome=true
 | (n,k)::r,cs,x,c,hm,hc=>by
  unfold aW;rcases LI.mp hm with e|hm
  .cases e;refine u9 ?_;simp only [beq_self_eq_true,if_true,hc,lookup_cons];rfl
  .exact vw hm hc
def aQ(sc:Scope)(names:List (Str×Ng))(N N':List Str)(ix:List (Option Nat)):Bool :=
 sc.kind == .function&&sc.names.all (λy=>y.2 != .cell&&(y.2 != .local||sc.names.lookup y.1==some .local)&&(y.2 != .free||(names.lookup y.1==some .cell&&sc.names.lookup y.1==some .free)) ) &&
 ix.length==N'.length&&(Pk ix.length).all (λi=>match ix.getD i none with
  | none=>true
  | some j=>(match N'[i]?,N[j]? with|some x,some y=>x==y&&sc.names.lookup x==some .free|_,_=>false))
def bW(ix:List (Option Nat))(σ:St):St:=ix.map λo=>o.bind λj=>(σ[j]?).join
structure ar(X:Cx)(sc:Scope)(N':List Str)(ix:List (Option Nat)):Prop where
 kind:sc.kind = .function
 cell:∀y∈sc.names,y.2≠.cell
 names:∀y∈sc.names,y.2 = .local->sc.names.lookup y.1=some .local
 free:∀y∈sc.names,y.2 = .free->X.env.kindOf y.1=some .cell/\sc.names.lookup y.1=some .free
 len:ix.length=N'.length
 at_:∀(i j:Nat),ix[i]?=some (some j)->∃x,N'[i]?=some x/\X.N[j]?=some x/\sc.names.lookup x=some .free
theorem ar.of(h:aQ sc X.env.scope.names X.N N' ix=true):ar X sc N' ix:=by
 unfold aQ at h;simp only [Mu,Mz] at h;obtain ⟨⟨⟨h1,h2⟩,h3⟩,h4⟩:=h;refine ⟨by simpa using h1,λy hy=>?_,λy hy hk=>?_,λy hy hk=>?_,by simpa using h3,λi j e=>?_⟩
 .simpa using (h2 y hy).1.1
 .have q:=(h2 y hy).1.2;rw [hk] at q;simpa using q
 .have q:=(h2 y hy).2;rw [hk] at q;simp only [bne_self_eq_false,Bool.false_or,Mu,beq_iff_eq] at q;exact q
 .have hi:i<ix.length:=(LH.mp e).1;have:=h4 i (Qn.mpr hi);have eg:ix.getD i none=some j:=by rw [LG,e];rfl
  rw [eg] at this;dsimp only at this;cases e1:N'[i]? with
  | none=>rw [e1] at this;simp at this
  | some x =>
   cases e2:X.N[j]? with
   | none=>rw [e1,e2] at this;simp at this
   | some y =>
    rw [e1,e2] at this;simp only [Mu,beq_iff_eq] at this;exact ⟨x,rfl,by rw [this.1],this.2⟩
def zO(X:Cx)(sc:Scope)(N':List Str)(Go:List (Addr×Obj))(C:Addr)(fp:List Addr)(s:LF)(H:Hp):Cx :=
 { X with N:=N',s₀:=s,H₀:=H,env:=compEnvC sc (aW X.env.cells sc.names []) C X.env,outer:=X.stack,stack:=X.stack,ex:=fp,fn:=λ_=>false,pn:=X.pn++Go,xe:=λ_ _=>False }
theorem HOk.add{D:Addr}{o:HO}(x:HOk P w H h)(hn:H D=none)(new:af P w (upd H D o) h D o):HOk P w (upd H D o) h:=λb u e=>by
 by_cases hb:b=D
 .subst hb;rw [zy] at e;cases e;exact new
 .rw [ze hb] at e;exact (x b u e).stay (λ_ _ _ q=>q) (λc q=>by rw [ze (zC q hn)];exact q) λc xs q=>by rw [ze (zC q hn)];exact q
theorem HOk.but{h':Heap}(x:HOk P w H h)(hn:H C=none)(k:∀b u,b≠C->h.get? b=some u->h'.get? b=some u):HOk P w H h':=λb u e =>
 (x b u e).stay (λc v hc q=>k c v (by
  rcases hc with z|z
  .rw [z];exact zC e hn
  .exact zC z hn) q) (λ_ q=>q) λ_ _ q=>q
theorem C9(hk:env.scope.kind = .function)(hf:∀y∈sc.names,y.2 = .free->env.kindOf y.1=some .cell) :
  ∀x,(relabel sc env).names.lookup x=(sc.names.lookup x).map λk=>if k == .free then .cell else k:=by
 intro x;have em:(relabel sc env).names=sc.names.map λy=>(y.1,if y.2 == .free then Ng.cell else y.2):=by
  show sc.names.map _=_;refine Nq λy hy=>?_;obtain ⟨n,k⟩:=y;by_cases YF:k = .free
  .subst YF;have e:env.kindOf n=some .cell:=hf (n,.free) hy rfl;simp [hk,e]
  .have hb:(k==Ng.free)=false:=by simpa using YF
   simp [hb]
 rw [em];generalize sc.names=l
 induction l with
 | nil=>rfl
 | cons y r ih =>
  obtain ⟨n,k⟩:=y;simp only [MD,lookup_cons];cases x==n with
  | true=>rfl
  | false=>exact ih
section
variable {X:Cx}{sc:Scope}{N':List Str}{ix:List (Option Nat)}
theorem JK{i:Nat}{v:V}(h:(bW ix σ)[i]?=some (some v)):∃j,ix[i]?=some (some j)/\σ[j]?=some (some v):=by
 unfold bW at h;rw [L6] at h;cases e:ix[i]? with
 | none=>rw [e] at h;cases h
 | some o =>
  rw [e] at h;have h':(o.bind λj=>(σ[j]?).join)=some v:=Ms.inj h;cases o with
  | none=>cases h'
  | some j =>
   have h'':(σ[j]?).join=some v:=h';cases e2:σ[j]? with
   | none=>rw [e2] at h'';cases h''
   | some z =>
    rw [e2] at h'';have:z=some v:=h'';exact ⟨j,rfl,by rw [e2,this]⟩
theorem vL{fp:List Addr}{h₁:Heap}{tk:Nat}{m:Str->Option Value}(I:Inv X Go σ H s)(L:ar X sc N' ix)(f:∀b∈fp,cn X Go H b)(fl:∀b∈fp,b<s.heap.objs.size)
  (hC:s.heap.objs.size<=C) (hns:h₁.Ns C m) (YN:∀b o,s.heap.get? b=some o->h₁.get? b=some o) :
  Inv (zO X sc N' Go C fp s H) [] (bW ix σ) H { s with heap:=h₁,toks:=tk }:=by
 have Xo:∀x c,(aW X.env.cells sc.names []).lookup x=some c->X.env.cells.lookup x=some c/\(x,Ng.free)∈sc.names:=λx c h=>by
  rcases lu h with h|h
  .cases h
  .exact h
 have rl:=C9 (sc:=sc) (env:=X.env) I.ok.kind λy hy hk=>(L.free y hy hk).1;have chas:∀x,sc.names.lookup x=some .free->∃c,(aW X.env.cells sc.names []).lookup x=some c/\X.env.cells.lookup x=some c:=λx hx=>by
  have hm:(x,Ng.free)∈sc.names:=M4 hx;obtain ⟨c,hc⟩:=I.ok.has x (.inl (L.free _ hm rfl).1);obtain ⟨c',Yy⟩:=isSome_iff_exists.mp (vw (cs:=[]) hm hc);exact ⟨c',Yy,(Xo x c' Yy).1⟩
 refine ⟨⟨I.ok.mod,L.kind,I.ok.glob,I.ok.blt,hC,λx y c h1 h2=>I.ok.inj x y c (Xo x c h1).1 (Xo y c h2).1,λx hx=>?_,λx c h=>(nomatch h),I.ok.hd,I.ok.frames,.inl rfl,λb hb=>⟨Mx (L9 (fl b hb) hC),λx c h=>(f b hb).2.2.2.2.1 x c (Xo x c h).1⟩,
   I.bs,Mp I.ok.bsz I.sz,λb o e hb=>?_,λb hb z=>?_,I.stack,I.stkFree⟩,rfl,I.bare,Un.kept YN,⟨m,hns,λi x v e1 e2 e3=>?_⟩,λx c h=>?_,I.hok.fresh hC,λx c h=>I.freeC x c (Xo x c h).1,λp hp=>?_,I.hok.kept YN,?_,I.hdk⟩
 .have hx':(relabel sc X.env).names.lookup x=some .cell\/(relabel sc X.env).names.lookup x=some .free:=hx;rw [rl x] at hx';cases e:sc.names.lookup x with
  | none=>rw [e] at hx';simp at hx'
  | some k =>
   have hk:k = .free:=by
    cases k with
    | free=>rfl
    | cell=>exact absurd rfl (L.cell _ (M4 e))
    | _=>rw [e] at hx';revert hx';decide
   subst hk;obtain ⟨c,h1,_⟩:=chas x e;exact ⟨c,h1⟩
 .rcases (f b hb).2.2.2.1 with z|z
  .exact I.ok.noex b o e z
  .exact absurd (L9 (L7 (I.ok.bs b o e).1) z) (Ml _)
 .rcases LI.mp (I.stkSub b z) with e|e
  .exact (f b hb).2.1 e
  .exact (f b hb).2.2.1 e
 .obtain ⟨j,hj,hv⟩:=JK e2;obtain ⟨y,n1,n2,n3⟩:=L.at_ i j hj;have exy:x=y:=Ms.inj ((show N'[i]?=some x from e1).symm.trans n1);subst exy;obtain ⟨c,c1,c2⟩:=chas x n3;have kf:=(L.free _ (M4 n3) rfl).1;obtain ⟨m0,hn0,hl⟩:=I.loc;obtain ⟨u,r,l⟩:=hl j x v n2 hv (.inr (.inl kf));refine ⟨u,r,.inr ⟨.inl ?_,c,c1,?_⟩⟩
  .show (relabel sc X.env).names.lookup x=some .cell;rw [rl x,n3];rfl
  .rcases l with ⟨hk,_⟩|⟨_,c',Yy,z⟩
   .have kf':X.env.kindOf x=some .cell:=kf;rw [hk] at kf';cases kf'
   .rw [c2] at Yy;cases Yy;obtain ⟨oc,ho,hd⟩:=z;exact ⟨oc,YN _ _ ho,hd⟩
 .obtain ⟨v,oc,ho,hd⟩:=I.cell x c (Xo x c h).1;exact ⟨v,oc,YN _ _ ho,hd⟩
 .have hp':p∈X.pn++Go:=by
   have:p∈(X.pn++Go)++[]:=hp;simpa using this
  obtain ⟨a,b,c,d,e⟩:=I.pin p hp';exact ⟨YN _ _ a,b,Mx (L9 (L7 a) hC),λz=>(LI.mp (I.stkSub p.1 z)).elim c d,e⟩
 .show (bW ix σ).length=N'.length;unfold bW;rw [KE,L.len]
end
def PTs(X:Cx)(Za:List Mw)(t:TT):Prop :=
 ∀(Go:List (Addr×Obj))(s:LF)(σ:St)(H:Hp)(Q:Bool->Hp->Prop),Inv X Go σ H s->t σ H Q ->
  LS (LZ X.prog X.w) X.A (forIn Za true λc r=>if r=true then do let ok<-isTrue c X.env (MJ c X.env);pure (ForInStep.yield ok) else pure (ForInStep.yield r)) (TP X Go σ Q) X.xe s
def pB:TT:=λ_ H Q=>Q true H
theorem cN:W (PTs X [] pB):=⟨λ_ _ _ H _ I h=>wpAny_tests_nil ⟨H,I,h⟩⟩
theorem eZ{c:Mw}{t:TT}(h:W (PT X c t)):W (PTs X [c] t):=by refine ⟨?_⟩;have h:=h.h;exact λGo s σ H Q I q=>wpAny_tests_one (h Go s σ H Q I q)
theorem Fx{prog:LV}{A:Mn}{R:Result->LF->Prop}{ZA:Mw}{it Zi:Value}(I:Nat->LF->Prop)
  (Yt:∀n s,I n s->LS (LZ prog w) A (Oy it) (λr s₁=>match r with
   | none=>R (.ok .next) s₁
   | some v=>LS (LZ prog w) A (Ov ZA it v) (λ_ s₁'=>LS (LZ prog w) A (assign ZA env v) (λ_ s₂ =>
     LS (LZ prog w) A (forIn Za true λc r=>if r=true then do let ok<-isTrue c env (MJ c env);pure (ForInStep.yield ok) else pure (ForInStep.yield r)) (λok s₃ =>
      if ok=true then LS (LZ prog w) A (MJ Ye env) (λx s₄ =>
       LS (LZ prog w) A (call (.builtin "list.append") [Zi,x]) (λ_ s₅=>∃m,m<n/\I m s₅) (λ_ _=>False) s₄) (λ_ _=>False) s₃
      else ∃m,m<n/\I m s₃) (λ_ _=>False) s₂) (λ_ _=>False) s₁') (λ_ _=>False) s₁) (λ_ _=>False) s)
  (n:Nat) (h:I n s):OJ (LZ prog w) A (.compLoop (.ListComp Ye [⟨ZA,iter,Za,0⟩] scope pos) 0 it Zi env) R s:=by
 refine codeAny_loop rfl I (λn s hI=>?_) n h;show LS _ A ((compTurn (.ListComp Ye [⟨ZA,iter,Za,0⟩] scope pos) 0 it Zi env).onRaise (λx=>do Qm x env;theTreesLotGoes x)) _ _ s;refine wpAny_noted (Mv (E:=λ_ _=>False) ?_ (λ_ _ q=>q) λ_ _ z=>z.elim);rw [compTurn_list];refine fv (Ny (fv (Mv (Yt n s hI) (λr s₁ h₁=>?_) λ_ _ h'=>h')));cases r with
 | none=>exact LJ h₁
 | some v =>
  refine fv (Mv h₁ (λ_ s₁' h₁'=>?_) λ_ _ h'=>h');refine fv (Mv h₁' (λ_ s₂ h₂=>fv (Mv h₂ (λok s₃ h₃=>?_) λ_ _ h'=>h')) λ_ _ h'=>h');cases ok with
  | false=>exact LJ ⟨rfl,h₃⟩
  | true=>exact fv (fv (Mv h₃ (λx s₄ h₄=>fv (Mv h₄ (λ_ s₅ h₅=>LJ (LJ ⟨rfl,h₅⟩)) λ_ _ h'=>h')) λ_ _ h'=>h'))
def tLC(ix:List (Option Nat))(wi:TI)(g:TG)(tt:TT)(te:TE):TE:=λσ H Q=>wi σ H λJ H1=>∃W:Nat->Nat->St->List V->Hp->Prop,(∃m,W 0 m (bW ix σ) [] H1)/\∀i m τ ys H2,W i m τ ys H2->ys.length<sizeLine /\
 ((J.stop i H2 ∧ ∀ D, H2 D = none → D ≠ sysModules → Q (.ref D) (upd H2 D (.lst ys))) ∨
  (J.go i H2 ∧ ∀ x H3, J.yld i H2 x H3 → g x τ H3 fun τ1 H4 => tt τ1 H4 fun ok H5 => if ok = true then te τ1 H5 fun y H6 => ∃ m', m' < m ∧ W (i + 1) m' τ1 (ys ++ [y]) H6 else ∃ m', m' < m ∧ W (i + 1) m' τ1 ys H5))
theorem v3{c:Bool}{tg:Mw}{wi:TI}{g:TG}{tt:TT}{te:TE}{use:Option (Value->Sem Unit)}{R:Value->LF->Prop}{Q:VK}(hc:c=true->X.calm=true)(L:ar X sc N' ix)(hi:PIc c X tg iter wi)
  (hg:∀Go C fp s H,PG (zO X sc N' Go C fp s H) tg g) (ht:∀Go C fp s H,PTs (zO X sc N' Go C fp s H) Za tt) (he:∀Go C fp s H,PE (zO X sc N' Go C fp s H) Ye te) (hs:∀x,Nt iter X.env x=pure x) (I:Inv X Go σ H s) (h:tLC ix wi g tt te σ H Q)
  (kk:∀(C D:Addr)(oC:Obj)(H':Hp)(s5:LF)(m5:Str->Option Value),Inv X (Go++[(C,oC)]) σ H' s5->(∀{hp:Heap},hp.get? C=some oC->hp.Ns C m5)->(∀{σ':St}{H'':Hp}{s':LF}{h':Heap},Inv X Go σ' H'' s'->H'' C=none->Po C s'.heap h'->Inv X Go σ' H'' { s' with heap:=h' })->Q (.ref D) H'->compPost (LZ X.prog X.w) X.A X.xe use R (.ref D) C (.ok .next) s5) :
  LS (LZ X.prog X.w) X.A (comprehension (.ListComp Ye [⟨tg,iter,Za,0⟩] sc pos) sc X.env (firstIterPos [⟨tg,iter,Za,0⟩] pos) (newList []) (firstAsync [⟨tg,iter,Za,0⟩]) (firstIter [⟨tg,iter,Za,0⟩] X.env) use) R X.xe s:=by
 have Xg:OU sc X.env=pure (aW X.env.cells sc.names []):=vy λy hy hk=>I.ok.has y.1 (.inl (L.free y hy hk).1);refine wpAny_comprehension_free (use:=use) rfl hs Xg L.kind L.names (thn (hi Go s σ H _ I h) λv s1 h1=>thn h1 λitv s2 h2=>?_);obtain ⟨it,fp,tn,J,H2,e,I2,T,st2,f2,W,⟨m0,w0⟩,Yt⟩:=h2;subst e;refine MG (O4 L.cell (by intro y hy;simp at hy) (λh₁ XT Yb=>?_) L.kind);dsimp only at XT Yb ⊢;generalize hH2:s2.heap.push { cls:=.type "list",dict:=none,data:=.seq ([]:List Value).toArray }=G2 at XT Yb ⊢;have hC:G2.objs.size=s2.heap.objs.size+1:=by rw [<- hH2,NG]
 have hDC:s2.heap.objs.size≠G2.objs.size:=by rw [hC];exact Mx (Pm _)
 have X3:s2.heap.objs.size<=G2.objs.size:=by rw [hC];exact PV _
 have below:∀b,b<s2.heap.objs.size->b≠G2.objs.size/\b≠s2.heap.objs.size:=λb hb=>⟨by rw [hC];exact Mx (N7 hb),Mx hb⟩;have YN:∀b o,s2.heap.get? b=some o->h₁.get? b=some o:=λb o e=>Yb.extBut b o (below b (L7 e)).1 (p8 _ (hH2 ▸ p8 _ e));have Ya:h₁.get? s2.heap.objs.size=some { cls:=.type "list",data:=.seq ([]:List Value).toArray 0 }:=Yb.extBut _ _ hDC (p8 _ (hH2 ▸ LW _ rfl));have fl:∀b∈fp,b<s2.heap.objs.size:=λb hb=>by
  obtain ⟨o,e,_⟩:=T.obj 0 _ st2 b hb;exact L7 e
 have XS:s2.heap.objs.size∉fp:=λz=>Ml _ (fl _ z);generalize hD:s2.heap.objs.size=D at *
 generalize hCe:G2.objs.size=C at *
 have Xo:∀x c,(aW X.env.cells sc.names []).lookup x=some c->X.env.cells.lookup x=some c:=λx c h=>by
  rcases lu h with h|h
  .cases h
  .exact h.1
 have st1:tn 0 h₁:=T.keep _ _ _ st2 λb _ o e=>YN b o e;have I3:Inv (zO X sc N' Go C fp s2 H2) [] (bW ix σ) H2 { s2 with heap:=h₁,toks:=s2.toks+([]:List (Str×Value)).length }:=vL I2 L f2 (λb hb=>by rw [hD];exact fl b hb) (by rw [hD];exact X3) XT YN;have D0:H2 D=none:=I2.hok.fresh (PB hD);have fD:∀{H':Hp},H' D=none->cn (zO X sc N' Go C fp s2 H2) [] H' D:=λ{H'} hn=>by
  refine ⟨hn,hDC,λz=>?_,.inr (PB hD),λx c hx z=>?_,λp hp z=>?_⟩
  .obtain ⟨_,o,ho,_⟩:=I2.stack.mem (show D∈frs X.stack from z);exact absurd (L7 ho) (by rw [hD];exact Ml _)
  .obtain ⟨v,q⟩:=I2.cell x c (Xo x c hx);have:=q.lt;rw [z,hD] at this;exact Ml _ this
  .have hp':p∈X.pn++Go:=by
    have:p∈(X.pn++Go)++[]:=hp;simpa using this
   have:=L7 (I2.pin p hp').1;rw [z,hD] at this;exact Ml _ this
 have fF:∀{H':Hp},(∀b∈fp,H' b=none)->∀b∈fp,cn (zO X sc N' Go C fp s2 H2) [] H' b:=λ{H'} hn b hb=>by
  obtain ⟨_,g1,g2,g3,g4,g5⟩:=f2 b hb;refine ⟨hn b hb,(below b (fl b hb)).1,λz=>?_,.inl hb,λx c hx=>g4 x c (Xo x c hx),λp hp=>g5 p ?_⟩
  .rcases LI.mp (I2.stkSub b z) with e|e
   .exact g1 e
   .exact g2 e
  .have:p∈(X.pn++Go)++[]:=hp;simpa using this
 have Xf:∀s₃:LF,s₃={ s2 with heap:=h₁,toks:=s2.toks+([]:List (Str×Value)).length } ->
   OJ (LZ X.prog X.w) X.A (.compLoop (.ListComp Ye [⟨tg,iter,Za,0⟩] sc pos) 0 (.ref it) (.ref D) (compEnvC sc (aW X.env.cells sc.names []) C X.env))
    (compPost (LZ X.prog X.w) X.A X.xe use R (.ref D) C) s₃:=by
  rintro s₃ rfl;refine Fx (λn s'=>∃i τ ys H',Inv (zO X sc N' Go C fp s2 H2) [] τ H' s'/\tn i s'.heap/\(∀b∈fp,H' b=none)/\H' D=none/\(∃its k,zq ys its/\s'.heap.get? D=some { cls:=.type "list",data:=.seq its.toArray k })/\W i n τ ys H')
   ?_ m0 ⟨0,_,[],H2,I3,st1,λb hb=>(f2 b hb).1,D0,⟨[],0,.nil,Ya⟩,w0⟩
  rintro n s4 ⟨i,τ,ys,H4,I4,st4,fr4,dn4,⟨its,k,rv,dg⟩,w4⟩;obtain ⟨Z5,step⟩:=Yt i n τ ys H4 w4;rcases step with ⟨stop,YG⟩|⟨go,step⟩
  .refine thn (T.done (zO X sc N' Go C fp s2 H2) rfl rfl rfl hc i [(D,({ cls:=.type "list",data:=.seq its.toArray k }:Obj))] s4 τ H4 (λ_ _=>False) (I4.pins_of λp hp=>?_) (λb hb=>?_) st4 stop) λr s5=>x2e λhr I5=>?_
   .have e:p=(D,{ cls:=.type "list",data:=.seq its.toArray k }):=by simpa using hp
    subst e;obtain ⟨g0,g1,g2,_⟩:=fD dn4;exact ⟨dg,g0,g1,g2,λv z=>(nomatch z)⟩
   .obtain ⟨g0,g1,g2,g3,g4,g5⟩:=fF fr4 b hb;refine ⟨g0,g1,g2,g3,g4,λp hp=>?_⟩;rcases My.mp hp with z|z
    .exact g5 p (MR _ z)
    .have e:p=(D,{ cls:=.type "list",data:=.seq its.toArray k }):=by simpa using z
     subst e;exact λq=>XS (by have q':D=b:=q;rw [q'];exact hb)
   .subst hr;have dg5:=(I5.pin (D,_) (Mb _ (LU.mpr rfl))).1;obtain ⟨m5,hn5,_⟩:=id I5.loc;have ZO:∀b o,s2.heap.get? b=some o->b≠C/\b≠D:=λb o e=>by
     have:=L7 e;rw [hD] at this;exact below b this
    have U:=I5.base;have IX:Inv X Go σ (upd H4 D (.lst ys)) s5:=by
     refine I2.call' (s':=s5) (ch:=fp) I5.os ⟨λb o e n hb hx=>U.keep b o e n hb hx,λb o e n hb hx=>U.slot b o e n hb hx,λb o e n hx=>?_,λb o e hx=>U.there b o e hx,λb xs e=>?_,λb o u e=>?_,λb ps e=>?_⟩ ?_ I5.bare (λb hb=>?_)
     .rw [ze (ZO b o e).2];exact U.free b o e n hx
     .have q:=U.tups b xs e;rw [ze (zC q dn4)];exact q
     .have q:=U.frzs b o u e;rw [ze (zC q dn4)];exact q
     .obtain ⟨more,q⟩:=U.tbls b ps e;exact ⟨more,by rw [ze (zC q dn4)];exact q⟩
     .exact I5.hok.add dn4 ⟨Pa Z5,its,k,rv,dg5⟩
     .obtain ⟨_,g1,g2,g3,g4,g5⟩:=f2 b hb;exact ⟨g3,g1,g4,g5⟩
    obtain ⟨oC,esC,epC,gC,rC⟩:=id hn5;have dataC:∀v,oC.data≠.cell v:=λv z=>by rw [rC.1] at z;cases z
    have CneD:C≠D:=L8 hDC;have HC:upd H4 D (.lst ys) C=none:=by rw [ze CneD];exact I5.free
    have CneL:C≠X.env.locals:=λz=>by
     have:=I2.lt;rw [<- z,hD] at this;exact absurd (L9 this X3) (Ml _)
    have Cfs:C∉X.fs:=I2.nofs (by rw [hD];exact X3);have IXp:=IX.pins_of (pins':=Go++[(C,oC)]) λp hp=>by
     rcases My.mp hp with z|z
     .exact IX.pin p (Mb _ z)
     .rw [LU.mp z];exact ⟨gC,HC,CneL,Cfs,dataC⟩
    refine kk C D oC _ s5 m5 IXp (λe=>⟨oC,esC,epC,e,rC⟩) (λ{σ6 H6 s6 h'} I7 p6n hsb=>I7.turned (t':=s6.toks) (it:=C) (λb o hb e=>(hsb.2 b hb).trans e) p6n CneL (.inr (Mp I2.sz (by rw [hD];exact X3))) (λx c hx z=>?_) (λp hp z=>?_)) (YG D dn4 (by have h:LN<s2.heap.objs.size:=(I2.mod.glob.keeps I2.bk).lt;rw [hD] at h;exact NQ (lt_trans (by decide) h)))
    .obtain ⟨v,q⟩:=I2.cell x c hx;have:=q.lt;rw [z,hD] at this;exact absurd (L9 this X3) (Ml _)
    .have:=L7 (I2.pin p hp).1;rw [z,hD] at this;exact absurd (L9 this X3) (Ml _)
  .refine thn (T.item (zO X sc N' Go C fp s2 H2) rfl rfl rfl hc i [(D,({ cls:=.type "list",data:=.seq its.toArray k }:Obj))] s4 τ H4 (λ_ _=>False) (I4.pins_of λp hp=>?_) (λb hb=>?_) st4 go) λr s5=>x3e λu hr h5=>?_
   .have e:p=(D,{ cls:=.type "list",data:=.seq its.toArray k }):=by simpa using hp
    subst e;obtain ⟨g0,g1,g2,_⟩:=fD dn4;exact ⟨dg,g0,g1,g2,λv z=>(nomatch z)⟩
   .obtain ⟨g0,g1,g2,g3,g4,g5⟩:=fF fr4 b hb;refine ⟨g0,g1,g2,g3,g4,λp hp=>?_⟩;rcases My.mp hp with z|z
    .exact g5 p (MR _ z)
    .have e:p=(D,{ cls:=.type "list",data:=.seq its.toArray k }):=by simpa using z
     subst e;exact λq=>XS (by have q':D=b:=q;rw [q'];exact hb)
   .subst hr;refine thn h5 λ_ s6=>x5e λx H6 I6 r6 Ys=>?_;obtain ⟨y6,st6,fr6⟩:=Ys;obtain ⟨dg6,dn6,_⟩:=I6.pin (D,_) (Mb _ (LU.mpr rfl));have dn6':H6 D=none:=dn6;have all6:∀b∈D::fp,cn (zO X sc N' Go C fp s2 H2) [] H6 b:=λb hb=>by
     rcases LI.mp hb with z|z
     .subst z;exact fD dn6'
     .exact fF fr6 b z
    have obj6:∀b∈D::fp,∃o,s6.heap.get? b=some o/\∀v,o.data≠.cell v:=λb hb=>by
     rcases LI.mp hb with z|z
     .subst z;exact ⟨_,dg6,λv q=>(nomatch q)⟩
     .exact T.obj _ _ st6 b z
    have I6':=(I6.unpinned (Go:=[])).pinned all6 obj6;refine thn (hg Go C fp s2 H2 _ s6 τ H6 x u _ I6' r6 (step x H6 y6)) λ_ s7=>x4e λτ7 H7 I7 q7=>?_;refine thn (ht Go C fp s2 H2 _ s7 τ7 H7 _ I7 q7) λok s8=>x3e λH8 I8 q8=>?_;have back:∀{s9:LF}{H9:Hp},Inv (zO X sc N' Go C fp s2 H2) ([]++gU (D::fp) s6.heap) τ7 H9 s9->s9.heap.get? D=some { cls:=.type "list",data:=.seq its.toArray k }/\H9 D=none/\tn (i+1) s9.heap/\∀b∈fp,H9 b=none:=λ{s9 H9} I9=>by
     have pin:∀b o,b∈D::fp->s6.heap.get? b=some o->s9.heap.get? b=some o/\H9 b=none:=λb o hb e=>by
      have q:=I9.pin (b,o) (Mb _ (Mb _ (jB hb e)));exact ⟨q.1,q.2.1⟩
     refine ⟨(pin D _ Mc dg6).1,(pin D _ Mc dg6).2,T.keep _ _ _ st6 λb hb o e=>(pin b o (LO _ hb) e).1,λb hb=>?_⟩;obtain ⟨o,e,_⟩:=T.obj _ _ st6 b hb;exact (pin b o (LO _ hb) e).2
    cases ok with
    | false =>
     obtain ⟨b1,b2,b3,b4⟩:=back I8;simp only [Nz,if_false] at q8 ⊢;obtain ⟨m',hm,w'⟩:=q8;exact ⟨m',hm,i+1,τ7,ys,H8,I8.unpinned,b3,b4,b2,⟨its,k,rv,b1⟩,w'⟩
    | true =>
     simp only [if_true] at q8 ⊢;refine thn (he Go C fp s2 H2 _ s8 τ7 H8 _ I8 q8) λy s9=>x5e λyv H9 I9 r9 Xy=>?_;obtain ⟨m',hm,w'⟩:=Xy;obtain ⟨b1,b2,b3,b4⟩:=back I9;have el:its.toArray.size<=sizeLine:=by
      have:=rv.length;simp only [LY];lia
     refine append_at (hsz:=el) b1 λh10 sb hD10=>?_;obtain ⟨_,g1,_,g3,g4,g5⟩:=fD b2;refine ⟨m',hm,i+1,τ7,ys++[yv],H9,(I9.unpinned (Go:=[])).turned (t':=s9.toks) (λb o hb e=>(sb.2 b hb).trans e) b2 g1 g3 g4 g5,T.keep _ _ _ b3 λb hb o e=>(sb.2 b λq=>XS (by rw [<- q];exact hb)).trans e,b4,b2,⟨its++[y],k+1,rv.append (.cons r9 .nil),?_⟩,w'⟩;show h10.get? D=_;rw [hD10];simp
 exact codeAny_compStart_list (Xf _ rfl) (T.self _ 0 _ _ _ st1 (Xf _ rfl))
theorem cy{c:Bool}{tg:Mw}{wi:TI}{g:TG}{tt:TT}{te:TE}(hc:c=true->X.calm=true)(L:ar X sc N' ix)(hi:W (PIc c X tg iter wi))
  (hg:∀Go C fp s H,W (PG (zO X sc N' Go C fp s H) tg g)) (ht:∀Go C fp s H,W (PTs (zO X sc N' Go C fp s H) Za tt)) (he:∀Go C fp s H,W (PE (zO X sc N' Go C fp s H) Ye te))
  (hs:∀x,Nt iter X.env x=pure x:=by intro _;rfl):W (PE X (.ListComp Ye [⟨tg,iter,Za,0⟩] sc pos) (tLC ix wi g tt te)):=by
 refine ⟨?_⟩;have hi:=hi.h;have hg:=λz0 z1 z2 z3 z4=>(hg z0 z1 z2 z3 z4).h;have ht:=λz0 z1 z2 z3 z4=>(ht z0 z1 z2 z3 z4).h;have he:=λz0 z1 z2 z3 z4=>(he z0 z1 z2 z3 z4).h;intro Go s σ H Q I h;rw [eval_ListComp];refine v3 (use:=none) hc L hi hg ht he hs I h λC D oC H' s5 m5 IX ns tu q=>?_;obtain ⟨p6,p6n,_⟩:=IX.pin (C,oC) (Mb _ (Mb _ (LU.mpr rfl)));exact ⟨m5,ns p6,λh' hsb=>⟨.ref D,H',tu (IX.pins_of λp hp=>IX.pin p (Mb _ (MR _ hp))) p6n hsb,rfl,q⟩⟩
structure aZ(B:Heap)(l:List Env)(e:Addr)(cls fl:Value)(h:Heap):Prop where
 stays:B.StaysIn h
 new:B.get? e=none
 frames:h.FunFrames B l
 obj:∃oe vs,h.get? e=some oe/\oe.cls=cls/\oe.dict=none/\oe.data = .fields vs/\2<vs.size/\vs[2]?=some .none /\
  (vs[1]?=some .none\/∃T oT ts,vs[1]?=some (.ref T)/\B.get? T=none/\T≠e/\h.get? T=some oT/\oT.data = .fields ts/\ts[3]?=some fl)
section
variable {M:Model}{A:Mn}{E:Value->LF->Prop}{s:LF}{B:Heap}{env:Env}{outer l:List Env}{L e:Addr}{cls fl:Value}
theorem xr(o:Obj)(f:Array Value->Array Value):(o.mapFields f).dict=o.dict:=by
 obtain ⟨c,d,dt,sl⟩:=o;cases dt<;>rfl
theorem tZ{oe:Obj}{vs:Array Value}{head:Value}{had:Bool}(YM:A.frames=some (env::outer))(hf:env.frame=some L)(st:B.StaysIn s.heap)(hn:B.get? e=none)
  (hl:s.heap.FunFrames B (env::outer)) (he:s.heap.get? e=some oe) (hc:oe.cls=cls) (X9:oe.dict=none) (hd:oe.data = .fields vs) (hz:2<vs.size) (h2:vs[2]?=some .none)
  (k:∀h',aZ B (env::outer) e cls (MP L) h'->s.heap.UpToSlots h'->Q () { s with heap:=h' }) :
  LS M A (do let a<-frameOf env;let pl<-entryPlaceOf L had;let b<-EntryCells.newEntry head a .none (MP L) .none pl;setField (.ref e) 1 b) Q E s:=by
 have nfr:e∉(env::outer).filterMap (·.frame):=λz=>by
  obtain ⟨_,o,ho,nf⟩:=hl.mem z;rw [he] at ho;cases ho;exact nf vs hd
 refine fv (wpAny_frameOf_fun YM hl hf λg only=>?_);obtain ⟨_,same,slots⟩:=only;refine fv (wpAny_entryPlaceOf λpl Yr=>?_);have key:∀(tb:Obj)(ts:Array Value),tb.data = .fields ts->ts[3]?=some (MP L)->LS M A (setField (.ref e) 1 (.ref g.objs.size)) Q E { s with heap:=g.push tb }:=by
  intro tb ts td t3;have e1:g.get? e=some oe:=(same e nfr).trans he;have e2:(g.push tb).get? e=some oe:=p8 _ e1;have hT:(g.push tb).get? g.objs.size=some tb:=LW _ (by rw [M5 td]);have YU:g.objs.size≠e:=NQ (L7 e1);have fresh:B.get? g.objs.size=none:=by
   cases q:B.get? g.objs.size with
   | none=>rfl
   | some o =>
    obtain ⟨sl,z⟩:=slots _ o (st _ o q);exact absurd (L7 z) (Ml _)
  have up:∀b o,b≠e->g.get? b=some o->((g.push tb).update e (Qo (·.setIfInBounds 1 (.ref g.objs.size)))).get? b=some o:=λb o hb q =>
   (Mo _ _ (L8 hb)).trans (p8 _ q)
  have Xe:∀b o,s.heap.get? b=some o->(∀ws,o.data≠.fields ws)->b≠e:=λb o q nf z=>by
   rw [z,he] at q;cases q;exact nf vs hd
  have dd:=NS hd (·.setIfInBounds 1 (LL g.objs.size));refine M6 e2 hd (by lia) (k _ ⟨λb o q=>?_,hn,?_,?_⟩ λb o q nf=>?_)
  .refine up b o (λz=>by rw [z,hn] at q;cases q) ((same b λz=>?_).trans (st b o q));rw [(hl.mem z).1] at q;cases q
  .refine hl.of_keeps λb o q nf=>?_;obtain ⟨sl,z⟩:=slots b o q;exact ⟨_,up b _ (Xe b o q nf) z,rfl⟩
  .refine ⟨_,_,M3 _ e2 (M5 dd),(ON _ _).trans hc,(xr _ _).trans X9,dd,by simpa using hz,by rw [OP (by decide)];exact h2,.inr ⟨g.objs.size,tb,ts,?_,fresh,YU,?_,td,t3⟩⟩
   .rw [MF (by lia)]
   .rw [Mo _ _ (L8 YU)];exact hT
  .obtain ⟨sl,z⟩:=slots b o q;exact ⟨sl,up b _ (Xe b o q nf) z⟩
 unfold EntryCells.newEntry newFields;refine fv (MG ?_ (Yr.sizeOk5 _ _ _ _ _));exact key _ _ rfl (by simp)
theorem qJ(YM:A.frames=some (env::outer))(hf:env.frame=some L)(x:aZ B (env::outer) e cls fl s.heap)
  (k:∀h',aZ B (env::outer) e cls (MP L) h'->s.heap.UpToSlots h'->Q () { s with heap:=h' }):LS M A (Qm (.ref e) env) Q E s:=by
 obtain ⟨st,hn,hl,oe,vs,he,hc,X9,hd,hz,h2,h1⟩:=x;unfold Qm;simp only [hf];rcases h1 with h1|⟨T,oT,ts,h1,nT,Te,gT,dT,t3⟩
 .refine fv (Me he hd h1 ?_);rw [if_neg (show ¬ ((Mm != Mm)=true) by decide)];exact tZ YM hf st hn hl he hc X9 hd hz h2 k
 .refine fv (Me he hd h1 ?_);rw [if_pos (show (LL T != Mm)=true by simp)];refine fv (Me gT dT t3 ?_);by_cases hfl:fl=MP L
  .subst hfl;rw [if_pos (show (MP L==MP L)=true by simp)];exact LJ (k s.heap ⟨st,hn,hl,oe,vs,he,hc,X9,hd,hz,h2,.inr ⟨T,oT,ts,h1,nT,Te,gT,dT,t3⟩⟩ (UpToSlots.refl _))
  .rw [if_neg (show ¬ ((fl==MP L)=true) by simpa using hfl)];refine fv (M6 gT dT (MZ.mp t3).1 ?_);have oth:∀b,b≠T->(s.heap.update T (Qo (·.setIfInBounds 3 Mm))).get? b=s.heap.get? b:=λb hb=>Mo _ _ (L8 hb);have Yp:∀b o,s.heap.get? b=some o->(∀ws,o.data≠.fields ws)->b≠T:=λb o q nf z=>by
    rw [z,gT] at q;cases q;exact nf ts dT
   refine tZ (B:=B) (cls:=cls) YM hf (λb o q=>?_) hn (hl.of_keeps λb o q nf=>⟨o,(oth b (Yp b o q nf)).trans q,rfl⟩) ((oth e (L8 Te)).trans he) hc X9 hd hz h2 λh' y up=>k h' y λb o q nf=>up b o ((oth b (Yp b o q nf)).trans q) nf;exact (oth b λz=>by rw [z,nT] at q;cases q).trans (st b o q)
theorem nZ(x:aZ B l e cls fl s.heap)(k:∀h',aZ B l e cls .none h'->s.heap.UpToSlots h'->Q () { s with heap:=h' }):LS M A (setFlight (.ref e) none) Q E s:=by
 obtain ⟨st,hn,hl,oe,vs,he,hc,X9,hd,hz,h2,h1⟩:=x;unfold setFlight;rcases h1 with h1|⟨T,oT,ts,h1,nT,Te,gT,dT,t3⟩
 .refine fv (Me he hd h1 ?_);rw [if_neg (show ¬ ((Mm != Mm)=true) by decide)];exact LJ (k s.heap ⟨st,hn,hl,oe,vs,he,hc,X9,hd,hz,h2,.inl h1⟩ (UpToSlots.refl _))
 .refine fv (Me he hd h1 ?_);rw [if_pos (show (LL T != Mm)=true by simp)];have lt3:3<ts.size:=(MZ.mp t3).1;have dd:=NS dT (·.setIfInBounds 3 Mm);have oth:∀b,b≠T->(s.heap.update T (Qo (·.setIfInBounds 3 Mm))).get? b=s.heap.get? b:=λb hb=>Mo _ _ (L8 hb);have Yp:∀b o,s.heap.get? b=some o->(∀ws,o.data≠.fields ws)->b≠T:=λb o q nf z=>by
   rw [z,gT] at q;cases q;exact nf ts dT
  refine M6 gT dT lt3 (k _ ⟨λb o q=>(oth b λz=>by rw [z,nT] at q;cases q).trans (st b o q),hn,hl.of_keeps λb o q nf=>⟨o,(oth b (Yp b o q nf)).trans q,rfl⟩,oe,vs,(oth e (L8 Te)).trans he,hc,X9,hd,hz,h2,
   .inr ⟨T,_,_,h1,nT,Te,M3 _ gT (M5 dd),dd,?_⟩⟩ λb o q nf=>⟨o.slots,(oth b (Yp b o q nf)).trans q⟩)
  rw [MF lt3]
theorem GV(YM:A.frames=some (env::outer))(hf:env.frame=some L)(x:aZ B (env::outer) e cls fl s.heap)
  (k:∀h',aZ B outer e cls .none h'->s.heap.UpToSlots h'->Q () { s with heap:=h' }):LS M A (leaving env (.ref e)) Q E s:=by
 unfold leaving;refine fv (qJ YM hf x λh1 y u1=>nZ (s:={ s with heap:=h1 }) y λh2 z u2=>?_);obtain ⟨a,b,⟨_,_,c⟩,d⟩:=z;exact k h2 ⟨a,b,c,d⟩ (u1.trans u2)
end
def CXW(P:LV)(w:Mf):CXT:=λouter H s E e s'=>∃(ea C:Addr)(B:Heap)(H':Hp)(sI:LF),e = .ref ea/\aZ B outer ea (.ref C) .none s'.heap/\Un (frs outer) [] H H' s.heap sI.heap/\HOk P w H' sI.heap /\
 sI.os=s.os/\Oa sI.gens/\s'.os=s.os/\Oa s'.gens/\(∀b o,sI.heap.get? b=some o->b∉frs outer->B.get? b=some o)/\sI.heap.UpToSlots s'.heap/\E (.ref C) none H'
def bF(X:Cx)(Ex:Addr->St->Hp->Prop):Prop:=∀(Go:List (Addr×Obj))(σ:St)(H:Hp)(sI:LF)(ea C:Addr)(B:Heap)(fl:Value)(s':LF),Inv X Go σ H sI->aZ B X.stack ea (.ref C) fl s'.heap->s'.os=sI.os->Oa s'.gens ->
 (∀b o,sI.heap.get? b=some o->b∉frs X.stack->B.get? b=some o)->sI.heap.UpToSlots s'.heap->Ex C σ H->X.xe (.ref ea) s'
theorem pN:bF X (λ_ _ _=>False):=λ_ _ _ _ _ _ _ _ _ _ _ _ _ _ _ h=>h.elim
theorem eX{cm:Bool}{mg:Str->Option Value}{base:Heap}{N:List Str}{qual:Str}{f:Addr}{cd:Value}{A:Mn}{outer:List Env}{E:XK} :
  bF (cI (CXW P w) cm P w K mg base N qual scope f cd A outer s H E) (λC _ H'=>E (.ref C) none H'):=by
 intro Go σ H' sI ea C B fl s' I x os bare hB up q;have ff:A.frames=some outer:=by
  have:=I.ok.frames;cases h:A.frames with
  | none =>
   have z:(A.deeper (Od qual scope s.heap.objs.size f cd)).frames=none:=by
    first|(show (A.frames.map _)=none;rw [h];rfl)|simp [Mn.deeper,Mn.under,h]
   rw [show (cI (CXW P w) cm P w K mg base N qual scope f cd A outer s H E).A=A.deeper (Od qual scope s.heap.objs.size f cd) from rfl,z] at this;cases this
  | some l =>
   have z:=Mn.frames_deeper (env:=Od qual scope s.heap.objs.size f cd) h;rw [show (cI (CXW P w) cm P w K mg base N qual scope f cd A outer s H E).A=A.deeper (Od qual scope s.heap.objs.size f cd) from rfl,z] at this;have:=Ms.inj this;exact congrArg some (List.cons.inj this).2
 show LS (LZ P w) (A.deeper (Od qual scope s.heap.objs.size f cd)) (leaving (Od qual scope s.heap.objs.size f cd) (.ref ea)) _ _ s';refine GV (L:=s.heap.objs.size) (Mn.frames_deeper ff) rfl x λh' y u=>?_;have hid:∀b o,b≠s.heap.objs.size->sI.heap.get? b=some o->(hideAll sI.heap [s.heap.objs.size]).get? b=some o:=λb o hb e=>hideAll_get _ e (by simpa using hb);have U:=I.base;have lt:∀b o,s.heap.get? b=some o->b≠s.heap.objs.size:=λb o e=>Mx (L7 e);have nl:∀b:Addr,b∉(cI (CXW P w) cm P w K mg base N qual scope f cd A outer s H E).ex:=λb z=>absurd (show b∈([]:List Addr) from z) (by simp);refine ⟨ea,C,B,H',{ sI with heap:=hideAll sI.heap [s.heap.objs.size] },rfl,y,⟨λb o e n hb _=>hid b o (lt b o e) (U.keep b o e n hb (nl b)),λb o e n hb _=>?_,λb o e n _=>U.free b o e n (nl b),λb o e _=>?_,U.tups,U.frzs,U.tbls⟩,
  I.hok.but (C:=s.heap.objs.size) I.free hid,I.os,I.bare,os.trans I.os,bare,λb o e hb=>?_,λb o e nf=>?_,q⟩
 .obtain ⟨sl,z⟩:=U.slot b o e n hb (nl b);exact ⟨sl,hid b _ (lt b o e) z⟩
 .obtain ⟨o',z⟩:=U.there b o e (nl b);exact ⟨o',hid b _ (lt b o e) z⟩
 .have e':=Qy _ e;refine hB b o e' λz=>?_;have z':b∈s.heap.objs.size::frs outer:=z;rcases LI.mp z' with r|r
  .rw [r] at e;have z9:(hideAll sI.heap [s.heap.objs.size]).get? s.heap.objs.size=none:=PySem.W.hideAll_none _ (by simp);exact absurd (z9.symm.trans e) (by simp)
  .exact hb r
 .exact (up.trans u) b o (Qy _ e) nf
def XE(Ex:Addr->St->Hp->Prop)(σ:St):XK:=λc _ H'=>∃C,c = .ref C/\Ex C σ H'
def jw(sp:Sp)(Zv:List V)(Ex:Addr->St->Hp->Prop)(t:TA):TE:=λσ H Q=>t σ H λvs H1=>sp (vs++Zv) H1 Q (XE Ex σ)
def eS(C:Addr)(m:Str)(sp:Sp)(Zv:List V)(Ex:Addr->St->Hp->Prop)(ta:TE)(t:TA):TE:=λσ H Q=>ta σ H λx H1=>∃a dx fs,x = .ref a/\H1 a=some (.ins C dx fs)/\fs.lookup m=none /\
 t σ H1 λvs H2=>sp (x::(vs++Zv)) H2 Q (XE Ex σ)
section
variable {X:Cx}{cm:Bool}{k:Nat}{f C:Addr}{fd:Nc}{ps:List Str}{sp:Sp}{Zv:List V}{ds:List Value}{Ex:Addr->St->Hp->Prop}{x m:Str}{p pos Z3:Pos}{e o:Mw}{es:List Mw}{ta:TE}{t:TA}
theorem bF.of{s':LF}{v:Value}(T:bF X Ex)(I:Inv X Go σ H s)(h:CXW X.prog X.w X.stack H s (XE Ex σ) v s'):X.xe v s':=by
 obtain ⟨ea,C,B,H',sI,rfl,y,un,hok,os,bare,os',bare',hB,up,C',ec,q⟩:=h;cases ec;exact T Go σ H' sI ea C B .none s' (I.call' os un hok bare λb z=>absurd z (by simp)) y (os'.trans os.symm) bare' hB up q
theorem pZ{Q:VK}{us:List Value}{vs:List V}(T:bF X Ex)(F:zo X.prog X.w X.K X.mg X.base (CXW X.prog X.w) cm k f fd ps sp)(hr:zJ cm k X.A)(hb:bg X.K fd ps ds)(hd:zq Zv ds)
  (I:Inv X Go σ H s) (r:zq vs us) (h:sp (vs++Zv) H Q (XE Ex σ)):LS (LZ X.prog X.w) X.A (call (.ref f) us) (EP X Go σ Q) X.xe s:=by
 have r2:zq (vs++Zv) (us++ds):=r.append hd;have hl:(us++ds).length=ps.length:=by rw [<- r2.length];exact F.len _ _ _ _ h
 refine Qw (On (F.run X.A X.stack s H ⟨us,[]⟩ (us++ds) (vs++Zv) Q (XE Ex σ) hr I.env0 (hb s us I.kIn hl) r2 h) λr s' hq=>?_);cases r with
 | error v=>exact T.of I hq
 | ok fl =>
  cases fl with
  | ret u=>exact I.after hq
  | next=>exact False.elim hq
  | brk=>exact False.elim hq
  | cont=>exact False.elim hq
theorem Ht(T:bF X Ex)(F:zo X.prog X.w X.K X.mg X.base (CXW X.prog X.w) cm k f fd ps sp)(hr:zJ cm k X.A)(hg:Gl X x)(hm:X.mg x=some (.ref f))(hk:Ph X.K (.ref f)=true)(hb:bg X.K fd ps ds)(hd:zq Zv ds)
  (ha:PA X (e::es) t) (Y7:(x==("__debug__":Str))=false:=by decide) (he:Ma (e::es) X.env=(false,MJ e X.env)::Ma es X.env:=by rfl) (Yr:(NA pos (Ma es X.env)).any (·.1)=false:=by rfl) :
  PE X (.Call (.Name x p) (e::es) [] pos) (jw sp Zv Ex t):=by
 intro Go s σ H Q I h;refine MT (gh I hg hm ?_ Y7);refine QG (h₀:=X.base) I.ok.mod.kin hk (thn (ha pos Go s σ H _ I h) λus s1=>x5e λvs H1 I1 r q=>⟨I1.kIn,?_⟩) he Yr;exact pZ T F hr hb hd I1 r q
theorem Hl{pl:Sem Bool}(he:PE X o ta)(c:Cls X.K C)(hm:fI X.K C m f)(T:bF X Ex)(F:zo X.prog X.w X.K X.mg X.base (CXW X.prog X.w) cm k f fd ps sp)(hr:zJ cm k X.A)(hb:bg X.K fd ps ds)(hd:zq Zv ds)(ha:PA X (e::es) t)
  (hst:Ma (e::es) X.env=(false,MJ e X.env)::Ma es X.env:=by rfl) (Yr:(NA pos (Ma es X.env)).any (·.1)=false:=by rfl)
  (ht:MJ (.Call (.Attribute o m Z3) (e::es) [] pos) X.env=(do
   let ov<-MJ o X.env
   OY Z3.atName
   let (f,first)<-Ol [ov] (Om ov m pl)
   Of pos f first (NA pos (Ma (e::es) X.env)) (Pc pos (NY [] X.env))):=by rfl) :
  PE X (.Call (.Attribute o m Z3) (e::es) [] pos) (eS C m sp Zv Ex ta t):=by
 intro Go s σ H Q I h;refine P9 (pl:=pl) (thn (he Go s σ H _ I h) λu s1=>x5e λx H1 I1 rx Ys=>?_) ht;obtain ⟨a,dx,fs,ex,ea,l,q⟩:=Ys;subst ex;obtain rfl:u=LL a:=rx;refine lA I1 ea c hm l ?_;refine QG (first:=[.ref a]) (h₀:=X.base) I.ok.mod.kin hm.kp (thn (ha pos Go s1 σ H1 _ I1 q) λus s2=>x5e λvs H2 I2 r q2=>⟨I2.kIn,?_⟩) hst Yr;exact pZ (us:=.ref a::us) (vs:=.ref a::vs) T F hr hb hd I2 (.cons rfl r) q2
theorem BI{pl:Sem Bool}(he:PE X o ta)(c:Cls X.K C)(hm:fI X.K C m f)(T:bF X Ex)(F:zo X.prog X.w X.K X.mg X.base (CXW X.prog X.w) cm k f fd ps sp)(hr:zJ cm k X.A)(hb:bg X.K fd ps ds)(hd:zq Zv ds)
  (ht:MJ (.Call (.Attribute o m Z3) [] [] pos) X.env=(do
   let ov<-MJ o X.env
   OY Z3.atName
   let (f,first)<-Ol [ov] (Om ov m pl)
   Of pos f first (NA pos (Ma [] X.env)) (Pc pos (NY [] X.env))):=by rfl) :
  PE X (.Call (.Attribute o m Z3) [] [] pos) (eS C m sp Zv Ex ta bQ):=by
 intro Go s σ H Q I h;refine P9 (pl:=pl) (thn (he Go s σ H _ I h) λu s1=>x5e λx H1 I1 rx Xy=>?_) ht;obtain ⟨a,dx,fs,ex,ea,l,q⟩:=Xy;subst ex;obtain rfl:u=LL a:=rx;refine lA I1 ea c hm l ?_;exact callWith_K0 (first:=[.ref a]) I1.kIn hm.kp (pZ (us:=[.ref a]) (vs:=[.ref a]) T F hr hb hd I1 (.cons rfl .nil) q)
end
theorem PS.nox{st:Stmt}{t:TS}(h:PS X.nox st t):PS X st t:=λGo s σ H D I hw =>
 Mv (h Go s σ H D (I.wish _) hw) (λ_ _ q=>q.unwish) λ_ _ z=>False.elim z
theorem Fun.okW{mg:Str->Option Value}{base:Heap}{x qual:Str}{st:Stmt}{f:Addr}{fd:Nc}{N ps:List Str}{cm:Bool}{k:Nat}{sp:Sp}(F:Fun K x qual st f fd)(S:zw N ps (zm st))(len:∀vs H Q E,sp vs H Q E->vs.length=ps.length)
  (Yq:∀(Z1:Value)(A:Mn)(outer:List Env)(s:LF)(H:Hp)(vs:List V)(Q:VK)(E:XK),zJ cm k (A.deeper (Od qual (zm st) s.heap.objs.size f Z1))->sp vs H Q E ->
   ∃t,PSs (cI (CXW P w) cm P w K mg base N qual (zm st) f Z1 A outer s H E) (dS st) t/\t { nx:=λ_ H'=>Q .non H',rt:=Q } (start N vs) H):zo P w K mg base (CXW P w) cm (k+1) f fd ps sp:=by
 obtain ⟨oc,od,kV,Yj,pm,an,Z1,ct,osl,rfl,lk,hcd⟩:=F.ex;exact mf lk hcd S len λA outer s H vs Q E hr Xp=>Yq Z1 A outer s H vs Q E hr Xp
def bmV:List Value:=[.type "ValueError",.type "Exception",.type "BaseException",.type "object"]
def bM(K:LK)(C:Addr):Prop:=excIn K C bmV "ValueError.__new__"=true
structure lT(h:Heap)(C:Addr)(mro:List Value):Prop where
 ex:∃bm N nm q bs hdct sn sub ab col dd k0 k1 k2 k3 k5 mN,mro = .ref C::bm/\h.get? C=some (excClassObj nm q C N bs bm hdct sn sub ab col dd k0 k1 k2 k3 k5 "ValueError.__new__")/\h.Ns N mN/\mN "__init__"=none/\OwnTail h bmV bm
theorem bM.obj(x:bM K C)(X:K.In h):∃cd,clsIn K C=some cd/\lT h C cd.mro:=by
 unfold bM excIn at x;split at x
 .rename_i dd cd sl look;have hc:clsIn K C=some cd:=by
   unfold clsIn;rw [look]
  refine ⟨cd,hc,?_⟩;split at x
  .rename_i C' bm k0 k1 k2 k3 n k5 em es;simp only [Mu,beq_iff_eq,Bool.not_eq_true'] at x;obtain ⟨⟨⟨⟨⟨c1,c2⟩,c3⟩,c4⟩,c5⟩,c6⟩:=x;subst c1 c2;obtain ⟨a1,a2,a3,a4,a5,a6,a7,a8,a9,a10,a11⟩:=cd;dsimp only at em c3 c5 c6 ⊢;subst em c3;obtain ⟨sl⟩:=sl;dsimp only at es;subst es;exact ⟨bm,a4,a1,a5,a2,a6,a7,a8,a9,a10,dd,k0,k1,k2,k3,k5,_,rfl,X _ _ look,.of_isNs (PySem.W.isNs_of_in X c5),PySem.W.nsMap_none_of_in X c5 c6,PySem.W.tail_of_in X c4⟩
  .cases x
 .cases x
def lV(C:Addr)(Ex:Addr->St->Hp->Prop)(t:TA):TS:=λ_ σ H=>t σ H λvs H1=>vs.length<=sizeLine/\Ex C σ H1
theorem Bl{Ex:Addr->St->Hp->Prop}{x:Str}{np cpos:Pos}{e:Mw}{es:List Mw}{t:TA}(hc:X.calm=true)(T:bF X Ex)(O:bM X.K C)(hg:Gl X x)(hm:X.mg x=some (.ref C))(ha:PA X (e::es) t)
  (Y7:(x==("__debug__":Str))=false:=by decide) (hst:Ma (e::es) X.env=(false,MJ e X.env)::Ma es X.env:=by rfl) (Yr:(NA cpos (Ma es X.env)).any (·.1)=false:=by rfl) :
  PS X (.Raise (some (.Call (.Name x np) (e::es) [] cpos)) none pos) (lV C Ex t):=by
 intro Go s σ H D I h;obtain ⟨cd,_,⟨bm,N,nm,q,bs,hdct,sn,sub,ab,col,dd,k0,k1,k2,k3,k5,mN,em,hC,hN,hni,TL⟩⟩:=O.obj I.ok.mod.kin;refine wpAny_Raise_call_subT (C:=C) (nm:=nm) (q:=q) (N:=N) (bs:=bs) (bm:=bm) (hdct:=hdct) (sn:=sn) (sub:=sub) (ab:=ab) (col:=col) (dd:=dd) (k0:=k0) (k1:=k1) (k2:=k2) (k3:=k3) (k5:=k5) (mN:=mN) PySem.F.excBase_ValueError (TL.hasType (by decide)) (I.ok.hd hc)
  (by rw [hst];show (false||(NA cpos (Ma es X.env)).any (·.1))=false;rw [Yr];rfl) hni (gh I hg hm ⟨rfl,?_⟩ Y7)
 have hA:=ha cpos Go s σ H _ I h;rw [hst] at hA ⊢;refine Calls.evalArgs_plain (thn hA λus s2=>x5e λvs H2 I2 r2=>x2e λhz q2=>⟨rfl,by rw [<- r2.length];exact hz,I2.bk _ _ hC,hN.keeps I2.bk,TL.keeps I2.bk,λh' ea hm'=>?_⟩);obtain ⟨tt,he,htn,_⟩:=hm'.there;have XR:∀env∈X.stack,∀a,env.frame=some a->a∈frs X.stack:=λenv hm a ha=>O0.mpr ⟨env,hm,ha⟩;refine T Go σ H2 s2 ea C (hideAll s2.heap (frs X.stack)) .none { s2 with heap:=h' } I2 ⟨λb o e=>hm'.keeps b o (Qy _ e),?_,?_,?_⟩ rfl I2.bare (λb o e hb=>hideAll_get _ e hb) (λb o e _=>⟨o.slots,hm'.keeps b o e⟩) q2
 .cases z:(hideAll s2.heap (frs X.stack)).get? ea with
  | none=>rfl
  | some o =>
   have:=Qy _ z;rw [hm'.new] at this;cases this
 .exact (PySem.W.funFrames_hide I2.stack XR).of_keeps λb o e _=>⟨o,hm'.keeps b o e,rfl⟩
 .exact ⟨_,_,he,rfl,rfl,rfl,by simp,rfl,.inl rfl⟩
section
variable {M:Model}{A:Mn}{E:Value->LF->Prop}
theorem Bk{g:Array GenState}{d:Drawn}{t:Nat}{os:OsState}{e D:Addr}{oe:Obj}{mC mD:List Value}{Q:Bool->LF->Prop}(OC:lT h C mC)(OD:lT h D mD)(he:h.get? e=some oe)(hcls:oe.cls = .ref C)
  (Xx:mC.contains (.ref D)=true) (hq:Q true ⟨h,g,d,t,os⟩):LS M A (excMatches (.ref e) (.ref D)) Q E ⟨h,g,d,t,os⟩:=by
 obtain ⟨bm,N,nm,q,bs,hdct,sn,sub,ab,col,dd,k0,k1,k2,k3,k5,mN,rfl,hC,_,_,TC⟩:=OC;obtain ⟨bm',N',nm',q',bs',hdct',sn',sub',ab',col',dd',j0,j1,j2,j3,j5,mN',rfl,hD,_,_,TD⟩:=OD;have b1:(LL D::bm').contains (.type "BaseException")=true:=by
  rw [List.contains_cons,TD.hasType (X:="BaseException") (b:=true) (by decide),Bool.or_true]
 have b2:=tc_notTuple;unfold excMatches
 repeat (first|(with_reducible refine wpAny_loadPart_at he ?_;rw [hcls])|with_reducible refine wpAny_loadPart_at hD ?_|(with_reducible refine wpAny_isSubtype_exc hD ?_;rw [b1])|(with_reducible refine wpAny_isSubtype_exc hC ?_;rw [Xx])|wp_step)
 exact hq
end
theorem af.ex{a:Addr}{o:HO}(x:af P w H h a o):∃ob,h.get? a=some ob:=by
 cases o with
 | lst xs=>obtain ⟨_,_,_,_,e⟩:=x;exact ⟨_,e⟩
 | tup xs=>obtain ⟨_,_,_,o,e,_⟩:=x;exact ⟨_,e⟩
 | dK kvs=>obtain ⟨_,_,_,_,o,_,_,e,_⟩:=x;exact ⟨_,e⟩
 | dT kvs=>obtain ⟨_,_,_,_,o,_,_,e,_⟩:=x;exact ⟨_,e⟩
 | set S n=>obtain ⟨o,_,_,_,e,_⟩:=x;exact ⟨_,e⟩
 | ins C dx fs=>obtain ⟨_,_,_,e,_⟩:=x;exact ⟨_,e⟩
 | own y=>exact x
 | xd fs=>obtain ⟨_,⟨_,_,_,e,_⟩,_⟩:=x;exact ⟨_,e⟩
 | rng lo hi=>obtain ⟨_,_,_,e⟩:=x;exact ⟨_,e⟩
 | frz ob u=>exact ⟨_,x.1⟩
 | tbl ps=>exact ⟨_,x⟩
 | met f y=>exact ⟨_,x⟩
 | ext φ=>exact x.2.1
abbrev cxP(X:Cx)(Go:List (Addr×Obj)):Cx:={ X with pn:=X.pn++Go }
theorem Cx.Ok.p(ok:X.Ok)(Go:List (Addr×Obj)):(cxP X Go).Ok :=
 ⟨ok.mod,ok.kind,ok.glob,ok.blt,ok.above,ok.inj,ok.has,ok.cab,ok.hd,ok.frames,ok.stk,ok.exf,ok.bs,ok.bsz,ok.noex,ok.exfs,ok.funs,ok.frf⟩
theorem Inv.p(I:Inv X Go σ H s):Inv (cxP X Go) [] σ H s :=
 ⟨I.ok.p Go,I.os,I.bare,I.base,I.loc,I.cell,I.free,I.freeC,λp hp=>I.pin p (by have h:p∈(X.pn++Go)++[]:=hp;simpa using h),I.hok,I.len,I.hdk⟩
theorem Inv.unp(ok:X.Ok)(I:Inv (cxP X Go) [] σ H s):Inv X Go σ H s :=
 ⟨ok,I.os,I.bare,I.base,I.loc,I.cell,I.free,I.freeC,λp hp=>I.pin p (by show p∈(X.pn++Go)++[];simpa using hp),I.hok,I.len,I.hdk⟩
abbrev pO(X:Cx)(Go:List (Addr×Obj))(Ex:Addr->St->Hp->Prop):Cx:=(cxP X Go).wish λe s'=>∃(ea C:Addr)(B:Heap)(H':Hp)(fl:Value)(σ:St)(sI:LF),e = .ref ea/\Inv (cxP X Go) [] σ H' sI/\aZ B X.stack ea (.ref C) fl s'.heap /\
 s'.os=sI.os/\Oa s'.gens/\(∀b o,sI.heap.get? b=some o->b∉frs X.stack->B.get? b=some o)/\sI.heap.UpToSlots s'.heap/\Ex C σ H'
theorem oB{Ex:Addr->St->Hp->Prop}:bF (pO X Go Ex) Ex:=λps σ H sI ea C B fl s' I y os bare hB up q =>
 ⟨ea,C,B,H,fl,σ,sI,rfl,(I.unwish.pins_of λp hp=>(nomatch hp)),y,os,bare,hB,up,q⟩
abbrev iR(X:Cx)(Go:List (Addr×Obj))(ea:Addr):Cx:={ X with pn:=X.pn++Go,A:=X.A.mark (some (.ref ea)),calm:=false,xe:=λ_ _=>False }
def iq(C:Addr)(o:Obj):Prop:=o.cls = .ref C/\o.dict=none/\∃vs,o.data = .fields vs
theorem yK{sI s':LF}{ea:Addr}{B:Heap}{fl:Value}(hex:X.ex=[])(I:Inv (cxP X Go) [] σ H sI)(y:aZ B X.stack ea (.ref C) fl s'.heap)(os:s'.os=sI.os)(bare:Oa s'.gens)
  (hB:∀b o,sI.heap.get? b=some o->b∉frs X.stack->B.get? b=some o) (up:sI.heap.UpToSlots s'.heap) :
  H ea=none/\∃oe,iq C oe/\s'.heap.get? ea=some oe/\Inv (iR X Go ea) [] σ (upd H ea (.frz oe (.own 0))) s':=by
 obtain ⟨st,hn,hl,oe,vs,he,hc,X9,hd,hz,h2,h1⟩:=y;have nea:ea∉frs X.stack:=λz=>by
  obtain ⟨_,o,ho,nf⟩:=hl.mem z;rw [he] at ho;cases ho;exact nf vs hd
 have new:sI.heap.get? ea=none:=by
  cases q:sI.heap.get? ea with
  | none=>rfl
  | some o =>
   have:=hB _ o q nea;rw [hn] at this;cases this
 have hH:H ea=none:=by
  cases q:H ea with
  | none=>rfl
  | some u =>
   obtain ⟨ob,z⟩:=(I.hok ea u q).ex;rw [new] at z;cases z
 have keep:∀b o,sI.heap.get? b=some o->b∉frs X.stack->s'.heap.get? b=some o:=λb o e hb=>st b o (hB b o e hb);have slot:∀b o,sI.heap.get? b=some o->b∈frs X.stack->∃sl,s'.heap.get? b=some { o with slots:=sl }:=λb o e hb=>by
  obtain ⟨_,o',Yu,nf⟩:=I.stack.mem (show b∈(cxP X Go).stack.filterMap (·.frame) from hb);rw [e] at Yu;cases Yu;exact up b o e nf
 have I1:Inv (cxP X Go) [] σ H s':=I.call' (ch:=[]) os ⟨λb o e _ hb _=>keep b o e hb,λb o e _ hb _=>slot b o e hb,λ_ _ _ n _=>n,λb o e _=>?_,λ_ _ e=>e,λ_ _ _ e=>e,λb ps e=>⟨#[],by rw [e];simp⟩⟩
  (λb u e=>(I.hok b u e).stay (λc v hc q=>keep c v q λz=>?_) (λ_ q=>q) λ_ _ q=>q) bare λb z=>absurd z (by simp)
 .have nel:ea≠X.env.locals:=λz=>by
   obtain ⟨m,⟨o,es,ep,ho,hdd,_⟩,_⟩:=I1.loc;have Yu:s'.heap.get? ea=some o:=by rw [z];exact ho
   rw [he] at Yu;cases Yu;rw [hd] at hdd;cases hdd
  refine ⟨hH,oe,⟨hc,X9,vs,hd⟩,he,⟨⟨I1.ok.mod,I1.ok.kind,I1.ok.glob,I1.ok.blt,I1.ok.above,I1.ok.inj,I1.ok.has,I1.ok.cab,λz=>(nomatch z),I1.ok.frames,I1.ok.stk,I1.ok.exf,I1.ok.bs,I1.ok.bsz,I1.ok.noex,I1.ok.exfs,I1.ok.funs,I1.ok.frf⟩,I1.os,I1.bare,
   ⟨I1.base.keep,I1.base.slot,λb o e n hx=>?_,I1.base.there,λb xs e=>?_,λb o u e=>?_,λb ps e=>?_⟩,I1.loc,I1.cell,?_,λx c e=>?_,λp hp=>?_,I1.hok.add hH ⟨he,oe,he⟩,I1.len,.inr ⟨ea,oe,vs,rfl,zy,hd,h2,C,hc⟩⟩⟩
  .obtain ⟨o',z⟩:=I.base.there b o e hx;rw [ze (λw=>by rw [w,new] at z;cases z)];exact I1.base.free b o e n hx
  .have z:=I1.base.tups b xs e;rw [ze (zC z hH)];exact z
  .have z:=I1.base.frzs b o u e;rw [ze (zC z hH)];exact z
  .obtain ⟨more,z⟩:=I1.base.tbls b ps e;exact ⟨more,by rw [ze (zC z hH)];exact z⟩
  .rw [ze (L8 nel)];exact I1.free
  .have nc:c≠ea:=λw=>by
    obtain ⟨v,o,ho,hdd⟩:=I1.cell x c e;rw [w,he] at ho;cases ho;rw [hd] at hdd;cases hdd
   rw [ze nc];exact I1.freeC x c e
  .obtain ⟨a,b,c,d,f⟩:=I1.pin p hp;refine ⟨a,?_,c,d,f⟩;rw [ze λw=>?_]
   .exact b
   .have:=(I.pin p hp).1;rw [w,new] at this;cases this
 .by_cases hb:b∈frs X.stack
  .obtain ⟨sl,z⟩:=slot b o e hb;exact ⟨_,z⟩
  .exact ⟨o,keep b o e hb⟩
 .have zf:H c=none:=I.stkFree c z;rcases hc with w|w
  .rw [w] at zf;rw [zf] at e;cases e
  .rw [zf] at w;cases w
theorem Inv.unsuite{ea:Addr}(ok:X.Ok)(hh:X.A.handled=none)(I:Inv (iR X Go ea) [] σ H s):Inv X Go σ H s :=
 ⟨ok,I.os,I.bare,I.base,I.loc,I.cell,I.free,I.freeC,λp hp=>I.pin p (by show p∈(X.pn++Go)++[];simpa using hp),I.hok,I.len,.inl hh⟩
end L2
namespace L2
open PySem PySem.Spec PyProof.Rows PySem.W
section
variable {prog:LV}{w:Mf}{A:Mn}{E:Value->LF->Prop}{K:Frag}{h:Heap}{g:Array GenState}{d:Drawn}{t:Nat}{os:OsState}{e C:Addr}{oe:Obj}
theorem BB{tk:Tok}{Q:Fin->LF->Prop}(X:K.In h)(I:InstAt h e oe C none)(f3:findIn K (.ref C) "__class__"=some (some (.builtin "object.__class__")))(hm:mroIn K C (.type "object")=some true)
  (hq:Q (.done (.ret (.ref C))) ⟨h,g,d,t,os⟩):LS (LZ prog w) A (L5.«object.__getattribute__» ⟨[.ref e,.str "__class__" tk],[]⟩) Q E ⟨h,g,d,t,os⟩:=by
 have L0:=I.type (M:=LZ prog w);have L3:=looks_findIn (M:=LZ prog w) X f3;have f5:=F.typeOf_object_class;have f6:=F.slot_gs_get.lookup;have f7:=F.slot_gs_set.lookup
 repeat (any_goals (first|assumption|with_reducible refine L0.at ?_|with_reducible refine L3.at ?_|wp_step))
 exact class_get (s:=⟨h,g,d,t,os⟩) X I hm (LJ hq)
theorem Hz{nameV:Value}{Q:Unit->LF->Prop}(X:K.In h)(I:InstAt h e oe C none)(hb:mroIn K C (.type "BaseException")=some true)(hq:Q () ⟨h,g,d,t,os⟩) :
  LS (LZ prog w) A (OV "BaseException.__getattribute__" ⟨[.ref e,nameV],[]⟩) Q E ⟨h,g,d,t,os⟩:=by
 have L0:=I.type (M:=LZ prog w);have L4:=looks_mroIn (M:=LZ prog w) X hb;have c1:builtinKind "BaseException.__getattribute__"=some .slot:=by decide +kernel
 have c2:splitId "BaseException.__getattribute__"=some ("BaseException","__getattribute__"):=by decide +kernel
 have c3:=F.args_bexc_ga (.ref e) nameV;simp only [OV,c1,c2];refine fv ?_;unfold isInstance
 repeat (first|with_reducible refine L0.at ?_|with_reducible refine L4.at ?_|wp_step)
 exact hq
theorem JE{Q:Option Value->LF->Prop}(X:K.In h)(I:InstAt h e oe C none)(f1:findIn K (.ref C) "__getattribute__"=some (some (.builtin "BaseException.__getattribute__")))(f2:findIn K (.ref C) "__getattr__"=some none)
  (f3:findIn K (.ref C) "__class__"=some (some (.builtin "object.__class__"))) (hm:mroIn K C (.type "object")=some true) (hb:mroIn K C (.type "BaseException")=some true) (hq:Q (some (.ref C)) ⟨h,g,d,t+1,os⟩) :
  LS (LZ prog w) A (getAttr? (.ref e) "__class__") Q E ⟨h,g,d,t,os⟩:=by
 have L0:=I.type (M:=LZ prog w);have L1:=looks_findIn (M:=LZ prog w) X f1;have L2:=looks_findIn (M:=LZ prog w) X f2;have f4:=Qr.ga.bind (.ref e);have x2:(builtin "BaseException.__getattribute__" == builtin "object.__getattribute__")=false:=by decide +kernel
 have x1:(onTheHeap (LL C)&&builtin "BaseException.__getattribute__" == builtin "object.__getattribute__")=false:=by rw [x2];rfl
 have x0:(false&&onTheHeap (builtin "BaseException.__getattribute__"))=false:=rfl;unfold getAttr? getAttrBy?;refine fv (wpAny_mkText (fv (Ot ?_)))
 repeat (any_goals (first|assumption|with_reducible refine L0.at ?_|with_reducible refine L1.at ?_|with_reducible refine L2.at ?_|wp_step))
 refine Pb Qr.ga.plain F.entry_bexc_ga (Hz X I hb (BB X I f3 hm ?_))
 repeat (any_goals (first|assumption|wp_step))
structure wC(K:Frag)(C:Addr):Prop where
 err:bM K C
 ga:findIn K (.ref C) "__getattribute__"=some (some (.builtin "BaseException.__getattribute__"))
 gr:findIn K (.ref C) "__getattr__"=some none
 cl:findIn K (.ref C) "__class__"=some (some (.builtin "object.__class__"))
 ob:mroIn K C (.type "object")=some true
 ba:mroIn K C (.type "BaseException")=some true
theorem Aj(O:wC K C):KitX K (.ref e) (.ref C) (λh=>InstAt h e oe C none) where
 ty:=λ_ _ _ I=>I.type
 it:=λM h X I=>by
  obtain ⟨cd,_,⟨bm,N,nm,q,bs,hdct,sn,sub,ab,col,dd,k0,k1,k2,k3,k5,mN,_,hC,_⟩⟩:=O.err.obj X;intro A' Q' E' s' k q';unfold isType loadHead;exact fv (wpAny_loadPart (k _ _ hC) (LJ q'))
 ne:=λh tp dd its n sl X Xd=>by
  obtain ⟨cd,_,⟨bm,N,nm,q,bs,hdct,sn,sub,ab,col,d1,k0,k1,k2,k3,k5,mN,_,hC,_⟩⟩:=O.err.obj X;refine N2.mpr λz=>?_;have ec:C=tp:=LL.inj (beq_iff_eq.mp z);subst ec;have wd:=congrArg Obj.data (Ms.inj (hC.symm.trans Xd));cases wd
 ca:=λ{prog w A E Q s} X I k=>by
  obtain ⟨h,g,d,t,os⟩:=s;exact JE X I O.ga O.gr O.cl O.ob O.ba k
end
def yY:V->Option Value
 | .ref a=>some (.ref a)
 | .ty n=>some (.type n)
 | _=>none
inductive TyX(K:Frag)(H:Hp):V->Value->Prop where
 | of {x:V}{t:Value} (h:cx K H x t):TyX K H x t
 | exc {a C:Addr}{o:Obj} (e:H a=some (.frz o (.own 0))) (ho:iq C o) (O:wC K C):TyX K H (.ref a) (.ref C)
def kK(K:Frag):List V->Hp->VK->Prop:=λxs H Q=>∃x c t u b,xs=[x,c]/\yY c=some u/\TyX K H x t/\kitOne K t u=some b/\Q (.bl b) H
theorem fA{X:Cx}:zN X (.builtin "isinstance") (kK X.K):=by
 intro Go s σ H xs us Q I r h;obtain ⟨x,c,t,u,b,rfl,hc,ty,hk,q⟩:=h;cases r with
 | cons r1 rr =>
  cases rr with
  | cons r2 rr =>
   cases rr;rename_i v1 v2;have e2:v2=u:=by
    cases c with
    | ref a=>cases hc;exact r2
    | ty n=>cases hc;exact r2
    | _=>cases hc
   subst e2;cases ty with
   | of ty=>exact CI I r1 ty hk λtk=>⟨.bl b,H,I.tok tk,rfl,q⟩
   | exc e ho O =>
    rename_i a C o;obtain rfl:v1=LL a:=r1;obtain ⟨z,_⟩:=I.hok a _ e;obtain ⟨c1,c2,vs,c3⟩:=ho;have J:InstAt s.heap a o C none:=⟨z,c1,by unfold notCls;rw [c3],by rw [c2];trivial⟩;exact kia_one (Aj O) I.kIn J hk (λw=>nomatch w) λtk=>⟨.bl b,H,I.tok tk,rfl,q⟩
end L2
namespace L2
open PySem PySem.Spec PyProof.Rows
variable{X:Cx}{Go:List (Addr×Obj)}{σ τ:St}{H H':Hp}{s:LF}{A:Mn}{h h':Heap}{e l o tg:Mw}{C a b i1 i2 it l1 l2:Addr}{i j:Int}{items:Array Value}{Q:Value->LF->Prop}{env:Env}{YQ es:List Mw}{Y6 Z3 cpos pos tp:Pos}{kk n:Nat}{xs:List (List Key×Addr×Value)}{ys:List V}{c:Bool}{v y:V}{ta tb td te tl to ty:TE}{f m x z:Str}{T:String}{Ex:Addr->St->Hp->Prop}{R:It->Hp->Prop}{pl:Sem Bool}{u:Value}{D:aL}{hi lo:Option Int}{P:LV}{w:Mf}{K:LK}{st:Stmt}{kvs:List (List Key×V)}
def Hnd(A:Mn)(h:Heap):Prop:=A.handled=none\/∃(a:Addr)(o:Obj)(vs:Array Value),A.handled=some (.ref a)/\h.get? a=some o/\o.data = .fields vs/\vs[2]?=some .none/\∃C,o.cls = .ref C
theorem Inv.hnd(I:Inv X Go σ H s):Hnd X.A s.heap:=by
 rcases I.hdk with h|⟨a,o,vs,h1,h2,h3⟩
 .exact .inl h
 .exact .inr ⟨a,o,vs,h1,(I.hok a _ h2).1,h3⟩
theorem Hnd.keeps(x:Hnd A h)(k:∀b o,(∃C,o.cls = .ref C)->h.get? b=some o->h'.get? b=some o):Hnd A h':=by
 rcases x with x|⟨a,o,vs,h1,h2,h3,h4,h5⟩
 .exact .inl x
 .exact .inr ⟨a,o,vs,h1,k a o h5 h2,h3,h4,h5⟩
theorem FG:entryFor table "proto.unchain"=some L5.«proto.unchain»:=entryFor_of_tree (by kernel_rfl)
section
variable {prog:LV}{w:Mf}{A:Mn}{E:Value->LF->Prop}{s:LF}
theorem yW{α:Type}{e:Addr}{oe:Obj}{ws:Array Value}{Q:α->LF->Prop}(hh:Hnd A s.heap)(he:s.heap.get? e=some oe)(hd:oe.data = .fields ws)(hz:2<ws.size)(hc:∀C,oe.cls≠.ref C)
  (k:∀h',Po e s.heap h'->(∃o,h'.get? e=some o/\o.cls=oe.cls)->E (.ref e) { s with heap:=h' }):LS (LZ prog w) A (raiseNew (.ref e):Sem α) Q E s:=by
 unfold raiseNew;refine fv (wpAny_handled ?_);rcases hh with hh|⟨a,o,vs,h1,h2,h3,h4,C,h5⟩
 .rw [hh];exact fv (LJ (wpAny_throw (k s.heap (Po.refl _ _) ⟨oe,he,rfl⟩)))
 .rw [h1];have ne:a≠e:=λz=>by rw [z,he] at h2;cases h2;exact hc C h5
  dsimp only;rw [if_pos (show (LL a != LL e)=true by simpa using ne)];refine fv (Mt (wpAny_runValue (Pj FG ?_)));refine fv (m:=PD (.ref a) 2) (Me h2 h3 h4 ?_);rw [if_pos (show (Mm==Mm)=true by rfl)];refine LJ (fv ?_);show LS _ _ (setField (.ref e) 2 (.ref a)) _ _ _;have dd:=NS hd (·.setIfInBounds 2 (LL a));exact M6 he hd hz (wpAny_throw (k _ (Po.update ..) ⟨_,M3 _ he (M5 dd),ON _ _⟩))
theorem jz{α:Type}{Q:α->LF->Prop}(hh:Hnd A s.heap)(k:∀h' e,(∀b o,s.heap.get? b=some o->h'.get? b=some o)->(∃o,h'.get? e=some o/\o.cls = .type "StopIteration")->E (.ref e) { s with heap:=h' }) :
  LS (LZ prog w) A (newExc (.type "StopIteration") []>>=λe=>(raiseNew e:Sem α)) Q E s:=by
 refine fv ?_;simp only [newExc,newTuple];refine fv (MG (fv (m:=firstArgMember _ _) (wpAny_of_eq (a:=Mm) (by first|rfl|(simp only [firstArgMember];rfl)) (MG ?_ (by size_fits)))) (by size_fits));have YN:∀(o1 o2:Obj) b o,s.heap.get? b=some o->((s.heap.push o1).push o2).get? b=some o:=λo1 o2 b o q=>p8 _ (p8 _ q);refine yW (hh.keeps λb o _ q=>YN _ _ b o q) (LW _ rfl) rfl (by simp;lia) (λC z=>by cases z) λh' sb=>x3e λo g c=>k h' _ (λb o q=>?_) ⟨o,g,c⟩;refine (sb.2 b (λz=>?_)).trans (YN _ _ b o q);have:=L7 q;rw [z,NG] at this;exact absurd (Mi this) (Ml _)
theorem Kz{t:Addr}{i:Nat}{Q:Option Value->LF->Prop}(hh:Hnd A s.heap)(Yd:s.heap.IsTupleIter it t i)(ht:s.heap.IsTuple t items)(hx:items[i]?=none)
  (k:∀h',ExtBut it s.heap h'->Q none { s with heap:=h' }):LS (LZ prog w) A (Oy (.ref it)) Q E s:=by
 obtain ⟨o,ho,hc,hd⟩:=id Yd;obtain ⟨ol,hol,_,nl,hdl⟩:=ht;unfold Oy;refine fv (Ot (ME (name:=vv "__next__") Yd.typeIs F.slot_tuple_iterator_next (MO F.slot_tuple_iterator_next Yd.typeIs F.entry_tuple_iterator_next ?_ (F.args_tuple_iterator_next_1 _))));refine fv (m:=PD (.ref it) 0) (Me ho hd (x:=.ref t) rfl ?_);rw [if_neg (show ¬ ((LL t==Mm)=true) by simp)];refine fv (m:=PD (.ref it) 1) (Me ho hd (x:=.int i 0) rfl (fv (m:=Qj (.ref t)) (M7 hol hdl ?_)));simp only [Np,hx];refine fv (NN (fv (M6 ho hd (by simp) ?_)));refine jz (hh.keeps λb q hq e=>(Mo _ _ λz=>?_).trans e) λh' e up=>x3e λo' g' c' =>
  fv (OS (T:="StopIteration") (b:=true) ⟨o',g',c'⟩ PC (LJ (k h' λb q hb z=>up b q ((Mo _ _ (L8 hb)).trans z))))
 obtain ⟨C,hC⟩:=hq;rw [<- z,ho] at e;cases e;rw [hc] at hC;cases hC
theorem Ja{x1}{t:Addr}{Q:Unit->LF->Prop}(hh:Hnd A s.heap)(ht:PY s.heap t items)(hn:(Nv YQ env).length=items.size)(hstar:(Nv YQ env).findIdx? (·.1)=none)
  (h:∀h',ExtBut s.heap.objs.size s.heap h'->LS (LZ prog w) A (Qf ((Nv YQ env).map (·.2)) items.toList) Q E { s with heap:=h' }):LS (LZ prog w) A (assign (.Tuple YQ x1 pos) env (.ref t)) Q E s:=by
 have lt:t≠s.heap.objs.size:=by obtain ⟨o,ho,_⟩:=ht;exact Mx (L7 ho)
 have all:List.take items.size (List.drop 0 items.toList)=items.toList:=by rw [QN];exact Mj (by simp)
 have X2:LS (LZ prog w) A (unpackItems (.ref t) items.size none) (λvs s'=>∃h',vs=items.toList/\s'={ s with heap:=h' }/\ExtBut s.heap.objs.size s.heap h') E s:=by
  unfold unpackItems;refine fv ?_;unfold notIterableAtAll;refine fv (wpAny_specialOf ht.typeIs slot_tuple_iter.lookup (LJ ?_));simp only [Nz,if_false];refine fv (Mt (iter_tuple ht (fv (Mt (draw_tuple lt items.size 0 _ _ ⟨_,LW _ rfl,rfl,rfl⟩ (ht.push _) (by lia) λh1 it1 s1=>?_)))));rw [all,if_neg (by simp)];have t1:PY h1 t items:=(ht.push _).extBut s1.extBut lt;have up1:∀b o,b≠s.heap.objs.size->s.heap.get? b=some o->h1.get? b=some o:=λb o hb e=>s1.extBut b o hb (p8 _ e);refine fv (Mt (Kz (s:={ s with heap:=h1 }) (hh.keeps λb o _ e=>up1 b o (Mx (L7 e)) e) it1 t1 (by simp) λh2 e2=>?_));simp only [Option.isSome_none,Nz,if_false];exact LJ ⟨h2,rfl,rfl,λb o hb e=>e2 b o hb (up1 b o hb e)⟩
 rw [assign_Tuple];refine fv (Ny ?_);unfold unpack;rw [hstar,hn];refine fv (Mt (Mv X2 (λvs s'=>x3e λh' e1=>x2e λe2 x=>?_) λ_ _ z=>z));subst e1 e2;exact h h' x
end
theorem r8{k:Nat}{t:TGs}(h:PGs X es t)(hl:(Nv es X.env).length=n:=by rfl)(hst:(Nv es X.env).findIdx? (·.1)=none:=by rfl):PG X (.Tuple es k pos) (oX X.K n t):=by
 intro Go s σ H v u Q I r q;obtain ⟨a,xs,rfl,hx,hn,q⟩:=q;obtain rfl:u=LL a:=r;obtain ⟨its,rv,ht,hz⟩:=I.tuple hx;refine Ja I.hnd ht (by rw [hl,<- hn,rv.length];simp) hst λh' ex=>?_;have I1:Inv X Go σ H { s with heap:=h' }:=I.kept (t':=s.toks) λb o e=>ex b o (Mx (L7 e)) e;have:=h Go { s with heap:=h' } σ H xs its Q I1 rv q;simpa using this
section
variable {prog:LV}{w:Mf}{A:Mn}{E:Value->LF->Prop}{s:LF}
end
def eqL(xs ys:List V):Bool:=xs.length==ys.length&&(Pk xs.length).all λi=>eqV (xs.getD i .non) (ys.getD i .non)
theorem Ec:∀{xs:List V},xs.all zY=true->(∀x∈xs,∀b,x≠.byt b)->eqL xs xs=true:=by
 intro xs h _;unfold eqL;rw [beq_self_eq_true,Bool.true_and,Mz];intro i hi;have ZO:=Qn.mp hi;have hm:xs[i]∈xs:=MC ZO;have:=Mz.mp h _ hm;rw [LG,il ZO,Option.getD_some];cases e:xs[i] with
 | non=>rfl
 | bl b=>simp [eqV]
 | int j=>simp [eqV]
 | str x=>simp [eqV]
 | _=>rw [e] at this;cases this
section
variable {X:Cx}
def um(K:LK)(neg:Bool):R2:=λx y H Q=>∃a b xs ys,x = .ref a/\y = .ref b/\SqL K H a xs/\SqL K H b ys/\xs.all zY=true/\ys.all zY=true/\Q (.bl (if neg then !eqL xs ys else eqL xs ys)) H
theorem wY{xs:List V}(I:Inv X Go σ H s)(ha:SqL X.K H a xs)(hb:SqL X.K H b ys)(fx:xs.all zY=true)(fy:ys.all zY=true) :
  ∃is js:List Value,s.heap.IsList a is.toArray/\s.heap.IsList b js.toArray/\xs.length=is.length/\ys.length=js.length/\∀(A:Mn)(j:Nat)(h1:j<is.toArray.size)(h2:j<js.toArray.size),SeqAt.EqAt A s is.toArray[j] js.toArray[j] (eqV (xs.getD j .non) (ys.getD j .non)):=by
 obtain ⟨is,r1,p1,_⟩:=I.list ha;obtain ⟨js,r2,p2,_⟩:=I.list hb;refine ⟨is,js,p1.isList,p2.isList,r1.length,r2.length,λA j h1 h2=>?_⟩;have l1:=r1.length;have l2:=r2.length;simp only [LY] at h1 h2;have e1:xs[j]?=some (xs.getD j .non):=by rw [LG,il (by lia)];rfl
 have e2:ys[j]?=some (ys.getD j .non):=by rw [LG,il (by lia)];rfl
 obtain ⟨u,g1,q1⟩:=r1.get e1;obtain ⟨v,g2,q2⟩:=r2.get e2;rw [il h1] at g1;rw [il h2] at g2;have f1:=Mz.mp fx _ (LX e1);have f2:=Mz.mp fy _ (LX e2);have z:=nt (A:=A) (s:=s) q1 q2 f1 f2;have w1:is.toArray[j]=u:=by simpa using Ms.inj g1
 have w2:js.toArray[j]=v:=by simpa using Ms.inj g2
 rw [w1,w2];exact z
theorem tQ(hu:X.A.units<cLine):OpR X (MA .Eq) (um X.K false):=by
 intro Go s σ H x y v u Q I rx ry h;obtain ⟨a,b,xs,ys,rfl,rfl,ha,hb,fx,fy,q⟩:=h;cases rx;cases ry;obtain ⟨is,js,p1,p2,l1,l2,eq⟩:=wY I ha hb fx fy;by_cases hz:is.toArray.size=js.toArray.size
 .refine SeqAt.eq_listAt p1 p2 hz hu (λj h1 h2=>eq _ j h1 h2) ⟨.bl _,H,I,rfl,?_⟩;have e:eqL xs ys=(Pk is.toArray.size).all λj=>eqV (xs.getD j .non) (ys.getD j .non):=by
   unfold eqL;simp only [LY] at hz ⊢;rw [l1,l2,hz];simp
  rw [<- e];exact q
 .refine SeqAt.eq_list_lengthsAt p1 p2 (by simpa using hz) hu ⟨.bl false,H,I,rfl,?_⟩;have e:eqL xs ys=false:=by
   unfold eqL;have:(xs.length==ys.length)=false:=by simp only [LY] at hz;rw [l1,l2];simpa using hz
   rw [this,PP]
  have q':Q (.bl (eqL xs ys)) H:=q;rw [e] at q';exact q'
theorem uz(hu:X.A.units<cLine):OpR X (MA .NotEq) (um X.K true):=by
 intro Go s σ H x y v u Q I rx ry h;obtain ⟨a,b,xs,ys,rfl,rfl,ha,hb,fx,fy,q⟩:=h;cases rx;cases ry;obtain ⟨is,js,p1,p2,l1,l2,eq⟩:=wY I ha hb fx fy;have q':Q (.bl (!eqL xs ys)) H:=q;by_cases hz:is.toArray.size=js.toArray.size
 .refine SeqAt.RcNeAt.lists p1 p2 hz hu (λj h1 h2=>eq _ j h1 h2) _ _ _ _ ⟨.bl _,H,I,rfl,?_⟩;have e:eqL xs ys=(Pk is.toArray.size).all λj=>eqV (xs.getD j .non) (ys.getD j .non):=by
   unfold eqL;simp only [LY] at hz ⊢;rw [l1,l2,hz];simp
  rw [<- e];exact q'
 .refine SeqAt.RcNeAt.lists_lengths p1 p2 (by simpa using hz) hu _ _ _ _ ⟨.bl true,H,I,rfl,?_⟩;have e:eqL xs ys=false:=by
   unfold eqL;have:(xs.length==ys.length)=false:=by simp only [LY] at hz;rw [l1,l2];simpa using hz
   rw [this,PP]
  rw [e] at q';exact q'
theorem Inv.big(I:Inv X Go σ H s):sysModules<s.heap.objs.size:=by
 have h:LN<s.heap.objs.size:=(I.mod.glob.keeps I.bk).lt;exact lt_trans (by decide) h
def FE:TE:=λ_ H Q=>∀p,H p=none->Q (.ref p) (upd H p (.dK []))
theorem KP:PE X (.Dict [] [] pos) FE:=λGo s σ H Q I h =>
 wpAny_Dict_empty ⟨.ref s.heap.objs.size,_,I.laid (a:=s.heap.objs.size) (o:=.dK []) (t':=s.toks) (λ_ _ q=>p8 _ q) (we _) ⟨MM _,beq_eq_false_iff_ne.mpr (L8 (Mx I.big)),[],.nil,Heap.DictOf.new s.heap⟩,rfl,h _ (I.hok.fresh (we _))⟩
end
theorem zJ.mark{k:Nat}{v:Option Value}(r:zJ c k A):zJ false k (A.mark v):=⟨λh=>(nomatch h),r.dp,r.un,r.gd⟩
def av:Mw->Bool
 | .Starred _ _=>false
 | _=>true
theorem c7(h:av e=true):Ma (e::es) env=(false,MJ e env)::Ma es env:=by
 cases e<;>first|rfl|(exact absurd (show false=true from h) LM)
def dz(es:List Mw):Bool:=es.all av
theorem rB{env:Env}:∀{es:List Mw}(h:dz es=true),(Ma es env).any (·.1)=false
 | [],_=>rfl
 | e::es,h=>by
  unfold dz at h;rw [List.all_cons,Mu] at h;rw [c7 h.1,PH,rB h.2];rfl
theorem eL(h:dz es=true):(NA pos (Ma es env)).any (·.1)=false:=by
 have q:=rB (env:=env) h;unfold NA;rw [List.any_map];exact q
theorem du(h:av e=true):Ma [e] env=[(false,MJ e env)]:=(c7 h).trans rfl
section
variable {X:Cx}
theorem za{t:TA}(ha:W (PE X e te))(hr:W (PA X es t))(hp:av e=true:=by rfl):W (PA X (e::es) (kG te t)):=by refine ⟨?_⟩;have ha:=ha.h;have hr:=hr.h;exact dE ha hr (c7 hp)
theorem zK{id:String}{r:List V->Hp->VK->Prop}{t:TA}{p:Pos}(hc:zN X (.builtin id) r)(hg:Gl X x)(hm:X.mg x=none)(hv:N4 x=some (.builtin id))(ha:W (PA X (e::es) t))(hp:av e=true:=by rfl)(X5:dz es=true:=by rfl)(hn:x≠"__name__":=by decide)(Y7:(x==("__debug__":Str))=false:=by decide):W (PE X (.Call (.Name x p) (e::es) [] pos) (tCB r t)):=by refine ⟨?_⟩;have ha:=ha.h;exact sN hc hg hm hv ha hn Y7 (c7 hp) (eL X5)
theorem eW{r:List V->Hp->VK->Prop}{t:TA}{p:Pos}(hc:zN X (.type T) r)(hg:Gl X x)(hm:X.mg x=none)(hv:N4 x=some (.type T))(ha:W (PA X (e::es) t))(hp:av e=true:=by rfl)(X5:dz es=true:=by rfl)(hn:x≠"__name__":=by decide)(Y7:(x==("__debug__":Str))=false:=by decide):W (PE X (.Call (.Name x p) (e::es) [] pos) (tCB r t)):=by refine ⟨?_⟩;have ha:=ha.h;exact HK hc hg hm hv ha hn Y7 (c7 hp) (eL X5)
theorem fq{a:Mw}{ta:TA}{p:Pos}(hg:Gl X "range")(hm:X.mg "range"=none)(ha:W (PA X [a] ta))(hp:av a=true:=by rfl):W (PIc true X tg (.Call (.Name "range" p) [a] [] pos) (iy ta)):=by refine ⟨?_⟩;have ha:=ha.h;exact Ls hg hm ha (du hp)
theorem h7{np:Pos}{t:TA}(hc:X.calm=true)(T:bF X Ex)(O:bM X.K C)(hg:Gl X x)(hm:X.mg x=some (.ref C))(ha:W (PA X (e::es) t))(hp:av e=true:=by rfl)(X5:dz es=true:=by rfl)
  (Y7:(x==("__debug__":Str))=false:=by decide):W (PS X (.Raise (some (.Call (.Name x np) (e::es) [] cpos)) none pos) (lV C Ex t)):=by refine ⟨?_⟩;have ha:=ha.h;exact Bl hc T O hg hm ha Y7 (c7 hp) (eL X5)
end
structure New(H:Hp)(p:Addr)(o:HO)(H':Hp):Prop where
 no:H p=none
 at_:H' p=some o
 same:zl H H'
theorem New.mk'{p:Addr}{o:HO}(h:H p=none):New H p o (upd H p o):=⟨h,zy,λb u e=>by rw [ze (zC e h)];exact e⟩
section
variable {X:Cx}
def uH(t:TA):TE:=λσ H Q=>t σ H λxs H1=>xs.length<=sizeLine/\∀p H2,New H1 p (.lst xs) H2->p≠sysModules->Q (.ref p) H2
theorem aw{t:TA}(h:W (PA X es t)):W (PE X (.List es pos) (uH t)):=by
 refine ⟨?_⟩;have h:=h.h;intro Go s σ H Q I hq;refine wpAny_List_spliced (thn (h pos Go s σ H _ I hq) λus s1=>x5e λxs H1 I1 r=>x2e λz q=>⟨by rw [<- r.length];exact z,?_⟩);have hf:H1 s1.heap.objs.size=none:=I1.hok.fresh (we _);refine ⟨.ref s1.heap.objs.size,upd H1 s1.heap.objs.size (.lst xs),I1.laid (t':=s1.toks) (λb u e=>p8 _ e) (we _) ?_,rfl,q _ _ (.mk' hf) (NQ I1.big)⟩;exact ⟨z,us,0,r,LW _ rfl⟩
def xh(t:TA):TE:=λσ H Q=>t σ H λxs H1=>xs.length<=sizeLine/\∀p H2,New H1 p (.tup xs) H2->Q (.ref p) H2
theorem wN{t:TA}{R R':List V->Hp->Prop}(hw:∀xs H,R xs H->R' xs H)(h:PA X es t)(pos:Pos)(Go:List (Addr×Obj))(s:LF)(σ:St)(H:Hp)(I:Inv X Go σ H s)(q:t σ H R) :
  LS (LZ X.prog X.w) X.A (spliced (NA pos (Ma es X.env))) (AP X Go σ R') X.xe s :=
 thn (h pos Go s σ H R I q) λ_ _=>x5e λvs H' a b c=>⟨vs,H',a,b,hw _ _ c⟩
theorem aP{t:TA}{x1}(h:W (PA X es t)):W (PE X (.Tuple es x1 pos) (xh t)):=by
 refine ⟨?_⟩;have h:=h.h;have h':PA X es (λσ H Q=>∃R:List V->Hp->Prop,t σ H R/\∀xs H,R xs H->Q xs H):=λpos Go s σ H Q I=>x3e λR q hw=>wN hw h pos Go s σ H I q;intro Go s σ H Q I hq;exact Bt h' Go s σ H Q I ⟨_,hq,λxs H1=>x2e λz q=>⟨z,λp hp=>q p _ (.mk' hp)⟩⟩
def ur:TE:=λ_ H Q=>∀p H2,New H p (.dK []) H2->Q (.ref p) H2
theorem ot:W (PE X (.Dict [] [] pos) ur):=⟨λGo s σ H Q I h=>KP Go s σ H Q I λp hp=>h p _ (.mk' hp)⟩
end
def uR(v:V)(q:Addr->Prop):Prop:=∃a,v = .ref a/\q a
def rF(to te:TE):TE:=λσ H Q=>to σ H λx H1=>uR x λl=>(∃xs,H1 l=some (.lst xs))/\te σ H1 λy H2=>∃xs,H2 l=some (.lst xs)/\xs.length<sizeLine/\Q .non (upd H2 l (.lst (xs++[y])))
section
variable {X:Cx}
theorem OpR.weak{f:Value->Value->Sem Value}{r r':R2}(h:OpR X f r)(hw:∀x y H Q,r' x y H Q->r x y H Q):OpR X f r' :=
 λGo s σ H x y v u Q I rx ry q=>h Go s σ H x y v u Q I rx ry (hw x y H Q q)
theorem zN.weak{f:Value}{r r':List V->Hp->VK->Prop}(h:zN X f r)(hw:∀xs H Q,r' xs H Q->r xs H Q):zN X f r' :=
 λGo s σ H xs us Q I rs q=>h Go s σ H xs us Q I rs (hw xs H Q q)
theorem IxR.weak{r r':R2}(h:IxR X r)(hw:∀x y H Q,r' x y H Q->r x y H Q):IxR X r' :=
 λZN Zb Go s σ H x y v u Q I rx ry q hs=>h ZN Zb Go s σ H x y v u Q I rx ry (hw x y H Q q) hs
def c0:R2:=λx y H Q=>(∃i j,x = .int i/\y = .int j/\Q (.int (i+j)) H)\/(∃i j,x = .str i/\y = .str j/\i.length+j.length<=sizeLine/\Q (.str (i++j)) H) \/
 (∃l b xs zs,x = .ref l/\y = .ref b/\H l=some (.lst xs)/\H b=some (.lst zs)/\xs.length+zs.length<=sizeLine/\∀p H2,New H p (.lst (xs++zs)) H2->Q (.ref p) H2)
theorem aS:OpR X (Nl .Add) c0:=DK.or (Cu.or (ID.weak λx y H Q h=>by
 obtain ⟨l,b,xs,zs,e1,e2,h1,h2,h3,h4⟩:=h;exact ⟨l,b,xs,zs,e1,e2,h1,h2,h3,λp hp=>h4 p _ (.mk' hp)⟩))
def fc:R2:=λx y H Q=>(∃i j,x = .int i/\y = .int j/\hG i j/\Q (.int (i*j)) H) \/
 (∃l k xs,x = .ref l/\y = .int k/\H l=some (.lst xs)/\-(2 ^ 63)<=k/\k<2 ^ 63/\xs.length*k.toNat<=sizeLine/\∀p H2,New H p (.lst (Mg k.toNat xs).flatten) H2->Q (.ref p) H2)
theorem Kc:OpR X (Nl .Mult) fc:=BK.or (Ku.weak λx y H Q h=>by
 obtain ⟨l,k,xs,e1,e2,h1,h2,h3,h5,h4⟩:=h;exact ⟨l,k,xs,e1,e2,h1,h2,h3,h5,λp hp=>h4 p _ (.mk' hp)⟩)
def uIx:R2:=λx y H Q=>(∃p xs i v,x = .ref p/\y = .int i/\H p=some (.lst xs)/\atI xs i=some v/\Q v H) \/
 (∃p xs i v,x = .ref p/\y = .int i/\H p=some (.tup xs)/\atI xs i=some v/\Q v H)\/(∃z i c,x = .str z/\y = .int i/\z.length<=sizeLine/\atI z.cps.toList i=some c/\Q (.str ⟨#[c]⟩) H)
theorem zZ:IxR X uIx:=HN.weak λx y H Q h=>by
 rcases h with ⟨p,xs,i,v,e1,e2,h,r⟩|⟨p,xs,i,v,e1,e2,h,r⟩|h
 .exact .inl ⟨p,xs,i,v,e1,e2,SqL.of h,r⟩
 .exact .inr (.inl ⟨p,xs,i,v,e1,e2,SqT.of h,r⟩)
 .exact .inr (.inr h)
def jv:List V->Hp->VK->Prop:=λxs H Q=>(∃p ys,xs=[.ref p]/\H p=some (.lst ys)/\Q (.int ys.length) H)\/(∃p ys,xs=[.ref p]/\H p=some (.tup ys)/\Q (.int ys.length) H) \/
 (∃z,xs=[.str z]/\z.length<=sizeLine/\Q (.int z.length) H)
theorem fK:zN X (.builtin "len") jv:=(kP.or CD).weak λxs H Q h=>by
 rcases h with ⟨p,ys,e,h,q⟩|⟨p,ys,e,h,q⟩|h
 .exact .inl ⟨p,ys,e,.inl (SqL.of h),q⟩
 .exact .inl ⟨p,ys,e,.inr (SqT.of h),q⟩
 .exact .inr h
def uEq(neg:Bool):R2:=λx y H Q=>(fB x y=true/\Q (.bl (if neg then !decide (x=y) else decide (x=y))) H) \/
 (∃a b xs ys,x = .ref a/\y = .ref b/\H a=some (.lst xs)/\H b=some (.lst ys)/\xs.all zY=true/\ys.all zY=true/\Q (.bl (if neg then !eqL xs ys else eqL xs ys)) H)
theorem bw(hu:X.A.units<cLine):OpR X (MA .Eq) (uEq false):=(Cd.or (tQ hu)).weak λx y H Q h=>by
 rcases h with h|⟨a,b,xs,ys,e1,e2,h1,h2,r⟩
 .exact .inl ⟨h.1,by simpa using h.2⟩
 .exact .inr ⟨a,b,xs,ys,e1,e2,SqL.of h1,SqL.of h2,r⟩
theorem eG(hu:X.A.units<cLine):OpR X (MA .NotEq) (uEq true):=(BM.or (uz hu)).weak λx y H Q h=>by
 rcases h with h|⟨a,b,xs,ys,e1,e2,h1,h2,r⟩
 .exact .inl ⟨h.1,by simpa using h.2⟩
 .exact .inr ⟨a,b,xs,ys,e1,e2,SqL.of h1,SqL.of h2,r⟩
def rY(K:LK)(ta:TE):TT:=λσ H Q=>ta σ H λx H'=>∃k,fM K x H' k/\Q k H'
theorem aX{a:Mw}(ha:W (PE X a ta))(he:∀YO,isTrue a X.env YO=(do let v<-YO;OY a.pos;Ol [v] (truthy v)):=by intro _;rfl):W (PT X a (rY X.K ta)):=by refine ⟨?_⟩;have ha:=ha.h;exact AK ha he
def ji(C:Addr)(ta:TE)(f:Str):TE:=λσ H Q=>ta σ H λx H1=>∃a dx fs v,x = .ref a/\H1 a=some (.ins C dx fs)/\fs.lookup f=some v/\Q v H1
theorem ae(c:Cls X.K C)(n:bb X.K C f)(he:W (PE X e ta))(hb:M9 e f X.env (MJ e X.env)=MJ e X.env:=by rfl):W (PE X (.Attribute e f pos) (ji C ta f)):=by
 refine ⟨?_⟩;have he:=he.h;intro Go s σ H Q I h;refine Gd hb (thn (he Go s σ H _ I h) λu s1=>x5e λx H1 I1 rx Ys=>?_);obtain ⟨a,dx,fs,v,ex,ea,l,q⟩:=Ys;subst ex;obtain rfl:u=LL a:=rx;exact xC I1 ea c n l λu' s2 I2 ru=>⟨v,H1,I2,ru,q⟩
def lj(C:Addr)(ta tv:TE)(f:Str):TS:=λD σ H=>tv σ H λy H1=>ta σ H1 λx H2=>∃a dx fs,x = .ref a/\H2 a=some (.ins C dx fs)/\fs.length<1000/\D.nx σ (upd H2 a (.ins C dx (zP f y fs)))
theorem aY{ZN:Mw}{tv:TE}(c:Cls X.K C)(n:bb X.K C f)(ha:W (PE X o ta))(hv:W (PE X ZN tv))(hs:swapsWith ZN (some (.Attribute o f Y6)) pos.line X.env=pure false:=by rfl):W (PS X (.Assign [.Attribute o f Y6] ZN pos) (lj C ta tv f)):=by
 refine ⟨?_⟩;have ha:=ha.h;have hv:=hv.h;intro Go s σ H D I h;refine plainObj_wpAny_Assign_Attribute (thn (hv Go s σ H _ I h) λu s1=>x5e λy H1 I1 ry q=>thn (ha Go s1 σ H1 _ I1 q) λov s2=>x5e λx H2 I2 rx Xy=>?_) hs;obtain ⟨a,dx,fs,ex,ea,l,q2⟩:=Xy;subst ex;obtain rfl:ov=LL a:=rx;exact wy I2 ea c n l ry λs3 I3=>⟨σ,_,I3,q2⟩
structure GF(P:LV)(w:Mf)(K:LK)(mg:Str->Option Value)(base:Heap)(cm:Bool)(k:Nat)(x:Str)(ps:List Str)(sp:Sp):Prop where
 ex:∃(f:Addr)(fd:Nc),zo P w K mg base CX0 cm k f fd ps sp/\mg x=some (.ref f)/\Ph K (.ref f)=true/\bg K fd ps []
structure GX(P:LV)(w:Mf)(K:LK)(mg:Str->Option Value)(base:Heap)(cm:Bool)(k:Nat)(x:Str)(ps:List Str)(sp:Sp):Prop where
 ex:∃(f:Addr)(fd:Nc),zo P w K mg base (CXW P w) cm k f fd ps sp/\mg x=some (.ref f)/\Ph K (.ref f)=true/\bg K fd ps []
structure GM(P:LV)(w:Mf)(K:LK)(mg:Str->Option Value)(base:Heap)(cm:Bool)(k:Nat)(C:Addr)(m:Str)(ps:List Str)(sp:Sp):Prop where
 ex:∃(f:Addr)(fd:Nc),zo P w K mg base CX0 cm k f fd ps sp/\fI K C m f/\bg K fd ps []
structure GMX(P:LV)(w:Mf)(K:LK)(mg:Str->Option Value)(base:Heap)(cm:Bool)(k:Nat)(C:Addr)(m:Str)(ps:List Str)(sp:Sp):Prop where
 ex:∃(f:Addr)(fd:Nc),zo P w K mg base (CXW P w) cm k f fd ps sp/\fI K C m f/\bg K fd ps []
structure GC(P:LV)(w:Mf)(K:LK)(mg:Str->Option Value)(base:Heap)(cm:Bool)(k:Nat)(x:Str)(C:Addr)(ps:List Str)(sp:Sp):Prop where
 ex:∃(f:Addr)(fd:Nc),zo P w K mg base CX0 cm k f fd ps sp/\mg x=some (.ref C)/\Mk K C f/\bg K fd ps []
variable {cm:Bool}{k j:Nat}{x m:Str}{C:Addr}{ps:List Str}{sp:Sp}{e o:Mw}{es:List Mw}{t:TA}{ta:TE}{p pos Z3:Pos}{Ex:Addr->St->Hp->Prop}
theorem zt(G:GF X.prog X.w X.K X.mg X.base cm j x ps sp)(hr:zJ cm k X.A)(hg:Gl X x)(ha:W (PA X (e::es) t))(hj:j<=k:=by decide)(Y7:(x==("__debug__":Str))=false:=by decide)(hp:av e=true:=by rfl)(X5:dz es=true:=by rfl):W (PE X (.Call (.Name x p) (e::es) [] pos) (jU sp [] E0 t)):=by
 refine ⟨?_⟩;have ha:=ha.h;obtain ⟨f,fd,F,hm,hk,hb⟩:=G.ex;exact CH F (hr.mono hj) hg hm hk hb .nil iU ha Y7 (c7 hp) (eL X5)
theorem mM(T:bF X Ex)(G:GX X.prog X.w X.K X.mg X.base cm j x ps sp)(hr:zJ cm k X.A)(hg:Gl X x)(ha:W (PA X (e::es) t))(hj:j<=k:=by decide)(Y7:(x==("__debug__":Str))=false:=by decide)(hp:av e=true:=by rfl)(X5:dz es=true:=by rfl):W (PE X (.Call (.Name x p) (e::es) [] pos) (jw sp [] Ex t)):=by
 refine ⟨?_⟩;have ha:=ha.h;obtain ⟨f,fd,F,hm,hk,hb⟩:=G.ex;exact Ht T F (hr.mono hj) hg hm hk hb .nil ha Y7 (c7 hp) (eL X5)
theorem bU(he:W (PE X o ta))(c:Cls X.K C)(G:GM X.prog X.w X.K X.mg X.base cm j C m ps sp)(hr:zJ cm k X.A)(ha:W (PA X (e::es) t))(hj:j<=k:=by decide)
  (hp:av e=true:=by rfl) (X5:dz es=true:=by rfl)
  (ht:MJ (.Call (.Attribute o m Z3) (e::es) [] pos) X.env=(do
   let ov<-MJ o X.env
   OY Z3.atName
   let (f,first)<-Ol [ov] (Om ov m pl)
   Of pos f first (NA pos (Ma (e::es) X.env)) (Pc pos (NY [] X.env))):=by rfl):W (PE X (.Call (.Attribute o m Z3) (e::es) [] pos) (eP C m sp [] E0 ta t)):=by
 refine ⟨?_⟩;have he:=he.h;have ha:=ha.h;obtain ⟨f,fd,F,hm,hb⟩:=G.ex;exact AF he c hm F (hr.mono hj) hb .nil iU ha (c7 hp) (eL X5) ht
theorem br(he:W (PE X o ta))(c:Cls X.K C)(G:GM X.prog X.w X.K X.mg X.base cm j C m ps sp)(hr:zJ cm k X.A)(hj:j<=k:=by decide)
  (ht:MJ (.Call (.Attribute o m Z3) [] [] pos) X.env=(do
   let ov<-MJ o X.env
   OY Z3.atName
   let (f,first)<-Ol [ov] (Om ov m pl)
   Of pos f first (NA pos (Ma [] X.env)) (Pc pos (NY [] X.env))):=by rfl):W (PE X (.Call (.Attribute o m Z3) [] [] pos) (eP C m sp [] E0 ta bQ)):=by
 refine ⟨?_⟩;have he:=he.h;obtain ⟨f,fd,F,hm,hb⟩:=G.ex;exact Kl he c hm F (hr.mono hj) hb .nil iU ht
theorem fU(he:W (PE X o ta))(c:Cls X.K C)(T:bF X Ex)(G:GMX X.prog X.w X.K X.mg X.base cm j C m ps sp)(hr:zJ cm k X.A)(ha:W (PA X (e::es) t))(hj:j<=k:=by decide)
  (hp:av e=true:=by rfl) (X5:dz es=true:=by rfl)
  (ht:MJ (.Call (.Attribute o m Z3) (e::es) [] pos) X.env=(do
   let ov<-MJ o X.env
   OY Z3.atName
   let (f,first)<-Ol [ov] (Om ov m pl)
   Of pos f first (NA pos (Ma (e::es) X.env)) (Pc pos (NY [] X.env))):=by rfl):W (PE X (.Call (.Attribute o m Z3) (e::es) [] pos) (eS C m sp [] Ex ta t)):=by
 refine ⟨?_⟩;have he:=he.h;have ha:=ha.h;obtain ⟨f,fd,F,hm,hb⟩:=G.ex;exact Hl he c hm T F (hr.mono hj) hb .nil ha (c7 hp) (eL X5) ht
theorem gj(he:W (PE X o ta))(c:Cls X.K C)(T:bF X Ex)(G:GMX X.prog X.w X.K X.mg X.base cm j C m ps sp)(hr:zJ cm k X.A)(hj:j<=k:=by decide)
  (ht:MJ (.Call (.Attribute o m Z3) [] [] pos) X.env=(do
   let ov<-MJ o X.env
   OY Z3.atName
   let (f,first)<-Ol [ov] (Om ov m pl)
   Of pos f first (NA pos (Ma [] X.env)) (Pc pos (NY [] X.env))):=by rfl):W (PE X (.Call (.Attribute o m Z3) [] [] pos) (eS C m sp [] Ex ta bQ)):=by
 refine ⟨?_⟩;have he:=he.h;obtain ⟨f,fd,F,hm,hb⟩:=G.ex;exact BI he c hm T F (hr.mono hj) hb .nil ht
structure mW(H:Hp)(C x dx:Addr)(H':Hp):Prop where
 no:H x=none
 nod:H dx=none
 ne:dx≠x
 at_:H' x=some (.ins C dx [])
 own:H' dx=some (.own x)
 same:zl H H'
theorem mW.mk'{x dx:Addr}(h:H x=none)(hd:H dx=none)(ne:dx≠x):mW H C x dx (upd (upd H dx (.own x)) x (.ins C dx [])) :=
 ⟨h,hd,ne,zy,by rw [ze ne,zy],λb u e=>by rw [ze (zC e h),ze (zC e hd)];exact e⟩
def kO(C:Addr)(sp:Sp)(t:TA):TE:=λσ H Q=>t σ H λvs H1=>∀x dx H2,mW H1 C x dx H2->sp (.ref x::vs) H2 (λv H3=>v = .non/\Q (.ref x) H3) E0
theorem PA.any{t:TA}(h:PA X es t):PA X es (λσ H Q=>∃R:List V->Hp->Prop,t σ H R/\∀xs H,R xs H->Q xs H):=λpos Go s σ H Q I=>x3e λR q hw=>wN hw h pos Go s σ H I q
theorem j7(G:GC X.prog X.w X.K X.mg X.base cm j x C ps sp)(hr:zJ cm k X.A)(hg:Gl X x)(ha:W (PA X (e::es) t))(hj:j+1<=k:=by decide)(Y7:(x==("__debug__":Str))=false:=by decide)(hp:av e=true:=by rfl)(X5:dz es=true:=by rfl):W (PE X (.Call (.Name x p) (e::es) [] pos) (kO C sp t)):=by
 refine ⟨?_⟩;have ha:=ha.h;obtain ⟨f,fd,F,hm,M,hb⟩:=G.ex;intro Go s σ H Q I h;exact EH M F (hr.mono hj) hg hm hb .nil iU ha.any Y7 (c7 hp) (eL X5) Go s σ H Q I ⟨_,h,λvs H1 q x dx hx hd ne=>by rw [Nw];exact q x dx _ (.mk' hx hd ne)⟩
theorem wc(hg:Gl X x)(hm:∃u,X.mg x=some u/\zp v u)(hd:(x==("__debug__":Str))=false:=by decide):PE X (.Name x pos) (tC v):=by
 obtain ⟨u,hm,r⟩:=hm;exact Ii hg hm r hd
theorem gF(ho:W (PE X o to))(he:W (PE X e te))
  (ZH:M9 o "append" X.env (MJ o X.env)=MJ o X.env:=by rfl)
  (ZG:(Z3.endLine==cpos.line)=true:=by rfl) (hp:av e=true:=by rfl):W (PE X (.Call (.Attribute o "append" Z3) [e] [] cpos) (rF to te)):=by
 refine ⟨?_⟩;have ho:=ho.h;have he:=he.h;intro Go s σ H Q I h;have hs:Ma [e] X.env=[(false,MJ e X.env)]:=du hp;refine Nx ZH (by rw [hs];rfl) ZG rfl (thn (ho Go s σ H _ I h) λv s1=>x5e λx H1 I1 r1 zz3=>?_);obtain ⟨l,ex,⟨xs,hx⟩,q1⟩:=zz3;subst ex;obtain ⟨h1,h2⟩:=iL (T:="list") I1 r1 (.inl ⟨rfl,xs,SqL.of hx⟩);refine ⟨"list","list.append",plainAttrs_list,PySem.F.slot_list_append,PySem.F.type_list_append,h1,h2,?_⟩;rw [hs];refine Calls.callWith_builtin rfl (Calls.evalArgs_plain ?_);have hA:=dE he dM (hs:=hs) cpos Go s1 σ H1 (λys H2=>bX (λy=>∃xs,H2 l=some (.lst xs)/\xs.length<sizeLine/\Q .non (upd H2 l (.lst (xs++[y])))) ys) I1 q1;rw [hs] at hA;refine thn hA λus s2=>x5e λvs H2 I2 r2 q2=>?_;obtain ⟨y,rfl,xs2,hx2,XW,q2⟩:=bX.ex q2;exact IW Go s2 σ H2 (.ref l) [y] v us Q I2 r1 r2 ⟨l,xs2,y,rfl,rfl,hx2,XW,q2⟩
end
section
variable {X:Cx}
def dU:List V->Hp->VK->Prop:=λxs H Q=>(∃i,xs=[.int i]/\Q (.int i) H)\/∃k,xs=[.bl k]/\Q (.int (if k then 1 else 0)) H
theorem AZ:zN X (.type "int") dU:=A3
def gA:List V->Hp->VK->Prop:=λxs H Q=>∃i,xs=[.int i]/\i.natAbs.log2<1920/\Q (.str (toString i)) H
theorem AU:zN X (.type "str") gA:=AH
theorem FL{Q:VK}:dU [.int i] H Q=Q (.int i) H:=by simp [dU]
theorem C2{k:Bool}{Q:VK}:dU [.bl k] H Q=Q (.int (if k then 1 else 0)) H:=by simp [dU]
theorem Kf{Q:VK}:gA [.int i] H Q=(i.natAbs.log2<1920/\Q (.str (toString i)) H):=by simp [gA]
def nG:List V->Hp->VK->Prop:=λxs H Q=>∃i j,xs=[.int i,.int j]/\Q (.int (if j>i then j else i)) H
def xI:List V->Hp->VK->Prop:=λxs H Q=>∃i j,xs=[.int i,.int j]/\Q (.int (if j<i then j else i)) H
theorem GE(hc:X.calm=true):zN X (.builtin "max") nG:=DO hc
theorem pT(hc:X.calm=true):zN X (.builtin "min") xI:=Bj hc
theorem mI{Q:VK}:nG [.int i,.int j] H Q=Q (.int (if j>i then j else i)) H:=by
 apply propext;constructor
 .rintro ⟨a,b,e,q⟩;cases e;exact q
 .exact λq=>⟨i,j,rfl,q⟩
theorem Aw{Q:VK}:xI [.int i,.int j] H Q=Q (.int (if j<i then j else i)) H:=by
 apply propext;constructor
 .rintro ⟨a,b,e,q⟩;cases e;exact q
 .exact λq=>⟨i,j,rfl,q⟩
end
section
variable {Y:Cx}{sc:Scope}{N':List Str}{Go:List (Addr×Obj)}{D:Addr}{fp:List Addr}{s:LF}{H:Hp}
theorem fJ{k:Nat}{t:TGs}(h:W (PGs (zO Y sc N' Go D fp s H) es t))(hl:(Nv es (zO Y sc N' Go D fp s H).env).length=n:=by rfl)(hst:(Nv es (zO Y sc N' Go D fp s H).env).findIdx? (·.1)=none:=by rfl):W (PG (zO Y sc N' Go D fp s H) (.Tuple es k pos) (oX Y.K n t)):=by refine ⟨?_⟩;have h:=h.h;exact r8 h hl hst
end
theorem Kj{t:TG}{u:TGs}{r:List V}{Q:St->Hp->Prop}:pb t u (v::r) σ H Q=t v σ H λσ' H'=>u r σ' H' Q:=by
 apply propext;constructor
 .rintro ⟨v,r,e,h⟩;cases e;exact h
 .exact λh=>⟨v,r,rfl,h⟩
theorem Et{Q:St->Hp->Prop}:xG [] σ H Q=Q σ H:=by
 apply propext;constructor
 .exact λh=>h.2
 .exact λh=>⟨rfl,h⟩
section
variable {H:Hp}{Q:VK}{i j:Int}{x y:Str}{a b:Addr}{K:LK}{g:Int->Int->V}{C:Int->Int->Prop}{k c:Bool}{QB:Bool->Hp->Prop}
theorem fe:c0 (.int i) (.int j) H Q=Q (.int (i+j)) H:=by simp [c0]
theorem yj:c0 (.str x) (.str y) H Q=(x.length+y.length<=sizeLine/\Q (.str (x++y)) H):=by simp [c0]
theorem eI:c0 (.ref a) (.ref b) H Q = ∃xs zs,H a=some (.lst xs)/\H b=some (.lst zs)/\xs.length+zs.length<=sizeLine/\∀p H2,New H p (.lst (xs++zs)) H2->Q (.ref p) H2:=by simp [c0]
theorem xA:fc (.int i) (.int j) H Q=(hG i j/\Q (.int (i*j)) H):=by simp [fc]
theorem Ea:fc (.ref a) (.int i) H Q = ∃xs,H a=some (.lst xs)/\-(2 ^ 63)<=i/\i<2 ^ 63/\xs.length*i.toNat<=sizeLine/\∀p H2,New H p (.lst (Mg i.toNat xs).flatten) H2->Q (.ref p) H2:=by simp [fc]
theorem gE:uIx (.ref a) (.int i) H Q = ∃xs,(H a=some (.lst xs)\/H a=some (.tup xs))/\∃v,atI xs i=some v/\Q v H:=by
 apply propext;constructor
 .rintro (⟨p,xs,i,v,e1,e2,h,r⟩|⟨p,xs,i,v,e1,e2,h,r⟩|⟨z,i,c,e,_⟩)
  .cases e1;cases e2;exact ⟨xs,.inl h,v,r⟩
  .cases e1;cases e2;exact ⟨xs,.inr h,v,r⟩
  .cases e
 .rintro ⟨xs,h|h,v,r⟩
  .exact .inl ⟨_,xs,_,v,rfl,rfl,h,r⟩
  .exact .inr (.inl ⟨_,xs,_,v,rfl,rfl,h,r⟩)
theorem lP:uIx (.str x) (.int i) H Q=(x.length<=sizeLine/\∃c,atI x.cps.toList i=some c/\Q (.str ⟨#[c]⟩) H):=by simp [uIx]
theorem pA:jv [.ref a] H Q = ∃ys,(H a=some (.lst ys)\/H a=some (.tup ys))/\Q (.int ys.length) H:=by
 apply propext;constructor
 .rintro (⟨p,xs,e1,h,r⟩|⟨p,xs,e1,h,r⟩|⟨z,e,_⟩)
  .cases e1;exact ⟨xs,.inl h,r⟩
  .cases e1;exact ⟨xs,.inr h,r⟩
  .cases e
 .rintro ⟨xs,h|h,r⟩
  .exact .inl ⟨_,xs,rfl,h,r⟩
  .exact .inr (.inl ⟨_,xs,rfl,h,r⟩)
theorem sY:jv [.str x] H Q=(x.length<=sizeLine/\Q (.int x.length) H):=by simp [jv]
theorem Bf:rI C g (.int i) (.int j) H Q=(C i j/\Q (g i j) H):=by simp [rI]
theorem wQ:rI0 g (.int i) (.int j) H Q=Q (g i j) H:=by simp [rI0]
theorem Ig{g:Int->V}:rU g (.int i) H Q=Q (g i) H:=by simp [rU]
theorem qo:uEq c (.int i) (.int j) H Q=Q (.bl (if c then !decide (i=j) else decide (i=j))) H:=by simp [uEq,fB]
theorem kB:uEq c (.str x) (.str y) H Q=Q (.bl (if c then !decide (x=y) else decide (x=y))) H:=by simp [uEq,fB]
theorem vD:uEq c (.bl k) (.bl k') H Q=Q (.bl (if c then !decide (k=k') else decide (k=k'))) H:=by simp [uEq,fB]
theorem w9:uEq c (.ref a) (.ref b) H Q = ∃xs ys,H a=some (.lst xs)/\H b=some (.lst ys)/\xs.all zY=true/\ys.all zY=true/\Q (.bl (if c then !eqL xs ys else eqL xs ys)) H:=by simp [uEq,fB]
def fZ(K:LK)(v:V)(H:Hp)(Q:Bool->Hp->Prop):Prop:=∃k,fM K v H k/\Q k H
theorem FK:fZ K (.bl k) H QB=QB k H:=by simp [fZ,fM]
theorem K0:fZ K .non H QB=QB false H:=by simp [fZ,fM]
theorem EM:fZ K (.int i) H QB=QB (i != 0) H:=by simp [fZ,fM]
theorem JD:rY K ta σ H QB=ta σ H λx H'=>fZ K x H' QB:=rfl
def uB(v:V)(q:Bool->Prop):Prop:=∃c,v = .bl c/\q c
theorem wZ{q:Bool->Prop}:uB (.bl k) q=q k:=by simp [uB]
theorem HH{t:TE}:kW t σ H QB=t σ H λx H1=>uB x λc=>QB c H1:=rfl
theorem Bx{t u:TE}:pF t u σ H Q=t σ H λx H1=>uB x λc=>if c=true then u σ H1 Q else Q (.bl false) H1:=rfl
theorem B3{t u:TE}:rj t u σ H Q=t σ H λx H1=>uB x λc=>if c=true then Q (.bl true) H1 else u σ H1 Q:=rfl
theorem Jk{t:TE}:ou t σ H Q=t σ H λx H1=>uB x λc=>Q (.bl (!c)) H1:=rfl
theorem JU{r r':R2}{tc:TE}:wt r r' ta tb tc σ H Q=ta σ H λx H1=>tb σ H1 λy H2=>r x y H2 λz H3=>uB z λk=>if k=true then tc σ H3 λw' H4=>r' y w' H4 Q else Q (.bl false) H3:=rfl
theorem ly{q:Addr->Prop}:uR (.ref a) q=q a:=by simp [uR]
theorem IB{C:Addr}:ji C ta f σ H Q=ta σ H λx H1=>uR x λa=>∃dx fs v,H1 a=some (.ins C dx fs)/\fs.lookup f=some v/\Q v H1:=by
 unfold ji uR;congr;funext x H1;apply propext;constructor
 .rintro ⟨a,dx,fs,v,h1,h2,h3,h4⟩;exact ⟨a,h1,dx,fs,v,h2,h3,h4⟩
 .rintro ⟨a,h1,dx,fs,v,h2,h3,h4⟩;exact ⟨a,dx,fs,v,h1,h2,h3,h4⟩
theorem HZ{C:Addr}{tv:TE}:lj C ta tv f D σ H=tv σ H λy H1=>ta σ H1 λx H2=>uR x λa=>∃dx fs,H2 a=some (.ins C dx fs)/\fs.length<1000/\D.nx σ (upd H2 a (.ins C dx (zP f y fs))):=by
 unfold lj uR;congr;funext x H1;congr;funext x2 H2;apply propext;constructor
 .rintro ⟨a,dx,fs,h1,h2,h3,h4⟩;exact ⟨a,h1,dx,fs,h2,h3,h4⟩
 .rintro ⟨a,h1,dx,fs,h2,h3,h4⟩;exact ⟨a,dx,fs,h1,h2,h3,h4⟩
theorem Gy{C:Addr}{sp:Sp}{Zv:List V}{E:XK}{t:TA}:eP C m sp Zv E ta t σ H Q=ta σ H λx H1=>uR x λa=>∃dx fs,H1 a=some (.ins C dx fs)/\fs.lookup m=none/\t σ H1 λvs H2=>sp (.ref a::(vs++Zv)) H2 Q E:=by
 unfold eP uR;congr;funext x H1;apply propext;constructor
 .rintro ⟨a,dx,fs,rfl,h2,h3,h4⟩;exact ⟨a,rfl,dx,fs,h2,h3,h4⟩
 .rintro ⟨a,rfl,dx,fs,h2,h3,h4⟩;exact ⟨a,dx,fs,rfl,h2,h3,h4⟩
theorem Iy{C:Addr}{sp:Sp}{Zv:List V}{t:TA}:eS C m sp Zv Ex ta t σ H Q=ta σ H λx H1=>uR x λa=>∃dx fs,H1 a=some (.ins C dx fs)/\fs.lookup m=none/\t σ H1 λvs H2=>sp (.ref a::(vs++Zv)) H2 Q (XE Ex σ):=by
 unfold eS uR;congr;funext x H1;apply propext;constructor
 .rintro ⟨a,dx,fs,rfl,h2,h3,h4⟩;exact ⟨a,rfl,dx,fs,h2,h3,h4⟩
 .rintro ⟨a,rfl,dx,fs,h2,h3,h4⟩;exact ⟨a,dx,fs,rfl,h2,h3,h4⟩
end
section
variable {K:LK}{g:TG}{tb:TS}{D:aL}{σ:St}{H:Hp}{ta:TA}{tl:TE}{wi:TI}{R:It->Hp->Prop}{j:Int}{tt:TT}{te:TE}{ix:List (Option Nat)}{Q:VK}
def aB(J:It)(g:TG)(tb:TS)(D:aL)(σ:St)(H:Hp):Prop:=∃W:Nat->Nat->St->Hp->Prop,(∃m,W 0 m σ H)/\∀i m σ H,W i m σ H ->
 (J.stop i H/\D.nx σ H)\/(J.go i H/\∃N:St->Hp->Prop,(∀σ' H',N σ' H'->∃m',m'<m/\W (i+1) m' σ' H')/\∀x H',J.yld i H x H'->g x σ H' λσ2 H2=>tb { D with nx:=N,ct:=N,bk:=D.nx } σ2 H2)
theorem Hw:rq wi g tb D σ H=wi σ H λJ H1=>aB J g tb D σ H1:=rfl
def uI1(vs:List V)(q:Int->Prop):Prop:=∃j,vs=[.int j]/\q j
theorem G6{q:Int->Prop}:uI1 [.int j] q=q j:=by simp [uI1]
theorem A9:iy ta σ H R=ta σ H λvs H1=>uI1 vs λj=>-(2 ^ 62)<=j/\j<2 ^ 62/\R (Itr 0 j.toNat) H1:=rfl
theorem LD:iz K tl σ H R=tl σ H λx H1=>uR x λa=>(∃xs,SqL K H1 a xs)/\R (Itl K a) H1:=rfl
theorem Ej:vI K tl σ H R=tl σ H λx H1=>uR x λa=>(∃xs,SqT K H1 a xs)/\R (Itt K a) H1:=rfl
def uR2(vs:List V)(q:Addr->Addr->Prop):Prop:=∃a b,vs=[.ref a,.ref b]/\q a b
theorem AG{q:Addr->Addr->Prop}:uR2 [.ref a,.ref b] q=q a b:=by
 apply propext;constructor
 .rintro ⟨c,d,e,h⟩;cases e;exact h
 .exact λh=>⟨a,b,rfl,h⟩
def zS(J:It)(g:TG)(tt:TT)(te:TE)(τ:St)(H:Hp)(Q:VK):Prop:=∃W:Nat->Nat->St->List V->Hp->Prop,(∃m,W 0 m τ [] H)/\∀i m τ ys H2,W i m τ ys H2->ys.length<sizeLine /\
 ((J.stop i H2 ∧ ∀ D, H2 D = none → D ≠ sysModules → Q (.ref D) (upd H2 D (.lst ys))) ∨
  (J.go i H2 ∧ ∀ x H3, J.yld i H2 x H3 → g x τ H3 fun τ1 H4 => tt τ1 H4 fun ok H5 => if ok = true then te τ1 H5 fun y H6 => ∃ m', m' < m ∧ W (i + 1) m' τ1 (ys ++ [y]) H6 else ∃ m', m' < m ∧ W (i + 1) m' τ1 ys H5))
theorem Lo:tLC ix wi g tt te σ H Q=wi σ H λJ H1=>zS J g tt te (bW ix σ) H1 Q:=rfl
theorem aB.rng{lo:Int}(Pv:Nat->St->Hp->Prop)(h0:Pv 0 σ H)
  (hs:∀i σ H,i<n->Pv i σ H->g (.int (lo+i)) σ H λσ2 H2=>tb { D with nx:=Pv (i+1),ct:=Pv (i+1),bk:=D.nx } σ2 H2) (hd:∀σ H,Pv n σ H->D.nx σ H):aB (Itr lo n) g tb D σ H:=KQ Pv h0 hs hd
theorem aB.lst{xs:List V}(Pv:Nat->St->Hp->Prop)(h0:Pv 0 σ H)(hl:∀i σ H,i<=xs.length->Pv i σ H->SqL K H a xs)
  (hs:∀i x σ H,xs[i]?=some x->Pv i σ H->g x σ H λσ2 H2=>tb { D with nx:=Pv (i+1),ct:=Pv (i+1),bk:=D.nx } σ2 H2) (hd:∀σ H,Pv xs.length σ H->D.nx σ H):aB (Itl K a) g tb D σ H:=GN Pv h0 hl hs hd
def dJ(N:St->List V->Hp->Prop)(ys:List V)(τ1:St)(te:TE)(ok:Bool)(H5:Hp):Prop:=if ok=true then te τ1 H5 λy H6=>N τ1 (ys++[y]) H6 else N τ1 ys H5
theorem Dw{N:St->List V->Hp->Prop}:dJ N ys τ te true H=te τ H λy H6=>N τ (ys++[y]) H6:=rfl
theorem Df{N:St->List V->Hp->Prop}:dJ N ys τ te false H=N τ ys H:=rfl
theorem zS.rng{lo:Int}(Pv:Nat->St->List V->Hp->Prop)(hz:∀i τ ys H,Pv i τ ys H->ys.length<sizeLine)(h0:Pv 0 τ [] H)
  (hs:∀(N:St->List V->Hp->Prop) i τ ys H,i<n->Pv i τ ys H->(∀τ ys H,Pv (i+1) τ ys H->N τ ys H)->g (.int (lo+i)) τ H λτ1 H4=>tt τ1 H4 λok H5=>dJ N ys τ1 te ok H5) (hd:∀τ ys H,Pv n τ ys H->∀D H',New H D (.lst ys) H'->Q (.ref D) H'):zS (Itr lo n) g tt te τ H Q:=by
 refine ⟨λi m τ ys H=>m=n-i/\i<=n/\Pv i τ ys H,⟨n,by simp,MM _,h0⟩,?_⟩;rintro i m τ ys H2 ⟨rfl,hi,p⟩;refine ⟨hz i τ ys H2 p,?_⟩;by_cases ZO:i<n
 .refine .inr ⟨ZO,λx H' y=>?_⟩;obtain ⟨e,y⟩:=y;subst e y;exact hs (λτ1 ys H=>∃m',m'<n-i/\m'=n-(i+1)/\i+1<=n/\Pv (i+1) τ1 ys H) i τ ys _ ZO p λτ1 zs H q=>⟨n-(i+1),by lia,rfl,ZO,q⟩
 .have e:i=n:=by lia
  subst e;exact .inl ⟨we _,λD hD _=>hd τ ys H2 p D _ (.mk' hD)⟩
end
section
variable {X:Cx}
def jo:V->Option Int->Option Int->Hp->VK->Prop:=λx lo hi H Q=>∃z,x = .str z/\z.length<=sizeLine/\Q (.str (Txt.slice z lo hi)) H
theorem KO{sl:Addr}{vl vu:Value}(hs:h.IsSliceOf sl vl vu .none)(pl:PN vl lo)(pu:PN vu hi):∃l u:Option (Int×Tok),h.IsSlice sl l u none/\l.map (·.1)=lo/\u.map (·.1)=hi:=by
 obtain ⟨o,h1,h2,h3⟩:=hs;cases pl with
 | none =>
  cases pu with
  | none=>exact ⟨none,none,⟨o,h1,h2,h3⟩,rfl,rfl⟩
  | int j t=>exact ⟨none,some (j,t),⟨o,h1,h2,h3⟩,rfl,rfl⟩
 | int i t' =>
  cases pu with
  | none=>exact ⟨some (i,t'),none,⟨o,h1,h2,h3⟩,rfl,rfl⟩
  | int j t=>exact ⟨some (i,t'),some (j,t),⟨o,h1,h2,h3⟩,rfl,rfl⟩
theorem BQ:SlR X jo:=by
 intro Go s σ H x v vl vu lo hi sl Q I rx hs pl pu h;obtain ⟨z,rfl,hz,q⟩:=h;obtain ⟨t,rfl⟩:=rx;obtain ⟨l,u,hS,e1,e2⟩:=KO hs pl pu;subst e1 e2;exact ⟨"str",_,F.slot_str_getitem.lookup,OT _ _ _,wpAny_getItem_str_slice (l:=l) (u:=u) (st:=none) hS rfl
  (post_val_or_str ⟨Mp (Txt.slice_le z _ _) hz,λt' k=>⟨.str _,H,I.tok k,⟨_,rfl⟩,q⟩⟩)⟩
def uSl:V->Option Int->Option Int->Hp->VK->Prop:=λx lo hi H Q=>(∃a xs,x = .ref a/\H a=some (.lst xs)/\∀p H2,New H p (.lst (aU xs lo hi)) H2->Q (.ref p) H2)\/jo x lo hi H Q
theorem SlR.weak{r r':V->Option Int->Option Int->Hp->VK->Prop}(h:SlR X r)(hw:∀x l u H Q,r' x l u H Q->r x l u H Q):SlR X r' :=
 λGo s σ H x v vl vu lo hi sl Q I rx hs pl pu q=>h Go s σ H x v vl vu lo hi sl Q I rx hs pl pu (hw _ _ _ _ _ q)
theorem fG:SlR X uSl:=((DC (X:=X)).or BQ).weak λx l u H Q h=>by
 rcases h with ⟨a,xs,e,h,q⟩|h
 .exact .inl ⟨a,xs,e,SqL.of h,λp hp=>q p _ (.mk' hp)⟩
 .exact .inr h
def nQ(v:V)(q:Int->Prop):Prop:=∃i,v = .int i/\q i
theorem tS{q:Int->Prop}:nQ (.int i) q=q i:=by simp [nQ]
theorem AW{t:TE}{Q:Option Int->Hp->Prop}:xY t σ H Q=t σ H λx H1=>nQ x λi=>Q (some i) H1:=rfl
theorem uu{Q:VK}:uSl (.str z) lo hi H Q=(z.length<=sizeLine/\Q (.str (Txt.slice z lo hi)) H):=by simp [uSl,jo]
theorem mK{Q:VK}:uSl (.ref a) lo hi H Q = ∃xs,H a=some (.lst xs)/\∀p H2,New H p (.lst (aU xs lo hi)) H2->Q (.ref p) H2:=by simp [uSl,jo]
theorem JV{ys:List Str}:∀{us:List Value},zq (ys.map V.str) us->StrsAre us ys:=by
 induction ys with
 | nil=>intro us r;rw [map_nil] at r;cases r;exact .nil
 | cons n ns ih =>
  intro us r;rw [MD] at r;cases r with
  | cons r1 r2 =>
   obtain ⟨t,e⟩:=r1;subst e;exact .cons n t (ih r2)
def iD:V->List V->Hp->VK->Prop:=λx vs H Q=>∃z p ys,x = .str z/\vs=[.ref p]/\H p=some (.lst (ys.map V.str))/\(ys.map (·.length)).sum+ys.length*z.length<=16777216/\Q (.str (Txt.join z ys)) H
theorem Aa:MtR X "str.join" iD:=by
 intro Go s σ H x xs v us Q I rx rs h;obtain ⟨z,p,ys,rfl,rfl,hp,hz,q⟩:=h;obtain ⟨t,rfl⟩:=rx;cases rs with
 | cons r1 rr =>
  cases rr;cases (show _=LL p from r1);obtain ⟨its,r,ht,_⟩:=I.list (SqL.of (K:=X.K) hp);exact join_list ht.isList (by simpa using JV r) hz λt' k=>⟨.str _,H,I.tok k,⟨_,rfl⟩,q⟩
def iC(z:Str)(n:Nat):Str:=⟨((Mg n z.cps.toList).flatten).toArray⟩
theorem w8{α:Type}(l:List α):∀(n:Nat)(Zi:List α),foldl (λx1 x2:Array α=>x1++x2) Zi.toArray (Mg n l.toArray)=(Zi++(Mg n l).flatten).toArray
 | 0,Zi=>by simp
 | n+1,Zi=>by
  rw [M8,QE,List.append_toArray,w8 l n (Zi++l)];simp [M8]
theorem Cr(z:Str)(n:Nat):(⟨(Mg n z.cps).foldl (·++·) #[]⟩:Str)=iC z n:=by
 have h:=w8 z.cps.toList n [];unfold iC;congr 1
theorem vi{α:Type}(l:List α):∀n:Nat,((Mg n l).flatten).length=l.length*n
 | 0=>by simp
 | n+1=>by rw [M8,OI,Md,vi l n,Nat.mul_succ];lia
theorem Gz(z:Str)(n:Nat):(iC z n).length=z.length*n:=by
 show (((Mg n z.cps.toList).flatten).toArray).size=_;rw [LY,vi];rfl
def iV:R2:=λx y H Q=>∃z n,x = .str z/\y = .int n/\1<n/\n<2 ^ 31/\z.length≠0/\z.length*n.toNat<=sizeLine/\Q (.str (iC z n.toNat)) H
theorem Ke:OpR X (Nl .Mult) iV:=by
 intro Go s σ H x y v u Q I rx ry h;obtain ⟨z,n,rfl,rfl,h1,h2,h3,h4,q⟩:=h;obtain ⟨t,rfl⟩:=rx;obtain ⟨t',rfl⟩:=ry;have hs:sizeLine=16777216:=ML;have hc:(n==1||z.length==0)=false:=by
  rw [Bool.or_eq_false_iff];exact ⟨beq_eq_false_iff_ne.mpr (by lia),beq_eq_false_iff_ne.mpr h3⟩
 have hz:z.length<=16777216:=by
  have:z.length*1<=z.length*n.toNat:=Nat.mul_le_mul_left _ (by lia);lia
 refine PySem.P.mul_str ?_ ?_ ?_ ?_
 .rw [decide_eq_false (show ¬ n < -(2 ^ 63:Int) by lia),decide_eq_false (show ¬ n ≥ 2 ^ 63 by lia)];rfl
 .intro _ _ hgt;have:(16777216:Int)<=(2 ^ 63-1) / n:=Int.le_ediv_of_mul_le (by lia) (by lia);lia
 .intro _ _;exact decide_eq_false (by lia)
 .rw [if_neg (show ¬ n<1 by lia),if_neg (by rw [hc];exact LM),Cr];exact ⟨by rw [Gz];lia,⟨.str _,H,I.tok _,⟨_,rfl⟩,q⟩⟩
theorem rp{p:Addr}{k:Int}{Q:Hp->Prop}:qC (.ref p) (.int k) v H Q = ∃xs j,H p=some (.lst xs)/\ixN xs.length k=some j/\Q (upd H p (.lst (xs.set j v))):=by
 apply propext;constructor
 .rintro ⟨p',xs,k',j,e1,e2,h⟩;cases e1;cases e2;exact ⟨xs,j,h⟩
 .rintro ⟨xs,j,h⟩;exact ⟨p,xs,k,j,rfl,rfl,h⟩
def vS:List V->Hp->VK->Prop:=λxs H Q=>∃p ys,xs=[.ref p]/\(H p=some (.lst ys)\/H p=some (.tup ys))/\∀l H2,New H l (.lst ys) H2->Q (.ref l) H2
theorem tm:zN X (.type "list") vS:=Lu.weak λxs H Q h=>by
 obtain ⟨p,ys,e,h1,q⟩:=h;exact ⟨p,ys,e,h1.elim (λh=>.inl (SqL.of h)) (λh=>.inr (SqT.of h)),λl hl=>q l _ (.mk' hl)⟩
theorem Cw{Q:VK}:vS [.ref a] H Q = ∃ys,(H a=some (.lst ys)\/H a=some (.tup ys))/\∀l H2,New H l (.lst ys) H2->Q (.ref l) H2:=by
 apply propext;constructor
 .rintro ⟨p,ys,e,h⟩;cases e;exact ⟨ys,h⟩
 .rintro ⟨ys,h⟩;exact ⟨a,ys,rfl,h⟩
def sW(to:TE):TE:=λσ H Q=>to σ H λx H1=>uR x λl=>∃xs,H1 l=some (.lst xs)/\Q .non (upd H1 l (.lst []))
theorem qU(ho:W (PE X o to))(ZH:M9 o "clear" X.env (MJ o X.env)=MJ o X.env:=by rfl)(ZG:(Z3.endLine==cpos.line)=true:=by rfl):W (PE X (.Call (.Attribute o "clear" Z3) [] [] cpos) (sW to)):=by
 refine ⟨?_⟩;have ho:=ho.h;intro Go s σ H Q I h;refine wpAny_Call_method0_late ZH ZG (thn (ho Go s σ H _ I h) λv s1=>x5e λx H1 I1 r1 Ys=>?_);obtain ⟨l,ex,xs,hx,q1⟩:=Ys;subst ex;obtain ⟨h1,h2⟩:=iL (T:="list") I1 r1 (.inl ⟨rfl,xs,SqL.of hx⟩);exact ⟨"list","list.clear",plainAttrs_list,PySem.F.slot_list_clear,PySem.F.type_list_clear,h1,h2,Calls.callWith_builtin rfl (PySem.evalArgs_none (Em Go s1 σ H1 (.ref l) [] v [] Q I1 r1 .nil ⟨l,xs,rfl,rfl,hx,q1⟩))⟩
theorem yE{p:Addr}{Q:VK}:iD (.str z) [.ref p] H Q = ∃ys:List Str,H p=some (.lst (ys.map V.str))/\(ys.map (·.length)).sum+ys.length*z.length<=16777216/\Q (.str (Txt.join z ys)) H:=by
 apply propext;constructor
 .rintro ⟨z',p',ys,e1,e2,h⟩;cases e1;cases e2;exact ⟨ys,h⟩
 .rintro ⟨ys,h⟩;exact ⟨z,p,ys,rfl,rfl,h⟩
end
def Ite(K:LK)(a:Addr):It :=
 ⟨λi H=>∃xs x,SqL K H a xs/\xs[i]?=some x,λi H v H'=>∃T x,H T=none/\v = .ref T/\H'=upd H T (.tup [.int i,x])/\∀xs,SqL K H a xs->xs[i]?=some x,λi H=>∃xs,SqL K H a xs/\xs.length<=i⟩
structure Fy(e it l:Addr)(i:Nat)(h:Heap):Prop where
 z:∃YN,IsEnum h e it i YN
 a:h.IsListIter it l i
theorem Ad{l e:Addr}(YU:e≠it) :
  dj true P w K (.Tuple YQ kk tp) (Ite K l) [e,it] e (Fy e it l) where
 mem:=by simp
 obj:=λi h st b hb=>by
  obtain ⟨⟨YN,a1⟩,⟨o4,a4,_,d4⟩⟩:=st;simp only [LI,LP,or_false] at hb;rcases hb with rfl|rfl
  .exact ⟨_,a1,λv q=>nomatch q⟩
  .exact ⟨_,a4,λv q=>by rw [d4] at q;cases q⟩
 keep:=λi h h' st k=>by
  obtain ⟨⟨YN,a1⟩,a4⟩:=st;exact ⟨⟨YN,k _ (by simp) _ a1⟩,a4.at λo e=>k _ (by simp) o e⟩
 item:=by
  intro X hP hw hK hc i Go s σ H E I hf st hg;subst hP hw hK;obtain ⟨xs,x,hq1,hx⟩:=hg;obtain ⟨is1,Xc,p1,hz1⟩:=I.list hq1;obtain ⟨u1,hu1,ru1⟩:=Xc.get hx;obtain ⟨⟨YN,a1⟩,a4⟩:=st;refine wpAny_pyNext_enum_item a1 a4 p1.isList (x:=u1) (by simpa using hu1) YU λh' b1 b2 b3 b4 b5=>?_;refine ⟨_,rfl,wpAny_letOwnedTupleGo_enum (s:={ s with heap:=h',toks:=s.toks+1 }) b1 λh2 c1 c2=>?_⟩;have Xb:e<s.heap.objs.size:=L7 a1;have nz:s.heap.objs.size≠e:=NQ Xb;have all:∀c o,c≠e->c≠it->s.heap.get? c=some o->h2.get? c=some o:=λc o n1 n2 q=>c2.extBut c o n1 (b5 c o n1 n2 q);have tT:h2.get? s.heap.objs.size=some { cls:=.type "tuple",data:=.seq #[.int i s.toks,u1] }:=c2.extBut _ _ nz b3;have YM:H s.heap.objs.size=none:=I.hok.fresh (we _);have Xa:HOk X.prog X.w H h2:=λb u q0=>by
   refine (I.hok b u q0).stay (λc v hc q=>?_) (λ_ q=>q) λ_ _ q=>q;have hnn:∀d∈[e,it],c≠d:=λd hd w=>by
    have fd:=(hf d hd).1;rcases hc with k|k
    .rw [k] at w;rw [w,fd] at q0;cases q0
    .rw [w,fd] at k;cases k
   exact all c v (hnn e (by simp)) (hnn it (by simp)) q
  have lt0:∀b o,s.heap.get? b=some o->b≠s.heap.objs.size:=λb o e=>Mx (L7 e);have I2:Inv X Go σ (upd H s.heap.objs.size (.tup [.int i,x])) { s with heap:=h2,toks:=s.toks+1 }:=by
   refine I.step (g':=s.gens) (d':=s.drawn) (t':=s.toks+1) (ch:=[e,it]) (λb hb=>?_) (λb o _ _ hb q _=>?_) (λb o _ _ hb q _=>?_) (λb o _ q n=>?_) (λb o hb q=>?_) (λb ps q=>?_) (λb o u q=>?_) (λb ps q=>?_) (λm hm=>?_) (Xa.add YM ?_) I.bare
   .obtain ⟨f0,f1,f2,f3,f4,f5⟩:=hf b hb;exact ⟨f3,f1,f4,f5⟩
   .simp only [LI,LP,or_false,not_or] at hb;exact all b o hb.1 hb.2 q
   .simp only [LI,LP,or_false,not_or] at hb;exact ⟨o.slots,all b o hb.1 hb.2 q⟩
   .rw [ze (lt0 b o q)];exact n
   .simp only [LI,LP,or_false,not_or] at hb;exact ⟨o,all b o hb.1 hb.2 q⟩
   .rw [ze (zC q YM)];exact q
   .rw [ze (zC q YM)];exact q
   .exact ⟨#[],by rw [ze (zC q YM),q];simp⟩
   .obtain ⟨o,es,ep,ho,r⟩:=hm;exact ⟨o,es,ep,all _ o (L8 (hf e (by simp)).2.1) (L8 (hf it (by simp)).2.1) ho,r⟩
   .exact ⟨by show 2<=sizeLine;decide,[.int i s.toks,u1],.cons ⟨_,rfl⟩ (.cons ru1 .nil),⟨_,tT,rfl,_,rfl⟩⟩
  refine ⟨.ref s.heap.objs.size,_,I2,rfl,⟨_,x,YM,rfl,rfl,λzs hz=>by rw [I.list_inj hz hq1];exact hx⟩,?_,λb hb=>?_⟩
  .exact ⟨⟨_,c1⟩,b2.extBut c2.extBut (L8 YU)⟩
  .have ne:b≠s.heap.objs.size:=λq=>by
    have:b<s.heap.objs.size:=by
     simp only [LI,LP,or_false] at hb;obtain ⟨o4,a4,_⟩:=a4;rcases hb with rfl|rfl
     .exact Xb
     .exact L7 a4
    exact absurd (q ▸ this) (Ml _)
   rw [ze ne];exact (hf b hb).1
 done:=by
  intro X hP hw hK hc i Go s σ H E I hf st hg;subst hP hw hK;obtain ⟨xs,hq1,hx⟩:=hg;obtain ⟨is1,Xc,p1,hz1⟩:=I.list hq1;have hl:=Xc.length;obtain ⟨⟨YN,a1⟩,a4⟩:=st;refine wpAny_pyNext_enum_end (I.ok.hd (hc rfl)) a1 a4 p1.isList (by simp;lia) λh' up=>⟨rfl,?_⟩;refine I.step (g':=s.gens) (d':=s.drawn) (t':=s.toks) (ch:=[it]) (λb hb=>?_) (λb o _ _ hb q _=>?_) (λb o _ _ hb q _=>?_) (λ_ _ _ _ n=>n) (λb o hb q=>?_) (λ_ _ q=>q) (λ_ _ _ q=>q) (λb ps q=>⟨#[],by rw [q];simp⟩) (λm hm=>?_) (λb u q0=>?_) I.bare
  .have hb':b∈[e,it]:=by simp only [LI,LP,or_false] at hb ⊢;exact .inr hb
   obtain ⟨f0,f1,f2,f3,f4,f5⟩:=hf b hb';exact ⟨f3,f1,f4,f5⟩
  .simp only [LI,LP,or_false] at hb;exact up b o hb q
  .simp only [LI,LP,or_false] at hb;exact ⟨o.slots,up b o hb q⟩
  .simp only [LI,LP,or_false] at hb;exact ⟨o,up b o hb q⟩
  .obtain ⟨o,es,ep,ho,r⟩:=hm;exact ⟨o,es,ep,up _ o (L8 (hf it (by simp)).2.1) ho,r⟩
  .refine (I.hok b u q0).stay (λc v hc q=>?_) (λ_ q=>q) λ_ _ q=>q;have hnn:c≠it:=λw=>by
    have fd:=(hf it (by simp)).1;rcases hc with k|k
    .rw [k] at w;rw [w,fd] at q0;cases q0
    .rw [w,fd] at k;cases k
   exact up c v hnn q
 self:=λ_ _ _ _ _ st h=>by
  obtain ⟨YN,a1⟩:=st.z;exact OH a1 h
section
variable {X:Cx}
def vY(K:LK)(ta:TA):TI:=λσ H R=>ta σ H λvs H1=>∃a,vs=[.ref a]/\(∃xs,SqL K H1 a xs)/\R (Ite K a) H1
theorem km{p:Pos}{a:Mw}{ta:TA}(hg:Gl X "enumerate")(hm:X.mg "enumerate"=none)(ha:W (PA X [a] ta))(hp:av a=true:=by rfl):W (PIc true X (.Tuple YQ kk tp) (.Call (.Name "enumerate" p) [a] [] pos) (vY X.K ta)):=by
 refine ⟨?_⟩;have ha:=ha.h;intro Go s σ H R I h;have hs:Ma [a] X.env=[(false,MJ a X.env)]:=du hp;refine Call_ (dO I hg hm boot_enumerate (Nd (thn (ha pos Go s σ H _ I h) λus s1=>x5e λvs H1 I1 r1 q1=>?_) hs rfl));obtain ⟨l1,e,⟨xs,h1⟩,q⟩:=q1;subst e;cases r1 with
 | cons r rr =>
  cases rr;cases (show _=LL l1 from r);obtain ⟨is1,Xc,p1,_⟩:=I1.list h1;refine call_enumerate_list p1.isList λh' a1 a4 a6 a7=>OH (s:={ s1 with heap:=h' }) a1 ?_;refine ⟨_,_,_,_,H1,rfl,I1.kept (t':=s1.toks) a7,Ad (Nat.succ_ne_self _),⟨⟨_,a1⟩,a4⟩,λb hb=>?_,q⟩;have le:s1.heap.objs.size<=b:=by
   simp only [LI,LP,or_false] at hb;rcases hb with rfl|rfl<;>lia
  exact I1.fpOk le (I1.hok.fresh le)
end
section
variable {K:LK}{g:TG}{tb:TS}{D:aL}{σ:St}{H:Hp}{ta:TA}{R:It->Hp->Prop}
def uR1(vs:List V)(q:Addr->Prop):Prop:=∃a,vs=[.ref a]/\q a
theorem fR{q:Addr->Prop}:uR1 [.ref a] q=q a:=by
 apply propext;constructor
 .rintro ⟨c,e,h⟩;cases e;exact h
 .exact λh=>⟨a,rfl,h⟩
theorem Fv:vY K ta σ H R=ta σ H λvs H1=>uR1 vs λa=>(∃xs,SqL K H1 a xs)/\R (Ite K a) H1:=rfl
theorem aB.enum{xs:List V}(Pv:Nat->St->Hp->Prop)(h0:Pv 0 σ H)(hl:∀i σ H,i<=xs.length->Pv i σ H->SqL K H a xs)
  (hs:∀i x p σ H,xs[i]?=some x->Pv i σ H->H p=none->g (.ref p) σ (upd H p (.tup [.int i,x])) λσ2 H2=>tb { D with nx:=Pv (i+1),ct:=Pv (i+1),bk:=D.nx } σ2 H2) (hd:∀σ H,Pv xs.length σ H->D.nx σ H):aB (Ite K a) g tb D σ H:=by
 refine ⟨λi m σ H=>m=xs.length-i/\i<=xs.length/\Pv i σ H,⟨xs.length,by simp,MM _,h0⟩,?_⟩;rintro i m σ H ⟨rfl,hi,p⟩;have q:=hl i σ H hi p;by_cases ZO:i<xs.length
 .refine .inr ⟨⟨xs,xs[i],q,by simp [ZO]⟩,Pv (i+1),λσ' H' p'=>⟨xs.length-(i+1),by lia,rfl,ZO,p'⟩,λx H' y=>?_⟩;obtain ⟨T,z,hT,rfl,rfl,hz⟩:=y;exact hs i z T σ _ (hz xs q) p hT
 .have e:i=xs.length:=by lia
  subst e;exact .inl ⟨⟨xs,q,we _⟩,hd σ H p⟩
end
section
variable {X:Cx}
def rn(C:Addr)(ta tv:TE)(rd:V->V->Hp->VK->Prop)(f:Str):TS:=λD σ H=>ta σ H λx H1=>uR x λa=>∃dx fs v,H1 a=some (.ins C dx fs)/\fs.lookup f=some v /\
 tv σ H1 λy H2=>rd v y H2 λz H3=>∃dx' fs',H3 a=some (.ins C dx' fs')/\fs'.length<1000/\D.nx σ (upd H3 a (.ins C dx' (zP f z fs')))
theorem rT{ZN:Mw}{Xk:Pos}{tv:TE}{op:Operator}{rd:V->V->Hp->VK->Prop}(c:Cls X.K C)(n:bb X.K C f)(ha:W (PE X o ta))(hv:W (PE X ZN tv))(hop:mX X op rd):W (PS X (.AugAssign (.Attribute o f Xk) op ZN pos) (rn C ta tv rd f)):=by
 refine ⟨?_⟩;have ha:=ha.h;have hv:=hv.h;intro Go s σ H D I h;refine wpAny_AugAssign_AttributeAny (thn (ha Go s σ H _ I h) λov s1=>x5e λx H1 I1 rx Ys=>?_);obtain ⟨a,ex,dx,fs,v,ea,l,q⟩:=Ys;subst ex;obtain rfl:ov=LL a:=rx;refine xC I1 ea c n l λu s2 I2 ru=>thn (hv Go s2 σ H1 _ I2 q) λw3 s3=>x5e λy H2 I3 ry q3=>thn (hop Go s3 σ H2 v y u w3 _ I3 ru ry q3) λw4 s4=>x5e λz H3 I4 rz Xy=>?_;obtain ⟨dx',fs',ea',l',q4⟩:=Xy;exact wy I4 ea' c n l' rz λs5 I5=>⟨σ,_,I5,q4⟩
theorem BD{Q:VK}:mQ (.int i) (.int j) H Q=Q (.int (i+j)) H:=by simp [mQ]
theorem Hr{Q:VK}:pq (.int i) (.int j) H Q=Q (.int (i-j)) H:=by simp [pq]
def dH(neg:Bool):R2:=λx y H Q=>y = .non/\Q (.bl (if neg then !decide (x = .non) else decide (x = .non))) H
theorem nJ:OpR X (MA .Is) (dH false):=Io.weak λx y H Q h=>⟨h.1,by simpa using h.2⟩
theorem hZ:OpR X (MA .IsNot) (dH true):=AM.weak λx y H Q h=>⟨h.1,by simpa using h.2⟩
theorem ET{Q:VK}:dH c .non .non H Q=Q (.bl (if c then false else true)) H:=by simp [dH]
theorem Hv{Q:VK}:dH c (.int i) .non H Q=Q (.bl (if c then true else false)) H:=by simp [dH]
def gD:R2:=λx y H Q=>fc x y H Q\/iV x y H Q
theorem dP:OpR X (Nl .Mult) gD:=Kc.or Ke
theorem uc{Q:VK}:gD (.int i) (.int j) H Q=(hG i j/\Q (.int (i*j)) H):=by simp [gD,xA,iV]
theorem Kn{Q:VK}:gD (.ref a) (.int i) H Q=fc (.ref a) (.int i) H Q:=by simp [gD,iV]
theorem BE{Q:VK}:gD (.str z) (.int i) H Q=(1<i/\i<2 ^ 31/\z.length≠0/\z.length*i.toNat<=sizeLine/\Q (.str (iC z i.toNat)) H):=by
 simp [gD,fc,iV]
def uS(v:V)(q:Str->Prop):Prop:=∃z,v = .str z/\q z
theorem pI{q:Str->Prop}:uS (.str z) q=q z:=by simp [uS]
def vm(to te:TE):TE:=λσ H Q=>to σ H λx H1=>uS x λz=>te σ H1 λy H2=>iD (.str z) [y] H2 Q
theorem CL(ho:W (PE X o to))(he:W (PE X e te))(ZH:M9 o "join" X.env (MJ o X.env)=MJ o X.env:=by rfl)(ZG:(Z3.endLine==cpos.line)=true:=by rfl)(hp:av e=true:=by rfl):W (PE X (.Call (.Attribute o "join" Z3) [e] [] cpos) (vm to te)):=by
 refine ⟨?_⟩;have ho:=ho.h;have he:=he.h;intro Go s σ H Q I h;have hs:Ma [e] X.env=[(false,MJ e X.env)]:=du hp;refine Nx ZH (by rw [hs];rfl) ZG rfl (thn (ho Go s σ H _ I h) λv s1=>x5e λx H1 I1 r1 zz3=>?_);obtain ⟨z,ex,q1⟩:=zz3;subst ex;obtain ⟨h1,h2⟩:=iL (T:="str") I1 r1 rfl;refine ⟨"str","str.join",PySem.F.plainAttrs_str,PySem.F.slot_str_join,PySem.F.type_str_join,h1,h2,?_⟩;rw [hs];refine Calls.callWith_builtin rfl (Calls.evalArgs_plain ?_);have hA:=dE he dM (hs:=hs) cpos Go s1 σ H1 (λys H2=>bX (λy=>iD (.str z) [y] H2 Q) ys) I1 q1;rw [hs] at hA;refine thn hA λus s2=>x5e λvs H2 I2 r2 q2=>?_;obtain ⟨y,rfl,q2⟩:=bX.ex q2;exact Aa Go s2 σ H2 (.str z) [y] v us Q I2 r1 r2 q2
end
section
variable {K:LK}{g:TG}{tb:TS}{D:aL}{σ:St}{H:Hp}{ta:TA}{tl:TE}{wi:TI}{R:It->Hp->Prop}{j:Int}{tt:TT}{te:TE}{ix:List (Option Nat)}{Q:VK}
theorem zS.lst{xs:List V}(Pv:Nat->St->List V->Hp->Prop)(hz:∀i τ ys H,Pv i τ ys H->ys.length<sizeLine)(ha:∀i τ ys H,Pv i τ ys H->SqL K H a xs)(h0:Pv 0 τ [] H)
  (hs:∀(N:St->List V->Hp->Prop) i x τ ys H,xs[i]?=some x->Pv i τ ys H->(∀τ ys H,Pv (i+1) τ ys H->N τ ys H)->g x τ H λτ1 H4=>tt τ1 H4 λok H5=>dJ N ys τ1 te ok H5) (hd:∀τ ys H,Pv xs.length τ ys H->∀D H',New H D (.lst ys) H'->Q (.ref D) H'):zS (Itl K a) g tt te τ H Q:=by
 refine ⟨λi m τ ys H=>m=xs.length-i/\i<=xs.length/\Pv i τ ys H,⟨xs.length,by simp,MM _,h0⟩,?_⟩;rintro i m τ ys H2 ⟨rfl,hi,p⟩;refine ⟨hz i τ ys H2 p,?_⟩;have q:=ha i τ ys H2 p;by_cases ZO:i<xs.length
 .refine .inr ⟨⟨xs,xs[i],q,by simp [ZO]⟩,λx H' y=>?_⟩;obtain ⟨e,y⟩:=y;subst e;exact hs (λτ1 ys H=>∃m',m'<xs.length-i/\m'=xs.length-(i+1)/\i+1<=xs.length/\Pv (i+1) τ1 ys H) i x τ ys _ (y xs q) p λτ1 zs H q=>⟨xs.length-(i+1),by lia,rfl,ZO,q⟩
 .have e:i=xs.length:=by lia
  subst e;exact .inl ⟨⟨xs,q,we _⟩,λD hD _=>hd τ ys H2 p D _ (.mk' hD)⟩
def yq(t:TS):TS:=λD σ H=>∃Mid:St->Hp->Prop,t { D with nx:=Mid } σ H/\∀σ' H',Mid σ' H'->D.nx σ' H'
theorem oV{t:TS}(h:W (PS X st t)):W (PS X st (yq t)):=by
 refine ⟨?_⟩;have h:=h.h;exact λGo s σ H D I hw=>by
  obtain ⟨Mid,h1,h2⟩:=hw;refine thn (h Go s σ H _ I h1) λf s1 q=>?_;cases f with
  | next=>obtain ⟨σ',H',I',q⟩:=q;exact ⟨σ',H',I',h2 _ _ q⟩
  | ret v=>exact q
  | brk=>exact q
  | cont=>exact q
theorem nv{t:TS}:yq t D σ H = ∃Mid:St->Hp->Prop,t { D with nx:=Mid } σ H/\∀σ' H',Mid σ' H'->D.nx σ' H':=rfl
end
section
variable {X:Cx}
theorem aa  : W (PSs X [] p9):=⟨v8 ⟩
theorem zg{Y9:List Stmt}{t:TS}{u:TS}(h1:W (PS X st t))(h2:W (PSs X Y9 u)):W (PSs X (st::Y9) (lX t u)):=⟨vU (h1:=h1.h) (h2:=h2.h)⟩
theorem zh{t:TS}(h1:W (PS X st t)):W (PSs X [st] t):=⟨nK (h1:=h1.h)⟩
theorem zx(he:W (PE X e te)):W (PS X (.Return (some e) pos) (nA te)):=⟨nB (he:=he.h)⟩
theorem zR{t:TS}{u:TS}{c:Mw}{a b:List Stmt}{tc:TT}(hc:W (PT X c tc))(ha:W (PSs X a t))(hb:W (PSs X b u)):W (PS X (.If c a b pos) (pa tc t u)):=⟨sy (hc:=hc.h) (ha:=ha.h) (hb:=hb.h)⟩
theorem zc  : W (PA X [] bQ):=⟨dM ⟩
theorem zL{a:Mw}{b:Mw}{op:CmpOp}{r:R2}(ho:OpR X (MA op) r)(ha:W (PE X a ta))(hb:W (PE X b tb))(hm:O1 op b=false):W (PT X (.Compare a [op] [b] pos) (kW (tOp r ta tb))):=⟨ue (ho:=ho) (ha:=ha.h) (hb:=hb.h) (hm:=hm)⟩
theorem zd(i:Nat)(hN:X.N[i]?=some x:=by rfl)(hv:Vis X.env.scope x:=by first|exact LQ rfl|exact OM (LQ rfl)|exact OM (OM rfl))(hd:(x==("__debug__":Str))=false:=by decide)(hcd:(x==("__classdict__":Str))=false:=by decide):W (PE X (.Name x pos) (j9 i)):=⟨pv (i:=i) (hN:=hN) (hv:=hv) (hd:=hd) (hcd:=hcd)⟩
theorem cT(hg:Gl X x)(hm:∃u,X.mg x=some u/\zp v u)(hd:(x==("__debug__":Str))=false:=by decide):W (PE X (.Name x pos) (tC v)):=⟨wc (hg:=hg) (hm:=hm) (hd:=hd)⟩
theorem zj{i j pos}:W (PE X (.Constant (.int i) j pos) (tC (.int i))):=⟨pM ⟩
theorem zH{a:Mw}{b:Mw}{r:R2}(hr:IxR X r)(ha:W (PE X a ta))(hb:W (PE X b tb))(hs:vG b):W (PE X (.Subscript a b pos) (tOp r ta tb)):=⟨vV (hr:=hr) (ha:=ha.h) (hb:=hb.h) (hs:=hs)⟩
theorem zB{i:Nat}(hN:X.N.Nodup)(hi:X.N[i]?=some x)(hx:Loc X.env.scope x)(hf:X.fn x=true\/X.env.scope.names.lookup x=some .local:=by first|exact .inl rfl|exact .inr rfl|assumption):W (PG X (.Name x pos) (dX i)):=⟨wB (hN:=hN) (hi:=hi) (hx:=hx) (hf:=hf)⟩
theorem eK{k:Nat}{t:TGs}(h:W (PGs X es t))(hl:(Nv es X.env).length=n:=by rfl)(hst:(Nv es X.env).findIdx? (·.1)=none:=by rfl):W (PG X (.Tuple es k pos) (oX X.K n t)):=⟨r8 (h:=h.h) (hl:=hl) (hst:=hst)⟩
theorem di{t:TT}(h:W (PW X e t)):W (PT X e t):=⟨PW.pt h.h⟩
theorem Ih{t:TS}(h:W (PS X.nox st t)):W (PS X st t):=⟨PS.nox h.h⟩
end
def asc(z:Str):Bool:=z.cps.all (· < 128)
def Its(z:Str):It:=⟨λi _=>i<z.cps.size,λi H x H'=>H'=H/\∃c,z.cps[i]?=some c/\x = .str ⟨#[c]⟩,λi _=>z.cps.size<=i⟩
theorem Jm(z:Str)(it:Addr):dj true P w K tg (Its z) [it] it (λi h=>∃t,h.IsStrIter it "str_ascii_iterator" z t i) where
 mem:=by simp
 obj:=λi h st b hb=>by
  have e:b=it:=by simpa using hb
  subst e;obtain ⟨t,o,e,c,d⟩:=st;exact ⟨o,e,λv z=>by rw [d] at z;cases z⟩
 keep:=λi h h' st k=>by
  obtain ⟨t,o,e,r⟩:=st;exact ⟨t,o,k it (by simp) o e,r⟩
 item:=by
  intro X hP hw hK hc i Go s σ H E I hf st hg;subst hP hw hK;obtain ⟨t,st⟩:=st;obtain ⟨f0,f1,f2,f3,f4,f5⟩:=hf it (by simp);have hi:i<z.cps.size:=hg;refine wpAny_pyNext_ascii_item st (c:=z.cps[i]) (by simp [hi]) λh' YR sb=>?_;have I1:Inv X Go σ H { s with heap:=h',toks:=s.toks+1 }:=I.turned (λb o hb e=>(sb.2 b hb).trans e) f0 f1 f3 f4 f5;obtain ⟨o,e,c,d⟩:=id YR;exact ⟨_,rfl,gv (s:={ s with heap:=h',toks:=s.toks+1 }) e c d (by decide) ⟨.str ⟨#[z.cps[i]]⟩,H,I1,⟨_,rfl⟩,⟨rfl,_,by simp [hi],rfl⟩,⟨t,YR⟩,λb hb=>(hf b hb).1⟩⟩
 done:=by
  intro X hP hw hK hc i Go s σ H E I hf st hg;subst hP hw hK;obtain ⟨t,st⟩:=st;obtain ⟨f0,f1,f2,f3,f4,f5⟩:=hf it (by simp);have hi:z.cps.size<=i:=hg;exact wpAny_pyNext_ascii_end (I.ok.hd (hc rfl)) st (by simp [hi]) λh' eb=>⟨rfl,I.turned (t':=s.toks) (λb o hb e=>eb b o hb e) f0 f1 f3 f4 f5⟩
 self:=λ_ _ _ _ _ st h=>by
  obtain ⟨t,st⟩:=st;exact wpAny_pyIter_striter_ascii st h
section
variable {X:Cx}{tg:Mw}
def yx(tl:TE):TI:=λσ H R=>tl σ H λx H1=>uS x λz=>asc z=true/\R (Its z) H1
theorem Hs:yx tl σ H R=tl σ H λx H1=>uS x λz=>asc z=true/\R (Its z) H1:=rfl
theorem Ct(hl:W (PE X l tl)):W (PIc true X tg l (yx tl)):=by
 refine ⟨?_⟩;have hl:=hl.h;intro Go s σ H R I h;refine thn (hl Go s σ H _ I h) λv s1=>x5e λx H1 I1 r1 q1=>?_;obtain ⟨z,e,ha,q⟩:=q1;subst e;obtain ⟨t,rfl⟩:=r1;refine wpAny_pyIter_ascii ha ?_;refine ⟨s1.heap.objs.size,[s1.heap.objs.size],_,_,H1,rfl,I1.kept (t':=s1.toks) λb o e=>p8 _ e,Jm z _,⟨t,_,LW _ rfl,rfl,rfl⟩,λb hb=>?_,q⟩;have e:b=s1.heap.objs.size:=by simpa using hb
 subst e;exact I1.fpOk (we _) (I1.hok.fresh (we _))
end
theorem Draws.later{prog:LV}{fp:List Addr}{k:Nat}{P:Nat->Value->Prop}{St:Nat->Heap->Prop}(D:Draws prog w A it fp n P St) :
  Draws prog w A it fp (n+k) (λi v=>P (i-k) v) (λi h=>k<=i/\St (i-k) h) where
 live:=λ_ _ st=>D.live _ _ st.2
 frame:=λ_ _ _ st hk=>⟨st.1,D.frame _ _ _ st.2 hk⟩
 item:=λi s Q E hi st hQ=>D.item (i-k) s Q E (by have:=st.1;lia) st.2 λx h' tk p YR sb=>hQ x h' tk p ⟨by have:=st.1;lia,by
  have e:i+1-k=i-k+1:=by have:=st.1;lia
  rw [e];exact YR⟩ sb
 done:=λs Q E st hE=>D.done s Q E (by
  have e:n+k-k=n:=by lia
  have:=st.2;rwa [e] at this) hE
def iB(z:Str)(k:Nat):It :=
 ⟨λi _=>i<z.cps.size,λi H v H'=>∃T c,H T=none/\v = .ref T/\z.cps[i]?=some c/\H'=upd H T (.tup [.int ((i:Nat)+k:Nat),.str ⟨#[c]⟩]),λi _=>i=z.cps.size⟩
structure Bu(e it:Addr)(z:Str)(k i:Nat)(h:Heap):Prop where
 en:∃YN,IsEnum h e it ((i+k:Nat):Int) YN
 a:∃t,h.IsStrIter it "str_ascii_iterator" z t i
theorem BR{k:Nat}{e:Addr}(YU:e≠it) :
  dj true P w K (.Tuple YQ kk tp) (iB z k) [e,it] e (Bu e it z k) where
 mem:=by simp
 obj:=λi h st b hb=>by
  obtain ⟨⟨YN,a1⟩,⟨t,o4,a4,_,d4⟩⟩:=st;simp only [LI,LP,or_false] at hb;rcases hb with rfl|rfl
  .exact ⟨_,a1,λv q=>nomatch q⟩
  .exact ⟨_,a4,λv q=>by rw [d4] at q;cases q⟩
 keep:=λi h h' st k=>by
  obtain ⟨⟨YN,a1⟩,⟨t,o,a4,r⟩⟩:=st;exact ⟨⟨YN,k _ (by simp) _ a1⟩,t,o,k _ (by simp) o a4,r⟩
 item:=by
  intro X hP hw hK hc i Go s σ H E I hf st hg;subst hP hw hK;obtain ⟨⟨YN,a1⟩,⟨t,a4⟩⟩:=st;have hi:i<z.cps.size:=hg;have hid:=I.ok.hd (hc rfl);have D:=Draws.later (k:=k) (Draws.strAscii (prog:=X.prog) (w:=X.w) (A:=X.A.in1) hid it z t);refine wpAny_pyNext_enum_itemD D a1 (i:=i+k) ⟨by lia,by rw [Nat.add_sub_cancel];exact a4⟩ (by lia) YU (by simpa using YU) λx h' tk px b1 b2 b3 b4 b5=>?_;obtain ⟨c,u,hcc,rfl⟩:=px;rw [Nat.add_sub_cancel] at hcc;refine ⟨_,rfl,wpAny_letOwnedTupleGo_enum (s:={ s with heap:=h',toks:=tk+1 }) b1 λh2 c1 c2=>?_⟩;have Xb:e<s.heap.objs.size:=L7 a1;have nz:s.heap.objs.size≠e:=NQ Xb;have all:∀c o,c≠e->c≠it->s.heap.get? c=some o->h2.get? c=some o:=λc o n1 n2 q=>c2.extBut c o n1 (b5 c o n1 n2 q);have tT:h2.get? s.heap.objs.size=some { cls:=.type "tuple",data:=.seq #[.int ((i+k:Nat):Int) tk,.str ⟨#[c]⟩ u] }:=c2.extBut _ _ nz b3;have YM:H s.heap.objs.size=none:=I.hok.fresh (we _);have Xa:HOk X.prog X.w H h2:=λb u q0=>by
   refine (I.hok b u q0).stay (λc v hc q=>?_) (λ_ q=>q) λ_ _ q=>q;have hnn:∀d∈[e,it],c≠d:=λd hd w=>by
    have fd:=(hf d hd).1;rcases hc with k|k
    .rw [k] at w;rw [w,fd] at q0;cases q0
    .rw [w,fd] at k;cases k
   exact all c v (hnn e (by simp)) (hnn it (by simp)) q
  have lt0:∀b o,s.heap.get? b=some o->b≠s.heap.objs.size:=λb o e=>Mx (L7 e);have I2:Inv X Go σ (upd H s.heap.objs.size (.tup [.int ((i+k:Nat):Int),.str ⟨#[c]⟩])) { s with heap:=h2,toks:=tk+1 }:=by
   refine I.step (g':=s.gens) (d':=s.drawn) (t':=tk+1) (ch:=[e,it]) (λb hb=>?_) (λb o _ _ hb q _=>?_) (λb o _ _ hb q _=>?_) (λb o _ q n=>?_) (λb o hb q=>?_) (λb ps q=>?_) (λb o u q=>?_) (λb ps q=>?_) (λm hm=>?_) (Xa.add YM ?_) I.bare
   .obtain ⟨f0,f1,f2,f3,f4,f5⟩:=hf b hb;exact ⟨f3,f1,f4,f5⟩
   .simp only [LI,LP,or_false,not_or] at hb;exact all b o hb.1 hb.2 q
   .simp only [LI,LP,or_false,not_or] at hb;exact ⟨o.slots,all b o hb.1 hb.2 q⟩
   .rw [ze (lt0 b o q)];exact n
   .simp only [LI,LP,or_false,not_or] at hb;exact ⟨o,all b o hb.1 hb.2 q⟩
   .rw [ze (zC q YM)];exact q
   .rw [ze (zC q YM)];exact q
   .exact ⟨#[],by rw [ze (zC q YM),q];simp⟩
   .obtain ⟨o,es,ep,ho,r⟩:=hm;exact ⟨o,es,ep,all _ o (L8 (hf e (by simp)).2.1) (L8 (hf it (by simp)).2.1) ho,r⟩
   .exact ⟨by show 2<=sizeLine;decide,[.int ((i+k:Nat):Int) tk,.str ⟨#[c]⟩ u],.cons ⟨_,rfl⟩ (.cons ⟨_,rfl⟩ .nil),⟨_,tT,rfl,_,rfl⟩⟩
  refine ⟨.ref s.heap.objs.size,_,I2,rfl,⟨_,c,YM,rfl,hcc,rfl⟩,?_,λb hb=>?_⟩
  .obtain ⟨_,b2⟩:=b2;have e1:i+k+1-k=i+1:=by lia
   rw [e1] at b2;obtain ⟨o,b2,r⟩:=b2;have e3:((i+1+k:Nat):Int)=((i+k:Nat):Int)+1:=by lia
   refine ⟨?_,t,o,c2.extBut _ _ (L8 YU) b2,r⟩;rw [e3];exact ⟨_,c1⟩
  .have ne:b≠s.heap.objs.size:=λq=>by
    have:b<s.heap.objs.size:=by
     simp only [LI,LP,or_false] at hb;obtain ⟨o4,a4,_⟩:=a4;rcases hb with rfl|rfl
     .exact Xb
     .exact L7 a4
    exact absurd (q ▸ this) (Ml _)
   rw [ze ne];exact (hf b hb).1
 done:=by
  intro X hP hw hK hc i Go s σ H E I hf st hg;subst hP hw hK;obtain ⟨⟨YN,a1⟩,⟨t,a4⟩⟩:=st;have hi:i=z.cps.size:=hg;have hid:=I.ok.hd (hc rfl);have D:=Draws.strAscii (prog:=X.prog) (w:=X.w) (A:=X.A.in1) hid it z t;rw [hi] at a4;refine wpAny_pyNext_enum_endD D a1 a4 λh' up=>⟨rfl,?_⟩;refine I.step (g':=s.gens) (d':=s.drawn) (t':=s.toks) (ch:=[it]) (λb hb=>?_) (λb o _ _ hb q _=>?_) (λb o _ _ hb q _=>?_) (λ_ _ _ _ n=>n) (λb o hb q=>?_) (λ_ _ q=>q) (λ_ _ _ q=>q) (λb ps q=>⟨#[],by rw [q];simp⟩) (λm hm=>?_) (λb u q0=>?_) I.bare
  .have hb':b∈[e,it]:=by simp only [LI,LP,or_false] at hb ⊢;exact .inr hb
   obtain ⟨f0,f1,f2,f3,f4,f5⟩:=hf b hb';exact ⟨f3,f1,f4,f5⟩
  .simp only [LI,LP,or_false] at hb;exact up b o hb q
  .simp only [LI,LP,or_false] at hb;exact ⟨o.slots,up b o hb q⟩
  .simp only [LI,LP,or_false] at hb;exact ⟨o,up b o hb q⟩
  .obtain ⟨o,es,ep,ho,r⟩:=hm;exact ⟨o,es,ep,up _ o (L8 (hf it (by simp)).2.1) ho,r⟩
  .refine (I.hok b u q0).stay (λc v hc q=>?_) (λ_ q=>q) λ_ _ q=>q;have hnn:c≠it:=λw=>by
    have fd:=(hf it (by simp)).1;rcases hc with k|k
    .rw [k] at w;rw [w,fd] at q0;cases q0
    .rw [w,fd] at k;cases k
   exact up c v hnn q
 self:=λ_ _ _ _ _ st h=>by
  obtain ⟨YN,a1⟩:=st.en;exact OH a1 h
section
variable {prog:LV}{w:Mf}{A:Mn}{E:Value->LF->Prop}{s:LF}
theorem BO(a b:Value):checkTypeCall "enumerate" ⟨[a],[(vv "start",b)]⟩=pure ():=by kernel_rfl
theorem GU(a b:Value):OV "enumerate.__new__" ⟨[.type "enumerate",a],[(vv "start",b)]⟩=pure ():=by kernel_rfl
theorem Ju(o a b:Value):argsOk "object.__init__" ⟨[o,a],[(vv "start",b)]⟩:=by
 unfold argsOk;kernel_rfl
theorem HQ (x : Str) (t u : Tok) : Meets (L5.«enumerate.__new__» ⟨[.type "enumerate", .str x t], [(vv "start", .int 1 u)]⟩) (fun _ R s =>
      R (.ok (.ret (.ref (s.heap.push { cls := .type (Ob x), data := .fields #[.str x t, .int 0 0] }).objs.size)))
        { s with heap := (s.heap.push { cls := .type (Ob x), data := .fields #[.str x t, .int 0 0] }).push { cls := .type "enumerate", data := .fields #[.none, .bool false, .ref s.heap.objs.size, MP 1, .none, .none] } }) :=
 .of_wp λprog w A R s h=>by
  obtain ⟨hp,g,d,tk,os⟩:=s;have Xx:=sub_enumerate
  wp_walk
  refine wpAny_stack_any λst=>LJ ?_;split
  .rename_i c _ _ _ _ _;cases (c==type "enumerate")
   .wp_walk using PU
    exact ⟨_,rfl,h⟩
   .wp_walk using PU
    exact ⟨_,rfl,h⟩
  .wp_walk using PU
   exact ⟨_,rfl,h⟩
theorem Fl{Yo:String}{self a:Value}{kws:List (Str×Value)}(hl:typeLookup (.type T) "__init__"=pure (some (.builtin "object.__init__")))
  (hm:Bind.madeBy (.type T)=pure (some Yo)) (YU:(some Yo != some "object.__new__")=true):Meets (L5.«object.__init__» ⟨[self,a],kws⟩) (λ_ R s=>s.TypeIs self T/\R (.ok (.ret .none)) s):=by
 refine Meets.of_wp λprog w A R s=>x2e λhT hq=>?_
 repeat (any_goals (first|assumption|wp_step))
 exact ⟨_,rfl,hq⟩
theorem Kg{Yo:String}{Bn:L5}{a:Value}{kws:List (Str×Value)}{S:MX}(ft:TypeCalled T Yo "object.__init__")(YU:(some Yo != some "object.__new__")=true)
  (hct:checkTypeCall T ⟨[a],kws⟩=pure ()) (Xw:OV Yo ⟨[.type T,a],kws⟩=pure ()) (hok:∀obj,argsOk "object.__init__" ⟨[obj,a],kws⟩) (entryN:entryFor table Yo=some Bn) (g:Meets (Bn ⟨[.type T,a],kws⟩) S)
  (h:S A.in1 (wants (λobj s₁=>s₁.TypeIs obj T/\Q obj s₁) E) s):LS (LZ prog w) A (call (.type T) [a] kws) Q E s:=by
 obtain ⟨c,tl,hmro⟩:=ft.mro;have hmade:=ft.made;have Xx:=ft.sub;refine Qw (A:=A) (codeAny_of_tree (A:=A) ?_);show LS (LZ prog w) _ (callAny (.type T) _) _ _ _;refine LJ ⟨Code.quiet_builtin _ (f!""),Pj (A:=A) F.entry_type_call ?_⟩;rw [Mn.under_plain (weight_type_call_type T [a] kws) (units_type_call_type T [a] kws)];have k1:=ft.notType;have k2:=ft.canCreate
 repeat (any_goals (first|assumption|wp_step))
 refine On (Pb ft.plain entryN (wpAny_of_eq Xw (g prog w A.in1 _ s h))) λr s1 hr=>?_;cases r with
 | error e=>exact hr
 | ok fl =>
  cases fl with
  | ret obj =>
   have hli:=ft.init.lookup;have hbi:=ft.init.bind obj;have hT:=hr.1
   repeat (any_goals (first|assumption|wp_step))
   refine On (Pb ft.init.plain F.entry_object_init (ft.init.check _ _ _ _ _ _ _ _ hr.1 (hok obj) (Fl ft.init.lookup ft.made YU prog w A.in1 (wants (λr s2=>r = .none/\Q obj s2) E) s1 ⟨hr.1,rfl,hr.2⟩))) λr2 s2 hr2=>?_;cases r2 with
   | error e=>exact hr2
   | ok fl2 =>
    cases fl2 with
    | ret r =>
     obtain ⟨rfl,hq⟩:=hr2
     repeat (any_goals (first|assumption|wp_step))
    | _=>exact hr2.elim
  | _=>exact hr.elim
theorem EI{t u:Tok}
  (h:∀h',IsEnum h' (s.heap.objs.size+1) s.heap.objs.size 1 .none->h'.IsStrIter s.heap.objs.size (Ob x) x t 0->h'.objs.size=s.heap.objs.size+2->(∀b o,s.heap.get? b=some o->h'.get? b=some o)->Q (.ref (s.heap.objs.size+1)) { s with heap:=h' }) :
  LS (LZ prog w) A (call (.type "enumerate") [.str x t] [(vv "start",.int 1 u)]) Q E s:=by
 refine Kg F.called_enumerate (by decide) (BO _ _) (GU _ _) (λobj=>Ju obj _ _) F.entry_enumerate_new (HQ x t u) ?_;have hz:(s.heap.push { cls:=.type (Ob x),data:=.fields #[.str x t,.int 0 0] }).objs.size=s.heap.objs.size+1:=NG ..;show _/\_;rw [hz];have he:IsEnum ((s.heap.push { cls:=.type (Ob x),data:=.fields #[.str x t,.int 0 0] }).push { cls:=.type "enumerate",data:=.fields #[.none,.bool false,.ref s.heap.objs.size,MP 1,.none,.none] }) (s.heap.objs.size+1) s.heap.objs.size 1 .none:=by
  have q:=LW (s.heap.push { cls:=.type (Ob x),data:=.fields #[.str x t,.int 0 0] }) (o:={ cls:=.type "enumerate",data:=.fields #[.none,.bool false,.ref s.heap.objs.size,MP 1,.none,.none] }) rfl;rw [hz] at q;exact q
 exact ⟨⟨_,he,rfl⟩,h _ he ⟨_,p8 _ (LW _ rfl),rfl,rfl⟩ (by rw [NG,hz]) λb o y=>p8 _ (p8 _ y)⟩
theorem FN{M:Model}{args:List (Bool×Sem Value)}{Zy:List (Option Str×Sem Value)}(XQ:args.any (·.1)=false)(hkw:Zy.any (·.1.isNone)=false)
  (h:LS M A (evalArgs (.type T) true args Zy) (λa s1=>LS M A (call (.type T) a.pos a.kw) Q E s1) E s):LS M A (Of pos (.type T) [] args Zy) Q E s:=by
 unfold Of;refine fv (Mt (Mv h (λa s1 h1=>fv (Ny ?_)) λ_ _ x=>x));simp only [XQ,hkw,O2];exact fv (LJ (fv (Mv h1 (λr s2 hr=>fv (Mt (wpAny_point (LJ hr)))) λ_ _ x=>x)))
end
section
variable {X:Cx}
def xm(k:Nat)(ta:TE):TI:=λσ H R=>ta σ H λx H1=>uS x λz=>asc z=true/\R (iB z k) H1
theorem C4{k:Nat}:xm k ta σ H R=ta σ H λx H1=>uS x λz=>asc z=true/\R (iB z k) H1:=rfl
theorem Hq(h:asc z=true):Ob z="str_ascii_iterator":=by
 unfold Ob;rw [show z.cps.all (· < 128)=true from h];rfl
theorem Ei{j:Nat}{p kp cp:Pos}{a:Mw}(hg:Gl X "enumerate")(hm:X.mg "enumerate"=none)(ha:W (PE X a ta))(hp:av a=true:=by rfl):W (PIc true X (.Tuple YQ kk tp) (.Call (.Name "enumerate" p) [a] [⟨some (vv "start"),.Constant (.int 1) j cp,kp⟩] pos) (xm 1 ta)):=by
 refine ⟨?_⟩;have ha:=ha.h;intro Go s σ H R I h;have hs:Ma [a] X.env=[(false,MJ a X.env)]:=du hp;have hA:=dE ha dM (hs:=hs) pos Go s σ H (λys H2=>bX (λy=>uS y λz=>asc z=true/\R (iB z 1) H2) ys) I h;refine MT (dO I hg hm boot_enumerate (FN (by rw [hs];rfl) rfl ?_));rw [hs] at hA ⊢;refine evalArgs_kwB rfl (thn hA λus s1=>x5e λvs H1 I1 r1 q1=>kws_cons (thn (pM Go s1 σ H1 (λv H=>v = .int 1/\H=H1) I1 ⟨rfl,rfl⟩) λw2 s2=>x5e λy2 H2 I2 r2 Ys=>kws_nil ?_));obtain ⟨ey2,eH2⟩:=Ys;subst ey2 eH2;obtain ⟨t2,rfl⟩:=r2;obtain ⟨y,rfl,z,ey,hz,q⟩:=bX.ex q1;subst ey;cases r1 with
 | cons r rr =>
  cases rr;obtain ⟨t,rfl⟩:=r;refine EI (s:=s2) λh' a1 a4 a6 a7=>OH (s:={ s2 with heap:=h' }) a1 ?_;rw [Hq hz] at a4;refine ⟨_,_,_,_,H2,rfl,I2.kept (t':=s2.toks) a7,BR (Nat.succ_ne_self _),⟨⟨_,a1⟩,t,a4⟩,λb hb=>?_,q⟩;have le:s2.heap.objs.size<=b:=by
   simp only [LI,LP,or_false] at hb;rcases hb with rfl|rfl
   .exact PV _
   .exact we _
  exact I2.fpOk le (I2.hok.fresh le)
end
section
variable {K:LK}{g:TG}{tb:TS}{D:aL}{σ:St}{H:Hp}{tt:TT}{te:TE}{Q:VK}
theorem aB.enumS{k:Nat}(Pv:Nat->St->Hp->Prop)(h0:Pv 0 σ H)
  (hs:∀i c p σ H,z.cps[i]?=some c->Pv i σ H->H p=none->g (.ref p) σ (upd H p (.tup [.int ((i+k:Nat):Int),.str ⟨#[c]⟩])) λσ2 H2=>tb { D with nx:=Pv (i+1),ct:=Pv (i+1),bk:=D.nx } σ2 H2) (hd:∀σ H,Pv z.cps.size σ H->D.nx σ H):aB (iB z k) g tb D σ H:=by
 refine ⟨λi m σ H=>m=z.cps.size-i/\i<=z.cps.size/\Pv i σ H,⟨z.cps.size,by simp,MM _,h0⟩,?_⟩;rintro i m σ H ⟨rfl,hi,p⟩;by_cases ZO:i<z.cps.size
 .refine .inr ⟨ZO,Pv (i+1),λσ' H' p'=>⟨z.cps.size-(i+1),by lia,rfl,ZO,p'⟩,λx H' y=>?_⟩;obtain ⟨T,c,hT,rfl,hc,rfl⟩:=y;exact hs i c T σ _ hc p hT
 .have e:i=z.cps.size:=by lia
  subst e;exact .inl ⟨rfl,hd σ H p⟩
theorem zS.str(Pv:Nat->St->List V->Hp->Prop)(hz:∀i τ ys H,Pv i τ ys H->ys.length<sizeLine)(h0:Pv 0 τ [] H)
  (hs:∀(N:St->List V->Hp->Prop) i c τ ys H,z.cps[i]?=some c->Pv i τ ys H->(∀τ ys H,Pv (i+1) τ ys H->N τ ys H)->g (.str ⟨#[c]⟩) τ H λτ1 H4=>tt τ1 H4 λok H5=>dJ N ys τ1 te ok H5) (hd:∀τ ys H,Pv z.cps.size τ ys H->∀D H',New H D (.lst ys) H'->Q (.ref D) H'):zS (Its z) g tt te τ H Q:=by
 refine ⟨λi m τ ys H=>m=z.cps.size-i/\i<=z.cps.size/\Pv i τ ys H,⟨z.cps.size,by simp,MM _,h0⟩,?_⟩;rintro i m τ ys H2 ⟨rfl,hi,p⟩;refine ⟨hz i τ ys H2 p,?_⟩;by_cases ZO:i<z.cps.size
 .refine .inr ⟨ZO,λx H' y=>?_⟩;obtain ⟨e,c,hc,rfl⟩:=y;subst e;exact hs (λτ1 ys H=>∃m',m'<z.cps.size-i/\m'=z.cps.size-(i+1)/\i+1<=z.cps.size/\Pv (i+1) τ1 ys H) i c τ ys _ hc p λτ1 zs H q=>⟨z.cps.size-(i+1),by lia,rfl,ZO,q⟩
 .have e:i=z.cps.size:=by lia
  subst e;exact .inl ⟨we _,λD hD _=>hd τ ys H2 p D _ (.mk' hD)⟩
end
section
variable {X:Cx}
def uU:List V->Hp->VK->Prop:=λxs H Q=>uR1 xs λp=>∃bs:List Bool,H p=some (.lst (bs.map V.bl))/\Q (.bl (bs.all id)) H
theorem B2{bs:List Bool}:∀{us:List Value},zq (bs.map V.bl) us->us=bs.map Og:=by
 induction bs with
 | nil=>intro us r;rw [map_nil] at r;cases r;rfl
 | cons b bs ih =>
  intro us r;rw [MD] at r;cases r with
  | cons r1 r2=>rw [show _=Og b from r1,ih r2];rfl
theorem xl(hc:X.calm=true):zN X (.builtin "all") uU:=by
 intro Go s σ H xs us Q I r h;obtain ⟨p,rfl,bs,hp,q⟩:=h;cases r with
 | cons r1 rr =>
  cases rr;cases (show _=LL p from r1);obtain ⟨its,rv,pl,_⟩:=I.list (SqL.of (K:=X.K) hp);have e:=B2 rv;subst e;have YU:p≠s.heap.objs.size:=by obtain ⟨o,e,_⟩:=pl.isList;exact Mx (L7 e)
  refine call_all_walk (NJ pl.isList ?_);have hl:∀k:Nat,k=bs.length->(Pk k).all (λi=>bs.getD i true)=bs.all id:=by
   intro k e;subst e;rw [N6,Mz,Mz];constructor
   .intro h x hx;obtain ⟨i,hi,rfl⟩:=MI hx;have:=h i (Qn.mpr hi);rw [LG,il hi] at this;exact this
   .intro h i hi;have hi:=Qn.mp hi;rw [LG,il hi];exact h _ (MC hi)
  refine ⟨s.heap.objs.size,_,_,_,_,_,λi=>bs.getD i true,rfl,Walks.list (prog:=X.prog) (w:=X.w) (A:=X.A.in1) (show X.A.in1.handled=none from I.ok.hd hc) s.heap.objs.size p YU (bs.map Og).toArray,⟨⟨_,LW _ rfl,rfl,rfl⟩,pl.isList.push _⟩,?_,λh' tk kp=>?_⟩
  .intro i v s2 Q2 E2 hv hQ;have hv:(bs.map Og)[i]?=some v:=by simpa using hv
   rw [L6] at hv;cases e:bs[i]? with
   | none=>rw [e] at hv;cases hv
   | some b =>
    rw [e] at hv;cases hv;have e2:bs.getD i true=b:=by rw [LG,e];rfl
    have hQ:Q2 (bs.getD i true) s2:=hQ;rw [e2] at hQ;exact LJ hQ
  .refine ⟨.bl _,H,I.kept (t':=tk) λb o e=>kp b o ?_ (p8 _ e),rfl,?_⟩
   .simpa using Mx (L7 e)
   .rw [hl _ (by simp)];exact q
theorem uG{p:Addr}{Q:VK}:uU [.ref p] H Q = ∃bs:List Bool,H p=some (.lst (bs.map V.bl))/\Q (.bl (bs.all id)) H:=fR
def uIn:R2:=λx y H Q=>(∃i j,x = .str i/\y = .str j/\Q (.bl (!(L5.Str.occurrences j i 0 j.length 1).isEmpty)) H)\/∃p xs,y = .ref p/\(H p=some (.lst xs)\/H p=some (.tup xs))/\zY x=true/\xs.all zY=true/\Q (.bl (inV x xs)) H
theorem oO(hu:X.A.units<cLine):OpR X (MA .In) uIn:=(AY.or Lq).weak λx y H Q h=>by
 rcases h with h|⟨p,xs,e,h,f1,f2,q⟩
 .exact .inl h
 .exact .inr ⟨p,xs,e,h.elim (λh=>.inl (SqL.of h)) (λh=>.inr (SqT.of h)),f1,f2,by simpa using q⟩
theorem GT{y:Str}{Q:VK}:uIn (.str x) (.str y) H Q=Q (.bl (!(L5.Str.occurrences y x 0 y.length 1).isEmpty)) H:=by simp [uIn]
theorem HI{x:V}{p:Addr}{Q:VK}:uIn x (.ref p) H Q = ∃xs,(H p=some (.lst xs)\/H p=some (.tup xs))/\zY x=true/\xs.all zY=true/\Q (.bl (inV x xs)) H:=by simp [uIn]
def uM1(to te:TE)(r:Str->V->Hp->VK->Prop):TE:=λσ H Q=>to σ H λx H1=>uS x λz=>te σ H1 λy H2=>r z y H2 Q
theorem AO{r:Str->V->Hp->VK->Prop}{Q:VK}:uM1 to te r σ H Q=to σ H λx H1=>uS x λz=>te σ H1 λy H2=>r z y H2 Q:=rfl
theorem yb{id:String}{r:Str->V->Hp->VK->Prop}(hs1:Slot "str" m id)(Yv:typeOf (.builtin id)=pure (.type "method_descriptor"))
  (hr:∀(Go:List (Addr×Obj))(s:LF)(σ:St)(H:Hp)(z:Str)(y:V)(t:Tok)(v:Value)(Q:VK),Inv X Go σ H s->zp y v->r z y H Q->LS (LZ X.prog X.w) X.A (call (.builtin id) [.str z t,v]) (λu s1=>∃x H',Inv X Go σ H' s1/\zp x u/\Q x H') X.xe s)
  (ho:PE X o to) (he:PE X e te) (ZH:M9 o m X.env (MJ o X.env)=MJ o X.env:=by rfl) (ZG:(Z3.endLine==cpos.line)=true:=by rfl) (hp:av e=true:=by rfl) :
  PE X (.Call (.Attribute o m Z3) [e] [] cpos) (uM1 to te r):=by
 intro Go s σ H Q I h;have hs:Ma [e] X.env=[(false,MJ e X.env)]:=du hp;refine Nx ZH (by rw [hs];rfl) ZG rfl (thn (ho Go s σ H _ I h) λv s1=>x5e λx H1 I1 r1 Ys=>?_);obtain ⟨z,ex,q1⟩:=Ys;subst ex;obtain ⟨h1,h2⟩:=iL (T:="str") I1 r1 rfl;refine ⟨"str",id,PySem.F.plainAttrs_str,hs1,Yv,h1,h2,?_⟩;rw [hs];refine Calls.callWith_builtin rfl (Calls.evalArgs_plain ?_);have hA:=dE he dM (hs:=hs) cpos Go s1 σ H1 (λys H2=>bX (λy=>r z y H2 Q) ys) I1 q1;rw [hs] at hA;refine thn hA λus s2=>x5e λvs H2 I2 r2 q2=>?_;obtain ⟨t,rfl⟩:=r1;obtain ⟨y,rfl,q2⟩:=bX.ex q2;obtain ⟨_,rfl,ry⟩:=zq.one r2;exact hr Go s2 σ H2 z y t _ Q I2 ry q2
def se:Str->V->Hp->VK->Prop:=λz y H Q=>uS y λq=>Q (.int (Ox z q)) H
theorem J2(ho:W (PE X o to))(he:W (PE X e te))(ZH:M9 o "rfind" X.env (MJ o X.env)=MJ o X.env:=by rfl)(ZG:(Z3.endLine==cpos.line)=true:=by rfl)(hp:av e=true:=by rfl):W (PE X (.Call (.Attribute o "rfind" Z3) [e] [] cpos) (uM1 to te se)):=by
 refine ⟨?_⟩;have ho:=ho.h;have he:=he.h;exact
  yb PySem.F.slot_str_rfind PySem.F.type_str_rfind (λGo s σ H z y t v Q I ry q=>by
   obtain ⟨w,rfl,q⟩:=q;obtain ⟨u,rfl⟩:=ry;exact Oe PySem.F.slot_str_rfind (OT _ _ _) PySem.F.entry_str_rfind (PySem.F.args_str_rfind_2 _ _) (gives_str_rfind z w t u).meets ⟨.int _,H,I.tok _,⟨_,rfl⟩,q⟩) ho he ZH ZG hp
theorem y9{q:Str}{Q:VK}:se z (.str q) H Q=Q (.int (Ox z q)) H:=pI
theorem tJ:∀(k:Nat)(ys:List Str),zq (ys.map V.str) (strsFrom k ys)
 | _,[]=>.nil
 | k,y::ys=>.cons ⟨k,rfl⟩ (tJ (k+1) ys)
def qQ:Str->V->Hp->VK->Prop:=λz y H Q=>uS y λq=>(q.length==0)=false/\z.length<sizeLine/\(MN z q).length<=sizeLine/\∀p H2,New H p (.lst ((MN z q).map V.str)) H2->Q (.ref p) H2
theorem DZ(ho:W (PE X o to))(he:W (PE X e te))(ZH:M9 o "split" X.env (MJ o X.env)=MJ o X.env:=by rfl)(ZG:(Z3.endLine==cpos.line)=true:=by rfl)(hp:av e=true:=by rfl):W (PE X (.Call (.Attribute o "split" Z3) [e] [] cpos) (uM1 to te qQ)):=by
 refine ⟨?_⟩;have ho:=ho.h;have he:=he.h;exact
  yb Px PySem.F.type_str_split (λGo s σ H z y t v Q I ry q=>by
   obtain ⟨w,rfl,hw,hz,hn,q⟩:=q;obtain ⟨u,rfl⟩:=ry;have lay:∀(ys:List Str)(us:List Value)(k:Nat),ys=MN z w->zq (ys.map V.str) us->∃x H',Inv X Go σ H' { s with heap:=s.heap.push { cls:=.type "list",data:=.seq us.toArray },toks:=k }/\zp x (.ref s.heap.objs.size)/\Q x H':=λys us k e rv=>by
    subst e;have hl:=rv.length;rw [KE] at hl;exact ⟨.ref s.heap.objs.size,_,I.laid (t':=k) (o:=.lst _) (λb ob q=>p8 _ q) (we _) ⟨by rw [KE];exact hn,us,0,rv,LW _ rfl⟩,rfl,q _ _ (.mk' (I.hok.fresh (we _)))⟩
   cases h1:(decide (z.length<w.length)||decide (L5.Str.strKind z<L5.Str.strKind w))
   .cases hf:(L5.Str.occurrences z w 0 z.length (z.length+1)).isEmpty
    .have es:MN z w=L5.Str.partsBetween z (L5.Str.occurrences z w 0 z.length (z.length+1)) w.length:=(if_neg (ne_true_of_eq_false h1)).trans (if_neg (ne_true_of_eq_false hf));rw [es] at hn;exact Oe Px (OT _ _ _) entry_str_split (args_str_split_2 _ _) (meets_str_split_sep z w t u h1 hw hf (Pa hz) hn) (lay _ _ _ es.symm (tJ _ _))
    .exact Oe Px (OT _ _ _) entry_str_split (args_str_split_2 _ _) (meets_str_split_not_found z w t u h1 hw hf) (lay [z] [.str z t] s.toks ((if_neg (ne_true_of_eq_false h1)).trans (if_pos hf)).symm (.cons ⟨t,rfl⟩ .nil))
   .exact Oe Px (OT _ _ _) entry_str_split (args_str_split_2 _ _) (meets_str_split_cannot_occur z w t u h1) (lay [z] [.str z t] s.toks (if_pos h1).symm (.cons ⟨t,rfl⟩ .nil))) ho he ZH ZG hp
theorem CC{q:Str}{Q:VK}:qQ z (.str q) H Q=((q.length==0)=false/\z.length<sizeLine/\(MN z q).length<=sizeLine/\∀p H2,New H p (.lst ((MN z q).map V.str)) H2->Q (.ref p) H2):=pI
def xU(te:TE):TE:=λσ H Q=>te σ H λx H1=>(∃z,x = .str z/\z.length<=sizeLine/\Q (.str z) H1)\/∃i,x = .int i/\i.natAbs.log2<1920/\Q (.str (toString i)) H1
def iw:V->Hp->VK->Prop:=λx H1 Q=>(∃z,x = .str z/\z.length<=sizeLine/\Q (.str z) H1)\/∃i,x = .int i/\i.natAbs.log2<1920/\Q (.str (toString i)) H1
theorem KN{Q:VK}:xU te σ H Q=te σ H λx H1=>iw x H1 Q:=rfl
theorem Ck{Q:VK}:iw (.str z) H Q=(z.length<=sizeLine/\Q (.str z) H):=by simp [iw]
theorem DT{Q:VK}:iw (.int i) H Q=(i.natAbs.log2<1920/\Q (.str (toString i)) H):=by simp [iw]
theorem vZ(he:W (PE X e te)):W (PE X (.FormattedValue e (-1) none pos) (xU te)):=by
 refine ⟨?_⟩;have he:=he.h;intro Go s σ H Q I h;refine FormattedValue_plain (thn (he Go s σ H _ I h) λv s1=>x5e λx H1 I1 r1 q1=>?_);rcases q1 with ⟨z,rfl,hz,q⟩|⟨i,rfl,hi,q⟩
 .obtain ⟨t,rfl⟩:=r1;exact formatField_str (λt' tk=>⟨.str z,H1,I1.tok _,⟨_,rfl⟩,q⟩) hz
 .obtain ⟨t,rfl⟩:=r1;exact formatField_int_small hi ⟨.str _,H1,I1.tok _,⟨_,rfl⟩,q⟩
abbrev TJ:=Str->TE
def PJ(X:Cx)(es:List Mw)(tj:TJ):Prop:=∀(out:Str)(Go:List (Addr×Obj))(s:LF)(σ:St)(H:Hp)(Q:VK),Inv X Go σ H s->tj out σ H Q ->
 LS (LZ X.prog X.w) X.A (joinParts out (evalEach es X.env)) (λu s1=>∃x H',Inv X Go σ H' s1/\zp x u/\Q x H') X.xe s
def wa:TJ:=λout _ H Q=>out.length<=sizeLine/\Q (.str out) H
def tB(te:TE)(tj:TJ):TJ:=λout σ H Q=>te σ H λx H1=>uS x λy=>(out++y).length<=sizeLine/\tj (out++y) σ H1 Q
theorem ED:W (PJ X [] wa):=⟨λout Go s σ H Q I h=>joinParts_nil ⟨.str out,H,I.tok _,⟨_,rfl⟩,h.2⟩ h.1⟩
theorem nM{tj:TJ}(he:W (PE X e te))(hj:W (PJ X es tj)):W (PJ X (e::es) (tB te tj)):=by
 refine ⟨?_⟩;have he:=he.h;have hj:=hj.h;exact λout Go s σ H Q I h=>by
  refine joinParts_cons (thn (he Go s σ H _ I h) λv s1=>x5e λx H1 I1 r1 q1=>?_);obtain ⟨y,rfl,hy,q⟩:=q1;obtain ⟨t,rfl⟩:=r1;exact ⟨hy,hj _ Go s1 σ H1 Q I1 q⟩
def yM(tj:TJ):TE:=tj Pr
theorem J0{tj:TJ}:yM tj=tj Pr:=rfl
theorem Gm{e':Mw}{tj:TJ}(h:W (PJ X (e::e'::es) tj)):W (PE X (.JoinedStr (e::e'::es) pos) (yM tj)):=by refine ⟨?_⟩;have h:=h.h;exact λGo s σ H Q I q=>JoinedStr_many (h Pr Go s σ H Q I q)
def fN:List V->Hp->VK->Prop:=λxs H Q=>dU xs H Q\/∃z n,xs=[.str z]/\z.length<=640/\OL z=some n/\Q (.int n) H
theorem yH:zN X (.type "int") fN:=by
 intro Go s σ H xs us Q I r h;rcases h with h|⟨z,n,rfl,hl,hn,q⟩
 .exact AZ Go s σ H xs us Q I r h
 .cases r with
  | cons r1 rr =>
   cases rr;obtain ⟨t,rfl⟩:=r1;exact PySem.W.KIN.call_text hn hl ⟨.int n,H,I.tok _,⟨_,rfl⟩,q⟩
theorem Jw{Q:VK}:fN [.int i] H Q=Q (.int i) H:=by simp [fN,dU]
theorem o8{k:Bool}{Q:VK}:fN [.bl k] H Q=Q (.int (if k then 1 else 0)) H:=by simp [fN,dU]
theorem An{Q:VK}:fN [.str z] H Q = ∃n,z.length<=640/\OL z=some n/\Q (.int n) H:=by simp [fN,dU]
def gB:List V->Hp->VK->Prop:=λxs H Q=>gA xs H Q\/∃z,xs=[.str z]/\Q (.str z) H
theorem IE:zN X (.type "str") gB:=by
 intro Go s σ H xs us Q I r h;rcases h with h|⟨z,rfl,q⟩
 .exact AU Go s σ H xs us Q I r h
 .cases r with
  | cons r1 rr =>
   cases rr;obtain ⟨t,rfl⟩:=r1;exact PySem.P.str_of_str ⟨.str z,H,I,⟨_,rfl⟩,q⟩
theorem x3{Q:VK}:gB [.int i] H Q=(i.natAbs.log2<1920/\Q (.str (toString i)) H):=by simp [gB,gA]
theorem uY{Q:VK}:gB [.str z] H Q=Q (.str z) H:=by simp [gB,gA]
def xb:List V->Hp->VK->Prop:=λxs H Q=>uR1 xs λp=>∃ys,H p=some (.lst ys)/\∀l H2,New H l (.tup ys) H2->Q (.ref l) H2
theorem Fn:zN X (.type "tuple") xb:=A6.weak λxs H Q h=>by
 obtain ⟨p,e,ys,h1,q⟩:=h;exact ⟨p,ys,e,.inl ⟨SqL.of h1,λl hl=>q l _ (.mk' hl)⟩⟩
theorem B1{p:Addr}{Q:VK}:xb [.ref p] H Q = ∃ys,H p=some (.lst ys)/\∀l H2,New H l (.tup ys) H2->Q (.ref l) H2:=fR
def l6:List V->Hp->VK->Prop:=λxs H Q=>∃x,xs=[.str x]/\x.length=1/\Q (.int (x.cps.getD 0 0:Nat)) H
theorem JJ:zN X (.builtin "ord") l6:=Di
theorem Fh{Q:VK}:l6 [.str x] H Q=(x.length=1/\Q (.int (x.cps.getD 0 0:Nat)) H):=by simp [l6]
inductive ia(w:Mf):List Qu->List (Str×Addr)->Prop
 | nil:ia w [] []
 | cons {k:Str}{t:Tok}{r:Addr}{es:List Qu}{kvs:List (Str×Addr)}:ia w es kvs->ia w ({ hash:=Oh w.params k,key:=.str k t,val:=.ref r }::es) ((k,r)::kvs)
structure j6(w:Mf)(K:LK)(a:Addr)(kvs:List (Str×Addr)):Prop where
 ex:∃es n,K.lookup a=some { cls:=.type "dict",dict:=none,data:=.dict es n,slots:=#[] }/\ia w es.toList kvs
 nd:(kvs.map (·.1)).Nodup
 ns:(a==sysModules)=false
def dZ(kvs:List (Str×Addr))(z:Str):V:=match kvs.find? (λp=>p.1=z) with|some p=>.ref p.2|none=>.non
theorem su{P:LV}{w:Mf}:∀{es:List Qu}{kvs:List (Str×Addr)},ia w es kvs->PySem.Pairs (ak P w) es (kvs.map λp=>(Sum.inr p.1,LL p.2))/\∀e∈es,∃k,(ak P w).is k e.key=true/\e.hash=(ak P w).hash k
 | _,_,.nil=>⟨.nil,λe he=>by cases he⟩
 | _,_,.cons (k:=k) (t:=t) h=>by
  obtain ⟨h1,h2⟩:=su (P:=P) h;refine ⟨.cons (j8 P w k t) rfl h1,λe he=>?_⟩;rcases LI.mp he with rfl|he
  .exact ⟨Sum.inr k,j8 P w k t,rfl⟩
  .exact h2 e he
theorem j6.dictOf{kvs:List (Str×Addr)}(D:j6 w K a kvs)(hk:∀o,K.lookup a=some o->h.get? a=some o):h.DictOf (ak P w) a (kvs.map λp=>(Sum.inr p.1,LL p.2)):=by
 obtain ⟨es,n,h1,h2⟩:=D.ex;obtain ⟨p1,p2⟩:=su (P:=P) h2;refine ⟨_,es,n,hk _ h1,⟨rfl,rfl,rfl⟩,rfl,λe he=>p2 e (by simpa using he),p1,?_⟩;rw [MB];have e:((λp:Key×Value=>p.1)∘λp:Str×Addr=>((Sum.inr p.1:Key),LL p.2))=(λz:Str=>(Sum.inr z:Key))∘(λp:Str×Addr=>p.1):=rfl;rw [e,<- MB];exact List.Pairwise.map _ (λx y q z=>q (Sum.inr.inj z)) D.nd
def wJ(kvs:List (Str×Addr))(te:TE):TE:=λσ H Q=>te σ H λy H1=>uS y λz=>Q (dZ kvs z) H1
theorem yS{kvs:List (Str×Addr)}{Q:VK}:wJ kvs te σ H Q=te σ H λy H1=>uS y λz=>Q (dZ kvs z) H1:=rfl
theorem HW{kvs:List (Str×Addr)}:zp (dZ kvs z) ((PySem.valueAt (kvs.map λp=>((Sum.inr p.1:Key),LL p.2)) (Sum.inr z)).getD .none):=by
 unfold dZ PySem.valueAt;rw [List.find?_map];have e:((λkv:Key×Value=>decide (kv.1=Sum.inr z))∘λp:Str×Addr=>((Sum.inr p.1:Key),LL p.2))=λp:Str×Addr=>decide (p.1=z):=by
  funext p;simp
 rw [e];cases kvs.find? (λp=>decide (p.1=z)) with
 | none=>rfl
 | some p=>rfl
theorem IU{kvs:List (Str×Addr)}{np:Pos}(hg:Gl X x)(hm:X.mg x=some (.ref a))(D:j6 X.w X.K a kvs)(he:W (PE X e te))
  (ZH:M9 (.Name x np) "get" X.env (MJ (.Name x np) X.env)=MJ (.Name x np) X.env:=by rfl) (ZG:(Z3.endLine==cpos.line)=true:=by rfl) (hp:av e=true:=by rfl) (hd:(x==("__debug__":Str))=false:=by decide):W (PE X (.Call (.Attribute (.Name x np) "get" Z3) [e] [] cpos) (wJ kvs te)):=by
 refine ⟨?_⟩;have he:=he.h;intro Go s σ H Q I h;have hs:Ma [e] X.env=[(false,MJ e X.env)]:=du hp;refine Nx ZH (by rw [hs];rfl) ZG rfl (thn (wc (v:=.ref a) hg ⟨_,hm,rfl⟩ hd Go s σ H (λv H1=>v = .ref a/\H1=H) I ⟨rfl,rfl⟩) λv s1=>x5e λx1 H1 I1 r1 Ys=>?_);obtain ⟨ex,eH⟩:=Ys;subst ex eH;cases r1;have dd:=D.dictOf (P:=X.prog) (h:=s1.heap) λo ho=>I1.kIn a o ho;refine ⟨"dict","dict.get",Qq,OZ,PySem.F.type_dict_get,dd.typeIs,λb q=>?_,?_⟩
 .cases q;obtain ⟨ob,_,_,h1,h2,_⟩:=dd;exact ⟨ob,h1,h2.2.1⟩
 rw [hs];refine Calls.callWith_builtin rfl (Calls.evalArgs_plain ?_);have hA:=dE he dM (hs:=hs) cpos Go s1 σ H1 (λys H2=>bX (λy=>uS y λz=>Q (dZ kvs z) H2) ys) I1 h;rw [hs] at hA;refine thn hA λus s2=>x5e λvs H2 I2 r2 q2=>?_;obtain ⟨y,rfl,q2⟩:=bX.ex q2;obtain ⟨_,rfl,ry⟩:=zq.one r2;obtain ⟨z,ey,q⟩:=q2;subst ey;obtain ⟨t,rfl⟩:=ry;have Xj:=D.dictOf (P:=X.prog) (h:=s2.heap) λo ho=>I2.kIn a o ho;refine QF OZ Xj.typeIs entry_dict_get (PySem.F.args_dict_get_2 _ _) (meets_dict_get (ak X.prog X.w) a (j8 X.prog X.w z t) D.ns) ⟨_,Xj.mapOf,?_⟩;exact ⟨dZ kvs z,H2,I2.tok _,HW,q⟩
end
section
variable {X:Cx}{tg:Mw}
end
section
variable {g:TG}{tb:TS}{D:aL}{σ:St}{H:Hp}
end
section
variable {prog:LV}{w:Mf}{A:Mn}{E:Value->LF->Prop}{s:LF}
theorem v5{l:Addr}{xs:Array Value}(x:h.IsTuple l xs)(k:∀o,h.get? l=some o->h'.get? l=some o):h'.IsTuple l xs:=by
 obtain ⟨o,e,r⟩:=x;exact ⟨o,k o e,r⟩
theorem G5{t:Addr}{i:Nat}{x:Value}(Yd:s.heap.IsTupleIter it t i)(ht:s.heap.IsTuple t items)(hx:items[i]?=some x)
  (k:∀h',h'.IsTupleIter it t (i+1)->Po it s.heap h'->Q x { s with heap:=h' }):LS (LZ prog w) A (L5.SmallTypes.nextOf (.ref it)) Q E s:=by
 obtain ⟨o,ho,hc,hd⟩:=id Yd;obtain ⟨ol,hol,_,nl,hdl⟩:=ht;unfold L5.SmallTypes.nextOf;refine fv (ME (name:=vv "__next__") Yd.typeIs F.slot_tuple_iterator_next (MO F.slot_tuple_iterator_next Yd.typeIs F.entry_tuple_iterator_next ?_ (F.args_tuple_iterator_next_1 _)));refine fv (m:=PD (.ref it) 0) (Me ho hd (x:=.ref t) rfl ?_);rw [if_neg (show ¬ ((LL t==Mm)=true) by simp)];refine fv (m:=PD (.ref it) 1) (Me ho hd (x:=.int i 0) rfl (fv (m:=Qj (.ref t)) (M7 hol hdl ?_)));simp only [Np,hx];refine fv (m:=setField _ _ _) (M6 ho hd (by simp) (LJ ⟨x,rfl,LJ (k _ ?_ (Po.update ..))⟩));refine ⟨_,M3 _ ho (M5 (NS hd _)),(ON ..).trans hc,?_⟩;rw [NS hd];simp [MP]
theorem Iv{t:Addr}{i:Nat}(hh:Hnd A s.heap)(Yd:s.heap.IsTupleIter it t i)(ht:s.heap.IsTuple t items)(hx:items[i]?=none)
  (k:∀h' e,ExtBut it s.heap h'->(∃o,h'.get? e=some o/\o.cls = .type "StopIteration")->E (.ref e) { s with heap:=h' }):LS (LZ prog w) A (L5.SmallTypes.nextOf (.ref it)) Q E s:=by
 obtain ⟨o,ho,hc,hd⟩:=id Yd;obtain ⟨ol,hol,_,nl,hdl⟩:=ht;unfold L5.SmallTypes.nextOf;refine fv (ME (name:=vv "__next__") Yd.typeIs F.slot_tuple_iterator_next (MO F.slot_tuple_iterator_next Yd.typeIs F.entry_tuple_iterator_next ?_ (F.args_tuple_iterator_next_1 _)));refine fv (m:=PD (.ref it) 0) (Me ho hd (x:=.ref t) rfl ?_);rw [if_neg (show ¬ ((LL t==Mm)=true) by simp)];refine fv (m:=PD (.ref it) 1) (Me ho hd (x:=.int i 0) rfl (fv (m:=Qj (.ref t)) (M7 hol hdl ?_)));simp only [Np,hx];refine fv (NN (fv (M6 ho hd (by simp) ?_)));refine jz (hh.keeps λb q hq e=>(Mo _ _ λz=>?_).trans e) λh' e up st=>k h' e (λb q hb z=>up b q ((Mo _ _ (L8 hb)).trans z)) st;obtain ⟨C,hC⟩:=hq;rw [<- z,ho] at e;cases e;rw [hc] at hC;cases hC
theorem Fq{z TI TO:Addr}{k1 k2:Nat}{xs ys:Array Value}{x y a b:Value}{Q:Option Value->LF->Prop}(D:ZipApart z TI TO i1 i2 l1 l2)(hz:IsZip s.heap z TI TO .none)(hTI:Os s.heap TI (.ref i1) (.ref i2))(hTO:Os s.heap TO a b)
  (h1:s.heap.IsTupleIter i1 l1 k1) (h2:s.heap.IsListIter i2 l2 k2) (hl1:s.heap.IsTuple l1 xs) (XW:s.heap.IsList l2 ys) (hx:xs[k1]?=some x) (hy:ys[k2]?=some y)
  (k:∀h',IsZip h' z TI TO (MP s.heap.objs.size)->Os h' TO x y->h'.IsTupleIter i1 l1 (k1+1)->h'.IsListIter i2 l2 (k2+1)->Os h' s.heap.objs.size x y->h'.objs.size=s.heap.objs.size+1 ->
   (∀c o,c≠z->c≠TO->c≠i1->c≠i2->s.heap.get? c=some o->h'.get? c=some o)->Q (some (.ref s.heap.objs.size)) { s with heap:=h' }):LS (LZ prog w) A (Oy (.ref z)) Q E s:=by
 have hT:s.TypeIs (.ref z) "zip":=⟨_,hz,rfl⟩;have X2:∀(Q':Value->LF->Prop)(E':Value->LF->Prop),(∀h',IsZip h' z TI TO (MP s.heap.objs.size)->Os h' TO x y->h'.IsTupleIter i1 l1 (k1+1)->h'.IsListIter i2 l2 (k2+1)->Os h' s.heap.objs.size x y->h'.objs.size=s.heap.objs.size+1 ->
   (∀c o,c≠z->c≠TO->c≠i1->c≠i2->s.heap.get? c=some o->h'.get? c=some o)->Q' (.ref s.heap.objs.size) { s with heap:=h' }) ->
   LS (LZ prog w) A.in1 (L5.«zip.__next__» ⟨[.ref z],[]⟩) (λYG s'=>∃v,YG = .done (.ret v)/\Q' v s') E' s:=by
  intro Q' E' kk;refine fv (m:=PD (.ref z) 2) (Me hz rfl (x:=.bool false) rfl (fv (m:=PD (.ref z) 3) (Me hz rfl (x:=.ref TI) rfl (fv (M7 hTI rfl (fv (m:=L5.SmallTypes.ownedTupleIsFree (.ref z)) ?_))))));unfold L5.SmallTypes.ownedTupleIsFree;refine fv (Me hz rfl (x:=.none) rfl (LJ ?_));simp only [if_true];refine fv (NN (fv (Me hz rfl (x:=.ref TO) rfl (fv (NZ hz (by simp) λg1 z1 s1=>?_)))))
  replace z1:IsZip g1 z TI TO .ellipsis:=z1
  refine fv ?_;simp only [List.zipIdx_cons,List.zipIdx_nil,QD,List.forIn_nil];refine fv (fv (wpAny_onRaise (fv (m:=L5.SmallTypes.nextOf (.ref i1)) ?_)));refine G5 (s:={ s with heap:=g1 }) (h1.at λo e=>s1.extBut _ o D.i1z e) (v5 hl1 λo e=>s1.extBut _ o D.l1z e) hx λg2 a2 s2=>LJ ?_;have t2:Os g2 TO a b:=s2.extBut _ _ D.TOi1 (s1.extBut _ _ D.TOz hTO);refine fv (M7 t2 rfl (fv (wpAny_updateSeq_pair t2 λg3 t3 s3=>?_)))
  replace t3:Os g3 TO x b:=t3
  refine fv (O6 (LJ (fv (fv (wpAny_onRaise (fv (m:=L5.SmallTypes.nextOf (.ref i2)) ?_))))));refine wpAny_nextOf_list_item (((h2.extBut s1.extBut D.i2z).extBut s2.extBut D.i12.symm).extBut s3.extBut D.TOi2.symm) (((XW.extBut s1.extBut D.l2z).extBut s2.extBut D.l2i1).extBut s3.extBut D.l2TO) hy λg4 b4 s4=>LJ ?_;have t4:Os g4 TO x b:=s4.extBut _ _ D.TOi2 t3;refine fv (M7 t4 rfl (fv (wpAny_updateSeq_pair t4 λg5 t5 s5=>?_)))
  replace t5:Os g5 TO x y:=t5
  refine fv (O6 (LJ (LJ (fv (M7 t5 rfl (fv (wpAny_newTuple ?_)))))));have sz:g5.objs.size=s.heap.objs.size:=by rw [s5.1,s4.1,s3.1,s2.1,s1.1]
  have z5:IsZip g5 z TI TO .ellipsis:=s5.extBut _ _ D.TOz.symm (s4.extBut _ _ D.i2z.symm (s3.extBut _ _ D.TOz.symm (s2.extBut _ _ D.i1z.symm z1)));have YN:∀c o,c≠z->c≠TO->c≠i1->c≠i2->s.heap.get? c=some o->g5.get? c=some o:=λc o c1 c2 c3 c4 e=>s5.extBut _ _ c2 (s4.extBut _ _ c4 (s3.extBut _ _ c2 (s2.extBut _ _ c3 (s1.extBut _ _ c1 e))));have a5:g5.IsTupleIter i1 l1 (k1+1):=a2.at λo e=>s5.extBut _ _ D.TOi1.symm (s4.extBut _ _ D.i12 (s3.extBut _ _ D.TOi1.symm e));have b5:g5.IsListIter i2 l2 (k2+1):=b4.extBut s5.extBut D.TOi2.symm;have Xb:z<g5.objs.size:=L7 z5;refine fv (m:=L5.SmallTypes.ownedTupleHandOut (.ref z) (.ref g5.objs.size)) ?_;unfold L5.SmallTypes.ownedTupleHandOut;have z6:IsZip (g5.push { cls:=.type "tuple",data:=.seq #[x,y] }) z TI TO .ellipsis:=p8 _ z5;refine fv (NZ z6 (by simp) λg7 z7 s7=>?_)
  replace z7:IsZip g7 z TI TO (MP g5.objs.size):=z7
  refine NZ z7 (by simp) λg8 z8 s8=>?_
  replace z8:IsZip g8 z TI TO (MP g5.objs.size):=z8
  have up:∀c o,c≠z->g5.get? c=some o->g8.get? c=some o:=λc o c1 e=>s8.extBut _ _ c1 (s7.extBut _ _ c1 (p8 _ e));have t8:Os g8 g5.objs.size x y:=s8.extBut _ _ (NQ Xb) (s7.extBut _ _ (NQ Xb) (LW _ rfl));have sz8:g8.objs.size=g5.objs.size+1:=by rw [s8.1,s7.1,NG]
  rw [sz] at z8 t8 sz8;refine LJ ⟨_,rfl,?_⟩;show Q' (.ref g5.objs.size) _;rw [sz];exact kk g8 z8 (up _ _ D.TOz t5) (a5.at λo e=>up _ o D.i1z e) (b5.at λo e=>up _ o D.i2z e) t8 sz8 λc o c1 c2 c3 c4 e=>up c o c1 (YN c o c1 c2 c3 c4 e)
 unfold Oy;exact fv (Ot (ME (name:=vv "__next__") hT F.slot_zip_next (MO F.slot_zip_next hT F.entry_zip_next (X2 _ _ λh' q1 q2 q3 q4 q5 q6 q7=>LJ (k h' q1 q2 q3 q4 q5 q6 q7)) (F.args_zip_next_1 _))))
theorem HA{z TI TO:Addr}{k1:Nat}{xs:Array Value}{a b:Value}{Q:Option Value->LF->Prop}(hh:Hnd A s.heap)(D:ZipApart z TI TO i1 i2 l1 l2)(hz:IsZip s.heap z TI TO .none)(hTI:Os s.heap TI (.ref i1) (.ref i2))(hTO:Os s.heap TO a b)
  (h1:s.heap.IsTupleIter i1 l1 k1) (hl1:s.heap.IsTuple l1 xs) (hx:xs[k1]?=none)
  (k:∀h',(∀c o,c≠z->c≠i1->s.heap.get? c=some o->h'.get? c=some o)->Q none { s with heap:=h' }):LS (LZ prog w) A (Oy (.ref z)) Q E s:=by
 have hT:s.TypeIs (.ref z) "zip":=⟨_,hz,rfl⟩;have X2:∀(Q':Fin->LF->Prop)(E':Value->LF->Prop),(∀h' e,(∀c o,c≠z->c≠i1->s.heap.get? c=some o->h'.get? c=some o)->(∃o,h'.get? e=some o/\o.cls = .type "StopIteration")->E' (.ref e) { s with heap:=h' }) ->
   LS (LZ prog w) A.in1 (L5.«zip.__next__» ⟨[.ref z],[]⟩) Q' E' s:=by
  intro Q' E' kE;refine fv (m:=PD (.ref z) 2) (Me hz rfl (x:=.bool false) rfl (fv (m:=PD (.ref z) 3) (Me hz rfl (x:=.ref TI) rfl (fv (M7 hTI rfl (fv (m:=L5.SmallTypes.ownedTupleIsFree (.ref z)) ?_))))));unfold L5.SmallTypes.ownedTupleIsFree;refine fv (Me hz rfl (x:=.none) rfl (LJ ?_));simp only [if_true];refine fv (NN (fv (Me hz rfl (x:=.ref TO) rfl (fv (NZ hz (by simp) λg1 z1 s1=>?_)))));refine fv ?_;simp only [List.zipIdx_cons,List.zipIdx_nil,QD,List.forIn_nil];refine fv (fv (wpAny_onRaise (fv (m:=L5.SmallTypes.nextOf (.ref i1)) ?_)));have hh1:Hnd A.in1 g1:=Hnd.keeps (h:=s.heap) hh λc o ⟨C,hC⟩ e=>s1.extBut c o (λq=>by rw [q,hz] at e;cases e;cases hC) e;refine Iv (s:={ s with heap:=g1 }) hh1 (h1.at λo e=>s1.extBut _ o D.i1z e) (v5 hl1 λo e=>s1.extBut _ o D.l1z e) hx λg2 e s2 st=>?_;obtain ⟨oe,ge,ce⟩:=st;have z2:IsZip g2 z TI TO .ellipsis:=s2 _ _ D.i1z.symm z1;have ez:e≠z:=λq=>by rw [q,z2] at ge;cases ge;simp at ce
  exact NZ z2 (by simp) λg3 _ s3=>kE g3 e (λc o c1 c2 q=>s3.extBut _ _ c1 (s2 _ _ c2 (s1.extBut _ _ c1 q))) ⟨oe,s3.extBut _ _ ez ge,ce⟩
 unfold Oy;refine fv (Ot (ME (name:=vv "__next__") hT F.slot_zip_next (MO F.slot_zip_next hT F.entry_zip_next (X2 _ _ λh' e up st=>?_) (F.args_zip_next_1 _))));obtain ⟨o,g,c⟩:=st;exact fv (OS (T:="StopIteration") (b:=true) ⟨o,g,c⟩ PC (LJ (k h' up)))
end
abbrev zT1(h:Heap)(l1:Addr):Heap:=h.push { cls:=.type "tuple_iterator",data:=.fields #[.ref l1,.int 0 0] }
abbrev zT2(h:Heap)(l1 l2:Addr):Heap:=(zT1 h l1).push { cls:=.type "list_iterator",data:=.fields #[.ref l2,.int 0 0] }
abbrev zT3(h:Heap)(l1 l2:Addr):Heap:=(zT2 h l1 l2).push { cls:=.type "tuple",data:=.seq #[.ref h.objs.size,.ref (zT1 h l1).objs.size] }
abbrev zT4(h:Heap)(l1 l2:Addr):Heap:=(zT3 h l1 l2).push { cls:=.type "tuple",data:=.seq #[.none,.none] }
abbrev zT5(h:Heap)(l1 l2:Addr):Heap:=(zT4 h l1 l2).push { cls:=.type "zip",data:=.fields #[.none,.bool false,.bool false,.ref (zT2 h l1 l2).objs.size,.ref (zT3 h l1 l2).objs.size] }
theorem Bm(l1 l2:Addr)(xs ys:Array Value):Meets (L5.«zip.__new__» ⟨[.type "zip",.ref l1,.ref l2],[]⟩) (λ_ R s=>s.heap.IsTuple l1 xs/\s.heap.IsList l2 ys/\R (.ok (.ret (.ref (zT4 s.heap l1 l2).objs.size))) { s with heap:=zT5 s.heap l1 l2 }) :=
 .of_wp λprog w A R s h=>by
  obtain ⟨hp,g,d,tk,os⟩:=s;obtain ⟨hl1,XW,h⟩:=h;have Xx:=sub_zip;have hL1:Heap.IsTuple (LF.heap ⟨hp,g,d,tk,os⟩) l1 xs:=hl1;have hL2:Heap.IsList (LF.heap ⟨hp.push { cls:=.type "tuple_iterator",data:=.fields #[.ref l1,.int 0 0] },g,d,tk,os⟩) l2 ys:=Heap.IsList.push XW _
  wp_walk using Pt hL1,NJ hL2
  exact ⟨_,rfl,h⟩
section
variable {prog:LV}{w:Mf}{A:Mn}{E:Value->LF->Prop}{s:LF}
theorem IG{xs ys:Array Value}(hl1:s.heap.IsTuple l1 xs)(XW:s.heap.IsList l2 ys)
  (h:∀h',IsZip h' (s.heap.objs.size+4) (s.heap.objs.size+2) (s.heap.objs.size+3) .none->Os h' (s.heap.objs.size+2) (.ref s.heap.objs.size) (.ref (s.heap.objs.size+1)) ->
   Os h' (s.heap.objs.size+3) .none .none->h'.IsTupleIter s.heap.objs.size l1 0->h'.IsListIter (s.heap.objs.size+1) l2 0->h'.objs.size=s.heap.objs.size+5 ->
   (∀c o,s.heap.get? c=some o->h'.get? c=some o)->Q (.ref (s.heap.objs.size+4)) { s with heap:=h' }):LS (LZ prog w) A (call (.type "zip") [.ref l1,.ref l2]) Q E s:=by
 refine callType_new F.called_zip (by decide) (F.typeCall_zip_2 _ _) (F.newCall_zip_2 _ _) (λobj=>F.args_object_init_3 obj _ _) F.entry_zip_new (Bm l1 l2 xs ys) ⟨hl1,XW,?_⟩;have z1:(zT1 s.heap l1).objs.size=s.heap.objs.size+1:=NG ..;have z2:(zT2 s.heap l1 l2).objs.size=s.heap.objs.size+2:=by rw [NG,z1]
 have z3:(zT3 s.heap l1 l2).objs.size=s.heap.objs.size+3:=by rw [NG,z2]
 have z4:(zT4 s.heap l1 l2).objs.size=s.heap.objs.size+4:=by rw [NG,z3]
 have z5:(zT5 s.heap l1 l2).objs.size=s.heap.objs.size+5:=by rw [NG,z4]
 have g5:(zT5 s.heap l1 l2).get? (zT4 s.heap l1 l2).objs.size=some _:=LW _ rfl;have g4:(zT5 s.heap l1 l2).get? (zT3 s.heap l1 l2).objs.size=some _:=p8 _ (LW _ rfl);have g3:(zT5 s.heap l1 l2).get? (zT2 s.heap l1 l2).objs.size=some _:=p8 _ (p8 _ (LW _ rfl));have g2:(zT5 s.heap l1 l2).get? (zT1 s.heap l1).objs.size=some _:=p8 _ (p8 _ (p8 _ (LW _ rfl)));have g1:(zT5 s.heap l1 l2).get? s.heap.objs.size=some _:=p8 _ (p8 _ (p8 _ (p8 _ (LW _ rfl))));show _/\_;rw [z2,z3,z4] at g5;rw [z1,z2] at g3;rw [z3] at g4;rw [z1] at g2;rw [z4];refine ⟨⟨_,g5,rfl⟩,h _ g5 g3 g4 ⟨_,g1,rfl,rfl⟩ ⟨_,g2,rfl,rfl⟩ z5 λc o x=>?_⟩;exact p8 _ (p8 _ (p8 _ (p8 _ (p8 _ x))))
end
def jE(K:LK)(a b:Addr):It :=
 ⟨λi H=>∃xs ys x y,SqT K H a xs/\SqL K H b ys/\xs[i]?=some x/\ys[i]?=some y,λi H v H'=>∃T x y,H T=none/\v = .ref T/\H'=upd H T (.tup [x,y])/\(∀xs,SqT K H a xs->xs[i]?=some x)/\∀ys,SqL K H b ys->ys[i]?=some y,
  λi H=>∃xs ys,SqT K H a xs/\SqL K H b ys/\xs.length<=i⟩
structure jW(z TI TO i1 i2 l1 l2:Addr)(i:Nat)(h:Heap):Prop where
 z:IsZip h z TI TO .none
 ti:Os h TI (.ref i1) (.ref i2)
 to:∃a b,Os h TO a b
 a:h.IsTupleIter i1 l1 i
 b:h.IsListIter i2 l2 i
theorem jW.keep{z TI TO:Addr}{i:Nat}(x:jW z TI TO i1 i2 l1 l2 i h)(k:∀b∈[z,TI,TO,i1,i2],∀o,h.get? b=some o->h'.get? b=some o):jW z TI TO i1 i2 l1 l2 i h':=by
 obtain ⟨a1,a2,⟨u,v,a3⟩,a4,a5⟩:=x;exact ⟨k _ (by simp) _ a1,k _ (by simp) _ a2,⟨u,v,k _ (by simp) _ a3⟩,a4.at λo e=>k _ (by simp) o e,a5.at λo e=>k _ (by simp) o e⟩
theorem Al{z TI TO:Addr}(D:ZipApart z TI TO i1 i2 l1 l2) :
  dj false P w K (.Tuple YQ kk tp) (jE K l1 l2) [z,TI,TO,i1,i2] z (jW z TI TO i1 i2 l1 l2) where
 mem:=by simp
 obj:=λi h st b hb=>by
  obtain ⟨a1,a2,⟨u,v,a3⟩,⟨o4,a4,_,d4⟩,⟨o5,a5,_,d5⟩⟩:=st;simp only [LI,LP,or_false] at hb;rcases hb with rfl|rfl|rfl|rfl|rfl
  .exact ⟨_,a1,λv q=>nomatch q⟩
  .exact ⟨_,a2,λv q=>nomatch q⟩
  .exact ⟨_,a3,λv q=>nomatch q⟩
  .exact ⟨_,a4,λv q=>by rw [d4] at q;cases q⟩
  .exact ⟨_,a5,λv q=>by rw [d5] at q;cases q⟩
 keep:=λi h h' st k=>st.keep k
 item:=by
  intro X hP hw hK hc i Go s σ H E I hf st hg;subst hP hw hK;obtain ⟨xs,ys,x,y,hq1,hq2,hx,hy⟩:=hg;obtain ⟨is1,Xc,p1,hz1⟩:=I.tuple hq1;obtain ⟨is2,rv2,p2,hz2⟩:=I.list hq2;obtain ⟨u1,hu1,ru1⟩:=Xc.get hx;obtain ⟨u2,hu2,ru2⟩:=rv2.get hy;obtain ⟨a1,a2,⟨u,v,a3⟩,a4,a5⟩:=st;refine Fq D a1 a2 a3 a4 a5 p1 p2.isList (x:=u1) (y:=u2) (by simpa using hu1) (by simpa using hu2) λh' b1 b2 b3 b4 b5 b6 b7=>?_;refine ⟨_,rfl,wpAny_letOwnedTupleGo_zip (s:={ s with heap:=h' }) b1 λh2 c1 c2=>?_⟩;have Xb:z<s.heap.objs.size:=L7 a1;have nz:s.heap.objs.size≠z:=NQ Xb;have all:∀c o,c≠z->c≠TO->c≠i1->c≠i2->s.heap.get? c=some o->h2.get? c=some o:=λc o n1 n2 n3 n4 e=>c2.extBut c o n1 (b7 c o n1 n2 n3 n4 e);have tT:h2.get? s.heap.objs.size=some { cls:=.type "tuple",data:=.seq #[u1,u2] }:=c2.extBut _ _ nz b5;have YM:H s.heap.objs.size=none:=I.hok.fresh (we _);have Xa:HOk X.prog X.w H h2:=λb u e=>by
   refine (I.hok b u e).stay (λc v hc q=>?_) (λ_ q=>q) λ_ _ q=>q;have YU:∀d∈[z,TI,TO,i1,i2],c≠d:=λd hd w=>by
    have fd:=(hf d hd).1;rcases hc with k|k
    .rw [k] at w;rw [w,fd] at e;cases e
    .rw [w,fd] at k;cases k
   exact all c v (YU z (by simp)) (YU TO (by simp)) (YU i1 (by simp)) (YU i2 (by simp)) q
  have lt0:∀b o,s.heap.get? b=some o->b≠s.heap.objs.size:=λb o e=>Mx (L7 e);have I2:Inv X Go σ (upd H s.heap.objs.size (.tup [x,y])) { s with heap:=h2 }:=by
   refine I.step (g':=s.gens) (d':=s.drawn) (t':=s.toks) (ch:=[z,TO,i1,i2]) (λb hb=>?_) (λb o _ _ hb e _=>?_) (λb o _ _ hb e _=>?_) (λb o _ e n=>?_) (λb o hb e=>?_) (λb ps e=>?_) (λb o u e=>?_) (λb ps e=>?_) (λm hm=>?_) (Xa.add YM ?_) I.bare
   .have hb':b∈[z,TI,TO,i1,i2]:=by simp only [LI,LP,or_false] at hb ⊢;rcases hb with h|h|h|h<;>simp [h]
    obtain ⟨f0,f1,f2,f3,f4,f5⟩:=hf b hb';exact ⟨f3,f1,f4,f5⟩
   .simp only [LI,LP,or_false,not_or] at hb;exact all b o hb.1 hb.2.1 hb.2.2.1 hb.2.2.2 e
   .simp only [LI,LP,or_false,not_or] at hb;exact ⟨o.slots,all b o hb.1 hb.2.1 hb.2.2.1 hb.2.2.2 e⟩
   .rw [ze (lt0 b o e)];exact n
   .simp only [LI,LP,or_false,not_or] at hb;exact ⟨o,all b o hb.1 hb.2.1 hb.2.2.1 hb.2.2.2 e⟩
   .rw [ze (zC e YM)];exact e
   .rw [ze (zC e YM)];exact e
   .exact ⟨#[],by rw [ze (zC e YM),e];simp⟩
   .obtain ⟨o,es,ep,ho,r⟩:=hm;exact ⟨o,es,ep,all _ o (L8 (hf z (by simp)).2.1) (L8 (hf TO (by simp)).2.1) (L8 (hf i1 (by simp)).2.1) (L8 (hf i2 (by simp)).2.1) ho,r⟩
   .exact ⟨by show 2<=sizeLine;decide,[u1,u2],.cons ru1 (.cons ru2 .nil),⟨_,tT,rfl,_,rfl⟩⟩
  refine ⟨.ref s.heap.objs.size,_,I2,rfl,⟨_,x,y,YM,rfl,rfl,λzs hz=>by rw [I.tuple_inj hz hq1];exact hx,λzs hz=>by rw [I.list_inj hz hq2];exact hy⟩,?_,λb hb=>?_⟩
  .exact ⟨c1,c2.extBut _ _ D.TIz (b7 _ _ D.TIz D.TITO D.TIi1 D.TIi2 a2),⟨u1,u2,c2.extBut _ _ D.TOz b2⟩,b3.at λo e=>c2.extBut _ o D.i1z e,b4.extBut c2.extBut D.i2z⟩
  .have ne:b≠s.heap.objs.size:=λq=>by
    have:b<s.heap.objs.size:=by
     simp only [LI,LP,or_false] at hb;obtain ⟨o4,a4,_⟩:=a4;obtain ⟨o5,a5,_⟩:=a5;rcases hb with rfl|rfl|rfl|rfl|rfl
     .exact Xb
     .exact L7 a2
     .exact L7 a3
     .exact L7 a4
     .exact L7 a5
    exact absurd (q ▸ this) (Ml _)
   rw [ze ne];exact (hf b hb).1
 done:=by
  intro X hP hw hK hc i Go s σ H E I hf st hg;subst hP hw hK;obtain ⟨xs,ys,hq1,hq2,hx⟩:=hg;obtain ⟨is1,Xc,p1,hz1⟩:=I.tuple hq1;have hl:=Xc.length;obtain ⟨a1,a2,⟨u,v,a3⟩,a4,a5⟩:=st;refine HA I.hnd D a1 a2 a3 a4 p1 (by simp;lia) λh' up=>⟨rfl,?_⟩;refine I.step (g':=s.gens) (d':=s.drawn) (t':=s.toks) (ch:=[z,i1]) (λb hb=>?_) (λb o _ _ hb e _=>?_) (λb o _ _ hb e _=>?_) (λ_ _ _ _ n=>n) (λb o hb e=>?_) (λ_ _ e=>e) (λ_ _ _ e=>e) (λb ps e=>⟨#[],by rw [e];simp⟩) (λm hm=>?_) (λb u e=>?_) I.bare
  .have hb':b∈[z,TI,TO,i1,i2]:=by simp only [LI,LP,or_false] at hb ⊢;rcases hb with h|h<;>simp [h]
   obtain ⟨f0,f1,f2,f3,f4,f5⟩:=hf b hb';exact ⟨f3,f1,f4,f5⟩
  .simp only [LI,LP,or_false,not_or] at hb;exact up b o hb.1 hb.2 e
  .simp only [LI,LP,or_false,not_or] at hb;exact ⟨o.slots,up b o hb.1 hb.2 e⟩
  .simp only [LI,LP,or_false,not_or] at hb;exact ⟨o,up b o hb.1 hb.2 e⟩
  .obtain ⟨o,es,ep,ho,r⟩:=hm;exact ⟨o,es,ep,up _ o (L8 (hf z (by simp)).2.1) (L8 (hf i1 (by simp)).2.1) ho,r⟩
  .refine (I.hok b u e).stay (λc v hc q=>?_) (λ_ q=>q) λ_ _ q=>q;have YU:∀d∈[z,TI,TO,i1,i2],c≠d:=λd hd w=>by
    have fd:=(hf d hd).1;rcases hc with k|k
    .rw [k] at w;rw [w,fd] at e;cases e
    .rw [w,fd] at k;cases k
   exact up c v (YU z (by simp)) (YU i1 (by simp)) q
 self:=λ_ _ _ _ _ st h=>wpAny_pyIter_zip st.z h
section
variable {X:Cx}
def xN(K:LK)(ta:TA):TI:=λσ H R=>ta σ H λvs H1=>∃a b,vs=[.ref a,.ref b]/\(∃xs,SqT K H1 a xs)/\(∃ys,SqL K H1 b ys)/\R (jE K a b) H1
theorem Il{p:Pos}{a b:Mw}{ta:TA}(hg:Gl X "zip")(hm:X.mg "zip"=none)(ha:W (PA X [a,b] ta))(hs:Ma [a,b] X.env=[(false,MJ a X.env),(false,MJ b X.env)]:=by rfl)(Yv:Ma [b] X.env=[(false,MJ b X.env)]:=by rfl):W (PIc false X (.Tuple YQ kk tp) (.Call (.Name "zip" p) [a,b] [] pos) (xN X.K ta)):=by
 refine ⟨?_⟩;have ha:=ha.h;intro Go s σ H R I h;refine Call_ (dO I hg hm boot_zip (Nd (thn (ha pos Go s σ H _ I h) λus s1=>x5e λvs H1 I1 r1 q1=>?_) (by rw [hs,Yv]) (by rw [Yv];rfl)));obtain ⟨l1,l2,e,⟨xs,h1⟩,⟨ys,h2⟩,q⟩:=q1;subst e;cases r1 with
 | cons r rr =>
  cases rr with
  | cons r' rr =>
   cases rr;cases (show _=LL l1 from r);cases (show _=LL l2 from r');obtain ⟨is1,Xc,p1,_⟩:=I1.tuple h1;obtain ⟨is2,rv2,p2,_⟩:=I1.list h2;have lt1:l1<s1.heap.objs.size:=by obtain ⟨o,e,_⟩:=p1;exact L7 e
   have lt2:l2<s1.heap.objs.size:=by obtain ⟨o,e,_⟩:=p2.isList;exact L7 e
   refine IG p1 p2.isList λh' a1 a2 a3 a4 a5 a6 a7=>wpAny_pyIter_zip (s:={ s1 with heap:=h' }) a1 ?_;refine ⟨_,_,_,_,H1,rfl,I1.kept (t':=s1.toks) a7,Al (zipApart_new lt1 lt2),⟨a1,a2,⟨_,_,a3⟩,a4,a5⟩,λb hb=>?_,q⟩;have le:s1.heap.objs.size<=b:=by
    simp only [LI,LP,or_false] at hb;rcases hb with rfl|rfl|rfl|rfl|rfl<;>lia
   exact I1.fpOk le (I1.hok.fresh le)
end
section
variable {K:LK}{g:TG}{tb:TS}{D:aL}{σ:St}{H:Hp}{ta:TA}{R:It->Hp->Prop}
theorem yZ:xN K ta σ H R=ta σ H λvs H1=>uR2 vs λa b=>(∃xs,SqT K H1 a xs)/\(∃ys,SqL K H1 b ys)/\R (jE K a b) H1:=by
 apply propext;constructor
 .intro h;exact h
 .intro h;exact h
theorem aB.zipT{xs:List V}(Z5:xs.length=ys.length)(Pv:Nat->St->Hp->Prop)(h0:Pv 0 σ H)(hl:∀i σ H,i<=xs.length->Pv i σ H->SqT K H a xs/\SqL K H b ys)
  (hs:∀i x y p σ H,xs[i]?=some x->ys[i]?=some y->Pv i σ H->H p=none->g (.ref p) σ (upd H p (.tup [x,y])) λσ2 H2=>tb { D with nx:=Pv (i+1),ct:=Pv (i+1),bk:=D.nx } σ2 H2) (hd:∀σ H,Pv xs.length σ H->D.nx σ H):aB (jE K a b) g tb D σ H:=by
 refine ⟨λi m σ H=>m=xs.length-i/\i<=xs.length/\Pv i σ H,⟨xs.length,by simp,MM _,h0⟩,?_⟩;rintro i m σ H ⟨rfl,hi,p⟩;obtain ⟨q1,q2⟩:=hl i σ H hi p;by_cases ZO:i<xs.length
 .refine .inr ⟨⟨xs,ys,xs[i],ys[i]'(by lia),q1,q2,by simp [ZO],by simp [Z5 ▸ ZO]⟩,Pv (i+1),λσ' H' p'=>⟨xs.length-(i+1),by lia,rfl,ZO,p'⟩,λv H' y=>?_⟩;obtain ⟨T,x,y,hT,rfl,rfl,hx,hy⟩:=y;exact hs i x y T σ _ (hx xs q1) (hy ys q2) p hT
 .have e:i=xs.length:=by lia
  subst e;exact .inl ⟨⟨xs,ys,q1,q2,we _⟩,hd σ H p⟩
end
section
variable {X:Cx}
end
def tx(l:List Nat):Str:=⟨l.toArray⟩
def sg(z:Str):List Nat:=z.cps.toList
theorem ck(l:List Nat):sg (tx l)=l:=by simp [sg,tx]
theorem iA(z:Str):tx (sg z)=z:=by cases z;simp [sg,tx]
theorem lg{a b:Str}(h:sg a=sg b):a=b:=by rw [<- iA a,h,iA]
theorem cZ(a b:Str):sg (a++b)=sg a++sg b:=by simp [sg,Str.cps_append]
theorem zX(z:Str):(sg z).length=z.length:=by simp [sg,Str.length]
theorem nV(l:List Nat):(tx l).length=l.length:=by simp [tx,Str.length]
def c1(c:Nat):Str:=⟨#[c]⟩
theorem kN{c i:Nat}:StrLaws.At x (c1 c) x.length i↔(sg x)[i]?=some c:=by
 unfold StrLaws.At;rw [StrLaws.subAt_eq];show i+1<=x.length/\((((sg x).drop i).take 1)==[c])=true↔_;rw [<- zX x];constructor
 .rintro ⟨h1,h2⟩;have h2:=eq_of_beq h2;rw [il (by lia)];have h3:((sg x).drop i).take 1=[(sg x)[i]'(by lia)]:=by
   rw [NC (by lia)];rfl
  rw [h3] at h2;injection h2 with h2 _
  rw [h2]
 .intro h;obtain ⟨h1,h2⟩:=LH.mp h;refine ⟨by lia,?_⟩;rw [NC h1,h2];simp
theorem Ef(y:Str)(c:Nat):(!(L5.Str.occurrences y ⟨#[c]⟩ 0 y.length 1).isEmpty)=(sg y).contains c:=by
 rcases StrLaws.occ_head y (c1 c) 1 (we _) with ⟨h,hn⟩|⟨i,r,h,ha,_⟩
 .rw [show L5.Str.occurrences y ⟨#[c]⟩ 0 y.length 1=[] from h];symm;show (sg y).contains c=false;rw [N2];intro hc;obtain ⟨i,hi,e⟩:=MI (NT.mp hc);exact hn i (kN.mpr (by rw [il hi,e]))
 .rw [show L5.Str.occurrences y ⟨#[c]⟩ 0 y.length 1=i::r from h];symm;exact NT.mpr (LX (kN.mp ha))
def aA(c:Nat):List Nat->List (List Nat)
 | []=>[[]]
 | x::t=>if x=c then []::aA c t else match aA c t with
  | []=>[[x]]
  | h::r=>(x::h)::r
def eV(p:List Nat):List (List Nat)->List (List Nat)
 | []=>[p]
 | h::r=>(p++h)::r
theorem fY(c:Nat):∀l,∃h r,aA c l=h::r
 | []=>⟨_,_,rfl⟩
 | x::t=>by
  unfold aA;split
  .exact ⟨_,_,rfl⟩
  .obtain ⟨h,r,e⟩:=fY c t;rw [e];exact ⟨_,_,rfl⟩
theorem iP(c x:Nat)(t:List Nat)(h:x≠c):aA c (x::t)=eV [x] (aA c t):=by
 obtain ⟨a,r,e⟩:=fY c t;show (if x=c then _ else _)=_;rw [if_neg h,e];rfl
theorem Ez(p q:List Nat)(l:List (List Nat)):eV p (eV q l)=eV (p++q) l:=by
 cases l<;>simp [eV]
theorem pw(s:Str)(c hi XC:Nat):∀(l:List Nat)(st:Array Nat×Nat),(∀i∈l,st.2<=i)->l.Pairwise (· < ·)->st.1.size+l.length<=XC ->
  (forIn l st (StrLaws.occBody s (c1 c) hi XC)).run.fst.toList=st.1.toList++l.filter λi=>decide (i+1<=hi)&&L5.Str.subAt s (c1 c) i
 | [],st,_,_,_=>by simp
 | a::l,st,h1,h2,h3=>by
  rw [QD];unfold StrLaws.occBody;have ha:=h1 a (Mc ..);rw [MS] at h2;simp only [MW] at h3;split
  .rename_i hc;have ih:=pw s c hi XC l (st.1.push a,a+(c1 c).length) (λi hi=>by have:=h2.1 i hi;show a+1<=i;lia) h2.2 (by simp;lia);have e2:(decide (a+1<=hi)&&L5.Str.subAt s (c1 c) a)=true:=by rw [Mu];exact ⟨decide_eq_true hc.1.2,hc.2⟩
   rw [Oc,e2,if_pos rfl];refine Eq.trans ih ?_;simp
  .rename_i hc;have ih:=pw s c hi XC l st (λi hi=>h1 i (LO _ hi)) h2.2 (by lia);have e2:(decide (a+1<=hi)&&L5.Str.subAt s (c1 c) a)=false:=by
    rw [N2];intro h;rw [Mu] at h;exact hc ⟨⟨⟨by lia,ha⟩,of_decide_eq_true h.1⟩,h.2⟩
   rw [Oc,e2,if_neg (by simp)];exact ih
theorem yk(x:Str)(c:Nat):L5.Str.occurrences x (c1 c) 0 x.length (x.length+1)=(range' 0 (x.length+1)).filter λi=>(sg x)[i]? == some c:=by
 rw [StrLaws.occ_eq];rw [pw x c x.length (x.length+1) _ _ (λ_ _=>MM _) (List.pairwise_lt_range' (s:=0) (n:=x.length+1-0)) (by simp)];simp only [Qz,Nat.sub_zero];refine List.filter_congr λi _=>?_;rw [N6];have:=kN (x:=x) (c:=c) (i:=i);unfold StrLaws.At at this;rw [Mu,decide_eq_true_eq,beq_iff_eq];exact this
theorem l9(x:Str)(c:Nat):∀(k a i:Nat),i+k=x.length->a<=i->StrLaws.partsFrom x 1 a ((range' i (k+1)).filter λi=>(sg x)[i]? == some c)=(eV (((sg x).drop a).take (i-a)) (aA c ((sg x).drop i))).map tx
 | 0,a,i,h,ha=>by
  have hl:=zX x;have e1:(sg x)[i]?=none:=Nn (by lia);have e2:(sg x).drop i=[]:=OO (by lia);have e3:(range' i (0+1)).filter (λi=>(sg x)[i]? == some c)=[]:=by
   show List.filter _ [i]=[];rw [Oc,e1];rfl
  rw [e2,e3];show [L5.Str.strSub x a x.length]=[tx _];refine congrArg (·::[]) (lg ?_);rw [ck];show (L5.Str.strSub x a x.length).cps.toList=_;rw [StrLaws.strSub_toList,show x.length=i by lia];simp [aA,sg]
 | k+1,a,i,h,ha=>by
  have hl:=zX x;have hi:i<(sg x).length:=by lia
  have e0:(sg x)[i]?=some ((sg x)[i]):=il hi;have ed:(sg x).drop i=(sg x)[i]::(sg x).drop (i+1):=NC hi;rw [List.range'_succ,Oc,e0,ed];by_cases hc:(sg x)[i]=c
  .rw [if_pos (by simp [hc])];have ih:=l9 x c k (i+1) (i+1) (by lia) (we _);show L5.Str.strSub x a i::StrLaws.partsFrom x 1 (i+1) _=_;rw [ih];have e4:aA c ((sg x)[i]::(sg x).drop (i+1))=[]::aA c ((sg x).drop (i+1)):=by
    show (if _=c then _ else _)=_;rw [if_pos hc]
   rw [e4];obtain ⟨p,r,e⟩:=fY c ((sg x).drop (i+1));rw [e];simp only [Nat.sub_self,List.take_zero,eV,Qz,Nw,MD];refine congrArg (·::_) (lg ?_);rw [ck];exact StrLaws.strSub_toList x a i
  .rw [if_neg (by simp [hc])];rw [l9 x c k a (i+1) (by lia) (by lia),iP c _ _ hc,Ez];have e5:((sg x).drop a).take (i+1-a)=((sg x).drop a).take (i-a)++[(sg x)[i]]:=by
    rw [show i+1-a=(i-a)+1 by lia,MH];congr 1;rw [List.getElem?_drop,show a+(i-a)=i by lia,e0];rfl
   rw [e5]
theorem xu{c:Nat}:∀{l:List Nat},c∉l->aA c l=[l]
 | [],_=>rfl
 | x::t,h=>by
  rw [LI,not_or] at h;rw [iP c x t (L8 h.1),xu h.2];rfl
theorem ui(x:Str){c:Nat}(hc:c<128):MN x (c1 c)=(aA c (sg x)).map tx:=by
 have hk:L5.Str.strKind (c1 c)=1:=by
  unfold L5.Str.strKind;rw [if_pos];show (#[c]:Array Nat).all (· < 256)=true;simp;lia
 have Yi : ¬ L5.Str.strKind x<L5.Str.strKind (c1 c):=by
  rw [hk];unfold L5.Str.strKind;split<;>(try split)<;>lia
 have YO:c∉sg x->[x]=(aA c (sg x)).map tx:=λh=>by rw [xu h];show [x]=[tx (sg x)];rw [iA]
 unfold MN;split
 .rename_i h;rw [decide_eq_false Yi,O2,decide_eq_true_eq] at h;have h:x.length<1:=h;rw [<- zX] at h;refine YO ?_;have e0:sg x=[]:=Pf (by lia);rw [e0];exact LP
 .split
  .rename_i h;refine YO λhm=>?_;obtain ⟨i,hi,e⟩:=MI hm;rw [yk] at h;have:i∈(range' 0 (x.length+1)).filter λi=>(sg x)[i]? == some c:=by
    rw [Pz];refine ⟨?_,by rw [il hi,e];simp⟩;rw [List.mem_range'_1];rw [zX] at hi;lia
   rw [List.isEmpty_iff.mp h] at this;exact absurd this LP
  .rw [StrLaws.partsBetween_eq,yk];show StrLaws.partsFrom x 1 0 _=_;rw [l9 x c x.length 0 0 (by lia) (we _)];simp only [Nat.sub_self,List.take_zero,QN];obtain ⟨h,r,e⟩:=fY c (sg x);rw [e];rfl
theorem oM{c:Nat}:∀(w:List Nat)(ws:List (List Nat)),(∀v∈w::ws,c∉v)->aA c (w++(ws.map (c::·)).flatten)=w::ws
 | [],[],_=>rfl
 | [],v::ws,h=>by
  have ih:=oM v ws λu hu=>h u (LO _ hu);show aA c (c::(v++(ws.map (c::·)).flatten))=_;show (if c=c then _ else _)=_;rw [if_pos rfl,ih]
 | x::w,ws,h=>by
  have hx:=h _ (Mc ..);rw [LI,not_or] at hx;have ih:=oM w ws λu hu=>by
   rcases LI.mp hu with rfl|hu
   .exact hx.2
   .exact h u (LO _ hu)
  show aA c (x::(w++(ws.map (c::·)).flatten))=_;rw [iP c x _ (L8 hx.1),ih];rfl
theorem nH(x:Str)(c hi:Nat):∀(l:List Nat)(st:Option Nat),(forIn l st (λi r=>if (decide (i+(c1 c).length<=hi)&&L5.Str.subAt x (c1 c) i)=true then (pure (ForInStep.yield (some i)):Id _) else pure (ForInStep.yield r))).run =
  l.foldl (λZi i=>if (decide (i+1<=hi)&&L5.Str.subAt x (c1 c) i)=true then some i else Zi) st
 | [],st=>rfl
 | a::l,st=>by
  rw [QD,QE];show _=l.foldl _ (if (decide (a+(c1 c).length<=hi)&&L5.Str.subAt x (c1 c) a)=true then some a else st);split
  .exact nH x c hi l _
  .exact nH x c hi l _
theorem xM(x:Str)(c:Nat):L5.Str.lastOccurrence x (c1 c) 0 x.length=(range' 0 (x.length+1)).foldl (λZi i=>if (sg x)[i]?=some c then some i else Zi) none:=by
 have e:L5.Str.lastOccurrence x (c1 c) 0 x.length=(forIn (range' 0 (x.length+1)) none (λi r=>if (decide (i+(c1 c).length<=x.length)&&L5.Str.subAt x (c1 c) i)=true then (pure (ForInStep.yield (some i)):Id _) else pure (ForInStep.yield r))).run:=by
  unfold L5.Str.lastOccurrence;simp
 rw [e,nH];congr 1;funext Zi i;have:=kN (x:=x) (c:=c) (i:=i);unfold StrLaws.At at this;by_cases h:(sg x)[i]?=some c
 .rw [if_pos h,if_pos];rw [Mu,decide_eq_true_eq];exact this.mpr h
 .rw [if_neg h,if_neg];intro q;rw [Mu,decide_eq_true_eq] at q;exact h (this.mp q)
theorem mw{p:Nat->Prop} [DecidablePred p]:∀(l:List Nat)(a:Option Nat),(∀i∈l,¬ p i)->l.foldl (λZi i=>if p i then some i else Zi) a=a
 | [],_,_=>rfl
 | x::l,a,h=>by
  rw [QE,if_neg (h x (Mc ..))];exact mw l a λi hi=>h i (LO _ hi)
theorem Ko{c:Nat}{a b:List Nat}(h:sg x=a++c::b)(hb:c∉b):Ox x (c1 c)=a.length:=by
 have hl:x.length=a.length+(b.length+1):=by rw [<- zX,h];simp
 have e:L5.Str.lastOccurrence x (c1 c) 0 x.length=some a.length:=by
  rw [xM,show x.length+1=a.length+((b.length+1)+1) by lia,<- List.range'_append_1,List.foldl_append,List.range'_succ,QE];rw [if_pos (by rw [h];simp),Nat.zero_add];refine mw (p:=λi=>(sg x)[i]?=some c) _ _ λi hi=>?_;rw [List.mem_range'_1] at hi;intro q;rw [h,Nh (by lia)] at q;obtain ⟨j,hj⟩:∃j,i-a.length=j+1:=⟨i-a.length-1,by lia⟩;rw [hj,List.getElem?_cons_succ] at q;exact hb (LX q)
 show (match L5.Str.lastOccurrence x (c1 c) 0 x.length with|some i=>(i:Int)|none=>-1)=_;rw [e]
theorem Dy{c:Nat}(h:c∉sg x):Ox x (c1 c) = -1:=by
 have e:L5.Str.lastOccurrence x (c1 c) 0 x.length=none:=by
  rw [xM];exact mw (p:=λi=>(sg x)[i]?=some c) _ _ λi _ q=>h (LX q)
 show (match L5.Str.lastOccurrence x (c1 c) 0 x.length with|some i=>(i:Int)|none=>-1)=_;rw [e]
theorem je{j:Nat}(h:j<=(sg x).length):M1 x none (some (j:Int))=tx ((sg x).take j):=by
 have e:=StrLaws.sliceText_to (x:=x) (j:=(j:Int)) ⟨by lia,by simpa [sg] using h⟩;refine Eq.trans (show M1 x none (some (j:Int))=StrLaws.sliceText x none (some (j:Int)) from rfl) (e.trans ?_);show tx _=tx _;simp [sg]
theorem xv(h:0<(sg x).length):M1 x none (some (-1))=tx ((sg x).dropLast):=by
 rw [zX] at h;have e:=StrLaws.sliceText_to_neg (x:=x) (j:=-1) (by lia) (by lia);refine Eq.trans (show M1 x none (some (-1))=StrLaws.sliceText x none (some (-1)) from rfl) (e.trans ?_);show tx _=tx _;rw [List.dropLast_eq_take,zX,QN,show (-1+(x.length:Int)-0).toNat=x.length-1 by lia];rfl
theorem iF(m:Nat):sg (toString ((m:Nat):Int):Str)=(QK 10 m).map Char.toNat:=PySem.W.KIN.signs_num m
section
variable {X:Cx}{tg:Mw}
def qm(K:LK)(tl:TE):TI:=λσ H R=>tl σ H λx H1=>uR x λa=>(∃xs,SqL K H1 a xs/\R (Itl K a) H1)\/∃xs,SqT K H1 a xs/\R (Itt K a) H1
theorem JW:qm K tl σ H R=tl σ H λx H1=>uR x λa=>(∃xs,SqL K H1 a xs/\R (Itl K a) H1)\/∃xs,SqT K H1 a xs/\R (Itt K a) H1:=rfl
theorem EB(hl:PE X l tl):PIc true X tg l (qm X.K tl):=by
 intro Go s σ H R I h;refine thn (hl Go s σ H _ I h) λv s1=>x5e λx H1 I1 r1 q1=>?_;obtain ⟨a,e,q1⟩:=q1;subst e;cases r1;rcases q1 with ⟨xs,hq,q⟩|⟨xs,hq,q⟩
 .obtain ⟨its,rv,p,hz⟩:=I1.list hq;refine NJ p.isList ⟨s1.heap.objs.size,[s1.heap.objs.size],_,_,H1,rfl,I1.kept (t':=s1.toks) λb o e=>p8 _ e,jO a _,⟨_,LW _ rfl,rfl,rfl⟩,λb hb=>?_,q⟩;have e:b=s1.heap.objs.size:=by simpa using hb
  subst e;exact I1.fpOk (we _) (I1.hok.fresh (we _))
 .obtain ⟨its,rv,p,hz⟩:=I1.tuple hq;refine Pt (show s1.heap.IsTuple a its.toArray from p) ⟨s1.heap.objs.size,[s1.heap.objs.size],_,_,H1,rfl,I1.kept (t':=s1.toks) λb o e=>p8 _ e,uQ a _,⟨_,LW _ rfl,rfl,rfl⟩,λb hb=>?_,q⟩;have e:b=s1.heap.objs.size:=by simpa using hb
  subst e;exact I1.fpOk (we _) (I1.hok.fresh (we _))
theorem Ga(hl:W (PE X l tl)):W (PIc true X tg l (qm X.K tl)):=⟨EB hl.h⟩
end
section
variable {K:LK}{g:TG}{tt:TT}{te:TE}{H:Hp}{Q:VK}{R:It->Hp->Prop}
theorem zS.tup{xs:List V}(Pv:Nat->St->List V->Hp->Prop)(hz:∀i τ ys H,Pv i τ ys H->ys.length<sizeLine)(ha:∀i τ ys H,Pv i τ ys H->SqT K H a xs)(h0:Pv 0 τ [] H)
  (hs:∀(N:St->List V->Hp->Prop) i x τ ys H,xs[i]?=some x->Pv i τ ys H->(∀τ ys H,Pv (i+1) τ ys H->N τ ys H)->g x τ H λτ1 H4=>tt τ1 H4 λok H5=>dJ N ys τ1 te ok H5) (hd:∀τ ys H,Pv xs.length τ ys H->∀D H',New H D (.lst ys) H'->Q (.ref D) H'):zS (Itt K a) g tt te τ H Q:=by
 refine ⟨λi m τ ys H=>m=xs.length-i/\i<=xs.length/\Pv i τ ys H,⟨xs.length,by simp,MM _,h0⟩,?_⟩;rintro i m τ ys H2 ⟨rfl,hi,p⟩;refine ⟨hz i τ ys H2 p,?_⟩;have q:=ha i τ ys H2 p;by_cases ZO:i<xs.length
 .refine .inr ⟨⟨xs,xs[i],q,by simp [ZO]⟩,λx H' y=>?_⟩;obtain ⟨e,y⟩:=y;subst e;exact hs (λτ1 ys H=>∃m',m'<xs.length-i/\m'=xs.length-(i+1)/\i+1<=xs.length/\Pv (i+1) τ1 ys H) i x τ ys _ (y xs q) p λτ1 zs H q=>⟨xs.length-(i+1),by lia,rfl,ZO,q⟩
 .have e:i=xs.length:=by lia
  subst e;exact .inl ⟨⟨xs,q,we _⟩,λD hD _=>hd τ ys H2 p D _ (.mk' hD)⟩
theorem C5{Q:VK}:dH c (.ref a) .non H Q=Q (.bl (if c then true else false)) H:=by simp [dH]
theorem CU{a:Str}{Q:VK}:dH c (.str a) .non H Q=Q (.bl (if c then true else false)) H:=by simp [dH]
theorem bJ(z:Str):asc z=(sg z).all (· < 128):=by simp [asc,sg]
end
def sv(h:Heap)(e:Addr):Prop:=∃oe vs T,h.get? e=some oe/\oe.data = .fields vs/\vs[1]?=some (LL T)
section
variable {M:Model}{A:Mn}{E:Value->LF->Prop}{s:LF}{B:Heap}{env:Env}{outer l:List Env}{L e:Addr}{cls fl:Value}
theorem xo{oe:Obj}{vs:Array Value}{head:Value}{had:Bool}{Q:Unit->LF->Prop}(YM:A.frames=some (env::outer))(hf:env.frame=some L)(st:B.StaysIn s.heap)(hn:B.get? e=none)
  (hl:s.heap.FunFrames B (env::outer)) (he:s.heap.get? e=some oe) (hc:oe.cls=cls) (X9:oe.dict=none) (hd:oe.data = .fields vs) (hz:2<vs.size) (h2:vs[2]?=some .none)
  (k:∀h',aZ B (env::outer) e cls (MP L) h'->sv h' e->s.heap.UpToSlots h'->Q () { s with heap:=h' }) :
  LS M A (do let a<-frameOf env;let pl<-entryPlaceOf L had;let b<-EntryCells.newEntry head a .none (MP L) .none pl;setField (.ref e) 1 b) Q E s:=by
 have nfr:e∉(env::outer).filterMap (·.frame):=λz=>by
  obtain ⟨_,o,ho,nf⟩:=hl.mem z;rw [he] at ho;cases ho;exact nf vs hd
 refine fv (wpAny_frameOf_fun YM hl hf λg only=>?_);obtain ⟨_,same,slots⟩:=only;refine fv (wpAny_entryPlaceOf λpl Yr=>?_);have key:∀(tb:Obj)(ts:Array Value),tb.data = .fields ts->ts[3]?=some (MP L)->LS M A (setField (.ref e) 1 (.ref g.objs.size)) Q E { s with heap:=g.push tb }:=by
  intro tb ts td t3;have e1:g.get? e=some oe:=(same e nfr).trans he;have e2:(g.push tb).get? e=some oe:=p8 _ e1;have hT:(g.push tb).get? g.objs.size=some tb:=LW _ (by rw [M5 td]);have YU:g.objs.size≠e:=NQ (L7 e1);have fresh:B.get? g.objs.size=none:=by
   cases q:B.get? g.objs.size with
   | none=>rfl
   | some o =>
    obtain ⟨sl,z⟩:=slots _ o (st _ o q);exact absurd (L7 z) (Ml _)
  have up:∀b o,b≠e->g.get? b=some o->((g.push tb).update e (Qo (·.setIfInBounds 1 (.ref g.objs.size)))).get? b=some o:=λb o hb q =>
   (Mo _ _ (L8 hb)).trans (p8 _ q)
  have Xe:∀b o,s.heap.get? b=some o->(∀ws,o.data≠.fields ws)->b≠e:=λb o q nf z=>by
   rw [z,he] at q;cases q;exact nf vs hd
  have dd:=NS hd (·.setIfInBounds 1 (LL g.objs.size));refine M6 e2 hd (by lia) (k _ ⟨λb o q=>?_,hn,?_,?_⟩ ⟨_,_,g.objs.size,M3 _ e2 (M5 dd),dd,by rw [MF (by lia)]⟩ λb o q nf=>?_)
  .refine up b o (λz=>by rw [z,hn] at q;cases q) ((same b λz=>?_).trans (st b o q));rw [(hl.mem z).1] at q;cases q
  .refine hl.of_keeps λb o q nf=>?_;obtain ⟨sl,z⟩:=slots b o q;exact ⟨_,up b _ (Xe b o q nf) z,rfl⟩
  .refine ⟨_,_,M3 _ e2 (M5 dd),(ON _ _).trans hc,(xr _ _).trans X9,dd,by simpa using hz,by rw [OP (by decide)];exact h2,.inr ⟨g.objs.size,tb,ts,?_,fresh,YU,?_,td,t3⟩⟩
   .rw [MF (by lia)]
   .rw [Mo _ _ (L8 YU)];exact hT
  .obtain ⟨sl,z⟩:=slots b o q;exact ⟨sl,up b _ (Xe b o q nf) z⟩
 unfold EntryCells.newEntry newFields;refine fv (MG ?_ (Yr.sizeOk5 _ _ _ _ _));exact key _ _ rfl (by simp)
theorem Ce{Q:Unit->LF->Prop}(YM:A.frames=some (env::outer))(hf:env.frame=some L)(x:aZ B (env::outer) e cls fl s.heap)
  (k:∀h',aZ B (env::outer) e cls (MP L) h'->sv h' e->s.heap.UpToSlots h'->Q () { s with heap:=h' }):LS M A (Qm (.ref e) env) Q E s:=by
 obtain ⟨st,hn,hl,oe,vs,he,hc,X9,hd,hz,h2,h1⟩:=x;unfold Qm;simp only [hf];rcases h1 with h1|⟨T,oT,ts,h1,nT,Te,gT,dT,t3⟩
 .refine fv (Me he hd h1 ?_);rw [if_neg (show ¬ ((Mm != Mm)=true) by decide)];exact xo YM hf st hn hl he hc X9 hd hz h2 k
 .refine fv (Me he hd h1 ?_);rw [if_pos (show (LL T != Mm)=true by simp)];refine fv (Me gT dT t3 ?_);by_cases hfl:fl=MP L
  .subst hfl;rw [if_pos (show (MP L==MP L)=true by simp)];exact LJ (k s.heap ⟨st,hn,hl,oe,vs,he,hc,X9,hd,hz,h2,.inr ⟨T,oT,ts,h1,nT,Te,gT,dT,t3⟩⟩ ⟨oe,vs,T,he,hd,h1⟩ (UpToSlots.refl _))
  .rw [if_neg (show ¬ ((fl==MP L)=true) by simpa using hfl)];refine fv (M6 gT dT (MZ.mp t3).1 ?_);have oth:∀b,b≠T->(s.heap.update T (Qo (·.setIfInBounds 3 Mm))).get? b=s.heap.get? b:=λb hb=>Mo _ _ (L8 hb);have Yp:∀b o,s.heap.get? b=some o->(∀ws,o.data≠.fields ws)->b≠T:=λb o q nf z=>by
    rw [z,gT] at q;cases q;exact nf ts dT
   refine xo (B:=B) (cls:=cls) YM hf (λb o q=>?_) hn (hl.of_keeps λb o q nf=>⟨o,(oth b (Yp b o q nf)).trans q,rfl⟩) ((oth e (L8 Te)).trans he) hc X9 hd hz h2 λh' y ht up=>k h' y ht λb o q nf=>up b o ((oth b (Yp b o q nf)).trans q) nf;exact (oth b λz=>by rw [z,nT] at q;cases q).trans (st b o q)
theorem KF{Q:Unit->LF->Prop}(x:aZ B l e cls fl s.heap)(k:∀h',aZ B l e cls (MP L) h'->s.heap.UpToSlots h'->Q () { s with heap:=h' }):LS M A (setFlight (.ref e) (some L)) Q E s:=by
 obtain ⟨st,hn,hl,oe,vs,he,hc,X9,hd,hz,h2,h1⟩:=x;unfold setFlight;rcases h1 with h1|⟨T,oT,ts,h1,nT,Te,gT,dT,t3⟩
 .refine fv (Me he hd h1 ?_);rw [if_neg (show ¬ ((Mm != Mm)=true) by decide)];exact LJ (k s.heap ⟨st,hn,hl,oe,vs,he,hc,X9,hd,hz,h2,.inl h1⟩ (UpToSlots.refl _))
 .refine fv (Me he hd h1 ?_);rw [if_pos (show (LL T != Mm)=true by simp)];have lt3:3<ts.size:=(MZ.mp t3).1;have dd:=NS dT (·.setIfInBounds 3 (MP L));have oth:∀b,b≠T->(s.heap.update T (Qo (·.setIfInBounds 3 (MP L)))).get? b=s.heap.get? b:=λb hb=>Mo _ _ (L8 hb);have Yp:∀b o,s.heap.get? b=some o->(∀ws,o.data≠.fields ws)->b≠T:=λb o q nf z=>by
   rw [z,gT] at q;cases q;exact nf ts dT
  refine M6 gT dT lt3 (k _ ⟨λb o q=>(oth b λz=>by rw [z,nT] at q;cases q).trans (st b o q),hn,hl.of_keeps λb o q nf=>⟨o,(oth b (Yp b o q nf)).trans q,rfl⟩,oe,vs,(oth e (L8 Te)).trans he,hc,X9,hd,hz,h2,
   .inr ⟨T,_,_,h1,nT,Te,M3 _ gT (M5 dd),dd,?_⟩⟩ λb o q nf=>⟨o.slots,(oth b (Yp b o q nf)).trans q⟩)
  rw [MF lt3]
end
def xx(X:Cx)(Ex:Addr->St->Hp->Prop):Value->LF->Prop:=λe s'=>∃(ea C:Addr)(B:Heap)(H':Hp)(fl:Value)(σ:St)(sI:LF)(Go:List (Addr×Obj)),e = .ref ea/\Inv X Go σ H' sI/\aZ B X.stack ea (.ref C) fl s'.heap /\
 s'.os=sI.os/\Oa s'.gens/\(∀b o,sI.heap.get? b=some o->b∉frs X.stack->B.get? b=some o)/\sI.heap.UpToSlots s'.heap/\Ex C σ H'
abbrev cxF(X:Cx)(Ex:Addr->St->Hp->Prop):Cx:=X.wish (xx X Ex)
theorem Ir:bF (cxF X Ex) Ex:=λps σ H sI ea C B fl s' I y os bare hB up q =>
 ⟨ea,C,B,H,fl,σ,sI,ps,rfl,I.unwish,y,os,bare,hB,up,q⟩
theorem CM(hst:X.stack=X.env::X.outer)(YM:X.Ok->X.A.frames=some (X.env::X.outer)){L:Addr}(hL:X.env.frame=some L):Nb (LZ X.prog X.w) X.A X.env (xx X Ex):=by
 rintro e s' ⟨ea,C,B,H',fl,σ,sI,Go,rfl,I,y,os,bare,hB,up,q⟩;have fr:=YM I.ok;rw [hst] at y;refine Ce fr hL y λh1 y1 ht u1=>?_;obtain ⟨oe,vs,T,g1,g2,g3⟩:=ht;refine fv (Me g1 g2 g3 ?_);rw [if_neg (show ¬ ((LL T==Mm)=true) by simp)];rw [hL];refine KF (s:={ s' with heap:=h1 }) y1 λh2 y2 u2=>?_;rw [<- hst] at y2;exact ⟨ea,C,B,H',_,σ,sI,Go,rfl,I,y2,os,bare,hB,(up.trans u1).trans u2,q⟩
theorem PS.thr{t:TS}(T:bF X Ex)(h:PS (cxF X Ex) st t):PS X st t:=λGo s σ H D I hw =>
 Mv (h Go s σ H D (I.wish _) hw) (λ_ _ q=>q.unwish) <| by
  rintro e s' ⟨ea,C,B,H',fl,σ',sI,ps,he,I',y,os,bare,hB,up,q⟩;subst he;exact T ps σ' H' sI ea C B fl s' I' y os bare hB up q
theorem Bd{t:TS}(T:bF X Ex)(h:W (PS (cxF X Ex) st t)):W (PS X st t):=⟨PS.thr T h.h⟩
section
variable {X:Cx}
def gz:List V->Hp->VK->Prop:=λxs H Q=>gB xs H Q\/∃b:Bool,xs=[.bl b]/\Q (.str (if b then "True" else "False")) H
theorem FZ:zN X (.type "str") gz:=by
 intro Go s σ H xs us Q I r h;rcases h with h|⟨b,rfl,q⟩
 .exact IE Go s σ H xs us Q I r h
 .cases r with
  | cons r1 rr =>
   cases rr;cases (show _=Og b from r1);exact PySem.P.str_of_bool ⟨.str _,H,I.tok _,⟨_,by cases b<;>rfl⟩,q⟩
theorem Ft{Q:VK}:gz [.int i] H Q=(i.natAbs.log2<1920/\Q (.str (toString i)) H):=by simp [gz,x3]
theorem EK{Q:VK}:gz [.str z] H Q=Q (.str z) H:=by simp [gz,uY]
theorem FW{b:Bool}{Q:VK}:gz [.bl b] H Q=Q (.str (if b then "True" else "False")) H:=by simp [gz,gB,gA]
end
theorem Lk{Ye iter:Mw}{Za:List Mw}{sc:Scope}{Xv:Pos}{N':List Str}{ix:List (Option Nat)}{wi:TI}{g:TG}{tt:TT}{i0:Nat}{x0:Str}(hN0:X.N.Nodup)(hi0:X.N[i0]?=some x0)(Xn:Loc X.env.scope x0)(hc:c=true->X.calm=true)(L:ar X sc N' ix)(hi:PIc c X tg iter wi)
  (hg:∀Go C fp s H,PG (zO X sc N' Go C fp s H) tg g) (ht:∀Go C fp s H,PTs (zO X sc N' Go C fp s H) Za tt) (he:∀Go C fp s H,PE (zO X sc N' Go C fp s H) Ye te)
  (hs:∀x,Nt iter X.env x=pure x:=by intro _;rfl) (hsw:swapsWith (.ListComp Ye [⟨tg,iter,Za,0⟩] sc pos) (some (.Name x0 Y6)) Xv.line X.env=pure true:=by rfl) (hf0:X.fn x0=true\/X.env.scope.names.lookup x0=some .local:=by first|exact .inl rfl|exact .inr rfl|assumption) :
  PS X (.Assign [.Name x0 Y6] (.ListComp Ye [⟨tg,iter,Za,0⟩] sc pos) Xv) (iX (tLC ix wi g tt te) (dX i0)):=by
 intro Go s σ H Z I h;rw [exec_Assign_Name_used x0 Y6 _ Xv hsw];refine fv (Ny (fv ?_));rw [arm_evalThenUse_ListComp];show LS (LZ X.prog X.w) X.A (comprehension (.ListComp Ye [⟨tg,iter,Za,0⟩] sc pos) sc X.env (firstIterPos [⟨tg,iter,Za,0⟩] pos) (newList []) (firstAsync [⟨tg,iter,Za,0⟩]) (firstIter [⟨tg,iter,Za,0⟩] X.env) (some (assign (.Name x0 Y6) X.env))>>=λ_=>pure ()) _ _ _;refine fv (v3 hc L hi hg ht he hs I h λC D oC H' s5 m5 IX ns tu q=>?_);refine thn (wB hN0 hi0 Xn hf0 (Go++[(C,oC)]) s5 σ H' (.ref D) (.ref D) Z.nx IX rfl q) λ_ s6=>x4e λσ6 H6 I6 q6=>?_;obtain ⟨p6,p6n,_⟩:=I6.pin (C,oC) (Mb _ (Mb _ (LU.mpr rfl)));exact ⟨m5,ns p6,λh' hsb=>LJ (LJ ⟨σ6,H6,tu (I6.pins_of λp hp=>I6.pin p (Mb _ (MR _ hp))) p6n hsb,q6⟩)⟩
theorem gQ{Ye iter:Mw}{Za:List Mw}{sc:Scope}{Xv:Pos}{N':List Str}{ix:List (Option Nat)}{wi:TI}{g:TG}{tt:TT}{i0:Nat}{x0:Str}(hN0:X.N.Nodup)(hi0:X.N[i0]?=some x0)(Xn:Loc X.env.scope x0)(hc:c=true->X.calm=true)(L:ar X sc N' ix)(hi:W (PIc c X tg iter wi))
  (hg:∀Go C fp s H,W (PG (zO X sc N' Go C fp s H) tg g)) (ht:∀Go C fp s H,W (PTs (zO X sc N' Go C fp s H) Za tt)) (he:∀Go C fp s H,W (PE (zO X sc N' Go C fp s H) Ye te))
  (hs:∀x,Nt iter X.env x=pure x:=by intro _;rfl) (hsw:swapsWith (.ListComp Ye [⟨tg,iter,Za,0⟩] sc pos) (some (.Name x0 Y6)) Xv.line X.env=pure true:=by rfl) (hf0:X.fn x0=true\/X.env.scope.names.lookup x0=some .local:=by first|exact .inl rfl|exact .inr rfl|assumption) :
  W (PS X (.Assign [.Name x0 Y6] (.ListComp Ye [⟨tg,iter,Za,0⟩] sc pos) Xv) (iX (tLC ix wi g tt te) (dX i0))) :=
 ⟨Lk hN0 hi0 Xn hc L hi.h (λa b c d e=>(hg a b c d e).h) (λa b c d e=>(ht a b c d e).h) (λa b c d e=>(he a b c d e).h) hs hsw hf0⟩
section
variable {κ:Type} [DecidableEq κ]
def zW(kvs:List (κ×V))(k:κ):Option V:=(kvs.find? λkv=>decide (kv.1=k)).map (·.2)
def aG(kvs:List (κ×V))(k:κ)(v:V):List (κ×V) :=
 if (kvs.any λkv=>decide (kv.1=k))=true then kvs.map (λkv=>if kv.1=k then (kv.1,v) else kv) else kvs++[(k,v)]
def cj(kvs:List (κ×V))(k:κ):List (κ×V):=kvs.filter λkv=>decide (kv.1≠k)
theorem i4{p:κ×V}{r:List (κ×V)}{k:κ}(e:p.1=k):zW (p::r) k=some p.2:=by simp [zW,OA,e]
theorem iI{p:κ×V}{r:List (κ×V)}{k:κ}(e : ¬ p.1=k):zW (p::r) k=zW r k:=by simp [zW,OA,e]
theorem lZ(k:κ):∀kvs:List (κ×V),(kvs.any λkv=>decide (kv.1=k))=(zW kvs k).isSome
 | []=>rfl
 | p::r=>by
  rw [PH];by_cases e:p.1=k
  .simp only [i4 e,decide_eq_true e,Bool.true_or,Option.isSome_some]
  .rw [iI e,decide_eq_false e,Bool.false_or];exact lZ k r
theorem ux(kvs:List (κ×V))(k:κ)(v:V):(aG kvs k v).length<=kvs.length+1:=by
 unfold aG;split
 .rw [KE];lia
 .rw [Md,MW,Oz];lia
theorem bh.isSome_eq{o:Option V}{u:Option Value}(r:bh o u):o.isSome=u.isSome:=by
 cases o with
 | none=>cases u with
  | none=>rfl
  | some _=>exact (show False from r).elim
 | some _=>cases u with
  | none=>exact (show False from r).elim
  | some _=>rfl
theorem bh.getD{o:Option V}{u:Option Value}{d:V}{d':Value}(r:bh o u)(rd:zp d d'):zp (o.getD d) (u.getD d'):=by
 cases o with
 | none=>cases u with
  | none=>exact rd
  | some _=>exact (show False from r).elim
 | some _=>cases u with
  | none=>exact (show False from r).elim
  | some _=>exact r
theorem KV.val{kvs:List (κ×V)}{vs:List (κ×Value)}(r:KV kvs vs)(k:κ):bh (zW kvs k) (valueAt vs k):=by
 unfold KV at r
 induction r with
 | nil=>exact True.intro
 | @cons p q ps qs h t ih =>
  obtain ⟨h1,h2⟩:=h;by_cases e:p.1=k
  .have e':q.1=k:=h1.symm.trans e;have b:valueAt (q::qs) k=some q.2:=by simp [valueAt,OA,e']
   rw [i4 e,b];exact h2
  .have e' : ¬ q.1=k:=λz=>e (h1.trans z);have b:valueAt (q::qs) k=valueAt qs k:=by simp [valueAt,OA,e']
   rw [iI e,b];exact ih
theorem KV.any{kvs:List (κ×V)}{vs:List (κ×Value)}(r:KV kvs vs)(k:κ):(kvs.any λkv=>decide (kv.1=k))=vs.any λkv=>decide (kv.1=k):=by
 unfold KV at r
 induction r with
 | nil=>rfl
 | cons h t ih=>rw [PH,PH,ih,h.1]
theorem KV.repl{kvs:List (κ×V)}{vs:List (κ×Value)}(r:KV kvs vs)(k:κ)(ry:zp y u) :
  KV (kvs.map λkv=>if kv.1=k then (kv.1,y) else kv) (vs.map λkv=>if kv.1=k then (kv.1,u) else kv):=by
 unfold KV at r ⊢
 induction r with
 | nil=>exact .nil
 | @cons p q ps qs h t ih =>
  rw [MD,MD];refine .cons ?_ ih;obtain ⟨h1,h2⟩:=h;by_cases e:p.1=k
  .rw [if_pos e,if_pos (h1.symm.trans e)];exact ⟨h1,ry⟩
  .rw [if_neg e,if_neg (λz=>e (h1.trans z))];exact ⟨h1,h2⟩
theorem KV.put{kvs:List (κ×V)}{vs:List (κ×Value)}(r:KV kvs vs)(k:κ)(ry:zp y u):KV (aG kvs k y) (stored vs k u):=by
 unfold aG stored;rw [r.any k];by_cases e:(vs.any λkv=>decide (kv.1=k))=true
 .rw [if_pos e,if_pos e];exact r.repl k ry
 .rw [if_neg e,if_neg e];exact Paired.snoc r ⟨rfl,ry⟩
theorem KV.drop{kvs:List (κ×V)}{vs:List (κ×Value)}(r:KV kvs vs)(k:κ):KV (cj kvs k) (without vs k):=by
 unfold KV at r ⊢;unfold cj without
 induction r with
 | nil=>exact .nil
 | @cons p q ps qs h t ih =>
  obtain ⟨h1,h2⟩:=h;rw [Oc,Oc];by_cases e:p.1=k
  .have a : ¬ decide (p.1≠k)=true:=by simp [e]
   have b : ¬ decide (q.1≠k)=true:=by simp [h1.symm.trans e]
   rw [if_neg a,if_neg b];exact ih
  .have e' : ¬ q.1=k:=λz=>e (h1.trans z);have a:decide (p.1≠k)=true:=by simp [e]
   have b:decide (q.1≠k)=true:=by simp [e']
   rw [if_pos a,if_pos b];exact .cons ⟨h1,h2⟩ ih
theorem KV.length{kvs:List (κ×V)}{vs:List (κ×Value)}(r:KV kvs vs):kvs.length=vs.length:=Paired.length r
theorem Jh(kvs:List (κ×V))(k:κ):(cj kvs k).length<=kvs.length:=OQ _ _
end
theorem eR{k:Key}(r:zp (kV k) u):(ak P w).is k u=true:=by
 cases k with
 | inl i=>obtain ⟨t,e⟩:=(show ∃t,u=NI i t from r);subst e;exact AC P w i t
 | inr x=>obtain ⟨t,e⟩:=(show ∃t,u=Pq x t from r);subst e;exact j8 P w x t
theorem si{P:LV}{w:Mf}:∀{ks:List Key}{us:List Value},zq (ks.map kV) us->ItemsAre (ak P w) ks us
 | [],_,r=>by rw [map_nil] at r;cases r;exact .nil
 | k::ks,_,r=>by
  rw [MD] at r;cases r with
  | cons h t=>exact .cons (eR h) (si t)
abbrev KT(H:Hp):List (List Key×V)->List (List Key×Addr×Value)->Prop:=Paired λp q=>p.1=q.1/\H q.2.1=some (.tup (p.1.map kV))/\zp p.2 q.2.2
theorem KT.val(r:KT H kvs xs)(k:List Key):bh (zW kvs k) ((atKey xs k).map (·.2)):=by
 induction r with
 | nil=>exact True.intro
 | @cons p q ps qs h t ih =>
  obtain ⟨h1,_,h2⟩:=h;by_cases e:p.1=k
  .have e':q.1=k:=h1.symm.trans e;have b:atKey (q::qs) k=some q.2:=by simp [atKey,OA,e']
   rw [i4 e,b];exact h2
  .have e' : ¬ q.1=k:=λz=>e (h1.trans z);have b:atKey (q::qs) k=atKey qs k:=by simp [atKey,OA,e']
   rw [iI e,b];exact ih
theorem KT.repl(r:KT H kvs xs)(k:List Key)(ry:zp y u) :
  KT H (kvs.map λkv=>if kv.1=k then (kv.1,y) else kv) (xs.map (putAt k u)):=by
 induction r with
 | nil=>exact .nil
 | @cons p q ps qs h t ih =>
  rw [MD,MD];refine .cons ?_ ih;obtain ⟨h1,h2,h3⟩:=h;unfold putAt;by_cases e:p.1=k
  .rw [if_pos e,if_pos (h1.symm.trans e)];exact ⟨h1,h2,ry⟩
  .rw [if_neg e,if_neg (λz=>e (h1.trans z))];exact ⟨h1,h2,h3⟩
theorem KT.put(r:KT H kvs xs)(k:List Key)(hb:H b=some (.tup (k.map kV)))(ry:zp y u) :
  KT H (aG kvs k y) (storedH xs k b u):=by
 have e:(kvs.any λkv=>decide (kv.1=k))=(atKey xs k).isSome:=by
  rw [lZ,(r.val k).isSome_eq,isSome_map]
 unfold aG storedH;rw [e];by_cases q:(atKey xs k).isSome=true
 .rw [if_pos q,if_pos q];exact r.repl k ry
 .rw [if_neg q,if_neg q];exact Paired.snoc r ⟨rfl,hb,ry⟩
theorem KT.keeps(r:KT H kvs xs)(ht:∀b ys,H b=some (.tup ys)->H' b=some (.tup ys)):KT H' kvs xs :=
 Paired.mapP r λ_ _ z=>⟨z.1,ht _ _ z.2.1,z.2.2⟩
section
variable {P:LV}{w:Mf}{H:Hp}{h:Heap}{a:Addr}
theorem xq{u:HO}(ok:HOk P w H h)(e:Rd H a u):af P w H h a u:=e.ok ok
theorem dN{kvs:List (Key×V)}(ok:HOk P w H h)(e:Rd H a (.dK kvs)):kvs.length<=sizeLine/\(a==sysModules)=false/\∃vs,KV kvs vs/\h.DictOf (ak P w) a vs :=
 show af P w H h a (.dK kvs) from xq ok e
theorem ng{kvs:List (Key×V)}(ok:HOk P w H h)(e:H a=some (.dK kvs)):kvs.length<=sizeLine/\(a==sysModules)=false/\∃vs,KV kvs vs/\h.DictOf (ak P w) a vs:=dN ok (.inl e)
theorem gY{ks:List Key}(ok:HOk P w H h)(e:H a=some (.tup (ks.map kV))):(Qi (ak P w)).is h ks a:=by
 obtain ⟨_,its,r,o,h1,h2,n,h3⟩:=(show af P w H h a (.tup (ks.map kV)) from ok a _ e);exact ⟨o,its.toArray,n,h1,h2,h3,by simpa using si r⟩
theorem fW(ok:HOk P w H h)(e:Rd H a (.dT kvs)):kvs.length<=sizeLine/\(a==sysModules)=false /\
  ∃xs,KT H kvs xs/\h.DictOfH (Qi (ak P w)) a xs:=by
 obtain ⟨z,y,xs,r,o,es,ep,h1,h2,h3,h4,h5⟩:=(show af P w H h a (.dT kvs) from xq ok e);refine ⟨z,y,xs,r,o,es,ep,h1,h2,h3,h4,λx hx=>?_,h5⟩;have all:∀{l:List (List Key×V)}{m:List (List Key×Addr×Value)},KT H l m->∀x∈m,(Qi (ak P w)).is h x.1 x.2.1:=by
  intro l m q
  induction q with
  | nil=>intro x hx;exact nomatch hx
  | @cons p q ps qs hq t ih =>
   intro x hx;rcases LI.mp hx with e|hx
   .subst e;exact gY ok (by rw [<- hq.1];exact hq.2.1)
   .exact ih x hx
 exact all r x hx
theorem Er(ok:HOk P w H h)(e:H a=some (.dT kvs)):kvs.length<=sizeLine/\(a==sysModules)=false /\
  ∃xs,KT H kvs xs/\h.DictOfH (Qi (ak P w)) a xs:=fW ok (.inl e)
end
def dG(H:Hp)(a:Addr)(y:V)(r:Option V):Prop :=
 (∃kvs k,Rd H a (.dK kvs)/\y=kV k/\r=zW kvs k)\/∃kvs k b,Rd H a (.dT kvs)/\y = .ref b/\H b=some (.tup (k.map kV))/\r=zW kvs k
def iG(H:Hp)(a:Addr)(y v:V)(H':Hp):Prop :=
 (∃kvs k,H a=some (.dK kvs)/\y=kV k/\kvs.length<sizeLine/\H'=upd H a (.dK (aG kvs k v))) \/
 ∃kvs k b,H a=some (.dT kvs)/\y = .ref b/\H b=some (.tup (k.map kV))/\kvs.length<sizeLine/\H'=upd H a (.dT (aG kvs k v))
theorem dG.k{kvs:List (Key×V)}{k:Key}(e:H a=some (.dK kvs)):dG H a (kV k) (zW kvs k):=.inl ⟨kvs,k,.inl e,rfl,rfl⟩
theorem dG.t{k:List Key}(e:H a=some (.dT kvs))(eb:H b=some (.tup (k.map kV))):dG H a (.ref b) (zW kvs k):=.inr ⟨kvs,k,b,.inl e,rfl,eb,rfl⟩
theorem iG.k{kvs:List (Key×V)}{k:Key}(e:H a=some (.dK kvs))(hl:kvs.length<sizeLine):iG H a (kV k) v (upd H a (.dK (aG kvs k v))):=.inl ⟨kvs,k,e,rfl,hl,rfl⟩
theorem iG.t{k:List Key}(e:H a=some (.dT kvs))(eb:H b=some (.tup (k.map kV)))(hl:kvs.length<sizeLine) :
  iG H a (.ref b) v (upd H a (.dT (aG kvs k v))):=.inr ⟨kvs,k,b,e,rfl,eb,hl,rfl⟩
section
variable {X:Cx}{Go:List (Addr×Obj)}{σ:St}{H:Hp}{s:LF}{a:Addr}{y v:V}{u r:Value}{o:Option V}{A:Mn}{E:Value->LF->Prop}
theorem Ic(hu:A.units+1<cLine)(I:Inv X Go σ H s)(g:dG H a y (some v))(ry:zp y u)(h:∀w' s',Inv X Go σ H s'->zp v w'->Q w' s') :
  LS (LZ X.prog X.w) A (QC (.ref a) u) Q E s:=by
 rcases g with ⟨kvs,k,e,ey,l⟩|⟨kvs,k,b,e,ey,eb,l⟩
 .subst ey;obtain ⟨z,hd,vs,Zw,dd⟩:=dN I.hok e;obtain ⟨w',hw,XU⟩:=bh.some_of (v:=v) (o:=valueAt vs k) (by rw [l];exact Zw.val k);exact wpAny_getItem_of (eR ry) dd.mapOf hw (h w' _ (I.tok _) XU)
 .subst ey;cases (show u=LL b from ry);obtain ⟨z,hd,xs,Zw,dd⟩:=fW I.hok e;obtain ⟨w',hw,XU⟩:=bh.some_of (v:=v) (o:=(atKey xs k).map (·.2)) (by rw [l];exact Zw.val k);obtain ⟨p,hp,hp2⟩:=Mh.mp hw;refine wpAny_getItem_heap (N0 hu) (gY I.hok eb) dd hp ?_;rw [hp2];exact h w' _ (I.tok _) XU
theorem FY(hu:A.units+1<cLine)(I:Inv X Go σ H s)(g:dG H a y o)(ry:zp y u)(h:∀s',Inv X Go σ H s'->Q (.bool o.isSome) s') :
  LS (LZ X.prog X.w) A (MA .In u (.ref a)) Q E s:=by
 rcases g with ⟨kvs,k,e,ey,l⟩|⟨kvs,k,b,e,ey,eb,l⟩
 .subst ey;obtain ⟨z,hd,vs,Zw,dd⟩:=dN I.hok e;refine wpAny_in_of (eR ry) hd dd.mapOf ?_;rw [<- (Zw.val k).isSome_eq,<- l];exact h _ (I.tok _)
 .subst ey;cases (show u=LL b from ry);obtain ⟨z,hd,xs,Zw,dd⟩:=fW I.hok e;refine wpAny_in_heap (N0 hu) (gY I.hok eb) hd dd ?_;have q:=(Zw.val k).isSome_eq;rw [isSome_map] at q;rw [<- q,<- l];exact h _ (I.tok _)
theorem Fu(hu:A.units+1<cLine)(I:Inv X Go σ H s)(g:dG H a y o)(ry:zp y u)(h:∀s',Inv X Go σ H s'->Q (.bool (!o.isSome)) s') :
  LS (LZ X.prog X.w) A (MA .NotIn u (.ref a)) Q E s:=by
 rcases g with ⟨kvs,k,e,ey,l⟩|⟨kvs,k,b,e,ey,eb,l⟩
 .subst ey;obtain ⟨z,hd,vs,Zw,dd⟩:=dN I.hok e;refine wpAny_notIn_of (eR ry) hd dd.mapOf ?_;rw [<- (Zw.val k).isSome_eq,<- l];exact h _ (I.tok _)
 .subst ey;cases (show u=LL b from ry);obtain ⟨z,hd,xs,Zw,dd⟩:=fW I.hok e;refine wpAny_notIn_heap (N0 hu) (gY I.hok eb) hd dd ?_;have q:=(Zw.val k).isSome_eq;rw [isSome_map] at q;rw [<- q,<- l];exact h _ (I.tok _)
theorem oH{t':Nat}{ob:HO}(I:Inv X Go σ H s)(mu:Mut (H a))(hs:Po a s.heap h')(he:∃q,h'.get? a=some q)(new:af X.prog X.w (upd H a ob) h' a ob) :
  Inv X Go σ (upd H a ob) { s with heap:=h',toks:=t' } :=
 I.write (x:=a) (e:=a) mu (.inl rfl) (λb q hb z=>(hs.2 b hb).trans z) he new
theorem oN{kvs:List (Key×V)}{vs:List (Key×Value)}(z:kvs.length<=sizeLine)(hd:(a==sysModules)=false)(Zw:KV kvs vs)(dd:h'.DictOf (ak P w) a vs) :
  af P w H' h' a (.dK kvs):=⟨z,hd,vs,Zw,dd⟩
theorem Du{Q:Unit->LF->Prop}(hu:A.units+1<cLine)(I:Inv X Go σ H s)(g:iG H a y v H')(ry:zp y u)(rv:zp v r)(h:∀s',Inv X Go σ H' s'->Q () s') :
  LS (LZ X.prog X.w) A (setItem (.ref a) u r) Q E s:=by
 rcases g with ⟨kvs,k,e,ey,l,eH⟩|⟨kvs,k,b,e,ey,eb,l,eH⟩
 .subst ey eH;obtain ⟨z,hd,vs,Zw,dd⟩:=ng I.hok e;have hz:vs.length<=sizeLine:=by rw [<- Zw.length];exact z
  have hl:(aG kvs k v).length<=sizeLine:=by have:=ux kvs k v;lia
  refine wpAny_setItem_pairs (hsz:=hz) (eR ry) dd λh' dd' hs=>h _ ?_;have he:∃q,h'.get? a=some q:=let ⟨q,_,_,hq,_⟩:=dd';⟨q,hq⟩;exact oH I (by rw [e];exact True.intro) hs he (oN hl hd (Zw.put k rv) dd')
 .subst ey eH;cases (show u=LL b from ry);obtain ⟨z,hd,xs,Zw,dd⟩:=Er I.hok e;have hz:xs.length<=sizeLine:=by rw [<- Paired.length Zw];exact z
  have hl:(aG kvs k v).length<=sizeLine:=by have:=ux kvs k v;lia
  refine wpAny_setItem_heap (hsz:=hz) (N0 hu) (gY I.hok eb) dd λh' dd' hs=>h _ ?_;obtain ⟨q,es,ep,hq,h2,h3,h4,_,h5⟩:=dd';refine oH I (by rw [e];exact True.intro) hs ⟨q,hq⟩ ⟨hl,hd,_,(Zw.put k eb rv).keeps λc ys ec=>?_,q,es,ep,hq,h2,h3,h4,h5⟩;rw [ze (DN ec e (λz=>nomatch z))];exact ec
end
section
variable {X:Cx}{Go:List (Addr×Obj)}{σ:St}{H:Hp}{s:LF}{a:Addr}{kvs:List (Key×V)}{k:Key}{u:Value}{A:Mn}{E:Value->LF->Prop}
theorem CG{Q:Unit->LF->Prop}(I:Inv X Go σ H s)(e:H a=some (.dK kvs))(ry:zp (kV k) u)(l:(zW kvs k).isSome=true)(h:∀s',Inv X Go σ (upd H a (.dK (cj kvs k))) s'->Q () s') :
  LS (LZ X.prog X.w) A (delItem (.ref a) u) Q E s:=by
 obtain ⟨z,hd,vs,Zw,dd⟩:=ng I.hok e;refine wpAny_delItem_slot dd.typeIs (by decide) PQ
  (QF PQ dd.typeIs PySem.F.entry_dict_delitem (PySem.F.args_dict_delitem_2 _ _) (meets_dict_delitem_pairs (ak X.prog X.w) a (eR ry)) ⟨vs,dd,by rw [<- Zw.length];exact z,by rw [<- (Zw.val k).isSome_eq];exact l,λh' dd' hs=>h _ ?_⟩)
 have he:∃q,h'.get? a=some q:=let ⟨q,_,_,hq,_⟩:=dd';⟨q,hq⟩;exact oH I (by rw [e];exact True.intro) hs he (oN (Mp (Jh kvs k) z) hd (Zw.drop k) dd')
end
theorem ym{o:Option V}(I:Inv X Go σ H s)(g:dG H a y o):s.TypeIs (.ref a) "dict":=by
 rcases g with ⟨kvs,k,e,_,_⟩|⟨kvs,k,b,e,_,_,_⟩
 .obtain ⟨_,_,vs,_,dd⟩:=dN I.hok e;exact dd.typeIs
 .obtain ⟨_,_,xs,_,dd⟩:=fW I.hok e;exact dd.typeIs
section
variable {X:Cx}{o i e ZN:Mw}{pos Y6 Xk:Pos}{td ty tv:TE}
end
section
variable {X:Cx}{pos:Pos}
end
structure M2(X:Cx)(o:Mw)(m:Str)(Z3:Pos)(e f:Mw)(cpos:Pos):Prop where
 base:M9 o m X.env (MJ o X.env)=MJ o X.env
 few:((NA cpos (Ma [e,f] X.env)).all (λx=>!x.1)&&(Pc cpos (NY [] X.env)).all (λx=>x.1.isSome)
  && decide (([e,f]:List Mw).length+([]:List Keyword).length+(if ([]:List Keyword).isEmpty then 0 else 1)<30))=true
 line:(Z3.endLine==cpos.line)=true
 trees:NA cpos (Ma [e,f] X.env)=[(false,MJ e X.env),(false,MJ f X.env)]
def IsD(H:Hp)(a:Addr):Prop:=(∃kvs,Rd H a (.dK kvs))\/∃kvs,Rd H a (.dT kvs)
theorem Km(I:Inv X Go σ H s)(d:IsD H a) :
  s.TypeIs (.ref a) "dict"/\(∀b,LL a = .ref b->∃ob,s.heap.get? b=some ob/\ob.dict=none)/\(a==sysModules)=false:=by
 rcases d with ⟨kvs,e⟩|⟨kvs,e⟩
 .obtain ⟨_,hd,vs,_,dd⟩:=dN I.hok e;refine ⟨dd.typeIs,λb q=>?_,hd⟩;cases q;obtain ⟨ob,_,_,h1,h2,_⟩:=dd;exact ⟨ob,h1,h2.2.1⟩
 .obtain ⟨_,hd,xs,_,dd⟩:=fW I.hok e;refine ⟨dd.typeIs,λb q=>?_,hd⟩;cases q;obtain ⟨ob,_,_,h1,h2,_⟩:=dd;exact ⟨ob,h1,h2.2.1⟩
section
variable {X:Cx}{Go:List (Addr×Obj)}{σ:St}{H:Hp}{s:LF}{a:Addr}{y d:V}{u r:Value}{o:Option V}{A:Mn}{E:Value->LF->Prop}
theorem Ib(hu:A.units+1<cLine)(I:Inv X Go σ H s)(g:dG H a y o)(ry:zp y u)(rd:zp d r)(h:∀w' s',Inv X Go σ H s'->zp (o.getD d) w'->Q w' s') :
  LS (LZ X.prog X.w) A (call (.builtin "dict.get") [.ref a,u,r]) Q E s:=by
 rcases g with ⟨kvs,k,e,ey,l⟩|⟨kvs,k,b,e,ey,eb,l⟩
 .subst ey;obtain ⟨z,hd,vs,Zw,dd⟩:=dN I.hok e;refine QF OZ dd.typeIs entry_dict_get (Qs _ _ _) (meets_dict_get_default (ak X.prog X.w) a (eR ry) hd r) ⟨_,dd.mapOf,h _ _ (I.tok _) ?_⟩;rw [l];exact (Zw.val k).getD rd
 .subst ey;cases (show u=LL b from ry);obtain ⟨z,hd,xs,Zw,dd⟩:=fW I.hok e;refine QF OZ dd.typeIs entry_dict_get (Qs _ _ _) (meetsH_dict_get_default (Qi (ak X.prog X.w)) a b hd r) ⟨N0 hu,k,xs,gY I.hok eb,dd,h _ _ (I.tok _) ?_⟩;rw [l];exact (Zw.val k).getD rd
end
section
variable {X:Cx}{o e f:Mw}{Z3 cpos:Pos}{td ty tx:TE}
end
section
variable {X:Cx}{Go:List (Addr×Obj)}{σ:St}{H:Hp}{s:LF}{a:Addr}{kvs:List (Key×V)}{A:Mn}{E:Value->LF->Prop}
theorem Eu(I:Inv X Go σ H s)(e:Rd H a (.dK kvs))(h:∀p s',H p=none->Inv X Go σ (upd H p (.dK kvs)) s'->Q (.ref p) s'):LS (LZ X.prog X.w) A (call (.type "dict") [.ref a]) Q E s:=by
 obtain ⟨z,hd,vs,Zw,dd⟩:=dN I.hok e;refine kt_call_dict hd dd (by rw [<- Zw.length];exact z) λh' dd' hs=>?_;refine h _ _ (I.hok.fresh (we _)) (I.laid (a:=s.heap.objs.size) (o:=.dK kvs) (t':=s.toks) (λb q hq=>?_) (we _) (oN z (beq_eq_false_iff_ne.mpr (L8 (Mx I.big))) Zw dd'));exact (hs.2 b (Mx (L7 hq))).trans (p8 _ hq)
end
section
variable {X:Cx}{Go:List (Addr×Obj)}{σ:St}{H:Hp}{s:LF}{a:Addr}{y:V}{u:Value}{A:Mn}{E:Value->LF->Prop}
end
section
variable {X:Cx}
end
section
variable {κ:Type} [DecidableEq κ]
theorem GG{p:κ×V}{r:List (κ×V)}{k:κ}(e:p.1=k):cj (p::r) k=cj r k:=by
 unfold cj;rw [Oc,if_neg (by simp [e])]
theorem BH{p:κ×V}{r:List (κ×V)}{k:κ}(e : ¬ p.1=k):cj (p::r) k=p::cj r k:=by
 unfold cj;rw [Oc,if_pos (by simp [e])]
end
section
variable {X:Cx}{Go:List (Addr×Obj)}{σ:St}{H:Hp}{s:LF}{a:Addr}{o:Obj}{kvs:List (Key×V)}
theorem Inv.swap{o1 o2:HO}(I:Inv X Go σ H s)(e:H a=some o1)(h1:∀x,o1≠.own x)(h2:∀xs,o1≠.tup xs)(h3:∀ob,o1≠.frz ob (.own 0))(h4:∀ps,o1≠.tbl ps)(h5:∀ob u,X.H₀ a≠some (.frz ob u))
  (new:∀H',af X.prog X.w H' s.heap a o2):Inv X Go σ (upd H a o2) s:=by
 have ne:∀b,H b=none->b≠a:=λb n z=>by subst z;rw [e] at n;cases n
 have kn:∀b,H b=none->upd H a o2 b=none:=λb n=>by rw [ze (ne b n)];exact n
 refine ⟨I.ok,I.os,I.bare,⟨I.base.keep,I.base.slot,λb ob q n hx=>kn b (I.base.free b ob q n hx),I.base.there,λb xs q=>?_,λb ob u q=>?_,λb ps q=>?_⟩,I.loc,I.cell,kn _ I.free,λx c q=>kn c (I.freeC x c q),λp hp=>?_,λb u q=>?_,I.len,?_⟩
 .have z:=I.base.tups b xs q;rw [ze (λy=>by subst y;rw [e] at z;cases z;exact h2 _ rfl)];exact z
 .by_cases hb:b=a
  .subst hb;exact absurd q (h5 ob u)
  .rw [ze hb];exact I.base.frzs b ob u q
 .obtain ⟨more,z⟩:=I.base.tbls b ps q;exact ⟨more,by rw [ze (λy=>by subst y;rw [e] at z;cases z;exact h4 _ rfl)];exact z⟩
 .obtain ⟨p1,p2,p3⟩:=I.pin p hp;exact ⟨p1,kn _ p2,p3⟩
 .by_cases hb:b=a
  .subst hb;rw [zy] at q;cases q;exact new _
  .rw [ze hb] at q;exact (I.hok b u q).stay (λc z _ y=>y) (λc z=>by rw [ze (λy=>by subst y;rw [e] at z;cases z;exact h1 _ rfl)];exact z) (λc xs z=>by rw [ze (λy=>by subst y;rw [e] at z;cases z;exact h2 _ rfl)];exact z)
 .rcases I.hdk with z|⟨b,ob,vs,q1,q2,q3⟩
  .exact .inl z
  .exact .inr ⟨b,ob,vs,q1,by rw [ze (λy=>by subst y;rw [e] at q2;cases q2;exact h3 _ rfl)];exact q2,q3⟩
theorem Inv.freeze(I:Inv X Go σ H s)(e:H a=some (.dK kvs)):(∀ob u,X.H₀ a≠some (.frz ob u))/\∃o,Inv X Go σ (upd H a (.frz o (.dK kvs))) s:=by
 have h5:∀ob u,X.H₀ a≠some (.frz ob u):=λob u q=>by
  have z:=I.base.frzs a ob u q;rw [e] at z;cases z
 refine ⟨h5,?_⟩;obtain ⟨z,hd,vs,Zw,dd⟩:=ng I.hok e;obtain ⟨o,es,ep,ho,r⟩:=id dd;exact ⟨o,I.swap e (λ_ q=>nomatch q) (λ_ q=>nomatch q) (λ_ q=>nomatch q) (λ_ q=>nomatch q) h5 λH'=>⟨ho,z,hd,vs,Zw,dd⟩⟩
theorem Inv.thaw(I:Inv X Go σ H s)(e:H a=some (.frz o (.dK kvs)))(h5:∀ob u,X.H₀ a≠some (.frz ob u)):Inv X Go σ (upd H a (.dK kvs)) s:=by
 obtain ⟨ho,z⟩:=I.hok a _ e;exact I.swap e (λ_ q=>nomatch q) (λ_ q=>nomatch q) (λ_ q=>by injection q with _ q;cases q) (λ_ q=>nomatch q) h5 λH'=>z
end
def lI(a:Addr)(kvs:List (Key×V))(H:Hp)(R:Hp->Prop):Prop:=∃o,H a=some (.frz o (.dK kvs))/\R (upd H a (.dK kvs))
def aL.thaw(D:aL)(a:Addr)(kvs:List (Key×V)):aL:=⟨λσ H=>lI a kvs H (D.nx σ),λv H=>lI a kvs H (D.rt v),λσ H=>lI a kvs H (D.bk σ),λσ H=>lI a kvs H (D.ct σ)⟩
def tFz(t:TS):TS:=λD σ H=>∃a kvs,H a=some (.dK kvs)/\∀o,t (D.thaw a kvs) σ (upd H a (.frz o (.dK kvs)))
theorem FM{t:TS}(h:W (PS X st t)):W (PS X st (tFz t)):=by
 refine ⟨?_⟩;have h:=h.h;rintro Go s σ H D I ⟨a,kvs,e,q⟩;obtain ⟨h5,o,I1⟩:=I.freeze e;refine thn (h Go s σ _ _ I1 (q o)) λf s' z=>?_;cases f with
 | next=>obtain ⟨σ',H',I',o',e',d⟩:=z;exact ⟨σ',_,I'.thaw e' h5,d⟩
 | brk=>obtain ⟨σ',H',I',o',e',d⟩:=z;exact ⟨σ',_,I'.thaw e' h5,d⟩
 | cont=>obtain ⟨σ',H',I',o',e',d⟩:=z;exact ⟨σ',_,I'.thaw e' h5,d⟩
 | ret u=>obtain ⟨v,σ',H',I',r,o',e',d⟩:=z;exact ⟨v,σ',_,I'.thaw e' h5,r,d⟩
theorem KV.at{kvs:List (Key×V)}{vs:List (Key×Value)}(r:KV kvs vs):∀{i:Nat}{p:Key×V},kvs[i]?=some p->∃u,vs[i]?=some (p.1,u)/\zp p.2 u:=by
 induction r with
 | nil=>intro i p h;simp at h
 | @cons x y l m r t ih =>
  intro i p h;cases i with
  | zero =>
   have e:x=p:=by simpa using h
   subst e;exact ⟨y.2,by rw [r.1];rfl,r.2⟩
  | succ i=>exact ih (by simpa using h)
def Itd(a:Addr)(o:Obj)(kvs:List (Key×V)):It:=⟨λi H=>H a=some (.frz o (.dK kvs))/\i<kvs.length,λi H x H'=>H'=H/\∃p,kvs[i]?=some p/\x=kV p.1,λi H=>H a=some (.frz o (.dK kvs))/\kvs.length<=i⟩
theorem ql{o:Obj}{kvs:List (Key×V)}{es:Array Qu}{ep:Nat}(I:Inv X Go σ H s)(e:H a=some (.frz o (.dK kvs)))(hd:o.data = .dict es ep) :
  (a==sysModules)=false/\∃vs,KV kvs vs/\s.heap.DictAt (ak X.prog X.w) a vs ep/\vs.length=kvs.length:=by
 obtain ⟨ho,z,hm,vs,Zw,o',es',ep',Yu,hc,hd',r⟩:=I.hok a _ e;rw [ho] at Yu;cases Yu;rw [hd] at hd';cases hd';exact ⟨hm,vs,Zw,⟨o,es,ho,hc,hd,r⟩,Zw.length.symm⟩
theorem DF{o:Obj}{kvs:List (Key×V)}(I:Inv X Go σ H s)(e:H a=some (.frz o (.dK kvs))):∃es ep,o.data = .dict es ep:=by
 obtain ⟨ho,z,hm,vs,Zw,o',es',ep',Yu,hc,hd',r⟩:=I.hok a _ e;rw [ho] at Yu;cases Yu;exact ⟨_,_,hd'⟩
theorem CJ(a it:Addr){o:Obj}{kvs:List (Key×V)}{es:Array Qu}{ep:Nat}(hd:o.data = .dict es ep):dj true P w K tg (Itd a o kvs) [it] it (λi h=>h.IsKeyIter it a i kvs.length ep) where
 mem:=by simp
 obj:=λi h st b hb=>by
  have e:b=it:=by simpa using hb
  subst e;obtain ⟨o,e,c,d⟩:=st;exact ⟨o,e,λv z=>by rw [d] at z;cases z⟩
 keep:=λi h h' st k=>st.at λo e=>k it (by simp) o e
 item:=by
  intro X hP hw hK hc i Go s σ H E I hf st hg;subst hP hw hK;obtain ⟨hq,hi⟩:=hg;obtain ⟨hm,vs,Zw,dd,hl⟩:=ql I hq hd;obtain ⟨p,hp⟩:∃p,kvs[i]?=some p:=⟨kvs[i],by simp [hi]⟩;obtain ⟨u,hu,ru⟩:=Zw.at hp;obtain ⟨f0,f1,f2,f3,f4,f5⟩:=hf it (by simp);rw [<- hl] at st;refine wpAny_pyNext_dict_item st dd hu λkey h' hk YR sb=>?_;rw [hl] at YR;have I1:Inv X Go σ H { s with heap:=h' }:=I.turned (t':=s.toks) (λb o hb e=>(sb.2 b hb).trans e) f0 f1 f3 f4 f5;have rk:zp (kV p.1) key:=by
   rcases cY (show dQ p.1 key=true from hk) with ⟨j,t,e1,e2⟩|⟨x,t,e1,e2⟩
   .rw [e1,e2];exact ⟨t,rfl⟩
   .rw [e1,e2];exact ⟨t,rfl⟩
  obtain ⟨o,e,c,d⟩:=id YR;exact ⟨key,rfl,gv (s:={ s with heap:=h' }) e c d (by decide) ⟨kV p.1,H,I1,rk,⟨rfl,p,hp,rfl⟩,YR,λb hb=>(hf b hb).1⟩⟩
 done:=by
  intro X hP hw hK hc i Go s σ H E I hf st hg;subst hP hw hK;obtain ⟨hq,hi⟩:=hg;obtain ⟨hm,vs,Zw,dd,hl⟩:=ql I hq hd;obtain ⟨f0,f1,f2,f3,f4,f5⟩:=hf it (by simp);rw [<- hl] at st;exact wpAny_pyNext_dict_end (I.ok.hd (hc rfl)) st dd (Nn (by lia)) λh' eb=>⟨rfl,I.turned (t':=s.toks) (λb o hb e=>eb b o hb e) f0 f1 f3 f4 f5⟩
 self:=λ_ _ _ _ _ st h=>wpAny_pyIter_keyiter st h
section
variable {X:Cx}{tg:Mw}
def mH(tl:TE):TI:=λσ H R=>tl σ H λx H1=>∃a o kvs,x = .ref a/\H1 a=some (.frz o (.dK kvs))/\R (Itd a o kvs) H1
theorem BU(hl:W (PE X l tl)):W (PI X tg l (mH tl)):=by
 refine ⟨?_⟩;have hl:=hl.h;intro Go s σ H R I h;refine thn (hl Go s σ H _ I h) λv s1=>x5e λx H1 I1 r1 q1=>?_;obtain ⟨a,o,kvs,e,hq,q⟩:=q1;subst e;cases r1;obtain ⟨es,ep,hd⟩:=DF I1 hq;obtain ⟨hm,vs,Zw,dd,hl⟩:=ql I1 hq hd;refine wpAny_pyIter_dict hm dd ?_;rw [hl];refine ⟨s1.heap.objs.size,[s1.heap.objs.size],_,_,H1,rfl,I1.kept (t':=s1.toks) λb o e=>p8 _ e,CJ a _ hd,⟨_,LW _ rfl,rfl,rfl⟩,λb hb=>?_,q⟩;have e:b=s1.heap.objs.size:=by simpa using hb
 subst e;exact I1.fpOk (we _) (I1.hok.fresh (we _))
end
def uK(y:V)(q:Key->Prop):Prop:=∃k,y=kV k/\q k
theorem GO{q:Key->Prop}:uK (.str z) q=q (.inr z):=by
 apply propext;constructor
 .rintro ⟨k,e,h⟩;cases k with
  | inl i=>cases e
  | inr x=>cases e;exact h
 .exact λh=>⟨.inr z,rfl,h⟩
theorem Ca{q:Key->Prop}:uK (.int i) q=q (.inl i):=by
 apply propext;constructor
 .rintro ⟨k,e,h⟩;cases k with
  | inl i=>cases e;exact h
  | inr x=>cases e
 .exact λh=>⟨.inl i,rfl,h⟩
section
variable {X:Cx}
def oy:R2:=λx y H Q=>∃a k kvs v,x = .ref a/\y=kV k/\Rd H a (.dK kvs)/\zW kvs k=some v/\Q v H
theorem jN(hu:X.A.units+1<cLine):IxR X oy:=by
 intro ZN Zb Go s σ H x y v u Q I rx ry h hs;obtain ⟨a,k,kvs,z,rfl,rfl,hq,he,q⟩:=h;obtain rfl:v=LL a:=rx;have g:dG H a (kV k) (some z):=.inl ⟨kvs,k,hq,rfl,he.symm⟩;unfold subscriptTail;refine fv ?_;rw [getitemInPython_of_ne (ym I g).not_modules];refine fv (wpAny_specialOf (ym I g) PySem.F.slot_dict_getitem.lookup ?_);have YG:LS (LZ X.prog X.w) X.A (subscripted Zb false (.ref a) u) (λr s₃=>LS (LZ X.prog X.w) X.A (letTemporaryGo ZN (.ref a) r>>=λ_=>pure r) (EP X Go σ Q) X.xe s₃) X.xe s:=by
  rw [hs];exact wpAny_operating (Ic hu I g ry λw' s3 I3 XU=>fv (wpAny_letTemporaryGo (LJ ⟨z,H,I3,XU,q⟩)))
 first
  | exact LJ (fv YG)
  | exact fv (LJ (fv YG))
  | exact fv YG
def kT(c:Bool):R2:=λy x H Q=>∃a k kvs,x = .ref a/\y=kV k/\Rd H a (.dK kvs)/\Q (.bl (if c then !(zW kvs k).isSome else (zW kvs k).isSome)) H
theorem Jp(hu:X.A.units+1<cLine):OpR X (MA .In) (kT false):=by
 intro Go s σ H x y v u Q I rx ry h;obtain ⟨a,k,kvs,rfl,rfl,hq,q⟩:=h;obtain rfl:u=LL a:=ry;exact FY hu I (.inl ⟨kvs,k,hq,rfl,rfl⟩) rx λs3 I3=>⟨.bl (zW kvs k).isSome,H,I3,rfl,q⟩
theorem GI(hu:X.A.units+1<cLine):OpR X (MA .NotIn) (kT true):=by
 intro Go s σ H x y v u Q I rx ry h;obtain ⟨a,k,kvs,rfl,rfl,hq,q⟩:=h;obtain rfl:u=LL a:=ry;exact Fu hu I (.inl ⟨kvs,k,hq,rfl,rfl⟩) rx λs3 I3=>⟨.bl (!(zW kvs k).isSome),H,I3,rfl,q⟩
theorem EG{p:Addr}{Q:VK}:kT c (.str x) (.ref p) H Q = ∃kvs,Rd H p (.dK kvs)/\Q (.bl (if c then !(zW kvs (.inr x)).isSome else (zW kvs (.inr x)).isSome)) H:=by
 apply propext;constructor
 .rintro ⟨a,k,kvs,e1,e2,h,q⟩;cases e1;cases k with
  | inl i=>cases e2
  | inr x=>cases e2;exact ⟨kvs,h,q⟩
 .rintro ⟨kvs,h,q⟩;exact ⟨p,.inr x,kvs,rfl,rfl,h,q⟩
def ir:V->V->V->Hp->(Hp->Prop)->Prop:=λo i v H Q=>qC o i v H Q\/∃a k kvs,o = .ref a/\i=kV k/\H a=some (.dK kvs)/\kvs.length<sizeLine/\Q (upd H a (.dK (aG kvs k v)))
theorem lE(hu:X.A.units+1<cLine):oo X ir:=by
 intro Go s σ H o i v ov iv u Q I ro ri rv h;rcases h with h|⟨a,k,kvs,rfl,rfl,e,l,q⟩
 .exact gZ Go s σ H o i v ov iv u Q I ro ri rv h
 .obtain rfl:ov=LL a:=ro;exact Du hu I (.inl ⟨kvs,k,e,rfl,l,rfl⟩) ri rv λs' I'=>⟨_,I',q⟩
theorem Lh{Q:Hp->Prop}:ir (.ref a) (.str z) v H Q = ∃kvs,H a=some (.dK kvs)/\kvs.length<sizeLine/\Q (upd H a (.dK (aG kvs (.inr z) v))):=by
 apply propext;constructor
 .rintro (⟨_,_,_,_,_,e,_⟩|⟨a',k,kvs,e1,e2,h,l,q⟩)
  .cases e
  .cases e1;cases k with
   | inl i=>cases e2
   | inr x=>cases e2;exact ⟨kvs,h,l,q⟩
 .rintro ⟨kvs,h,l,q⟩;exact .inr ⟨a,.inr z,kvs,rfl,rfl,h,l,q⟩
theorem xX{Q:Hp->Prop}:ir (.ref a) (.int i) v H Q=((∃xs j,H a=some (.lst xs)/\ixN xs.length i=some j/\Q (upd H a (.lst (xs.set j v))))\/∃kvs,H a=some (.dK kvs)/\kvs.length<sizeLine/\Q (upd H a (.dK (aG kvs (.inl i) v)))):=by
 apply propext;unfold ir;rw [rp];constructor
 .rintro (h|⟨a',k,kvs,e1,e2,h,l,q⟩)
  .exact .inl h
  .cases e1;cases k with
   | inl i=>cases e2;exact .inr ⟨kvs,h,l,q⟩
   | inr x=>cases e2
 .rintro (h|⟨kvs,h,l,q⟩)
  .exact .inl h
  .exact .inr ⟨a,.inl i,kvs,rfl,rfl,h,l,q⟩
def xn(td ty:TE):TS:=λD σ H=>td σ H λx H1=>ty σ H1 λy H2=>uR x λa=>uK y λk=>∃kvs,H2 a=some (.dK kvs)/\(zW kvs k).isSome=true/\D.nx σ (upd H2 a (.dK (cj kvs k)))
theorem Cy{i:Mw}{Xk:Pos}(ho:W (PE X o td))(hi:W (PE X i ty)):W (PS X (.Delete [.Subscript o i Xk] pos) (xn td ty)):=by
 refine ⟨?_⟩;have ho:=ho.h;have hi:=hi.h;intro Go s σ H D I h;refine wpAny_Delete (wpAny_deleteEach_cons (wpAny_delete_Subscript (thn (ho Go s σ H _ I h) λu s1=>x5e λx H1 I1 rx q1=>thn (hi Go s1 σ H1 _ I1 q1) λiv s2=>x5e λy H2 I2 ry Ys=>?_)));obtain ⟨a,ex,k,ey,kvs,e,l,q2⟩:=Ys;subst ex ey;obtain rfl:u=LL a:=rx;exact CG I2 e ry l λs3 I3=>wpAny_deleteEach_nil ⟨σ,_,I3,q2⟩
theorem IZ:xn td ty D σ H=td σ H λx H1=>ty σ H1 λy H2=>uR x λa=>uK y λk=>∃kvs,H2 a=some (.dK kvs)/\(zW kvs k).isSome=true/\D.nx σ (upd H2 a (.dK (cj kvs k))):=rfl
def vN(td ty tx:TE):TE:=λσ H Q=>td σ H λx H1=>uR x λa=>(∃kvs,Rd H1 a (.dK kvs))/\ty σ H1 λy H2=>tx σ H2 λz H3=>uK y λk=>∃kvs,Rd H3 a (.dK kvs)/\Q ((zW kvs k).getD z) H3
theorem Fi{tx:TE}{Q:VK}:vN td ty tx σ H Q=td σ H λx H1=>uR x λa=>(∃kvs,Rd H1 a (.dK kvs))/\ty σ H1 λy H2=>tx σ H2 λz H3=>uK y λk=>∃kvs,Rd H3 a (.dK kvs)/\Q ((zW kvs k).getD z) H3:=rfl
theorem yC{f:Mw}{tx:TE}(hu:X.A.units+1<cLine)(ho:W (PE X o td))(he:W (PE X e ty))(hf:W (PE X f tx))(m:M2 X o "get" Z3 e f cpos:=by exact ⟨rfl,rfl,rfl,rfl⟩):W (PE X (.Call (.Attribute o "get" Z3) [e,f] [] cpos) (vN td ty tx)):=by
 refine ⟨?_⟩;have ho:=ho.h;have he:=he.h;have hf:=hf.h;intro Go s σ H Q I h;refine wpAny_Call_method m.base m.few m.line Qq OZ PySem.F.type_dict_get (thn (ho Go s σ H _ I h) λu s1=>x5e λx H1 I1 rx Xy=>?_);obtain ⟨a,ex,d,q1⟩:=Xy;subst ex;obtain rfl:u=LL a:=rx;obtain ⟨t1,t2,_⟩:=Km I1 (.inl d);refine ⟨t1,t2,?_⟩;rw [m.trees];refine Calls.callWith_builtin rfl (Calls.evalArgs_plain (Calls.spliced_cons (thn (he Go s1 σ H1 _ I1 q1) λiv s2=>x5e λy H2 I2 ry q2 =>
  Calls.spliced_cons (thn (hf Go s2 σ H2 _ I2 q2) λfv s3=>x5e λz H3 I3 rz zz3=>Calls.spliced_nil ?_))))
 obtain ⟨k,ey,kvs,g,q3⟩:=zz3;subst ey;exact Ib hu I3 (.inl ⟨kvs,k,g,rfl,rfl⟩) ry rz λw' s4 I4 XU=>⟨_,H3,I4,XU,q3⟩
end
end L2
namespace L2
open PySem PySem.Spec PyProof.Rows PySem.W PySem.Calls
def leS(a b:Str):Prop:=ltCps b.cps.toList a.cps.toList=false
theorem Li{a b:Str}(h1:leS a b)(h2:leS b a):a=b:=by
 unfold leS at h1 h2;rw [ltCps_eq] at h1 h2;exact lg (NL.total a.cps.toList b.cps.toList h2 h1)
theorem wL:∀{l:List Str},sortedS l=true->l.Pairwise leS:=by
 have key:∀(r:List Str)(x:Str),risingS x r=true->(x::r).Pairwise leS:=by
  intro r
  induction r with
  | nil=>intro x _;simp
  | cons y r ih =>
   intro x h;have h':(!ltCps y.cps.toList x.cps.toList&&risingS y r)=true:=h;rw [Mu,Bool.not_eq_true'] at h';have ihy:=ih y h'.2;refine MS.mpr ⟨λz hz=>?_,ihy⟩;rcases LI.mp hz with rfl|hz
   .exact h'.1
   .have yz:=(MS.mp ihy).1 z hz;unfold leS at yz ⊢;have xy:=h'.1;rw [ltCps_eq] at yz xy ⊢;exact KeyOrd.kle_trans (O:=NL.toKeyOrd) xy yz
 intro l h;cases l with
 | nil=>exact .nil
 | cons x r=>exact key r x h
theorem xK:∀{l m:List Str},l.Perm m->l.Pairwise leS->m.Pairwise leS->l=m
 | [],m,p,_,_=>(OG.nil_eq p)
 | x::l,[],p,_,_=>absurd p.length_eq (by simp)
 | x::l,y::m,p,hl,hm=>by
  have e:x=y:=by
   have h1:x∈y::m:=p.mem_iff.mp (Mc ..);have h2:y∈x::l:=p.mem_iff.mpr (Mc ..);rcases LI.mp h1 with e|h1
   .exact e
   .rcases LI.mp h2 with e|h2
    .exact e.symm
    .exact Li ((MS.mp hl).1 y h2) ((MS.mp hm).1 x h1)
  subst e;rw [xK ((List.perm_cons x).mp p) (MS.mp hl).2 (MS.mp hm).2]
open Classical in
noncomputable def cS(ks:List Str):List Str:=if h:∃ss:List Str,ss.Perm ks/\sortedS ss=true then h.choose else ks
theorem ud{ks ss:List Str}(p:ss.Perm ks)(h:sortedS ss=true):ss=cS ks:=by
 have ex:∃ss:List Str,ss.Perm ks/\sortedS ss=true:=⟨ss,p,h⟩;unfold cS;rw [dif_pos ex];exact xK (p.trans ex.choose_spec.1.symm) (wL h) (wL ex.choose_spec.2)
section
variable {X:Cx}
def sA:List V->Hp->VK->Prop:=λxs H Q=>uR1 xs λa=>∃kvs,Rd H a (.dK kvs)/\∀p H2,New H p (.dK kvs) H2->Q (.ref p) H2
theorem LC{a:Addr}{H:Hp}{Q:VK}:sA [.ref a] H Q = ∃kvs,Rd H a (.dK kvs)/\∀p H2,New H p (.dK kvs) H2->Q (.ref p) H2:=fR
theorem vP:zN X (.type "dict") sA:=by
 intro Go s σ H xs us Q I r h;obtain ⟨a,rfl,kvs,ha,q⟩:=h;obtain ⟨u,rfl,ru⟩:=bY r;cases ru;exact Eu I ha λp s' hn I'=>⟨.ref p,_,I',rfl,q _ _ (.mk' hn)⟩
def sk(kvs:List (Str×V)):List (Key×V):=kvs.map λp=>(.inr p.1,p.2)
def rP:List V->Hp->VK->Prop:=λxs H Q=>uR1 xs λa=>∃kvs:List (Str×V),Rd H a (.dK (sk kvs))/\kvs.length<64/\∀p H2,New H p (.lst ((cS (kvs.map (·.1))).map V.str)) H2->Q (.ref p) H2
theorem GZ{a:Addr}{H:Hp}{Q:VK}:rP [.ref a] H Q = ∃kvs:List (Str×V),Rd H a (.dK (sk kvs))/\kvs.length<64/\∀p H2,New H p (.lst ((cS (kvs.map (·.1))).map V.str)) H2->Q (.ref p) H2:=fR
theorem yh:∀{vs:List Value}{ss:List Str},vs.length=ss.length->(∀(j:Nat)(v:Value),vs[j]?=some v->∃t,v=Pq (ss.getD j "") t)->StrsAre vs ss
 | [],[],_,_=>.nil
 | [],_::_,h,_=>absurd h (by simp)
 | _::_,[],h,_=>absurd h (by simp)
 | v::vs,x::ss,h,f=>by
  obtain ⟨t,e⟩:=f 0 v rfl;have e':v=Pq x t:=e;rw [e'];exact .cons x t (yh (by simpa using h) λj u hu=>f (j+1) u hu)
theorem vM:∀{vs:List Value}{ss:List Str},StrsAre vs ss->zq (ss.map V.str) vs
 | _,_,.nil=>.nil
 | _,_,.cons x t h=>.cons ⟨t,rfl⟩ (vM h)
theorem IY(hc:X.calm=true):zN X (.builtin "sorted") rP:=by
 intro Go s σ H xs us Q I r h;obtain ⟨a,rfl,kvs,hq,XO,q⟩:=h;obtain ⟨u,rfl,ru⟩:=bY r;cases ru;obtain ⟨z,hd,vs,Zw,dd⟩:=dN I.hok hq;obtain ⟨ep,hat⟩:=dd.dictAt;have Z5:vs.length=kvs.length:=by rw [<- Zw.length];simp [sk]
 refine call_function_entry kind_sorted plain_sorted entry_sorted (args_sorted1 _) ?_;unfold L5.«sorted»
 refine fv (m:=checkCount "sorted" 1 1 _) (LJ ?_);refine fv (kdu_collect (A:=X.A.in1) (kdl_dict (knd:=ak X.prog X.w) (kvs:=vs) (ep:=ep) hd) (I.ok.hd hc) hat (by rw [Z5,ML];lia) λh' tk Zi hk Ya=>?_);have hl:Zi.toList.length=kvs.length:=by rw [NP,<- Z5];exact Ya.1
 have hS:StrsAre Zi.toList (kvs.map (·.1)):=yh (by rw [hl,KE]) λj v hv=>by
  obtain ⟨k,x,hx,hk⟩:=Ya.2 j v (by rw [<- Pi];exact hv);have hj:j<vs.length:=(LH.mp hx).1;have hj':j<kvs.length:=by lia
  have e2:(sk kvs)[j]?=some (.inr kvs[j].1,kvs[j].2):=by simp [sk,hj']
  obtain ⟨u',hu',_⟩:=Zw.at e2;rw [hx] at hu';cases hu';rcases cY (show dQ (Sum.inr kvs[j].1) v=true from hk) with ⟨i,t,e1,e2⟩|⟨y,t,e1,e2⟩
  .cases e1
  .cases e1;exact ⟨t,by rw [e2,LG,L6,il hj'];rfl⟩
 have I1:Inv X Go σ H { s with heap:=h',toks:=tk }:=I.kept hk;refine fv (PZ ?_ (by rw [hl,ML];lia));have Xq:(h'.push (Nk "list" Zi.toList.toArray 0)).get? h'.objs.size=some (Nk "list" Zi.toList.toArray 0):=LW _ rfl;refine fv (Mt (MO slot_list_sort ⟨_,Xq,rfl⟩ entry_list_sort (list_sort_treeK strKind_oneLt Xq hS.keysOf (λv₁ v₂ Y9 e=>keyKind_strs (by rw [<- e];exact hS)) (by rw [hl];exact XO) λYR a1 a2=>⟨_,rfl,?_⟩) (args_list_sort _)));obtain ⟨ss',b1,b2,b3⟩:=sorted_out_str hS a1 a2;have e3:=ud b2 b3;subst e3;obtain ⟨c,hcz⟩:=sortedHeap_at (vs:=Zi.toList) (out:=(arrOf YR).map (·.2)) Xq;refine LJ ⟨_,rfl,.ref h'.objs.size,upd H h'.objs.size (.lst ((cS (kvs.map (·.1))).map V.str)),I1.laid (a:=h'.objs.size) (t':=tk) (λb o e=>?_) (we _) ⟨?_,((arrOf YR).map (·.2)).toList,c,vM b1,by rw [Array.toArray_toList];exact hcz⟩,rfl,q _ _ (.mk' (I1.hok.fresh (we _)))⟩
 .have hb:b<h'.objs.size:=L7 e;rw [sortedHeap_old (Mx hb) (by rw [Py];exact N7 hb)];exact p8 _ e
 .have:=b2.length_eq;rw [KE,this,KE,ML];lia
end
end L2
namespace HT
open PySem PySem.Spec PyProof.Rows PySem.Calls
section
variable {prog:LV}{w:Mf}{A:Mn}{E:Value->LF->Prop}{s:LF}
theorem getItem_tuple_whole{t sl:Addr}{items:Array Value}{vl vu:Value}{lo hi:Option Int}{Q:Value->LF->Prop}(ht:PY s.heap t items)(hs:s.heap.IsSliceOf sl vl vu .none)(pl:PN vl lo)(pu:PN vu hi)
  (h0:sIx items.size 0 lo=0) (h1:sIx items.size items.size hi=items.size)
  (h:Q (.ref t) s):LS (LZ prog w) A (QC (.ref t) (.ref sl)) Q E s:=by
 obtain ⟨os,hos,hcs,hds⟩:=id hs;have hTs:s.TypeIs (.ref sl) "slice":=⟨os,hos,hcs⟩;unfold QC
 try with_reducible refine Mt ?_
 first|refine fv (LJ ?_)|skip
 refine fv (wpAny_sequenceKey ht.typeIs (by decide) ?_);refine fv (ME (name:=vv "__getitem__") ht.typeIs MK
  (MO MK ht.typeIs entry_tuple_getitem ?_ (args_tuple_getitem _ _)))
 show LS _ _ (L5.Tuple.tupleItemsOf (.ref t)>>=_) _ _ s;refine fv (tupleItemsOf_ ht ?_);refine fv (Qv hTs ?_);rw [if_pos (by decide)];refine fv (xw hs pl pu ?_);have hyes:(((sIx items.size 0 lo:Nat):Int)==0&&(1:Int)==1&&(sIx items.size items.size hi-sIx items.size 0 lo)==items.size)=true:=by
  rw [h0,h1];simp
 show LS _ _ (if (((sIx items.size 0 lo:Nat):Int)==0&&(1:Int)==1&&(sIx items.size items.size hi-sIx items.size 0 lo)==items.size)=true then _ else _) _ _ s;rw [if_pos hyes];have hex:∀{R:Bool->LF->Prop}{A':Mn}{E':Value->LF->Prop},R true s->LS (LZ prog w) A' (L5.Tuple.tupleIsExact (.ref t)) R E' s:=λ{R A' E'} hr=>by
  unfold L5.Tuple.tupleIsExact
  first
   | exact fv (Qv ht.typeIs (LJ hr))
   | exact wpAny_map (Qv ht.typeIs hr)
 refine fv (hex ?_)
 first
  | exact fv (NN (fv (LJ (LJ ⟨_,rfl,LJ h⟩))))
  | exact fv (NN (LJ ⟨_,rfl,LJ h⟩))
  | exact fv (NN (fv (LJ ⟨_,rfl,LJ h⟩)))
end
end HT
namespace L2
open PySem PySem.Spec PyProof.Rows PySem.W PySem.Calls
variable{H:Hp}{Q:VK}
section
variable {X:Cx}
def iZ:V->Option Int->Option Int->Hp->VK->Prop:=λx lo hi H Q=>uSl x lo hi H Q\/∃a xs,x = .ref a/\H a=some (.tup xs)/\∀p H2,zl H H2->H2 p=some (.tup (aU xs lo hi))->Q (.ref p) H2
theorem pH:SlR X iZ:=by
 intro Go s σ H x v vl vu lo hi sl Q I rx hs pl pu h;rcases h with h|⟨a,xs,rfl,hx,q⟩
 .exact fG Go s σ H x v vl vu lo hi sl Q I rx hs pl pu h
 .by_cases hw:HT.sIx xs.length 0 lo=0/\HT.sIx xs.length xs.length hi=xs.length
  .cases rx;obtain ⟨its,r,ht,hz⟩:=I.tuple (SqT.of hx);have Z5:its.toArray.size=xs.length:=by rw [LY];exact r.length.symm
   refine ⟨"tuple",_,MK.lookup,ht.typeIs,?_⟩;refine HT.getItem_tuple_whole ht hs pl pu (by rw [Z5];exact hw.1) (by rw [Z5];exact hw.2) ⟨.ref a,H,I,rfl,q a H (zl.refl _) ?_⟩;rw [hx];unfold aU;rw [hw.1,hw.2];simp
  .exact HV Go s σ H _ v vl vu lo hi sl Q I rx hs pl pu ⟨a,xs,rfl,SqT.of hx,hw,λp hp=>q p _ (New.mk' (o:=.tup (aU xs lo hi)) hp).same zy⟩
theorem DA{z:Str}{lo hi:Option Int}:iZ (.str z) lo hi H Q=(z.length<=sizeLine/\Q (.str (Txt.slice z lo hi)) H):=by simp [iZ,uu]
theorem Lp{a:Addr}{lo hi:Option Int}:iZ (.ref a) lo hi H Q=((∃xs,H a=some (.lst xs)/\∀p H2,New H p (.lst (aU xs lo hi)) H2->Q (.ref p) H2)\/∃xs,H a=some (.tup xs)/\∀p H2,zl H H2->H2 p=some (.tup (aU xs lo hi))->Q (.ref p) H2):=by
 unfold iZ;rw [mK];apply propext;constructor
 .rintro (h|⟨a',xs,e,h⟩)
  .exact .inl h
  .cases e;exact .inr ⟨xs,h⟩
 .rintro (h|⟨xs,h⟩)
  .exact .inl h
  .exact .inr ⟨a,xs,rfl,h⟩
def i7:R2:=λx y H Q=>∃a b xs ys,x = .ref a/\y = .ref b/\H a=some (.tup xs)/\H b=some (.tup ys)/\xs.length+ys.length<=sizeLine/\∀p H2,zl H H2->H2 p=some (.tup (xs++ys))->Q (.ref p) H2
theorem JA:OpR X (Nl .Add) i7:=by
 intro Go s σ H x y v u Q I rx ry h;obtain ⟨a,b,xs,ys,rfl,rfl,ha,hb,hz,q⟩:=h;by_cases hx:xs=[]
 .cases rx;cases ry;obtain ⟨its,r1,p1,_⟩:=I.tuple (SqT.of ha);obtain ⟨Xi,r2,p2,_⟩:=I.tuple (SqT.of hb);obtain ⟨⟨cls,dd,data,sl⟩,ho,hc,n,hd⟩:=id p1;obtain ⟨⟨cls2,Xj,data2,sl2⟩,ho2,hc2,n2,hd2⟩:=id p2;simp only at hc hd hc2 hd2;subst hc hd hc2 hd2;have hi:its=[]:=r1.nil_iff.mpr hx;exact concat_meets ⟨_,ho,rfl⟩ ⟨_,ho2,rfl⟩ noFill_tuple_add seq_tuple_add slot_tuple_add entry_tuple_add (args_tuple_add_2 _ _)
   (tuple_addW0 a b its.toArray Xi.toArray n n2 dd Xj sl sl2 (by simp [hi])) ⟨ho,ho2,⟨.ref b,H,I,rfl,q b H (zl.refl _) (by rw [hb,hx];rfl)⟩⟩
 .exact EC Go s σ H _ _ v u Q I rx ry ⟨a,b,xs,ys,rfl,rfl,SqT.of ha,SqT.of hb,hx,hz,λe=>q a H (zl.refl _) (by rw [ha,e,Nw]),λ_ p hp=>q p _ (New.mk' (o:=.tup (xs++ys)) hp).same zy⟩
def fC:R2:=λx y H Q=>c0 x y H Q\/i7 x y H Q
theorem ja:OpR X (Nl .Add) fC:=aS.or JA
theorem BN{i j:Int}:fC (.int i) (.int j) H Q=Q (.int (i+j)) H:=by simp [fC,i7,c0]
theorem Iu{i j:Str}:fC (.str i) (.str j) H Q=(i.length+j.length<=sizeLine/\Q (.str (i++j)) H):=by simp [fC,i7,c0]
theorem Hg{a b:Addr}:fC (.ref a) (.ref b) H Q=((∃xs zs,H a=some (.lst xs)/\H b=some (.lst zs)/\xs.length+zs.length<=sizeLine/\∀p H2,New H p (.lst (xs++zs)) H2->Q (.ref p) H2) \/
  ∃xs ys,H a=some (.tup xs)/\H b=some (.tup ys)/\xs.length+ys.length<=sizeLine/\∀p H2,zl H H2->H2 p=some (.tup (xs++ys))->Q (.ref p) H2):=by
 unfold fC;rw [eI];apply propext;constructor
 .rintro (h|⟨a',b',xs,ys,e1,e2,h⟩)
  .exact .inl h
  .cases e1;cases e2;exact .inr ⟨xs,ys,h⟩
 .rintro (h|⟨xs,ys,h⟩)
  .exact .inl h
  .exact .inr ⟨a,b,xs,ys,rfl,rfl,h⟩
def tY:List V->Hp->VK->Prop:=λxs H Q=>∃i j,xs=[.int i,.int j]/\(0<j/\j<2 ^ 64)/\∀p H2,New H p (.tup [.int (i / j),.int (i % j)]) H2->Q (.ref p) H2
theorem II{i j:Int}:tY [.int i,.int j] H Q=((0<j/\j<2 ^ 64)/\∀p H2,New H p (.tup [.int (i / j),.int (i % j)]) H2->Q (.ref p) H2):=by
 apply propext;constructor
 .rintro ⟨i',j',e,h⟩;cases e;exact h
 .exact λh=>⟨i,j,rfl,h⟩
theorem B8:zN X (.builtin "divmod") tY:=by
 intro Go s σ H xs us Q I r h;obtain ⟨i,j,rfl,⟨h1,h2⟩,q⟩:=h;obtain ⟨u,w',rfl,⟨t,rfl⟩,⟨t',rfl⟩⟩:=mz r;have hlog:j.natAbs.log2<9000:=by
  have:j.natAbs.log2<64:=(Nat.log2_lt (by lia)).mpr (by lia);lia
 refine divmod_int (by lia) ?_ (.inl (PyProof.noPylong_of_log2 hlog));rw [Int.fdiv_eq_ediv_of_nonneg i (by lia),Int.fmod_eq_emod_of_nonneg i (by lia)];have hn:H s.heap.objs.size=none:=I.hok.fresh (we _);refine ⟨.ref s.heap.objs.size,_,?_,rfl,q _ _ (.mk' hn)⟩;refine I.laid (λb o e=>p8 _ e) (we _) ⟨by simp only [MW,Oz];rw [ML];decide,[.int (i / j) s.toks,.int (i % j) (s.toks+1)],.cons ⟨_,rfl⟩ (.cons ⟨_,rfl⟩ .nil),?_⟩;exact ⟨_,LW s.heap rfl,rfl,0,rfl⟩
def uX:TS:=λ_ _ _=>False
theorem gL{st:Stmt}:W (PS X st uX):=⟨λ_ _ _ _ _ _ h=>h.elim⟩
end
section
variable {K:LK}{g:TG}{tb:TS}{D:aL}{σ:St}{H:Hp}{tl:TE}{R:It->Hp->Prop}{tt:TT}{te:TE}{Q:VK}{a:Addr}{o:Obj}{kvs:List (Key×V)}
theorem A1:mH tl σ H R=tl σ H λx H1=>uR x λa=>∃o kvs,H1 a=some (.frz o (.dK kvs))/\R (Itd a o kvs) H1:=by
 unfold mH uR;congr;funext x H1;apply propext;constructor
 .rintro ⟨a,o,kvs,e,h⟩;exact ⟨a,e,o,kvs,h⟩
 .rintro ⟨a,e,o,kvs,h⟩;exact ⟨a,o,kvs,e,h⟩
theorem zS.dct{τ:St}(Pv:Nat->St->List V->Hp->Prop)(hz:∀i τ ys H,Pv i τ ys H->ys.length<sizeLine)(ha:∀i τ ys H,Pv i τ ys H->H a=some (.frz o (.dK kvs)))(h0:Pv 0 τ [] H)
  (hs:∀(N:St->List V->Hp->Prop) i p τ ys H,kvs[i]?=some p->Pv i τ ys H->(∀τ ys H,Pv (i+1) τ ys H->N τ ys H)->g (kV p.1) τ H λτ1 H4=>tt τ1 H4 λok H5=>dJ N ys τ1 te ok H5) (hd:∀τ ys H,Pv kvs.length τ ys H->∀D H',New H D (.lst ys) H'->Q (.ref D) H'):zS (Itd a o kvs) g tt te τ H Q:=by
 refine ⟨λi m τ ys H=>m=kvs.length-i/\i<=kvs.length/\Pv i τ ys H,⟨kvs.length,by simp,MM _,h0⟩,?_⟩;rintro i m τ ys H2 ⟨rfl,hi,p⟩;refine ⟨hz i τ ys H2 p,?_⟩;have q:=ha i τ ys H2 p;by_cases ZO:i<kvs.length
 .refine .inr ⟨⟨q,ZO⟩,λx H' y=>?_⟩;obtain ⟨e,z,hz,ex⟩:=y;subst e ex;exact hs (λτ1 ys H=>∃m',m'<kvs.length-i/\m'=kvs.length-(i+1)/\i+1<=kvs.length/\Pv (i+1) τ1 ys H) i z τ ys _ hz p λτ1 zs H q=>⟨kvs.length-(i+1),by lia,rfl,ZO,q⟩
 .have e:i=kvs.length:=by lia
  subst e;exact .inl ⟨⟨q,we _⟩,λD hD _=>hd τ ys H2 p D _ (.mk' hD)⟩
theorem Lc{t:TS}:tFz t D σ H = ∃a kvs,H a=some (.dK kvs)/\∀o,t (D.thaw a kvs) σ (upd H a (.frz o (.dK kvs))):=rfl
end
end L2
namespace L2
open PySem PySem.Spec PyProof.Rows
variable{m n qual x:Str}{kvs:List (Str×V)}{D P a l:Addr}{H:Hp}{Q:Value->LF->Prop}{X:Cx}{cm:Bool}{j j1 j2:Nat}{ps:List Str}{sp:Sp}{kp np p1 p3 p4 p5 pos:Pos}{w:Mf}{σ:St}{ZS:Arguments}{scope:Scope}{ta te to:TE}{K:LK}{tb:(Addr->St->Hp->Prop)->TS}{i:Int}
section
variable {X:Cx}
end
section
variable {α β:Type}
def look(t:List (Str×α))(n:Str):Option α:=(t.find? λp=>decide (p.1=n)).map (·.2)
def bj(t:List (Str×α))(n:Str)(a:α):List (Str×α):=if (look t n).isSome then t.map λp=>if p.1=n then (p.1,a) else p else t++[(n,a)]
def aH(t:List (Str×α))(n:Str):List (Str×α):=t.filter λp=>!decide (p.1=n)
def names(t:List (Str×α)):List Str:=t.map (·.1)
theorem qI:look ([]:List (Str×α)) n=none:=rfl
theorem cA{p:Str×α}{t:List (Str×α)}:look (p::t) n=if p.1=n then some p.2 else look t n:=by
 unfold look;by_cases h:p.1=n
 .rw [List.find?_cons_of_pos (by simpa using h),if_pos h];rfl
 .rw [List.find?_cons_of_neg (by simpa using h),if_neg h]
theorem g9{t:List (Str×α)}:look t n=none↔n∉names t:=by
 induction t with
 | nil=>simp [look,names]
 | cons p t ih =>
  rw [cA];by_cases e:p.1=n
  .rw [if_pos e];simp [names,e]
  .rw [if_neg e,ih];simp [names];exact λ_=>λh=>e h.symm
theorem HG{t:List (Str×α)}{a:α}:names (bj t n a)=if (look t n).isSome then names t else names t++[n]:=by
 unfold bj names;by_cases h:(look t n).isSome
 .rw [if_pos h,if_pos h,MB];refine Nq λp _=>?_;show (if p.1=n then (p.1,a) else p).1=p.1;split<;>rfl
 .rw [if_neg h,if_neg h,Mq];rfl
theorem qu{t:List (Str×α)}{a:α}(nd:(names t).Nodup):(names (bj t n a)).Nodup:=by
 rw [HG];by_cases h:(look t n).isSome
 .rw [if_pos h];exact nd
 .rw [if_neg h];have:look t n=none:=by simpa using h
  rw [g9] at this;rw [Oi];refine ⟨nd,by simp,λx hx y hy e=>?_⟩;have:y=n:=by simpa using hy
  subst this;subst e;contradiction
theorem Bs{t:List (Str×α)}(nd:(names t).Nodup):(names (aH t n)).Nodup:=by
 unfold names aH;exact nd.sublist (List.Sublist.map _ List.filter_sublist)
theorem C0{t:List (Str×α)}{a:α}:look (t.map λp=>if p.1=n then (p.1,a) else p) m=if m=n then (if (look t n).isSome then some a else none) else look t m:=by
 induction t with
 | nil=>by_cases h:m=n<;>simp [look,h]
 | cons p t ih =>
  rw [MD,cA,ih,cA,cA];by_cases e:p.1=n
  .rw [if_pos e,if_pos e];show (if p.1=m then some a else _)=_;by_cases h:m=n
   .rw [if_pos (by rw [e,h]),if_pos h];rfl
   .rw [if_neg (λz=>h (by rw [<- z,e])),if_neg h,if_neg h,if_neg (λz=>h (by rw [<- z,e]))]
  .rw [if_neg e,if_neg e];by_cases h:m=n
   .rw [if_pos h,if_pos h,if_neg (λz=>e (by rw [z,h]))]
   .rw [if_neg h,if_neg h]
theorem yU{t u:List (Str×α)}:look (t++u) m=(look t m).or (look u m):=by
 induction t with
 | nil=>simp [qI]
 | cons p t ih =>
  rw [Qt,cA,cA,ih];by_cases h:p.1=m
  .rw [if_pos h,if_pos h];rfl
  .rw [if_neg h,if_neg h]
theorem xE{t:List (Str×α)}{a:α}:look (bj t n a) m=if m=n then some a else look t m:=by
 unfold bj;by_cases h:(look t n).isSome
 .rw [if_pos h,C0,if_pos h]
 .rw [if_neg h,yU,cA];have hn:look t n=none:=by simpa using h
  by_cases e:m=n
  .rw [if_pos e,e,hn,if_pos rfl];rfl
  .rw [if_neg e,if_neg (λz=>e z.symm),qI,Option.or_none]
theorem Bv{t:List (Str×α)}:look (aH t n) m=if m=n then none else look t m:=by
 induction t with
 | nil=>by_cases h:m=n<;>simp [look,aH,h]
 | cons p t ih =>
  by_cases e:p.1=n
  .have:aH (p::t) n=aH t n:=by unfold aH;rw [NX (by simpa using e)]
   rw [this,ih,cA];by_cases h:m=n
   .rw [if_pos h,if_pos h]
   .rw [if_neg h,if_neg h,if_neg (λz=>h (by rw [<- z,e]))]
  .have:aH (p::t) n=p::aH t n:=by unfold aH;rw [NW (by simpa using e)]
   rw [this,cA,cA,ih];by_cases h:m=n
   .rw [if_pos h,if_pos h,if_neg (λz=>e (by rw [z,h]))]
   .rw [if_neg h,if_neg h]
def sf(t u:List (Str×α)):Prop:=∀n,look t n=look u n
theorem sf.names{t u:List (Str×α)}(h:sf t u)(ht:(names t).Nodup)(hu:(L2.names u).Nodup):(L2.names t).Perm (L2.names u):=by
 refine (List.perm_ext_iff_of_nodup ht hu).mpr λn=>?_;have h1:=h n;constructor
 .intro hn;refine ND λz=>?_;rw [g9.mpr z] at h1;exact g9.mp h1 hn
 .intro hn;refine ND λz=>?_;rw [g9.mpr z] at h1;exact g9.mp h1.symm hn
def Dct(R:V->α->Prop):List (Str×V)->List (Str×α)->Prop:=Paired λp q=>p.1=q.1/\R p.2 q.2
theorem Dct.names{R:V->α->Prop}{t:List (Str×α)}(h:Dct R kvs t):kvs.map (·.1)=L2.names t:=by
 induction h with
 | nil=>rfl
 | @cons p q l m r _ ih=>show p.1::l.map (·.1)=q.1::m.map (·.1);rw [r.1,ih];rfl
theorem Dct.length{R:V->α->Prop}{t:List (Str×α)}(h:Dct R kvs t):kvs.length=t.length:=Paired.length h
theorem Dct.imp{R S:V->α->Prop}{t:List (Str×α)}(h:Dct R kvs t)(f:∀v a,R v a->S v a):Dct S kvs t:=Paired.mapP h λp q z=>⟨z.1,f _ _ z.2⟩
theorem Dct.look{R:V->α->Prop}{t:List (Str×α)}(h:Dct R kvs t)(n:Str):(∃v a,L2.look kvs n=some v/\L2.look t n=some a/\R v a)\/(L2.look kvs n=none/\L2.look t n=none):=by
 induction h with
 | nil=>exact .inr ⟨rfl,rfl⟩
 | cons r _ ih =>
  rw [cA,cA,<- r.1];split
  .exact .inl ⟨_,_,rfl,rfl,r.2⟩
  .exact ih
theorem Dct.put{R:V->α->Prop}{t:List (Str×α)}(h:Dct R kvs t)(n:Str){v:V}{a:α}(r:R v a):Dct R (bj kvs n v) (bj t n a):=by
 have hs:(L2.look kvs n).isSome=(L2.look t n).isSome:=by
  rcases h.look n with ⟨v,a,e1,e2,_⟩|⟨e1,e2⟩<;>rw [e1,e2]<;>rfl
 have hm:Dct R (kvs.map λp=>if p.1=n then (p.1,v) else p) (t.map λp=>if p.1=n then (p.1,a) else p):=by
  clear hs
  induction h with
  | nil=>exact .nil
  | @cons p q _ _ r' _ ih =>
   refine .cons ?_ ih;show (if p.1=n then (p.1,v) else p).1=(if q.1=n then (q.1,a) else q).1/\R (if p.1=n then (p.1,v) else p).2 (if q.1=n then (q.1,a) else q).2;by_cases e:p.1=n
   .rw [if_pos e,if_pos (by rw [<- r'.1];exact e)];exact ⟨r'.1,r⟩
   .rw [if_neg e,if_neg (by rw [<- r'.1];exact e)];exact r'
 have ha:Dct R (kvs++[(n,v)]) (t++[(n,a)]):=by
  clear hs hm
  induction h with
  | nil=>exact .cons ⟨rfl,r⟩ .nil
  | cons r' _ ih=>exact .cons r' ih
 unfold bj;rw [hs];split
 .exact hm
 .exact ha
theorem Dct.drop{R:V->α->Prop}{t:List (Str×α)}(h:Dct R kvs t)(n:Str):Dct R (aH kvs n) (aH t n):=by
 induction h with
 | nil=>exact .nil
 | @cons p q _ _ r _ ih =>
  unfold aH at ih ⊢;by_cases e:p.1=n
  .rw [NX (by simpa using e),NX (by rw [<- r.1];simpa using e)];exact ih
  .rw [NW (by simpa using e),NW (by rw [<- r.1];simpa using e)];exact .cons r ih
theorem Dct.at{R:V->α->Prop}{t:List (Str×α)}(h:Dct R kvs t):∀{i:Nat}{p:Str×V},kvs[i]?=some p->∃a,t[i]?=some (p.1,a)/\R p.2 a:=by
 induction h with
 | nil=>intro i p e;simp at e
 | @cons x y _ _ r _ ih =>
  intro i p e;cases i with
  | zero =>
   have e':x=p:=by simpa using e
   subst e';exact ⟨y.2,by rw [r.1];rfl,r.2⟩
  | succ i=>exact ih (by simpa using e)
end
theorem gu:zW (sk kvs) (.inr n)=look kvs n:=by
 induction kvs with
 | nil=>rfl
 | cons p t ih =>
  rw [cA];by_cases e:p.1=n
  .rw [if_pos e];exact i4 (show (Sum.inr p.1:Key)=Sum.inr n by rw [e])
  .rw [if_neg e,<- ih];exact iI (λz=>e (by injection z))
theorem nL{v:V}:aG (sk kvs) (.inr n) v=sk (bj kvs n v):=by
 unfold aG bj;have hs:((sk kvs).any λkv=>decide (kv.1 = .inr n))=(look kvs n).isSome:=by rw [lZ,gu]
 rw [hs];split
 .unfold sk;rw [MB,MB];refine Nq λp _=>?_;by_cases e:p.1=n
  .simp [e]
  .simp [e]
 .simp [sk]
theorem Dm:cj (sk kvs) (.inr n)=sk (aH kvs n):=by
 induction kvs with
 | nil=>rfl
 | cons p t ih =>
  by_cases e:p.1=n
  .have:aH (p::t) n=aH t n:=by unfold aH;rw [NX (by simpa using e)]
   rw [this,<- ih];exact GG (show (Sum.inr p.1:Key)=Sum.inr n by rw [e])
  .have:aH (p::t) n=p::aH t n:=by unfold aH;rw [NW (by simpa using e)]
   rw [this];show cj ((Sum.inr p.1,p.2)::sk t) (Sum.inr n)=(Sum.inr p.1,p.2)::sk (aH t n);rw [<- ih];exact BH (λz=>e (by injection z))
theorem IQ{z:Str}{Q:VK}:oy (.ref a) (.str z) H Q = ∃kvs,Rd H a (.dK kvs)/\∃v,zW kvs (.inr z)=some v/\Q v H:=by
 apply propext;constructor
 .rintro ⟨a',k,kvs,v,e1,e2,h1,h2,q⟩;cases e1;cases k with
  | inl i=>cases e2
  | inr x=>cases e2;exact ⟨kvs,h1,v,h2,q⟩
 .rintro ⟨kvs,h1,v,h2,q⟩;exact ⟨a,.inr z,kvs,v,rfl,rfl,h1,h2,q⟩
theorem Kp{b:Addr}{Q:VK}:i7 (.ref a) (.ref b) H Q = ∃xs ys,H a=some (.tup xs)/\H b=some (.tup ys)/\xs.length+ys.length<=sizeLine/\∀p H2,zl H H2->H2 p=some (.tup (xs++ys))->Q (.ref p) H2:=by
 apply propext;constructor
 .rintro ⟨a',b',xs,ys,e1,e2,h⟩;cases e1;cases e2;exact ⟨xs,ys,h⟩
 .rintro ⟨xs,ys,h⟩;exact ⟨a,b,xs,ys,rfl,rfl,h⟩
theorem CW{k:Nat}{C:Addr}{p:Pos}(G:GC X.prog X.w X.K X.mg X.base cm j x C ps sp)(hr:zJ cm k X.A)(hg:Gl X x)(hj:j+1<=k:=by decide)(Y7:(x==("__debug__":Str))=false:=by decide) :
  PE X (.Call (.Name x p) [] [] pos) (kO C sp bQ):=by
 obtain ⟨f,fd,F,hm,M,hb⟩:=G.ex;intro Go s σ H Q I h;exact GB M F (hr.mono hj) hg hm hb .nil iU Y7 Go s σ H Q I (λy dx hx hd ne=>h y dx _ (.mk' hx hd ne))
theorem tw{k:Nat}{C:Addr}{p:Pos}(G:GC X.prog X.w X.K X.mg X.base cm j x C ps sp)(hr:zJ cm k X.A)(hg:Gl X x)(hj:j+1<=k:=by decide)(Y7:(x==("__debug__":Str))=false:=by decide) :
  W (PE X (.Call (.Name x p) [] [] pos) (kO C sp bQ)):=⟨CW G hr hg hj Y7⟩
def pS:R2:=λx y H Q=>∃p xs,y = .ref p/\(H p=some (.lst xs)\/H p=some (.tup xs))/\zY x=true/\xs.all zY=true/\Q (.bl (!inV x xs)) H
theorem Dg(hu:X.A.units<cLine):OpR X (MA .NotIn) pS:=GS.weak λx y H Q h=>by
 obtain ⟨p,xs,e,h,f1,f2,q⟩:=h;exact ⟨p,xs,e,h.elim (λh=>.inl (SqL.of h)) (λh=>.inr (SqT.of h)),f1,f2,by simpa using q⟩
theorem Cm{x:V}{p:Addr}{Q:VK}:pS x (.ref p) H Q = ∃xs,(H p=some (.lst xs)\/H p=some (.tup xs))/\zY x=true/\xs.all zY=true/\Q (.bl (!inV x xs)) H:=by simp [pS]
theorem ow:(sk kvs).length=kvs.length:=by simp [sk]
section
variable {M:Model}{A:Mn}{E:Value->LF->Prop}{s:LF}
theorem qP{id:String}{args:List (Bool×Sem Value)}{Zy:List (Option Str×Sem Value)}(XQ:args.any (·.1)=false)(hkw:Zy.any (·.1.isNone)=false)
  (h:LS M A (evalArgs (.builtin id) true args Zy) (λa s1=>LS M A (call (.builtin id) a.pos a.kw) Q E s1) E s):LS M A (Of pos (.builtin id) [] args Zy) Q E s:=by
 unfold Of;refine fv (Mt (Mv h (λa s1 h1=>fv (Ny ?_)) λ_ _ x=>x));simp only [XQ,hkw,O2];exact fv (LJ (fv (Mv h1 (λr s2 hr=>fv (Mt (wpAny_point (LJ hr)))) λ_ _ x=>x)))
end
theorem DU{prog:LV}{A:Mn}{E:Value->LF->Prop}{s:LF}{env:Env}{p2:Pos}{m:Str->Option Value}{r:Addr}{its ks:Array Value}{k:Int}{t:Tok}
  (hk:env.scope.kind = .function) (hl:env.kindOf x=some .local) (hn:s.heap.Ns env.locals m) (hm:m x=some (.ref a)) (ha:PY s.heap a its) (h0:its[0]?=some (.ref r)) (hr:PY s.heap r ks) (h1:ks[1]?=some (.int k t)) (hd:(x==("__debug__":Str))=false)
  (q:∀tk,Q (.int k t) { s with toks:=tk }):LS (LZ prog w) A (MJ (.Subscript (.Subscript (.Name x p1) (.Constant (.int 0) j1 p2) p3) (.Constant (.int 1) j2 p4) p5) env) Q E s:=by
 refine Subscript_ (Subscript_ (wpAny_Name (O5 hk hl hn hm ?_) hd));refine Pu ?_;have s0:0<its.size:=(MZ.mp h0).1;have s1:1<ks.size:=(MZ.mp h1).1;refine N1 (x:=.ref r) (T:="tuple") ha.typeIs Pw.lookup (getItem_tuple (j:=0) ha (by decide) (by decide) (by simp [Qk,s0]) h0 ⟨rfl,?_⟩);refine Pu ?_;exact N1 (x:=.int k t) (T:="tuple") hr.typeIs Pw.lookup (getItem_tuple (j:=1) hr (by decide) (by decide) (by simp [Qk];lia) h1 ⟨rfl,q _⟩)
def cX(pos:Pos)(qual:Str)(H:Hp)(P:Addr):Prop :=
 H P=some (.tbl #[])\/∃c' oc vs t,H P=some (.tbl #[MP pos.line,MP pos.col,.ref c'])/\H c'=some (.frz oc (.own 0))/\oc.data = .fields vs/\vs[1]?=some (.str qual t)
structure iE(mg:Str->Option Value)(base:Heap)(Z1:Value)(P:Addr):Prop where
 cd:∃c,Z1 = .ref c/\PySem.W.CodeHd base c P
 bt:∃bm o,mg "__builtins__"=some (.ref bm)/\bm≠OW/\bm≠LN/\base.get? bm=some o/\o.cls = .type "module"/\o.dict=some OW/\o.data = .plain
def iT(H H':Hp)(P:Addr):Prop:=∀a o,a≠P->H a=some o->H' a=some o
theorem Gf{Go:List (Addr×Obj)}{s:LF}{E:Value->LF->Prop}{Zz:Mw}(LB:iE X.mg X.base X.env.code P)
  (W7:defaultsOf ZS X.env=([],[])) (hcl:OU scope X.env=pure []) (I:Inv X Go σ H s) (hT:cX pos (X.env.qual++"<lambda>") H P)
  (h:∀(f c':Addr)(ctv:Value)(h':Heap)(tk:Nat)(H':Hp),f+1=h'.objs.size->s.heap.objs.size<=f->h'.CodeRec (.ref c') (X.env.qual++"<lambda>") ->
   h'.get? f=some (kla_obj "<lambda>" (X.env.qual++"<lambda>") ZS Zz scope [] ((X.mg "__name__").getD .none) c' ctv)->cX pos (X.env.qual++"<lambda>") H' P->iT H H' P->Inv X Go σ H' { s with heap:=h',toks:=tk }->Q (.ref f) { s with heap:=h',toks:=tk }) :
  LS (LZ X.prog X.w) X.A (MJ (.Lambda ZS Zz scope pos) X.env) Q E s:=by
 refine PySem.W.kla_eval W7 ?_;obtain ⟨c,hc,C⟩:=LB.cd;obtain ⟨bm,ob,b1,b2,b3,b4,b5,b6,b7⟩:=LB.bt;obtain ⟨og,esg,epg,eg,hdg⟩:=id I.ok.mod.glob;have hgs:s.heap.Ns LN X.mg:=I.ok.mod.glob.keeps I.bk;have neP:∀{b:Addr}{o:Obj}{u:HO},X.base.get? b=some o->H P=some u->b≠P:=λe hP z=>by
  have:=(I.bs _ _ e).2;rw [z,hP] at this;cases this
 rcases hT with hP|⟨c',oc,vs,t,hP,Yy,hd,hv⟩
 .have hPs:s.heap.get? P=some (tabObj #[]):=I.hok P _ hP;refine PySem.W.kla_makeFunction (mg:=X.mg) hcl I.ok.glob hgs hc (C.keeps I.bk) hPs trivial rfl (neP eg hP) ⟨bm,ob,b1,b2,b3,neP b4 hP,I.bk _ _ b4,b5,b6,b7⟩ λc' ctv h' tk hx hge ZO hrec htb=>?_;obtain ⟨c₂,oc,vs,t,e2,hoc,hd,hv⟩:=hrec;cases e2;have szP:P<s.heap.objs.size:=L7 hPs;have cP:c'≠P:=λz=>by rw [z] at hge;exact absurd szP (not_lt.mpr hge)
  have neC:∀{b:Addr}{u:HO},H b=some u->b≠c':=λe z=>by
   have:=I.hok.lt e;rw [z] at this;exact absurd this (not_lt.mpr hge)
  have neC2:∀{b:Addr}{u:Obj},s.heap.get? b=some u->b≠c':=λe z=>by
   have:=L7 e;rw [z] at this;exact absurd this (not_lt.mpr hge)
  have kp:∀b o,b≠P->s.heap.get? b=some o->(h'.push (kla_obj "<lambda>" (X.env.qual++"<lambda>") ZS Zz scope [] ((X.mg "__name__").getD .none) c' ctv)).get? b=some o:=λb o n e=>p8 _ (hx b o n e)
  let H':Hp:=upd (upd H P (.tbl #[MP pos.line,MP pos.col,.ref c'])) c' (.frz oc (.own 0))
  have hH':∀b,b≠P->b≠c'->H' b=H b:=λb n1 n2=>by show upd _ c' _ b=H b;rw [ze n2,ze n1]
  have hHP:H' P=some (.tbl #[MP pos.line,MP pos.col,.ref c']):=by show upd _ c' _ P=_;rw [ze (L8 cP),zy]
  have hHc:H' c'=some (.frz oc (.own 0)):=zy;have nP:∀b,H b=none->b≠P:=λb e z=>by rw [z,hP] at e;cases e
  have ext:∀b u,H b=some u->(∀ps,u≠.tbl ps)->H' b=some u:=λb u e n=>by rw [hH' b (λz=>by rw [z,hP] at e;cases e;exact n _ rfl) (neC e)];exact e
  have un:Un X.fs [] H H' s.heap (h'.push (kla_obj "<lambda>" (X.env.qual++"<lambda>") ZS Zz scope [] ((X.mg "__name__").getD .none) c' ctv)):=by
   refine ⟨λb o e n _ _=>kp b o (nP b n) e,λb o e n _ _=>⟨o.slots,kp b o (nP b n) e⟩,λb o e n _=>by rw [hH' b (nP b n) (neC2 e)];exact n,λb o e _=>?_,λb xs e=>ext b _ e λ_=>nofun,λb o u e=>ext b _ e λ_=>nofun,λb ps e=>?_⟩
   .by_cases z:b=P
    .exact ⟨_,by rw [z];exact p8 _ htb⟩
    .exact ⟨o,kp b o z e⟩
   .by_cases z:b=P
    .rw [z,hP] at e;cases e;exact ⟨#[MP pos.line,MP pos.col,.ref c'],by rw [z,hHP];simp⟩
    .exact ⟨#[],by rw [hH' b z (neC e),e];simp⟩
  have hok:HOk X.prog X.w H' (h'.push (kla_obj "<lambda>" (X.env.qual++"<lambda>") ZS Zz scope [] ((X.mg "__name__").getD .none) c' ctv)):=λa o e=>by
   by_cases z1:a=c'
   .rw [z1,hHc] at e;cases e;rw [z1];exact ⟨p8 _ hoc,⟨_,p8 _ hoc⟩⟩
   .by_cases z2:a=P
    .rw [z2,hHP] at e;cases e;rw [z2];show Heap.get? _ P=_;exact p8 _ htb
    .rw [hH' a z2 z1] at e;refine (I.hok a o e).stay (λb u hb q=>kp b u ?_ q) (λb q=>ext b _ q λ_=>nofun) λb xs q=>ext b _ q λ_=>nofun;rcases hb with rfl|hb
     .exact z2
     .intro z;rw [z,hP] at hb;cases hb
  refine h h'.objs.size c' ctv _ tk H' (by rw [Py]) (Pa (MY hge ZO)) ⟨c',oc,vs,t,rfl,p8 _ hoc,hd,hv⟩ (LW _ rfl) (.inr ⟨c',oc,vs,t,hHP,hHc,hd,hv⟩) (λa o n e=>by rw [hH' a n (neC e)];exact e) (I.un un hok)
 .have hPs:s.heap.get? P=some (tabObj #[MP pos.line,MP pos.col,.ref c']):=I.hok P _ hP;have hcs:s.heap.get? c'=some oc:=(I.hok c' _ Yy).1;refine PySem.W.kla_makeFunctionHit (mg:=X.mg) (cv:=.ref c') hcl I.ok.glob hgs hc (C.keeps I.bk) hPs ?_ ?_ ⟨bm,ob,b1,b2,b3,neP b4 hP,I.bk _ _ b4,b5,b6,b7⟩ λctv h' tk hk hsz=>?_
  .exact trivial
  .simp [codeAmong,MP]
  .exact h h'.objs.size c' ctv _ tk H (by rw [Py]) hsz ⟨c',oc,vs,t,rfl,p8 _ (hk _ _ hcs),hd,hv⟩ (LW _ rfl) (.inr ⟨c',oc,vs,t,hP,Yy,hd,hv⟩) (λ_ _ _ e=>e) (I.kept λb o e=>p8 _ (hk b o e))
def oP(H:Hp)(a:Addr)(k:Int):Prop:=∃r Y9 y ys,H a=some (.tup (.ref r::Y9))/\H r=some (.tup (y::.int k::ys))
def gw(P:Addr)(pos:Pos)(qual:Str)(v:V)(H1:Hp)(Q:VK):Prop:=uR v λl=>∃(as:List Addr)(ks:List Int),H1 l=some (.lst (as.map V.ref))/\cX pos qual H1 P/\as.length<64/\Paired (oP H1) as ks /\
 ∀(D:Addr)(zs:List (Int×Addr))(H2:Hp),iT H1 H2 P->cX pos qual H2 P->H1 D=none->D≠P->D≠sysModules->H2 D=some (.lst (zs.map λz=>V.ref z.2))->zs.Perm (ks.zip as)->zs.Pairwise (λp q=>p.1<=q.1)->Q (.ref D) H2
def pd(P:Addr)(pos:Pos)(qual:Str)(ta:TE):TE:=λσ H Q=>ta σ H λv H1=>gw P pos qual v H1 Q
theorem JB{Q:VK}:pd P pos qual ta σ H Q=ta σ H λv H1=>gw P pos qual v H1 Q:=rfl
theorem Ac{H1:Hp}{Q:VK}:gw P pos qual (.ref l) H1 Q = ∃(as:List Addr)(ks:List Int),H1 l=some (.lst (as.map V.ref))/\cX pos qual H1 P/\as.length<64/\Paired (oP H1) as ks /\
 ∀(D:Addr)(zs:List (Int×Addr))(H2:Hp),iT H1 H2 P->cX pos qual H2 P->H1 D=none->D≠P->D≠sysModules->H2 D=some (.lst (zs.map λz=>V.ref z.2))->zs.Perm (ks.zip as)->zs.Pairwise (λp q=>p.1<=q.1)->Q (.ref D) H2:=ly
theorem ug{as:List Addr}{its:List Value}(h:zq (as.map V.ref) its):its=as.map LL:=by
 induction as generalizing its with
 | nil=>cases h;rfl
 | cons a as ih =>
  cases h with
  | cons r rr=>rw [ih rr,show _=LL a from r];rfl
theorem xB(as:List Addr):zq (as.map V.ref) (as.map LL):=by
 induction as with
 | nil=>exact .nil
 | cons a as ih=>exact .cons rfl ih
theorem AS{l:List (Int×Addr)}{ps:List (Int×Value)}(h:ps.Perm (l.map λz=>(z.1,LL z.2))):∃zs:List (Int×Addr),zs.Perm l/\ps=zs.map λz=>(z.1,LL z.2):=by
 let g:Int×Value->Int×Addr:=λp=>(p.1,match p.2 with | .ref a=>a|_=>0)
 have e1:(l.map λz=>(z.1,LL z.2)).map g=l:=by
  rw [MB];have:(g∘λz:Int×Addr=>(z.1,LL z.2))=id:=rfl;rw [this,List.map_id]
 refine ⟨ps.map g,by have:=h.map g;rw [e1] at this;exact this,?_⟩;rw [MB];have:∀p∈ps,((λz:Int×Addr=>(z.1,LL z.2))∘g) p=p:=λp hp=>by
  obtain ⟨z,_,rfl⟩:=NK.mp (h.mem_iff.mp hp);rfl
 exact (List.map_id ps).symm.trans (Nq λp hp=>(this p hp).symm)
theorem vF:∀(ks:List Int)(as:List Addr),ks.zip (as.map LL)=(ks.zip as).map λz=>(z.1,LL z.2)
 | [],_=>rfl
 | _::_,[]=>rfl
 | k::ks,a::as=>by rw [MD,OX,OX,MD,vF ks as]
theorem bI{α β:Type}{R:α->β->Prop}:∀{l:List α}{m:List β},Paired R l m->∀{i:Nat}{a:α}{b:β},l[i]?=some a->m[i]?=some b->R a b
 | _,_,.nil,i,a,b,h,_=>by simp at h
 | _,_,.cons r t,0,a,b,h,h'=>by
  simp at h h';subst h h';exact r
 | _,_,.cons r t,i+1,a,b,h,h'=>bI t (by simpa using h) (by simpa using h')
theorem ay{α β:Type}{R:α->β->Prop}{l:List α}{m:List β}(h:Paired R l m):l.length=m.length:=Paired.length h
theorem Gi{k:Nat}{a:Mw}{p X8 p2:Pos}(LB:iE X.mg X.base X.env.code P)(hr:zJ cm k X.A)
  (hg:Gl X "sorted") (hm:X.mg "sorted"=none) (ha:PE X a ta) (W7:defaultsOf ZS X.env=([],[])) (hcl:OU scope X.env=pure [])
  (X1:∀(q:Str)(pm cd ct v:Value),bindArgs (kla_fn "<lambda>" q ZS (.Subscript (.Subscript (.Name x p1) (.Constant (.int 0) j1 p2) p3) (.Constant (.int 1) j2 p4) p5) scope [] pm cd ct) ⟨[v],[]⟩=pure [(x,v)])
  (W6:scope.names=[(x,.local)]) (Yg:scope.kind = .function) (hco:scope.isCoroutine=false) (hgen:scope.isGenerator=false) (hp:av a=true:=by rfl) (Y7:(x==("__debug__":Str))=false:=by decide) :
  PE X (.Call (.Name "sorted" p) [a] [⟨some (vv "key"),.Lambda ZS (.Subscript (.Subscript (.Name x p1) (.Constant (.int 0) j1 p2) p3) (.Constant (.int 1) j2 p4) p5) scope X8,kp⟩] pos) (pd P X8 (X.env.qual++"<lambda>") ta):=by
 intro Go s σ H Q I h;have hs:Ma [a] X.env=[(false,MJ a X.env)]:=du hp;have hA:=dE ha dM (hs:=hs) pos Go s σ H (λys H1=>∃y,ys=[y]/\gw P X8 (X.env.qual++"<lambda>") y H1 Q) I (by
  show ta σ H λx H1=>∃y,[x]=[y]/\gw P X8 (X.env.qual++"<lambda>") y H1 Q;have e:(λ(x:V)(H1:Hp)=>∃y,[x]=[y]/\gw P X8 (X.env.qual++"<lambda>") y H1 Q)=λv H1=>gw P X8 (X.env.qual++"<lambda>") v H1 Q:=by
   funext x H1;apply propext;constructor
   .rintro ⟨y,e,h⟩;cases e;exact h
   .exact λh=>⟨x,rfl,h⟩
  rw [e];exact h)
 refine MT (dO I hg hm PX (qP (by rw [hs];rfl) rfl ?_));rw [hs] at hA ⊢;refine evalArgs_kwB rfl (thn hA λus s1=>x5e λvs H1 I1 r1 q1=>kws_cons ?_);obtain ⟨y,rfl,l,rfl,as,ks,hl,hT,XO,hK,q⟩:=q1
 .cases r1 with
  | cons r rr =>
   cases rr;cases r;refine Gf LB W7 hcl I1 hT λf c' ctv h2 tk H2 hsz hge hcd hf hT2 hL I2=>kws_nil ?_;have hlP:l≠P:=λz=>by
    rcases hT with hP|⟨_,_,_,_,hP,_⟩ <;> · rw [z,hP] at hl;cases hl
   have XW:=hL _ _ hlP hl;obtain ⟨its,rv,⟨o,n,e1,e2,e3,e4⟩,hz⟩:=I2.list (SqL.of XW);have hits:=ug rv;subst hits;obtain ⟨m,F⟩:=I2.fr;have lks:=ay hK;have XN:∀b o,h2.get? b=some o->b≠X.env.locals->X.base.get? b=none->(b,o)∈gi X.base h2 X.env.locals:=λb o e n1 n2=>Gs n1 n2 e;refine PyProof.Rows.ksk_sorted (b:=false) (kz:=ks) (f:=.ref f) (h₀:=X.base) (L:=X.env.locals) (news:=gi X.base h2 X.env.locals) F JF (vs:=as.map LL) (l:=l) ⟨o,e1,e2,n,e4⟩ (by rw [KE];exact lks.symm) (by rw [KE];exact XO) (PyProof.Rows.ksk_s1 _ _) (λx=>PyProof.Rows.ksk_l1 _ _) (λx=>PyProof.Rows.ksk_t1 _ _) (λi v k' hv YF h3 tk3 own F3 N3=>?_) λD h3 tk3 out c F3 N3 lt ko=>?_
   .have X0:∀b o,b≠X.env.locals->h2.get? b=some o->h3.get? b=some o:=λb o n e=>by
     cases qb:X.base.get? b with
     | some u =>
      have:=F.keep b u qb;rw [show h2.get? b=some u from this] at e;cases e;exact F3.keep b _ qb
     | none=>exact (N3 (b,o) (MR _ (XN b o e n qb))).1
    rw [L6] at hv;obtain ⟨ai,hai,rfl⟩:=Mh.mp hv;obtain ⟨r,Y9,y,ys,k1,k2⟩:=bI hK hai YF;have tt:∀{b xs},H1 b=some (.tup xs)->∃its,zq xs its/\PY h3 b its.toArray:=λ{b xs} e=>by
     have bP:b≠P:=λz=>by
      rcases hT with hP|⟨_,_,_,_,hP,_⟩ <;> · rw [z,hP] at e;cases e
     have e2:=hL _ _ bP e;obtain ⟨_,its,rv,ob,g1,g2⟩:=I2.hok b _ e2;have bL:b≠X.env.locals:=λz=>by rw [z,I2.free] at e2;cases e2
     exact ⟨its,rv,ob,X0 _ _ bL g1,g2⟩
    obtain ⟨it1,Xc,t1⟩:=tt k1;obtain ⟨it2,rv2,t2⟩:=tt k2;cases Xc with
    | cons ra _ =>
    cases ra;cases rv2 with
    | cons rb rc =>
    cases rc with
    | cons rd _ =>
    obtain ⟨tkk,rfl⟩:=rd;have fL:f≠X.env.locals:=λz=>by
     have:=I1.lt;rw [<- z] at this;exact absurd this (not_lt.mpr hge)
    have hf3:=X0 _ _ fL hf;have hcd3:h3.CodeRec (.ref c') (X.env.qual++"<lambda>"):=by
     obtain ⟨c2,oc,vs,t,e,g1,g2,g3⟩:=hcd;refine ⟨c2,oc,vs,t,e,X0 _ _ (λz=>?_) g1,g2,g3⟩;obtain ⟨m',⟨ol,es,ep,el,hdl,_⟩,_⟩:=id I2.loc;rw [z] at g1;rw [show h2.get? X.env.locals=some ol from el] at g1;cases g1;rw [g2] at hdl;cases hdl
    refine Qw (PySem.W.kla_callFunE (by show X.A.depth<recursionLimit;exact hr.depth) hf3 rfl hco hgen rfl hcd3 ?_);rw [X1];refine LJ (O4 (λy hy=>?_) (λy hy=>?_) (λh4 hns hsb=>?_) Yg)
    .rw [W6,LU] at hy;rw [hy];nofun
    .rw [LU] at hy;rw [hy];show scope.names.lookup x=_;rw [W6];simp [NM]
    .have k4:∀b o,h3.get? b=some o->h4.get? b=some o:=λb o e=>hsb.extBut b o (Mx (L7 e)) (p8 _ e);refine ⟨(I.ok.mod.nolimit.keeps F3.keep).keeps k4,PySem.W.kla_codeExpr ?_⟩;refine DU (m:=λy=>([(x,LL ai)]:List (Str×Value)).reverse.lookup y) (a:=ai) (r:=r) (k:=k') (t:=tkk) Yg ?_ hns (by simp [NM]) (its:=(LL r::_).toArray) ⟨t1.choose,k4 _ _ t1.choose_spec.1,t1.choose_spec.2⟩ (by simp) (ks:=(_::NI k' tkk::_).toArray) ⟨t2.choose,k4 _ _ t2.choose_spec.1,t2.choose_spec.2⟩ (by simp) Y7 λtk5=>?_
     .show scope.names.lookup x=_;rw [W6];simp [NM]
     .exact PyProof.Rows.KskEnd.intro (news':=gi X.base h2 X.env.locals++own) ⟨F3.ns.keeps k4,λb o e=>k4 _ _ (F3.keep b o e),F3.above⟩ (λp hp=>⟨k4 _ _ (N3 p hp).1,(N3 p hp).2⟩) λ_ h=>h
   .obtain ⟨ps,hp1,hp2,hp3⟩:=ko;rw [vF] at hp1;obtain ⟨zs,hz1,rfl⟩:=AS hp1;have fm:(f,kla_obj "<lambda>" (X.env.qual++"<lambda>") ZS (.Subscript (.Subscript (.Name x p1) (.Constant (.int 0) j1 p2) p3) (.Constant (.int 1) j2 p4) p5) scope [] ((X.mg "__name__").getD .none) c' ctv)∈gi X.base h2 X.env.locals:=XN _ _ hf (λz=>by
     have:=I1.lt;rw [<- z] at this;exact absurd this (not_lt.mpr hge)) (by
     cases qb:X.base.get? f with
     | none=>rfl
     | some u =>
      have:=L7 (I1.bk _ _ qb);exact absurd this (not_lt.mpr hge))
    have Dsz:h2.objs.size<=D:=by have:=lt _ fm;rw [<- hsz];exact this
    have D2:H2 D=none:=I2.hok.fresh Dsz;have DP:D≠P:=λz=>by
     rcases hT2 with hP|⟨_,_,_,_,hP,_⟩ <;> · rw [z,hP] at D2;cases D2
    have D1:H1 D=none:=by
     cases qd:H1 D with
     | none=>rfl
     | some u=>rw [hL _ _ DP qd] at D2;cases D2
    have eo:out=((zs.map (·.2)).map LL).toArray:=by
     apply Array.toList_inj.mp;rw [hp2];simp
    have lz:zs.length<=as.length:=by rw [hz1.length_eq,List.length_zip];lia
    have X0:∀b o,b≠X.env.locals->h2.get? b=some o->h3.get? b=some o:=λb o hb e=>by
     cases qb:X.base.get? b with
     | some u =>
      have:=F.keep b u qb;rw [show h2.get? b=some u from this] at e;cases e;exact F3.keep b _ qb
     | none=>exact (N3 (b,o) (LO _ (XN b o e hb qb))).1
    have neD:∀{b:Addr}{u:HO},H2 b=some u->b≠D:=λe z=>by rw [z,D2] at e;cases e
    have neL:∀{b:Addr}{u:HO},H2 b=some u->b≠X.env.locals:=λe z=>by rw [z,I2.free] at e;cases e
    have hm:(zs.map λz:Int×Addr=>V.ref z.2)=(zs.map (·.2)).map V.ref:=by rw [MB];rfl
    have new:af X.prog X.w (upd H2 D (.lst (zs.map λz:Int×Addr=>V.ref z.2))) h3 D (.lst (zs.map λz:Int×Addr=>V.ref z.2)):=⟨by rw [KE,ML];lia,(zs.map (·.2)).map LL,c,by rw [hm];exact xB _,by rw [<- eo];exact (N3 _ (Mc ..)).1⟩;refine ⟨.ref D,upd H2 D (.lst (zs.map λz:Int×Addr=>V.ref z.2)),?_,rfl,q D zs _ (λb u n e=>by rw [ze (λz=>by rw [z,D1] at e;cases e)];exact hL _ _ n e) ?_ D1 DP (NQ (L9 I2.big Dsz)) zy hz1 ?_⟩
    .refine I2.step (h':=h3) (g':=s1.gens) (d':=s1.drawn) (t':=tk3) (ch:=[]) (λ_ z=>nomatch z) (λb o n _ _ e _=>X0 b o n e) (λb o n _ _ e _=>⟨o.slots,X0 b o n e⟩) (λb o _ e n=>?_) (λb o _ e=>?_) (λb xs e=>by rw [ze (neD e)];exact e) (λb o u e=>by rw [ze (neD e)];exact e) (λb ps e=>⟨#[],by rw [ze (neD e),e];simp⟩) (λm' hm'=>?_) (λb u e=>?_) I2.bare
     .rw [ze (λz=>?_)]
      .exact n
      .have:=L7 e;rw [z] at this;exact absurd this (not_lt.mpr Dsz)
     .by_cases hb:b=X.env.locals
      .obtain ⟨o1,_,_,g1,_⟩:=F3.ns;exact ⟨o1,by rw [hb];exact g1⟩
      .exact ⟨o,X0 b o hb e⟩
     .have e1:=hm'.eq_nsMap;have e2:=F.ns.eq_nsMap;have:m'=m:=e1.trans e2.symm;rw [this];exact F3.ns
     .by_cases z:b=D
      .rw [z,zy] at e;cases e;rw [z];exact new
      .rw [ze z] at e;refine (I2.hok b u e).stay (λc v hc q=>X0 c v ?_ q) (λc q=>by rw [ze (neD q)];exact q) λc xs q=>by rw [ze (neD q)];exact q
       rcases hc with rfl|hc
       .exact neL e
       .exact neL hc
    .rcases hT2 with hP|⟨c1,oc,vs,t,hP,hc,hr⟩
     .exact .inl (by rw [ze (L8 DP)];exact hP)
     .exact .inr ⟨c1,oc,vs,t,by rw [ze (L8 DP)];exact hP,by rw [ze (λz=>by rw [<- z,hc] at D2;cases D2)];exact hc,hr⟩
    .have:=Nf.mp hp3;exact this.imp λh=>by simpa using h
def gg(mg:Str->Option Value)(base:Heap):Prop:=∃bm o,mg "__builtins__"=some (.ref bm)/\bm≠OW/\bm≠LN/\base.get? bm=some o/\o.cls = .type "module"/\o.dict=some OW/\o.data = .plain
theorem Ed{P:LV}{mg mb:Str->Option Value}{CX:CXT}{k:Nat}{fa:Addr}{fd:Nc}{s₁:LF}{vs:List Value}{ns:List Int}{ts:List Addr}
  (hT:∀T∈ts,s₁.heap.get? T=some (tabObj #[])) (hC:∀T∈ts,K.lookup T=none/\∃c,codeHdIn K c T=true) (hbm:gg mg s₁.heap)
  (KX:K.In s₁.heap) (hns:s₁.heap.Ns LN mg) (hb:s₁.heap.Ns OW mb) (hbb:∀x:Str,x≠"__name__"->mb x=N4 x) (hlim:s₁.heap.NoLimit) (hg:s₁.gens = #[])
  (ha:s₁.heap.get? a=some { cls:=.type "list",data:=.seq vs.toArray }) (hi:IntsAre vs ns) (hl:ns.length<=sizeLine) (hr:zJ true k callerA)
  (F:∀base:Heap,K.In base->base.Ns LN mg->gg mg base->zo P w K mg base CX true k fa fd [x] sp) (X1:∀(s:LF)(u:Value),BindsTo s fd ⟨[u],[]⟩ [(x,u)])
  (Xp:∀H:Hp,(∀T∈ts,H T=some (.tbl #[]))->SqL K H a (ns.map V.int)->sp [.ref a] H (λv _=>v = .bl true) λ_ _ _=>False)
  (hCX:∀H e s',CX [] H s₁ (λ_ _ _=>False) e s'->False) :
  OJ (LZ P w) callerA (.call (.ref fa) ⟨[.ref a],[]⟩) (λr s'=>r = .ok (.ret (.bool true))/\OldK s₁.heap s'.heap/\s'.os=s₁.os/\Oa s'.gens) s₁:=by
 have rv:=wF hi;have lenV:=hi.length;have aT:a∉ts:=λh=>by have:=hT a h;rw [ha] at this;cases this
 have X2:∀H:Hp,(∀b,H b=none\/(∃o xs,H b=some (.frz o (.lst xs)))\/(b∈ts/\H b=some (.tbl #[])))->(∀T∈ts,H T=some (.tbl #[]))->SqL K H a (ns.map V.int)->HOk P w H s₁.heap->(∀b,H b≠none->b=a\/b∈ts)->(H a≠none->K.lookup a=none) ->
   OJ (LZ P w) callerA (.call (.ref fa) ⟨[.ref a],[]⟩) (λr s'=>r = .ok (.ret (.bool true))/\OldK s₁.heap s'.heap/\s'.os=s₁.os/\Oa s'.gens) s₁:=by
  intro H hO hHT hS hok hA hK;have base_of:∀{b:Addr}{o:Obj},s₁.heap.get? b=some o->H b=none->(dD s₁.heap H).get? b=some o:=λe n=>JP e n;have noA:∀{b:Addr}{o:Obj},s₁.heap.get? b=some o->(∀xs n,o.data≠.seq xs n)->(∀ps,o.data≠.fields ps)->H b=none:=λ{b o} e d1 d2=>by
   cases q:H b with
   | none=>rfl
   | some u =>
    rcases hA b (by rw [q];simp) with e'|e'
    .subst e';rw [ha] at e;cases e;exact absurd rfl (d1 _ _)
    .rw [hT b e'] at e;cases e;exact absurd rfl (d2 _)
  have nsK:∀{b:Addr}{m:Str->Option Value},s₁.heap.Ns b m->(dD s₁.heap H).Ns b m:=λ{b m} ⟨o,es,ep,e,d,r⟩=>⟨o,es,ep,base_of e (noA e (λ_ _=>by rw [d];nofun) (λ_=>by rw [d];nofun)),d,r⟩;have hKb:K.In (dD s₁.heap H):=λb o e=>base_of (KX b o e) (by
   cases q:H b with
   | none=>rfl
   | some u =>
    rcases hA b (by rw [q];simp) with e'|e'
    .subst e';rw [hK (by rw [q];simp)] at e;cases e
    .rw [(hC b e').1] at e;cases e)
  have hM:Mod K mg (dD s₁.heap H):=⟨hKb,nsK hns,⟨mb,nsK hb,hbb⟩,let ⟨mc,h1,h2⟩:=hlim;⟨mc,nsK h1,h2⟩⟩;have hB:gg mg (dD s₁.heap H):=let ⟨bm,o,b1,b2,b3,b4,b5,b6,b7⟩:=hbm;⟨bm,o,b1,b2,b3,base_of b4 (noA b4 (λ_ _=>by rw [b7];nofun) (λ_=>by rw [b7];nofun)),b5,b6,b7⟩;have e0:f9 P w K mg (dD s₁.heap H) callerA [] s₁ H:=⟨rfl,.inl rfl,hM,λb o e=>Ln e,PB (CQ _ _),trivial,λb hb=>absurd (show b∈([]:List Addr) from hb) (by simp),hok,.of_eq hg⟩;refine On ((F _ hKb (nsK hns) hB).run callerA [] s₁ H ⟨[.ref a],[]⟩ [.ref a] [.ref a] _ _ hr e0 (X1 s₁ (.ref a)) (.cons rfl .nil) (Xp H hHT hS)) λr s' h=>?_;cases r with
  | error e=>exact (hCX H e s' h).elim
  | ok fl =>
   cases fl with
   | next=>exact False.elim h
   | brk=>exact False.elim h
   | cont=>exact False.elim h
   | ret u =>
    obtain ⟨v,H',os,bare,un,hok',r',q⟩:=h;have q':v = .bl true:=q;subst q';obtain rfl:u=Og true:=r';have grown:∀b,b∈ts->∃more:Array Value,s'.heap.get? b=some (tabObj (#[]++more)):=λb hb=>by
     obtain ⟨more,z⟩:=un.tbls b #[] (hHT b hb);exact ⟨more,hok' b _ z⟩
    refine ⟨rfl,⟨λb o e=>?_,λb o e=>un.there b o e (by simp)⟩,os,bare⟩;cases q:H b with
    | none=>exact .inl (un.keep b o e q (by intro z;exact absurd (show b∈([]:List Addr) from z) (by simp)) (by simp))
    | some u =>
     rcases hO b with z|⟨ob,xs,z⟩|⟨hb,z⟩
     .rw [q] at z;cases z
     .have z2:=un.frzs b ob _ z;obtain ⟨e1,_⟩:=hok b _ z;obtain ⟨e2,_⟩:=hok' b _ z2;rw [e] at e1;cases e1;exact .inl e2
     .obtain ⟨more,g⟩:=grown b hb;have e2:=hT b hb;rw [e] at e2;cases e2;obtain ⟨_,c,hc⟩:=hC b hb;exact .inr (.inl ⟨((PySem.W.codeHd_of_K KX hc).tab (hT b hb)).isCodeTable,rfl,#[],more,rfl,g⟩)
 cases hk:K.lookup a with
 | some o =>
  have e:=KX a o hk;rw [ha] at e;cases e;refine X2 (λb=>if b∈ts then some (.tbl #[]) else none) (λb=>?_) (λT h=>if_pos h) (.inr ⟨_,vs.toArray,_,hk,rfl,rfl,rfl,by rw [LY,lenV];exact hl,by simpa using rv⟩) (λb u z=>?_) (λb z=>?_) λz=>absurd (if_neg aT) z
  .by_cases hb:b∈ts
   .exact .inr (.inr ⟨hb,if_pos hb⟩)
   .exact .inl (if_neg hb)
  .by_cases hb:b∈ts
   .have z':=(if_pos hb).symm.trans z;cases z';exact hT b hb
   .have z':=(if_neg hb).symm.trans z;cases z'
  .by_cases hb:b∈ts
   .exact .inr hb
   .exact absurd (if_neg hb) z
 | none =>
  refine X2 (λb=>if b=a then some (.frz { cls:=.type "list",data:=.seq vs.toArray } (.lst (ns.map V.int))) else if b∈ts then some (.tbl #[]) else none) (λb=>?_) (λT h=>?_) (.inl (.inr ⟨{ cls:=.type "list",data:=.seq vs.toArray },if_pos rfl⟩)) (λb u z=>?_) (λb z=>?_) λ_=>hk
  .by_cases hb:b=a
   .exact .inr (.inl ⟨_,_,if_pos hb⟩)
   .by_cases Xu:b∈ts
    .exact .inr (.inr ⟨Xu,by rw [if_neg hb,if_pos Xu]⟩)
    .exact .inl (by rw [if_neg hb,if_neg Xu])
  .rw [if_neg (λz=>aT (by rw [<- z];exact h)),if_pos h]
  .by_cases hb:b=a
   .have z':=(if_pos hb).symm.trans z;cases z';subst hb;exact ⟨ha,by rw [KE];exact hl,vs,_,rv,ha⟩
   .have z1:=(if_neg hb).symm.trans z;by_cases Xu:b∈ts
    .have z2:=(if_pos Xu).symm.trans z1;cases z2;exact hT b Xu
    .have z2:=(if_neg Xu).symm.trans z1;cases z2
  .by_cases hb:b=a
   .exact .inl hb
   .by_cases Xu:b∈ts
    .exact .inr Xu
    .exact absurd (show (if b=a then _ else if b∈ts then _ else none)=none by rw [if_neg hb,if_neg Xu]) z
theorem walk_ofT{l:PySem.W.OpenLaw}{n k:Nat}{q:LV}{Yf:List Str}{XP:(Str->Option Value)->Heap->Prop}{YP:Mf->Heap->Prop}{d:DefRec}{K:Params->LK}{CX:Mf->CXT}{sp:Mf->Sp}{ts:List Addr}
  (hn:l.most=some n) (hn2:n<=sizeLine) (hdf:d.params.defaults=[]) (hr:zJ true k callerA)
  (hY:∀(w:Mf)(h:Heap),YP w h->(K w.params).In h/\∀T∈ts,h.get? T=some (tabObj #[]))
  (F:∀(w:Mf)(mg:Str->Option Value)(fa:Addr)(h:Heap),(K w.params).In h->h.Ns LN mg->mg d.name=some (.ref fa) ->
   ∃fd:Nc,(∀(s:LF)(u:Value),BindsTo s fd ⟨[u],[]⟩ [(x,u)])/\(∀T∈ts,(K w.params).lookup T=none/\∃c,codeHdIn (K w.params) c T=true) /\
    ∀base:Heap,(K w.params).In base->base.Ns LN mg->gg mg base->zo l.prog w (K w.params) mg base (CX w) true k fa fd [x] (sp w))
  (Xp:∀(w:Mf)(H:Hp)(a:Addr)(ns:List Int),ns.length<=n->(∀T∈ts,H T=some (.tbl #[]))->SqL (K w.params) H a (ns.map V.int)->sp w [.ref a] H (λv _=>v = .bl true) λ_ _ _=>False)
  (hCX:∀(w:Mf)(H:Hp)(s:LF)(e:Value)(s':LF),CX w [] H s (λ_ _ _=>False) e s'->False) :
  PySem.W.WalkO q Yf XP YP l.row.toRowW d [] (λf vs=>PySem.call f vs):=by
 refine Att.attach_call hn hdf λw s₀ s₁ mg mb fa o pm cd Yj a vs ns G Y ho hd hcd hmg hobj Xh Z5 hg=>?_;obtain ⟨KX,hT⟩:=hY w _ Y;obtain ⟨fd,hb,hC,hF⟩:=F w mg fa _ KX G.T.g hmg;have hbm:gg mg s₁.heap:=by
  obtain ⟨bm,ob,b1,b2,b3,b4,b5,b6⟩:=G.T.bmain;refine ⟨bm,ob,b1,b2,λz=>?_,b3,b4,b5,b6⟩;obtain ⟨og,es,ep,eg,hdg,_⟩:=G.T.g;rw [z,eg] at b3;cases b3;rw [hdg] at b6;cases b6
 exact Ed hT hC hbm KX G.T.g G.T.b G.T.builtins G.T.nolimit hg hobj Xh (Mp Z5 hn2) hr hF hb (λH hO hS=>Xp w H a ns Z5 hO hS) λH e s'=>hCX w H s₁ e s'
theorem Fun.okC{P:LV}{mg:Str->Option Value}{base:Heap}{st:Stmt}{f c:Addr}{fd:Nc}{N:List Str}{k:Nat}(F:Fun K x qual st f fd)(hc:fd.code = .ref c)(S:zw N ps (zm st))(len:∀vs H Q E,sp vs H Q E->vs.length=ps.length)
  (Yq:∀(A:Mn)(outer:List Env)(s:LF)(H:Hp)(vs:List V)(Q:VK)(E:XK),zJ cm k (A.deeper (Od qual (zm st) s.heap.objs.size f (.ref c)))->sp vs H Q E ->
   ∃t,PSs (cI CX0 cm P w K mg base N qual (zm st) f (.ref c) A outer s H E).nox (dS st) t/\t { nx:=λ_ H'=>Q .non H',rt:=Q } (start N vs) H):zo P w K mg base CX0 cm (k+1) f fd ps sp:=by
 obtain ⟨oc,od,kV,Yj,pm,an,Z1,ct,osl,rfl,lk,hcd⟩:=F.ex;have e:Z1 = .ref c:=hc;subst e;refine mf lk hcd S len λA outer s H vs Q E hr Xp=>?_;obtain ⟨t,h,q⟩:=Yq A outer s H vs Q E hr Xp;exact ⟨t,h.nox,q⟩
section
variable {X:Cx}
theorem ES{k:Nat}{a:Mw}{p X8 p2:Pos}(LB:iE X.mg X.base X.env.code P)(hr:zJ cm k X.A)
  (hg:Gl X "sorted") (hm:X.mg "sorted"=none) (ha:W (PE X a ta)) (W7:defaultsOf ZS X.env=([],[])) (hcl:OU scope X.env=pure [])
  (X1:∀(q:Str)(pm cd ct v:Value),bindArgs (kla_fn "<lambda>" q ZS (.Subscript (.Subscript (.Name x p1) (.Constant (.int 0) j1 p2) p3) (.Constant (.int 1) j2 p4) p5) scope [] pm cd ct) ⟨[v],[]⟩=pure [(x,v)])
  (W6:scope.names=[(x,.local)]) (Yg:scope.kind = .function) (hco:scope.isCoroutine=false) (hgen:scope.isGenerator=false) (hp:av a=true:=by rfl) (Y7:(x==("__debug__":Str))=false:=by decide) :
  W (PE X (.Call (.Name "sorted" p) [a] [⟨some (vv "key"),.Lambda ZS (.Subscript (.Subscript (.Name x p1) (.Constant (.int 0) j1 p2) p3) (.Constant (.int 1) j2 p4) p5) scope X8,kp⟩] pos) (pd P X8 (X.env.qual++"<lambda>") ta)):=⟨Gi LB hr hg hm ha.h W7 hcl X1 W6 Yg hco hgen hp Y7⟩
def nh(K:LK)(D:Addr)(tb:(Addr->St->Hp->Prop)->TS)(ts:TS):TS:=λZ σ H =>
 tb (λC σ' H'=>bM K C/\Qg K C (.ref D)=some true/\∀ea oe,H' ea=none->iq C oe->ts Z σ' (upd H' ea (.frz oe (.own 0)))) Z σ H
theorem KR{hpos:Pos}{Zz:List Stmt}{b₀:Stmt}{XZ:List Stmt}{ts:TS}(hc:X.calm=true)(hex:X.ex=[])(XM:X.stack=X.env::X.outer/\X.env.frame=some X.env.locals)
  (OD:bM X.K D) (hg:Gl X x) (hm:X.mg x=some (.ref D))
  (hb:∀Go Ex,PSs (pO X Go Ex) Zz (tb Ex)) (hs:∀Go ea,PSs (iR X Go ea) (b₀::XZ) ts) (Y7:(x==("__debug__":Str))=false:=by decide) :
  PS X (.Try Zz [.ExceptHandler (some (.Name x np)) none (b₀::XZ) hpos] [] [] pos) (nh X.K D tb ts):=by
 intro Go s σ H Z I h;have hh:X.A.handled=none:=I.ok.hd hc;refine wpAny_Try_except (Mv (hb Go _ [] s σ H Z (I.p.wish _) h) (λf s1 q=>?_) λe s1 q=>?_)
 .cases f with
  | next =>
   obtain ⟨σ',H',J,q⟩:=q;exact Ou ⟨σ',H',Inv.unp I.ok J.unwish,q⟩
  | brk=>obtain ⟨σ',H',J,q⟩:=q;exact ⟨σ',H',Inv.unp I.ok J.unwish,q⟩
  | cont=>obtain ⟨σ',H',J,q⟩:=q;exact ⟨σ',H',Inv.unp I.ok J.unwish,q⟩
  | ret u=>obtain ⟨v,σ',H',J,r,q⟩:=q;exact ⟨v,σ',H',Inv.unp I.ok J.unwish,r,q⟩
 .obtain ⟨ea,C,B,H',fl,σ',sI,rfl,J,y,os,bare,hB,up,OC,sub,want⟩:=q;have fr:X.A.frames=some (X.env::X.outer):=by rw [I.ok.frames,XM.1]
  rw [XM.1] at y;refine qJ fr XM.2 y λh2 y2 u2=>nZ (s:={ s1 with heap:=h2 }) y2 λh3 y3 u3=>?_;have y3':aZ B X.stack ea (.ref C) .none h3:=by rw [XM.1];exact y3
  have up3:=(up.trans u2).trans u3;obtain ⟨_,oe3,c3,g3,J3⟩:=yK (s':={ s1 with heap:=h3 }) hex J y3' os bare hB up3;obtain ⟨cdC,cC,eC⟩:=OC.obj J3.kIn;obtain ⟨cdD,cD,eD⟩:=OD.obj J3.kIn;have Xx:cdC.mro.contains (.ref D)=true:=by
   unfold Qg at sub;rw [cC] at sub;simp only [Pp] at sub;split at sub
   .cases sub
   .exact Ms.inj sub
  refine wpAny_handleBy_cons (codeAny_handlers_test (gh (X:=iR X Go ea) J3 hg hm ?_ Y7)) (by intro q;cases q);refine Bk (h:=h3) (g:=s1.gens) (d:=s1.drawn) (t:=s1.toks) (os:=s1.os) eC eD g3 c3.1 Xx ?_;refine codeAny_handlers_suite ?_;refine nZ (s:={ s1 with heap:=h3 }) y3 λh4 y4 u4=>?_;have y4':aZ B X.stack ea (.ref C) .none h4:=by rw [XM.1];exact y4
  obtain ⟨hH4,oe4,c4,g4,J4⟩:=yK (s':={ s1 with heap:=h4 }) hex J y4' os bare hB (up3.trans u4);refine Mv (hs Go ea [] _ _ _ _ J4 (want ea oe4 hH4 c4)) (λf s6 q6=>?_) λ_ _ z=>z.elim;cases f with
  | next=>obtain ⟨σ7,H7,J7,q7⟩:=q6;exact ⟨_,_,Inv.unsuite I.ok hh J7,q7⟩
  | brk=>obtain ⟨σ7,H7,J7,q7⟩:=q6;exact ⟨_,_,Inv.unsuite I.ok hh J7,q7⟩
  | cont=>obtain ⟨σ7,H7,J7,q7⟩:=q6;exact ⟨_,_,Inv.unsuite I.ok hh J7,q7⟩
  | ret u=>obtain ⟨v,σ7,H7,J7,r7,q7⟩:=q6;exact ⟨v,_,_,Inv.unsuite I.ok hh J7,r7,q7⟩
theorem mO{hpos:Pos}{Zz:List Stmt}{b₀:Stmt}{XZ:List Stmt}{ts:TS}(hc:X.calm=true)(hex:X.ex=[])(XM:X.stack=X.env::X.outer/\X.env.frame=some X.env.locals)
  (OD:bM X.K D) (hg:Gl X x) (hm:X.mg x=some (.ref D))
  (hb:∀Go Ex,W (PSs (pO X Go Ex) Zz (tb Ex))) (hs:∀Go ea,W (PSs (iR X Go ea) (b₀::XZ) ts)) (Y7:(x==("__debug__":Str))=false:=by decide) :
  W (PS X (.Try Zz [.ExceptHandler (some (.Name x np)) none (b₀::XZ) hpos] [] [] pos) (nh X.K D tb ts)):=⟨KR hc hex XM OD hg hm (λGo Ex=>(hb Go Ex).h) (λGo ea=>(hs Go ea).h) Y7⟩
theorem Lx{ts:TS}{Z:aL}:nh K D tb ts Z σ H=tb (λC σ' H'=>bM K C/\Qg K C (.ref D)=some true/\∀ea oe,H' ea=none->iq C oe->ts Z σ' (upd H' ea (.frz oe (.own 0)))) Z σ H:=rfl
def qc(neg:Bool):R2:=λx y H Q=>∃a b xs ys,x = .ref a/\y = .ref b/\H a=some (.lst xs)/\H b=some (.lst ys)/\(xs.length=0\/ys.length=0)/\Q (.bl (if neg then !decide (xs.length=ys.length) else decide (xs.length=ys.length))) H
theorem va(hu:X.A.units<cLine):OpR X (MA .Eq) (qc false):=by
 intro Go s σ H x y v u Q I rx ry h;obtain ⟨a,b,xs,ys,rfl,rfl,ha,hb,h0,q⟩:=h;cases rx;cases ry;by_cases hz:xs.length=ys.length
 .have h1:xs=[]:=NU.mp (by lia);have h2:ys=[]:=NU.mp (by lia);subst h1 h2;exact tQ hu Go s σ H (.ref a) (.ref b) (.ref a) (.ref b) Q I rfl rfl ⟨a,b,[],[],rfl,rfl,SqL.of ha,SqL.of hb,rfl,rfl,q⟩
 .obtain ⟨is,r1,p1,_⟩:=I.list (SqL.of (K:=X.K) ha);obtain ⟨js,r2,p2,_⟩:=I.list (SqL.of (K:=X.K) hb);have l1:=r1.length;have l2:=r2.length;refine SeqAt.eq_list_lengthsAt p1.isList p2.isList (by simp;lia) hu ⟨.bl false,H,I,rfl,?_⟩;have q':Q (.bl (decide (xs.length=ys.length))) H:=q;rw [decide_eq_false hz] at q';exact q'
theorem xT(hu:X.A.units<cLine):OpR X (MA .NotEq) (qc true):=by
 intro Go s σ H x y v u Q I rx ry h;obtain ⟨a,b,xs,ys,rfl,rfl,ha,hb,h0,q⟩:=h;cases rx;cases ry;by_cases hz:xs.length=ys.length
 .have h1:xs=[]:=NU.mp (by lia);have h2:ys=[]:=NU.mp (by lia);subst h1 h2;exact uz hu Go s σ H (.ref a) (.ref b) (.ref a) (.ref b) Q I rfl rfl ⟨a,b,[],[],rfl,rfl,SqL.of ha,SqL.of hb,rfl,rfl,q⟩
 .obtain ⟨is,r1,p1,_⟩:=I.list (SqL.of (K:=X.K) ha);obtain ⟨js,r2,p2,_⟩:=I.list (SqL.of (K:=X.K) hb);have l1:=r1.length;have l2:=r2.length;refine SeqAt.RcNeAt.lists_lengths p1.isList p2.isList (by simp;lia) hu _ _ _ _ ⟨.bl true,H,I,rfl,?_⟩;have q':Q (.bl (!decide (xs.length=ys.length))) H:=q;rw [decide_eq_false hz] at q';exact q'
theorem ub{neg:Bool}{b:Addr}{Q:VK}:qc neg (.ref a) (.ref b) H Q = ∃xs ys,H a=some (.lst xs)/\H b=some (.lst ys)/\(xs.length=0\/ys.length=0)/\Q (.bl (if neg then !decide (xs.length=ys.length) else decide (xs.length=ys.length))) H:=by
 apply propext;constructor
 .rintro ⟨a',b',xs,ys,e1,e2,h⟩;cases e1;cases e2;exact ⟨xs,ys,h⟩
 .rintro ⟨xs,ys,h⟩;exact ⟨a,b,xs,ys,rfl,rfl,h⟩
def mU:List V->Hp->VK->Prop:=λxs H Q=>∃i,xs=[.int i]/\Q (.int (if i<0 then -i else i)) H
theorem Lj{Q:VK}:mU [.int i] H Q=Q (.int (if i<0 then -i else i)) H:=by simp [mU]
theorem Ag:zN X (.builtin "abs") mU:=by
 intro Go s σ H xs us Q I r h;obtain ⟨i,rfl,q⟩:=h;obtain ⟨u,rfl,t,rfl⟩:=bY r;exact call_abs_int λu tk=>⟨.int _,H,I.tok tk,⟨_,rfl⟩,q⟩
end
section
variable {K:LK}{g:TG}{tt:TT}{te:TE}{H:Hp}{Q:VK}
theorem zS.enum{xs:List V}{τ:St}(Pv:Nat->St->List V->Hp->Prop)(hz:∀i τ ys H,Pv i τ ys H->ys.length<sizeLine)(ha:∀i τ ys H,Pv i τ ys H->SqL K H a xs)(h0:Pv 0 τ [] H)
  (hs:∀(N:St->List V->Hp->Prop) i x p τ ys H,xs[i]?=some x->Pv i τ ys H->H p=none->(∀τ ys H,Pv (i+1) τ ys H->N τ ys H)->g (.ref p) τ (upd H p (.tup [.int i,x])) λτ1 H4=>tt τ1 H4 λok H5=>dJ N ys τ1 te ok H5) (hd:∀τ ys H,Pv xs.length τ ys H->∀D H',New H D (.lst ys) H'->D≠sysModules->Q (.ref D) H'):zS (Ite K a) g tt te τ H Q:=by
 refine ⟨λi m τ ys H=>m=xs.length-i/\i<=xs.length/\Pv i τ ys H,⟨xs.length,by simp,MM _,h0⟩,?_⟩;rintro i m τ ys H2 ⟨rfl,hi,p⟩;refine ⟨hz i τ ys H2 p,?_⟩;have q:=ha i τ ys H2 p;by_cases ZO:i<xs.length
 .refine .inr ⟨⟨xs,xs[i],q,by simp [ZO]⟩,λx H' y=>?_⟩;obtain ⟨T,z,hT,rfl,rfl,hz⟩:=y;exact hs (λτ1 ys H=>∃m',m'<xs.length-i/\m'=xs.length-(i+1)/\i+1<=xs.length/\Pv (i+1) τ1 ys H) i z T τ ys _ (hz xs q) p hT λτ1 zs H q=>⟨xs.length-(i+1),by lia,rfl,ZO,q⟩
 .have e:i=xs.length:=by lia
  subst e;exact .inl ⟨⟨xs,q,we _⟩,λD hD hs=>hd τ ys H2 p D _ (.mk' hD) hs⟩
end
theorem Aq{c:Bool}{p:Addr}{Q:VK}:kT c (.int i) (.ref p) H Q = ∃kvs,Rd H p (.dK kvs)/\Q (.bl (if c then !(zW kvs (.inl i)).isSome else (zW kvs (.inl i)).isSome)) H:=by
 apply propext;constructor
 .rintro ⟨a,k,kvs,e1,e2,h,q⟩;cases e1;cases k with
  | inl i=>cases e2;exact ⟨kvs,h,q⟩
  | inr x=>cases e2
 .rintro ⟨kvs,h,q⟩;exact ⟨p,.inl i,kvs,rfl,rfl,h,q⟩
def ao(f:Nat->Int):Nat->Option Int
 | 0=>none
 | j+1=>some (match ao f j with|none=>f j|some m=>if f j>m then f j else m)
def jt:Option Int->Array Value->Prop|none,its=>its = #[]|some m,its=>∃t,its = #[.int m t,.int m t]
def lR(d:Value):Option Int->Value->Prop|none,v=>v=d|some m,v=>∃t,v = .int m t
section
variable {prog:LV}{w:Mf}{A:Mn}{E:Value->LF->Prop}{s:LF}
theorem Co{R:Result->LF->Prop}{I:Addr}{fp wr:List Addr}{n:Nat}{P:Nat->Value->Prop}{St:Nat->Heap->Prop}{d:Value}{kw:List (Str×Value)}(W:Walks prog w A.in1 I fp wr n P St)(f:Nat->Int)(hv:∀i v,P i v->∃t,v = .int (f i) t)(S:Addr)(hSf:S∉fp)(hkw:0<n\/kw=[(vv "default",d)]) :
  ∀(k j:Nat)(s:LF)(c:Nat)(its:Array Value),n-j=k->j<=n->St j s.heap->jt (ao f j) its ->
  s.heap.get? S=some { cls:=.type "list",dict:=none,data:=.seq its c,slots:=#[] } ->
  (∀v h' tk,lR d (ao f n) v->(∀b o,b∉wr->b≠S->s.heap.get? b=some o->h'.get? b=some o)->R (.ok (.ret v)) { s with heap:=h',toks:=tk }) ->
  OJ (LZ prog w) A (.builtin "max.loop" ⟨[.ref I,.none,.ref S],kw⟩) R s:=by
 have hSw:S∉wr:=λh=>hSf (W.sub _ h);have XY:(toString "max"++toString ".loop":String)="max.loop":=by decide
 intro k
 induction k with
 | zero =>
  intro j s c its hk hj hst hC hS hR;have XR:j=n:=by lia
  refine Pj F.entry_max_loop ?_;rw [Mn.under_plainId F.plain_max_loop _];show LS _ A.in1 (Qj (.ref S)>>=_) _ _ s;refine fv (M7 hS rfl ?_);show LS _ A.in1 (tryCatch (Oy (.ref I)) _>>=_) _ _ s;refine fv (wpAny_tryCatch (W.done s _ _ (XR ▸ hst) λh' tk YF=>?_));have hS':=YF S _ hSw hS;rw [XR] at hC;cases hb:ao f n with
  | none =>
   rw [hb] at hC hR;cases (show its = #[] from hC);have h0 : ¬ 0<n:=λz=>by
    cases n with
    | zero=>lia
    | succ m=>cases hb
   rcases hkw with z|rfl
   .exact absurd z h0
   show LS _ A.in1 (rule _>>=_) _ _ _;exact fv (NN (LJ (hR d _ tk rfl λb o Xm _ e=>YF b o Xm e)))
  | some m =>
   rw [hb] at hC hR;obtain ⟨t,rfl⟩:=hC;show LS _ A.in1 (updateSeq S (λ_=>#[])>>=_) _ _ _;refine fv (wpAny_updateSeq hS' rfl (fv (O6 (LJ ?_))));exact hR _ _ tk ⟨t,rfl⟩ λb o Xm hbS e=>(Mo _ _ (L8 hbS)).trans (YF b o Xm e)
 | succ k ih =>
  intro j s c its hk hj hst hC hS hR;have ZO:j<n:=by lia
  refine Pj F.entry_max_loop ?_;rw [Mn.under_plainId F.plain_max_loop _];show LS _ A.in1 (Qj (.ref S)>>=_) _ _ s;refine fv (M7 hS rfl ?_);show LS _ A.in1 (tryCatch (Oy (.ref I)) _>>=_) _ _ s;refine fv (wpAny_tryCatch (W.item j s _ _ ZO hst λv h' tk hP hst' YF=>?_));have hS':=YF S _ hSw hS;obtain ⟨t,rfl⟩:=hv j v hP;have upd':∀{b o}{g:Array Value->Array Value},b≠S->h'.get? b=some o->(h'.update S (N8 g)).get? b=some o:=λn e=>(Mo _ _ (L8 n)).trans e;have frm:∀{g:Array Value->Array Value},St (j+1) (h'.update S (N8 g)):=λ{g}=>W.frame _ _ _ hst' λb hb o e=>upd' (λz=>hSf (z ▸ hb)) e;cases hb:ao f j with
  | none =>
   rw [hb] at hC;cases (show its = #[] from hC);show LS _ A.in1 (updateSeq S (λ_=>#[.int (f j) t,.int (f j) t])>>=_) _ _ _;refine fv (wpAny_updateSeq hS' rfl ?_);rw [XY];refine LJ ⟨P0 F.plain_max_loop _,ih (j+1) _ _ _ (by lia) ZO frm ?_ (M3 _ hS' rfl) λv' h2 tk2 W0 Yi=>?_⟩
   .show jt (some _) _;rw [hb];exact ⟨t,rfl⟩
   .exact hR v' h2 tk2 W0 λb o Xm hbS e=>Yi b o Xm hbS (upd' hbS (YF b o Xm e))
  | some m =>
   rw [hb] at hC;obtain ⟨u,rfl⟩:=hC;show LS _ A.in1 (tryCatch (Ol [.int (f j) t,.int (f j) t] (richCompare .Gt (.int (f j) t) (.int m u)>>=_)) _>>=_) _ _ _;obtain ⟨bt,hbt,hcmp⟩:∃bt:Nat->Nat->Bool,bt 0 1=decide (f j>m)/\CmpOf prog w A.in1 .Gt (λi v=>(i=0/\v = .int (f j) t)\/(i=1/\v = .int m u)) bt:=⟨_,rfl,CmpOf.ints_gt (λi=>if i=0 then f j else m) λi v h=>by rcases h with ⟨rfl,rfl⟩|⟨rfl,rfl⟩<;>exact ⟨_,rfl⟩⟩;refine fv (wpAny_tryCatch (Mt (fv (hcmp 0 1 _ _ _ _ _ (.inl ⟨rfl,rfl⟩) (.inr ⟨rfl,rfl⟩) ?_))));refine fv (Mt (Nr ?_));refine fv (O6 (LJ ?_));by_cases hg:f j>m
   .rw [hbt,decide_eq_true hg];simp only [if_true];refine fv (wpAny_updateSeq hS' rfl (fv (O6 ?_)));rw [XY];refine LJ ⟨P0 F.plain_max_loop _,ih (j+1) _ _ _ (by lia) ZO frm ?_ (M3 _ hS' rfl) λv' h2 tk2 W0 Yi=>?_⟩
    .show jt (some _) _;rw [hb];simp only [if_pos hg];exact ⟨t,rfl⟩
    .exact hR v' h2 tk2 W0 λb o Xm hbS e=>Yi b o Xm hbS (upd' hbS (YF b o Xm e))
   .rw [hbt,decide_eq_false hg];simp only [Nz,if_false];refine fv (O6 ?_);rw [XY];refine LJ ⟨P0 F.plain_max_loop _,ih (j+1) _ _ _ (by lia) ZO hst' ?_ hS' λv' h2 tk2 W0 Yi=>?_⟩
    .show jt (some _) _;rw [hb];simp only [if_neg hg];exact ⟨u,rfl⟩
    .exact hR v' h2 tk2 W0 λb o Xm hbS e=>Yi b o Xm hbS (YF b o Xm e)
theorem Ew(a d:Value):argsOk "max" ⟨[a],[(vv "default",d)]⟩:=by unfold argsOk;kernel_rfl
theorem rG{its:Array Value}{f:Nat->Int}{kw:List (Str×Value)}{d:Value}(hh:A.handled=none)(hl:s.heap.IsList l its)(hv:∀(i:Nat) v,its[i]?=some v->∃t,v = .int (f i) t)(hkw:(0<its.size/\kw=[])\/kw=[(vv "default",d)])
  (h:∀v h' tk,lR d (ao f its.size) v->(∀b o,s.heap.get? b=some o->h'.get? b=some o)->Q v { s with heap:=h',toks:=tk }) :
  LS (LZ prog w) A (call (.builtin "max") [.ref l] kw) Q E s:=by
 have XY:(toString "max"++toString ".loop":String)="max.loop":=by decide
 have ZO:l<s.heap.objs.size:=by obtain ⟨_,e,_⟩:=hl;exact L7 e
 have hao:argsOk "max" ⟨[.ref l],kw⟩:=by
  rcases hkw with ⟨_,rfl⟩|rfl
  .exact F.args_max1 _
  .exact Ew _ _
 refine PyProof.Rows.kmk_tree F.kind_max F.plain_max F.entry_max hao ?_;obtain ⟨df,hdf,hdk⟩:∃df:Option Value,L5.Builtins.bindParams "max" ["key","default"] 0 ⟨[],kw⟩=pure [none,df]/\(df.toList.map λd=>((vv "default":Str),d))=kw:=by
  rcases hkw with ⟨_,rfl⟩|rfl
  .exact ⟨none,rfl,rfl⟩
  .exact ⟨some d,rfl,rfl⟩
 show LS _ A.in1 (L5.Builtins.bindParams "max" ["key","default"] 0 ⟨[],kw⟩>>=_) _ _ s;refine fv (wpAny_of_eq hdf ?_);refine fv (LJ ?_);refine fv (NJ hl ?_);refine fv (MG ?_);rw [XY];have hS:(s.heap.push { cls:=.type "list_iterator",data:=.fields #[.ref l,.int 0 0] }).objs.size=s.heap.objs.size+1:=Py ..;have hlI:l≠s.heap.objs.size:=Mx ZO;refine LJ ⟨P0 F.plain_max_loop _,?_⟩;show OJ _ A (.builtin "max.loop" ⟨[_,.none,_],df.toList.map λd=>((vv "default":Str),d)⟩) _ _;rw [hdk];refine Co (Walks.list (A:=A.in1) hh _ l hlI its) f hv _ (λhm=>?_) (hkw.imp (·.1) id) _ 0 _ _ #[] rfl (MM _) ⟨⟨_,p8 _ (LW _ rfl),rfl,rfl⟩,(hl.push _).push _⟩ rfl (LW _ rfl) λv h' tk hr hk=>?_
 .rcases LI.mp hm with e|hm
  .rw [hS] at e;exact absurd e (NQ (Pm _))
  .rcases LI.mp hm with e|hm
   .rw [hS] at e;exact absurd (e ▸ N7 ZO) (Ml _)
   .cases hm
 .refine h v h' tk hr λb o e=>hk b o (λhm=>?_) (λz=>?_) (p8 _ (p8 _ e))
  .rcases LI.mp hm with e1|hm
   .exact absurd (e1 ▸ L7 e) (Ml _)
   .cases hm
  .have:=L7 e;rw [z,hS] at this;exact absurd this (not_lt.mpr (PV _))
end
section
variable {X:Cx}
def oi:Option Int->V|none=>.non|some m=>.int m
def ox:List V->Hp->VK->Prop:=λxs H Q=>nG xs H Q\/∃(l:Addr)(ks:List Int),xs=[.ref l]/\H l=some (.lst (ks.map V.int))/\0<ks.length/\Q (oi (ao (λi=>ks.getD i 0) ks.length)) H
theorem vb{ks:List Int}{its:List Value}(r:zq (ks.map V.int) its):∀(i:Nat) v,its.toArray[i]?=some v->∃t,v = .int (ks.getD i 0) t:=by
 intro i v h;rw [<- Pi] at h
 replace h:its[i]?=some v:=h
 induction ks generalizing its i with
 | nil=>cases r;simp at h
 | cons k ks ih =>
  cases r with
  | cons r rr =>
   cases i with
   | zero=>obtain ⟨t,rfl⟩:=r;simp at h;subst h;exact ⟨t,rfl⟩
   | succ i=>exact ih rr i (by simpa using h)
theorem xD{o:Option Int}{v:Value}(h:lR .none o v):zp (oi o) v:=by
 cases o with
 | none=>cases (show v = .none from h);rfl
 | some m=>obtain ⟨t,rfl⟩:=h;exact ⟨_,rfl⟩
theorem ig(hc:X.calm=true):zN X (.builtin "max") ox:=by
 intro Go s σ H xs us Q I r h;rcases h with h|⟨l,ks,rfl,hl,hn,q⟩
 .exact GE hc Go s σ H xs us Q I r h
 .obtain ⟨u,rfl,ru⟩:=bY r;cases ru;obtain ⟨its,rv,p,hz⟩:=I.list (SqL.of (K:=X.K) hl);have Z5:=rv.length;rw [KE] at Z5;refine rG (d:=.none) (f:=λi=>ks.getD i 0) (I.ok.hd hc) p.isList (vb rv) (.inl ⟨by rw [LY];lia,rfl⟩) λv h' tk hr hk=>⟨_,H,I.kept hk,xD hr,?_⟩;rw [LY,<- Z5];exact q
def md(ta:TE):TE:=λσ H Q=>ta σ H λv H1=>uR v λl=>∃ks:List Int,H1 l=some (.lst (ks.map V.int))/\Q (oi (ao (λi=>ks.getD i 0) ks.length)) H1
theorem Kt{Q:VK}:md ta σ H Q=ta σ H λv H1=>uR v λl=>∃ks:List Int,H1 l=some (.lst (ks.map V.int))/\Q (oi (ao (λi=>ks.getD i 0) ks.length)) H1:=rfl
theorem JM{a:Mw}{p:Pos}(hc:X.calm=true)(hg:Gl X "max")(hm:X.mg "max"=none)(ha:PE X a ta)(hp:av a=true:=by rfl) :
  PE X (.Call (.Name "max" p) [a] [⟨some (vv "default"),.Constant .none j np,kp⟩] pos) (md ta):=by
 intro Go s σ H Q I h;have hs:Ma [a] X.env=[(false,MJ a X.env)]:=du hp;have hA:=dE ha dM (hs:=hs) pos Go s σ H (λys H1=>∃y,ys=[y]/\uR y λl=>∃ks:List Int,H1 l=some (.lst (ks.map V.int))/\Q (oi (ao (λi=>ks.getD i 0) ks.length)) H1) I (by
  show ta σ H λx H1=>∃y,[x]=[y]/\_;have e:(λ(x:V)(H1:Hp)=>∃y,[x]=[y]/\uR y λl=>∃ks:List Int,H1 l=some (.lst (ks.map V.int))/\Q (oi (ao (λi=>ks.getD i 0) ks.length)) H1)=λv H1=>uR v λl=>∃ks:List Int,H1 l=some (.lst (ks.map V.int))/\Q (oi (ao (λi=>ks.getD i 0) ks.length)) H1:=by
   funext x H1;apply propext;constructor
   .rintro ⟨y,e,h⟩;cases e;exact h
   .exact λh=>⟨x,rfl,h⟩
  rw [e];exact h)
 refine MT (dO I hg hm boot_max (qP (by rw [hs];rfl) rfl ?_));rw [hs] at hA ⊢;refine evalArgs_kwB rfl (thn hA λus s1=>x5e λvs H1 I1 r1 q1=>kws_cons ?_);obtain ⟨y,rfl,l,rfl,ks,hl,q⟩:=q1;cases r1 with
 | cons r rr =>
  cases rr;cases r;refine wpAny_Constant_none (kws_nil ?_);obtain ⟨its,rv,pl,hz⟩:=I1.list (SqL.of (K:=X.K) hl);have Z5:=rv.length;rw [KE] at Z5;refine rG (d:=.none) (f:=λi=>ks.getD i 0) (I1.ok.hd hc) pl.isList (vb rv) (.inr rfl) λv h' tk hr hk=>⟨_,H1,I1.kept hk,xD hr,?_⟩;rw [LY,<- Z5];exact q
theorem FF{a:Mw}{p:Pos}(hc:X.calm=true)(hg:Gl X "max")(hm:X.mg "max"=none)(ha:W (PE X a ta))(hp:av a=true:=by rfl) :
  W (PE X (.Call (.Name "max" p) [a] [⟨some (vv "default"),.Constant .none j np,kp⟩] pos) (md ta)):=⟨JM hc hg hm ha.h hp⟩
theorem Ek{j:Int}{Q:VK}:ox [.int i,.int j] H Q=Q (.int (if j>i then j else i)) H:=by
 apply propext;constructor
 .rintro (h|⟨l,ks,e,_⟩)
  .rw [mI] at h;exact h
  .cases e
 .exact λq=>.inl (by rw [mI];exact q)
theorem mx{Q:VK}:ox [.ref l] H Q = ∃ks:List Int,H l=some (.lst (ks.map V.int))/\0<ks.length/\Q (oi (ao (λi=>ks.getD i 0) ks.length)) H:=by
 apply propext;constructor
 .rintro (⟨i,j,e,_⟩|⟨l',ks,e,h⟩)
  .cases e
  .cases e;exact ⟨ks,h⟩
 .rintro ⟨ks,h⟩;exact .inr ⟨l,ks,rfl,h⟩
def oJ(to te:TE):TE:=λσ H Q=>to σ H λx H1=>uR x λl=>(∃xs,H1 l=some (.lst xs))/\te σ H1 λy H2=>∃(xs:List V)(k:Nat)(v:V),y = .int k/\H2 l=some (.lst xs)/\xs[k]?=some v/\Q v (upd H2 l (.lst (xs.eraseIdx k)))
theorem J5{Q:VK}:oJ to te σ H Q=to σ H λx H1=>uR x λl=>(∃xs,H1 l=some (.lst xs))/\te σ H1 λy H2=>∃(xs:List V)(k:Nat)(v:V),y = .int k/\H2 l=some (.lst xs)/\xs[k]?=some v/\Q v (upd H2 l (.lst (xs.eraseIdx k))):=rfl
theorem E6{o e:Mw}{Z3 cpos:Pos}(ho:PE X o to)(he:PE X e te)
  (ZH:M9 o "pop" X.env (MJ o X.env)=MJ o X.env:=by rfl)
  (ZG:(Z3.endLine==cpos.line)=true:=by rfl) (hp:av e=true:=by rfl):PE X (.Call (.Attribute o "pop" Z3) [e] [] cpos) (oJ to te):=by
 intro Go s σ H Q I h;have hs:Ma [e] X.env=[(false,MJ e X.env)]:=du hp;refine Nx ZH (by rw [hs];rfl) ZG rfl (thn (ho Go s σ H _ I h) λv s1=>x5e λx H1 I1 r1 Ys=>?_);obtain ⟨l,ex,⟨xs,hx⟩,q1⟩:=Ys;subst ex;obtain ⟨h1,h2⟩:=iL (T:="list") I1 r1 (.inl ⟨rfl,xs,SqL.of hx⟩);refine ⟨"list","list.pop",plainAttrs_list,PySem.F.slot_list_pop,PySem.F.type_list_pop,h1,h2,?_⟩;rw [hs];refine Calls.callWith_builtin rfl (Calls.evalArgs_plain ?_);have hA:=dE he dM (hs:=hs) cpos Go s1 σ H1 (λys H2=>bX (λy=>∃(xs:List V)(k:Nat)(v:V),y = .int k/\H2 l=some (.lst xs)/\xs[k]?=some v/\Q v (upd H2 l (.lst (xs.eraseIdx k)))) ys) I1 q1;rw [hs] at hA;refine thn hA λus s2=>x5e λvs H2 I2 r2 q2=>?_;obtain ⟨_,rfl,xs2,k,y,rfl,hx2,hk,q2⟩:=bX.ex q2;obtain ⟨hz,_⟩:=I2.lstM hx2;have ZO:k<xs2.length:=(LH.mp hk).1;have hkz:k<sizeLine:=L9 ZO hz;rw [ML] at hkz;exact FI Go s2 σ H2 (.ref l) [.int k] v us Q I2 r1 r2 ⟨l,xs2,k,k,y,rfl,rfl,hx2,by lia,by lia,by simp [Qk];lia,hk,q2⟩
theorem JX{o e:Mw}{Z3 cpos:Pos}(ho:W (PE X o to))(he:W (PE X e te))
  (ZH:M9 o "pop" X.env (MJ o X.env)=MJ o X.env:=by rfl)
  (ZG:(Z3.endLine==cpos.line)=true:=by rfl) (hp:av e=true:=by rfl):W (PE X (.Call (.Attribute o "pop" Z3) [e] [] cpos) (oJ to te)):=⟨E6 ho.h he.h ZH ZG hp⟩
end
end L2
namespace L2
open PySem PySem.Spec PyProof.Rows PySem.W
variable{i n:Nat}
section
variable {α β:Type}{lt:Nat->Nat->Bool}{N:Nat}
def wpK(lt:Nat->Nat->Bool)(N:Nat){α:Type}:KasT α->(α->Prop)->Prop
 | .ret a,Q=>Q a
 | .ask i j k,Q=>i<N/\j<N/\wpK lt N (k (lt i j)) Q
theorem gH{f:α->KasT β}{Q:β->Prop}:∀{t:KasT α},wpK lt N t (λa=>wpK lt N (f a) Q)->wpK lt N (t.bind f) Q
 | .ret _,h=>h
 | .ask _ _ _,h=>⟨h.1,h.2.1,gH h.2.2⟩
theorem cz{Q Q':α->Prop}(hq:∀a,Q a->Q' a):∀{t:KasT α},wpK lt N t Q->wpK lt N t Q'
 | .ret _,h=>hq _ h
 | .ask _ _ _,h=>⟨h.1,h.2.1,cz hq h.2.2⟩
theorem yD{cmp:Nat->Nat->(Bool->LF->Prop)->LF->Prop}{s:LF}(hc:∀i j C,i<N->j<N->C (lt i j) s->cmp i j C s){Q:α->LF->Prop}:∀{t:KasT α},wpK lt N t (λa=>Q a s)->t.kasWp cmp Q s
 | .ret _,h=>h
 | .ask i j k,h=>hc i j _ h.1 h.2.1 (yD hc h.2.2)
structure bN(lt:Nat->Nat->Bool):Prop where
 asy:∀i j,lt i j=true->lt j i=false
 tra:∀i j k,lt j i=false->lt k j=false->lt k i=false
def at0(p:Array Nat)(i:Nat):Nat:=p.getD i 0
structure PM(N:Nat)(p:Array Nat):Prop where
 perm:p.Perm (Qx (Pk N))
theorem PM.size{p:Array Nat}(h:PM N p):p.size=N:=by have:=h.perm.size_eq;simpa using this
theorem PM.low{p:Array Nat}(h:PM N p)(hi:i<N):at0 p i<N:=by
 have hs:i<p.size:=by rw [h.size];exact hi
 have e:at0 p i=p[i]:=by unfold at0;simp [Array.getD,hs]
 have m:p[i]∈Qx (Pk N):=h.perm.mem_iff.mp (Array.getElem_mem hs);rw [e];simpa using m
theorem pU(p:Array Nat)(i:Nat):at0 p i=(p[i]?).getD 0:=by unfold at0;rw [Array.getD_eq_getD_getElem?]
def Ri(lt:Nat->Nat->Bool)(p:Array Nat)(n:Nat):Prop:=∀i j,i<=j->j<n->lt (at0 p j) (at0 p i)=false
def Fa(lt:Nat->Nat->Bool)(p:Array Nat)(n:Nat):Prop:=∀i j,i<=j->j<n->lt (at0 p i) (at0 p j)=false
theorem bN.irr(O:bN lt)(i:Nat):lt i i=false:=by
 cases h:lt i i with
 | false=>rfl
 | true=>rw [O.asy i i h] at h;cases h
theorem hJ{p:Array Nat}{j k:Nat}(hj:j<=p.size):at0 (kas_rev p i j) k=if i<=k/\k<j then at0 p (i+j-1-k) else at0 p k:=by
 simp only [pU];unfold kas_rev;rw [getElem?_mirror_all hj];split<;>rfl
theorem PM.rev{p:Array Nat}(h:PM N p)(i j:Nat):PM N (kas_rev p i j):=⟨(mirror_perm p i j _).trans h.perm⟩
theorem v9{p:Array Nat}{k d x:Nat}(hk:k<p.size)(hd:d<=k):at0 (bubble p k d) x=if x=k-d then at0 p k else if k-d<x/\x<=k then at0 p (x-1) else at0 p x:=by
 simp only [pU];rw [getElem?_bubble hk d hd];split
 .rfl
 .split<;>rfl
theorem PM.bub{p:Array Nat}(h:PM N p)(k d:Nat):PM N (bubble p k d):=⟨(bubble_perm p k d).trans h.perm⟩
theorem oW(O:bN lt){p:Array Nat}(P:PM N p):∀(f n:Nat),1<=n->n+f<=N->Ri lt p n->wpK lt N (kas_asc p f n) λm=>n<=m/\m<=n+f/\Ri lt p m/\(m=n+f\/lt (at0 p m) (at0 p (m-1))=true)
 | 0,n,h1,hn,r=>⟨we _,we _,r,.inl rfl⟩
 | f+1,n,h1,hn,r=>by
  refine ⟨P.low (show n<N by lia),P.low (show n-1<N by lia),?_⟩;by_cases c:lt (at0 p n) (at0 p (n-1))=true
  .show wpK lt N (if lt (at0 p n) (at0 p (n-1))=true then _ else _) _;rw [if_pos c];exact ⟨we _,by lia,r,.inr c⟩
  .show wpK lt N (if lt (at0 p n) (at0 p (n-1))=true then _ else _) _;rw [if_neg c];have c':lt (at0 p n) (at0 p (n-1))=false:=by simpa using c
   refine cz (λm hm=>⟨by lia,by lia,hm.2.2.1,hm.2.2.2.imp (λe=>by lia) id⟩) (oW O P f (n+1) (by lia) (by lia) λi j Yh hj=>?_);by_cases e:j<n
   .exact r i j Yh e
   .have ej:j=n:=by lia
    subst ej;by_cases ei:i=j
    .subst ei;exact O.irr _
    .exact O.tra _ _ _ (r i (j-1) (by lia) (by lia)) c'
def Ali(lt:Nat->Nat->Bool)(p:Array Nat)(n q:Nat):Prop:=∀i,n<=i+(q+1)->i<n->lt (at0 p (n-1)) (at0 p i)=false
theorem pP(O:bN lt){p:Array Nat}{q:Nat}(hs:n<=p.size)(hq:q+1<=n)(a:Ali lt p n q)(f:Fa lt p n):Fa lt (kas_rev p (n-(q+1)) n) n:=by
 have eqv:∀k,k<n->lt (at0 (kas_rev p (n-(q+1)) n) k) (at0 p k)=false/\lt (at0 p k) (at0 (kas_rev p (n-(q+1)) n) k)=false:=λk hk=>by
  rw [hJ hs];split
  .rename_i h;have x1:=a k (by lia) hk;have x2:=f k (n-1) (by lia) (by lia);have y1:=a (n-(q+1)+n-1-k) (by lia) (by lia);have y2:=f (n-(q+1)+n-1-k) (n-1) (by lia) (by lia);exact ⟨O.tra _ _ _ x1 y2,O.tra _ _ _ y1 x2⟩
  .exact ⟨O.irr _,O.irr _⟩
 intro i j Yh hj;exact O.tra _ _ _ (O.tra _ _ _ (eqv j hj).2 (f i j Yh hj)) (eqv i (by lia)).1
theorem uT{p:Array Nat}{j k:Nat}(hj:j<=p.size)(hk:j<=k):at0 (kas_rev p i j) k=at0 p k:=by rw [hJ hj,if_neg (by lia)]
structure DI(lt:Nat->Nat->Bool)(N:Nat)(p:Array Nat)(n q:Nat):Prop where
 pm:PM N p
 fa:Fa lt p n
 qn:q+1<=n
 al:Ali lt p n q
theorem kQ(O:bN lt){p:Array Nat}(f:Fa lt p n)(h1:1<=n)(c:lt (at0 p (n-1)) (at0 p n)=false):Fa lt p (n+1):=λi j Yh hj=>by
 by_cases e:j<n
 .exact f i j Yh e
 .have ej:j=n:=by lia
  subst ej;by_cases ei:i=j
  .subst ei;exact O.irr _
  .exact O.tra _ _ _ c (f i (j-1) (by lia) (by lia))
theorem jQ(O:bN lt):∀(f:Nat)(p:Array Nat)(n q:Nat),n+f<=N->DI lt N p n q->wpK lt N (kas_desc f p n q) λr=>n<=r.2.1/\r.2.1<=n+f/\DI lt N r.1 r.2.1 r.2.2
 | 0,p,n,q,hn,d=>⟨we _,we _,d⟩
 | f+1,p,n,q,hn,d=>by
  have hq:=d.qn;have hs:n<=p.size:=by rw [d.pm.size];lia
  refine ⟨d.pm.low (show n<N by lia),d.pm.low (show n-1<N by lia),?_⟩;show wpK lt N (if lt (at0 p n) (at0 p (n-1))=true then _ else _) _;by_cases c:lt (at0 p n) (at0 p (n-1))=true
  .rw [if_pos c];have c':=O.asy _ _ c;have al0:∀p':Array Nat,Ali lt p' (n+1) 0:=λp' i h1 h2=>by
    have:i=n:=by lia
    subst this;exact O.irr _
   split
   .refine cz (λr h=>⟨by lia,by lia,h.2.2⟩) (jQ O f _ (n+1) 0 (by lia) ⟨d.pm.rev _ _,kQ O (pP O hs hq d.al d.fa) (by lia) ?_,by lia,al0 _⟩);rw [uT hs (we _),hJ hs];split
    .have e:=d.fa (n-(q+1)+n-1-(n-1)) (n-1) (by lia) (by lia);have a:=d.al (n-(q+1)+n-1-(n-1)) (by lia) (by lia);exact O.tra _ _ _ c' e
    .exact c'
   .exact cz (λr h=>⟨by lia,by lia,h.2.2⟩) (jQ O f p (n+1) 0 (by lia) ⟨d.pm,kQ O d.fa (by lia) c',by lia,al0 _⟩)
  .rw [if_neg c];have c1:lt (at0 p n) (at0 p (n-1))=false:=by simpa using c
   refine ⟨d.pm.low (show n-1<N by lia),d.pm.low (show n<N by lia),?_⟩;show wpK lt N (if lt (at0 p (n-1)) (at0 p n)=true then _ else _) _;by_cases e:lt (at0 p (n-1)) (at0 p n)=true
   .rw [if_pos e];show n<=n/\n<=n+(f+1)/\DI lt N p n q;exact ⟨we _,by lia,d⟩
   .rw [if_neg e];have e1:lt (at0 p (n-1)) (at0 p n)=false:=by simpa using e
    refine cz (λr h=>⟨by lia,by lia,h.2.2⟩) (jQ O f p (n+1) (q+1) (by lia) ⟨d.pm,kQ O d.fa (by lia) e1,by lia,λi h1 h2=>?_⟩);show lt (at0 p n) (at0 p i)=false;by_cases ei:i=n
    .subst ei;exact O.irr _
    .exact O.tra _ _ _ (d.al i (by lia) (by lia)) c1
theorem tR(O:bN lt){p:Array Nat}(P:PM N p)(f:Fa lt p n)(h1:1<=n)(hn:n<=N):wpK lt N (kas_tail3 n N p) λr=>1<=r.1/\r.1<=N/\PM N r.2/\Ri lt r.2 r.1:=by
 have hs:n<=p.size:=by rw [P.size];exact hn
 unfold kas_tail3;refine gH (cz (λm h=>?_) (oW O (P.rev 0 n) (N-n) n h1 (by lia) λi j Yh hj=>?_))
 .show 1<=m/\m<=N/\PM N (kas_rev p 0 n)/\Ri lt (kas_rev p 0 n) m;exact ⟨by lia,by lia,P.rev 0 n,h.2.2.1⟩
 .rw [hJ hs,hJ hs,if_pos (by lia),if_pos (by lia)];exact f _ _ (by lia) (by lia)
theorem x5(O:bN lt){p:Array Nat}(P:PM N p)(f:Fa lt p (n+1))(hn:n+1<=N):wpK lt N (kas_descPart n N p) λr=>1<=r.1/\r.1<=N/\PM N r.2/\Ri lt r.2 r.1:=by
 unfold kas_descPart;refine gH (cz (λr h=>?_) (jQ O (N-(n+1)) p (n+1) 0 (by lia) ⟨P,f,by lia,λi h1 h2=>?_⟩))
 .have hq:=h.2.2.qn;split
  .exact tR O (h.2.2.pm.rev _ _) (pP O (by rw [h.2.2.pm.size];lia) hq h.2.2.al h.2.2.fa) (by lia) (by lia)
  .exact tR O h.2.2.pm h.2.2.fa (by lia) (by lia)
 .have:i=n:=by lia
  subst this;exact O.irr _
theorem Lg(O:bN lt){p:Array Nat}(P:PM N p)(h1:1<=N):wpK lt N (kas_count N p) λr=>1<=r.1/\r.1<=N/\PM N r.2/\Ri lt r.2 r.1:=by
 unfold kas_count;refine gH (cz (λn h=>?_) (oW O P (N-1) 1 (we _) (by lia) λi j Yh hj=>?_))
 .obtain ⟨a1,a2,a3,a4⟩:=h;by_cases e:n=N
  .rw [if_pos (by simpa using e)];exact ⟨a1,by lia,P,a3⟩
  .rw [if_neg (by simpa using e)];have c:lt (at0 p n) (at0 p (n-1))=true:=a4.resolve_left (by lia);have hs:n<=p.size:=by rw [P.size];lia
   split
   .refine ⟨P.low (show 0<N by lia),P.low (show n-1<N by lia),?_⟩;show wpK lt N (if lt (at0 p 0) (at0 p (n-1))=true then _ else _) _;by_cases z:lt (at0 p 0) (at0 p (n-1))=true
    .rw [if_pos z];exact ⟨a1,by lia,P,a3⟩
    .rw [if_neg z];have z':lt (at0 p 0) (at0 p (n-1))=false:=by simpa using z
     have al:Ali lt p n (n-1):=λi _ hi=>a3 i (n-1) (by lia) (by lia);have fa:Fa lt p n:=λi j Yh hj=>O.tra _ _ _ (O.tra _ _ _ (a3 j (n-1) (by lia) (by lia)) z') (a3 0 i (by lia) (by lia));have e0:n-(n-1+1)=0:=by lia
     have fr:=pP O hs (q:=n-1) (by lia) al fa;rw [e0] at fr;refine x5 O (P.rev 0 n) (kQ O fr a1 ?_) (by lia);rw [uT hs (we _),hJ hs,if_pos (by lia)];exact O.tra _ _ _ (O.asy _ _ c) (fa (0+n-1-(n-1)) (n-1) (by lia) (by lia))
   .have en:n=1:=by lia
    subst en;refine x5 O P (λi j Yh hj=>?_) (by lia);by_cases ei:i=j
    .subst ei;exact O.irr _
    .have:i=0/\j=1:=by lia
     rw [this.1,this.2];exact O.asy _ _ c
 .have:i=j:=by lia
  subst this;exact O.irr _
theorem oF(O:bN lt){p:Array Nat}{k:Nat}(P:PM N p)(hk:k<N)(s:Ri lt p k):∀(f l r:Nat),l<=r->r<=k->r<=l+f->(∀i,i<l->lt (at0 p k) (at0 p i)=false)->(∀i,r<=i->i<k->lt (at0 p i) (at0 p k)=false) ->
  wpK lt N (kas_place p k f l r) λx=>x<=k/\(∀i,i<x->lt (at0 p k) (at0 p i)=false)/\∀i,x<=i->i<k->lt (at0 p i) (at0 p k)=false
 | 0,l,r,h1,h2,h3,a,b=>by
  have e:l=r:=by lia
  subst e;exact ⟨h2,a,b⟩
 | f+1,l,r,h1,h2,h3,a,b=>by
  unfold kas_place;split
  .have e:l=r:=by lia
   subst e;exact ⟨h2,a,b⟩
  .refine ⟨P.low hk,P.low (show (l+r) / 2<N by lia),?_⟩;show wpK lt N (if lt (at0 p k) (at0 p ((l+r) / 2))=true then _ else _) _;by_cases c:lt (at0 p k) (at0 p ((l+r) / 2))=true
   .rw [if_pos c];exact oF O P hk s f l _ (by lia) (by lia) (by lia) a λi hi hik=>O.tra _ _ _ (O.asy _ _ c) (s _ _ hi hik)
   .rw [if_neg c];have c':lt (at0 p k) (at0 p ((l+r) / 2))=false:=by simpa using c
    exact oF O P hk s f _ r (by lia) h2 (by lia) (λi hi=>O.tra _ _ _ (s i ((l+r) / 2) (by lia) (by lia)) c') b
theorem sP(O:bN lt):∀(f:Nat)(p:Array Nat)(k:Nat),PM N p->k+f<=N->Ri lt p k->wpK lt N (kas_bin f p k) λq=>PM N q/\Ri lt q (k+f)
 | 0,p,k,P,hk,s=>⟨P,s⟩
 | f+1,p,k,P,hk,s=>by
  unfold kas_bin;refine gH (cz (λl h=>?_) (oF O P (show k<N by lia) s k 0 k (MM _) (we _) (by lia) (λi hi=>by lia) λi h1 h2=>by lia));obtain ⟨h1,h2,h3⟩:=h;have hs:k<p.size:=by rw [P.size];lia
  refine cz (λq h=>⟨h.1,by rw [show k+(f+1)=k+1+f by lia];exact h.2⟩) (sP O f _ (k+1) (P.bub _ _) (by lia) λi j Yh hj=>?_);rw [v9 hs (by lia),v9 hs (by lia),show k-(k-l)=l by lia];by_cases ej:j=l
  .rw [if_pos ej];by_cases ei:i=l
   .rw [if_pos ei];exact O.irr _
   .rw [if_neg ei,if_neg (by lia)];exact h2 i (by lia)
  .rw [if_neg ej];by_cases e2:l<j/\j<=k
   .rw [if_pos e2];by_cases ei:i=l
    .rw [if_pos ei];exact h3 _ (by lia) (by lia)
    .rw [if_neg ei];split
     .exact s _ _ (by lia) (by lia)
     .exact s _ _ (by lia) (by lia)
   .rw [if_neg e2,if_neg (by lia),if_neg (by lia)];exact s _ _ Yh (by lia)
theorem Bo(O:bN lt)(h1:1<=N):wpK lt N (kas_sort N) λp=>PM N p/\Ri lt p N:=by
 unfold kas_sort;refine gH (cz (λr h=>?_) (Lg O ⟨Array.Perm.refl _⟩ h1));obtain ⟨a1,a2,a3,a4⟩:=h;split
 .refine cz (λq h=>⟨h.1,by have e:=h.2;rw [show max r.1 1+(N-max r.1 1)=N by lia] at e;exact e⟩) (sP O _ _ _ a3 (by lia) (by rw [show max r.1 1=r.1 by lia];exact a4))
 .have e:r.1=N:=by lia
  rw [e] at a4;exact ⟨a3,a4⟩
end
end L2
namespace L2
open PySem PySem.Spec PyProof.Rows
theorem Ll{prog:LV}{w:Mf}{A:Mn}{R:Result->LF->Prop}{s:LF}{kx vx ZA iter:Mw}{Za:List Mw}{scope:Scope}{pos:Pos}{it:Value}{D:Addr}{env:Env}(I:Nat->LF->Prop)
  (Yt:∀n s,I n s->LS (LZ prog w) A (Oy it) (λr s₁=>match r with
   | none=>R (.ok .next) s₁
   | some v=>LS (LZ prog w) A (Ov ZA it v) (λ_ s₁'=>LS (LZ prog w) A (assign ZA env v) (λ_ s₂ =>
     LS (LZ prog w) A (forIn Za true λc r=>if r=true then do let ok<-isTrue c env (MJ c env);pure (ForInStep.yield ok) else pure (ForInStep.yield r)) (λok s₃ =>
      if ok=true then LS (LZ prog w) A (MJ kx env) (λx s₄=>LS (LZ prog w) A (MJ vx env) (λy s₅ =>
       LS (LZ prog w) A (dictSet D x y) (λ_ s₆=>∃m,m<n/\I m s₆) (λ_ _=>False) s₅) (λ_ _=>False) s₄) (λ_ _=>False) s₃
      else ∃m,m<n/\I m s₃) (λ_ _=>False) s₂) (λ_ _=>False) s₁') (λ_ _=>False) s₁) (λ_ _=>False) s)
  (n:Nat) (h:I n s):OJ (LZ prog w) A (.compLoop (.DictComp kx vx [⟨ZA,iter,Za,0⟩] scope pos) 0 it (.ref D) env) R s:=by
 refine codeAny_loop rfl I (λn s hI=>?_) n h;show LS _ A ((compTurn (.DictComp kx vx [⟨ZA,iter,Za,0⟩] scope pos) 0 it (.ref D) env).onRaise (λx=>do Qm x env;theTreesLotGoes x)) _ _ s;refine wpAny_noted (Mv (E:=λ_ _=>False) ?_ (λ_ _ q=>q) λ_ _ z=>z.elim);rw [compTurn_dict];refine fv (Ny (fv (Mv (Yt n s hI) (λr s₁ h₁=>?_) λ_ _ h'=>h')));cases r with
 | none=>exact LJ h₁
 | some v =>
  refine fv (Mv h₁ (λ_ s₁' h₁'=>?_) λ_ _ h'=>h');refine fv (Mv h₁' (λ_ s₂ h₂=>fv (Mv h₂ (λok s₃ h₃=>?_) λ_ _ h'=>h')) λ_ _ h'=>h');cases ok with
  | false=>exact LJ ⟨rfl,h₃⟩
  | true=>exact fv (fv (Mv h₃ (λkv s₄ h₄=>fv (Mt (Mv h₄ (λvv s₅ h₅=>fv (Ny (Mt (Mv h₅ (λ_ s₆ h₆=>LJ ⟨rfl,h₆⟩) λ_ _ z=>z)))) λ_ _ z=>z))) λ_ _ z=>z))
def tDC(ix:List (Option Nat))(wi:TI)(g:TG)(tt:TT)(tk tv:TE):TE:=λσ H Q=>wi σ H λJ H1=>∃W:Nat->Nat->St->List (Key×V)->Hp->Prop,(∃m,W 0 m (bW ix σ) [] H1)/\∀i m τ ys H2,W i m τ ys H2->ys.length<sizeLine /\
 ((J.stop i H2 ∧ ∀ D, H2 D = none → D ≠ sysModules → Q (.ref D) (upd H2 D (.dK ys))) ∨
  (J.go i H2 ∧ ∀ x H3, J.yld i H2 x H3 → g x τ H3 fun τ1 H4 => tt τ1 H4 fun ok H5 => if ok = true then tk τ1 H5 fun y H6 => tv τ1 H6 fun z H7 => uK y fun k => ∃ m', m' < m ∧ W (i + 1) m' τ1 (aG ys k z) H7 else ∃ m', m' < m ∧ W (i + 1) m' τ1 ys H5))
theorem EY{c:Bool}{X:Cx}{kx vx tg iter:Mw}{Za:List Mw}{sc:Scope}{pos:Pos}{N':List Str}{ix:List (Option Nat)}{wi:TI}{g:TG}{tt:TT}{tk tv:TE}(hc:c=true->X.calm=true)(L:ar X sc N' ix)(hi:PIc c X tg iter wi)
  (hg:∀Go C fp s H,PG (zO X sc N' Go C fp s H) tg g) (ht:∀Go C fp s H,PTs (zO X sc N' Go C fp s H) Za tt) (hk:∀Go C fp s H,PE (zO X sc N' Go C fp s H) kx tk) (hv:∀Go C fp s H,PE (zO X sc N' Go C fp s H) vx tv)
  (hs:∀x,Nt iter X.env x=pure x:=by intro _;rfl):PE X (.DictComp kx vx [⟨tg,iter,Za,0⟩] sc pos) (tDC ix wi g tt tk tv):=by
 intro Go s σ H Q I h;rw [arm_eval_DictComp];have Xg:OU sc X.env=pure (aW X.env.cells sc.names []):=vy λy hy hk=>I.ok.has y.1 (.inl (L.free y hy hk).1);refine wpAny_comprehension_free (use:=none) rfl hs Xg L.kind L.names (thn (hi Go s σ H _ I h) λv s1 h1=>thn h1 λitv s2 h2=>?_);obtain ⟨it,fp,tn,J,H2,e,I2,T,st2,f2,W,⟨m0,w0⟩,Yt⟩:=h2;subst e;refine MG (O4 L.cell (by intro y hy;simp at hy) (λh₁ XT Yb=>?_) L.kind);dsimp only at XT Yb ⊢;have hnew:(s2.heap.push { cls:=.type "dict",dict:=none,data:=.dict #[] }).DictOf (ak X.prog X.w) s2.heap.objs.size []:=Heap.DictOf.new s2.heap;generalize hH2:s2.heap.push { cls:=.type "dict",dict:=none,data:=.dict #[] }=G2 at XT Yb hnew ⊢;have hC:G2.objs.size=s2.heap.objs.size+1:=by rw [<- hH2,NG]
 have hDC:s2.heap.objs.size≠G2.objs.size:=by rw [hC];exact Mx (Pm _)
 have X3:s2.heap.objs.size<=G2.objs.size:=by rw [hC];exact PV _
 have below:∀b,b<s2.heap.objs.size->b≠G2.objs.size/\b≠s2.heap.objs.size:=λb hb=>⟨by rw [hC];exact Mx (N7 hb),Mx hb⟩;have YN:∀b o,s2.heap.get? b=some o->h₁.get? b=some o:=λb o e=>Yb.extBut b o (below b (L7 e)).1 (p8 _ (hH2 ▸ p8 _ e));have Ya:h₁.DictOf (ak X.prog X.w) s2.heap.objs.size []:=hnew.at λo e=>Yb.extBut _ _ hDC (p8 _ e);have fl:∀b∈fp,b<s2.heap.objs.size:=λb hb=>by
  obtain ⟨o,e,_⟩:=T.obj 0 _ st2 b hb;exact L7 e
 have XS:s2.heap.objs.size∉fp:=λz=>Ml _ (fl _ z);generalize hD:s2.heap.objs.size=D at *
 generalize hCe:G2.objs.size=C at *
 have Xo:∀x c,(aW X.env.cells sc.names []).lookup x=some c->X.env.cells.lookup x=some c:=λx c h=>by
  rcases lu h with h|h
  .cases h
  .exact h.1
 have st1:tn 0 h₁:=T.keep _ _ _ st2 λb _ o e=>YN b o e;have I3:Inv (zO X sc N' Go C fp s2 H2) [] (bW ix σ) H2 { s2 with heap:=h₁,toks:=s2.toks+([]:List (Str×Value)).length }:=vL I2 L f2 (λb hb=>by rw [hD];exact fl b hb) (by rw [hD];exact X3) XT YN;have D0:H2 D=none:=I2.hok.fresh (PB hD);have fD:∀{H':Hp},H' D=none->cn (zO X sc N' Go C fp s2 H2) [] H' D:=λ{H'} hn=>by
  refine ⟨hn,hDC,λz=>?_,.inr (PB hD),λx c hx z=>?_,λp hp z=>?_⟩
  .obtain ⟨_,o,ho,_⟩:=I2.stack.mem (show D∈frs X.stack from z);exact absurd (L7 ho) (by rw [hD];exact Ml _)
  .obtain ⟨v,q⟩:=I2.cell x c (Xo x c hx);have:=q.lt;rw [z,hD] at this;exact Ml _ this
  .have hp':p∈X.pn++Go:=by
    have:p∈(X.pn++Go)++[]:=hp;simpa using this
   have:=L7 (I2.pin p hp').1;rw [z,hD] at this;exact Ml _ this
 have fF:∀{H':Hp},(∀b∈fp,H' b=none)->∀b∈fp,cn (zO X sc N' Go C fp s2 H2) [] H' b:=λ{H'} hn b hb=>by
  obtain ⟨_,g1,g2,g3,g4,g5⟩:=f2 b hb;refine ⟨hn b hb,(below b (fl b hb)).1,λz=>?_,.inl hb,λx c hx=>g4 x c (Xo x c hx),λp hp=>g5 p ?_⟩
  .rcases LI.mp (I2.stkSub b z) with e|e
   .exact g1 e
   .exact g2 e
  .have:p∈(X.pn++Go)++[]:=hp;simpa using this
 have Xf:∀s₃:LF,s₃={ s2 with heap:=h₁,toks:=s2.toks+([]:List (Str×Value)).length } ->
   OJ (LZ X.prog X.w) X.A (.compLoop (.DictComp kx vx [⟨tg,iter,Za,0⟩] sc pos) 0 (.ref it) (.ref D) (compEnvC sc (aW X.env.cells sc.names []) C X.env))
    (compPost (LZ X.prog X.w) X.A X.xe none (EP X Go σ Q) (.ref D) C) s₃:=by
  rintro s₃ rfl;refine Ll (λn s'=>∃i τ ys H',Inv (zO X sc N' Go C fp s2 H2) [] τ H' s'/\tn i s'.heap/\(∀b∈fp,H' b=none)/\H' D=none/\(∃vs,KV ys vs/\s'.heap.DictOf (ak X.prog X.w) D vs)/\W i n τ ys H')
   ?_ m0 ⟨0,_,[],H2,I3,st1,λb hb=>(f2 b hb).1,D0,⟨[],.nil,Ya⟩,w0⟩
  rintro n s4 ⟨i,τ,ys,H4,I4,st4,fr4,dn4,⟨vs,rv,dd⟩,w4⟩;obtain ⟨Z5,step⟩:=Yt i n τ ys H4 w4;obtain ⟨ob,es,ep,dg,dx,ddt,dr⟩:=id dd;have dat:∀{h:Heap},h.get? D=some ob->h.DictOf (ak X.prog X.w) D vs:=λ{h} e=>⟨ob,es,ep,e,dx,ddt,dr⟩;have noc:∀v,ob.data≠.cell v:=λv z=>by rw [ddt] at z;cases z
  rcases step with ⟨stop,YG⟩|⟨go,step⟩
  .refine thn (T.done (zO X sc N' Go C fp s2 H2) rfl rfl rfl hc i [(D,ob)] s4 τ H4 (λ_ _=>False) (I4.pins_of λp hp=>?_) (λb hb=>?_) st4 stop) λr s5=>x2e λhr I5=>?_
   .have e:p=(D,ob):=by simpa using hp
    subst e;obtain ⟨g0,g1,g2,_⟩:=fD dn4;exact ⟨dg,g0,g1,g2,noc⟩
   .obtain ⟨g0,g1,g2,g3,g4,g5⟩:=fF fr4 b hb;refine ⟨g0,g1,g2,g3,g4,λp hp=>?_⟩;rcases My.mp hp with z|z
    .exact g5 p (MR _ z)
    .have e:p=(D,ob):=by simpa using z
     subst e;exact λq=>XS (by have q':D=b:=q;rw [q'];exact hb)
   .subst hr;have dg5:=(I5.pin (D,_) (Mb _ (LU.mpr rfl))).1;obtain ⟨m5,hn5,_⟩:=id I5.loc;refine ⟨m5,hn5,λh' hsb=>?_⟩;have kb:∀b u,b≠C->s5.heap.get? b=some u->h'.get? b=some u:=λb u hb e=>(hsb.2 b hb).trans e;have ZO:∀b o,s2.heap.get? b=some o->b≠C/\b≠D:=λb o e=>by
     have:=L7 e;rw [hD] at this;exact below b this
    have nsm:D≠sysModules:=by have h:LN<s2.heap.objs.size:=(I2.mod.glob.keeps I2.bk).lt;rw [hD] at h;exact NQ (lt_trans (by decide) h)
    have U:=I5.base;refine ⟨.ref D,upd H4 D (.dK ys),I2.call' (s':={ s5 with heap:=h' }) (ch:=fp) I5.os ⟨λb o e n hb hx=>kb b o (ZO b o e).1 (U.keep b o e n hb hx),λb o e n hb hx=>?_,λb o e n hx=>?_,λb o e hx=>?_,λb xs e=>?_,λb o u e=>?_,λb ps e=>?_⟩ ?_ I5.bare (λb hb=>?_),rfl,YG D dn4 nsm⟩
    .obtain ⟨sl,q⟩:=U.slot b o e n hb hx;exact ⟨sl,kb b _ (ZO b o e).1 q⟩
    .rw [ze (ZO b o e).2];exact U.free b o e n hx
    .obtain ⟨o',q⟩:=U.there b o e hx;exact ⟨o',kb b _ (ZO b o e).1 q⟩
    .have q:=U.tups b xs e;rw [ze (zC q dn4)];exact q
    .have q:=U.frzs b o u e;rw [ze (zC q dn4)];exact q
    .obtain ⟨more,q⟩:=U.tbls b ps e;exact ⟨more,by rw [ze (zC q dn4)];exact q⟩
    .refine (I5.hok.but I5.free kb).add dn4 ?_;exact ⟨Pa Z5,by simpa using nsm,vs,rv,dat (kb _ _ hDC dg5)⟩
    .obtain ⟨_,g1,g2,g3,g4,g5⟩:=f2 b hb;exact ⟨g3,g1,g4,g5⟩
  .refine thn (T.item (zO X sc N' Go C fp s2 H2) rfl rfl rfl hc i [(D,ob)] s4 τ H4 (λ_ _=>False) (I4.pins_of λp hp=>?_) (λb hb=>?_) st4 go) λr s5=>x3e λu hr h5=>?_
   .have e:p=(D,ob):=by simpa using hp
    subst e;obtain ⟨g0,g1,g2,_⟩:=fD dn4;exact ⟨dg,g0,g1,g2,noc⟩
   .obtain ⟨g0,g1,g2,g3,g4,g5⟩:=fF fr4 b hb;refine ⟨g0,g1,g2,g3,g4,λp hp=>?_⟩;rcases My.mp hp with z|z
    .exact g5 p (MR _ z)
    .have e:p=(D,ob):=by simpa using z
     subst e;exact λq=>XS (by have q':D=b:=q;rw [q'];exact hb)
   .subst hr;refine thn h5 λ_ s6=>x5e λx H6 I6 r6 Ys=>?_;obtain ⟨y6,st6,fr6⟩:=Ys;obtain ⟨dg6,dn6,_⟩:=I6.pin (D,_) (Mb _ (LU.mpr rfl));have dn6':H6 D=none:=dn6;have all6:∀b∈D::fp,cn (zO X sc N' Go C fp s2 H2) [] H6 b:=λb hb=>by
     rcases LI.mp hb with z|z
     .subst z;exact fD dn6'
     .exact fF fr6 b z
    have obj6:∀b∈D::fp,∃o,s6.heap.get? b=some o/\∀v,o.data≠.cell v:=λb hb=>by
     rcases LI.mp hb with z|z
     .subst z;exact ⟨_,dg6,noc⟩
     .exact T.obj _ _ st6 b z
    have I6':=(I6.unpinned (Go:=[])).pinned all6 obj6;refine thn (hg Go C fp s2 H2 _ s6 τ H6 x u _ I6' r6 (step x H6 y6)) λ_ s7=>x4e λτ7 H7 I7 q7=>?_;refine thn (ht Go C fp s2 H2 _ s7 τ7 H7 _ I7 q7) λok s8=>x3e λH8 I8 q8=>?_;have back:∀{s9:LF}{H9:Hp},Inv (zO X sc N' Go C fp s2 H2) ([]++gU (D::fp) s6.heap) τ7 H9 s9->s9.heap.get? D=some ob/\H9 D=none/\tn (i+1) s9.heap/\∀b∈fp,H9 b=none:=λ{s9 H9} I9=>by
     have pin:∀b o,b∈D::fp->s6.heap.get? b=some o->s9.heap.get? b=some o/\H9 b=none:=λb o hb e=>by
      have q:=I9.pin (b,o) (Mb _ (Mb _ (jB hb e)));exact ⟨q.1,q.2.1⟩
     refine ⟨(pin D _ Mc dg6).1,(pin D _ Mc dg6).2,T.keep _ _ _ st6 λb hb o e=>(pin b o (LO _ hb) e).1,λb hb=>?_⟩;obtain ⟨o,e,_⟩:=T.obj _ _ st6 b hb;exact (pin b o (LO _ hb) e).2
    cases ok with
    | false =>
     obtain ⟨b1,b2,b3,b4⟩:=back I8;simp only [Nz,if_false] at q8 ⊢;obtain ⟨m',hm,w'⟩:=q8;exact ⟨m',hm,i+1,τ7,ys,H8,I8.unpinned,b3,b4,b2,⟨vs,rv,dat b1⟩,w'⟩
    | true =>
     simp only [if_true] at q8 ⊢;refine thn (hk Go C fp s2 H2 _ s8 τ7 H8 _ I8 q8) λy s9=>x5e λyv H9 I9 r9 q9=>?_;refine thn (hv Go C fp s2 H2 _ s9 τ7 H9 _ I9 q9) λz s10=>x5e λzv H10 I10 r10 Xy=>?_;obtain ⟨kk,ek,m',hm,w'⟩:=Xy;subst ek;obtain ⟨b1,b2,b3,b4⟩:=back I10;have lv:vs.length<sizeLine:=by rw [<- rv.length];exact Z5
     refine wpAny_dictSet_pairs (hsz:=Pa lv) (eR r9) (dat b1) λh11 dd11 sb=>?_;obtain ⟨_,g1,_,g3,g4,g5⟩:=fD b2;exact ⟨m',hm,i+1,τ7,aG ys kk zv,H10,(I10.unpinned (Go:=[])).turned (t':=s10.toks+1) (λb o hb e=>(sb.2 b hb).trans e) b2 g1 g3 g4 g5,T.keep _ _ _ b3 λb hb o e=>(sb.2 b λq=>XS (by rw [<- q];exact hb)).trans e,b4,b2,⟨_,rv.put kk r10,dd11⟩,w'⟩
 exact codeAny_compStart_dict (Xf _ rfl) (T.self _ 0 _ _ _ st1 (Xf _ rfl))
end L2
namespace L2
open PySem PySem.Spec PyProof.Rows PySem.W PySem.Calls
variable{α:Type}{a:Addr}{H:Hp}{τ:St}
theorem sH(d:α):∀vs:List α,(Pk vs.length).map (λi=>vs.getD i d)=vs:=λvs=>by
 apply List.ext_getElem?;intro i;rw [L6];by_cases h:i<vs.length
 .rw [List.getElem?_range h,il h];show some (vs.getD i d)=_;rw [LG,il h];rfl
 .rw [Nn (by simp;lia),Nn (by lia)];rfl
section
variable {prog:LV}{w:Mf}{A:Mn}{E:Value->LF->Prop}{s:LF}
theorem Dh{κ:SortKind}{lt:Nat->Nat->Bool}(O:bN lt){vs:List Value}{n:Nat}{P:Fin->LF->Prop}(ho:s.heap.get? a=some (Nk "list" vs.toArray n))(XO:vs.length<64)
  (hk:∀(h':Heap)(Q:SortKind->LF->Prop),(∀b o,b≠a->s.heap.get? b=some o->h'.get? b=some o)->2<=vs.length->Q κ { s with heap:=h' }->LS (LZ prog w) A (keyKind' vs.toArray) Q E { s with heap:=h' })
  (hl:∀(h':Heap) i j C,(∀b o,b≠a->s.heap.get? b=some o->h'.get? b=some o)->i<vs.length->j<vs.length->C (lt i j) { s with heap:=h' }->kas_ask prog w A κ vs i j C { s with heap:=h' })
  (h:∀p:Array Nat,PM vs.length p->Ri lt p vs.length->P (.done (.ret .none)) { s with heap:=sortedHeap s.heap a vs (Qx (p.toList.map λi=>vs.getD i Mm)) }) :
  LS (LZ prog w) A (L5.«list.sort» ⟨[.ref a],[]⟩) P E s:=by
 rw [list_sort_plain];have ha:a<s.heap.objs.size:=L7 ho;obtain ⟨e1,ho1⟩:∃e1,(s.heap.update a (N8 λ_=>(#[]:Array Value))).get? a=some (Nk "list" #[] e1):=⟨_,get?_update_seq ho λ_=>#[]⟩;refine fv (listItems_at ho rfl (fv (listUpdate_at ho rfl ?_ (by rw [LY,ML];lia) (MM _))));refine fv (seqEpoch_at ho1 rfl (fv (wpAny_newTuple (fv (PZ (Mt ?_) (MM _))) (by show vs.length<=_;rw [ML];lia))));have k6:∀b o,b≠a->s.heap.get? b=some o->(((s.heap.update a (N8 λ_=>(#[]:Array Value))).push (Nk "tuple" vs.toArray 0)).push (Nk "list" #[] 0)).get? b=some o:=λb o hb e=>by
  refine p8 _ (p8 _ ?_);rw [Heap.get?_update_ne _ _ _ _ hb];exact e
 have ho6:(((s.heap.update a (N8 λ_=>(#[]:Array Value))).push (Nk "tuple" vs.toArray 0)).push (Nk "list" #[] 0)).get? a=some (Nk "list" #[] e1):=p8 _ (p8 _ ho1);show LS (LZ prog w) A _ P E { s with heap:=((s.heap.update a (N8 λ_=>(#[]:Array Value))).push (Nk "tuple" vs.toArray 0)).push (Nk "list" #[] 0) };dsimp only;have hz:vs.toArray.size=vs.length:=by simp
 have big:vs.length<=sizeLine:=by rw [ML];lia
 by_cases h2:vs.toArray.size<2
 .rw [if_pos h2,if_pos h2];refine fv (LJ ?_);rw [StateT.run_pure];refine fv (LJ ?_);dsimp only;have hr:=h (Qx (Pk vs.length)) ⟨Array.Perm.refl _⟩ (λi j Yh hj=>by
   have:i=j:=by lia
   subst this;exact O.irr _)
  rw [show (Qx (Pk vs.length)).toList=Pk vs.length from rfl,sH] at hr;have eo:(arrOf (SortSt.mk' general' (vs.toArray.zip vs.toArray) #[] 7 none)).map (·.2)=vs.toArray:=by
   show (vs.toArray.zip vs.toArray).map (·.2)=vs.toArray;apply Array.ext
   .simp
   .intro i h1 h2;simp
  rw [eo];refine fv (seqEpoch_at ho6 rfl (fv (listUpdate_at ho6 rfl ?_ (MM _) (by rw [hz];exact N9 big))));simp only [bne_self_eq_false,Nz,if_false];exact LJ hr
 .rw [if_neg h2,if_neg h2];have n2:2<=vs.length:=by lia
  refine fv (hk _ _ k6 n2 ?_);have run:=Bo O (N:=vs.length) (by lia);have wp:=yD (cmp:=kas_ask prog w A κ vs) (s:={ s with heap:=((s.heap.update a (N8 λ_=>(#[]:Array Value))).push (Nk "tuple" vs.toArray 0)).push (Nk "list" #[] 0) }) (hl _ · · · k6) (Q:=λp s'=>s'={ s with heap:=((s.heap.update a (N8 λ_=>(#[]:Array Value))).push (Nk "tuple" vs.toArray 0)).push (Nk "list" #[] 0) }/\PM vs.length p/\Ri lt p vs.length) (cz (λp q=>⟨rfl,q⟩) run);refine fv (Mv (kat_run (E:=E) (Q:=λYR s'=>∃p:Array Nat,p.size=vs.length/\arrOf YR=p.map (kas_item (vs.toArray.zip vs.toArray))/\failedOf YR=none/\s'={ s with heap:=((s.heap.update a (N8 λ_=>(#[]:Array Value))).push (Nk "tuple" vs.toArray 0)).push (Nk "list" #[] 0) }/\PM vs.length p/\Ri lt p vs.length) rfl n2 XO (λp YR s' a1 a2 a3 a4=>⟨p,a1,a2,a3,a4⟩) wp) ?_ λ_ _ z=>z);rintro ⟨⟨⟩,YR⟩ s' ⟨p,hp,har,hf,rfl,pm,ri⟩;dsimp only;have Yu:=kat_snds rfl har;rw [Yu,hf];refine fv (seqEpoch_at ho6 rfl (fv (listUpdate_at ho6 rfl ?_ (MM _) (by rw [LY,KE,NP,hp];exact N9 big))));simp only [bne_self_eq_false,Nz,if_false];exact LJ (h p pm ri)
theorem IL{κ:SortKind}{lt:Nat->Nat->Bool}(O:bN lt){l:Addr}{vs:List Value}{Q:Value->LF->Prop}(hl0:s.heap.IsList l vs.toArray)(XO:vs.length<64)
  (hk:∀(h':Heap)(Q:SortKind->LF->Prop),(∀b o,s.heap.get? b=some o->h'.get? b=some o)->2<=vs.length->Q κ { s with heap:=h' }->LS (LZ prog w) A.in1.in1 (keyKind' vs.toArray) Q E { s with heap:=h' })
  (hl:∀(h':Heap) i j C,(∀b o,s.heap.get? b=some o->h'.get? b=some o)->i<vs.length->j<vs.length->C (lt i j) { s with heap:=h' }->kas_ask prog w A.in1.in1 κ vs i j C { s with heap:=h' })
  (h:∀p:Array Nat,PM vs.length p->Ri lt p vs.length->Q (.ref (s.heap.objs.size+1)) { s with heap:=sortedAll s.heap vs (Qx (p.toList.map λi=>vs.getD i Mm)) }) :
  LS (LZ prog w) A (call (.builtin "sorted") [.ref l]) Q E s:=by
 refine call_function_entry kind_sorted plain_sorted entry_sorted (args_sorted1 _) ?_;unfold L5.«sorted»
 refine fv (m:=checkCount "sorted" 1 1 _) (LJ (fv (collect_list hl0 (fv (PZ ?_ (by rw [ML];lia))) (by rw [ML];lia))));have hsz:((s.heap.push (Nk "list" #[] 0)).update s.heap.objs.size (N8 (·++vs.toArray))).objs.size=s.heap.objs.size+1:=(Heap.size_update ..).trans (Py ..);have Xq:(((s.heap.push (Nk "list" #[] 0)).update s.heap.objs.size (N8 (·++vs.toArray))).push (Nk "list" vs.toArray 0)).get? (s.heap.objs.size+1)=some (Nk "list" vs.toArray 0):=hsz ▸ LW _ rfl;have keep:∀b o,s.heap.get? b=some o->(((s.heap.push (Nk "list" #[] 0)).update s.heap.objs.size (N8 (·++vs.toArray))).push (Nk "list" vs.toArray 0)).get? b=some o:=λb o q=>by
  refine p8 _ ?_;rw [Heap.get?_update_ne _ _ _ _ (Mx (L7 q))];exact p8 _ q
 show LS _ _ _ _ _ { s with heap:=((s.heap.push (Nk "list" #[] 0)).update s.heap.objs.size (N8 (·++vs.toArray))).push (Nk "list" vs.toArray 0) };rw [hsz];have ne:∀b o,s.heap.get? b=some o->b≠s.heap.objs.size+1:=λb o e=>Mx (N7 (L7 e));refine fv (Mt (MO slot_list_sort ⟨_,Xq,rfl⟩ entry_list_sort (Dh (κ:=κ) O (s:={ s with heap:=((s.heap.push (Nk "list" #[] 0)).update s.heap.objs.size (N8 (·++vs.toArray))).push (Nk "list" vs.toArray 0) }) Xq XO (λh' Q k n2 q=>?_) (λh' i j C k hi hj q=>?_) λp a1 a2=>⟨_,rfl,LJ ⟨_,rfl,h p a1 a2⟩⟩) (args_list_sort _)))
 .exact Mv (hk h' Q (λb o e=>k b o (ne b o e) (keep b o e)) n2 q) (λ_ _ z=>z) λ_ _ z=>z
 .exact hl h' i j C (λb o e=>k b o (ne b o e) (keep b o e)) hi hj q
end
def ltP(p q:Int×Int):Bool:=decide (p.1<q.1)||(decide (p.1=q.1)&&decide (p.2<q.2))
theorem qe{p q:Int×Int}:ltP p q=false↔q.1<p.1\/(p.1=q.1/\q.2<=p.2):=by
 unfold ltP;simp only [Bool.or_eq_false_iff,Bool.and_eq_false_iff,decide_eq_false_iff_not];lia
theorem B5{p q:Int×Int}:ltP p q=true↔p.1<q.1\/(p.1=q.1/\p.2<q.2):=by
 unfold ltP;simp only [Bool.or_eq_true,Mu,decide_eq_true_eq]
theorem CZ(f:Nat->Int×Int):bN λi j=>ltP (f i) (f j):=⟨λi j h=>by rw [B5] at h;rw [qe];lia,λi j k h1 h2=>by rw [qe] at *;lia⟩
def fH(H:Hp)(a:Addr)(p:Int×Int):Prop:=H a=some (.tup [.int p.1,.int p.2])
theorem sU{α β:Type}{R:α->β->Prop}{l:List α}{m:List β}{x:α}{y:β}(h:Paired R l m):∀{ix:List Nat},(∀i∈ix,i<l.length)->Paired R (ix.map λi=>l.getD i x) (ix.map λi=>m.getD i y)
 | [],_=>.nil
 | i::ix,hi=>by
  have h1:i<l.length:=hi i (Mc ..);have h2:i<m.length:=by rw [<- ay h];exact h1
  refine .cons ?_ (sU h λj hj=>hi j (LO _ hj));show R (l.getD i x) (m.getD i y);rw [LG,LG,il h1,il h2];exact bI h (il h1) (il h2)
theorem PM.mem{N:Nat}{p:Array Nat}(h:PM N p):∀i∈p.toList,i<N:=λi hi=>by
 have m:i∈Qx (Pk N):=h.perm.mem_iff.mp (by simpa using hi);simpa using m
theorem PM.perms{N:Nat}{p:Array Nat}(h:PM N p){l:List α}(hl:l.length=N)(d:α):(p.toList.map λi=>l.getD i d).Perm l:=by
 have e:p.toList.Perm (Pk N):=by have:=Array.perm_iff_toList_perm.mp h.perm;simpa using this
 have:=e.map λi=>l.getD i d;rw [<- hl,sH] at this;exact this
theorem E7{N:Nat}{p:Array Nat}(h:PM N p){l:List α}{d:α}{f:α->α->Bool}(r:Ri (λi j=>f (l.getD i d) (l.getD j d)) p N):(p.toList.map λi=>l.getD i d).Pairwise λa b=>f b a=false:=by
 rw [Oo];intro i j hi hj Yh;rw [KE,NP] at hi hj;have:=r i j (Pa Yh) (by rw [<- h.size];exact hj);simp only [pU] at this;simp only [List.getElem_map,Array.getElem_toList];rw [PR hi,PR hj] at this;exact this
def w6:List V->Hp->VK->Prop:=λxs H Q=>uR1 xs λl=>∃(as:List Addr)(ps:List (Int×Int)),H l=some (.lst (as.map V.ref))/\Paired (fH H) as ps/\as.length<64 /\
 ∀D as' ps' H2,New H D (.lst (as'.map V.ref)) H2->D≠sysModules->Paired (fH H) as' ps'->ps'.Perm ps->ps'.Pairwise (λa b=>ltP b a=false)->Q (.ref D) H2
theorem AA{l:Addr}{Q:VK}:w6 [.ref l] H Q = ∃(as:List Addr)(ps:List (Int×Int)),H l=some (.lst (as.map V.ref))/\Paired (fH H) as ps/\as.length<64 /\
 ∀D as' ps' H2,New H D (.lst (as'.map V.ref)) H2->D≠sysModules->Paired (fH H) as' ps'->ps'.Perm ps->ps'.Pairwise (λa b=>ltP b a=false)->Q (.ref D) H2:=fR
section
variable {X:Cx}
theorem rQ{Go:List (Addr×Obj)}{σ:St}{s:LF}{p:Int×Int}(I:Inv X Go σ H s)(e:fH H a p):∃o n t u,s.heap.get? a=some o/\o.cls = .type "tuple"/\o.data = .seq #[.int p.1 t,.int p.2 u] n:=by
 obtain ⟨_,its,rv,ob,g1,g2,n,g3⟩:=I.hok a _ e;cases rv with
 | cons ra r1 =>
 cases r1 with
 | cons rb r2 =>
 cases r2;obtain ⟨t,rfl⟩:=ra;obtain ⟨u,rfl⟩:=rb;exact ⟨ob,n,t,u,g1,g2,g3⟩
theorem CS{Go:List (Addr×Obj)}{σ:St}{s:LF}{h':Heap}(I:Inv X Go σ H s)(k:∀b o,s.heap.get? b=some o->h'.get? b=some o){as:List Addr}{ps:List (Int×Int)}(h:Paired (fH H) as ps):∃fs,KatTups h' (as.map LL) fs/\fs.length=as.length/\∀v∈fs,∃n t,v=NI n t:=by
 induction h with
 | nil=>exact ⟨[],.nil,rfl,by simp⟩
 | cons r _ ih =>
  obtain ⟨fs,h1,h2,h3⟩:=ih;obtain ⟨o,n,t,u,g1,g2,g3⟩:=rQ I r;refine ⟨.int _ t::fs,KatTups.cons (k _ _ g1) g2 g3 rfl h1,by simp [h2],λv hv=>?_⟩;rcases LI.mp hv with rfl|hv
  .exact ⟨_,_,rfl⟩
  .exact h3 v hv
theorem Bg:zN X (.builtin "sorted") w6:=by
 intro Go s σ H xs us Q I r h;obtain ⟨l,rfl,as,ps,hl,hp,XO,q⟩:=h;obtain ⟨u,rfl,ru⟩:=bY r;cases ru;obtain ⟨its,rv,⟨o,n,e1,e2,e3,e4⟩,hz⟩:=I.list (SqL.of hl);have hits:=ug rv;subst hits;have lp:=ay hp;refine IL (κ:=tuples' true) (CZ λi=>ps.getD i (0,0)) ⟨o,e1,e2,n,e4⟩ (by rw [KE];exact XO) (λh' Q' k n2 q'=>?_) (λh' i j C k hi hj hC=>?_) λp pm ri=>?_
 .obtain ⟨fs,t1,t2,t3⟩:=CS I k hp;refine kat_kind (T:=.type "int") t1 (by rw [t2];rw [KE] at n2;lia) (λv hv=>?_) (by decide) (by rw [show (type "int" != type "tuple")=true by decide];exact q');obtain ⟨n,t,rfl⟩:=t3 v hv;exact .now
 .rw [KE] at hi hj;have get:∀i,i<as.length->∃a t u,(as.map LL).getD i Mm = .ref a/\∃o n,h'.get? a=some o/\o.data = .seq #[.int (ps.getD i (0,0)).1 t,.int (ps.getD i (0,0)).2 u] n:=λi hi=>by
   have hi2:i<ps.length:=by lia
   obtain ⟨o,n,t,u,g1,_,g3⟩:=rQ I (bI hp (il hi) (il hi2));refine ⟨as[i],t,u,by rw [LG,L6,il hi];rfl,o,n,k _ _ g1,?_⟩;rw [LG,il hi2];exact g3
  obtain ⟨a,t,u,ea,oa,na,ga,da⟩:=get i hi;obtain ⟨b,t',u',eb,ob,nb,gb,db⟩:=get j hj;unfold kas_ask;rw [ea,eb];generalize ps.getD i (0,0)=x at *
  generalize ps.getD j (0,0)=y at *
  refine kat_lt ga da gb db (kat_cons (wpAny_eqBool_int ?_));by_cases z:x.1=y.1
  .rw [show (x.1==y.1)=true by simpa using z];refine kat_yes (kat_cons (wpAny_eqBool_int ?_));by_cases z2:x.2=y.2
   .rw [show (x.2==y.2)=true by simpa using z2];refine kat_yes (kat_nil ?_);have e:ltP x y=false:=by rw [qe];lia
    rw [e] at hC;exact hC
   .rw [show (x.2==y.2)=false by simpa using z2];refine kat_no (kat_one _ _ (PyProof.Rows.lt_int ?_));have e:ltP x y=decide (x.2<y.2):=by unfold ltP;rw [z];simp
    rw [e] at hC;exact hC
  .rw [show (x.1==y.1)=false by simpa using z];refine kat_no (oneLt_int ?_);have e:ltP x y=decide (x.1<y.1):=by unfold ltP;simp [z]
   rw [e] at hC;exact hC
 .rw [KE] at pm ri;have hm:=pm.mem;have eo:(p.toList.map λi=>(as.map LL).getD i Mm)=(p.toList.map λi=>as.getD i 0).map LL:=by
   rw [MB];refine Nq λi hi=>?_;show (as.map LL).getD i Mm=LL (as.getD i 0);have:=hm i hi;rw [LG,LG,L6,il this];rfl
  obtain ⟨e,he⟩:=sortedAll_at s.heap (as.map LL) (Qx (p.toList.map λi=>(as.map LL).getD i Mm));have lz:(p.toList.map λi=>as.getD i 0).length=as.length:=by rw [KE,NP,pm.size]
  refine ⟨.ref (s.heap.objs.size+1),upd H (s.heap.objs.size+1) (.lst ((p.toList.map λi=>as.getD i 0).map V.ref)),I.laid (t':=s.toks) (λb o e=>sortedAll_old e) (PV _) ⟨by rw [KE,lz,ML];lia,(p.toList.map λi=>as.getD i 0).map LL,e,xB _,by rw [<- eo];exact he⟩,rfl,?_⟩;exact q _ (p.toList.map λi=>as.getD i 0) (p.toList.map λi=>ps.getD i (0,0)) _ (.mk' (I.hok.fresh (PV _))) (NQ (N7 I.big)) (sU hp hm) (pm.perms lp.symm (0,0)) (E7 pm ri)
def ik(kvs:List (Int×V)):List (Key×V):=kvs.map λp=>(.inl p.1,p.2)
def vT:List V->Hp->VK->Prop:=λxs H Q=>uR1 xs λa=>∃kvs:List (Int×V),Rd H a (.dK (ik kvs))/\kvs.length<64/\∀p (ns:List Int) H2,New H p (.lst (ns.map V.int)) H2->ns.Perm (kvs.map (·.1))->ns.Pairwise (·<=·)->Q (.ref p) H2
theorem Bi{Q:VK}:vT [.ref a] H Q = ∃kvs:List (Int×V),Rd H a (.dK (ik kvs))/\kvs.length<64/\∀p (ns:List Int) H2,New H p (.lst (ns.map V.int)) H2->ns.Perm (kvs.map (·.1))->ns.Pairwise (·<=·)->Q (.ref p) H2:=fR
theorem wA:∀{vs:List Value}{ns:List Int},vs.length=ns.length->(∀(j:Nat)(v:Value),vs[j]?=some v->∃t,v=NI (ns.getD j 0) t)->IntsAre vs ns
 | [],[],_,_=>.nil
 | [],_::_,h,_=>absurd h (by simp)
 | _::_,[],h,_=>absurd h (by simp)
 | v::vs,x::ns,h,f=>by
  obtain ⟨t,e⟩:=f 0 v rfl;have e':v=NI x t:=e;rw [e'];exact .cons x t (wA (by simpa using h) λj u hu=>f (j+1) u hu)
theorem wV(hc:X.calm=true):zN X (.builtin "sorted") vT:=by
 intro Go s σ H xs us Q I r h;obtain ⟨a,rfl,kvs,hq,XO,q⟩:=h;obtain ⟨u,rfl,ru⟩:=bY r;cases ru;obtain ⟨z,hd,vs,Zw,dd⟩:=dN I.hok hq;obtain ⟨ep,hat⟩:=dd.dictAt;have Z5:vs.length=kvs.length:=by rw [<- Zw.length];simp [ik]
 refine call_function_entry kind_sorted plain_sorted entry_sorted (args_sorted1 _) ?_;unfold L5.«sorted»
 refine fv (m:=checkCount "sorted" 1 1 _) (LJ (fv (kdu_collect (A:=X.A.in1) (kdl_dict (knd:=ak X.prog X.w) (kvs:=vs) (ep:=ep) hd) (I.ok.hd hc) hat (by rw [Z5,ML];lia) λh' tk Zi hk Ya=>?_)));have hl:Zi.toList.length=kvs.length:=by rw [NP,<- Z5];exact Ya.1
 have hS:IntsAre Zi.toList (kvs.map (·.1)):=wA (by rw [hl,KE]) λj v hv=>by
  obtain ⟨k,x,hx,hk⟩:=Ya.2 j v (by rw [<- Pi];exact hv);have hj:j<vs.length:=(LH.mp hx).1;have hj':j<kvs.length:=by lia
  have e2:(ik kvs)[j]?=some (.inl kvs[j].1,kvs[j].2):=by simp [ik,hj']
  obtain ⟨u',hu',_⟩:=Zw.at e2;rw [hx] at hu';cases hu';rcases cY (show dQ (Sum.inl kvs[j].1) v=true from hk) with ⟨i,t,e1,e2⟩|⟨y,t,e1,e2⟩
  .cases e1;exact ⟨t,by rw [e2,LG,L6,il hj'];rfl⟩
  .cases e1
 have I1:Inv X Go σ H { s with heap:=h',toks:=tk }:=I.kept hk;refine fv (PZ ?_ (by rw [hl,ML];lia));have Xq:(h'.push (Nk "list" Zi.toList.toArray 0)).get? h'.objs.size=some (Nk "list" Zi.toList.toArray 0):=LW _ rfl;refine fv (Mt (MO slot_list_sort ⟨_,Xq,rfl⟩ entry_list_sort (list_sort_tree Xq hS (by rw [hl];exact XO) λout ns' b1 b2 b3=>⟨_,rfl,?_⟩) (args_list_sort _)));obtain ⟨c,hcz⟩:=sortedHeap_at (vs:=Zi.toList) (out:=out) Xq;refine LJ ⟨_,rfl,.ref h'.objs.size,upd H h'.objs.size (.lst (ns'.map V.int)),I1.laid (a:=h'.objs.size) (t':=tk) (λb o e=>?_) (we _) ⟨?_,out.toList,c,wF b1,by rw [Array.toArray_toList];exact hcz⟩,rfl,q _ ns' _ (.mk' (I1.hok.fresh (we _))) b2 b3⟩
 .have hb:b<h'.objs.size:=L7 e;rw [sortedHeap_old (Mx hb) (by rw [Py];exact N7 hb)];exact p8 _ e
 .have:=b2.length_eq;rw [KE,this,KE,ML];lia
end
theorem Cn{c:Bool}{X:Cx}{kx vx tg iter:Mw}{Za:List Mw}{sc:Scope}{pos:Pos}{N':List Str}{ix:List (Option Nat)}{wi:TI}{g:TG}{tt:TT}{tk tv:TE}(hc:c=true->X.calm=true)(L:ar X sc N' ix)(hi:W (PIc c X tg iter wi))(hg:∀Go C fp s H,W (PG (zO X sc N' Go C fp s H) tg g))(ht:∀Go C fp s H,W (PTs (zO X sc N' Go C fp s H) Za tt))(hk:∀Go C fp s H,W (PE (zO X sc N' Go C fp s H) kx tk))(hv:∀Go C fp s H,W (PE (zO X sc N' Go C fp s H) vx tv))(hs:∀x,Nt iter X.env x=pure x:=by intro _;rfl):W (PE X (.DictComp kx vx [⟨tg,iter,Za,0⟩] sc pos) (tDC ix wi g tt tk tv)):=⟨EY hc L hi.h (λa b c d e=>(hg a b c d e).h) (λa b c d e=>(ht a b c d e).h) (λa b c d e=>(hk a b c d e).h) (λa b c d e=>(hv a b c d e).h) hs⟩
theorem E9{i:Int}{Q:VK}:oy (.ref a) (.int i) H Q = ∃kvs,Rd H a (.dK kvs)/\∃v,zW kvs (.inl i)=some v/\Q v H:=by
 apply propext;constructor
 .rintro ⟨a',k,kvs,v,e1,e2,h1,h2,q⟩;cases e1;cases k with
  | inl j=>cases e2;exact ⟨kvs,h1,v,h2,q⟩
  | inr x=>cases e2
 .rintro ⟨kvs,h1,v,h2,q⟩;exact ⟨a,.inl i,kvs,v,rfl,rfl,h1,h2,q⟩
section
variable {K:LK}{g:TG}{tt:TT}{te tk tv:TE}{σ:St}{H:Hp}{wi:TI}{ix:List (Option Nat)}{Q:VK}
def j4(J:It)(g:TG)(tt:TT)(tk tv:TE)(τ:St)(H:Hp)(Q:VK):Prop:=∃W:Nat->Nat->St->List (Key×V)->Hp->Prop,(∃m,W 0 m τ [] H)/\∀i m τ ys H2,W i m τ ys H2->ys.length<sizeLine /\
 ((J.stop i H2 ∧ ∀ D, H2 D = none → D ≠ sysModules → Q (.ref D) (upd H2 D (.dK ys))) ∨
  (J.go i H2 ∧ ∀ x H3, J.yld i H2 x H3 → g x τ H3 fun τ1 H4 => tt τ1 H4 fun ok H5 => if ok = true then tk τ1 H5 fun y H6 => tv τ1 H6 fun z H7 => uK y fun k => ∃ m', m' < m ∧ W (i + 1) m' τ1 (aG ys k z) H7 else ∃ m', m' < m ∧ W (i + 1) m' τ1 ys H5))
theorem J1:tDC ix wi g tt tk tv σ H Q=wi σ H λJ H1=>j4 J g tt tk tv (bW ix σ) H1 Q:=rfl
def qp(N:St->List (Key×V)->Hp->Prop)(ys:List (Key×V))(τ1:St)(tk tv:TE)(ok:Bool)(H5:Hp):Prop:=if ok=true then tk τ1 H5 λy H6=>tv τ1 H6 λz H7=>uK y λk=>N τ1 (aG ys k z) H7 else N τ1 ys H5
theorem Fz{N:St->List (Key×V)->Hp->Prop}{ys:List (Key×V)}:qp N ys τ tk tv true H=tk τ H λy H6=>tv τ H6 λz H7=>uK y λk=>N τ (aG ys k z) H7:=rfl
theorem Kv{N:St->List (Key×V)->Hp->Prop}{ys:List (Key×V)}:qp N ys τ tk tv false H=N τ ys H:=rfl
theorem j4.lst{xs:List V}(Pv:Nat->St->List (Key×V)->Hp->Prop)(hz:∀i τ ys H,Pv i τ ys H->ys.length<sizeLine)(ha:∀i τ ys H,Pv i τ ys H->SqL K H a xs)(h0:Pv 0 τ [] H)
  (hs:∀(N:St->List (Key×V)->Hp->Prop) i x τ ys H,xs[i]?=some x->Pv i τ ys H->(∀τ ys H,Pv (i+1) τ ys H->N τ ys H)->g x τ H λτ1 H4=>tt τ1 H4 λok H5=>qp N ys τ1 tk tv ok H5) (hd:∀τ ys H,Pv xs.length τ ys H->∀D H',New H D (.dK ys) H'->Q (.ref D) H'):j4 (Itl K a) g tt tk tv τ H Q:=by
 refine ⟨λi m τ ys H=>m=xs.length-i/\i<=xs.length/\Pv i τ ys H,⟨xs.length,by simp,MM _,h0⟩,?_⟩;rintro i m τ ys H2 ⟨rfl,hi,p⟩;refine ⟨hz i τ ys H2 p,?_⟩;have q:=ha i τ ys H2 p;by_cases ZO:i<xs.length
 .refine .inr ⟨⟨xs,xs[i],q,by simp [ZO]⟩,λx H' y=>?_⟩;obtain ⟨e,y⟩:=y;subst e;exact hs (λτ1 ys H=>∃m',m'<xs.length-i/\m'=xs.length-(i+1)/\i+1<=xs.length/\Pv (i+1) τ1 ys H) i x τ ys _ (y xs q) p λτ1 zs H q=>⟨xs.length-(i+1),by lia,rfl,ZO,q⟩
 .have e:i=xs.length:=by lia
  subst e;exact .inl ⟨⟨xs,q,we _⟩,λD hD _=>hd τ ys H2 p D _ (.mk' hD)⟩
theorem zS.lstS{xs:List V}(Pv:Nat->St->List V->Hp->Prop)(hz:∀i τ ys H,Pv i τ ys H->ys.length<sizeLine)(ha:∀i τ ys H,Pv i τ ys H->SqL K H a xs)(h0:Pv 0 τ [] H)
  (hs:∀(N:St->List V->Hp->Prop) i x τ ys H,xs[i]?=some x->Pv i τ ys H->(∀τ ys H,Pv (i+1) τ ys H->N τ ys H)->g x τ H λτ1 H4=>tt τ1 H4 λok H5=>dJ N ys τ1 te ok H5) (hd:∀τ ys H,Pv xs.length τ ys H->∀D H',New H D (.lst ys) H'->D≠sysModules->Q (.ref D) H'):zS (Itl K a) g tt te τ H Q:=by
 refine ⟨λi m τ ys H=>m=xs.length-i/\i<=xs.length/\Pv i τ ys H,⟨xs.length,by simp,MM _,h0⟩,?_⟩;rintro i m τ ys H2 ⟨rfl,hi,p⟩;refine ⟨hz i τ ys H2 p,?_⟩;have q:=ha i τ ys H2 p;by_cases ZO:i<xs.length
 .refine .inr ⟨⟨xs,xs[i],q,by simp [ZO]⟩,λx H' y=>?_⟩;obtain ⟨e,y⟩:=y;subst e;exact hs (λτ1 ys H=>∃m',m'<xs.length-i/\m'=xs.length-(i+1)/\i+1<=xs.length/\Pv (i+1) τ1 ys H) i x τ ys _ (y xs q) p λτ1 zs H q=>⟨xs.length-(i+1),by lia,rfl,ZO,q⟩
 .have e:i=xs.length:=by lia
  subst e;exact .inl ⟨⟨xs,q,we _⟩,λD hD n=>hd τ ys H2 p D _ (.mk' hD) n⟩
end
end L2
namespace L2
open PySem PySem.Spec PyProof.Rows
def Ris(xs:Array Nat):Prop:=∀i j,i<j->j<xs.size->xs.getD i 0<xs.getD j 0
structure G3(bt:Bool)(t:SetTable):Prop where
 led:t.led = !bt
 dum:t.dummies = #[]
 ris:Ris t.place
def btW(w:Mf):Bool:=w.params.followText "set-order"
def J8(e:Int×Value):Int:=numOf e.2
structure pK(prog:LV)(w:Mf)(h:Heap)(a:Addr)(ns:List Int):Prop where
 ex:∃o es ep t,h.get? a=some o/\o.ExactSet/\o.data = .set es ep t/\ElemsOf (PySem.intKind prog w) es.toList/\t.fits es.size=true/\G3 (btW w) t/\(es.toList.map J8).Perm ns
 few:ns.length<4000
section
variable {prog:LV}{w:Mf}{A:Mn}{E:Value->LF->Prop}{s:LF}
theorem pK.at{h h':Heap}{a:Addr}{ns:List Int}(x:pK prog w h a ns)(k:∀o,h.get? a=some o->h'.get? a=some o):pK prog w h' a ns :=
 let ⟨o,es,ep,t,ho,r⟩:=x.ex;⟨⟨o,es,ep,t,k o ho,r⟩,x.few⟩
end
section
variable {Ye t0 i0 t1 i1 t2 i2:Mw}{sc:Scope}{pos:Pos}{it Zi:Value}{env:Env}
end
section
variable {X:Cx}{D:Addr}
end
section
variable {prog:LV}{w:Mf}{A:Mn}{E:Value->LF->Prop}{s:LF}
structure SIt(h:Heap)(I a:Addr)(n ep:Nat)(first:Value)(i:Nat):Prop where
 ex:∃o,h.get? I=some o/\o.cls = .type "set_iterator"/\o.data = .fields #[first,.int i 0,.ref a,.int n 0,.int ep 0]
theorem SIt.at{h h':Heap}{I a:Addr}{n ep:Nat}{first:Value}{i:Nat}(x:SIt h I a n ep first i)(k:∀o,h.get? I=some o->h'.get? I=some o):SIt h' I a n ep first i:=let ⟨o,ho,r⟩:=x.ex;⟨⟨o,k o ho,r⟩⟩
section
variable {a:Addr}{o:Obj}{es:Array (Int×Value)}{ep:Nat}{t:SetTable}
end
end
section
variable {prog:LV}{w:Mf}{A:Mn}{E:Value->LF->Prop}{s:LF}
variable {a I:Addr}{o:Obj}{es:Array (Int×Value)}{ep:Nat}{t:SetTable}{i:Nat}
end
section
variable {prog:LV}{w:Mf}{A:Mn}{E:Value->LF->Prop}{s:LF}
end
end L2
namespace L2
open PySem PySem.Spec PyProof.Rows PySem.W PySem.Calls
section
variable {X:Cx}
end
section
variable {prog:LV}{w:Mf}{A:Mn}{E:Value->LF->Prop}{s:LF}
end
section
variable {X:Cx}
end
end L2
namespace L2
open PySem PySem.Spec PyProof.Rows
variable{σ:St}{H:Hp}{x:Str}{v:V}{pos:Pos}{i:Nat}{a tg:Mw}{ta:TA}{α:Type}
section
variable {P:LV}{w:Mf}{K:LK}{ix:List (Option Nat)}{wi:TI}{g:TG}{tb:TB}{te:TE}{σ:St}{ns:List Int}{H:Hp}{Q:St->List Int->Hp->Prop}{R:VK}
end
section
variable {Y:Cx}{sc:Scope}{N':List Str}{Go:List (Addr×Obj)}{D:Addr}{fp:List Addr}{s:LF}{H:Hp}
end
section
variable {K:LK}{g:TG}{tt:TT}{tk tv:TE}{H:Hp}{Q:VK}
end
section
variable {X:Cx}
def EqR(H:Hp)(x y:V)(b:Bool):Prop:=∃p q zs ws,x = .ref p/\y = .ref q/\H p=some (.tup zs)/\H q=some (.tup ws)/\zs.all zY=true/\ws.all zY=true/\b=eqL zs ws
theorem EqR.at{Go:List (Addr×Obj)}{s:LF}{x y:V}{u v:Value}{b:Bool}{A:Mn}(I:Inv X Go σ H s)(h:EqR H x y b)(rx:zp x u)(ry:zp y v)(hu:A.units<cLine):SeqAt.EqAt A s u v b:=by
 obtain ⟨p,q,xs,ys,rfl,rfl,ha,hb,fx,fy,rfl⟩:=h;cases rx;cases ry;by_cases hpq:p=q
 .subst hpq;rw [ha] at hb;cases hb;rw [Ec fx λx hx b e=>by have:=Mz.mp fx x hx;rw [e] at this;cases this];exact SeqAt.EqAt.same _
 obtain ⟨is,r1,p1,_⟩:=I.tuple (SqT.of (K:=X.K) ha);obtain ⟨js,r2,p2,_⟩:=I.tuple (SqT.of (K:=X.K) hb);have l1:=r1.length;have l2:=r2.length;have z:=SeqAt.RcAt.tuples (A:=A) (e:=λj=>eqV (xs.getD j .non) (ys.getD j .non)) p1 p2 hu λj h1 h2=>by
  simp only [LY] at h1 h2;have e1:xs[j]?=some (xs.getD j .non):=by rw [LG,il (by lia)];rfl
  have e2:ys[j]?=some (ys.getD j .non):=by rw [LG,il (by lia)];rfl
  obtain ⟨u,g1,q1⟩:=r1.get e1;obtain ⟨v,g2,q2⟩:=r2.get e2;rw [il h1] at g1;rw [il h2] at g2;have w1:is.toArray[j]=u:=by simpa using Ms.inj g1
  have w2:js.toArray[j]=v:=by simpa using Ms.inj g2
  rw [w1,w2];exact nt q1 q2 (Mz.mp fx _ (LX e1)) (Mz.mp fy _ (LX e2))
 have e:eqL xs ys=((Pk (min is.toArray.size js.toArray.size)).all (λj=>eqV (xs.getD j .non) (ys.getD j .non))&&is.toArray.size==js.toArray.size):=by
  unfold eqL;simp only [LY];rw [l1,l2];by_cases hz:is.length=js.length
  .rw [hz];simp
  .have z:(is.length==js.length)=false:=by simpa using hz
   rw [z,PP,Bool.and_false]
 rw [e];exact .of_refs hpq z
theorem vd{j:Nat}{y:Str}{b:Mw}{px py pt:Pos}{kt k2 pt2}(hc:X.calm=true)(hN:X.N.Nodup)(hi:X.N[i]?=some x)(hj:X.N[j]?=some y)(Yh:i≠j)
  (hx:X.env.scope.names.lookup x=some .local) (hy:X.env.scope.names.lookup y=some .local) (ha:W (PA X [a,b] ta))
  (hw:swappedStores [.Tuple [.Name x px,.Name y py] kt pt] (.Tuple [a,b] k2 pt2) X.env=pure (some [x,y]))
  (hs:swapsWithSole [.Tuple [.Name x px,.Name y py] kt pt] (.Tuple [a,b] k2 pt2) pos.line X.env=pure false:=by rfl) :
  W (PS X (.Assign [.Tuple [.Name x px,.Name y py] kt pt] (.Tuple [a,b] k2 pt2) pos) (qw i j ta)):=⟨Eb hc hN hi hj Yh hx hy ha.h hw hs⟩
theorem Ci{j:Nat}{D:aL}:qw i j ta D σ H=ta σ H λvs H1=>∃v w,vs=[v,w]/\D.nx ((σ.set i (some v)).set j (some w)) H1:=rfl
end
section
variable {prog:LV}{w:Mf}{A:Mn}{E:Value->LF->Prop}{s:LF}
theorem BC{it l:Addr}{items:Array Value}{Q:Option Value->LF->Prop}(hh:Hnd A s.heap)(Yd:s.heap.IsListIter it l i)(hl:s.heap.IsList l items)(hx:items[i]?=none)
  (k:∀h',ExtBut it s.heap h'->Q none { s with heap:=h' }):LS (LZ prog w) A (Oy (.ref it)) Q E s:=by
 obtain ⟨o,ho,hc,hd⟩:=id Yd;obtain ⟨ol,hol,_,nl,hdl⟩:=hl;unfold Oy;refine fv (Ot (ME (name:=vv "__next__") Yd.typeIs slot_listiter_next (MO slot_listiter_next Yd.typeIs entry_listiter_next ?_ (args_listiter_next _))));refine fv (m:=PD (.ref it) 0) (Me ho hd (x:=.ref l) rfl ?_);rw [if_neg (show ¬ ((LL l==Mm)=true) by simp)];refine fv (m:=PD (.ref it) 1) (Me ho hd (x:=.int i 0) rfl (fv (m:=Qj (.ref l)) (M7 hol hdl ?_)));simp only [Np,hx];refine fv (NN (fv (M6 ho hd (by simp) ?_)));refine jz (hh.keeps λb q hq e=>(Mo _ _ λz=>?_).trans e) λh' e up=>x3e λo' g' c' =>
  fv (OS (T:="StopIteration") (b:=true) ⟨o',g',c'⟩ PC (LJ (k h' λb q hb z=>up b q ((Mo _ _ (L8 hb)).trans z))))
 obtain ⟨C,hC⟩:=hq;rw [<- z,ho] at e;cases e;rw [hc] at hC;cases hC
theorem Ka{it:Addr}{x left step:Int}{Q:Option Value->LF->Prop}(hh:Hnd A s.heap)(Yd:Pg s.heap it x left step)(hleft:left<=0)
  (k:∀h',ExtBut it s.heap h'->Q none { s with heap:=h' }):LS (LZ prog w) A (Oy (.ref it)) Q E s:=by
 have hT:s.TypeIs (.ref it) "range_iterator":=⟨_,Yd,rfl⟩;unfold Oy;refine fv (Ot (ME (name:=vv "__next__") hT F.slot_range_iterator_next (MO F.slot_range_iterator_next hT F.entry_range_iterator_next ?_ (F.args_range_iterator_next_1 _))));refine fv (m:=PD (.ref it) 0) (Me Yd rfl (x:=MP x) rfl ?_);refine fv (m:=PD (.ref it) 1) (Me Yd rfl (x:=MP left) rfl ?_);refine fv (m:=PD (.ref it) 2) (Me Yd rfl (x:=MP step) rfl ?_);show LS _ _ (if left<=0 then _ else _) _ _ s;rw [if_pos hleft];refine fv (NN (fv ?_));exact jz hh λh' e up=>x3e λo' g' c' =>
  fv (OS (T:="StopIteration") (b:=true) ⟨o',g',c'⟩ PC (LJ (k h' λb q hb z=>up b q z)))
end
theorem Es{P:LV}{w:Mf}{K:LK}(a it:Addr):dj false P w K tg (Itl K a) [it] it (λi h=>h.IsListIter it a i) where
 mem:=by simp
 obj:=(jO (P:=P) (w:=w) (K:=K) (tg:=tg) a it).obj
 keep:=(jO (P:=P) (w:=w) (K:=K) (tg:=tg) a it).keep
 item:=by
  intro X hP hw hK hc i Go s σ H E I hf st hg;subst hP hw hK;obtain ⟨xs,x,hq,hx⟩:=hg;obtain ⟨its,rv,p,hz⟩:=I.list hq;obtain ⟨u,hu,ru⟩:=rv.get hx;obtain ⟨f0,f1,f2,f3,f4,f5⟩:=hf it (by simp);refine wpAny_pyNext_list_item st p.isList (x:=u) (by simpa using hu) λh' YR sb=>?_;have I1:Inv X Go σ H { s with heap:=h' }:=I.turned (t':=s.toks) (λb o hb e=>(sb.2 b hb).trans e) f0 f1 f3 f4 f5;obtain ⟨o,e,c,d⟩:=id YR;exact ⟨u,rfl,gv (s:={ s with heap:=h' }) e c d (by decide) ⟨x,H,I1,ru,⟨rfl,λys hy=>by rw [I.list_inj hy hq];exact hx⟩,YR,λb hb=>(hf b hb).1⟩⟩
 done:=by
  intro X hP hw hK hc i Go s σ H E I hf st hg;subst hP hw hK;obtain ⟨xs,hq,hx⟩:=hg;obtain ⟨its,rv,p,hz⟩:=I.list hq;obtain ⟨f0,f1,f2,f3,f4,f5⟩:=hf it (by simp);have hl:=rv.length;exact BC I.hnd st p.isList (by simp;lia) λh' eb=>⟨rfl,I.turned (t':=s.toks) (λb o hb e=>eb b o hb e) f0 f1 f3 f4 f5⟩
 self:=λ_ _ _ _ _ st h=>wpAny_pyIter_listiter st h
theorem Jd{P:LV}{w:Mf}{K:LK}(it:Addr)(lo:Int)(n:Nat):dj false P w K tg (Itr lo n) [it] it (λi h=>Pg h it (lo+(i:Nat)*1) ((n:Int)-(i:Nat)) 1) where
 mem:=by simp
 obj:=(nC (P:=P) (w:=w) (K:=K) (tg:=tg) it lo n).obj
 keep:=(nC (P:=P) (w:=w) (K:=K) (tg:=tg) it lo n).keep
 item:=by
  intro X hP hw hK hc i Go s σ H E I hf st hg;subst hP hw hK;obtain ⟨f0,f1,f2,f3,f4,f5⟩:=hf it (by simp);have hg:i<n:=hg;refine wpAny_pyNext_range_item st (by lia) λh' YR sb=>?_;have I1:Inv X Go σ H { s with heap:=h',toks:=s.toks+1 }:=I.turned (λb o hb e=>(sb.2 b hb).trans e) f0 f1 f3 f4 f5;have YR:Pg h' it (lo+((i+1:Nat):Int)*1) ((n:Int)-((i+1:Nat):Int)) 1:=by
   rw [show lo+((i+1:Nat):Int)*1=lo+(i:Int)*1+1 by lia,show (n:Int)-((i+1:Nat):Int)=(n:Int)-(i:Int)-1 by lia];exact YR
  refine ⟨_,rfl,gv (s:={ s with heap:=h',toks:=s.toks+1 }) (n:="range_iterator") YR rfl rfl (by decide) ⟨.int (lo+i),H,I1,⟨s.toks,?_⟩,⟨rfl,rfl⟩,YR,λb hb=>(hf b hb).1⟩⟩;rw [Int.mul_one]
 done:=by
  intro X hP hw hK hc i Go s σ H E I hf st hg;subst hP hw hK;obtain ⟨f0,f1,f2,f3,f4,f5⟩:=hf it (by simp);exact Ka I.hnd st (by have:n<=i:=hg;lia) λh' eb=>⟨rfl,I.turned (t':=s.toks) (λb o hb e=>eb b o hb e) f0 f1 f3 f4 f5⟩
 self:=λ_ _ _ _ _ st h=>wpAny_pyIter_rangeiter st h
section
variable {X:Cx}{tg:Mw}
theorem KU{l:Mw}{tl:TE}(hl:PE X l tl):PIc false X tg l (iz X.K tl):=by
 intro Go s σ H R I h;refine thn (hl Go s σ H _ I h) λv s1=>x5e λx H1 I1 r1 q1=>?_;obtain ⟨a,e,⟨xs,hq⟩,q⟩:=q1;subst e;cases r1;obtain ⟨its,rv,p,hz⟩:=I1.list hq;refine NJ p.isList ?_;refine ⟨s1.heap.objs.size,[s1.heap.objs.size],_,_,H1,rfl,I1.kept (t':=s1.toks) λb o e=>p8 _ e,Es a _,⟨_,LW _ rfl,rfl,rfl⟩,λb hb=>?_,q⟩;have e:b=s1.heap.objs.size:=by simpa using hb
 subst e;exact I1.fpOk (we _) (I1.hok.fresh (we _))
theorem Hi{p:Pos}(hg:Gl X "range")(hm:X.mg "range"=none)(ha:PA X [a] ta)(hp:av a=true:=by rfl):PIc false X tg (.Call (.Name "range" p) [a] [] pos) (iy ta):=by
 intro Go s σ H R I h;refine Call_ (dO I hg hm boot_range (Nd (thn (ha pos Go s σ H _ I h) λus s1=>x5e λvs H1 I1 r1 q1=>?_) (du hp) rfl));obtain ⟨j,e,q1,q2,q⟩:=q1;subst e;cases r1 with
 | cons r rr =>
  cases rr;obtain ⟨t,rfl⟩:=r;refine call_range_1 (wpAny_pyIter_range (IsRange.new ..) (small_one (by lia) (by lia) q1 q2) ?_);have I2:Inv X Go σ H1 { s1 with heap:=s1.heap.push { cls:=.type "range",data:=.fields #[.int 0 s1.toks,.int j t,.int 1 (s1.toks+1)] },toks:=s1.toks+1+1 }:=I1.kept λb o e=>p8 _ e;refine ⟨_,[_],_,_,H1,rfl,I2.kept (t':=s1.toks+1+1) λb o e=>p8 _ e,Jd _ 0 j.toNat,?_,λb hb=>?_,q⟩
  .have e2:((j.toNat:Nat):Int)-((0:Nat):Int)=L5.Range.rangeSize 0 j 1:=by rw [rangeSize_one];split<;>lia
   show Pg _ _ (0+((0:Nat):Int)*1) (((j.toNat:Nat):Int)-((0:Nat):Int)) 1;rw [e2];exact LW _ rfl
  .have e:b=_:=LU.mp hb;subst e;exact I2.fpOk (we _) (I2.hok.fresh (we _))
theorem DD{l:Mw}{tl:TE}(hl:W (PE X l tl)):W (PIc false X tg l (iz X.K tl)):=⟨KU hl.h⟩
theorem HR{p:Pos}(hg:Gl X "range")(hm:X.mg "range"=none)(ha:W (PA X [a] ta))(hp:av a=true:=by rfl):W (PIc false X tg (.Call (.Name "range" p) [a] [] pos) (iy ta)):=⟨Hi hg hm ha.h hp⟩
end
section
variable {P:LV}{w:Mf}{K:LK}{mg:Str->Option Value}{base:Heap}{k:Nat}{x:Str}{C:Addr}{ps:List Str}{sp:Sp}
end
theorem Jf{β:Type}{f:α->β}{a:α}{l:List α}:(a::l).map f=f a::l.map f:=rfl
theorem JL{β:Type}{f:α->β}:([]:List α).map f=[]:=rfl
theorem Ky:(!true)=false:=rfl
theorem IF:(!false)=true:=rfl
theorem fsc{N P:List Str}{sc:Scope}(a:sc.kind = .function:=by rfl)(b:sc.isCoroutine=false:=by rfl)(c:sc.isGenerator=false:=by rfl)(d:N.Nodup:=by decide +kernel)(e:N.take P.length=P:=by rfl)(f:∀x∈P,sc.names.lookup x=some .local\/sc.names.lookup x=some .cell:=by decide +kernel)(g:∀y∈sc.names,y.2≠.free:=by decide +kernel):zw N P sc:=⟨a,b,c,d,e,f,g⟩
abbrev FnM(K:LK)(x:Str)(st:Stmt):Prop:=∃f fd,NO K LN x=some (some (.ref f))/\Fun K x x st f fd
abbrev ah(K:LK)(C:Addr)(m q:Str)(st:Stmt):Prop:=∃f fd,Na K (.ref C) m=some (some (.ref f))/\isFn K (.ref f)=true/\Fun K m q st f fd
theorem u1{p:List α->Prop}(h:∀a,p [a]):∀us,us.length=1->p us
 | [a],_=>h a
theorem u2{p:List α->Prop}(h:∀a b,p [a,b]):∀us,us.length=2->p us
 | [a,b],_=>h a b
theorem u3{p:List α->Prop}(h:∀a b c,p [a,b,c]):∀us,us.length=3->p us
 | [a,b,c],_=>h a b c
theorem u4{p:List α->Prop}(h:∀a b c d,p [a,b,c,d]):∀us,us.length=4->p us
 | [a,b,c,d],_=>h a b c d
theorem u5{p:List α->Prop}(h:∀a b c d e,p [a,b,c,d,e]):∀us,us.length=5->p us
 | [a,b,c,d,e],_=>h a b c d e
section
variable {w:Mf}{K:LK}{mg:Str->Option Value}{h:Heap}{k:Nat}{x q:Str}{C:Addr}{ps:List Str}{sp:Sp}{st:Stmt} (P:LV) (base:Heap) (cm:Bool)
abbrev BdA(x q:Str)(st:Stmt)(ps:List Str):Prop:=∀(kV Yj pm:Value)(an:Option Addr)(Z1 ct:Value)(us:List Value),us.length=ps.length->bindArgs (fnOf x q (gR st) (dS st) (zm st) .none kV Yj pm an Z1 ct) ⟨us,[]⟩=pure (ps.zip us)
theorem gf(X:K.In h)(G:h.Ns LN mg)(m:FnM K x st)(o:∀f fd,Fun K x x st f fd->zo P w K mg base CX0 cm k f fd ps sp)(b:BdA x x st ps):GF P w K mg base cm k x ps sp:=let ⟨f,fd,a,F⟩:=m;⟨f,fd,o f fd F,NR X G a,F.kp,F.binds b⟩
theorem gx(X:K.In h)(G:h.Ns LN mg)(m:FnM K x st)(o:∀f fd,Fun K x x st f fd->zo P w K mg base (CXW P w) cm k f fd ps sp)(b:BdA x x st ps):GX P w K mg base cm k x ps sp:=let ⟨f,fd,a,F⟩:=m;⟨f,fd,o f fd F,NR X G a,F.kp,F.binds b⟩
theorem gm(m:ah K C x q st)(o:∀f fd,Fun K x q st f fd->zo P w K mg base CX0 cm k f fd ps sp)(b:BdA x q st ps):GM P w K mg base cm k C x ps sp:=let ⟨f,fd,a,i,F⟩:=m;⟨f,fd,o f fd F,⟨a,i,F.kp⟩,F.binds b⟩
theorem gmx(m:ah K C x q st)(o:∀f fd,Fun K x q st f fd->zo P w K mg base (CXW P w) cm k f fd ps sp)(b:BdA x q st ps):GMX P w K mg base cm k C x ps sp:=let ⟨f,fd,a,i,F⟩:=m;⟨f,fd,o f fd F,⟨a,i,F.kp⟩,F.binds b⟩
theorem gc(X:K.In h)(G:h.Ns LN mg)(c:NO K LN x=some (some (.ref C)))(mk:makesIn K C=true)(kc:Ph K (.ref C)=true)(m:ah K C "__init__" q st)(o:∀f fd,Fun K "__init__" q st f fd->zo P w K mg base CX0 cm k f fd ps sp)(b:BdA "__init__" q st ps):GC P w K mg base cm k x C ps sp:=let ⟨f,fd,a,i,F⟩:=m;⟨f,fd,o f fd F,NR X G c,⟨mk,a,i,kc⟩,F.binds b⟩
end
def i3(i:Nat):TE:=λσ H Q=>match σ[i]? with|some (some v)=>Q v H|_=>False
def rID(C:Int->Int->Prop)(g:Int->Int->V):R2:=λx y H Q=>match x,y with | .int i,.int j=>C i j/\Q (g i j) H|_,_=>False
def rS(g:Int->Int->V):R2:=λx y H Q=>match x,y with | .int i,.int j=>Q (g i j) H|_,_=>False
section
variable {X:Cx}{f:Value->Value->Sem Value}{C:Int->Int->Prop}{g:Int->Int->V}
theorem pvD(i:Nat)(hN:X.N[i]?=some x:=by rfl)(hv:Vis X.env.scope x:=by first|exact LQ rfl|exact OM (LQ rfl)|exact OM (OM rfl))(hd:(x==("__debug__":Str))=false:=by decide)(hcd:(x==("__classdict__":Str))=false:=by decide):PE X (.Name x pos) (i3 i):=λGo s σ H Q I h=>pv i hN hv hd hcd Go s σ H Q I (by
 unfold i3 at h;split at h
 .exact ⟨_,by assumption,h⟩
 .exact h.elim)
theorem zb(i:Nat)(hN:X.N[i]?=some x:=by rfl)(hv:Vis X.env.scope x:=by first|exact LQ rfl|exact OM (LQ rfl)|exact OM (OM rfl))(hd:(x==("__debug__":Str))=false:=by decide)(hcd:(x==("__classdict__":Str))=false:=by decide):W (PE X (.Name x pos) (i3 i)):=⟨pvD i hN hv hd hcd⟩
theorem oI(h:OpR X f (rI C g)):OpR X f (rID C g):=h.weak λx y H Q q=>by
 cases x<;>cases y<;>first|exact q.elim|exact ⟨_,_,rfl,rfl,q⟩
theorem oI0(h:OpR X f (rI0 g)):OpR X f (rS g):=h.weak λx y H Q q=>by
 cases x<;>cases y<;>first|exact q.elim|exact ⟨_,_,rfl,rfl,q⟩
end
section
variable {i j:Int}{H:Hp}{Q:VK}{C:Int->Int->Prop}{g:Int->Int->V}
theorem I0:rID C g (.int i) (.int j) H Q=(C i j/\Q (g i j) H):=rfl
theorem Ab:rS g (.int i) (.int j) H Q=Q (g i j) H:=rfl
end
abbrev clT(t:TE):TE:=λσ H Q=>∃R:VK,t σ H R/\∀v H,R v H->Q v H
abbrev clR(r:R2):R2:=λx y H Q=>∃R:VK,r x y H R/\∀v H,R v H->Q v H
abbrev clA(t:TA):TA:=λσ H Q=>∃R:List V->Hp->Prop,t σ H R/\∀v H,R v H->Q v H
def bD(v:V)(q:Bool->Prop):Prop:=match v with | .bl c=>q c|_=>False
def aD(v:V)(q:Addr->Prop):Prop:=match v with | .ref a=>q a|_=>False
theorem IP{c:Bool}{q:Bool->Prop}:bD (.bl c) q=q c:=rfl
theorem FB{a:Addr}{q:Addr->Prop}:aD (.ref a) q=q a:=rfl
theorem bD.ex{q:Bool->Prop}(h:bD v q):∃c,v = .bl c/\q c:=by
 cases v<;>first|exact ⟨_,rfl,h⟩|exact h.elim
theorem aD.ex{q:Addr->Prop}(h:aD v q):∃a,v = .ref a/\q a:=by
 cases v<;>first|exact ⟨_,rfl,h⟩|exact h.elim
def tF(t:TE):TT:=λσ H Q=>t σ H λx H1=>bD x λc=>Q c H1
def x8(ta tb:TE):TE:=λσ H Q=>ta σ H λx H1=>bD x λc=>if c=true then tb σ H1 Q else Q (.bl false) H1
def rJ(ta:TE):TE:=λσ H Q=>ta σ H λx H1=>bD x λc=>Q (.bl (!c)) H1
def mr(C:Addr)(m:Str)(sp:Sp)(E:XK)(ta:TE)(t:TA):TE:=λσ H Q=>ta σ H λx H1=>aD x λa=>∃dx fs,H1 a=some (.ins C dx fs)/\fs.lookup m=none/\t σ H1 λvs H2=>sp (.ref a::vs) H2 Q E
def qG(C:Addr)(m:Str)(sp:Sp)(Ex:Addr->St->Hp->Prop)(ta:TE)(t:TA):TE:=λσ H Q=>ta σ H λx H1=>aD x λa=>∃dx fs,H1 a=some (.ins C dx fs)/\fs.lookup m=none/\t σ H1 λvs H2=>sp (.ref a::vs) H2 Q (XE Ex σ)
def pR(sp:Sp)(E:XK)(t:TA):TE:=λσ H Q=>t σ H λvs H1=>sp vs H1 Q E
def rR(sp:Sp)(Ex:Addr->St->Hp->Prop)(t:TA):TE:=λσ H Q=>t σ H λvs H1=>sp vs H1 Q (XE Ex σ)
def tM(C:Addr)(ta:TE)(f:Str):TE:=λσ H Q=>ta σ H λx H1=>aD x λa=>∃dx fs v,H1 a=some (.ins C dx fs)/\fs.lookup f=some v/\Q v H1
def sE(C:Addr)(ta tv:TE)(f:Str):TS:=λD σ H=>tv σ H λy H1=>ta σ H1 λx H2=>aD x λa=>∃dx fs,H2 a=some (.ins C dx fs)/\fs.length<1000/\D.nx σ (upd H2 a (.ins C dx (zP f y fs)))
def vJ(K:LK)(tl:TE):TI:=λσ H R=>tl σ H λx H1=>aD x λa=>(∃xs,SqL K H1 a xs)/\R (Itl K a) H1
def rV(t:TG)(u:TGs):TGs:=λvs σ H Q=>match vs with|v::r=>t v σ H λσ' H'=>u r σ' H' Q|[]=>False
theorem Lw{t:TG}{u:TGs}{r:List V}{Q:St->Hp->Prop}:rV t u (v::r) σ H Q=t v σ H λσ' H'=>u r σ' H' Q:=rfl
def lM:R2:=λx y H Q=>match x,y with
 | .ref a,.int i=>∃xs,(H a=some (.lst xs)\/H a=some (.tup xs))/\∃v,atI xs i=some v/\Q v H
 | .str x,.int i=>x.length<=sizeLine/\∃c,atI x.cps.toList i=some c/\Q (.str ⟨#[c]⟩) H
 | _,_=>False
def lW:List V->Hp->VK->Prop:=λxs H Q=>match xs with
 | [.ref a]=>∃ys,(H a=some (.lst ys)\/H a=some (.tup ys))/\Q (.int ys.length) H
 | [.str x]=>x.length<=sizeLine/\Q (.int x.length) H
 | _=>False
def h6(c:Bool):R2:=λx y H Q=>match x,y with
 | .int i,.int j=>Q (.bl (if c then !decide (i=j) else decide (i=j))) H
 | .str i,.str j=>Q (.bl (if c then !decide (i=j) else decide (i=j))) H
 | .bl i,.bl j=>Q (.bl (if c then !decide (i=j) else decide (i=j))) H
 | .ref a,.ref b=>∃xs ys,H a=some (.lst xs)/\H b=some (.lst ys)/\xs.all zY=true/\ys.all zY=true/\Q (.bl (if c then !eqL xs ys else eqL xs ys)) H
 | _,_=>False
def ie:R2:=λx y H Q=>match x,y with
 | .int i,.int j=>Q (.int (i+j)) H
 | .str x,.str y=>x.length+y.length<=sizeLine/\Q (.str (x++y)) H
 | .ref a,.ref b=>∃xs zs,H a=some (.lst xs)/\H b=some (.lst zs)/\xs.length+zs.length<=sizeLine/\∀p H2,New H p (.lst (xs++zs)) H2->Q (.ref p) H2
 | _,_=>False
section
variable {H:Hp}{Q:VK}{i j:Int}{x y:Str}{a b:Addr}{k k' c:Bool}
theorem Jn:lM (.ref a) (.int i) H Q = ∃xs,(H a=some (.lst xs)\/H a=some (.tup xs))/\∃v,atI xs i=some v/\Q v H:=rfl
theorem CY:lM (.str x) (.int i) H Q=(x.length<=sizeLine/\∃c,atI x.cps.toList i=some c/\Q (.str ⟨#[c]⟩) H):=rfl
theorem xV:lW [.ref a] H Q = ∃ys,(H a=some (.lst ys)\/H a=some (.tup ys))/\Q (.int ys.length) H:=rfl
theorem KH:lW [.str x] H Q=(x.length<=sizeLine/\Q (.int x.length) H):=rfl
theorem Eo:h6 c (.int i) (.int j) H Q=Q (.bl (if c then !decide (i=j) else decide (i=j))) H:=rfl
theorem EL:h6 c (.str x) (.str y) H Q=Q (.bl (if c then !decide (x=y) else decide (x=y))) H:=rfl
theorem C1:h6 c (.bl k) (.bl k') H Q=Q (.bl (if c then !decide (k=k') else decide (k=k'))) H:=rfl
theorem Fj:h6 c (.ref a) (.ref b) H Q = ∃xs ys,H a=some (.lst xs)/\H b=some (.lst ys)/\xs.all zY=true/\ys.all zY=true/\Q (.bl (if c then !eqL xs ys else eqL xs ys)) H:=rfl
theorem HY:ie (.int i) (.int j) H Q=Q (.int (i+j)) H:=rfl
theorem Dt:ie (.str x) (.str y) H Q=(x.length+y.length<=sizeLine/\Q (.str (x++y)) H):=rfl
theorem IR:ie (.ref a) (.ref b) H Q = ∃xs zs,H a=some (.lst xs)/\H b=some (.lst zs)/\xs.length+zs.length<=sizeLine/\∀p H2,New H p (.lst (xs++zs)) H2->Q (.ref p) H2:=rfl
end
section
variable {X:Cx}{e:Mw}{es:List Mw}{st:Stmt}{t ta tb tv:TE}{tA:TA}{r:R2}{f:Value->Value->Sem Value}{C:Addr}{m:Str}{sp:Sp}{E:XK}{Ex:Addr->St->Hp->Prop}{c:Bool}
theorem clE(h:W (PE X e t)):W (PE X e (clT t)):=⟨λGo s σ H Q I=>x3e λR q hw=>thn (h.h Go s σ H R I q) λ_ _=>x5e λv H' a b c=>⟨v,H',a,b,hw _ _ c⟩⟩
theorem clO(h:OpR X f r):OpR X f (clR r):=λGo s σ H x y v u Q I rx ry=>x3e λR q hw=>thn (h Go s σ H x y v u R I rx ry q) λ_ _=>x5e λv H' a b c=>⟨v,H',a,b,hw _ _ c⟩
theorem clP(h:W (PA X es tA)):W (PA X es (clA tA)):=⟨h.h.any⟩
theorem peD{t':TE}(h:W (PE X e t))(w:∀σ H Q,t' σ H Q->t σ H Q):W (PE X e t'):=⟨λGo s σ H Q I q=>h.h Go s σ H Q I (w σ H Q q)⟩
theorem tD(h:W (PT X e (kW (tOp (clR r) (clT ta) (clT tb))))):W (PT X e (tF (tOp r ta tb))):=⟨λGo s σ H Q I q=>h.h Go s σ H Q I ⟨_,q,λx H1 q1=>⟨_,q1,λy H2 q2=>⟨_,q2,λz H3 q3=>q3.ex⟩⟩⟩⟩
theorem anD(h:W (PE X e (pF (clT ta) tb))):W (PE X e (x8 ta tb)):=peD h λσ H Q q=>⟨_,q,λx H1 q1=>q1.ex⟩
theorem ntD(h:W (PE X e (ou (clT ta)))):W (PE X e (rJ ta)):=peD h λσ H Q q=>⟨_,q,λx H1 q1=>q1.ex⟩
theorem mD(h:W (PE X e (eP C m sp [] E (clT ta) (clA tA)))):W (PE X e (mr C m sp E ta tA)):=peD h λσ H Q q=>⟨_,q,λx H1 q1=>by
 obtain ⟨a,rfl,dx,fs,h1,h2,q2⟩:=q1.ex;exact ⟨a,dx,fs,rfl,h1,h2,_,q2,λvs H2 q3=>by dsimp only;rw [Nw];exact q3⟩⟩
theorem m0D(h:W (PE X e (eP C m sp [] E (clT ta) bQ))):W (PE X e (mr C m sp E ta bQ)):=peD h λσ H Q q=>⟨_,q,λx H1 q1=>by
 obtain ⟨a,rfl,dx,fs,h1,h2,q2⟩:=q1.ex;exact ⟨a,dx,fs,rfl,h1,h2,q2⟩⟩
theorem mXD(h:W (PE X e (eS C m sp [] Ex (clT ta) (clA tA)))):W (PE X e (qG C m sp Ex ta tA)):=peD h λσ H Q q=>⟨_,q,λx H1 q1=>by
 obtain ⟨a,rfl,dx,fs,h1,h2,q2⟩:=q1.ex;exact ⟨a,dx,fs,rfl,h1,h2,_,q2,λvs H2 q3=>by dsimp only;rw [Nw];exact q3⟩⟩
theorem gy(h:W (PE X e (eS C m sp [] Ex (clT ta) bQ))):W (PE X e (qG C m sp Ex ta bQ)):=peD h λσ H Q q=>⟨_,q,λx H1 q1=>by
 obtain ⟨a,rfl,dx,fs,h1,h2,q2⟩:=q1.ex;exact ⟨a,dx,fs,rfl,h1,h2,q2⟩⟩
theorem caD(h:W (PE X e (jU sp [] E (clA tA)))):W (PE X e (pR sp E tA)):=peD h λσ H Q q=>⟨_,q,λvs H2 q3=>by dsimp only;rw [Nw];exact q3⟩
theorem cXD(h:W (PE X e (jw sp [] Ex (clA tA)))):W (PE X e (rR sp Ex tA)):=peD h λσ H Q q=>⟨_,q,λvs H2 q3=>by dsimp only;rw [Nw];exact q3⟩
theorem fD(h:W (PE X e (ji C (clT ta) m))):W (PE X e (tM C ta m)):=peD h λσ H Q q=>⟨_,q,λx H1 q1=>by
 obtain ⟨a,rfl,dx,fs,v,q2⟩:=q1.ex;exact ⟨a,dx,fs,v,rfl,q2⟩⟩
theorem sfD(h:W (PS X st (lj C (clT ta) (clT tv) m))):W (PS X st (sE C ta tv m)):=⟨λGo s σ H D I q=>h.h Go s σ H D I ⟨_,q,λy H1 q1=>⟨_,q1,λx H2 q2=>by
 obtain ⟨a,rfl,dx,fs,q3⟩:=q2.ex;exact ⟨a,dx,fs,rfl,q3⟩⟩⟩⟩
theorem liD(h:W (PIc c X tg e (iz X.K (clT ta)))):W (PIc c X tg e (vJ X.K ta)):=⟨λGo s σ H R I q=>h.h Go s σ H R I ⟨_,q,λx H1 q1=>q1.ex⟩⟩
theorem gsD{ts:List Mw}{g:TG}{u:TGs}(h:W (PGs X ts (pb g u))):W (PGs X ts (rV g u)):=⟨λGo s σ H vs us Q I rr q=>h.h Go s σ H vs us Q I rr (by cases vs with|nil=>exact q.elim|cons v r=>exact ⟨v,r,rfl,q⟩)⟩
theorem c8:IxR X lM:=zZ.weak λx y H Q h=>by
 cases x<;>cases y<;>first|exact h.elim|skip
 .rename_i a i;exact (lP (x:=a) (i:=i)).mpr h
 .rename_i a i;exact (gE (a:=a) (i:=i)).mpr h
theorem cO:zN X (.builtin "len") lW:=fK.weak λxs H Q h=>by
 match xs,h with
 | [.ref a],h=>exact (pA (a:=a)).mpr h
 | [.str x],h=>exact (sY (x:=x)).mpr h
theorem oE{f:Value->Value->Sem Value}(h:OpR X f (uEq c)):OpR X f (h6 c):=h.weak λx y H Q h=>by
 cases x<;>cases y<;>first|exact h.elim|exact qo.mpr h|exact kB.mpr h|exact vD.mpr h|exact w9.mpr h
theorem eO:OpR X (Nl .Add) ie:=aS.weak λx y H Q h=>by
 cases x<;>cases y<;>first|exact h.elim|exact fe.mpr h|exact yj.mpr h|exact eI.mpr h
end
end L2
namespace K61
open PySem PySem.Spec PyProof.Rows L2
open PySem.W (Frag OpenLaw WalkO codeHd_of_K findIn mroIn tabIn)
variable{X:Cx}{H H' H1 H2:Hp}{v:V}{Q:VK}{i m n:Int}{P a b c dx f q sl wl x:Addr}{fd:Nc}{y z:Str}{l ns:List Int}{cm st:Bool}{X7 xs:List V}{F as cells shc:List Addr}{o:HO}{j:Nat}{α β:Type}{lf:Option Int}{kvs:List (Int×V)}
local macro_rules | `(tactic| simp_all only [$ls,*])=>do
 let l<-("j9 tC vX tOr vn tIf p9 lX rM nA pa dX Et Kj iX xi ipI tOp tUn bQ kG xh uH ur jU kO jw tCB lV fe yj eI xA Ea gE lP pA sY Bf wQ Ig qo kB vD w9 FL C2 Kf mI Aw FK K0 EM JD wZ HH Bx B3 Jk JU ly IB HZ Gy Iy rF Hw G6 A9 LD Ej AG Lo Dw Df bW Pp Option.bind_none Option.join_some pB and_assoc exists_and_left exists_and_right exists_eq_left' exists_eq_left exists_eq exists_eq' exists_eq_right exists_eq_right' and_true true_and and_false false_and or_false false_or exists_false exists_const Ms.injEq V.int.injEq V.str.injEq V.ref.injEq V.bl.injEq V.ty.injEq HO.lst.injEq HO.tup.injEq HO.ins.injEq List.cons.injEq reduceCtorEq reduceIte Nz List.getElem?_cons_zero List.getElem?_cons_succ List.set_cons_zero List.set_cons_succ Qz Qt Nw MW Oz L2.start Jf JL Mg Nat.reduceSub Nat.reduceAdd Ky IF rn BD Hr ET Hv uc Kn BE uu mK tSl v7 AW tS rp xk Cw sW vm pI yE Fv fR Hs C4 yZ GT HI AO y9 CC KN Ck DT wa tB J0 Jw o8 An x3 uY B1 Fh uG yS JW C5 CU Ft EK FW IQ EG Lh xX IZ GO Ca Fi LC GZ DA Lp BN Iu Hg Kp II A1 Lc uX Cm JB Ac Lx ub Lj Aq Kt Ek mx J5 AA Bi E9 J1 Fz Kv Ci i3 I0 Ab tF x8 rJ mr qG pR rR tM sE vJ IP FB Lw Jn CY xV KH Eo EL C1 Fj HY Dt IR".splitOn " ").toArray.mapM fun s=>`(Lean.Parser.Tactic.simpLemma|$(Lean.mkIdent s.toName):ident)
 `(tactic| try simp only [$l,*,$ls,*])
def top(i:Nat):Stmt:=PySem.Challenge.pw_cleanrows_k61_worths_told.main.body.getD i (.Pass ⟨0,0,0,0⟩)
structure zi where
 CleanError:Addr
 NoRow:Addr
 NoDisk:Addr
 Full:Addr
 Stopped:Addr
 NoFile:Addr
 NoPlace:Addr
 HeldAlready:Addr
 NotHeld:Addr
 Disk:Addr
 Files:Addr
 State:Addr
 t__law_rows:Addr
 PARTS:Addr
 PARTS_put:Addr
 PARTS_cut:Addr
 PARTS_hold:Addr
 PARTS_free:Addr
 PARTS_carry:Addr
variable{A:zi}
structure Txt(w:Mf)(K:Frag)(mg:Str->Option Value)(A:zi):Prop where
 mg_PARTS:mg "PARTS"=some (.ref A.PARTS)
 d_PARTS:j6 w K A.PARTS [("put",A.PARTS_put),("cut",A.PARTS_cut),("hold",A.PARTS_hold),("free",A.PARTS_free),("carry",A.PARTS_carry)]
 t_PARTS_put:∀H:Hp,SqT K H A.PARTS_put [.str "number",.str "number",.str "end",.str "name",.str "number",.str "word"]
 t_PARTS_cut:∀H:Hp,SqT K H A.PARTS_cut [.str "number",.str "name",.str "number"]
 t_PARTS_hold:∀H:Hp,SqT K H A.PARTS_hold [.str "number",.str "name"]
 t_PARTS_free:∀H:Hp,SqT K H A.PARTS_free [.str "number",.str "name"]
 t_PARTS_carry:∀H:Hp,SqT K H A.PARTS_carry [.str "number",.str "number",.str "word"]
 n_abs:mg "abs"=none
 n_all:mg "all"=none
 n_bool:mg "bool"=none
 n_dict:mg "dict"=none
 n_divmod:mg "divmod"=none
 n_enumerate:mg "enumerate"=none
 n_int:mg "int"=none
 n_isinstance:mg "isinstance"=none
 n_len:mg "len"=none
 n_list:mg "list"=none
 n_max:mg "max"=none
 n_min:mg "min"=none
 n_ord:mg "ord"=none
 n_range:mg "range"=none
 n_sorted:mg "sorted"=none
 n_str:mg "str"=none
 n_tuple:mg "tuple"=none
 n_zip:mg "zip"=none
 c_FIGURES:∃u,mg "FIGURES"=some u/\zp (.str "0123456789") u
 c_LETTERS:∃u,mg "LETTERS"=some u/\zp (.str "abcdefghijklmnopqrstuvwxyz") u
 c_MOST_FIGURES:∃u,mg "MOST_FIGURES"=some u/\zp (.int 18) u
 c_MOST_LETTERS:∃u,mg "MOST_LETTERS"=some u/\zp (.int 6) u
 c_MOST_SIGNS:∃u,mg "MOST_SIGNS"=some u/\zp (.int 20) u
 c_MODULUS:∃u,mg "MODULUS"=some u/\zp (.int 65521) u
 c_LEAST_STRETCHES:∃u,mg "LEAST_STRETCHES"=some u/\zp (.int 3) u
 c_MOST_STRETCHES:∃u,mg "MOST_STRETCHES"=some u/\zp (.int 16) u
 c_LEAST_PLACES:∃u,mg "LEAST_PLACES"=some u/\zp (.int 2) u
 c_MOST_PLACES:∃u,mg "MOST_PLACES"=some u/\zp (.int 32) u
 mg_CleanError:mg "CleanError"=some (.ref A.CleanError)
 mg_NoRow:mg "NoRow"=some (.ref A.NoRow)
 mg_NoDisk:mg "NoDisk"=some (.ref A.NoDisk)
 mg_Full:mg "Full"=some (.ref A.Full)
 mg_Stopped:mg "Stopped"=some (.ref A.Stopped)
 mg_NoFile:mg "NoFile"=some (.ref A.NoFile)
 mg_NoPlace:mg "NoPlace"=some (.ref A.NoPlace)
 mg_HeldAlready:mg "HeldAlready"=some (.ref A.HeldAlready)
 mg_NotHeld:mg "NotHeld"=some (.ref A.NotHeld)
 mg_Disk:mg "Disk"=some (.ref A.Disk)
 mg_Files:mg "Files"=some (.ref A.Files)
 mg_State:mg "State"=some (.ref A.State)
 ek_CleanError:bM K A.CleanError
 ek_NoRow:bM K A.NoRow
 ek_Full:bM K A.Full
 ek_Stopped:bM K A.Stopped
 ms_NoRow:mroIn K A.NoRow (.ref A.NoRow)=some true
 ms_Stopped:mroIn K A.Stopped (.ref A.Stopped)=some true
 cl_Disk:Cls K A.Disk
 na_Disk_at_sides:bb K A.Disk "at_sides"
 na_Disk_counted:bb K A.Disk "counted"
 na_Disk_has_stopped:bb K A.Disk "has_stopped"
 na_Disk_left:bb K A.Disk "left"
 na_Disk_width:bb K A.Disk "width"
 na_Disk_written:bb K A.Disk "written"
 cl_Files:Cls K A.Files
 na_Files_births:bb K A.Files "births"
 na_Files_kept:bb K A.Files "kept"
 cl_State:Cls K A.State
 na_State_next_mark:bb K A.State "next_mark"
 na_State_next_row:bb K A.State "next_row"
 na_State_own_files:bb K A.State "own_files"
 na_State_spot_of:bb K A.State "spot_of"
def de:Nat->List Nat->Nat
 | _,[]=>0
 | k,c::l=>c*k+de (k+1) l
def cg(z:Str):Int:=((de 1 (sg z) % 65521:Nat):Int)
def cR(z:Str):Str:=z++(toString (cg z):Str)++";"
def aN(z y:Str)(m:Int):Bool:=decide (1<=(z.length:Int))&&decide ((z.length:Int)<=m)&&(sg z).all λc=>(sg y).contains c
def FIG:Str:="0123456789"
def LET:Str:="abcdefghijklmnopqrstuvwxyz"
def bT(z:Str):Bool:=aN z FIG 18&&(decide (z="0") || !decide (tx ((sg z).take 1)="0"))
def cF(z:Str):Bool:=aN z LET 6
def dB(z:Str):Bool:=aN z (LET++FIG) 20
def aR(k z:Str):Option V :=
 if k="number"/\bT z=true then some (.int ((OL z).getD 0))
 else if k="end"/\(z="0"\/z="1") then some (.bl (decide (z="1")))
 else if k="name"/\cF z=true then some (.str z)
 else if k="word"/\dB z=true then some (.str z)
 else none
def dv(z:Str):Option (List Str) :=
 if z="put" then some ["number","number","end","name","number","word"]
 else if z="cut" then some ["number","name","number"]
 else if z="hold" then some ["number","name"]
 else if z="free" then some ["number","name"]
 else if z="carry" then some ["number","number","word"]
 else none
def aC:List Str->List Str->Option (List V)
 | k::ks,z::zs=>(aR k z).bind λv=>(aC ks zs).map (v::·)
 | _,_=>some []
def cu(ws:List Str):Option (List V):=match ws with
 | []=>none
 | w::zs=>(dv w).bind λks=>if zs.length=ks.length then (aC ks zs).map (.str w::·) else none
def cq(z:Str):Str:=M1 z none (some (Ox z (c1 32)+1))
def ef(z:Str):Option Str:=if z=cR (cq z) then some (cq z) else none
def bG(z:Str):Option (List V):=(ef z).bind λb=>cu (MN (M1 b none (some (-1))) (c1 32))
def az:V->Str
 | .bl b=>if b then "1" else "0"
 | .int i=>toString i
 | .str z=>z
 | _=>""
inductive cM:V->Prop
 | bl (b:Bool):cM (.bl b)
 | int (i:Int):0<=i->i<10 ^ 18->cM (.int i)
 | str (z:Str):asc z=true->z.length<=100->cM (.str z)
def zT(xs:List V):List Nat:=(xs.map λv=>sg (az v)++[32]).flatten
def aM(xs:List V):Str:=cR (tx (zT xs))
def jh:Sp:=λvs H Q _=>∃z y m,vs=[.str z,.str y,.int m]/\asc z=true/\z.length<=100000/\∀H',zl H H'->Q (.bl (aN z y m)) H'
def gI(p:Str->Bool):Sp:=λvs H Q _=>∃z,vs=[.str z]/\asc z=true/\z.length<=100000/\∀H',zl H H'->Q (.bl (p z)) H'
def vE:Sp:=λvs H Q _=>∃z,vs=[.str z]/\asc z=true/\z.length<=100000/\∀H',zl H H'->Q (.int (cg z)) H'
def jg:Sp:=λvs H Q _=>∃z,vs=[.str z]/\asc z=true/\z.length<=100000/\∀H',zl H H'->Q (.str (cR z)) H'
def pV(o:Option Str):V:=match o with|some b=>.str b|none=>.non
inductive eA(H:Hp):V->Prop
 | non:eA H .non
 | bl (b:Bool):eA H (.bl b)
 | int (i:Int):eA H (.int i)
 | lst {a:Addr}{xs:List V}:H a=some (.lst xs)->eA H (.ref a)
 | tup {a:Addr}{xs:List V}:H a=some (.tup xs)->eA H (.ref a)
 | dic {a:Addr}{kvs:List (Key×V)}:H a=some (.dK kvs)->eA H (.ref a)
theorem Jx(t:eA H v)(q:Q (.bl false) H):kK X.K [v,.ty "str"] H Q:=by
 cases t with
 | non=>exact ⟨_,_,_,_,_,rfl,rfl,.of .non,rfl,q⟩
 | bl b=>exact ⟨_,_,_,_,_,rfl,rfl,.of (.bl b),rfl,q⟩
 | int i=>exact ⟨_,_,_,_,_,rfl,rfl,.of (.int i),rfl,q⟩
 | lst h=>exact ⟨_,_,_,_,_,rfl,rfl,.of (.lst h),rfl,q⟩
 | tup h=>exact ⟨_,_,_,_,_,rfl,rfl,.of (.tup h),rfl,q⟩
 | dic h=>exact ⟨_,_,_,_,_,rfl,rfl,.of (.dK h),rfl,q⟩
def tW:Sp:=λvs H Q _=>(∃z,vs=[.str z]/\asc z=true/\z.length<=100000/\∀H',zl H H'->Q (pV (ef z)) H')\/∃v,vs=[v]/\eA H v/\Q .non H
def mV:Sp:=λvs H Q _=>∃v,vs=[v]/\cM v/\Q (.str (az v)) H
def ye:Sp:=λvs H Q _=>∃a xs,vs=[.ref a]/\(H a=some (.lst xs)\/H a=some (.tup xs))/\xs.length<=10/\(∀v∈xs,cM v)/\∀H',zl H H'->Q (.str (aM xs)) H'
def rL(A:zi):Sp:=λvs H Q E=>∃k z,vs=[.str k,.str z]/\asc z=true/\z.length<=100000/\∀H',zl H H'->(∀v,aR k z=some v->Q v H')/\(aR k z=none->E (.ref A.NoRow) none H')
def yN(A:zi):Sp:=λvs H Q E=>∃a ws,vs=[.ref a]/\H a=some (.lst (ws.map V.str))/\ws≠[]/\ws.length<=100001/\(∀z∈ws,asc z=true/\z.length<=100000) /\
 (∀xs,cu ws=some xs->∀p H',zl H H'->H' p=some (.tup xs)->Q (.ref p) H')/\(cu ws=none->∀H',zl H H'->E (.ref A.NoRow) none H')
def vC(A:zi):Sp:=λvs H Q E=>(∃v,vs=[v]/\eA H v/\E (.ref A.NoRow) none H)\/∃z,vs=[.str z]/\asc z=true/\z.length<=100000 /\
 (∀xs,bG z=some xs->∀p H',zl H H'->H' p=some (.tup xs)->Q (.ref p) H')/\(bG z=none->∀H',zl H H'->E (.ref A.NoRow) none H')
theorem aK{n:Nat}(h:n<=1000000):n<=sizeLine:=Mp h (by decide)
theorem aF{n:Nat}(h:n<=1000000):n<sizeLine:=MY h (by decide)
abbrev kM:Stmt:=top 19
abbrev ny:Stmt:=top 20
abbrev o7:Stmt:=top 21
abbrev nF:Stmt:=top 22
section
variable {P:LV}{w:Mf}{K:Frag}{mg:Str->Option Value}{base:Heap}{A:zi}
structure Iq(H:Hp)(z y:Str)(i:Nat)(τ:L2.St)(ys:List V)(H':Hp):Prop where
 ex:∃t,τ=[t,some (V.str y)]
 ys:ys=(((sg z).take i).map λc=>(sg y).contains c).map V.bl
 same:H'=H
theorem De:zw ["text","signs","most"] ["text","signs","most"] (zm kM):=fsc
theorem JI:aQ { kind:=.function,names:=[(vv ".0",.local),(vv "sign",.local),(vv "signs",.free)],isGenerator:=false,isCoroutine:=false,more:=[] } (zm kM).names ["text","signs","most"] ["sign","signs"] [none,some 1]=true:=by decide +kernel
theorem JC:(["sign","signs"]:List Str).Nodup:=by decide +kernel
theorem BG(F:Fun K "is_made_of" "is_made_of" kM f fd)(T:Txt w K mg A):zo P w K mg base CX0 true 1 f fd ["text","signs","most"] jh:=by
 refine F.ok De (λvs H Q E h=>?_) (λZ1 Ar outer s H vs Q E hr h=>?_)
 .obtain ⟨z,y,m,rfl,_⟩:=h;rfl
 .obtain ⟨z,y,m,rfl,ha,hz,q⟩:=h;have hu:_<cLine:=Mi (zQ hr);refine ⟨_,(W.h (zh (zx (anD (kh (clE (uv (oI0 jc) (oI0 jc) zj (zK cO rfl T.n_len Mr (za (zb 0) zc)) (zb 2))) (iH (zK (xl rfl) rfl T.n_all boot_all (za (cy (λ_=>rfl) (ar.of JI) (Ct (zb 0)) (λ_ _ _ _ _=>(zB (i:=0) JC rfl (LQ rfl))) (λ_ _ _ _ _=>cN) (λ_ _ _ _ _=>(dI (oO hu) (zb 0) (zb 1) rfl))) zc)))))))),?_⟩;simp_all only [aK (Mp hz (by decide))];refine aj (λh1=>aj (λh2=>?_) λh2=>?_) λh1=>?_
  .refine ⟨ha,zS.str (Iq H z y) (λi τ ys H' I=>?_) ⟨⟨_,rfl⟩,by simp,rfl⟩ ?_ ?_⟩
   .rw [I.ys,KE,KE,Nj];exact aF (by rw [zX];lia)
   .intro N i c τ ys H' hc I hN;obtain ⟨t,rfl⟩:=I.ex;simp_all only [];rw [Ef];have Yy:(sg z)[i]?=some c:=by simpa [sg] using hc
    exact hN _ _ _ ⟨⟨_,rfl⟩,by rw [I.ys,MH,Yy];simp,I.same⟩
   .intro τ ys H' I p H2 n2;simp_all only [];refine ⟨_,by rw [n2.at_,I.ys],?_⟩;have hs:zl H H2:=by have:=n2.same;rw [I.same] at this;exact this
    have e:aN z y m=(((sg z).take z.cps.size).map λc=>(sg y).contains c).all id:=by
     unfold aN;rw [h1,h2,Mj (by rw [zX];exact we _),List.all_map];rfl
    rw [<- e];exact q H2 hs
  .have e:aN z y m=false:=by unfold aN;rw [N2.mpr h2];simp
   rw [<- e];exact q H (zl.refl _)
  .have e:aN z y m=false:=by unfold aN;rw [N2.mpr h1];simp
   rw [<- e];exact q H (zl.refl _)
theorem Fs:zw ["text"] ["text"] (zm o7):=fsc
theorem Eg(F:Fun K "is_name" "is_name" o7 f fd)(T:Txt w K mg A)(ZY:GF P w K mg base true 1 "is_made_of" ["text","signs","most"] jh):zo P w K mg base CX0 true 2 f fd ["text"] (gI cF):=by
 refine F.ok Fs (λvs H Q E h=>?_) (λZ1 Ar outer s H vs Q E hr h=>?_)
 .obtain ⟨z,rfl,_⟩:=h;rfl
 .obtain ⟨z,rfl,ha,hz,q⟩:=h;refine ⟨_,(W.h (zh (zx (caD (zt ZY hr rfl (clP (za (zb 0) (za (cT rfl T.c_LETTERS) (za (cT rfl T.c_MOST_LETTERS) zc))))))))),?_⟩;simp_all only [];exact ⟨z,_,_,rfl,ha,hz,q⟩
theorem KY:zw ["text"] ["text"] (zm nF):=fsc
theorem A2(F:Fun K "is_word" "is_word" nF f fd)(T:Txt w K mg A)(ZY:GF P w K mg base true 1 "is_made_of" ["text","signs","most"] jh):zo P w K mg base CX0 true 2 f fd ["text"] (gI dB):=by
 refine F.ok KY (λvs H Q E h=>?_) (λZ1 Ar outer s H vs Q E hr h=>?_)
 .obtain ⟨z,rfl,_⟩:=h;rfl
 .obtain ⟨z,rfl,ha,hz,q⟩:=h;refine ⟨_,(W.h (zh (zx (caD (zt ZY hr rfl (clP (za (zb 0) (za (zz eO (cT rfl T.c_LETTERS) (cT rfl T.c_FIGURES)) (za (cT rfl T.c_MOST_SIGNS) zc))))))))),?_⟩;simp_all only [];exact ⟨by decide,z,_,_,rfl,ha,hz,q⟩
theorem Ak:zw ["text"] ["text"] (zm ny):=fsc
theorem FP(F:Fun K "is_number_text" "is_number_text" ny f fd)(T:Txt w K mg A)(ZY:GF P w K mg base true 1 "is_made_of" ["text","signs","most"] jh):zo P w K mg base CX0 true 2 f fd ["text"] (gI bT):=by
 refine F.ok Ak (λvs H Q E h=>?_) (λZ1 Ar outer s H vs Q E hr h=>?_)
 .obtain ⟨z,rfl,_⟩:=h;rfl
 .obtain ⟨z,rfl,ha,hz,q⟩:=h;have hu:_<cLine:=Mi (zQ hr);refine ⟨_,(W.h (zg (zR (cQ (aX (caD (zt ZY hr rfl (clP (za (zb 0) (za (cT rfl T.c_FIGURES) (za (cT rfl T.c_MOST_FIGURES) zc))))))))
   (zh (zx bO))
   aa)
   (zh (zx (Gg (dI (oE (bw hu)) (zb 0) zI (zF _)) (iH (dI (oE (eG hu)) (zH c8 (zb 0) zj (λ_ _=>rfl)) zI (zF _)))))))),?_⟩
  simp_all only [];refine ⟨z,_,_,rfl,ha,hz,λH1 s1=>?_⟩;simp_all only [aK (Mp hz (by decide))];refine aj (λh1=>?_) λh1=>?_
  .have e:bT z=false:=by
    unfold bT FIG;rw [show aN z "0123456789" 18=false by simpa using h1];rfl
   rw [<- e];exact q H1 s1
  .have h1:aN z "0123456789" 18=true:=by simpa using h1
   refine aj (λh2=>?_) λh2=>?_
   .have e:bT z=true:=by
     unfold bT FIG;rw [h1,h2];rfl
    rw [<- e];exact q H1 s1
   .have hl:0<(sg z).length:=by
     rw [zX];unfold aN at h1;rw [Mu,Mu,decide_eq_true_eq] at h1;lia
    have e0:(sg z).take 1=[(sg z)[0]]:=by
     generalize sg z=l at hl;cases l with
     | nil=>cases hl
     | cons x l=>rfl
    refine ⟨(sg z)[0],cB (xs:=sg z) (j:=0) (il hl),?_⟩;have e:bT z = !decide (({ cps:=#[(sg z)[0]] }:Str)="0"):=by
     unfold bT FIG;rw [h1,N2.mpr h2,e0];rfl
    rw [<- e];exact q H1 s1
end
abbrev pW:Stmt:=top 30
abbrev jT:Stmt:=top 29
abbrev oU:Stmt:=top 26
abbrev nj:Stmt:=top 27
abbrev oG:Stmt:=top 28
section
variable {P:LV}{w:Mf}{K:Frag}{mg:Str->Option Value}{base:Heap}{A:zi}
theorem yB:∀(k:Nat)(a b:List Nat),de k (a++b)=de k a+de (k+a.length) b
 | k,[],b=>by simp [de]
 | k,c::a,b=>by
  show c*k+de (k+1) (a++b)=c*k+de (k+1) a+_;rw [yB (k+1) a b,MW,show k+1+a.length=k+(a.length+1) by lia];lia
structure EV(H:Hp)(z:Str)(i:Nat)(σ:L2.St)(H':Hp):Prop where
 ex:∃a b,σ=[some (V.str z),some (.int (de 1 ((sg z).take i):Nat)),a,b]
 same:zl H H'
theorem iJ:zw ["text","total","place","sign"] ["text"] (zm oU):=fsc
theorem FQ(F:Fun K "sum_of" "sum_of" oU f fd)(T:Txt w K mg A):zo P w K mg base CX0 true 1 f fd ["text"] vE:=by
 refine F.ok iJ (λvs H Q E h=>?_) (λZ1 Ar outer s H vs Q E hr h=>?_)
 .obtain ⟨z,rfl,_⟩:=h;rfl
 .obtain ⟨z,rfl,ha,hz,q⟩:=h;refine ⟨_,(W.h (zg (zA (i:=1) iJ.nd rfl (LQ rfl) zj)
   (zg (cb Nb.never (λ_=>rfl) (Ei rfl T.n_enumerate (zb 0)) (eK (n:=2) (gsD (zU (zB (i:=2) iJ.nd rfl (LQ rfl)) (gsD (zU (zB (i:=3) iJ.nd rfl (LQ rfl)) bS)))))
   (zh (Kr (i:=1) iJ.nd rfl (LQ rfl) (zz dP (zK JJ rfl T.n_ord boot_ord (za (zb 3) zc)) (zb 2)) DS)))
   (zh (zx (zz (oI eY) (zb 1) (cT rfl T.c_MODULUS))))))),?_⟩
  simp_all only [];refine ⟨ha,aB.enumS (EV H z) ⟨⟨_,_,rfl⟩,zl.refl _⟩ ?_ ?_⟩
  .rintro i c p σ H' hc ⟨⟨a,b,rfl⟩,sm⟩ hp;have Yy:(sg z)[i]?=some c:=by simpa [sg] using hc
   simp_all only [];refine ⟨p,_,rfl,SqT.of zy,rfl,?_⟩;simp_all only [];refine ⟨rfl,.inl ⟨by simp;lia,?_⟩,⟨⟨some (.int ((i+1:Nat):Int)),some (.str ⟨#[c]⟩),?_⟩,?_⟩⟩
   .have hc2:c<128:=by
     have h3:=LX Yy;rw [bJ] at ha;simpa using Mz.mp ha c h3
    simp;lia
   .rw [MH,Yy,yB];have hi:i<(sg z).length:=(LH.mp Yy).1;rw [Nj,QI (by lia)];simp [de];rw [Int.add_comm 1 (i:Int)]
   .exact sm.trans λb o e=>by rw [ze (zC e hp)];exact e
  .rintro σ H' ⟨⟨a,b,rfl⟩,sm⟩;simp_all only [];refine ⟨by decide,?_⟩;have e:cg z=((de 1 ((sg z).take z.cps.size):Nat):Int) % 65521:=by
    unfold cg;rw [Mj (by rw [zX];exact we _)];lia
   rw [<- e];exact q H' sm
theorem yw:(" ":Str)=c1 32:=by decide +kernel
theorem sM{n:Nat}(h:n<2 ^ 64):n.log2<1920:=by
 by_cases h0:n=0
 .subst h0;decide
 .exact lt_trans ((Nat.log2_lt h0).mpr h) (by decide)
theorem eJ(z:Str):0<=cg z/\cg z<65521:=by unfold cg;lia
theorem sC(m:Nat)(h:0<m):∃c r,(QK 10 m).map Char.toNat=c::r/\49<=c:=by
 induction m using Nat.strongRecOn with
 | _ m ih =>
  by_cases h1:m<10
  .rw [Nat.toDigits_of_lt_base h1];refine ⟨_,[],rfl,?_⟩;have:∀d:Nat,d<10->0<d->49<=(Nat.digitChar d).toNat:=by decide
   exact this m h1 h
  .have hm:m % 10<10:=Nat.mod_lt m (by decide);have t:QK 10 (m / 10)++QK 10 (m % 10)=QK 10 (10*(m / 10)+m % 10):=Nat.toDigits_append_toDigits (by decide) (by lia) hm;rw [Nat.div_add_mod] at t;obtain ⟨c,r,e,hc⟩:=ih (m / 10) (by lia) (by lia);rw [<- t,Mq,e];exact ⟨c,_,rfl,hc⟩
structure Ba(i:Int):Prop where
 dig:∀c∈sg (toString i:Str),48<=c/\c<=57
 one:1<=(sg (toString i:Str)).length
 most:(sg (toString i:Str)).length<=18
 back:OL (toString i:Str)=some i
 head:(toString i:Str)="0"\/∃c r,sg (toString i:Str)=c::r/\49<=c
theorem fX(h0:0<=i)(h1:i<10 ^ 18):Ba i:=by
 obtain ⟨m,rfl⟩:=Nu h0;have hd:∀c∈sg (toString ((m:Nat):Int):Str),48<=c/\c<=57:=by
  intro c hc;rw [iF] at hc;obtain ⟨ch,Xr,e⟩:=NK.mp hc;have r:=Nat.isDigit_of_mem_toDigits (by decide) (by decide) Xr;rw [<- e];exact PyProof.Rows.digit_range r
 have hn:1<=(sg (toString ((m:Nat):Int):Str)).length:=by
  rcases Nat.eq_zero_or_pos m with h|h
  .rw [h,iF];decide
  .obtain ⟨c,r,e,_⟩:=sC m h;rw [iF,e];simp
 have hl:(sg (toString ((m:Nat):Int):Str)).length<=18:=by
  have e:(Nat.repr m).length<=18:=(Nat.length_repr_le_iff (by decide)).mpr (by lia);rw [zX];show (vv (toString ((m:Nat):Int))).length<=18;rw [PySem.ofString_length];exact e
 refine ⟨hd,hn,hl,?_,?_⟩
 .have e:=intText_digits (x:=(toString ((m:Nat):Int):Str)) hd (λz=>by rw [show sg (toString ((m:Nat):Int):Str)=[] from z] at hn;cases hn) (by rw [<- zX];lia);have e2:(toString ((m:Nat):Int):Str).cps.toList=(QK 10 m).map Char.toNat:=iF m;rw [e2,PySem.W.KIN.val_back] at e;exact e
 .rcases Nat.eq_zero_or_pos m with h|h
  .left;rw [h];rfl
  .obtain ⟨c,r,e,hc⟩:=sC m h;exact .inr ⟨c,r,by rw [iF,e],hc⟩
theorem vq(h0:0<=i)(h1:i<10 ^ 18):(toString i:Str).length<=19:=by
 have e:=int_text_length_le10 (a:=i) (k:=18) (by decide) (by lia);show (vv (toString i)).length<=19;rw [PySem.ofString_length];exact e
theorem GR:zw ["body"] ["body"] (zm nj):=fsc
theorem AE(F:Fun K "summed" "summed" nj f fd)(T:Txt w K mg A)(Yn:GF P w K mg base true 1 "sum_of" ["text"] vE):zo P w K mg base CX0 true 2 f fd ["body"] jg:=by
 refine F.ok GR (λvs H Q E h=>?_) (λZ1 Ar outer s H vs Q E hr h=>?_)
 .obtain ⟨z,rfl,_⟩:=h;rfl
 .obtain ⟨z,rfl,ha,hz,q⟩:=h;refine ⟨_,(W.h (zh (zx (Gm (nM (vZ (zb 0)) (nM (vZ (caD (zt Yn hr rfl (clP (za (zb 0) zc))))) (nM zI ED))))))),?_⟩;simp_all only [];have hs:=eJ z;have hn:=vq hs.1 (by lia);refine ⟨aK (by lia),by rw [Str.empty_append];exact aK (by lia),z,rfl,ha,hz,λH' s1=>?_⟩;simp_all only [];rw [Str.empty_append];have l1:(z++(toString (cg z):Str)).length<=1000000:=by rw [OK];lia
  have l2:(z++(toString (cg z):Str)++";").length<=1000000:=by
   rw [OK,OK];have:(";":Str).length=1:=by decide
   lia
  exact ⟨sM (by lia),aK l1,aK l2,aK l2,q H' s1⟩
theorem lU(l:List Nat):asc (tx l)=l.all (· < 128):=by rw [bJ,ck]
theorem oR(h:asc z=true){l:List Nat}(hl:∀c∈l,c∈sg z):asc (tx l)=true:=by
 rw [lU,Mz];rw [bJ,Mz] at h;exact λc hc=>h c (hl c hc)
theorem uw(c:Nat):∀l:List Nat,c∈l->∃a b,l=a++c::b/\c∉b
 | [],h=>by cases h
 | x::l,h=>by
  by_cases hm:c∈l
  .obtain ⟨a,b,e,hb⟩:=uw c l hm;exact ⟨x::a,b,by rw [e];rfl,hb⟩
  .rcases LI.mp h with e|e
   .exact ⟨[],l,by rw [e];rfl,hm⟩
   .exact absurd e hm
theorem wM{a b:List Nat}(h:sg z=a++32::b)(hb:32∉b):cq z=tx (a++[32]):=by
 unfold cq;rw [Ko h hb];have e:((a.length:Int)+1)=((a.length+1:Nat):Int):=by lia
 rw [e,je (by rw [h];simp),h];congr 1;rw [show a++32::b=(a++[32])++b by simp,List.take_left' (by simp)]
theorem KC(h:32∉sg z):cq z=tx []:=by
 unfold cq;rw [Dy h];exact je (j:=0) (MM _)
theorem wH(h:asc z=true):asc (cq z)=true/\(cq z).length<=z.length:=by
 refine ⟨?_,PySem.Txt.slice_le _ _ _⟩;by_cases hm:32∈sg z
 .obtain ⟨a,b,e,hb⟩:=uw 32 _ hm;rw [wM e hb];refine oR h λc hc=>?_;rw [e,show a++32::b=(a++[32])++b by simp];exact MR _ hc
 .rw [KC hm,lU];rfl
theorem qN:zw ["text","body"] ["text"] (zm oG):=fsc
theorem HM(F:Fun K "body_of" "body_of" oG f fd)(T:Txt w K mg A)(Zk:GF P w K mg base true 2 "summed" ["body"] jg):zo P w K mg base CX0 true 3 f fd ["text"] tW:=by
 refine F.ok qN (λvs H Q E h=>?_) (λZ1 Ar outer s H vs Q E hr h=>?_)
 .rcases h with ⟨z,rfl,_⟩|⟨v,rfl,_⟩<;>rfl
 .have hu:_<cLine:=Mi (zQ hr);refine ⟨_,(W.h (zg (zR (cQ (aX (zK fA rfl T.n_isinstance NH (za (zb 0) (za (fP rfl T.n_str boot_str (v:=.ty "str") rfl) zc)))))
   (zh (zx bf))
   aa)
   (zg (zA (i:=1) qN.nd rfl (LQ rfl) (eE fG (zb 0) d6 (ee (zz eO (J2 (zb 0) zI) zj))))
   (zh (zx (jS (tD (zL (clO (oE (bw hu))) (clE (zb 0)) (clE (caD (zt Zk hr rfl (clP (za (zb 1) zc))))) (zF _))) (zb 1) bf)))))),?_⟩
  rcases h with ⟨z,rfl,ha,hz,q⟩|⟨v,rfl,tv,q⟩
  case inr =>
   simp_all only [];refine Jx tv ?_;simp_all only [];exact q
  simp_all only [];refine ⟨_,_,_,_,_,rfl,rfl,.of (.str z),rfl,?_⟩;simp_all only [aK (Mp hz (by decide)),yw];obtain ⟨b1,b2⟩:=wH ha;refine ⟨cq z,rfl,b1,by lia,λH' s1=>?_⟩;simp_all only [];have q':=q H' s1;refine aj (λh=>?_) λh=>?_
  .have e:ef z=some (cq z):=if_pos (of_decide_eq_true h);rw [e] at q';exact q'
  .have e:ef z=none:=if_neg λx=>h (decide_eq_true x);rw [e] at q';exact q'
theorem HD:∀ys:List Str,sg (QM "" ys)=(ys.map sg).flatten:=by
 intro ys;have e:QM "" ys=Str.join "" ys:=StrLaws.glued_eq_join "" ys;rw [e]
 induction ys with
 | nil=>rfl
 | cons y ys ih =>
  cases ys with
  | nil=>show sg y=_;simp
  | cons x ys =>
   have ih:=ih (StrLaws.glued_eq_join "" _);show sg (y++""++Str.join "" (x::ys))=_;rw [cZ,cZ,ih];have:sg ("":Str)=[]:=by decide
   rw [this];simp
theorem rK(h:cM v):(az v).length<=100/\asc (az v)=true:=by
 cases h with
 | bl b=>cases b<;>exact ⟨by decide,by rw [bJ];decide⟩
 | int i h0 h1 =>
  have F:=fX h0 h1;refine ⟨by show (toString i:Str).length<=100;rw [<- zX];have:=F.most;lia,?_⟩;show asc (toString i:Str)=true;rw [bJ,Mz];exact λc hc=>decide_eq_true (by have:=F.dig c hc;lia)
 | str z ha hz=>exact ⟨hz,ha⟩
theorem mP:∀{xs:List V},(∀v∈xs,cM v)->(zT xs).length<=101*xs.length/\(zT xs).all (· < 128)=true
 | [],_=>⟨by simp [zT],rfl⟩
 | v::xs,h=>by
  obtain ⟨h1,h2⟩:=mP (xs:=xs) λu hu=>h u (LO _ hu);obtain ⟨p1,p2⟩:=rK (h v (Mc ..));have e:zT (v::xs)=sg (az v)++[32]++zT xs:=by simp [zT]
  rw [e];rw [<- zX] at p1;rw [bJ] at p2;refine ⟨by simp;lia,?_⟩;rw [all_append,all_append,p2,h2];rfl
theorem DY:zw ["part"] ["part"] (zm pW):=fsc
theorem yR(F:Fun K "part_text" "part_text" pW f fd)(T:Txt w K mg A):zo P w K mg base CX0 cm 1 f fd ["part"] mV:=by
 refine F.ok DY (λvs H Q E h=>?_) (λZ1 Ar outer s H vs Q E hr h=>?_)
 .obtain ⟨v,rfl,_⟩:=h;rfl
 .obtain ⟨v,rfl,hv,q⟩:=h;refine ⟨_,(W.h (zg (zR (aX (zK fA rfl T.n_isinstance NH (za (zb 0) (za (fP rfl T.n_bool boot_bool (v:=.ty "bool") rfl) zc))))
   (zh (zx (jS (aX (zb 0)) zI zI)))
   aa)
   (zh (zx (eW FZ rfl T.n_str boot_str (za (zb 0) zc)))))),?_⟩
  simp_all only [];cases hv with
  | bl b =>
   refine ⟨_,_,_,_,_,rfl,rfl,.of (.bl b),rfl,?_⟩;simp_all only [];cases b with
   | true=>exact gK q
   | false=>exact gG q
  | int i h0 h1 =>
   refine ⟨_,_,_,_,_,rfl,rfl,.of (.int i),rfl,?_⟩;simp_all only [];exact ⟨sM (by lia),q⟩
  | str z ha hz =>
   refine ⟨_,_,_,_,_,rfl,rfl,.of (.str z),rfl,?_⟩;simp_all only [];exact q
structure gP(H:Hp)(xs:List V)(i:Nat)(τ:L2.St)(ys:List V)(H':Hp):Prop where
 ex:∃t,τ=[t]
 ys:ys=((xs.take i).map λv=>az v++" ").map V.str
 same:H'=H
theorem Ah:zw ["row"] ["row"] (zm jT):=fsc
theorem Gv:aQ { kind:=.function,names:=[(vv ".0",.local),(vv "part",.local),(vv "part_text",.globalImplicit)],isGenerator:=false,isCoroutine:=false,more:=[] } (zm jT).names ["row"] ["part"] [none]=true:=by decide +kernel
theorem GJ:(["part"]:List Str).Nodup:=by decide +kernel
theorem IS(F:Fun K "row_text" "row_text" jT f fd)(T:Txt w K mg A)(Zk:GF P w K mg base true 2 "summed" ["body"] jg)(Y5:GF P w K mg base true 1 "part_text" ["part"] mV):zo P w K mg base CX0 true 3 f fd ["row"] ye:=by
 refine F.ok Ah (λvs H Q E h=>?_) (λZ1 Ar outer s H vs Q E hr h=>?_)
 .obtain ⟨a,xs,rfl,_⟩:=h;rfl
 .obtain ⟨a,xs,rfl,hH,hx,hp,q⟩:=h;refine ⟨_,(W.h (zh (zx (caD (zt Zk hr rfl (clP (za (CL zI (cy (λ_=>rfl) (ar.of Gv) (Ga (zb 0)) (λ_ _ _ _ _=>(zB (i:=0) GJ rfl (LQ rfl))) (λ_ _ _ _ _=>cN) (λ_ _ _ _ _=>(zz eO (caD (zt Y5 hr rfl (clP (za (zb 0) zc)))) zI)))) zc))))))),?_⟩;simp_all only [];have sp1:(" ":Str).length=1:=by decide
  have step:∀(N:L2.St->List V->Hp->Prop)(i:Nat)(x:V)(τ:L2.St)(ys:List V)(H':Hp),xs[i]?=some x->gP H xs i τ ys H'->(∀τ ys H3,gP H xs (i+1) τ ys H3->N τ ys H3)->dX 0 x τ H' λτ1 H4=>pB τ1 H4 λok H5=>dJ N ys τ1 (tOp ie (pR mV E0 (kG (i3 0) bQ)) (tC (V.str " "))) ok H5:=by
   intro N i x τ ys H' hx' I hN;obtain ⟨t,rfl⟩:=I.ex;have hv:=hp x (LX hx');simp_all only [];refine ⟨x,rfl,hv,?_⟩;simp_all only [];refine ⟨?_,hN _ _ _ ⟨⟨_,rfl⟩,by rw [I.ys,MH,hx'];simp,I.same⟩⟩;rw [sp1];exact aK (by have:=(rK hv).1;lia)
  have done:∀(τ:L2.St)(ys:List V)(H':Hp),gP H xs xs.length τ ys H'->∀D H2,New H' D (.lst ys) H2->iD (V.str "") [.ref D] H2 λx H1=>jg [x] H1 Q E0:=by
   intro τ ys H' I D H2 n2;rw [yE];have hall:xs.take xs.length=xs:=Mj (we _);have e:QM "" (xs.map λv=>az v++" ")=tx (zT xs):=by
    refine lg ?_;rw [HD,ck,MB];unfold zT;congr 1;refine Nq λv _=>?_;show sg (az v++" ")=_;rw [cZ];rfl
   obtain ⟨l1,l2⟩:=mP hp;refine ⟨xs.map λv=>az v++" ",by rw [n2.at_,I.ys,hall],?_,tx (zT xs),by rw [e],by rw [lU];exact l2,by rw [nV];lia,λH3 s3=>q H3 ?_⟩
   .have es:((xs.map λv=>az v++" ").map (·.length)).sum=(zT xs).length:=by
     unfold zT;rw [List.length_flatten,MB,MB];congr 1;refine Nq λv _=>?_;show (az v++" ").length=(sg (az v)++[32]).length;rw [OK,Md,zX];rfl
    rw [es,show ("":Str).length=0 by decide];lia
   .have:=n2.same;rw [I.same] at this;exact this.trans s3
  have sml:∀i τ ys H',gP H xs i τ ys H'->ys.length<sizeLine:=λi τ ys H' I=>by
   rw [I.ys,KE,KE,Nj];exact aF (by lia)
  rcases hH with hH|hH
  .exact .inl ⟨⟨_,SqL.of hH⟩,zS.lst (xs:=xs) (gP H xs) sml (λi τ ys H' I=>SqL.of (by rw [I.same];exact hH)) ⟨⟨_,rfl⟩,by simp,rfl⟩ step done⟩
  .exact .inr ⟨⟨_,SqT.of hH⟩,zS.tup (xs:=xs) (gP H xs) sml (λi τ ys H' I=>SqT.of (by rw [I.same];exact hH)) ⟨⟨_,rfl⟩,by simp,rfl⟩ step done⟩
end
abbrev lx:Stmt:=top 33
abbrev jm:Stmt:=top 32
abbrev jf:Stmt:=top 31
section
variable {P:LV}{w:Mf}{K:Frag}{mg:Str->Option Value}{base:Heap}{A:zi}
theorem Dr(h:bT z=true):∃n,OL z=some n/\z.length<=640:=by
 unfold bT aN at h;rw [Mu,Mu,Mu,decide_eq_true_eq,decide_eq_true_eq] at h;obtain ⟨⟨⟨h1,h2⟩,h3⟩,_⟩:=h;have hl:z.length<=18:=by lia
 have hd:∀c∈sg z,48<=c/\c<=57:=by
  intro c hc;have:=Mz.mp h3 c hc;have hf:sg FIG=[48,49,50,51,52,53,54,55,56,57]:=by decide
  rw [hf] at this;have:=NT.mp this;simp only [LI,LP,or_false] at this;omega
 refine ⟨_,intText_digits (x:=z) hd (λe=>?_) (by lia),by lia⟩;have:z.length=0:=by rw [<- zX];rw [show sg z=[] from e];rfl
 lia
theorem Jr:zw ["kind","word"] ["kind","word"] (zm lx):=fsc
theorem B0(F:Fun K "read_part" "read_part" lx f fd)(T:Txt w K mg A)(ZJ:GF P w K mg base true 2 "is_number_text" ["text"] (gI bT))(YD:GF P w K mg base true 2 "is_name" ["text"] (gI cF))(YC:GF P w K mg base true 2 "is_word" ["text"] (gI dB)) :
  zo P w K mg base (CXW P w) true 3 f fd ["kind","word"] (rL A):=by
 refine F.okW Jr (λvs H Q E h=>?_) (λZ1 Ar outer s H vs Q E hr h=>?_)
 .obtain ⟨k,z,rfl,_⟩:=h;rfl
 .obtain ⟨k,z,rfl,ha,hz,q⟩:=h;have hu:_<cLine:=Mi (zQ hr);have Th:=eX (cm:=true) (P:=P) (w:=w) (K:=K) (mg:=mg) (base:=base) (N:=["kind","word"]) (qual:="read_part") (scope:=zm lx) (f:=f) (cd:=Z1) (A:=Ar) (outer:=outer) (s:=s) (H:=H) (E:=E);refine ⟨_,(W.h (zg (oV (zR (di (hV (tD (zL (clO (oE (bw hu))) (clE (zb 0)) (clE zI) (zF _))) (gS (aX (caD (zt ZJ hr rfl (clP (za (zb 1) zc))))))))
   (zh (zx (eW yH rfl T.n_int boot_int (za (zb 1) zc))))
   aa))
   (zg (oV (zR (di (hV (tD (zL (clO (oE (bw hu))) (clE (zb 0)) (clE zI) (zF _))) (gS (tD (zL (clO (oO hu)) (clE (zb 1)) (clE (aP (za zI (za zI zc)))) rfl)))))
   (zh (zx (dI (oE (bw hu)) (zb 1) zI (zF _))))
   aa))
   (zg (oV (zR (di (hV (tD (zL (clO (oE (bw hu))) (clE (zb 0)) (clE zI) (zF _))) (gS (aX (caD (zt YD hr rfl (clP (za (zb 1) zc))))))))
   (zh (zx (zb 1)))
   aa))
   (zg (zR (di (hV (tD (zL (clO (oE (bw hu))) (clE (zb 0)) (clE zI) (zF _))) (gS (aX (caD (zt YC hr rfl (clP (za (zb 1) zc))))))))
   (zh (zx (zb 1)))
   aa)
   (zh (h7 rfl Th T.ek_NoRow rfl T.mg_NoRow (za zI zc)))))))),?_⟩
  simp_all only [nv];refine ⟨λσ' H'=>σ'=[some (.str k),some (.str z)]/\zl H H'/\¬ (k="number"/\bT z=true),?_,?_⟩
  .refine aj (λh1=>?_) λh1=>⟨rfl,zl.refl _,λx=>h1 (decide_eq_true x.1)⟩;refine ⟨z,rfl,ha,hz,λH1 s1=>?_⟩;simp_all only [];refine aj (λh2=>?_) λh2=>⟨s1,λx=>h2 x.2⟩;obtain ⟨n,hn,hl⟩:=Dr h2;refine ⟨hl,n,hn,(q H1 s1).1 _ ?_⟩;unfold aR;rw [if_pos ⟨of_decide_eq_true h1,h2⟩,hn];rfl
  rintro σ' H1 ⟨rfl,s1,n1⟩;simp_all only [nv];refine ⟨λσ' H'=>σ'=[some (.str k),some (.str z)]/\zl H H'/\¬ (k="end"/\(z="0"\/z="1")),?_,?_⟩
  .refine aj (λh1=>?_) λh1=>⟨rfl,s1,λx=>h1 (decide_eq_true x.1)⟩;refine ⟨by decide,λp H2 n2=>⟨_,.inr n2.at_,rfl,rfl,?_⟩⟩;have e:inV (V.str z) [V.str "0",V.str "1"]=true↔(z="0"\/z="1"):=by
    unfold inV;rw [PH,PH,List.any_nil,O2,Bool.or_eq_true];have e3:∀a:Str,eqV (V.str a) (V.str z)=true↔z=a:=λa=>by
     show (a==z)=true↔_;rw [beq_iff_eq];exact eq_comm
    rw [e3,e3]
   refine aj (λh2=>?_) λh2=>⟨rfl,s1.trans n2.same,λx=>h2 (e.mpr x.2)⟩;refine (q H2 (s1.trans n2.same)).1 _ ?_;unfold aR;rw [if_neg n1,if_pos ⟨of_decide_eq_true h1,e.mp h2⟩]
  rintro σ' H2 ⟨rfl,s2,n2⟩;simp_all only [nv];refine ⟨λσ' H'=>σ'=[some (.str k),some (.str z)]/\zl H H'/\¬ (k="name"/\cF z=true),?_,?_⟩
  .refine aj (λh1=>?_) λh1=>⟨rfl,s2,λx=>h1 (decide_eq_true x.1)⟩;refine ⟨z,rfl,ha,hz,λH3 s3=>?_⟩;simp_all only [];refine aj (λh2=>?_) λh2=>⟨s2.trans s3,λx=>h2 x.2⟩;refine (q H3 (s2.trans s3)).1 _ ?_;unfold aR;rw [if_neg n1,if_neg n2,if_pos ⟨of_decide_eq_true h1,h2⟩]
  rintro σ' H3 ⟨rfl,s3,n3⟩;simp_all only [];refine aj (λh1=>?_) λh1=>?_
  .refine ⟨z,rfl,ha,hz,λH4 s4=>?_⟩;simp_all only [];refine aj (λh2=>?_) λh2=>?_
   .refine (q H4 (s3.trans s4)).1 _ ?_;unfold aR;rw [if_neg n1,if_neg n2,if_neg n3,if_pos ⟨of_decide_eq_true h1,h2⟩]
   .refine ⟨by decide,(q H4 (s3.trans s4)).2 ?_⟩;unfold aR;rw [if_neg n1,if_neg n2,if_neg n3,if_neg λx=>h2 x.2]
  .refine ⟨by decide,(q H3 s3).2 ?_⟩;unfold aR;rw [if_neg n1,if_neg n2,if_neg n3,if_neg λx=>h1 (decide_eq_true x.1)]
theorem HB(T:Txt w K mg A)(z:Str):(dZ [("put",A.PARTS_put),("cut",A.PARTS_cut),("hold",A.PARTS_hold),("free",A.PARTS_free),("carry",A.PARTS_carry)] z = .non/\dv z=none) \/
  ∃p ks,dZ [("put",A.PARTS_put),("cut",A.PARTS_cut),("hold",A.PARTS_hold),("free",A.PARTS_free),("carry",A.PARTS_carry)] z = .ref p/\dv z=some ks/\ks.length<=10/\∀H:Hp,SqT K H p (ks.map V.str):=by
 unfold dZ dv;simp only [OA,List.find?_nil];by_cases h1:z="put"
 .rw [if_pos h1,decide_eq_true h1.symm];exact .inr ⟨_,_,rfl,rfl,by decide,T.t_PARTS_put⟩
 rw [if_neg h1,decide_eq_false (L8 h1)];by_cases h2:z="cut"
 .rw [if_pos h2,decide_eq_true h2.symm];exact .inr ⟨_,_,rfl,rfl,by decide,T.t_PARTS_cut⟩
 rw [if_neg h2,decide_eq_false (L8 h2)];by_cases h3:z="hold"
 .rw [if_pos h3,decide_eq_true h3.symm];exact .inr ⟨_,_,rfl,rfl,by decide,T.t_PARTS_hold⟩
 rw [if_neg h3,decide_eq_false (L8 h3)];by_cases h4:z="free"
 .rw [if_pos h4,decide_eq_true h4.symm];exact .inr ⟨_,_,rfl,rfl,by decide,T.t_PARTS_free⟩
 rw [if_neg h4,decide_eq_false (L8 h4)];by_cases h5:z="carry"
 .rw [if_pos h5,decide_eq_true h5.symm];exact .inr ⟨_,_,rfl,rfl,by decide,T.t_PARTS_carry⟩
 rw [if_neg h5,decide_eq_false (L8 h5)];exact .inl ⟨rfl,rfl⟩
theorem jd:∀{ks zs:List Str}(ks' WZ:List Str),ks.length=zs.length->aC (ks++ks') (zs++WZ)=(aC ks zs).bind λvs=>(aC ks' WZ).map (vs++·)
 | [],[],ks',WZ,_=>by simp [aC]
 | k::ks,z::zs,ks',WZ,h=>by
  have ih:=jd (ks:=ks) (zs:=zs) ks' WZ (by simpa using h);show (aR k z).bind (λv=>(aC (ks++ks') (zs++WZ)).map (v::·))=((aR k z).bind λv=>(aC ks zs).map (v::·)).bind _;rw [ih];cases aR k z with
  | none=>rfl
  | some v =>
   cases aC ks zs with
   | none=>rfl
   | some vs =>
    show ((aC ks' WZ).map (vs++·)).map (v::·)=(aC ks' WZ).map ((v::vs)++·);rw [Option.map_map];rfl
 | [],z::zs,_,_,h=>by cases h
 | k::ks,[],_,_,h=>by cases h
theorem eB(z:Str)(zs:List Str):cu (z::zs)=(dv z).bind λks=>if zs.length=ks.length then (aC ks zs).map (.str z::·) else none:=rfl
theorem Gp{x:V}{l:List V}:aU (x::l) (some 1) none=l:=by
 have e1:HT.sIx (x::l).length 0 (some 1)=1:=by simp [HT.sIx]
 have e2:HT.sIx (x::l).length (x::l).length none=l.length+1:=by simp [HT.sIx]
 unfold aU;rw [e1,e2];simp
structure GL(H:Hp)(a p r b:Addr)(z:Str)(ks zs:List Str)(i:Nat)(σ:L2.St)(H':Hp):Prop where
 ex:∃k' z',σ=[some (V.ref a),some (.ref p),some (.ref r),k',z']
 same:zl H H'
 row:∃vs,H' r=some (.lst (.str z::vs))/\aC (ks.take i) (zs.take i)=some vs/\vs.length=i
 words:H' b=some (.lst (zs.map V.str))
 ne:H r=none/\H b=none/\r≠b
theorem ib:zw ["words","kinds","row","kind","word"] ["words"] (zm jm):=fsc
theorem KJ(F:Fun K "row_of" "row_of" jm f fd)(T:Txt w K mg A)(Y4:GX P w K mg base true 3 "read_part" ["kind","word"] (rL A)):zo P w K mg base (CXW P w) true 4 f fd ["words"] (yN A):=by
 refine F.okW ib (λvs H Q E h=>?_) (λZ1 Ar outer s H vs Q E hr h=>?_)
 .obtain ⟨a,ws,rfl,_⟩:=h;rfl
 .obtain ⟨a,ws,rfl,hH,YU,hl,hw,q,qn⟩:=h;have hu:_<cLine:=Mi (zQ hr);have Th:=eX (cm:=true) (P:=P) (w:=w) (K:=K) (mg:=mg) (base:=base) (N:=["words","kinds","row","kind","word"]) (qual:="row_of") (scope:=zm jm) (f:=f) (cd:=Z1) (A:=Ar) (outer:=outer) (s:=s) (H:=H) (E:=E);obtain ⟨z,zs,rfl⟩:=List.exists_cons_of_ne_nil YU;have e0:atI (V.str z::map V.str zs) 0=some (.str z):=cB (j:=0) rfl;refine ⟨_,(W.h (zg (zA (i:=1) ib.nd rfl (LQ rfl) (IU rfl T.mg_PARTS T.d_PARTS (zH c8 (zb 0) zj (λ_ _=>rfl))))
   (zg (zR (di (eT (tD (zL (clO nJ) (clE (zb 1)) (clE bf) (zF _))) (iS (tD (zL (clO (oE (eG hu))) (clE (zK cO rfl T.n_len Mr (za (zb 0) zc))) (clE (zz eO (zK kP rfl T.n_len Mr (za (zb 1) zc)) zj)) (zF _))))))
   (zh (h7 rfl Th T.ek_NoRow rfl T.mg_NoRow (za zI zc)))
   aa)
   (zg (zA (i:=2) ib.nd rfl (LQ rfl) (aw (za (zH c8 (zb 0) zj (λ_ _=>rfl)) zc)))
   (zg (Bd Th (cb (CM rfl (λok=>ok.frames) rfl) (by intro h;exact nomatch h) (Il rfl T.n_zip (za (zb 1) (za (eE fG (zb 0) (ee zj) d6) zc))) (eK (n:=2) (gsD (zU (zB (i:=3) ib.nd rfl (LQ rfl)) (gsD (zU (zB (i:=4) ib.nd rfl (LQ rfl)) bS)))))
   (zh (aq (gF (zb 2) (cXD (mM Ir Y4 hr rfl (clP (za (zb 3) (za (zb 4) zc))))))))))
   (zh (zx (eW Fn rfl T.n_tuple boot_tuple (za (zb 2) zc))))))))),?_⟩
  simp_all only [hH,e0];rcases HB T z with ⟨g1,g2⟩|⟨p,ks,g1,g2,g4,g3⟩
  .simp_all only [g1];exact ⟨by decide,qn (by rw [eB,g2];rfl) H (zl.refl _)⟩
  simp_all only [g1,hH];refine ⟨_,.inr (g3 H),?_⟩;have XW:(!decide ((((map V.str zs).length+1:Nat):Int)=((map V.str ks).length:Int)+1))=true↔zs.length≠ks.length:=by
   rw [KE,KE];simp;lia
  refine aj (λh=>?_) λh=>?_
  .refine ⟨by decide,qn ?_ H (zl.refl _)⟩;rw [eB,g2];show (if zs.length=ks.length then _ else _)=_;rw [if_neg (XW.mp h)]
  have Z5:ks.length=zs.length:=by
   refine ND λhx=>h (XW.mpr λx=>hx x.symm)
  have XJ:cu (z::zs)=(aC ks zs).map (.str z::·):=by
   rw [eB,g2];show (if zs.length=ks.length then _ else _)=_;rw [if_pos Z5.symm]
  refine ⟨_,e0,by decide,λr H1 n1 _=>⟨_,n1.same _ _ hH,λb H2 n2=>?_⟩⟩;have s2:zl H H2:=n1.same.trans n2.same;have er:=n2.same _ _ n1.at_;have eb:=n2.at_;rw [MD,Gp] at eb;have hrb:r≠b:=λx=>by rw [x] at n1;have:=n1.at_;rw [n2.no] at this;cases this
  refine ⟨⟨_,g3 H2⟩,⟨_,SqL.of eb⟩,aB.zipT (xs:=ks.map V.str) (ys:=zs.map V.str) (by rw [KE,KE];exact Z5) (GL H a p r b z ks zs) ⟨⟨_,_,rfl⟩,s2,⟨[],er,by simp [aC],rfl⟩,eb,n1.no,n1.same.free n2.no,hrb⟩ (λi σ H' _ I=>⟨g3 H',SqL.of I.words⟩) ?_ ?_⟩
  .intro i x y t σ H' hx hy I ht;obtain ⟨k',z',rfl⟩:=I.ex;rw [L6] at hx hy;obtain ⟨k,hk,rfl⟩:=Mh.mp hx;obtain ⟨u,hu',rfl⟩:=Mh.mp hy;obtain ⟨vs,hv,hp,hvl⟩:=I.row;have hm:=hw u (LO _ (LX hu'));simp_all only [];refine ⟨t,_,rfl,SqT.of zy,rfl,?_⟩;have hrt:r≠t:=λx=>by rw [x] at hv;rw [ht] at hv;cases hv
   have hbt:b≠t:=λx=>by have:=I.words;rw [x,ht] at this;cases this
   have WY:upd H' t (.tup [.str k,.str u]) r=some (.lst (.str z::vs)):=by rw [ze hrt];exact hv
   simp_all only [WY];have st:zl H (upd H' t (.tup [.str k,.str u])):=λc o e=>by
    have:=I.same c o e;rw [ze (zC this ht)];exact this
   have hi:i<ks.length:=(LH.mp hk).1;have ta:(ks.take i).length=(zs.take i).length:=by rw [Nj,Nj,Z5]
   have tk:ks.take (i+1)=ks.take i++[k]:=by rw [MH,hk];rfl
   have tz:zs.take (i+1)=zs.take i++[u]:=by rw [MH,hu'];rfl
   refine ⟨k,u,rfl,hm.1,hm.2,λH3 s3=>⟨λv hr'=>?_,λhr'=>?_⟩⟩
   .have h3r:H3 r=some (.lst (.str z::vs)):=s3 _ _ WY;have h3b:H3 b=some (.lst (zs.map V.str)):=s3 _ _ (by rw [ze hbt];exact I.words);refine ⟨_,h3r,by simp;exact aF (by lia),⟨⟨_,_,rfl⟩,λc o e=>?_,⟨vs++[v],by rw [zy];rfl,?_,by simp [hvl]⟩,by rw [ze (L8 hrb)];exact h3b,I.ne⟩⟩
    .rw [ze (zC e I.ne.1)];exact s3 _ _ (st c o e)
    .rw [tk,tz,jd _ _ ta,hp];show (aC [k] [u]).map (vs++·)=_;simp [aC,hr']
   .refine ⟨_,rfl,qn ?_ H3 (st.trans s3)⟩;have e1:aC ks zs=none:=by
     have k1:ks=ks.take (i+1)++ks.drop (i+1):=(List.take_append_drop _ _).symm;have z1:zs=zs.take (i+1)++zs.drop (i+1):=(List.take_append_drop _ _).symm;rw [k1,z1,jd _ _ (by rw [Nj,Nj,Z5]),tk,tz,jd _ _ ta,hp];simp [aC,hr']
    rw [XJ,e1];rfl
  .rintro σ H' I;obtain ⟨k',z',rfl⟩:=I.ex;obtain ⟨vs,hv,hp,hvl⟩:=I.row;simp_all only [hv];intro l H2 n2;rw [KE,Mj (we _),Mj (by lia)] at hp;exact q _ (by rw [XJ,hp];rfl) l H2 (I.same.trans n2.same) n2.at_
theorem kY{c:Nat}:∀{l:List Nat}{w:List Nat},w∈aA c l->∀x∈w,x∈l
 | [],w,h,x,hx=>by
  rw [show aA c []=[[]] from rfl,LU] at h;rw [h] at hx;cases hx
 | y::l,w,h,x,hx=>by
  by_cases hc:y=c
  .rw [show aA c (y::l)=[]::aA c l from if_pos hc] at h;rcases LI.mp h with e|h
   .rw [e] at hx;cases hx
   .exact LO _ (kY h x hx)
  .rw [iP c y l hc] at h;obtain ⟨a,r,e⟩:=fY c l;rw [e] at h;rcases LI.mp h with e2|h
   .rw [e2] at hx;rcases LI.mp hx with e3|hx
    .rw [e3];exact Mc ..
    .exact LO _ (kY (l:=l) (w:=a) (by rw [e];exact Mc ..) x hx)
   .exact LO _ (kY (l:=l) (by rw [e];exact LO _ h) x hx)
theorem tO(c:Nat):∀l:List Nat,(aA c l).length<=l.length+1/\∀w∈aA c l,w.length<=l.length
 | []=>⟨by simp [aA],by simp [aA]⟩
 | y::l=>by
  obtain ⟨h1,h2⟩:=tO c l;by_cases hc:y=c
  .rw [show aA c (y::l)=[]::aA c l from if_pos hc];refine ⟨by simp;lia,λw hw=>?_⟩;rcases LI.mp hw with e|hw
   .rw [e];simp
   .have:=h2 w hw;simp;lia
  .rw [iP c y l hc];obtain ⟨a,r,e⟩:=fY c l;rw [e] at h1 h2 ⊢;refine ⟨by simpa [eV] using N9 h1,λw hw=>?_⟩;rcases LI.mp hw with e2|hw
   .have:=h2 a (Mc ..);rw [e2];simp;lia
   .have:=h2 w (LO _ hw);simp;lia
theorem yG:zw ["text","body"] ["text"] (zm jf):=fsc
theorem Cq(F:Fun K "read_row" "read_row" jf f fd)(T:Txt w K mg A)(YB:GF P w K mg base true 3 "body_of" ["text"] tW)(Ym:GX P w K mg base true 4 "row_of" ["words"] (yN A)):zo P w K mg base (CXW P w) true 5 f fd ["text"] (vC A):=by
 refine F.okW yG (λvs H Q E h=>?_) (λZ1 Ar outer s H vs Q E hr h=>?_)
 .rcases h with ⟨v,rfl,_⟩|⟨z,rfl,_⟩<;>rfl
 .have Th:=eX (cm:=true) (P:=P) (w:=w) (K:=K) (mg:=mg) (base:=base) (N:=["text","body"]) (qual:="read_row") (scope:=zm jf) (f:=f) (cd:=Z1) (A:=Ar) (outer:=outer) (s:=s) (H:=H) (E:=E);refine ⟨_,(W.h (zg (zA (i:=1) yG.nd rfl (LQ rfl) (caD (zt YB hr rfl (clP (za (zb 0) zc)))))
   (zg (zR (tD (zL (clO nJ) (clE (zb 1)) (clE bf) (zF _)))
   (zh (h7 rfl Th T.ek_NoRow rfl T.mg_NoRow (za zI zc)))
   aa)
   (zh (zx (cXD (mM Th Ym hr rfl (clP (za (DZ (eE fG (zb 1) d6 (ee (jR jn zj))) zI) zc))))))))),?_⟩
  rcases h with ⟨v,rfl,tv,q⟩|⟨z,rfl,ha,hz,q,qn⟩
  case inl =>
   simp_all only [];refine .inr ⟨v,rfl,tv,?_⟩;simp_all only [];exact ⟨by decide,q⟩
  simp_all only [];refine .inl ⟨z,rfl,ha,hz,λH1 s1=>?_⟩;cases hb:ef z with
  | none =>
   simp_all only [pV];exact ⟨by decide,qn (by unfold bG;rw [hb];rfl) H1 s1⟩
  | some b =>
   have eb:b=cq z:=by
    unfold ef at hb;split at hb
    .exact (Ms.inj hb).symm
    .cases hb
   obtain ⟨b1,b2⟩:=wH ha;rw [<- eb] at b1 b2;have hs:bG z=cu (MN (M1 b none (some (-1))) (c1 32)):=by unfold bG;rw [hb];rfl
   have b3:(M1 b none (some (-1))).length<=b.length:=PySem.Txt.slice_le _ _ _;simp_all only [pV,yw,aK (Mp (Mp b2 hz) (by decide))];generalize hy:M1 b none (some (-1))=y at *
   have ya:asc y=true:=by
    by_cases h0:0<(sg b).length
    .rw [xv h0] at hy;rw [<- hy];exact oR b1 λc hc=>(List.dropLast_sublist _).subset hc
    .rw [zX] at h0;have:sg y=[]:=Pf (by rw [zX];lia);rw [bJ,this];rfl
   have es:=ui y (c:=32) (by decide);obtain ⟨l1,l2⟩:=tO 32 (sg y);rw [zX] at l1;refine ⟨by decide,aF (by lia),by rw [es,KE];exact aK (by lia),λp H2 n2=>?_⟩;refine ⟨p,MN y (c1 32),rfl,n2.at_,?_,by rw [es,KE];lia,λu hu=>?_,λxs hx p3 H3 s3 h3=>q xs (by rw [hs];exact hx) p3 H3 ((s1.trans n2.same).trans s3) h3,λhx H3 s3=>⟨_,rfl,qn (by rw [hs];exact hx) H3 ((s1.trans n2.same).trans s3)⟩⟩
   .rw [es];obtain ⟨a,r,e⟩:=fY 32 (sg y);rw [e];simp
   .rw [es] at hu;obtain ⟨v,hv,rfl⟩:=NK.mp hu;refine ⟨oR ya (kY hv),?_⟩;rw [nV];have:=l2 v hv;rw [zX] at this;lia
end
def bH(i:Int):Prop:=0<=i/\i<10 ^ 18
inductive bz:List V->Prop
 | put (n g:Int) (b:Bool) (nm:Str) (pl:Int) (wd:Str):bH n->bH g->bH pl->cF nm=true->dB wd=true->bz [.str "put",.int n,.int g,.bl b,.str nm,.int pl,.str wd]
 | cut (n:Int) (nm:Str) (pl:Int):bH n->bH pl->cF nm=true->bz [.str "cut",.int n,.str nm,.int pl]
 | hold (n:Int) (nm:Str):bH n->cF nm=true->bz [.str "hold",.int n,.str nm]
 | free (n:Int) (nm:Str):bH n->cF nm=true->bz [.str "free",.int n,.str nm]
 | carry (n g:Int) (wd:Str):bH n->bH g->dB wd=true->bz [.str "carry",.int n,.int g,.str wd]
theorem Dp(h:∀c∈sg z,c∈sg y)(h1:1<=z.length)(h2:(z.length:Int)<=m):aN z y m=true:=by
 unfold aN;rw [decide_eq_true (show (1:Int)<=z.length by lia),decide_eq_true h2];rw [Bool.true_and,Bool.true_and,Mz];exact λc hc=>NT.mpr (h c hc)
theorem Kk{l:List Nat}(hl:∃a,l=a++[32]):cq (cR (tx l))=tx l:=by
 obtain ⟨a,rfl⟩:=hl;have F:=fX (eJ (tx (a++[32]))).1 (by have:=(eJ (tx (a++[32]))).2;lia);have e:sg (cR (tx (a++[32])))=a++32::(sg (toString (cg (tx (a++[32]))):Str)++[59]):=by
  unfold cR;rw [cZ,cZ,ck];simp;decide +kernel
 refine wM e λh=>?_;rcases My.mp h with h|h
 .have:=F.dig 32 h;lia
 .simp at h
theorem uC(h:aN z y m=true)(hy:32∉sg y):32∉sg z:=by
 unfold aN at h;rw [Mu] at h;intro hz;exact hy (NT.mp (Mz.mp h.2 32 hz))
theorem jL(h:cF z=true):32∉sg z:=uC h (f!"")
theorem wg(h:dB z=true):32∉sg z:=uC h (f!"")
theorem eh(h:bH i):32∉sg (toString i:Str):=λhz=>by
 have:=(fX h.1 h.2).dig 32 hz;lia
theorem sQ(h:aN z y m=true)(hy:∀c∈sg y,c<128)(hm:m<=100):asc z=true/\z.length<=100:=by
 unfold aN at h;rw [Mu,Mu,decide_eq_true_eq,decide_eq_true_eq] at h;refine ⟨?_,by lia⟩;rw [bJ,Mz];exact λc hc=>decide_eq_true (hy c (NT.mp (Mz.mp h.2 c hc)))
theorem jk(h:cF z=true):cM (.str z):=by
 obtain ⟨a,b⟩:=sQ h (f!"") (by decide);exact .str z a b
theorem wR(h:dB z=true):cM (.str z):=by
 obtain ⟨a,b⟩:=sQ h (f!"") (by decide);exact .str z a b
theorem dR(h:bH i):cM (.int i):=.int i h.1 h.2
theorem G8(h:bH i):bT (toString i:Str)=true:=by
 have F:=fX h.1 h.2;unfold bT;rw [Mu];constructor
 .refine Dp (λc hc=>?_) (by rw [<- zX];exact F.one) (by rw [<- zX];have:=F.most;lia);have hf:sg FIG=[48,49,50,51,52,53,54,55,56,57]:=by decide
  rw [hf];have:=F.dig c hc;simp;lia
 .rcases F.head with h|⟨c,r,e,hc⟩
  .rw [decide_eq_true h];rfl
  .rw [e];have : ¬ tx (List.take 1 (c::r))=("0":Str):=λx=>by
    have:=congrArg sg x;rw [ck] at this;have h0:sg ("0":Str)=[48]:=by decide
    rw [h0] at this;injection this with h1 _
    lia
   rw [decide_eq_false this];simp
theorem d8(h:bH i):aR "number" (toString i:Str)=some (.int i):=by
 unfold aR;rw [if_pos ⟨rfl,G8 h⟩,(fX h.1 h.2).back];rfl
theorem jX(h:cF z=true):aR "name" z=some (.str z):=by
 unfold aR;rw [if_neg (λx=>absurd x.1 (f!"")),if_neg (λx=>absurd x.1 (f!"")),if_pos ⟨rfl,h⟩]
theorem rf(h:dB z=true):aR "word" z=some (.str z):=by
 unfold aR;rw [if_neg (λx=>absurd x.1 (f!"")),if_neg (λx=>absurd x.1 (f!"")),if_neg (λx=>absurd x.1 (f!"")),if_pos ⟨rfl,h⟩]
theorem GW(b:Bool):aR "end" (az (.bl b))=some (.bl b):=by cases b<;>decide +kernel
theorem iu(hn:∀u∈v::xs,32∉sg (az u)):bG (aM (v::xs))=cu ((v::xs).map az):=by
 have flat:∀l:List V,zT l=(l.map λu=>sg (az u)++[32]).flatten:=λl=>rfl;have ap:∀(u:V)(l:List V),zT (u::l)=sg (az u)++32::zT l:=λu l=>by simp [zT]
 have key:∀(u:V)(l:List V),zT (u::l)=sg (az u)++((l.map λt=>sg (az t)).map (32::·)).flatten++[32]:=by
  intro u l
  induction l generalizing u with
  | nil=>simp [zT]
  | cons t l ih =>
   rw [ap u (t::l),ih t];simp
 have hb:cq (aM (v::xs))=tx (zT (v::xs)):=Kk ⟨_,key v xs⟩;have hs:ef (aM (v::xs))=some (tx (zT (v::xs))):=by
  unfold ef;rw [hb];exact if_pos rfl
 unfold bG;rw [hs];show cu (MN (M1 (tx (zT (v::xs))) none (some (-1))) (c1 32))=_;rw [xv (by rw [ck,key,Md];exact L9 (by decide) (Nat.le_add_left _ _)),ck,key,List.dropLast_concat,ui _ (by decide),ck,oM]
 .congr 1;rw [MD,MB,MD,iA];congr 1
 .intro u hu;rcases LI.mp hu with rfl|hu
  .exact hn v (Mc ..)
  .obtain ⟨t,ht,rfl⟩:=NK.mp hu;exact hn t (LO _ ht)
theorem bz.read(h:bz xs):bG (aM xs)=some xs:=by
 have bno:∀b:Bool,32∉sg (az (.bl b)):=λb=>by cases b<;>decide
 cases h with
 | put n g b nm pl wd h1 h2 h3 h4 h5 =>
  rw [iu (by
   simp only [LI,LP,or_false];rintro u (rfl|rfl|rfl|rfl|rfl|rfl|rfl)
   .decide +kernel
   .exact eh h1
   .exact eh h2
   .exact bno b
   .exact jL h4
   .exact eh h3
   .exact wg h5)]
  have ek:dv "put"=some (["number","number","end","name","number","word"]:List Str):=by decide +kernel
  show cu [("put":Str),(toString n:Str),(toString g:Str),az (.bl b),nm,(toString pl:Str),wd]=_;rw [eB,ek];simp only [Pp,MW,Oz,if_true,aC,d8 h1,d8 h2,GW,jX h4,d8 h3,rf h5,QL]
 | cut n nm pl h1 h2 h3 =>
  rw [iu (by
   simp only [LI,LP,or_false];rintro u (rfl|rfl|rfl|rfl)
   .decide +kernel
   .exact eh h1
   .exact jL h3
   .exact eh h2)]
  have ek:dv "cut"=some (["number","name","number"]:List Str):=by decide +kernel
  show cu [("cut":Str),(toString n:Str),nm,(toString pl:Str)]=_;rw [eB,ek];simp only [Pp,MW,Oz,if_true,aC,d8 h1,jX h3,d8 h2,QL]
 | hold n nm h1 h2 =>
  rw [iu (by
   simp only [LI,LP,or_false];rintro u (rfl|rfl|rfl)
   .decide +kernel
   .exact eh h1
   .exact jL h2)]
  have ek:dv "hold"=some (["number","name"]:List Str):=by decide +kernel
  show cu [("hold":Str),(toString n:Str),nm]=_;rw [eB,ek];simp only [Pp,MW,Oz,if_true,aC,d8 h1,jX h2,QL]
 | free n nm h1 h2 =>
  rw [iu (by
   simp only [LI,LP,or_false];rintro u (rfl|rfl|rfl)
   .decide +kernel
   .exact eh h1
   .exact jL h2)]
  have ek:dv "free"=some (["number","name"]:List Str):=by decide +kernel
  show cu [("free":Str),(toString n:Str),nm]=_;rw [eB,ek];simp only [Pp,MW,Oz,if_true,aC,d8 h1,jX h2,QL]
 | carry n g wd h1 h2 h3 =>
  rw [iu (by
   simp only [LI,LP,or_false];rintro u (rfl|rfl|rfl|rfl)
   .decide +kernel
   .exact eh h1
   .exact eh h2
   .exact wg h3)]
  have ek:dv "carry"=some (["number","number","word"]:List Str):=by decide +kernel
  show cu [("carry":Str),(toString n:Str),(toString g:Str),wd]=_;rw [eB,ek];simp only [Pp,MW,Oz,if_true,aC,d8 h1,d8 h2,rf h3,QL]
theorem bz.parts(h:bz xs):xs.length<=10/\xs.all zY=true/\(∀v∈xs,∀b,v≠.byt b)/\∀v∈xs,cM v:=by
 have kp:∀z:Str,asc z=true->z.length<=100->cM (.str z):=λz a b=>.str z a b;cases h with
 | put n g b nm pl wd h1 h2 h3 h4 h5 =>
  refine ⟨by simp,rfl,by simp,?_⟩;simp only [LI,LP,or_false];rintro u (rfl|rfl|rfl|rfl|rfl|rfl|rfl)
  .exact kp _ (by rw [bJ];decide +kernel) (by decide)
  .exact dR h1
  .exact dR h2
  .exact .bl b
  .exact jk h4
  .exact dR h3
  .exact wR h5
 | cut n nm pl h1 h2 h3 =>
  refine ⟨by simp,rfl,by simp,?_⟩;simp only [LI,LP,or_false];rintro u (rfl|rfl|rfl|rfl)
  .exact kp _ (by rw [bJ];decide +kernel) (by decide)
  .exact dR h1
  .exact jk h3
  .exact dR h2
 | hold n nm h1 h2 =>
  refine ⟨by simp,rfl,by simp,?_⟩;simp only [LI,LP,or_false];rintro u (rfl|rfl|rfl)
  .exact kp _ (by rw [bJ];decide +kernel) (by decide)
  .exact dR h1
  .exact jk h2
 | free n nm h1 h2 =>
  refine ⟨by simp,rfl,by simp,?_⟩;simp only [LI,LP,or_false];rintro u (rfl|rfl|rfl)
  .exact kp _ (by rw [bJ];decide +kernel) (by decide)
  .exact dR h1
  .exact jk h2
 | carry n g wd h1 h2 h3 =>
  refine ⟨by simp,rfl,by simp,?_⟩;simp only [LI,LP,or_false];rintro u (rfl|rfl|rfl|rfl)
  .exact kp _ (by rw [bJ];decide +kernel) (by decide)
  .exact dR h1
  .exact dR h2
  .exact wR h3
abbrev Tx:=Option Str
def tv:Tx->V|none=>.non|some z=>.str z
def lv:Option Int->V|none=>.non|some i=>.int i
structure DM where
 rows:List (List Tx)
 sides:List Tx
 cnt:Int
 left:Option Int
 st:Bool
variable{d d':DM}
def dn(left:Option Int)(Zj:Int):Int:=match left with|none=>Zj|some l=>if l<Zj then l else Zj
def DM.spend(d:DM)(Zj:Int):DM:={ d with cnt:=d.cnt+dn d.left Zj,left:=d.left.map (· - dn d.left Zj),st:=decide (dn d.left Zj<Zj) }
inductive Res where|val (v:V)|full|stop
def fQ(t:Str)(n:Int):Tx:=some (Txt.slice t none (some n))
def DM.write(m:Int)(d:DM)(k:Nat)(t:Str):Res×DM :=
 if d.st=true then (.stop,d) else if ((d.rows.getD k []).length:Int)=m then (.full,d) else
 if dn d.left t.length=0/\(d.spend t.length).st=true then (.stop,d.spend t.length) else
 ((if (d.spend t.length).st=true then .stop else .val (.int (d.rows.getD k []).length)),{ d.spend t.length with rows:=d.rows.set k (d.rows.getD k []++[fQ t (dn d.left t.length)]) })
def DM.empty(d:DM)(k:Nat):Res×DM :=
 if d.st=true then (.stop,d) else
 if (d.spend (d.rows.getD k []).length).st=true then (.stop,{ d.spend (d.rows.getD k []).length with rows:=d.rows.set k (Mg (dn d.left (d.rows.getD k []).length).toNat none++(d.rows.getD k []).drop (dn d.left (d.rows.getD k []).length).toNat) }) else
 (.val .non,{ d.spend (d.rows.getD k []).length with rows:=d.rows.set k [] })
def DM.put(d:DM)(k:Nat)(t:Str):Res×DM :=
 if d.st=true then (.stop,d) else if dn d.left t.length=0/\(d.spend t.length).st=true then (.stop,d.spend t.length) else
 ((if (d.spend t.length).st=true then .stop else .val .non),{ d.spend t.length with sides:=d.sides.set k (fQ t (dn d.left t.length)) })
structure Rows(H:Hp)(wl:Addr)(cells:List Addr)(rows:List (List Tx)):Prop where
 w:H wl=some (.lst (cells.map V.ref))
 len:cells.length=rows.length
 at_:∀i c,cells[i]?=some c->H c=some (.lst ((rows.getD i []).map tv))
def zG(m:Int)(wl sl:Addr)(d:DM):List (Str×V):=[("width",.int m),("written",.ref wl),("at_sides",.ref sl),("counted",.int d.cnt),("left",lv d.left),("has_stopped",.bl d.st)]
structure zE(A:zi)(H:Hp)(p wl sl:Addr)(cells:List Addr)(m:Int)(d:DM):Prop where
 ob:∃dx,H p=some (.ins A.Disk dx (zG m wl sl d))
 rows:Rows H wl cells d.rows
 sides:H sl=some (.lst (d.sides.map tv))
 nd:(p::wl::sl::cells).Nodup
def zr(F:List Addr)(H H':Hp):Prop:=∀b o,H b=some o->b∉F->H' b=some o
theorem zr.refl:zr F H H:=λ_ _ h _=>h
theorem zr.trans(a:zr F H H1)(b:zr F H1 H2):zr F H H2:=λc o h hc=>b c o (a c o h hc) hc
theorem zr.mono{G:List Addr}(a:zr F H H')(s:∀x∈F,x∈G):zr G H H':=λc o h hc=>a c o h λz=>hc (s c z)
theorem zr.same(a:zl H H'):zr F H H':=λc o h _=>a c o h
theorem zr.upd(hx:x∈F):zr F H (L2.upd H x o):=λc u h hc=>by
 have YU:c≠x:=λz=>hc (by rw [z];exact hx);rw [ze YU];exact h
theorem Rows.keep{rows:List (List Tx)}(r:Rows H wl cells rows)(k:∀b o,H b=some o->b=wl\/b∈cells->H' b=some o):Rows H' wl cells rows :=
 ⟨k _ _ r.w (.inl rfl),r.len,λi c hc=>k _ _ (r.at_ i c hc) (.inr (LX hc))⟩
theorem zE.keep{p:Addr}(D:zE A H p wl sl cells m d)(k:zr F H H')(hF:∀x∈p::wl::sl::cells,x∉F):zE A H' p wl sl cells m d:=by
 obtain ⟨dx,h⟩:=D.ob;refine ⟨⟨dx,k _ _ h (hF _ (by simp))⟩,D.rows.keep λb o e hb=>k b o e (hF b ?_),k _ _ D.sides (hF _ (by simp)),D.nd⟩;rcases hb with rfl|hb
 .simp
 .simp [hb]
theorem yr{l:List Addr}(nd:l.Nodup){i:Nat}(h1:l[i]?=some a)(h2:l[j]?=some a):i=j:=by
 obtain ⟨hi,e1⟩:=LH.mp h1;obtain ⟨hj,e2⟩:=LH.mp h2;exact (List.getElem_inj nd).mp (e1.trans e2.symm)
theorem Rows.set{rows:List (List Tx)}{k:Nat}{r:List Tx}(R:Rows H wl cells rows)(nd:(wl::cells).Nodup)(hc:cells[k]?=some c):Rows (upd H c (.lst (r.map tv))) wl cells (rows.set k r):=by
 have hn:=MU.mp nd;have hk:k<rows.length:=by rw [<- R.len];exact (LH.mp hc).1
 have hwc:wl≠c:=λz=>hn.1 (by rw [z];exact LX hc);refine ⟨by rw [ze hwc];exact R.w,by rw [Nm];exact R.len,λi b hb=>?_⟩;by_cases hi:i=k
 .subst hi;rw [hc] at hb;cases hb;rw [zy];simp [LG,hk]
 .have hbc:b≠c:=λz=>by
   subst z;exact hi (yr hn.2 hb hc)
  rw [ze hbc,R.at_ i b hb];simp [LG,Ow (L8 hi)]
abbrev qx:Stmt:=ax (top 49) 1
abbrev nY:Stmt:=ax (top 49) 2
abbrev my:Stmt:=ax (top 49) 3
abbrev qF:Stmt:=ax (top 49) 4
abbrev jV:Stmt:=ax (top 49) 12
abbrev ni:Stmt:=ax (top 49) 13
abbrev jG:Stmt:=ax (top 49) 14
section
variable {P:LV}{w:Mf}{K:Frag}{mg:Str->Option Value}{base:Heap}{A:zi}
section
variable {m:Int}{wl sl:Addr}{d:DM}
theorem pC:(zG m wl sl d).lookup ("width":Str)=some (.int m):=by kernel_rfl
theorem gM:(zG m wl sl d).lookup ("written":Str)=some (.ref wl):=by kernel_rfl
theorem uV:(zG m wl sl d).lookup ("at_sides":Str)=some (.ref sl):=by kernel_rfl
theorem lK:(zG m wl sl d).lookup ("counted":Str)=some (.int d.cnt):=by kernel_rfl
theorem vA:(zG m wl sl d).lookup ("left":Str)=some (lv d.left):=by kernel_rfl
theorem wb:(zG m wl sl d).lookup ("has_stopped":Str)=some (.bl d.st):=by kernel_rfl
theorem qK:(zG m wl sl d).lookup ("stretches":Str)=none:=by kernel_rfl
theorem kU:(zG m wl sl d).lookup ("places":Str)=none:=by kernel_rfl
theorem DE:(zG m wl sl d).lookup ("next_place":Str)=none:=by kernel_rfl
theorem Hx:(zG m wl sl d).lookup ("told":Str)=none:=by kernel_rfl
theorem xt:(zG m wl sl d).lookup ("write":Str)=none:=by kernel_rfl
theorem BL:(zG m wl sl d).lookup ("put_side":Str)=none:=by kernel_rfl
theorem yI:(zG m wl sl d).lookup ("empty":Str)=none:=by kernel_rfl
theorem vo:(zG m wl sl d).lookup ("stop":Str)=none:=by kernel_rfl
theorem Dc:(zG m wl sl d).lookup ("copied":Str)=none:=by kernel_rfl
theorem e9:(zG m wl sl d).lookup ("refuse_if_stopped":Str)=none:=by kernel_rfl
theorem u6:(zG m wl sl d).lookup ("spend":Str)=none:=by kernel_rfl
theorem t9:(zG m wl sl d).lookup ("first_signs":Str)=none:=by kernel_rfl
theorem CN{x:Option Int}:zP "left" (lv x) (zG m wl sl d)=zG m wl sl { d with left:=x }:=by kernel_rfl
theorem qi{x:Int}:zP "left" (.int x) (zG m wl sl d)=zG m wl sl { d with left:=some x }:=CN (x:=some x)
theorem lL{x:Int}:zP "counted" (.int x) (zG m wl sl d)=zG m wl sl { d with cnt:=x }:=by kernel_rfl
theorem sT{x:Bool}:zP "has_stopped" (.bl x) (zG m wl sl d)=zG m wl sl { d with st:=x }:=by kernel_rfl
theorem iW:(zG m wl sl d).length<1000:=by show 6<1000;decide
end
def gq(A:zi)(r:Int->DM->V):Sp:=λvs H Q _=>∃(p wl sl:Addr)(cells:List Addr)(m:Int)(d:DM),vs=[.ref p]/\zE A H p wl sl cells m d/\Q (r m d) H
def xZ(A:zi):Sp:=λvs H Q _=>∃(p wl sl:Addr)(cells:List Addr)(m:Int)(d:DM)(k:Nat),vs=[.ref p,.int k]/\zE A H p wl sl cells m d/\k<d.rows.length/\Q (.int (d.rows.getD k []).length) H
def jq(d:DM)(k j:Nat):V:=tv ((d.rows.getD k []).getD j none)
def vf(A:zi):Sp:=λvs H Q _=>∃(p wl sl:Addr)(cells:List Addr)(m:Int)(d:DM)(k j:Nat),vs=[.ref p,.int k,.int j]/\zE A H p wl sl cells m d/\k<d.rows.length/\Q (jq d k j) H
def iK(A:zi):Sp:=λvs H Q E=>∃(p wl sl:Addr)(cells:List Addr)(m:Int)(d:DM),vs=[.ref p]/\zE A H p wl sl cells m d/\(d.st=true->E (.ref A.Stopped) none H)/\(d.st=false->Q .non H)
def pQ(A:zi):Sp:=λvs H Q _=>∃(p wl sl:Addr)(cells:List Addr)(m:Int)(d:DM)(n:Int),vs=[.ref p,.int n]/\zE A H p wl sl cells m d/\∀H',zE A H' p wl sl cells m (d.spend n)->zr [p] H H'->Q (.int (dn d.left n)) H'
def om(A:zi):Sp:=λvs H Q E=>∃(p wl sl:Addr)(cells:List Addr)(m:Int)(d:DM)(t:Str),vs=[.ref p,.str t]/\zE A H p wl sl cells m d/\t.length<=1000 /\
 ∀H',zE A H' p wl sl cells m (d.spend t.length)->zr [p] H H'->((dn d.left t.length=0/\(d.spend t.length).st=true->E (.ref A.Stopped) none H')/\(¬ (dn d.left t.length=0/\(d.spend t.length).st=true)->Q (.str (Txt.slice t none (some (dn d.left t.length)))) H'))
theorem Rows.cell{rows:List (List Tx)}(R:Rows H wl cells rows){k:Nat}(hk:k<rows.length):∃c,cells[k]?=some c/\atI (cells.map V.ref) (k:Int)=some (.ref c)/\H c=some (.lst ((rows.getD k []).map tv)):=by
 have YF:k<cells.length:=by rw [R.len];exact hk
 refine ⟨cells[k],il YF,cB (by rw [L6,il YF];rfl),R.at_ k _ (il YF)⟩
theorem zE.obj{p:Addr}(D:zE A H p wl sl cells m d)(h1:d'.rows=d.rows)(h2:d'.sides=d.sides):zE A (upd H p (.ins A.Disk dx (zG m wl sl d'))) p wl sl cells m d':=by
 have hn:=MU.mp D.nd;have ne:∀b∈wl::sl::cells,b≠p:=λb hb z=>hn.1 (by rw [<- z];exact hb);refine ⟨⟨dx,zy⟩,?_,?_,D.nd⟩
 .rw [h1];refine D.rows.keep λb o e hb=>?_;rw [ze (ne b (by rcases hb with rfl|hb<;>simp_all))];exact e
 .rw [h2,ze (ne sl (by simp))];exact D.sides
theorem Cp:zw ["self"] ["self"] (zm qx):=fsc
theorem B9(F:Fun K "stretches" "Disk.stretches" qx f fd)(T:Txt w K mg A):zo P w K mg base CX0 cm 1 f fd ["self"] (gq A λ_ d=>.int d.rows.length):=by
 refine F.ok Cp (λvs H Q E h=>?_) (λZ1 Ar outer s H vs Q E hr h=>?_)
 .obtain ⟨p,wl,sl,cells,m,d,rfl,_⟩:=h;rfl
 .obtain ⟨p,wl,sl,cells,m,d,rfl,D,q⟩:=h;obtain ⟨dx,h1⟩:=D.ob;refine ⟨_,(W.h (zh (zx (zK cO rfl T.n_len Mr (za (fD (ae T.cl_Disk T.na_Disk_written (clE (zb 0)))) zc))))),?_⟩;simp_all only [h1,D.rows.w,gM,KE,D.rows.len];exact q
theorem JQ:zw ["self"] ["self"] (zm nY):=fsc
theorem B4(F:Fun K "places" "Disk.places" nY f fd)(T:Txt w K mg A):zo P w K mg base CX0 cm 1 f fd ["self"] (gq A λm _=>.int m):=by
 refine F.ok JQ (λvs H Q E h=>?_) (λZ1 Ar outer s H vs Q E hr h=>?_)
 .obtain ⟨p,wl,sl,cells,m,d,rfl,_⟩:=h;rfl
 .obtain ⟨p,wl,sl,cells,m,d,rfl,D,q⟩:=h;obtain ⟨dx,h1⟩:=D.ob;refine ⟨_,(W.h (zh (zx (fD (ae T.cl_Disk T.na_Disk_width (clE (zb 0))))))),?_⟩;simp_all only [h1,pC];exact q
theorem Iz:zw ["self","stretch"] ["self","stretch"] (zm my):=fsc
theorem GK(F:Fun K "next_place" "Disk.next_place" my f fd)(T:Txt w K mg A):zo P w K mg base CX0 cm 1 f fd ["self","stretch"] (xZ A):=by
 refine F.ok Iz (λvs H Q E h=>?_) (λZ1 Ar outer s H vs Q E hr h=>?_)
 .obtain ⟨p,wl,sl,cells,m,d,k,rfl,_⟩:=h;rfl
 .obtain ⟨p,wl,sl,cells,m,d,k,rfl,D,hk,q⟩:=h;obtain ⟨dx,h1⟩:=D.ob;obtain ⟨c,hc,ha,hH⟩:=D.rows.cell hk;refine ⟨_,(W.h (zh (zx (zK cO rfl T.n_len Mr (za (zH c8 (fD (ae T.cl_Disk T.na_Disk_written (clE (zb 0)))) (zb 1) (λ_ _=>rfl)) zc))))),?_⟩;simp_all only [h1,D.rows.w,gM,ha,hH,KE];exact q
theorem vz:zw ["self","stretch","place","texts"] ["self","stretch","place"] (zm qF):=fsc
theorem IM(F:Fun K "told" "Disk.told" qF f fd)(T:Txt w K mg A):zo P w K mg base CX0 cm 1 f fd ["self","stretch","place"] (vf A):=by
 refine F.ok vz (λvs H Q E h=>?_) (λZ1 Ar outer s H vs Q E hr h=>?_)
 .obtain ⟨p,wl,sl,cells,m,d,k,j,rfl,_⟩:=h;rfl
 .obtain ⟨p,wl,sl,cells,m,d,k,j,rfl,D,hk,q⟩:=h;obtain ⟨dx,h1⟩:=D.ob;obtain ⟨c,hc,ha,hH⟩:=D.rows.cell hk;refine ⟨_,(W.h (zg (zA (i:=3) vz.nd rfl (LQ rfl) (zH c8 (fD (ae T.cl_Disk T.na_Disk_written (clE (zb 0)))) (zb 1) (λ_ _=>rfl)))
   (zh (zx (jS (tD (zL (clO (oI0 fT)) (clE (zb 2)) (clE (zK cO rfl T.n_len Mr (za (zb 3) zc))) (zF _))) (zH c8 (zb 3) (zb 2) (λ_ _=>rfl)) bf))))),?_⟩
  simp_all only [h1,D.rows.w,gM,ha,hH,KE];refine aj (λh=>?_) (λh=>?_)
  .have hj:j<(d.rows.getD k []).length:=by have:=of_decide_eq_true h;lia
   refine ⟨_,cB (by rw [L6,il hj];rfl),?_⟩;unfold jq at q;rw [LG,il hj] at q;exact q
  .have hj : ¬ j<(d.rows.getD k []).length:=λz=>h (decide_eq_true (by lia));unfold jq at q;rw [LG,Nn (by lia)] at q;exact q
theorem Fc:zw ["self"] ["self"] (zm jV):=fsc
theorem By(F:Fun K "refuse_if_stopped" "Disk.refuse_if_stopped" jV f fd)(T:Txt w K mg A):zo P w K mg base (CXW P w) true 1 f fd ["self"] (iK A):=by
 refine F.okW Fc (λvs H Q E h=>?_) (λZ1 Ar outer s H vs Q E hr h=>?_)
 .obtain ⟨p,wl,sl,cells,m,d,rfl,_⟩:=h;rfl
 .obtain ⟨p,wl,sl,cells,m,d,rfl,D,q1,q2⟩:=h;obtain ⟨dx,h1⟩:=D.ob;have Th:=eX (cm:=true) (P:=P) (w:=w) (K:=K) (mg:=mg) (base:=base) (N:=["self"]) (qual:="Disk.refuse_if_stopped") (scope:=zm jV) (f:=f) (cd:=Z1) (A:=Ar) (outer:=outer) (s:=s) (H:=H) (E:=E);refine ⟨_,(W.h (zh (zR (aX (fD (ae T.cl_Disk T.na_Disk_has_stopped (clE (zb 0)))))
   (zh (h7 rfl Th T.ek_Stopped rfl T.mg_Stopped (za zI zc)))
   aa))),?_⟩
  simp_all only [h1,wb];refine aj (λh=>⟨by decide,q1 h⟩) (λh=>q2 (N2.mpr h))
theorem qt:zw ["self","many","done"] ["self","many"] (zm ni):=fsc
theorem Ip(F:Fun K "spend" "Disk.spend" ni f fd)(T:Txt w K mg A):zo P w K mg base CX0 true 1 f fd ["self","many"] (pQ A):=by
 refine F.ok qt (λvs H Q E h=>?_) (λZ1 Ar outer s H vs Q E hr h=>?_)
 .obtain ⟨p,wl,sl,cells,m,d,n,rfl,_⟩:=h;rfl
 .obtain ⟨p,wl,sl,cells,m,d,n,rfl,D,q⟩:=h;obtain ⟨dx,h1⟩:=D.ob;refine ⟨_,(W.h (zg (zA (i:=2) qt.nd rfl (LQ rfl) (zb 1))
   (zg (zR (tD (zL (clO hZ) (clE (fD (ae T.cl_Disk T.na_Disk_left (clE (zb 0))))) (clE bf) (zF _)))
   (zg (zA (i:=2) qt.nd rfl (LQ rfl) (zK (pT rfl) rfl T.n_min boot_min (za (zb 1) (za (fD (ae T.cl_Disk T.na_Disk_left (clE (zb 0)))) zc))))
   (zh (rT T.cl_Disk T.na_Disk_left (zb 0) (zb 2) Jg)))
   aa)
   (zg (rT T.cl_Disk T.na_Disk_counted (zb 0) (zb 2) Av)
   (zg (sfD (aY T.cl_Disk T.na_Disk_has_stopped (clE (zb 0)) (clE (dI (oI0 fT) (zb 2) (zb 1) (zF _)))))
   (zh (zx (zb 2)))))))),?_⟩
  cases hl:d.left with
  | none =>
   simp_all only [h1,vA,hl,lv,zy,lK,lL,sT,qi,iW,dW];have e:d.spend n={ d with cnt:=d.cnt+n,left:=none,st:=decide (n<n) }:=by unfold DM.spend;rw [hl];rfl
   have e2:dn d.left n=n:=by rw [hl];rfl
   rw [e,e2] at q;exact q _ (D.obj rfl rfl) (zr.upd (by simp))
  | some l =>
   simp_all only [h1,vA,hl,lv,zy,lK,lL,sT,qi,iW,dW];have e2:dn d.left n=if l<n then l else n:=by rw [hl];rfl
   have e:d.spend n={ d with cnt:=d.cnt+(if l<n then l else n),left:=some (l-if l<n then l else n),st:=decide ((if l<n then l else n)<n) }:=by unfold DM.spend;rw [e2,hl];rfl
   rw [e,e2] at q;exact q _ (D.obj rfl rfl) (zr.upd (by simp))
theorem yo:zw ["self","text","done"] ["self","text"] (zm jG):=fsc
theorem Jo(F:Fun K "first_signs" "Disk.first_signs" jG f fd)(T:Txt w K mg A)(ZR:GM P w K mg base true 1 A.Disk "spend" ["self","many"] (pQ A))(Z7:GMX P w K mg base true 1 A.Disk "refuse_if_stopped" ["self"] (iK A)):zo P w K mg base (CXW P w) true 2 f fd ["self","text"] (om A):=by
 refine F.okW yo (λvs H Q E h=>?_) (λZ1 Ar outer s H vs Q E hr h=>?_)
 .obtain ⟨p,wl,sl,cells,m,d,t,rfl,_⟩:=h;rfl
 .obtain ⟨p,wl,sl,cells,m,d,t,rfl,D,ht,q⟩:=h;obtain ⟨dx,h1⟩:=D.ob;have hu:_<cLine:=Mi (zQ hr);have Th:=eX (cm:=true) (P:=P) (w:=w) (K:=K) (mg:=mg) (base:=base) (N:=["self","text","done"]) (qual:="Disk.first_signs") (scope:=zm jG) (f:=f) (cd:=Z1) (A:=Ar) (outer:=outer) (s:=s) (H:=H) (E:=E);refine ⟨_,(W.h (zg (zA (i:=2) yo.nd rfl (LQ rfl) (mD (bU (clE (zb 0)) T.cl_Disk ZR hr (clP (za (zK cO rfl T.n_len Mr (za (zb 1) zc)) zc)))))
   (zg (zR (tD (zL (clO (oE (bw hu))) (clE (zb 2)) (clE zj) (zF _)))
   (zh (aq (gy (gj (clE (zb 0)) T.cl_Disk Th Z7 hr))))
   aa)
   (zh (zx (eE fG (zb 1) d6 (ee (zb 2)))))))),?_⟩
  have ht':t.length<=sizeLine:=Mp ht (by decide);simp_all only [h1,u6,ht'];refine ⟨p,wl,sl,cells,m,d,_,rfl,D,λH1 D1 k1=>?_⟩;obtain ⟨q1,q2⟩:=q H1 D1 k1;obtain ⟨dx1,g1⟩:=D1.ob;simp_all only [g1,e9,ht'];refine aj (λh=>?_) (λh=>?_)
  .have h0:=of_decide_eq_true h;refine ⟨p,wl,sl,cells,m,_,rfl,D1,λhs=>?_,λhs=>?_⟩
   .exact ⟨_,rfl,q1 ⟨h0,hs⟩⟩
   .simp_all only [ht'];exact q2 λz=>by rw [z.2] at hs;cases hs
  .exact q2 λz=>h (decide_eq_true z.1)
end
abbrev lD:Stmt:=ax (top 49) 8
abbrev jZ:Stmt:=ax (top 49) 7
abbrev jM:Stmt:=ax (top 49) 9
section
variable {P:LV}{w:Mf}{K:Frag}{mg:Str->Option Value}{base:Heap}{A:zi}
theorem zE.setRow{p:Addr}{k:Nat}{r:List Tx}(D:zE A H p wl sl cells m d)(hc:cells[k]?=some c):zE A (upd H c (.lst (r.map tv))) p wl sl cells m { d with rows:=d.rows.set k r }:=by
 have hm:=LX hc;have nd:=D.nd;simp only [MU,LI,not_or] at nd;obtain ⟨⟨n1,n2,n3⟩,⟨n4,n5⟩,n6,n7⟩:=nd;obtain ⟨dx,h⟩:=D.ob;have e1:p≠c:=λz=>n3 (by rw [z];exact hm);have e2:sl≠c:=λz=>n6 (by rw [z];exact hm);exact ⟨⟨dx,by rw [ze e1];exact h⟩,D.rows.set (MU.mpr ⟨n5,n7⟩) hc,by rw [ze e2];exact D.sides,D.nd⟩
theorem zE.setSides{p:Addr}{r:List Tx}(D:zE A H p wl sl cells m d):zE A (upd H sl (.lst (r.map tv))) p wl sl cells m { d with sides:=r }:=by
 have nd:=D.nd;simp only [MU,LI,not_or] at nd;obtain ⟨⟨n1,n2,n3⟩,⟨n4,n5⟩,n6,n7⟩:=nd;obtain ⟨dx,h⟩:=D.ob;refine ⟨⟨dx,by rw [ze n2];exact h⟩,D.rows.keep λb o e hb=>?_,zy,D.nd⟩;have:b≠sl:=by
  rcases hb with rfl|hb
  .exact n4
  .exact λz=>n6 (by rw [<- z];exact hb)
 rw [ze this];exact e
def Out(A:zi)(r:Res)(Q:VK)(E:XK)(H:Hp):Prop:=match r with | .val v=>Q v H | .full=>E (.ref A.Full) none H | .stop=>E (.ref A.Stopped) none H
def small(d:DM):Prop:=∀k,(d.rows.getD k []).length<=1000
def oA(A:zi):Sp:=λvs H Q E=>∃(p wl sl:Addr)(cells:List Addr)(m:Int)(d:DM)(k:Nat)(t:Str),vs=[.ref p,.int k,.str t]/\zE A H p wl sl cells m d/\k<d.rows.length/\t.length<=1000/\small d /\
 ∀H',zE A H' p wl sl cells m (d.write m k t).2->zr (p::wl::sl::cells) H H'->Out A (d.write m k t).1 Q E H'
def xF(A:zi):Sp:=λvs H Q E=>∃(p wl sl:Addr)(cells:List Addr)(m:Int)(d:DM)(k:Nat)(t:Str),vs=[.ref p,.int k,.str t]/\zE A H p wl sl cells m d/\k<d.sides.length/\d.sides.length=2/\t.length<=1000 /\
 ∀H',zE A H' p wl sl cells m (d.put k t).2->zr (p::wl::sl::cells) H H'->Out A (d.put k t).1 Q E H'
def pj(A:zi):Sp:=λvs H Q E=>∃(p wl sl:Addr)(cells:List Addr)(m:Int)(d:DM)(k:Nat),vs=[.ref p,.int k]/\zE A H p wl sl cells m d/\k<d.rows.length/\small d/\(∀l,d.left=some l->0<=l) /\
 ∀H',zE A H' p wl sl cells m (d.empty k).2->zr (p::wl::sl::cells) H H'->Out A (d.empty k).1 Q E H'
theorem so:(d.spend n).rows=d.rows:=rfl
theorem yT:(d.spend n).sides=d.sides:=rfl
theorem A7{r:List Tx}{t:Str}:r.map tv++[V.str (Txt.slice t none (some n))]=(r++[fQ t n]).map tv:=by rw [Mq];rfl
theorem mJ:zw ["self","stretch","text","texts","place"] ["self","stretch","text"] (zm jZ):=fsc
theorem BA(F:Fun K "write" "Disk.write" jZ f fd)(T:Txt w K mg A)(Z0:GMX P w K mg base true 2 A.Disk "first_signs" ["self","text"] (om A))(Z7:GMX P w K mg base true 1 A.Disk "refuse_if_stopped" ["self"] (iK A)):zo P w K mg base (CXW P w) true 3 f fd ["self","stretch","text"] (oA A):=by
 refine F.okW mJ (λvs H Q E h=>?_) (λZ1 Ar outer s H vs Q E hr h=>?_)
 .obtain ⟨p,wl,sl,cells,m,d,k,t,rfl,_⟩:=h;rfl
 .obtain ⟨p,wl,sl,cells,m,d,k,t,rfl,D,hk,ht,hsm,q⟩:=h;obtain ⟨dx,h1⟩:=D.ob;have hu:_<cLine:=Mi (zQ hr);obtain ⟨c,hc,ha,hH⟩:=D.rows.cell hk;have Th:=eX (cm:=true) (P:=P) (w:=w) (K:=K) (mg:=mg) (base:=base) (N:=["self","stretch","text","texts","place"]) (qual:="Disk.write") (scope:=zm jZ) (f:=f) (cd:=Z1) (A:=Ar) (outer:=outer) (s:=s) (H:=H) (E:=E);refine ⟨_,(W.h (zg (aq (gy (gj (clE (zb 0)) T.cl_Disk Th Z7 hr)))
   (zg (zA (i:=3) mJ.nd rfl (LQ rfl) (zH c8 (fD (ae T.cl_Disk T.na_Disk_written (clE (zb 0)))) (zb 1) (λ_ _=>rfl)))
   (zg (zA (i:=4) mJ.nd rfl (LQ rfl) (zK cO rfl T.n_len Mr (za (zb 3) zc)))
   (zg (zR (tD (zL (clO (oE (bw hu))) (clE (zb 4)) (clE (fD (ae T.cl_Disk T.na_Disk_width (clE (zb 0))))) (zF _)))
   (zh (h7 rfl Th T.ek_Full rfl T.mg_Full (za zI zc)))
   aa)
   (zg (aq (gF (zb 3) (mXD (fU (clE (zb 0)) T.cl_Disk Th Z0 hr (clP (za (zb 2) zc))))))
   (zg (aq (gy (gj (clE (zb 0)) T.cl_Disk Th Z7 hr)))
   (zh (zx (zb 4)))))))))),?_⟩
  simp_all only [h1,e9];unfold DM.write at q;refine ⟨p,wl,sl,cells,m,d,rfl,D,λhs=>?_,λhs=>?_⟩
  .rw [if_pos hs] at q;exact ⟨_,rfl,q H D zr.refl⟩
  rw [if_neg (by rw [hs];exact LM)] at q;simp_all only [h1,D.rows.w,gM,pC,ha,hH,KE];refine aj (λh=>?_) (λh=>?_)
  .rw [if_pos (of_decide_eq_true h)] at q;exact ⟨by decide,q H D zr.refl⟩
  rw [if_neg (λz=>h (decide_eq_true z))] at q;simp_all only [h1,hH,t9];refine ⟨p,wl,sl,cells,m,d,t,rfl,D,ht,λH1 D1 k1=>⟨λhz=>?_,λhz=>?_⟩⟩
  .rw [if_pos hz] at q;exact ⟨_,rfl,q H1 D1 (k1.mono (by simp))⟩
  rw [if_neg hz] at q;obtain ⟨dx1,g1⟩:=D1.ob;have gc:=D1.rows.at_ k c hc;rw [so] at gc;have D2:=D1.setRow (r:=d.rows.getD k []++[fQ t (dn d.left t.length)]) hc;obtain ⟨XB,g2⟩:=D2.ob;simp_all only [gc,A7,g2,e9];refine ⟨by rw [KE];exact qA (hsm k),p,wl,sl,cells,m,_,rfl,D2,λYv=>⟨_,rfl,?_⟩,λYv=>?_⟩
  .have hs2':(d.spend t.length).st=true:=Yv;have q2:=q _ D2 ((k1.mono (by simp)).trans (zr.upd (by simp [LX hc])));rw [if_pos hs2'] at q2;exact q2
  .have hs2':(d.spend t.length).st=false:=Yv;simp_all only [];have q2:=q _ D2 ((k1.mono (by simp)).trans (zr.upd (by simp [LX hc])));rw [if_neg (by rw [hs2'];exact LM)] at q2;exact q2
theorem Gn:zw ["self","k","text"] ["self","k","text"] (zm lD):=fsc
theorem BV(F:Fun K "put_side" "Disk.put_side" lD f fd)(T:Txt w K mg A)(Z0:GMX P w K mg base true 2 A.Disk "first_signs" ["self","text"] (om A))(Z7:GMX P w K mg base true 1 A.Disk "refuse_if_stopped" ["self"] (iK A)):zo P w K mg base (CXW P w) true 3 f fd ["self","k","text"] (xF A):=by
 refine F.okW Gn (λvs H Q E h=>?_) (λZ1 Ar outer s H vs Q E hr h=>?_)
 .obtain ⟨p,wl,sl,cells,m,d,k,t,rfl,_⟩:=h;rfl
 .obtain ⟨p,wl,sl,cells,m,d,k,t,rfl,D,hk,Yi,ht,q⟩:=h;obtain ⟨dx,h1⟩:=D.ob;have hu:_<cLine:=Mi (zQ hr);have Th:=eX (cm:=true) (P:=P) (w:=w) (K:=K) (mg:=mg) (base:=base) (N:=["self","k","text"]) (qual:="Disk.put_side") (scope:=zm lD) (f:=f) (cd:=Z1) (A:=Ar) (outer:=outer) (s:=s) (H:=H) (E:=E);refine ⟨_,(W.h (zg (aq (gy (gj (clE (zb 0)) T.cl_Disk Th Z7 hr)))
   (zg (cW (mXD (fU (clE (zb 0)) T.cl_Disk Th Z0 hr (clP (za (zb 2) zc)))) (dY (fD (ae T.cl_Disk T.na_Disk_at_sides (clE (zb 0)))) (zb 1) gZ))
   (zh (aq (gy (gj (clE (zb 0)) T.cl_Disk Th Z7 hr))))))),?_⟩
  simp_all only [h1,e9];unfold DM.put at q;refine ⟨p,wl,sl,cells,m,d,rfl,D,λhs=>?_,λhs=>?_⟩
  .rw [if_pos hs] at q;exact ⟨_,rfl,q H D zr.refl⟩
  rw [if_neg (by rw [hs];exact LM)] at q;simp_all only [h1,t9];refine ⟨p,wl,sl,cells,m,d,t,rfl,D,ht,λH1 D1 k1=>⟨λhz=>?_,λhz=>?_⟩⟩
  .rw [if_pos hz] at q;exact ⟨_,rfl,q H1 D1 (k1.mono (by simp))⟩
  rw [if_neg hz] at q;obtain ⟨dx1,g1⟩:=D1.ob;have gs:=D1.sides;rw [yT] at gs;have D2:=D1.setSides (r:=d.sides.set k (fQ t (dn d.left t.length)));obtain ⟨XB,g2⟩:=D2.ob;have ix:ixN (d.sides.map tv).length (k:Int)=some k:=by
   unfold ixN;rw [if_pos (by lia),if_pos (by rw [KE];lia)];simp
  have sm:(d.sides.map tv).set k (V.str (Txt.slice t none (some (dn d.left t.length))))=(d.sides.set k (fQ t (dn d.left t.length))).map tv:=by rw [map_set];rfl
  simp_all only [g1,gs,uV,ix,sm,g2,e9];refine ⟨p,wl,sl,cells,m,_,rfl,D2,λYv=>⟨_,rfl,?_⟩,λYv=>?_⟩
  .have hs2':(d.spend t.length).st=true:=Yv;have q2:=q _ D2 ((k1.mono (by simp)).trans (zr.upd (by simp)));rw [if_pos hs2'] at q2;exact q2
  .have hs2':(d.spend t.length).st=false:=Yv;simp_all only [];have q2:=q _ D2 ((k1.mono (by simp)).trans (zr.upd (by simp)));rw [if_neg (by rw [hs2'];exact LM)] at q2;exact q2
end
abbrev lO:Stmt:=top 17
abbrev mT:Stmt:=top 18
abbrev kC:Stmt:=ax (top 49) 0
abbrev kH:Stmt:=ax (top 49) 11
inductive Thg(H:Hp):V->Prop
 | non:Thg H .non
 | bl (b:Bool):Thg H (.bl b)
 | int (i:Int):Thg H (.int i)
 | str (x:Str):Thg H (.str x)
 | lst {a:Addr}{xs:List V}:H a=some (.lst xs)->Thg H (.ref a)
 | tup {a:Addr}{xs:List V}:H a=some (.tup xs)->Thg H (.ref a)
 | dic {a:Addr}{kvs:List (Key×V)}:H a=some (.dK kvs)->Thg H (.ref a)
def oS:V->Bool | .int _=>true|_=>false
def hW(v:V)(a b:Int):Bool:=match v with | .int i=>decide (a<=i)&&decide (i<=b)|_=>false
def ll:Sp:=λvs H Q _=>∃v,vs=[v]/\Thg H v/\Q (.bl (oS v)) H
def jP:Sp:=λvs H Q _=>∃v a b,vs=[v,.int a,.int b]/\Thg H v/\Q (.bl (hW v a b)) H
section
variable {P:LV}{w:Mf}{K:Frag}{mg:Str->Option Value}{base:Heap}{A:zi}
theorem sD(t:Thg H v)(q:Q (.bl (match v with | .int _=>true | .bl _=>true|_=>false)) H):kK X.K [v,.ty "int"] H Q:=by
 cases t with
 | non=>exact ⟨_,_,_,_,_,rfl,rfl,.of .non,rfl,q⟩
 | bl b=>exact ⟨_,_,_,_,_,rfl,rfl,.of (.bl b),rfl,q⟩
 | int i=>exact ⟨_,_,_,_,_,rfl,rfl,.of (.int i),rfl,q⟩
 | str x=>exact ⟨_,_,_,_,_,rfl,rfl,.of (.str x),rfl,q⟩
 | lst h=>exact ⟨_,_,_,_,_,rfl,rfl,.of (.lst h),rfl,q⟩
 | tup h=>exact ⟨_,_,_,_,_,rfl,rfl,.of (.tup h),rfl,q⟩
 | dic h=>exact ⟨_,_,_,_,_,rfl,rfl,.of (.dK h),rfl,q⟩
theorem ki(t:Thg H v)(q:Q (.bl (match v with | .bl _=>true|_=>false)) H):kK X.K [v,.ty "bool"] H Q:=by
 cases t with
 | non=>exact ⟨_,_,_,_,_,rfl,rfl,.of .non,rfl,q⟩
 | bl b=>exact ⟨_,_,_,_,_,rfl,rfl,.of (.bl b),rfl,q⟩
 | int i=>exact ⟨_,_,_,_,_,rfl,rfl,.of (.int i),rfl,q⟩
 | str x=>exact ⟨_,_,_,_,_,rfl,rfl,.of (.str x),rfl,q⟩
 | lst h=>exact ⟨_,_,_,_,_,rfl,rfl,.of (.lst h),rfl,q⟩
 | tup h=>exact ⟨_,_,_,_,_,rfl,rfl,.of (.tup h),rfl,q⟩
 | dic h=>exact ⟨_,_,_,_,_,rfl,rfl,.of (.dK h),rfl,q⟩
theorem Gu:zw ["value"] ["value"] (zm lO):=fsc
theorem Dv(F:Fun K "is_whole" "is_whole" lO f fd)(T:Txt w K mg A):zo P w K mg base CX0 cm 1 f fd ["value"] ll:=by
 refine F.ok Gu (λvs H Q E h=>?_) (λZ1 Ar outer s H vs Q E hr h=>?_)
 .obtain ⟨v,rfl,_⟩:=h;rfl
 .obtain ⟨v,rfl,th,q⟩:=h;refine ⟨_,(W.h (zh (zx (anD (kh (clE (zK fA rfl T.n_isinstance NH (za (zb 0) (za (fP rfl T.n_int boot_int (v:=.ty "int") rfl) zc)))) (iH (ntD (vQ (clE (zK fA rfl T.n_isinstance NH (za (zb 0) (za (fP rfl T.n_bool boot_bool (v:=.ty "bool") rfl) zc)))))))))))),?_⟩;simp_all only [];refine sD th ?_;cases th with
  | int i=>dsimp only [bD];exact gK (ki (.int i) q)
  | bl i=>dsimp only [bD];exact gK (ki (.bl i) q)
  | _=>dsimp only [bD];exact gG q
theorem Ld:zw ["value","least","most"] ["value","least","most"] (zm mT):=fsc
theorem BY(F:Fun K "is_within" "is_within" mT f fd)(T:Txt w K mg A)(YL:GF P w K mg base cm 1 "is_whole" ["value"] ll):zo P w K mg base CX0 cm 2 f fd ["value","least","most"] jP:=by
 refine F.ok Ld (λvs H Q E h=>?_) (λZ1 Ar outer s H vs Q E hr h=>?_)
 .obtain ⟨v,a,b,rfl,_⟩:=h;rfl
 .obtain ⟨v,a,b,rfl,th,q⟩:=h;refine ⟨_,(W.h (zh (zx (anD (kh (clE (caD (zt YL hr rfl (clP (za (zb 0) zc))))) (iH (uv (oI0 jc) (oI0 jc) (zb 1) (zb 0) (zb 2)))))))),?_⟩;simp_all only [];refine ⟨_,rfl,th,?_⟩;cases th with
  | int i =>
   dsimp only [bD,oS];refine gK ?_;simp_all only [];refine aj (λh=>?_) (λh=>?_)
   .have e:hW (.int i) a b=decide (i<=b):=by show (decide (a<=i)&&_)=_;rw [h];rfl
    rw [<- e];exact q
   .have e:hW (.int i) a b=false:=by show (decide (a<=i)&&_)=_;rw [N2.mpr h];rfl
    rw [<- e];exact q
  | _=>dsimp only [bD,oS];exact gG q
def DM.new(n:Nat):DM:=⟨Mg n [],[none,none],0,none,false⟩
def qD(A:zi):Sp:=λvs H Q _=>∃(p dx:Addr)(n m:Int),vs=[.ref p,.int n,.int m]/\H p=some (.ins A.Disk dx [])/\3<=n/\n<=16/\2<=m/\m<=32 /\
 ∀(wl sl:Addr)(cells:List Addr)(H':Hp),zE A H' p wl sl cells m (DM.new n.toNat)->(∀b o,H b=some o->b≠p->H' b=some o)->(∀x∈wl::sl::cells,H x=none)->Q .non H'
structure sG(H:Hp)(i:Nat)(τ:L2.St)(ys:List V)(H':Hp):Prop where
 τ:∃t,τ=[t]
 ex:∃cells:List Addr,ys=cells.map V.ref/\cells.length=i/\(∀c∈cells,H' c=some (.lst [])/\H c=none)/\cells.Nodup
 same:zl H H'
 le:i<=16
theorem Be:zw ["self","stretches","places"] ["self","stretches","places"] (zm kC):=fsc
theorem FJ:aQ { kind:=.function,names:=[(vv ".0",.local),(vv "number",.local)],isGenerator:=false,isCoroutine:=false,more:=[] } (zm kC).names ["self","stretches","places"] ["number"] [none]=true:=by decide +kernel
theorem HE:(["number"]:List Str).Nodup:=by decide +kernel
theorem CP(F:Fun K "__init__" "Disk.__init__" kC f fd)(T:Txt w K mg A)(ZX:GF P w K mg base cm 2 "is_within" ["value","least","most"] jP):zo P w K mg base CX0 cm 3 f fd ["self","stretches","places"] (qD A):=by
 refine F.ok Be (λvs H Q E h=>?_) (λZ1 Ar outer s H vs Q E hr h=>?_)
 .obtain ⟨p,dx,n,m,rfl,_⟩:=h;rfl
 .obtain ⟨p,dx,n,m,rfl,hp,n0,n1,m0,m1,q⟩:=h;have h1:hW (.int n) 3 16=true:=by show (decide _&&decide _)=true;rw [decide_eq_true n0,decide_eq_true n1];rfl
  have h2:hW (.int m) 2 32=true:=by show (decide _&&decide _)=true;rw [decide_eq_true m0,decide_eq_true m1];rfl
  refine ⟨_,(W.h (zg (zR (cQ (aX (caD (zt ZX hr rfl (clP (za (zb 1) (za (cT rfl T.c_LEAST_STRETCHES) (za (cT rfl T.c_MOST_STRETCHES) zc))))))))
   (zh gL)
   aa)
   (zg (zR (cQ (aX (caD (zt ZX hr rfl (clP (za (zb 2) (za (cT rfl T.c_LEAST_PLACES) (za (cT rfl T.c_MOST_PLACES) zc))))))))
   (zh gL)
   aa)
   (zg (sfD (aY T.cl_Disk T.na_Disk_width (clE (zb 0)) (clE (zb 2))))
   (zg (sfD (aY T.cl_Disk T.na_Disk_written (clE (zb 0)) (clE (cy (by intro h;exact nomatch h) (ar.of FJ) (HR rfl T.n_range (za (zb 1) zc)) (λ_ _ _ _ _=>(zB (i:=0) HE rfl (LQ rfl))) (λ_ _ _ _ _=>cN) (λ_ _ _ _ _=>(aw zc))))))
   (zg (sfD (aY T.cl_Disk T.na_Disk_at_sides (clE (zb 0)) (clE (aw (za bf (za bf zc))))))
   (zg (sfD (aY T.cl_Disk T.na_Disk_counted (clE (zb 0)) (clE zj)))
   (zg (sfD (aY T.cl_Disk T.na_Disk_left (clE (zb 0)) (clE bf)))
   (zh (sfD (aY T.cl_Disk T.na_Disk_has_stopped (clE (zb 0)) (clE bO)))))))))))),?_⟩
  simp_all only [];refine ⟨.int n,3,16,rfl,.int n,?_⟩;simp_all only [h1];refine ⟨.int m,2,32,rfl,.int m,?_⟩;simp_all only [h2,hp,zy,zP,bW];refine ⟨by decide,by lia,by lia,zS.rng (sG (upd H p (.ins A.Disk dx [("width",.int m)]))) (λi τ ys H' I=>?_) ⟨⟨_,rfl⟩,⟨[],rfl,rfl,by simp,nodup_nil⟩,zl.refl _,by decide⟩ ?_ ?_⟩
  .obtain ⟨cells,e,l,_⟩:=I.ex;rw [e,KE,l];exact qA (Mp I.le (by decide))
  .intro N i τ ys H' hi I hN;obtain ⟨t,rfl⟩:=I.τ;obtain ⟨cells,e,l,hc,Xw⟩:=I.ex;simp_all only [];refine ⟨by decide,λc H2 n2 _=>hN _ _ _ ⟨⟨_,rfl⟩,⟨cells++[c],by rw [e,Mq];rfl,by simp [l],λb hb=>?_,?_⟩,I.same.trans n2.same,by lia⟩⟩
   .rcases My.mp hb with hb|hb
    .exact ⟨n2.same _ _ (hc b hb).1,(hc b hb).2⟩
    .rw [LU] at hb;subst hb;exact ⟨n2.at_,I.same.free n2.no⟩
   .refine Oi.mpr ⟨Xw,by simp,λa ha b hb=>?_⟩;rw [LU] at hb;subst hb;exact zC (hc a ha).1 n2.no
  .intro τ ys H1 I D H2 nD;obtain ⟨cells,e,l,hc,Xw⟩:=I.ex;have e1:H2 p=some (.ins A.Disk dx [("width",.int m)]):=nD.same _ _ (I.same _ _ zy);have w1:zP "written" (.ref D) [(("width":Str),V.int m)]=[(("width":Str),V.int m),("written",.ref D)]:=by kernel_rfl
   refine ⟨dx,_,e1,by show 1<1000;decide,by decide,λs1 H3 n3 _=>?_⟩;rw [w1] at n3;have e3:H3 p=some (.ins A.Disk dx [("width",.int m),("written",.ref D)]):=n3.same _ _ zy;have w2:zP "at_sides" (.ref s1) [(("width":Str),V.int m),("written",.ref D)]=[(("width":Str),V.int m),("written",.ref D),("at_sides",.ref s1)]:=by kernel_rfl
   have w3:zP "counted" (.int 0) [(("width":Str),V.int m),("written",.ref D),("at_sides",.ref s1)]=[(("width":Str),V.int m),("written",.ref D),("at_sides",.ref s1),("counted",.int 0)]:=by kernel_rfl
   have w4:zP "left" .non [(("width":Str),V.int m),("written",.ref D),("at_sides",.ref s1),("counted",.int 0)]=[(("width":Str),V.int m),("written",.ref D),("at_sides",.ref s1),("counted",.int 0),("left",.non)]:=by kernel_rfl
   have w5:zP "has_stopped" (.bl false) [(("width":Str),V.int m),("written",.ref D),("at_sides",.ref s1),("counted",.int 0),("left",.non)]=zG m D s1 (DM.new n.toNat):=by kernel_rfl
   refine ⟨dx,_,e3,?_⟩;rw [w2,w3,w4,w5,dW,dW,dW];refine ⟨by show 2<1000;decide,by show 3<1000;decide,by show 4<1000;decide,by show 5<1000;decide,?_⟩;have pD:p≠D:=zC (I.same _ _ zy) nD.no;have ps:p≠s1:=zC zy n3.no;have H3of:∀b o,b≠p->H2 b=some o->H3 b=some o:=λb o hb h=>n3.same _ _ (by rw [ze hb];exact h);have hDat:=nD.at_;rw [e] at hDat;have cp:∀c∈cells,c≠p:=λc Yx z=>by have:=(hc c Yx).2;rw [z,zy] at this;cases this
   have cD:∀c∈cells,c≠D:=λc Yx=>zC (hc c Yx).1 nD.no;have cs:∀c∈cells,c≠s1:=λc Yx=>zC (show (upd H2 p (.ins A.Disk dx [("width",.int m),("written",.ref D)])) c=some _ by rw [ze (cp c Yx)];exact nD.same _ _ (hc c Yx).1) n3.no;have Ds:D≠s1:=zC (show (upd H2 p (.ins A.Disk dx [("width",.int m),("written",.ref D)])) D=some _ by rw [ze (L8 pD)];exact hDat) n3.no;have Hn:∀b,b≠p->(upd H p (.ins A.Disk dx [("width",V.int m)])) b=none->H b=none:=λb hb h=>by rw [ze hb] at h;exact h
   refine q D s1 cells _ ⟨⟨dx,zy⟩,⟨?_,?_,λi c hi=>?_⟩,?_,?_⟩ (λb o hb YU=>?_) (λx hx=>?_)
   .rw [ze (L8 pD)];exact H3of D _ (L8 pD) hDat
   .simp [DM.new,l]
   .have Yx:=LX hi;rw [ze (cp c Yx),H3of c _ (cp c Yx) (nD.same _ _ (hc c Yx).1)];have:((DM.new n.toNat).rows.getD i [])=[]:=by
     unfold DM.new;rw [LG,NV];split<;>rfl
    rw [this];rfl
   .rw [ze (L8 ps)];exact n3.at_
   .simp only [MU,LI,not_or];exact ⟨⟨pD,ps,λz=>cp p z rfl⟩,⟨Ds,λz=>cD D z rfl⟩,λz=>cs s1 z rfl,Xw⟩
   .rw [ze YU];exact H3of b _ YU (nD.same _ _ (I.same _ _ (by rw [ze YU];exact hb)))
   .simp only [LI] at hx;rcases hx with rfl|rfl|hx
    .exact Hn _ (L8 pD) (I.same.free nD.no)
    .have z:=n3.no;rw [ze (L8 ps)] at z;exact Hn _ (L8 ps) (I.same.free (nD.same.free z))
    .exact Hn _ (cp x hx) (hc x hx).2
theorem DV(h:H a=some o):upd H a o=H:=by
 funext b;by_cases hb:b=a
 .rw [hb,zy,h]
 .rw [ze hb]
def fh(i:Nat)(r:List Tx):List Tx:=Mg i none++r.drop i
theorem y8{i:Nat}{r:List Tx}(h:i<=r.length):(fh i r).length=r.length:=by simp [fh];lia
theorem Gc{i:Nat}{r:List Tx}(h:i<r.length):((fh i r).map tv).set i .non=(fh (i+1) r).map tv:=by
 have e:V.non=tv none:=rfl;rw [e,<- map_set];congr 1;unfold fh;rw [List.set_append_right _ _ (by simp)];have h2:r.drop i=r[i]::r.drop (i+1):=NC h;rw [h2,MQ,Nat.sub_self,List.set_cons_zero,List.replicate_succ',List.append_assoc];rfl
structure A0(H1:Hp)(p c:Addr)(k:Nat)(n:Int)(r:List Tx)(i:Nat)(σ:L2.St)(H':Hp):Prop where
 ex:∃x,σ=[some (V.ref p),some (.int k),some (.ref c),some (.int n),x]
 at_:H'=upd H1 c (.lst ((fh i r).map tv))
 le:i<=r.length
theorem lH:zw ["self","stretch","texts","done","place"] ["self","stretch"] (zm jM):=fsc
theorem FU(F:Fun K "empty" "Disk.empty" jM f fd)(T:Txt w K mg A)(ZR:GM P w K mg base true 1 A.Disk "spend" ["self","many"] (pQ A))(Z7:GMX P w K mg base true 1 A.Disk "refuse_if_stopped" ["self"] (iK A)):zo P w K mg base (CXW P w) true 2 f fd ["self","stretch"] (pj A):=by
 refine F.okW lH (λvs H Q E h=>?_) (λZ1 Ar outer s H vs Q E hr h=>?_)
 .obtain ⟨p,wl,sl,cells,m,d,k,rfl,_⟩:=h;rfl
 .obtain ⟨p,wl,sl,cells,m,d,k,rfl,D,hk,hsm,hl,q⟩:=h;obtain ⟨dx,h1⟩:=D.ob;obtain ⟨c,hc,ha,hH⟩:=D.rows.cell hk;have Th:=eX (cm:=true) (P:=P) (w:=w) (K:=K) (mg:=mg) (base:=base) (N:=["self","stretch","texts","done","place"]) (qual:="Disk.empty") (scope:=zm jM) (f:=f) (cd:=Z1) (A:=Ar) (outer:=outer) (s:=s) (H:=H) (E:=E);refine ⟨_,(W.h (zg (aq (gy (gj (clE (zb 0)) T.cl_Disk Th Z7 hr)))
   (zg (zA (i:=2) lH.nd rfl (LQ rfl) (zH c8 (fD (ae T.cl_Disk T.na_Disk_written (clE (zb 0)))) (zb 1) (λ_ _=>rfl)))
   (zg (zA (i:=3) lH.nd rfl (LQ rfl) (mD (bU (clE (zb 0)) T.cl_Disk ZR hr (clP (za (zK cO rfl T.n_len Mr (za (zb 2) zc)) zc)))))
   (zg (zR (aX (fD (ae T.cl_Disk T.na_Disk_has_stopped (clE (zb 0)))))
   (zh (Ih (cb Nb.never (λ_=>rfl) (fq rfl T.n_range (za (zb 3) zc)) (zB (i:=4) lH.nd rfl (LQ rfl))
   (zh (cW bf (dY (zb 2) (zb 4) gZ))))))
   (zh (aq (qU (zb 2)))))
   (zh (aq (gy (gj (clE (zb 0)) T.cl_Disk Th Z7 hr))))))))),?_⟩
  simp_all only [h1,e9];unfold DM.empty at q;refine ⟨p,wl,sl,cells,m,d,rfl,D,λhs=>?_,λhs=>?_⟩
  .rw [if_pos hs] at q;exact ⟨_,rfl,q H D zr.refl⟩
  rw [if_neg (by rw [hs];exact LM)] at q;simp_all only [h1,D.rows.w,gM,ha,hH,KE,u6];generalize hr0:d.rows.getD k []=r at q hH ⊢;have hrl:r.length<=1000:=by rw [<- hr0];exact hsm k
  refine ⟨p,wl,sl,cells,m,d,_,rfl,D,λH1 D1 k1=>?_⟩;obtain ⟨dx1,g1⟩:=D1.ob;have gc:=D1.rows.at_ k c hc;rw [so,hr0] at gc;have hn0:0<=dn d.left r.length:=by
   unfold dn;split
   .lia
   .rename_i l e;have:=hl l e;split<;>lia
  have hn1:dn d.left r.length<=r.length:=by
   unfold dn;split
   .lia
   .split<;>lia
  have kF:∀o,zr (p::wl::sl::cells) H (upd H1 c o):=λo=>(k1.mono (by simp)).trans (zr.upd (by simp [LX hc]));simp_all only [g1,wb];refine aj (λhst=>?_) (λhst=>?_)
  .rw [if_pos hst] at q;refine ⟨by lia,by lia,aB.rng (A0 H1 p c k (dn d.left r.length) r) ⟨⟨_,rfl⟩,(DV gc).symm,MM _⟩ ?_ ?_⟩
   .rintro i σ H' hi ⟨⟨x,rfl⟩,rfl,hle⟩;have ix:ixN ((fh i r).map tv).length (0+(i:Int))=some i:=by
     unfold ixN;rw [if_pos (by lia),if_pos (by rw [KE,y8 hle];lia)];simp
    simp_all only [zy,ix,dW,Gc (show i<r.length by lia)];exact ⟨⟨_,rfl⟩,rfl,by lia⟩
   .rintro σ H' ⟨⟨x,rfl⟩,rfl,hle⟩;have D2:=D1.setRow (r:=fh (dn d.left r.length).toNat r) hc;obtain ⟨XB,g2⟩:=D2.ob;simp_all only [g2,e9];refine ⟨p,wl,sl,cells,m,_,rfl,D2,λYv=>⟨_,rfl,q _ D2 (kF _)⟩,λYv=>?_⟩;have hs2':(d.spend r.length).st=false:=Yv;rw [hs2'] at hst;cases hst
  .rw [if_neg hst] at q;have D2:=D1.setRow (r:=[]) hc;obtain ⟨XB,g2⟩:=D2.ob;have g2':upd H1 c (.lst []) p=some (.ins A.Disk XB (zG m wl sl { d.spend r.length with rows:=(d.spend r.length).rows.set k [] })):=g2;simp_all only [gc,g2',e9];refine ⟨p,wl,sl,cells,m,_,rfl,D2,λYv=>absurd Yv hst,λYv=>?_⟩;simp_all only [];exact q _ D2 (kF _)
def DM.copy(d:DM):DM:={ d with left:=none,st:=false }
def uD(A:zi):Sp:=λvs H Q _=>∃(p wl sl:Addr)(cells:List Addr)(m:Int)(d:DM),vs=[.ref p]/\zE A H p wl sl cells m d/\3<=d.rows.length/\d.rows.length<=16/\2<=m/\m<=32 /\
 ∀(p' XA XX:Addr)(ZL:List Addr)(H':Hp),zE A H' p' XA XX ZL m d.copy->zl H H'->(∀x∈p'::XA::XX::ZL,H x=none)->Q (.ref p') H'
end
abbrev oY:Stmt:=top 35
abbrev mG:Stmt:=top 36
def rdT:Tx->Option (List V)|none=>none|some z=>bG z
structure dF(d:DM):Prop where
 ok:∀r∈d.rows,r.length<=32/\∀t∈r,∀z,t=some z->asc z=true/\z.length<=1000
 len:d.rows.length<=16
abbrev Tri:=List V×Nat×Nat
def gO:List V->Int|_::.int k::_=>k|_=>0
def one(o:Option (List V))(k j:Nat):List Tri:=match o with|some row=>[(row,k,j)]|none=>[]
theorem sO(o:Option (List V))(k j:Nat):(one o k j).length<=1:=by cases o<;>simp [one]
def rIn(l:List Tx)(k:Nat):Nat->List Tri
 | 0=>[]
 | j+1=>rIn l k j++one (rdT (l.getD j none)) k j
def wU(rows:List (List Tx)):Nat->List Tri
 | 0=>[]
 | i+1=>wU rows i++rIn (rows.getD i []) i (rows.getD i []).length
def gX(H:Hp)(a:Addr)(t:Tri):Prop:=∃r,H a=some (.tup [.ref r,.int t.2.1,.int t.2.2])/\H r=some (.tup t.1)
def bK(H:Hp)(as:List Addr)(ts:List Tri):Prop:=Paired (gX H) as ts
def zD(H H':Hp):Prop:=∀a o,(∀ps,o≠.tbl ps)->H a=some o->H' a=some o
theorem zD.of(s:zl H H'):zD H H':=λa o _ e=>s a o e
theorem zD.refl:zD H H:=λ_ _ _ e=>e
theorem zD.trans(x:zD H H1)(y:zD H1 H2):zD H H2:=λa o n e=>y a o n (x a o n e)
theorem zD.lams{ps:Array Value}(x:iT H H' P)(h:H P=some (.tbl ps)):zD H H':=λa o n e=>x a o (λz=>by subst z;rw [h] at e;cases e;exact n _ rfl) e
theorem zD.lam{pos:Pos}{q:Str}(x:iT H H' P)(h:cX pos q H P):zD H H':=by
 rcases h with h|⟨_,_,_,_,h,_⟩
 .exact zD.lams x h
 .exact zD.lams x h
theorem zD.list(s:zD H H')(h:H a=some (.lst xs)):H' a=some (.lst xs):=s _ _ (λ_=>nofun) h
theorem zD.tup(s:zD H H')(h:H a=some (.tup xs)):H' a=some (.tup xs):=s _ _ (λ_=>nofun) h
theorem zE.sameT{p:Addr}(D:zE A H p wl sl cells m d)(s:zD H H'):zE A H' p wl sl cells m d:=by
 obtain ⟨dx,e⟩:=D.ob;exact ⟨⟨dx,s _ _ (λ_=>nofun) e⟩,⟨s.list D.rows.w,D.rows.len,λi c h=>s.list (D.rows.at_ i c h)⟩,s.list D.sides,D.nd⟩
theorem gX.sameT{t:Tri}(h:gX H a t)(s:zD H H'):gX H' a t:=let ⟨r,e1,e2⟩:=h;⟨r,s.tup e1,s.tup e2⟩
theorem bK.sameT{ts:List Tri}(h:bK H as ts)(s:zD H H'):bK H' as ts:=Paired.mapP h λ_ _ r=>r.sameT s
theorem bK.same{ts:List Tri}(h:bK H as ts)(s:zl H H'):bK H' as ts:=h.sameT (.of s)
theorem dC{R:α->β->Prop}{l1 l2:List α}{m1 m2:List β}(h1:Paired R l1 m1)(h2:Paired R l2 m2):Paired R (l1++l2) (m1++m2):=by
 induction h1 with
 | nil=>exact h2
 | cons r _ ih=>exact .cons r ih
theorem AX{row:List V}(h:bG z=some row):∃y k ys,row = .str y::.int k::ys:=by
 unfold bG at h;obtain ⟨b,_,h⟩:=bind_eq_some_iff.mp h;cases e:MN (M1 b none (some (-1))) (c1 32) with
 | nil=>rw [e] at h;cases h
 | cons w ws =>
  rw [e,eB] at h;obtain ⟨ks,hk,h⟩:=bind_eq_some_iff.mp h;split at h
  .obtain ⟨vs,hv,rfl⟩:=Mh.mp h;have:∃ks',ks=("number":Str)::ks':=by
    unfold dv at hk;split at hk
    .cases hk;exact ⟨_,rfl⟩
    .split at hk
     .cases hk;exact ⟨_,rfl⟩
     .split at hk
      .cases hk;exact ⟨_,rfl⟩
      .split at hk
       .cases hk;exact ⟨_,rfl⟩
       .split at hk
        .cases hk;exact ⟨_,rfl⟩
        .cases hk
   obtain ⟨ks',rfl⟩:=this;cases ws with
   | nil=>rename_i hl;cases hl
   | cons z zs =>
    have hv':(aR "number" z).bind (λv=>(aC ks' zs).map (v::·))=some vs:=hv;obtain ⟨v,h1,h2⟩:=bind_eq_some_iff.mp hv';obtain ⟨X7,_,rfl⟩:=Mh.mp h2;have:∃k,v = .int k:=by
     unfold aR at h1;by_cases hz:bT z=true
     .rw [if_pos ⟨rfl,hz⟩] at h1;cases h1;exact ⟨_,rfl⟩
     .rw [if_neg (λq=>hz q.2),if_neg (λq=>absurd q.1 (by decide)),if_neg (λq=>absurd q.1 (by decide)),if_neg (λq=>absurd q.1 (by decide))] at h1;cases h1
    obtain ⟨k,rfl⟩:=this;exact ⟨w,k,X7,rfl⟩
  .cases h
theorem fo{l:List α}{x:α}(h:j<l.length):l.getD j x∈l:=by
 rw [LG,il h];exact MC h
section
variable {P:LV}{w:Mf}{K:Frag}{mg:Str->Option Value}{base:Heap}{A:zi}
def sJ(A:zi):Sp:=λvs H Q _=>∃(p wl sl:Addr)(cells:List Addr)(m:Int)(d:DM)(k j:Nat),vs=[.ref p,.int k,.int j]/\zE A H p wl sl cells m d/\dF d/\k<d.rows.length /\
 (∀row,rdT ((d.rows.getD k []).getD j none)=some row->∀r H',zl H H'->H' r=some (.tup row)->Q (.ref r) H')/\(rdT ((d.rows.getD k []).getD j none)=none->∀H',zl H H'->Q .non H')
theorem KS:zw ["disk","stretch","place"] ["disk","stretch","place"] (zm oY):=fsc
theorem HF(F:Fun K "row_at" "row_at" oY f fd)(T:Txt w K mg A)(Y3:GM P w K mg base true 1 A.Disk "told" ["self","stretch","place"] (vf A))(YK:GX P w K mg base true 5 "read_row" ["text"] (vC A)):zo P w K mg base CX0 true 7 f fd ["disk","stretch","place"] (sJ A):=by
 refine F.ok KS (λvs H Q E h=>?_) (λZ1 Ar outer s H vs Q E hr h=>?_)
 .obtain ⟨p,wl,sl,cells,m,d,k,j,rfl,_⟩:=h;rfl
 .obtain ⟨p,wl,sl,cells,m,d,k,j,rfl,D,tx,hk,q1,q2⟩:=h;refine ⟨_,(W.h (zh (mO rfl rfl ⟨rfl,rfl⟩ T.ek_NoRow rfl T.mg_NoRow (λGo Ex=>(zh (zx (cXD (mM oB YK hr rfl (clP (za (mD (bU (clE (zb 0)) T.cl_Disk Y3 hr (clP (za (zb 1) (za (zb 2) zc))))) zc))))))) (λGo ea=>by
   have hr:=hr.mark (v:=some (.ref ea));exact (zh (zx bf)))))),?_⟩
  obtain ⟨dx,h1⟩:=D.ob;simp_all only [h1,Hx];refine ⟨p,wl,sl,cells,m,d,k,j,rfl,D,hk,?_⟩;unfold jq;have XR:∀z,(d.rows.getD k []).getD j none=some z->asc z=true/\z.length<=1000:=λz e=>by
   have hr:d.rows.getD k []∈d.rows:=fo hk;by_cases hj:j<(d.rows.getD k []).length
   .exact (tx.ok _ hr).2 _ (fo hj) z e
   .rw [LG,Nn (by lia)] at e;cases e
  have exc:∀H1,zl H H1->rdT ((d.rows.getD k []).getD j none)=none->bM K A.NoRow/\mroIn K A.NoRow (.ref A.NoRow)=some true/\∀(ea:Addr)(oe:Obj),H1 ea=none->iq A.NoRow oe->Q V.non (upd H1 ea (HO.frz oe (HO.own 0))):=λH1 s1 hn=>⟨T.ek_NoRow,T.ms_NoRow,λea oe he _=>q2 hn _ λa o e=>by rw [ze (zC (s1 _ _ e) he)];exact s1 _ _ e⟩;generalize (d.rows.getD k []).getD j none=t at XR exc q1;cases t with
  | none=>exact .inl ⟨_,rfl,.non,_,rfl,exc H (zl.refl _) rfl⟩
  | some z =>
   obtain ⟨a1,a2⟩:=XR z rfl;exact .inr ⟨z,rfl,a1,by lia,λxs hx p' H' s' h'=>q1 xs hx p' H' s' h',λhn H' s'=>⟨_,rfl,exc H' s' hn⟩⟩
def qY(A:zi):Sp:=λvs H Q _=>∃(p wl sl:Addr)(cells:List Addr)(m:Int)(d:DM)(k:Nat),vs=[.ref p,.int k]/\zE A H p wl sl cells m d/\dF d/\k<d.rows.length /\
 ∀l as H',zl H H'->H l=none->H' l=some (.lst (as.map V.ref))->bK H' as (rIn (d.rows.getD k []) k (d.rows.getD k []).length)->Q (.ref l) H'
structure IC(H:Hp)(p l:Addr)(k:Nat)(r:List Tx)(j:Nat)(σ:L2.St)(H':Hp):Prop where
 ex:∃t1 t2,σ=[some (V.ref p),some (.int k),some (.ref l),t1,t2]
 same:zl H H'
 no:H l=none
 ls:∃as:List Addr,H' l=some (.lst (as.map V.ref))/\bK H' as (rIn r k j)/\as.length<=j
theorem kL:zw ["disk","stretch","found","place","row"] ["disk","stretch"] (zm mG):=fsc
theorem KZ(F:Fun K "rows_in" "rows_in" mG f fd)(T:Txt w K mg A)(ZK:GM P w K mg base true 1 A.Disk "next_place" ["self","stretch"] (xZ A))(Yl:GF P w K mg base true 7 "row_at" ["disk","stretch","place"] (sJ A)):zo P w K mg base CX0 true 8 f fd ["disk","stretch"] (qY A):=by
 refine F.ok kL (λvs H Q E h=>?_) (λZ1 Ar outer s H vs Q E hr h=>?_)
 .obtain ⟨p,wl,sl,cells,m,d,k,rfl,_⟩:=h;rfl
 .obtain ⟨p,wl,sl,cells,m,d,k,rfl,D,tx,hk,q⟩:=h;refine ⟨_,(W.h (zg (zA (i:=2) kL.nd rfl (LQ rfl) (aw zc))
   (zg (cb Nb.never (λ_=>rfl) (fq rfl T.n_range (za (mD (bU (clE (zb 0)) T.cl_Disk ZK hr (clP (za (zb 1) zc)))) zc)) (zB (i:=3) kL.nd rfl (LQ rfl))
   (zg (zA (i:=4) kL.nd rfl (LQ rfl) (caD (zt Yl hr rfl (clP (za (zb 0) (za (zb 1) (za (zb 3) zc)))))))
   (zh (zR (tD (zL (clO hZ) (clE (zb 4)) (clE bf) (zF _)))
   (zh (aq (gF (zb 2) (aP (za (zb 4) (za (zb 1) (za (zb 3) zc)))))))
   aa))))
   (zh (zx (zb 2)))))),?_⟩
  have hr0:d.rows.getD k []∈d.rows:=by rw [LG,il hk];exact MC hk
  have hl32:=(tx.ok _ hr0).1;simp_all only [];refine ⟨by decide,λl H1 n1 _=>?_⟩;have D1:=D.sameT (.of n1.same);obtain ⟨dx,h1⟩:=D1.ob;simp_all only [h1,DE];refine ⟨p,wl,sl,cells,m,d,k,rfl,D1,hk,?_⟩;simp_all only [];have er:(((d.rows.getD k []).length:Nat):Int).toNat=(d.rows.getD k []).length:=by lia
  rw [er];refine ⟨by lia,by lia,aB.rng (IC H p l k (d.rows.getD k [])) ⟨⟨_,_,rfl⟩,n1.same,n1.no,[],n1.at_,.nil,we _⟩ ?_ ?_⟩
  .rintro j σ H2 hj ⟨⟨t1,t2,rfl⟩,sm,ln,as,hl,ht,ha⟩;have ej:(0+(j:Int))=((j:Nat):Int):=by lia
   simp_all only [ej];refine ⟨p,wl,sl,cells,m,d,k,j,rfl,D.sameT (.of sm),tx,hk,λrow XJ r H3 s3 h3=>?_,λhn H3 s3=>?_⟩
   .have hl3:=s3 _ _ hl;simp_all only [hl3];refine ⟨by decide,λa H4 n4=>?_⟩;have hl4:=n4.same _ _ hl3;simp_all only [hl4];have al:a≠l:=λz=>by have:=n4.no;rw [z,hl3] at this;cases this
    have rl:r≠l:=λz=>by rw [z,hl3] at h3;cases h3
    refine ⟨by rw [KE];exact aF (by lia),⟨_,_,rfl⟩,λc o e=>?_,ln,as++[a],by rw [zy];simp,?_,by simp;lia⟩
    .rw [ze (zC e ln)];exact n4.same _ _ (s3 _ _ (sm _ _ e))
    .have e1:rIn (d.rows.getD k []) k (j+1)=rIn (d.rows.getD k []) k j++[(row,k,j)]:=by
      show rIn _ k j++_=_;rw [XJ];rfl
     rw [e1];refine dC (Paired.mapP ht λx t ⟨r',g1,g2⟩=>?_) (.cons ⟨r,?_,?_⟩ .nil)
     .refine ⟨r',?_,?_⟩
      .rw [ze (λz=>by rw [z,hl] at g1;cases g1)];exact n4.same _ _ (s3 _ _ g1)
      .rw [ze (λz=>by rw [z,hl] at g2;cases g2)];exact n4.same _ _ (s3 _ _ g2)
     .rw [ze al];exact n4.at_
     .rw [ze rl];exact n4.same _ _ h3
   .simp_all only [];refine ⟨⟨_,_,rfl⟩,sm.trans s3,ln,as,s3 _ _ hl,?_,by lia⟩;have e1:rIn (d.rows.getD k []) k (j+1)=rIn (d.rows.getD k []) k j:=by
     show rIn _ k j++_=_;rw [hn];exact Nw _
    rw [e1];exact bK.same ht s3
  .rintro σ H2 ⟨⟨t1,t2,rfl⟩,sm,ln,as,hl,ht,ha⟩;simp_all only [];exact q l as H2 sm ln hl ht
end
def zu(t:Tri):Int:=gO t.1
theorem BP{f:α->β}{zs m:List β}(h:zs.Perm m):∀{L:List α},m=L.map f->∃L':List α,L'.Perm L/\zs=L'.map f:=by
 induction h with
 | nil=>intro L e;cases L with
  | nil=>exact ⟨[],.nil,rfl⟩
  | cons a L=>cases e
 | cons x _ ih =>
  intro L e;cases L with
  | nil=>cases e
  | cons a L =>
   rw [MD] at e;injection e with e1 e2
   obtain ⟨L',p,rfl⟩:=ih e2;exact ⟨a::L',p.cons a,by rw [MD,e1]⟩
 | swap x y l =>
  intro L e;cases L with
  | nil=>cases e
  | cons a L =>
   cases L with
   | nil=>rw [MD] at e;injection e with _ e2;cases e2
   | cons b L =>
    rw [MD,MD] at e;injection e with e1 e2
    injection e2 with e2 e3
    exact ⟨b::a::L,.swap ..,by rw [MD,MD,e1,e2,e3]⟩
 | trans _ _ ih1 ih2 =>
  intro L e;obtain ⟨L1,p1,e1⟩:=ih2 e;obtain ⟨L2,p2,e2⟩:=ih1 e1;exact ⟨L2,p2.trans p1,e2⟩
theorem rN:∀{l m:List Tri},l.Perm m->l.Pairwise (λa b=>zu a<zu b)->m.Pairwise (λa b=>zu a<zu b)->l=m
 | [],m,p,_,_=>(OG.nil_eq p)
 | a::l,[],p,_,_=>by have:=p.length_eq;cases this
 | a::l,b::m,p,h1,h2=>by
  obtain ⟨g1,g2⟩:=MS.mp h1;obtain ⟨k1,k2⟩:=MS.mp h2;have e:a=b:=by
   refine ND λne=>?_;have ha:a∈b::m:=p.mem_iff.mp (Mc ..);have hb:b∈a::l:=p.mem_iff.mpr (Mc ..);rcases LI.mp ha with z|ha
   .exact ne z
   .rcases LI.mp hb with z|hb
    .exact ne z.symm
    .have:=k1 a ha;have:=g1 b hb;lia
  subst e;rw [rN (OG.cons_inv p) g2 k2]
theorem vt{l:List Tri}(nd:(l.map zu).Nodup)(h:l.Pairwise (λa b=>zu a<=zu b)):l.Pairwise (λa b=>zu a<zu b) :=
 (h.and (Nf.mp nd)).imp λ⟨h1,h2⟩=>by lia
open Classical in
noncomputable def aV(U:List Tri):List Tri:=if h:∃ts:List Tri,ts.Perm U/\ts.Pairwise (λa b=>zu a<=zu b) then h.choose else U
theorem GP{U ts:List Tri}(nd:(U.map zu).Nodup)(p:ts.Perm U)(h:ts.Pairwise (λa b=>zu a<=zu b)):ts=aV U:=by
 have ex:∃ts:List Tri,ts.Perm U/\ts.Pairwise (λa b=>zu a<=zu b):=⟨ts,p,h⟩;unfold aV;rw [dif_pos ex];have n1:(ts.map zu).Nodup:=(p.map zu).nodup_iff.mpr nd;have n2:(ex.choose.map zu).Nodup:=(ex.choose_spec.1.map zu).nodup_iff.mpr nd;exact rN (p.trans ex.choose_spec.1.symm) (vt n1 h) (vt n2 ex.choose_spec.2)
def lpL:Pos:=⟨385,34,385,65⟩
abbrev eM:Stmt:=top 64
def qL:Str:=(Od "_law_rows" (zm eM) 0 0 .none).qual++"<lambda>"
structure TB(A:zi)(H:Hp):Prop where
 l:cX lpL qL H A.t__law_rows
theorem E8{pos:Pos}{q:Str}(h:cX pos q H P)(k:∀a o,H a=some o->(a=P\/∀ps,o≠.tbl ps)->H' a=some o):cX pos q H' P:=by
 rcases h with h|⟨c,oc,vs,t,h1,h2,h3⟩
 .exact .inl (k _ _ h (.inl rfl))
 .exact .inr ⟨c,oc,vs,t,k _ _ h1 (.inl rfl),k _ _ h2 (.inr λps z=>by cases z),h3⟩
theorem TB.same(h:TB A H)(s:zl H H'):TB A H':=⟨E8 h.l λa o e _=>s a o e⟩
theorem TB.keep(h:TB A H)(k:zr F H H')(hF:∀x∈F,∀o,H x=some o->(∀ps,o≠.tbl ps)/\∀oc,o≠.frz oc (.own 0)):TB A H':=by
 have go:∀{pos q P},cX pos q H P->cX pos q H' P:=λ{pos q P} h=>by
  rcases h with h|⟨c,oc,vs,t,h1,h2,h3⟩
  .exact .inl (k _ _ h λz=>(hF _ z _ h).1 _ rfl)
  .exact .inr ⟨c,oc,vs,t,k _ _ h1 λz=>(hF _ z _ h1).1 _ rfl,k _ _ h2 λz=>(hF _ z _ h2).2 _ rfl,h3⟩
 exact ⟨go h.l⟩
section
variable {P:LV}{w:Mf}{K:Frag}{mg:Str->Option Value}{base:Heap}{A:zi}
def nU(d:DM):List Tri:=wU d.rows d.rows.length
theorem o6{l:List Tx}{k:Nat}:∀{j:Nat}{t:Tri},t∈rIn l k j->∃y n ys,t.1 = .str y::.int n::ys
 | 0,t,h=>by cases h
 | j+1,t,h=>by
  rcases My.mp h with h|h
  .exact o6 h
  .cases e:l.getD j none with
   | none=>rw [e] at h;cases h
   | some z =>
    rw [e] at h;cases e2:bG z with
    | none=>rw [show rdT (some z)=bG z from rfl,e2] at h;cases h
    | some row =>
     rw [show rdT (some z)=bG z from rfl,e2] at h;have h:t=(row,k,j):=LU.mp h;rw [h];exact AX e2
theorem lJ{rows:List (List Tx)}:∀{i:Nat}{t:Tri},t∈wU rows i->∃y n ys,t.1 = .str y::.int n::ys
 | 0,t,h=>by cases h
 | i+1,t,h=>by
  rcases My.mp h with h|h
  .exact lJ h
  .exact o6 h
theorem Ly{ts:List Tri}(h:bK H as ts)(hk:∀t∈ts,∃y n ys,t.1 = .str y::.int n::ys):Paired (oP H) as (ts.map zu):=by
 induction h with
 | nil=>exact .nil
 | @cons a t _ _ r _ ih =>
  refine .cons ?_ (ih λt h=>hk t (LO _ h));obtain ⟨y,n,ys,e⟩:=hk t (Mc ..);obtain ⟨rr,e1,e2⟩:=r;rw [e] at e2;have ek:zu t=n:=by unfold zu;rw [e];rfl
  rw [ek];exact ⟨rr,_,_,_,e1,e2⟩
theorem B6{ts:List Tri}{zs:List (Int×Addr)}(h:bK H as ts)(p:zs.Perm ((ts.map zu).zip as))(hs:zs.Pairwise (λp q=>p.1<=q.1))(nd:(ts.map zu).Nodup):bK H (zs.map (·.2)) (aV ts):=by
 have hl:=ay h;have e1:(ts.map zu).zip as=(as.zip ts).map λq=>(zu q.2,q.1):=by
  clear p nd
  induction h with
  | nil=>rfl
  | cons r _ ih=>rw [MD,OX,OX,MD,ih (Paired.length ‹_›)]
 obtain ⟨L,pL,rfl⟩:=BP p e1;have e2:(as.zip ts).map (·.2)=ts:=List.map_snd_zip (by lia);have hm:∀q∈as.zip ts,gX H q.1 q.2:=by
  clear p pL e1 e2 hs nd hl
  induction h with
  | nil=>intro q hq;cases hq
  | cons r _ ih =>
   intro q hq;rw [OX] at hq;rcases LI.mp hq with rfl|hq
   .exact r
   .exact ih q hq
 have e3:L.map (·.2)=aV ts:=GP nd (by have:=pL.map (·.2);rw [e2] at this;exact this) (by
  have:=Nf.mp hs;exact Nf.mpr this)
 rw [<- e3,MB];have:∀M:List (Addr×Tri),(∀q∈M,gX H q.1 q.2)->bK H (M.map ((·.2)∘λq=>(zu q.2,q.1))) (M.map (·.2)):=λM=>by
  induction M with
  | nil=>exact λ_=>.nil
  | cons q M ih=>exact λh=>.cons (h q (Mc ..)) (ih λr hr=>h r (LO _ hr))
 exact this L λq hq=>hm q (pL.mem_iff.mp hq)
end
theorem dA(U:List Tri):(aV U).Perm U:=by
 unfold aV;split
 .rename_i h;exact h.choose_spec.1
 .exact .refl _
def iv(n:Nat):V:=.int n
section
variable {P:LV}{w:Mf}{K:Frag}{mg:Str->Option Value}{base:Heap}{A:zi}
end
abbrev pE:Stmt:=top 55
abbrev qy:Stmt:=top 56
abbrev mF:Stmt:=top 57
abbrev p0:Stmt:=top 58
def But(b:Addr)(H H':Hp):Prop:=∀a o,a≠b->H a=some o->H' a=some o
theorem But.of(s:zl H H'):But b H H':=λa o _ e=>s a o e
theorem But.trans(x:But b H H1)(y:But b H1 H2):But b H H2:=λa o n e=>y a o n (x a o n e)
theorem l8{xs:List α}(h0:0<=i)(h1:i<xs.length):∃v,atI xs i=some v/\v∈xs:=by
 have hn:i.toNat<xs.length:=by lia
 have z:atI xs ((i.toNat:Nat):Int)=some xs[i.toNat]:=cB (il hn);rw [show ((i.toNat:Nat):Int)=i by lia] at z;exact ⟨_,z,MC hn⟩
section
variable {P:LV}{w:Mf}{K:Frag}{mg:Str->Option Value}{base:Heap}{A:zi}
def atD(ns:List Int)(k:Int):Int:=if k<ns.length then ns.getD k.toNat 0 else 0
def qZ(K:Frag):Sp:=λvs H Q _=>∃(a:Addr)(ns:List Int)(k:Int),vs=[.ref a,.int k]/\SqL K H a (ns.map V.int)/\0<=k/\Q (.int (atD ns k)) H
theorem KM:zw ["_law_script","_law_k"] ["_law_script","_law_k"] (zm pE):=fsc
theorem GY(F:Fun K "_law_cell" "_law_cell" pE f fd)(T:Txt w K mg A):zo P w K mg base CX0 true 1 f fd ["_law_script","_law_k"] (qZ K):=by
 refine F.ok KM (λvs H Q E h=>?_) (λZ1 Ar outer s H vs Q E hr h=>?_)
 .obtain ⟨a,ns,k,rfl,_⟩:=h;rfl
 .obtain ⟨a,ns,k,rfl,hS,hk,q⟩:=h;refine ⟨_,vU (sy (ue fT (pv 1) (sN kP rfl T.n_len Mr (dE (pv 0) dM)) (zF _))
   (nK (nB (vV x9 (pv 0) (pv 1) (λ_ _=>rfl)))) v8) (nK (nB pM)),?_⟩
  simp_all only [];refine ⟨_,.inl hS,?_⟩;rw [KE];refine aj (λh=>?_) (λh=>?_)
  .have h':k<(ns.length:Int):=of_decide_eq_true h;have hn:k.toNat<ns.length:=by lia
   have e:atD ns k=ns[k.toNat]:=by unfold atD;rw [if_pos h',LG,il hn];rfl
   refine ⟨a,ns.map V.int,k,.int (ns[k.toNat]),rfl,rfl,hS,?_,by rw [<- e];exact q⟩;have z:atI (ns.map V.int) ((k.toNat:Nat):Int)=some (.int (ns[k.toNat])):=cB (by rw [L6,il hn];rfl);have kz:((k.toNat:Nat):Int)=k:=by lia
   rw [kz] at z;exact z
  .have h' : ¬ k<(ns.length:Int):=λz=>h (decide_eq_true z);have e:atD ns k=0:=by unfold atD;rw [if_neg h']
   rw [<- e];exact q
theorem kJ{a b:V}:atI [a,b] 0=some a:=rfl
theorem lh{a b:V}:atI [a,b] 1=some b:=rfl
theorem IA:ixN 2 0=some 0:=rfl
theorem EO:ixN 2 1=some 1:=rfl
structure Pot(H:Hp)(a:Addr):Prop where
 ex:∃x y:Int,H a=some (.lst [.int x,.int y])/\0<=x/\0<=y/\y<2147483647
theorem Pot.same(h:Pot H a)(s:zl H H'):Pot H' a:=let ⟨x,y,e,r⟩:=h.ex;⟨⟨x,y,s _ _ e,r⟩⟩
theorem Pot.ne{l:Addr}(h:Pot H a)(n:H l=none):l≠a:=λz=>by
 obtain ⟨x,y,e,_⟩:=h.ex;rw [z,e] at n;cases n
def vj(K:Frag):Sp:=λvs H Q _=>∃(a:Addr)(ns:List Int)(k:Int),vs=[.ref a,.int k]/\SqL K H a (ns.map V.int)/\0<=k/\∀l H',zl H H'->H l=none->Pot H' l->Q (.ref l) H'
theorem uE:zw ["_law_script","_law_k","_law_cell_here"] ["_law_script","_law_k"] (zm qy):=fsc
theorem CA(F:Fun K "_law_pot" "_law_pot" qy f fd)(T:Txt w K mg A)(Y2:GF P w K mg base true 1 "_law_cell" ["_law_script","_law_k"] (qZ K)):zo P w K mg base CX0 true 2 f fd ["_law_script","_law_k"] (vj K):=by
 refine F.ok uE (λvs H Q E h=>?_) (λZ1 Ar outer s H vs Q E hr h=>?_)
 .obtain ⟨a,ns,k,rfl,_⟩:=h;rfl
 .obtain ⟨a,ns,k,rfl,hS,hk,q⟩:=h;refine ⟨_,(W.h (zg (zA (i:=2) uE.nd rfl (LQ rfl) (zt Y2 hr rfl (za (zd 0) (za (zd 1) zc))))
   (zh (zx (aw (za (zK (ig rfl) rfl T.n_max boot_max (za zj (za (zz fg (zd 2) (zz qE zj zj)) zc))) (za (zz eY (zz aS (zz eY (zK Ag rfl T.n_abs PyProof.Rows.boot_abs (za (zd 2) zc)) zj) (zz dP zj (zz aS (zd 1) zj))) zj) zc))))))),?_⟩
  simp_all only [];refine ⟨a,ns,k,rfl,hS,hk,?_⟩;simp_all only [];refine ⟨⟨by decide,by decide,by decide⟩,by decide,.inl ⟨by decide,by decide⟩,by decide,by decide,λl H1 n1 _=>q l H1 n1.same n1.no ⟨⟨_,_,n1.at_,?_,?_,?_⟩⟩⟩
  .split<;>lia
  .lia
  .lia
def cL:Sp:=λvs H Q _=>∃(a:Addr)(m:Int),vs=[.ref a,.int m]/\Pot H a/\0<m/\m<2 ^ 64/\∀(r:Int) H',But a H H'->Pot H' a->0<=r->r<m->Q (.int r) H'
theorem wk:zw ["_law_pot_here","_law_many","_law_digit"] ["_law_pot_here","_law_many"] (zm mF):=fsc
theorem JS(F:Fun K "_law_draw" "_law_draw" mF f fd)(T:Txt w K mg A):zo P w K mg base CX0 true 1 f fd ["_law_pot_here","_law_many"] cL:=by
 refine F.ok wk (λvs H Q E h=>?_) (λZ1 Ar outer s H vs Q E hr h=>?_)
 .obtain ⟨a,m,rfl,_⟩:=h;rfl
 .obtain ⟨a,m,rfl,⟨x,y,e,x0,y0,y1⟩,m0,m1,q⟩:=h;refine ⟨_,(W.h (zg (zR (zL kR (zH zZ (zd 0) zj (λ_ _=>rfl)) zj (zF _))
   (zg (cW (zK B8 rfl T.n_divmod boot_divmod (za (zH zZ (zd 0) zj (λ_ _=>rfl)) (za (zd 1) zc))) (eK (n:=2) (zU (dY (zd 0) zj gZ) (zU (zB (i:=2) wk.nd rfl (LQ rfl)) bS))))
   (zh (zx (zd 2))))
   aa)
   (zg (cW (zz eY (zz aS (zz dP (zH zZ (zd 0) zj (λ_ _=>rfl)) zj) zj) zj) (dY (zd 0) zj gZ))
   (zh (zx (zz eY (zz o3 (zz eY (zz dP (zH zZ (zd 0) zj (λ_ _=>rfl)) (zH zZ (zd 0) zj (λ_ _=>rfl))) zj) zj) (zd 1))))))),?_⟩
  simp_all only [e,kJ,lh];refine aj (λh=>?_) (λh=>?_)
  .refine ⟨m0,m1,λp H2 n2=>⟨p,_,rfl,SqT.of n2.at_,rfl,?_⟩⟩;have e2:=n2.same _ _ e;simp_all only [e2,IA,kJ];refine q _ _ (λc o nc ec=>by rw [ze nc];exact n2.same _ _ ec) ⟨⟨_,_,zy,Int.ediv_nonneg x0 (by lia),y0,y1⟩⟩ (Int.emod_nonneg _ (by lia)) (Int.emod_lt_of_pos _ m0)
  .simp_all only [EO,zy,lh];refine ⟨.inr ⟨by decide,by decide⟩,by decide,.inl ⟨by lia,by lia⟩,by decide,⟨by decide,by decide⟩,m0,q _ _ (λc o nc ec=>by rw [ze nc];exact ec) ⟨⟨_,_,zy,x0,by lia,by lia⟩⟩ (Int.emod_nonneg _ (by lia)) (Int.emod_lt_of_pos _ m0)⟩
def iM:Sp:=λvs H Q _=>∃(a:Addr),Pot H a/\((∃(l:Addr)(xs:List V),vs=[.ref a,.ref l]/\l≠a/\(H l=some (.lst xs)\/H l=some (.tup xs))/\0<xs.length/\xs.length<=1000/\∀v H',v∈xs->But a H H'->Pot H' a->Q v H') \/
 ∃z:Str,vs=[.ref a,.str z]/\0<z.length/\z.length<=1000/\∀c H',c∈sg z->But a H H'->Pot H' a->Q (.str (c1 c)) H')
theorem DH:zw ["_law_pot_here","_law_some"] ["_law_pot_here","_law_some"] (zm p0):=fsc
theorem DR(F:Fun K "_law_drawn" "_law_drawn" p0 f fd)(T:Txt w K mg A)(Z9:GF P w K mg base true 1 "_law_draw" ["_law_pot_here","_law_many"] cL):zo P w K mg base CX0 true 2 f fd ["_law_pot_here","_law_some"] iM:=by
 refine F.ok DH (λvs H Q E h=>?_) (λZ1 Ar outer s H vs Q E hr h=>?_)
 .obtain ⟨a,_,⟨l,xs,rfl,_⟩|⟨z,rfl,_⟩⟩:=h<;>rfl
 .refine ⟨_,(W.h (zh (zx (zH zZ (zd 1) (zt Z9 hr rfl (za (zd 0) (za (zK fK rfl T.n_len Mr (za (zd 1) zc)) zc))) (λ_ _=>rfl))))),?_⟩;obtain ⟨a,hP,⟨l,xs,rfl,ne,hl,x0,x1,q⟩|⟨z,rfl,z0,z1,q⟩⟩:=h
  .simp_all only [];refine ⟨xs,hl,a,_,rfl,hP,by lia,OB (show (xs.length:Int)<=1000 by lia) (by decide),λr H' bt W0 r0 r1=>?_⟩;obtain ⟨v,ev,hv⟩:=l8 (xs:=xs) r0 r1;rw [gE];exact ⟨xs,hl.imp (bt _ _ ne) (bt _ _ ne),v,ev,q v H' hv bt W0⟩
  .simp_all only [];refine ⟨aK (by lia),a,_,rfl,hP,by lia,OB (show (z.length:Int)<=1000 by lia) (by decide),λr H' bt W0 r0 r1=>?_⟩;obtain ⟨c,ec,hc⟩:=l8 (xs:=sg z) r0 (by rw [zX];exact r1);rw [lP];exact ⟨aK (by lia),c,ec,q c H' hc bt W0⟩
end
abbrev OR:=Option (List V)
variable{rs:List (List OR)}{r':List OR}
def cU(H:Hp)(v:V)(o:OR):Prop:=match o with|none=>v = .non|some xs=>∃r,v = .ref r/\H r=some (.tup xs)
structure au(H:Hp)(sh:Addr)(shc:List Addr)(rs:List (List OR)):Prop where
 w:H sh=some (.lst (shc.map V.ref))
 len:shc.length=rs.length
 at_:∀i c,shc[i]?=some c->∃vs,H c=some (.lst vs)/\Paired (cU H) vs (rs.getD i [])
 nd:(sh::shc).Nodup
theorem cU.keep{o:OR}(h:cU H v o)(k:∀r xs,H r=some (.tup xs)->H' r=some (.tup xs)):cU H' v o:=by
 cases o with
 | none=>exact h
 | some xs=>obtain ⟨r,e,h⟩:=h;exact ⟨r,e,k _ _ h⟩
theorem au.keep{sh:Addr}(h:au H sh shc rs)(k1:∀r xs,H r=some (.tup xs)->H' r=some (.tup xs))(k2:∀b xs,b=sh\/b∈shc->H b=some (.lst xs)->H' b=some (.lst xs)):au H' sh shc rs :=
 ⟨k2 _ _ (.inl rfl) h.w,h.len,λi c hc=>let ⟨vs,e,p⟩:=h.at_ i c hc;⟨vs,k2 _ _ (.inr (LX hc)) e,Paired.mapP p λv o r=>r.keep k1⟩,h.nd⟩
theorem au.sameT{sh:Addr}(h:au H sh shc rs)(s:zD H H'):au H' sh shc rs:=h.keep (λ_ _ e=>s.tup e) λ_ _ _ e=>s.list e
theorem au.same{sh:Addr}(h:au H sh shc rs)(s:zl H H'):au H' sh shc rs:=h.sameT (.of s)
theorem au.cell{sh:Addr}(h:au H sh shc rs){k:Nat}(hk:k<rs.length):∃c vs,shc[k]?=some c/\atI (shc.map V.ref) (k:Int)=some (.ref c)/\H c=some (.lst vs)/\Paired (cU H) vs (rs.getD k [])/\vs.length=(rs.getD k []).length:=by
 have YF:k<shc.length:=by rw [h.len];exact hk
 obtain ⟨vs,e,p⟩:=h.at_ k _ (il YF);exact ⟨_,vs,il YF,cB (by rw [L6,il YF];rfl),e,p,ay p⟩
def rO(l:List OR)(k:Nat):Nat->List Tri
 | 0=>[]
 | j+1=>rO l k j++one (l.getD j none) k j
def wO(rs:List (List OR)):Nat->List Tri
 | 0=>[]
 | i+1=>wO rs i++rO (rs.getD i []) i (rs.getD i []).length
theorem jF(l:List Tx)(k:Nat):∀j,rIn l k j=rO (l.map rdT) k j
 | 0=>rfl
 | j+1=>by
  show rIn l k j++_=rO _ k j++_;rw [jF l k j];have:(l.map rdT).getD j none=rdT (l.getD j none):=by
   rw [LG,L6,LG];cases l[j]? <;> rfl
  rw [this]
def rdR(rows:List (List Tx)):List (List OR):=rows.map λr=>r.map rdT
theorem bu(rows:List (List Tx))(i:Nat):(rdR rows).getD i []=(rows.getD i []).map rdT:=by
 unfold rdR;rw [LG,L6,LG];cases rows[i]? <;> rfl
theorem qX(rows:List (List Tx)):∀i,wU rows i=wO (rdR rows) i
 | 0=>rfl
 | i+1=>by
  show wU rows i++_=wO _ i++_;rw [qX rows i,bu,KE,jF]
theorem jr(l:List OR)(k:Nat):∀j,(rO l k j).length<=j
 | 0=>we _
 | j+1=>by show (rO l k j++_).length<=_;have:=jr l k j;rw [Md];have:=sO (l.getD j none) k j;lia
section
variable {P:LV}{w:Mf}{K:Frag}{mg:Str->Option Value}{base:Heap}{A:zi}
structure LRc(H:Hp)(k:Nat)(l:List OR)(j:Nat)(τ:L2.St)(ys:List V)(H':Hp):Prop where
 ex:∃t1 t2,τ=[t1,t2,some (.int (k:Nat))]
 ys:∃as:List Addr,ys=as.map V.ref/\bK H' as (rO l k j)
 same:zl H H'
 le:j<=32
structure Ia(H:Hp)(sh:Addr)(rs:List (List OR))(i:Nat)(σ:L2.St)(H':Hp):Prop where
 ex:∃fl t1 t2,σ=[some (V.ref sh),some (.ref fl),t1,t2]/\H fl=none/\∃as:List Addr,H' fl=some (.lst (as.map V.ref))/\bK H' as (wO rs i)
 same:zl H H'
 le:i<=16
def wD(rs:List (List OR)):Prop:=∀t∈wO rs rs.length,∃y n ys,t.1 = .str y::.int n::ys
def iO(A:zi):Sp:=λvs H Q _=>∃(sh:Addr)(shc:List Addr)(rs:List (List OR)),vs=[.ref sh]/\au H sh shc rs/\rs.length<=16/\(∀i,(rs.getD i []).length<=32)/\wD rs/\((wO rs rs.length).map zu).Nodup/\(wO rs rs.length).length<64/\TB A H /\
 ∀l as H',zD H H'->TB A H'->H l=none->l≠sysModules->H' l=some (.lst (as.map V.ref))->bK H' as (aV (wO rs rs.length))->Q (.ref l) H'
theorem h9:zw ["_law_shelf","_law_found","_law_stretch","_law_rows_here"] ["_law_shelf"] (zm eM):=fsc
theorem Cf:aQ { kind:=.function,names:=[(vv ".0",.local),(vv "_law_place",.local),(vv "_law_row_here",.local),(vv "_law_stretch",.free)],isGenerator:=false,isCoroutine:=false,more:=[] } (zm eM).names ["_law_shelf","_law_found","_law_stretch","_law_rows_here"] ["_law_place","_law_row_here","_law_stretch"] [none,none,some 2]=true:=by decide +kernel
theorem rg:(["_law_place","_law_row_here","_law_stretch"]:List Str).Nodup:=by decide +kernel
theorem El(F:Fun K "_law_rows" "_law_rows" eM f fd)(hc:fd.code = .ref c)(LB:iE mg base (.ref c) A.t__law_rows)(T:Txt w K mg A):zo P w K mg base CX0 true 1 f fd ["_law_shelf"] (iO A):=by
 refine F.okC hc h9 (λvs H Q E h=>?_) (λAr outer s H vs Q E hr h=>?_)
 .obtain ⟨sh,shc,rs,rfl,_⟩:=h;rfl
 .obtain ⟨sh,shc,rs,rfl,S,hl,h32,hkk,nd,XO,tb,q⟩:=h;have hu:_<cLine:=Mi (zQ hr);refine ⟨_,(W.h (zg (zA (i:=1) h9.nd rfl (LQ rfl) (aw zc))
   (zg (cb Nb.never (λ_=>rfl) (km rfl T.n_enumerate (za (zd 0) zc)) (eK (n:=2) (zU (zB (i:=2) h9.nd rfl (OM rfl)) (zU (zB (i:=3) h9.nd rfl (LQ rfl)) bS)))
   (zh (zA (i:=1) h9.nd rfl (LQ rfl) (zz aS (zd 1) (cy (λ_=>rfl) (ar.of Cf) (km rfl T.n_enumerate (za (zd 3) zc)) (λ_ _ _ _ _=>(fJ (n:=2) (zU (zB (i:=0) rg rfl (LQ rfl)) (zU (zB (i:=1) rg rfl (LQ rfl)) bS)))) (λ_ _ _ _ _=>(eZ (zL hZ (zd 1) bf (zF _)))) (λ_ _ _ _ _=>(aP (za (zd 1) (za (zd 2) (za (zd 0) zc))))))))))
   (zh (zx (ES LB hr rfl T.n_sorted (zd 1) rfl rfl (λ_ _ _ _ _=>rfl) rfl rfl rfl rfl)))))),?_⟩
  simp_all only [];refine ⟨by decide,λfl H1 n1 _=>⟨⟨_,SqL.of (n1.same _ _ S.w)⟩,aB.enum (xs:=shc.map V.ref) (Ia H sh rs) ⟨⟨fl,_,_,rfl,n1.no,[],n1.at_,.nil⟩,n1.same,by lia⟩ (λi σ H' _ I=>SqL.of (I.same _ _ S.w)) ?_ ?_⟩⟩
  .rintro i x p σ H2 hx ⟨⟨fl2,t1,t2,rfl,f0,as,hf,ht⟩,sm,le⟩ hp;rw [L6] at hx;obtain ⟨cc,hcc,rfl⟩:=Mh.mp hx;have hi:i<rs.length:=by rw [<- S.len];exact (LH.mp hcc).1
   refine ⟨p,_,rfl,SqT.of zy,rfl,?_⟩;have nw:New H2 p (.tup [.int i,.ref cc]) (upd H2 p (.tup [.int i,.ref cc])):=.mk' hp;generalize upd H2 p (.tup [.int i,.ref cc])=H3 at nw ⊢;have S3:=S.same (sm.trans nw.same);obtain ⟨vs,hv,pv⟩:=S3.at_ i cc hcc;have lv:=ay pv;have lv32:=h32 i;have hf3:=nw.same _ _ hf;simp_all only [hf3];refine ⟨⟨_,SqL.of hv⟩,zS.enum (xs:=vs) (LRc H3 i (rs.getD i [])) (λj τ ys H' I=>?_) (λj τ ys H' I=>SqL.of (I.same _ _ hv)) ⟨⟨_,_,rfl⟩,⟨[],rfl,.nil⟩,zl.refl _,by lia⟩ ?_ ?_⟩
   .obtain ⟨bs,e,tl⟩:=I.ys;have:=ay tl;have:=jr (rs.getD i []) i j;have:=I.le;rw [e,KE];exact aF (by lia)
   .intro N j x p2 τ ys H4 hx I hp2 hN;obtain ⟨t1,t2,rfl⟩:=I.ex;obtain ⟨bs,e,tl⟩:=I.ys;have hj:j<(rs.getD i []).length:=by rw [<- lv];exact (LH.mp hx).1
    have ho:(rs.getD i [])[j]?=some (rs.getD i [])[j]:=il hj;have hr:=bI pv hx ho;have eg:(rs.getD i []).getD j none=(rs.getD i [])[j]:=by rw [LG,ho];rfl
    generalize (rs.getD i [])[j]=o at hr eg;refine ⟨p2,_,rfl,SqT.of zy,rfl,?_⟩;have nw2:New H4 p2 (.tup [.int j,x]) (upd H4 p2 (.tup [.int j,x])):=.mk' hp2;generalize upd H4 p2 (.tup [.int j,x])=H5 at nw2 ⊢;have er:rO (rs.getD i []) i (j+1)=rO (rs.getD i []) i j++one o i j:=by
     show rO _ i j++_=_;rw [eg]
    cases o with
    | none =>
     cases (show x=V.non from hr);simp_all only [];exact hN _ _ _ ⟨⟨_,_,rfl⟩,⟨bs,e,by rw [er];exact (Nw (rO (rs.getD i []) i j)).symm ▸ tl.same nw2.same⟩,I.same.trans nw2.same,by lia⟩
    | some row =>
     obtain ⟨r,rfl,hrr⟩:=hr;simp_all only [];refine ⟨by decide,λp6 H6 n6=>hN _ _ _ ⟨⟨_,_,rfl⟩,⟨bs++[p6],by rw [e];simp,?_⟩,(I.same.trans nw2.same).trans n6.same,by lia⟩⟩;rw [er];exact dC (tl.same (nw2.same.trans n6.same)) (.cons ⟨r,n6.at_,n6.same _ _ (nw2.same _ _ (I.same _ _ hrr))⟩ .nil)
   .intro τ ys H4 I D H5 n5 _;obtain ⟨bs,e,tl⟩:=I.ys;rw [lv] at tl;have l1:=ay tl;have l2:=jr (rs.getD i []) i (rs.getD i []).length;have l3:=ay ht;have s5:zl H3 H5:=I.same.trans n5.same;have l4:(wO rs i).length<=32*i:=by
     clear ht hf hf3 l3;have:∀n,n<=16->(wO rs n).length<=32*n:=λn=>by
      induction n with
      | zero=>exact λ_=>we _
      | succ n ih =>
       intro hn;show (wO rs n++_).length<=_;have:=ih (by lia);have:=jr (rs.getD n []) n (rs.getD n []).length;have:=h32 n;rw [Md];lia
     exact this i le
    rw [eI];refine ⟨_,_,s5 _ _ hf3,n5.at_,aK (by rw [e];simp;lia),λp6 H6 n6=>?_⟩;refine ⟨⟨p6,_,_,rfl,?_,as++bs,by rw [n6.at_,e];simp,?_⟩,(sm.trans nw.same).trans (s5.trans n6.same),by lia⟩
    .exact ((sm.trans nw.same).trans s5).free n6.no
    .exact dC (ht.same ((nw.same.trans s5).trans n6.same)) (tl.same (n5.same.trans n6.same))
  .rintro σ H2 ⟨⟨fl2,t1,t2,rfl,f0,as,hf,ht⟩,sm,le⟩;rw [KE,S.len] at ht;have Z5:=ay ht;have tb2:=tb.same sm;simp_all only [];refine ⟨as,hf,tb2.l,by rw [Z5];exact XO,(wO rs rs.length).map zu,Ly ht hkk,λD2 zs H3 L3 T3 f3 ne3 ns3 e3 pz sz=>?_⟩;have s3:zD H2 H3:=zD.lam L3 tb2.l;have tb3:TB A H3:=⟨T3⟩;exact q D2 (zs.map (·.2)) H3 ((zD.of sm).trans s3) tb3 (sm.free f3) ns3 (by rw [e3,MB];rfl) ((B6 ht pz sz nd).sameT s3)
end
theorem uL{U:List Tri}(nd:(U.map zu).Nodup){s t:Tri}(hs:s∈U)(ht:t∈U)(h:zu s=zu t):s=t:=by
 obtain ⟨i,hi,rfl⟩:=MI hs;obtain ⟨j,hj,rfl⟩:=MI ht;have:i=j:=by
  have h1:(U.map zu)[i]?=(U.map zu)[j]?:=by rw [L6,L6,il hi,il hj];simpa using h
  exact (Pn (by simpa using hi) nd).mp h1
 subst this;rfl
theorem i9{l:List OR}{k:Nat}{t:Tri}:∀{j:Nat},t∈rO l k j↔∃i,i<j/\l.getD i none=some t.1/\t.2=(k,i)
 | 0=>by simp [rO]
 | j+1=>by
  show t∈rO l k j++one (l.getD j none) k j↔_;rw [My,i9 (j:=j)];constructor
  .rintro (⟨i,h1,h2,h3⟩|h)
   .exact ⟨i,by lia,h2,h3⟩
   .cases e:l.getD j none with
    | none=>rw [e] at h;cases h
    | some row =>
     rw [e] at h;have h:t=(row,k,j):=LU.mp h;exact ⟨j,by lia,by rw [h];exact e,by rw [h]⟩
  .rintro ⟨i,h1,h2,h3⟩;by_cases hi:i<j
   .exact .inl ⟨i,hi,h2,h3⟩
   .have:i=j:=by lia
    subst this;refine .inr ?_;rw [h2];refine LU.mpr ?_;rw [<- h3]
theorem bV{rs:List (List OR)}{t:Tri}:∀{n:Nat},t∈wO rs n↔t.2.1<n/\t.2.2<(rs.getD t.2.1 []).length/\(rs.getD t.2.1 []).getD t.2.2 none=some t.1
 | 0=>by simp [wO]
 | n+1=>by
  show t∈wO rs n++rO (rs.getD n []) n (rs.getD n []).length↔_;rw [My,bV (n:=n),i9];constructor
  .rintro (⟨h1,h2⟩|⟨i,h1,h2,h3⟩)
   .exact ⟨by lia,h2⟩
   .rw [h3];exact ⟨by simp,h1,h2⟩
  .rintro ⟨h1,h2,h3⟩;by_cases hn:t.2.1<n
   .exact .inl ⟨hn,h2,h3⟩
   .have:t.2.1=n:=by lia
    exact .inr ⟨t.2.2,by rw [<- this];exact h2,by rw [<- this];exact h3,by rw [<- this]⟩
theorem xP{l:List OR}{k:Nat}:∀j,(rO l k j).Nodup
 | 0=>.nil
 | j+1=>by
  show (rO l k j++one (l.getD j none) k j).Nodup;rw [Oi];refine ⟨xP j,by cases l.getD j none<;>simp [one],λa ha b hb e=>?_⟩;subst e;obtain ⟨i,h1,_,h3⟩:=i9.mp ha;cases eo:l.getD j none with
  | none=>rw [eo] at hb;cases hb
  | some row =>
   rw [eo] at hb;have hb:a=(row,k,j):=LU.mp hb;rw [hb] at h3;have:j=i:=congrArg Prod.snd h3;lia
theorem ml{rs:List (List OR)}:∀n,(wO rs n).Nodup
 | 0=>.nil
 | n+1=>by
  show (wO rs n++rO (rs.getD n []) n (rs.getD n []).length).Nodup;rw [Oi];refine ⟨ml n,xP _,λa ha b hb e=>?_⟩;subst e;have h1:=(bV.mp ha).1;obtain ⟨i,_,_,h3⟩:=i9.mp hb;have:a.2.1=n:=by rw [h3]
  lia
theorem fk{l:List α}{k i:Nat}{x d:α}(hk:k<l.length):(l.set k x).getD i d=if i=k then x else l.getD i d:=by
 rw [LG,LG];by_cases h:i=k
 .rw [if_pos h,h,N5 hk];rfl
 .rw [if_neg h,Ow (L8 h)]
theorem Cc{l m:List α}{b:Nat}{d:α}(h:b<l.length):(l++m).getD b d=l.getD b d:=by
 rw [LG,LG,NB h]
theorem xJ{l:List α}{x d:α}:(l++[x]).getD l.length d=x:=by
 rw [LG,Nh (we _)];simp
theorem Je{k:Nat}{o:OR}(hk:k<rs.length){t:Tri}:t∈wO (rs.set k (rs.getD k []++[o])) (rs.set k (rs.getD k []++[o])).length↔t∈wO rs rs.length\/(o=some t.1/\t.2=(k,(rs.getD k []).length)):=by
 obtain ⟨row,a,b⟩:=t;rw [bV,bV,Nm,fk hk];show a<rs.length/\b<List.length (if a=k then rs.getD k []++[o] else rs.getD a [])/\List.getD (if a=k then rs.getD k []++[o] else rs.getD a []) b none=some row↔_;by_cases ha:a=k
 .rw [if_pos ha];subst ha;rw [Md,Oj];by_cases hb:b<(rs.getD a []).length
  .have e:(rs.getD a []++[o]).getD b none=(rs.getD a []).getD b none:=Cc hb;rw [e];constructor
   .rintro ⟨h1,_,h3⟩;exact .inl ⟨h1,hb,h3⟩
   .rintro (⟨h1,_,h3⟩|⟨_,h⟩)
    .exact ⟨h1,by lia,h3⟩
    .injection h with _ h;lia
  .constructor
   .rintro ⟨h1,h2,h3⟩;have Xu:b=(rs.getD a []).length:=by lia
    rw [Xu,xJ] at h3;exact .inr ⟨h3,by rw [Xu]⟩
   .rintro (⟨_,h2,_⟩|⟨h1,h⟩)
    .exact absurd h2 hb
    .injection h with _ h
     refine ⟨hk,by lia,?_⟩;rw [h,xJ];exact h1
 .rw [if_neg ha];constructor
  .exact λh=>.inl h
  .rintro (h|⟨_,h⟩)
   .exact h
   .injection h with h _;exact absurd h ha
theorem ER{k:Nat}(hk:k<rs.length){t:Tri}:t∈wO (rs.set k []) (rs.set k []).length↔t∈wO rs rs.length/\t.2.1≠k:=by
 rw [bV,bV,Nm,fk hk];by_cases ha:t.2.1=k
 .rw [if_pos ha];constructor
  .rintro ⟨_,h,_⟩;simp at h
  .rintro ⟨_,h⟩;exact absurd ha h
 .rw [if_neg ha];exact ⟨λh=>⟨h,ha⟩,λh=>h.1⟩
abbrev qv:Stmt:=ax (top 49) 10
section
variable {P:LV}{w:Mf}{K:Frag}{mg:Str->Option Value}{base:Heap}{A:zi}
theorem Dl:zP "written" (.ref x) (zG m wl sl d)=zG m x sl d:=by kernel_rfl
theorem JT:zP "at_sides" (.ref x) (zG m wl sl d)=zG m wl x d:=by kernel_rfl
structure Iw(H:Hp)(rows:List (List Tx))(i:Nat)(τ:L2.St)(ys:List V)(H':Hp):Prop where
 τ:∃t,τ=[t]
 ex:∃cs:List Addr,ys=cs.map V.ref/\cs.length=i/\(∀j c,cs[j]?=some c->H' c=some (.lst ((rows.getD j []).map tv)))/\(∀c∈cs,H c=none)/\cs.Nodup
 same:zl H H'
 le:i<=16
theorem C3(h1:d.cnt=d'.cnt)(h2:d.left=d'.left)(h3:d.st=d'.st):zG m wl sl d=zG m wl sl d':=by unfold zG;rw [h1,h2,h3]
theorem tU:zw ["self","other"] ["self"] (zm kH):=fsc
theorem DG:aQ { kind:=.function,names:=[(vv ".0",.local),(vv "texts",.local),(vv "list",.globalImplicit)],isGenerator:=false,isCoroutine:=false,more:=[] } (zm kH).names ["self","other"] ["texts"] [none]=true:=by decide +kernel
theorem Ee:(["texts"]:List Str).Nodup:=by decide +kernel
theorem G7(F:Fun K "copied" "Disk.copied" kH f fd)(T:Txt w K mg A)(ZW:GM P w K mg base cm 1 A.Disk "stretches" ["self"] (gq A λ_ d=>.int d.rows.length))(YA:GC P w K mg base cm 3 "Disk" A.Disk ["self","stretches","places"] (qD A)):zo P w K mg base CX0 cm 5 f fd ["self"] (uD A):=by
 refine F.ok tU (λvs H Q E h=>?_) (λZ1 Ar outer s H vs Q E hr h=>?_)
 .obtain ⟨p,wl,sl,cells,m,d,rfl,_⟩:=h;rfl
 .obtain ⟨p,wl,sl,cells,m,d,rfl,D,r3,r16,m0,m1,q⟩:=h;obtain ⟨dx,h1⟩:=D.ob;refine ⟨_,(W.h (zg (zA (i:=1) tU.nd rfl (LQ rfl) (j7 YA hr rfl (za (m0D (br (clE (zb 0)) T.cl_Disk ZW hr)) (za (fD (ae T.cl_Disk T.na_Disk_width (clE (zb 0)))) zc))))
   (zg (sfD (aY T.cl_Disk T.na_Disk_written (clE (zb 1)) (clE (cy (by intro h;exact nomatch h) (ar.of DG) (liD (DD (clE (fD (ae T.cl_Disk T.na_Disk_written (clE (zb 0))))))) (λ_ _ _ _ _=>(zB (i:=0) Ee rfl (LQ rfl))) (λ_ _ _ _ _=>cN) (λ_ _ _ _ _=>(eW tm rfl T.n_list boot_list (za (zb 0) zc)))))))
   (zg (sfD (aY T.cl_Disk T.na_Disk_at_sides (clE (zb 1)) (clE (eW tm rfl T.n_list boot_list (za (fD (ae T.cl_Disk T.na_Disk_at_sides (clE (zb 0)))) zc)))))
   (zg (sfD (aY T.cl_Disk T.na_Disk_counted (clE (zb 1)) (clE (fD (ae T.cl_Disk T.na_Disk_counted (clE (zb 0)))))))
   (zh (zx (zb 1)))))))),?_⟩
  simp_all only [h1,qK];refine ⟨p,wl,sl,cells,m,d,rfl,D,?_⟩;simp_all only [h1,pC];intro x XB H2 n2;refine ⟨x,XB,d.rows.length,m,rfl,n2.at_,by lia,by lia,m0,m1,λwl0 sl0 cells0 H3 D3 kp fr=>⟨rfl,?_⟩⟩;have s3:zl H H3:=λb o e=>kp b o (n2.same b o e) (zC e n2.no);have Dk:zE A H3 p wl sl cells m d:=D.keep (F:=[]) (zr.same s3) (λx _ z=>nomatch z);obtain ⟨dx3,g3⟩:=D3.ob;obtain ⟨dxk,gk⟩:=Dk.ob;have px:p≠x:=zC h1 n2.no;simp_all only [gk,gM,bW];refine ⟨⟨_,SqL.of Dk.rows.w⟩,zS.lst (xs:=cells.map V.ref) (Iw H3 d.rows) (λi τ ys H' I=>?_) (λi τ ys H' I=>SqL.of (I.same _ _ Dk.rows.w)) ⟨⟨_,rfl⟩,⟨[],rfl,rfl,by simp,by simp,nodup_nil⟩,zl.refl _,by decide⟩ ?_ ?_⟩
  .obtain ⟨cs,e,l,_⟩:=I.ex;rw [e,KE,l];exact qA (Mp I.le (by decide))
  .intro N i v τ ys H' hi I hN;obtain ⟨t,rfl⟩:=I.τ;obtain ⟨cs,e,l,hc,hf,Xw⟩:=I.ex;rw [L6] at hi;obtain ⟨c,hci,rfl⟩:=Mh.mp hi;have hcc:=I.same _ _ (Dk.rows.at_ i c hci);have hil:i<cells.length:=(LH.mp hci).1;simp_all only [hcc];intro c2 H4 n4;refine hN _ _ _ ⟨⟨_,rfl⟩,⟨cs++[c2],by rw [e,Mq];rfl,by simp [l],λj b hb=>?_,λb hb=>?_,?_⟩,I.same.trans n4.same,by have:=Dk.rows.len;lia⟩
   .by_cases hj:j<cs.length
    .rw [NB hj] at hb;exact n4.same _ _ (hc j b hb)
    .have hjl:j<(cs++[c2]).length:=(LH.mp hb).1;have hj2:j=cs.length:=by rw [Md] at hjl;simp at hjl;lia
     rw [hj2,Nh (we _)] at hb;simp at hb;subst hb;rw [hj2,l];exact n4.at_
   .rcases My.mp hb with hb|hb
    .exact hf b hb
    .rw [LU] at hb;subst hb;exact I.same.free n4.no
   .refine Oi.mpr ⟨Xw,by simp,λa ha b hb=>?_⟩;rw [LU] at hb;subst hb;obtain ⟨j,hj⟩:=Pe ha;exact zC (hc j a hj) n4.no
  .intro τ ys H4 I W H5 nW;obtain ⟨cs,e,l,hc,hf,Xw⟩:=I.ex;rw [KE] at l;have s35:zl H3 H5:=I.same.trans nW.same;have g5:=s35 _ _ g3;have k5:=s35 _ _ gk;have w5:=nW.at_;rw [e] at w5;have sl5:(upd H5 x (.ins A.Disk dx3 (zG m W sl0 (DM.new d.rows.length)))) sl=some (.lst (d.sides.map tv)):=by
    rw [ze (zC D.sides n2.no)];exact s35 _ _ Dk.sides
   have ob5:(upd H5 x (.ins A.Disk dx3 (zG m W sl0 (DM.new d.rows.length)))) p=some (.ins A.Disk dxk (zG m wl sl d)):=by rw [ze px];exact k5
   have e0:(d.rows.length:Int).toNat=d.rows.length:=by lia
   rw [e0] at g5;simp_all only [g5,Dl,iW,ob5,uV,sl5];intro S H6 n6;have x6:H6 x=some (.ins A.Disk dx3 (zG m W sl0 (DM.new d.rows.length))):=n6.same _ _ zy;have p6:=n6.same _ _ ob5;have p7:(upd H6 x (.ins A.Disk dx3 (zG m W S (DM.new d.rows.length)))) p=some (.ins A.Disk dxk (zG m wl sl d)):=by rw [ze px];exact p6
   simp_all only [x6,JT,iW,p7,lK,zy,lL,dW];have xW:x≠W:=zC (I.same _ _ g3) nW.no;have xS:x≠S:=zC zy n6.no;have WS:W≠S:=zC (show (upd H5 x (.ins A.Disk dx3 (zG m W sl0 (DM.new d.rows.length)))) W=some _ by rw [ze (L8 xW)];exact w5) n6.no;have csx:∀c∈cs,c≠x:=λc Yx=>L8 (zC g3 (hf c Yx));have csat:∀c∈cs,∃o,H5 c=some o:=λc Yx=>by
    obtain ⟨j,hj⟩:=Pe Yx;exact ⟨_,nW.same _ _ (hc j c hj)⟩
   have csW:∀c∈cs,c≠W:=λc Yx=>by
    obtain ⟨j,hj⟩:=Pe Yx;exact zC (hc j c hj) nW.no
   have csS:∀c∈cs,c≠S:=λc Yx=>by
    obtain ⟨o,ho⟩:=csat c Yx;exact zC (show (upd H5 x (.ins A.Disk dx3 (zG m W sl0 (DM.new d.rows.length)))) c=some o by rw [ze (csx c Yx)];exact ho) n6.no
   have up:∀b o,b≠x->H5 b=some o->H6 b=some o:=λb o hb h=>n6.same _ _ (by rw [ze hb];exact h);have Sn:H S=none:=s3.free (s35.free (by have z:=n6.no;rw [ze (L8 xS)] at z;exact z));refine q x W S cs _ ⟨⟨dx3,?_⟩,⟨?_,?_,λi c hi=>?_⟩,?_,?_⟩ (λb o hb=>?_) (λb hb=>?_)
   .exact zy.trans (congrArg (λl=>some (HO.ins A.Disk dx3 l)) (C3 (d':=d.copy) rfl rfl rfl))
   .rw [ze (L8 xW)];exact up _ _ (L8 xW) w5
   .rw [l];exact Dk.rows.len
   .have Yx:=LX hi;rw [ze (csx c Yx)];exact up _ _ (csx c Yx) (nW.same _ _ (hc i c hi))
   .rw [ze (L8 xS)];exact n6.at_
   .simp only [MU,LI,not_or];exact ⟨⟨xW,xS,λz=>csx x z rfl⟩,⟨WS,λz=>csW W z rfl⟩,λz=>csS S z rfl,Xw⟩
   .have hbx:b≠x:=zC hb n2.no;rw [ze hbx];exact up _ _ hbx (s35 _ _ (s3 _ _ hb))
   .simp only [LI] at hb;rcases hb with rfl|rfl|rfl|hb
    .exact n2.no
    .exact s3.free (I.same.free nW.no)
    .exact Sn
    .exact s3.free (hf b hb)
def DM.stop(d:DM)(x:Int):DM:={ d with left:=some x }
def pY(A:zi):Sp:=λvs H Q _=>∃(p wl sl:Addr)(cells:List Addr)(m:Int)(d:DM)(x:Int),vs=[.ref p,.int x]/\zE A H p wl sl cells m d/\∀H',zE A H' p wl sl cells m (d.stop x)->zr [p] H H'->Q .non H'
theorem Fm:zw ["self","many"] ["self","many"] (zm qv):=fsc
theorem JY(F:Fun K "stop" "Disk.stop" qv f fd)(T:Txt w K mg A):zo P w K mg base CX0 cm 1 f fd ["self","many"] (pY A):=by
 refine F.ok Fm (λvs H Q E h=>?_) (λZ1 Ar outer s H vs Q E hr h=>?_)
 .obtain ⟨p,wl,sl,cells,m,d,x,rfl,_⟩:=h;rfl
 .obtain ⟨p,wl,sl,cells,m,d,x,rfl,D,q⟩:=h;obtain ⟨dx,h1⟩:=D.ob;refine ⟨_,(W.h (zh (sfD (aY T.cl_Disk T.na_Disk_left (clE (zb 0)) (clE (zb 1)))))),?_⟩;simp_all only [h1,qi];exact ⟨iW,q _ (D.obj (d':=d.stop x) rfl rfl) (zr.upd (by simp))⟩
end
def Fr(H:Hp)(l:Addr):Prop:=∀o,(∀ps,o≠.tbl ps)->H l≠some o
theorem zD.fr{l:Addr}(s:zD H H')(h:H' l=none):Fr H l:=λo no e=>by
 have:=s _ _ no e;rw [h] at this;cases this
theorem Fr.back{l:Addr}(s:zD H H')(h:Fr H' l):Fr H l:=λo no e=>h o no (s _ _ no e)
theorem Fr.lst{l:Addr}(h:Fr H l)(e:H a=some (.lst xs)):l≠a:=λz=>h (.lst xs) (λps q=>by cases q) (by rw [z];exact e)
structure kj(rs:List (List OR)):Prop where
 len:rs.length<=16
 wide:∀i,(rs.getD i []).length<=32
 keys:wD rs
 nd:((wO rs rs.length).map zu).Nodup
 few:(wO rs rs.length).length<64
section
variable {P:LV}{w:Mf}{K:Frag}{mg:Str->Option Value}{base:Heap}{A:zi}
end
theorem cE(d:DM):nU d=wO (rdR d.rows) (rdR d.rows).length:=by
 unfold nU;rw [qX];show wO (rdR d.rows) d.rows.length=wO (rdR d.rows) (map _ d.rows).length;rw [KE]
theorem bE(d:DM):(rdR d.rows).length=d.rows.length:=KE ..
structure DOk(d:DM):Prop where
 tx:dF d
 nd:((nU d).map zu).Nodup
 few:(nU d).length<=30
 pos:∀t∈nU d,1<=zu t/\zu t<10 ^ 17
 row:∀t∈nU d,bz t.1
theorem DOk.sh(h:DOk d):kj (rdR d.rows):=by
 have e:=cE d;refine ⟨by rw [bE];exact h.tx.len,λi=>?_,λt ht=>lJ (by rw [<- e] at ht;exact ht),by rw [<- e];exact h.nd,by rw [<- e];have:=h.few;lia⟩;rw [bu,KE];by_cases hi:i<d.rows.length
 .exact (h.tx.ok _ (fo hi)).1
 .rw [LG,Nn (by lia)];simp
structure DW(A:zi)(H:Hp)(p wl sl sh:Addr)(cells shc:List Addr)(m:Int)(d:DM):Prop where
 disk:zE A H p wl sl cells m d
 shelf:au H sh shc (rdR d.rows)
 ap:∀x∈wl::sl::cells,x≠sh/\x∉shc
 tb:TB A H
 ok:DOk d
theorem TB.lists(h:TB A H)(k:zr F H H')(hF:∀x∈F,(∃xs,H x=some (.lst xs))\/∃C dx fs,H x=some (.ins C dx fs)):TB A H':=h.keep k λx hx o e=>by
 rcases hF x hx with ⟨xs,z⟩|⟨C,dx,fs,z⟩ <;> · rw [z] at e;cases e;exact ⟨λ_ q=>(by cases q),λ_ q=>(by cases q)⟩
section
variable {A:zi}{H H':Hp}{p wl sl sh:Addr}{cells shc:List Addr}{m:Int}{d:DM}
theorem DW.sameT(h:DW A H p wl sl sh cells shc m d)(s:zD H H')(tb:TB A H'):DW A H' p wl sl sh cells shc m d:=⟨h.disk.sameT s,h.shelf.sameT s,h.ap,tb,h.ok⟩
theorem DW.same(h:DW A H p wl sl sh cells shc m d)(s:zl H H'):DW A H' p wl sl sh cells shc m d:=h.sameT (.of s) (h.tb.same s)
theorem TB.put{l:Addr}(tb:TB A H)(e:H l=some (.lst xs)):TB A (upd H l o):=tb.lists (F:=[l]) (zr.upd (by simp)) λx hx=>by rw [LU] at hx;subst hx;exact .inl ⟨_,e⟩
end
abbrev nX:Stmt:=top 59
abbrev nu:Stmt:=top 61
structure LR(n:Int)(xs:List V):Prop where
 ok:bz xs
 hd:∃y ys,xs = .str y::.int n::ys
 len:xs.length<=7
section
variable {P:LV}{w:Mf}{K:Frag}{mg:Str->Option Value}{base:Heap}{A:zi}
def tL:Sp:=λvs H Q _=>∃(a:Addr)(n:Int)(XI:Bool),vs=[.ref a,.int n,.bl XI]/\Pot H a/\1<=n/\n<10 ^ 17/\∀r xs H',But a H H'->Pot H' a->LR n xs->H' r=some (.tup xs)->Q (.ref r) H'
theorem Jq(h:v∈[V.str "w",.str "0",.str "x1",.str "12",.str "abcdefghij0123456789"]):∃z:Str,v = .str z/\dB z=true:=by
 simp only [LI,LP,or_false] at h;rcases h with rfl|rfl|rfl|rfl|rfl<;>exact ⟨_,rfl,f!""⟩
theorem Gh(h:v∈[V.str "a",.str "b",.str "put",.str "zzzzzz"]):∃z:Str,v = .str z/\cF z=true:=by
 simp only [LI,LP,or_false] at h;rcases h with rfl|rfl|rfl|rfl<;>exact ⟨_,rfl,f!""⟩
theorem eQ:zw ["_law_pot_here","_law_number","_law_is_hot","_law_word","_law_name","_law_place","_law_group","_law_some"] ["_law_pot_here","_law_number","_law_is_hot"] (zm nX):=fsc
theorem Kx(F:Fun K "_law_row" "_law_row" nX f fd)(T:Txt w K mg A)(Z9:GF P w K mg base true 1 "_law_draw" ["_law_pot_here","_law_many"] cL)(Z4:GF P w K mg base true 2 "_law_drawn" ["_law_pot_here","_law_some"] iM):zo P w K mg base CX0 true 3 f fd ["_law_pot_here","_law_number","_law_is_hot"] tL:=by
 refine F.ok eQ (λvs H Q E h=>?_) (λZ1 Ar outer s H vs Q E hr h=>?_)
 .obtain ⟨a,n,XI,rfl,_⟩:=h;rfl
 .obtain ⟨a,n,XI,rfl,hP,n1,n2,q⟩:=h;have hu:_<cLine:=Mi (zQ hr);refine ⟨_,(W.h (zg (zA (i:=3) eQ.nd rfl (LQ rfl) (zt Z4 hr rfl (za (zd 0) (za (aw (za zI (za zI (za zI (za zI (za zI zc)))))) zc))))
   (zg (zR (cQ (aX (zd 2)))
   (zh (zx (aP (za zI (za (zd 1) (za (zt Z9 hr rfl (za (zd 0) (za (zd 1) zc))) (za (zd 3) zc)))))))
   aa)
   (zg (zA (i:=4) eQ.nd rfl (LQ rfl) (zt Z4 hr rfl (za (zd 0) (za (aw (za zI (za zI (za zI (za zI zc))))) zc))))
   (zg (zA (i:=5) eQ.nd rfl (LQ rfl) (zt Z9 hr rfl (za (zd 0) (za zj zc))))
   (zg (zA (i:=6) eQ.nd rfl (LQ rfl) (zz fg (zd 1) (zt Z9 hr rfl (za (zd 0) (za (zz aS (zK (pT rfl) rfl T.n_min boot_min (za (zd 1) (za zj zc))) zj) zc)))))
   (zg (zA (i:=7) eQ.nd rfl (LQ rfl) (aw (za (aP (za zI (za (zd 1) (za (zd 6) (za (dI (bw hu) (zt Z9 hr rfl (za (zd 0) (za zj zc))) zj (zF _)) (za (zd 4) (za (zd 5) (za (zd 3) zc)))))))) zc)))
   (zg (zA (i:=7) eQ.nd rfl (LQ rfl) (zz aS (zd 7) (aw (za (aP (za zI (za (zd 1) (za (zd 1) (za bO (za (zd 4) (za zj (za (zd 3) zc)))))))) (za (aP (za zI (za (zd 1) (za (zd 4) (za (zd 5) zc))))) zc)))))
   (zg (zA (i:=7) eQ.nd rfl (LQ rfl) (zz aS (zd 7) (aw (za (aP (za zI (za (zd 1) (za (zd 4) zc)))) (za (aP (za zI (za (zd 1) (za (zd 4) zc)))) zc)))))
   (zh (zx (zt Z4 hr rfl (za (zd 0) (za (zd 7) zc)))))))))))))),?_⟩
  have hn:bH n:=⟨by lia,by lia⟩;simp_all only [];refine ⟨by decide,λl1 H1 m1 _=>⟨a,hP.same m1.same,.inl ⟨l1,_,rfl,hP.ne m1.no,.inl m1.at_,by simp,by simp,λv H2 hv b2 XH=>?_⟩⟩⟩;obtain ⟨wd,rfl,hwd⟩:=Jq hv;have bA:=(But.of m1.same).trans b2;cases XI with
  | false =>
   simp_all only [];refine ⟨a,n,rfl,XH,by lia,Int.lt_of_lt_of_le n2 (by decide),λg H3 b3 Xt g0 g1=>?_⟩;simp_all only [];refine ⟨by decide,λp2 H4 m4=>q _ _ H4 ((bA.trans b3).trans (But.of m4.same)) (Xt.same m4.same) ⟨.carry n g _ hn ⟨g0,by lia⟩ hwd,⟨_,_,rfl⟩,by simp⟩ m4.at_⟩
  | true =>
   simp_all only [];refine ⟨by decide,λl3 H3 m3 _=>⟨a,XH.same m3.same,.inl ⟨l3,_,rfl,XH.ne m3.no,.inl m3.at_,by simp,by simp,λv H4 hv4 b4 hP4=>?_⟩⟩⟩;obtain ⟨nm,rfl,Xl⟩:=Gh hv4;have bB:=(bA.trans (But.of m3.same)).trans b4
   try simp_all only []
   refine ⟨a,200,rfl,hP4,by decide,by decide,λpl H5 b5 Xs pl0 pl1=>?_⟩
   try simp_all only []
   refine ⟨a,_,rfl,Xs,?_,?_,λgd H6 b6 hP6 gd0 gd1=>?_⟩
   .split<;>lia
   .have:(2:Int) ^ 64=18446744073709551616:=by decide
    split<;>lia
   have gd2:gd<=n:=by split at gd1<;>lia
   try simp_all only []
   refine ⟨a,2,rfl,hP6,by decide,by decide,λeb H7 b7 hP7 eb0 eb1=>?_⟩
   try simp_all only []
   refine ⟨by decide,λp1 K1 m1=>⟨by decide,λq1 K2 m2 _=>⟨by decide,λp2 K3 m3=>⟨by decide,λp3 K4 m4=>⟨by decide,λq2 K5 m5 _=>⟨_,m5.same _ _ (m4.same _ _ (m3.same _ _ m2.at_)),_,m5.at_,aK (by simp),λq3 K6 m6=>⟨by decide,λp4 K7 m7=>⟨by decide,λp5 K8 m8=>⟨by decide,λq4 K9 m9 _=>⟨_,m9.same _ _ (m8.same _ _ (m7.same _ _ m6.at_)),_,m9.at_,aK (by simp),λq5 K10 m10=>?_⟩⟩⟩⟩⟩⟩⟩⟩⟩⟩;have s19:zl H7 K9:=((((((((m1.same.trans m2.same).trans m3.same).trans m4.same).trans m5.same).trans m6.same).trans m7.same).trans m8.same).trans m9.same);have hP9:=hP7.same s19;have hP10:=hP9.same m10.same;refine ⟨a,hP10,.inl ⟨q5,_,rfl,hP9.ne m10.no,.inl m10.at_,by simp,by simp,λv H8 hv8 b8 hP8=>?_⟩⟩;have ne:∀{b:Addr}{xs:List V},K10 b=some (.tup xs)->b≠a:=λ{b xs} e z=>by
    obtain ⟨x,y,ea,_⟩:=hP10.ex;rw [z,ea] at e;cases e
   have bZ:But a H H8:=((((bB.trans b5).trans b6).trans b7).trans (But.of (s19.trans m10.same))).trans b8;have Yr:bH pl:=⟨by lia,by lia⟩;have t8:=λ{b:Addr}{xs:List V}(e:K8 b=some (.tup xs))=>m10.same _ _ (m9.same _ _ e);have t5:=λ{b:Addr}{xs:List V}(e:K5 b=some (.tup xs))=>t8 (m8.same _ _ (m7.same _ _ (m6.same _ _ e)));have t3:=λ{b:Addr}{xs:List V}(e:K3 b=some (.tup xs))=>t5 (m5.same _ _ (m4.same _ _ e));have e1:=t3 (m3.same _ _ (m2.same _ _ m1.at_));have e2:=t3 m3.at_;have e3:=t5 (m5.same _ _ m4.at_);have e4:=t8 (m8.same _ _ m7.at_);have e5:=t8 m8.at_;simp only [Qt,Qz,LI,LP,or_false] at hv8;rcases hv8 with rfl|rfl|rfl|rfl|rfl
   .exact q _ _ H8 bZ hP8 ⟨.put n (n-gd) _ nm pl wd hn ⟨by lia,by lia⟩ Yr Xl hwd,⟨_,_,rfl⟩,by simp⟩ (b8 _ _ (ne e1) e1)
   .exact q _ _ H8 bZ hP8 ⟨.put n n true nm 0 wd hn hn ⟨by decide,by decide⟩ Xl hwd,⟨_,_,rfl⟩,by simp⟩ (b8 _ _ (ne e2) e2)
   .exact q _ _ H8 bZ hP8 ⟨.cut n nm pl hn Yr Xl,⟨_,_,rfl⟩,by simp⟩ (b8 _ _ (ne e3) e3)
   .exact q _ _ H8 bZ hP8 ⟨.hold n nm hn Xl,⟨_,_,rfl⟩,by simp⟩ (b8 _ _ (ne e4) e4)
   .exact q _ _ H8 bZ hP8 ⟨.free n nm hn Xl,⟨_,_,rfl⟩,by simp⟩ (b8 _ _ (ne e5) e5)
structure Ris(ns:List Int)(top:Int):Prop where
 up:ns.Pairwise (· < ·)
 in_:∀n∈ns,1<=n/\n<=top
 last:ns.getLast?=some top
structure NmI(H:Hp)(a l:Addr)(Zj:Int)(i:Nat)(σ:L2.St)(H':Hp):Prop where
 ex:∃t,σ=[some (V.ref a),some (.int Zj),some (.ref l),t]
 but:But a H H'
 pot:Pot H' a
 no:H l=none
 ls:∃ns top,H' l=some (.lst (ns.map V.int))/\ns.length=i+1/\Ris ns top/\top<=10 ^ 16+3*i
 le:i<=20
def uh:Sp:=λvs H Q _=>∃(a:Addr)(Zj:Nat),vs=[.ref a,.int Zj]/\Pot H a/\1<=Zj/\Zj<=20/\∀l (ns:List Int) H',But a H H'->Pot H' a->H l=none->H' l=some (.lst (ns.map V.int))->ns.length=Zj->ns.Nodup->(∀n∈ns,1<=n/\n<10 ^ 17)->Q (.ref l) H'
theorem But.no{l:Addr}(b:But a H H')(hP:Pot H' a)(h:H' l=none):H l=none:=by
 cases e:H l with
 | none=>rfl
 | some o =>
  have:=b l o (hP.ne h) e;rw [h] at this;cases this
theorem mL:zw ["_law_pot_here","_law_many","_law_found","_law_k"] ["_law_pot_here","_law_many"] (zm nu):=fsc
theorem As(F:Fun K "_law_numbers" "_law_numbers" nu f fd)(T:Txt w K mg A)(Z9:GF P w K mg base true 1 "_law_draw" ["_law_pot_here","_law_many"] cL):zo P w K mg base CX0 true 2 f fd ["_law_pot_here","_law_many"] uh:=by
 refine F.ok mL (λvs H Q E h=>?_) (λZ1 Ar outer s H vs Q E hr h=>?_)
 .obtain ⟨a,Zj,rfl,_⟩:=h;rfl
 .obtain ⟨a,Zj,rfl,hP,n1,n2,q⟩:=h;refine ⟨_,(W.h (zg (zA (i:=2) mL.nd rfl (LQ rfl) (aw (za (zz aS zj (zt Z9 hr rfl (za (zd 0) (za (zH zZ (aw (za zj (za (zz qE zj zj) zc))) (zt Z9 hr rfl (za (zd 0) (za zj zc))) (λ_ _=>rfl)) zc)))) zc)))
   (zg (cb Nb.never (λ_=>rfl) (fq rfl T.n_range (za (zz fg (zd 1) zj) zc)) (zB (i:=3) mL.nd rfl (LQ rfl))
   (zh (aq (gF (zd 2) (zz aS (zz aS (zH zZ (zd 2) (jR jn zj) (λ_ _=>rfl)) zj) (zz dP (zt Z9 hr rfl (za (zd 0) (za zj zc))) (zt Z9 hr rfl (za (zd 0) (za zj zc)))))))))
   (zh (zx (zd 2)))))),?_⟩
  simp_all only [];refine ⟨⟨by decide,by decide,by decide⟩,by decide,λlp H1 m1 _=>?_⟩
  try simp_all only []
  refine ⟨a,2,rfl,hP.same m1.same,by decide,by decide,λr H2 b2 XH r0 r1=>?_⟩
  try simp_all only []
  have lpa:lp≠a:=hP.ne m1.no;have e2:=b2 _ _ lpa m1.at_;have hv:∃y:Int,atI [V.int 9,V.int (10 ^ 16)] r=some (.int y)/\1<=y/\y<=10 ^ 16:=by
   have:r=0\/r=1:=by lia
   rcases this with rfl|rfl
   .exact ⟨9,rfl,by decide,by decide⟩
   .exact ⟨10 ^ 16,rfl,by decide,by decide⟩
  obtain ⟨y,hy,y1,y2⟩:=hv;refine ⟨_,.inl e2,_,hy,a,y,rfl,XH,by lia,OB y2 (by decide),λd H3 b3 Xt d0 d1=>?_⟩;have bA:=((But.of m1.same).trans b2).trans b3;simp only [fe];refine ⟨by decide,λl H4 m4 _=>⟨by lia,by lia,?_⟩⟩;have bB:=bA.trans (But.of m4.same);have er:((Zj:Nat)-1:Int).toNat=Zj-1:=by lia
  rw [er];refine aB.rng (NmI H a l Zj) ⟨⟨_,rfl⟩,bB,Xt.same m4.same,bA.no Xt m4.no,⟨[1+d],1+d,m4.at_,rfl,⟨OF ..,λn hn=>by rw [LU] at hn;lia,rfl⟩,by lia⟩,by lia⟩ ?_ ?_
  .rintro i σ H5 hi ⟨⟨t,rfl⟩,b5,Xs,ln,⟨ns,top,hl,Z5,R,ht⟩,le⟩;have la:l≠a:=hP.ne ln;simp_all only [hl];have hix:atI (ns.map V.int) (-1)=some (.int top):=by
    rcases List.eq_nil_or_concat ns with rfl|⟨zs,z,ez⟩
    .simp at Z5
    .rw [List.concat_eq_append] at ez;have hz:=R.last;rw [ez,List.getLast?_concat] at hz;cases hz;rw [ez,Mq];exact sL _ _
   refine ⟨_,hix,?_⟩;simp only [fe];refine ⟨a,3,rfl,Xs,by decide,by decide,λr3 H6 b6 hP6 r30 r31=>⟨a,2,rfl,hP6,by decide,by decide,λr4 H7 b7 hP7 r40 r41=>?_⟩⟩;simp only [uc,fe];have hp0:0<=r3*r4/\r3*r4<=2:=by
    have h3:r3=0\/r3=1\/r3=2:=by lia
    have h4:r4=0\/r4=1:=by lia
    rcases h3 with rfl|rfl|rfl<;>rcases h4 with rfl|rfl<;>decide
   generalize r3*r4=g at hp0;refine ⟨.inl ⟨by lia,by lia⟩,_,b7 _ _ la (b6 _ _ la hl),by rw [KE];exact aF (by lia),⟨_,rfl⟩,λc o nc ec=>?_,?_,ln,⟨ns++[top+1+g],_,by rw [zy,Mq];rfl,by simp [Z5],⟨?_,λn hn=>?_,List.getLast?_concat ..⟩,by lia⟩,by lia⟩
   .rw [ze (zC ec ln)];exact b7 _ _ nc (b6 _ _ nc (b5 _ _ nc ec))
   .obtain ⟨x,y,ea,rr⟩:=hP7.ex;exact ⟨⟨x,y,by rw [ze (L8 la)];exact ea,rr⟩⟩
   .rw [List.pairwise_append];exact ⟨R.up,OF ..,λx hx z hz=>by rw [LU] at hz;have:=R.in_ x hx;lia⟩
   .rcases My.mp hn with hn|hn
    .have:=R.in_ n hn;lia
    .rw [LU] at hn;obtain ⟨z,hz⟩:∃z,z∈ns:=by cases ns with|nil=>simp at Z5|cons z zs=>exact ⟨z,Mc ..⟩
     have:=R.in_ z hz;lia
  .rintro σ H5 ⟨⟨t,rfl⟩,b5,Xs,ln,⟨ns,top,hl,Z5,R,ht⟩,le⟩;simp_all only [];exact q l ns H5 b5 Xs ln hl (by lia) (R.up.imp λh=>by lia) λn hn=>by have:=R.in_ n hn;lia
end
theorem wu{c:Nat}(h:aN z y m=true)(hc:c∉sg y):c∉sg z:=λz'=>by
 unfold aN at h;rw [Mu] at h;have:=Mz.mp h.2 c z';exact hc (by simpa using this)
theorem yd(h:bH i):59∉sg (toString i:Str):=λz=>by
 have:=(fX h.1 h.2).dig 59 z;lia
theorem bz.no59(h:bz xs):∀v∈xs,59∉sg (az v):=by
 have bno:∀b:Bool,59∉sg (az (.bl b)):=λb=>by cases b<;>decide +kernel
 have nmn:∀{z:Str},cF z=true->59∉sg (az (.str z)):=λhz=>wu hz (f!"");have wdn:∀{z:Str},dB z=true->59∉sg (az (.str z)):=λhz=>wu hz (f!"");have inn:∀{i:Int},bH i->59∉sg (az (.int i)):=λhi=>yd hi;cases h with
 | put n g b nm pl wd h1 h2 h3 h4 h5 =>
  intro v hv;simp only [LI,LP,or_false] at hv;rcases hv with rfl|rfl|rfl|rfl|rfl|rfl|rfl
  .exact (by decide +kernel:59∉sg ("put":Str))
  .exact inn h1
  .exact inn h2
  .exact bno b
  .exact nmn h4
  .exact inn h3
  .exact wdn h5
 | cut n nm pl h1 h2 h3 =>
  intro v hv;simp only [LI,LP,or_false] at hv;rcases hv with rfl|rfl|rfl|rfl
  .exact (by decide +kernel:59∉sg ("cut":Str))
  .exact inn h1
  .exact nmn h3
  .exact inn h2
 | hold n nm h1 h2 =>
  intro v hv;simp only [LI,LP,or_false] at hv;rcases hv with rfl|rfl|rfl
  .exact (by decide +kernel:59∉sg ("hold":Str))
  .exact inn h1
  .exact nmn h2
 | free n nm h1 h2 =>
  intro v hv;simp only [LI,LP,or_false] at hv;rcases hv with rfl|rfl|rfl
  .exact (by decide +kernel:59∉sg ("free":Str))
  .exact inn h1
  .exact nmn h2
 | carry n g wd h1 h2 h3 =>
  intro v hv;simp only [LI,LP,or_false] at hv;rcases hv with rfl|rfl|rfl|rfl
  .exact (by decide +kernel:59∉sg ("carry":Str))
  .exact inn h1
  .exact inn h2
  .exact wdn h3
theorem nO(b:Str):sg (cR b)=(sg b++sg (toString (cg b):Str))++[59]:=by
 unfold cR;rw [cZ,cZ];rfl
theorem BW(h:∀v∈xs,59∉sg (az v)):59∉zT xs:=λz=>by
 unfold zT at z;obtain ⟨l,hl,hz⟩:=List.mem_flatten.mp z;obtain ⟨v,hv,rfl⟩:=NK.mp hl;rcases My.mp hz with hz|hz
 .exact h v hv hz
 .simp at hz
theorem Gb(ok:bz xs)(h:j<(aM xs).length):bG (tx ((sg (aM xs)).take j))=none:=by
 have hs:=nO (tx (zT xs));have hsum:=eJ (tx (zT xs));have no:59∉sg (tx (zT xs))++sg (toString (cg (tx (zT xs))):Str):=λz=>by
  rcases My.mp z with z|z
  .rw [ck] at z;exact BW ok.no59 z
  .exact yd ⟨hsum.1,by lia⟩ z
 have hl:(aM xs).length=(sg (tx (zT xs))++sg (toString (cg (tx (zT xs))):Str)).length+1:=by
  show (cR _).length=_;rw [<- zX,hs,Md];rfl
 have no2:59∉(sg (aM xs)).take j:=λz=>by
  unfold aM at z;rw [hs,List.take_append_of_le_length (by lia)] at z;exact no (Pd z)
 unfold bG ef;rw [if_neg]
 .rfl
 .intro e;apply no2;have:=congrArg sg e;rw [ck,nO] at this;rw [this];exact Mb _ (LU.mpr rfl)
theorem Fd(ok:bz xs)(hl:xs.length<=7):asc (aM xs)=true/\(aM xs).length<=1000/\bG (aM xs)=some xs/\2<=(aM xs).length:=by
 obtain ⟨_,_,_,hp⟩:=ok.parts;obtain ⟨l1,l2⟩:=mP hp;have F:=fX (eJ (tx (zT xs))).1 (by have:=(eJ (tx (zT xs))).2;lia);have nl:=vq (eJ (tx (zT xs))).1 (by have:=(eJ (tx (zT xs))).2;lia);refine ⟨?_,?_,ok.read,?_⟩
 .unfold aM cR;rw [bJ,cZ,cZ,ck,all_append,all_append,l2];have:(sg (toString (cg (tx (zT xs))):Str)).all (λc=>decide (c<128))=true:=Mz.mpr λc hc=>decide_eq_true (by have:=F.dig c hc;lia);rw [this];decide +kernel
 .unfold aM cR;rw [<- zX,cZ,cZ,ck,Md,Md,zX];have:(sg (";":Str)).length=1:=by decide +kernel
  rw [this];lia
 .show 2<=(cR _).length;rw [<- zX,nO,Md,Md,Oj];have:=F.one;lia
theorem iQ{α:Type}:∀{l m:List α},l.Nodup->(∀x∈l,x∈m)->l.length<=m.length
 | [],_,_,_=>MM _
 | x::l,m,nd,h=>by
  obtain ⟨n1,n2⟩:=MU.mp nd;obtain ⟨m1,m2,rfl⟩:=List.append_of_mem (h x (Mc ..));have:=iQ (m:=m1++m2) n2 λy hy=>by
   rcases My.mp (h y (LO _ hy)) with z|z
   .exact MR _ z
   .rcases LI.mp z with z|z
    .subst z;exact absurd hy n1
    .exact Mb _ z
  simp only [MW,Md] at this ⊢;lia
theorem iY(d:DM):(nU d).Nodup:=by rw [cE];exact ml _
theorem tP(inj:∀s t:Tri,s∈nU d->t∈nU d->zu s=zu t->s=t):((nU d).map zu).Nodup :=
 Nf.mpr (List.Pairwise.imp_of_mem (λ{a b} ha hb h e=>h (inj a b ha hb e)) (iY d))
structure TOk(m:Int)(d:DM)(ns:List Int):Prop where
 size:3<=d.rows.length/\d.rows.length<=16/\2<=m/\m<=32
 wide:∀i,((d.rows.getD i []).length:Int)<=m
 nd:ns.Nodup
 in_:∀n∈ns,1<=n/\n<10 ^ 17
 apart:∀t∈nU d,zu t∉ns
 few:(nU d).length+ns.length<=20
theorem DOk.less(h:DOk d)(tx:dF d')(hs:∀t∈nU d',t∈nU d):DOk d' :=
 ⟨tx,tP λs t hs' ht' e=>uL h.nd (hs s hs') (hs t ht') e,Mp (iQ (iY d') hs) h.few,λt ht=>h.pos t (hs t ht),λt ht=>h.row t (hs t ht)⟩
theorem TOk.less(h:TOk m d ns)(hl:d'.rows.length=d.rows.length)(hw:∀i,((d'.rows.getD i []).length:Int)<=m)(hs:∀t∈nU d',t∈nU d):TOk m d' ns :=
 ⟨by rw [hl];exact h.size,hw,h.nd,h.in_,λt ht=>h.apart t (hs t ht),Mp (Nat.add_le_add_right (iQ (iY d') hs) _) h.few⟩
theorem gN{rows:List (List Tx)}{k:Nat}{r:List Tx}:rdR (rows.set k r)=(rdR rows).set k (r.map rdT):=by
 unfold rdR;rw [map_set]
theorem dF.set(h:dF d){k:Nat}{r:List Tx}{c:Int}{sd:List Tx}(hr:r.length<=32/\∀t∈r,∀z,t=some z->asc z=true/\z.length<=1000):dF ⟨d.rows.set k r,sd,c,lf,st⟩:=by
 refine ⟨λq hq=>?_,by show (d.rows.set k r).length<=16;rw [Nm];exact h.len⟩;rcases Oq hq with hq|rfl
 .exact h.ok q hq
 .exact hr
def DM.wrote(d:DM)(k:Nat)(t:Str)(c:Int):DM:={ d with rows:=d.rows.set k (d.rows.getD k []++[some t]),cnt:=c }
def DM.cleared(d:DM)(k:Nat)(c:Int):DM:={ d with rows:=d.rows.set k [],cnt:=c }
theorem Fb{k:Nat}{t:Str}(h1:d.left=none)(h2:d.st=false)(hw:((d.rows.getD k []).length:Int)<m):d.write m k t=(.val (.int (d.rows.getD k []).length),d.wrote k t (d.cnt+t.length)):=by
 have edn:dn d.left t.length=t.length:=by rw [h1];rfl
 have es:(d.spend t.length).st=false:=by show decide _=false;rw [edn];exact decide_eq_false (Qh _)
 unfold DM.write;rw [if_neg (by rw [h2];exact LM),if_neg (by lia),if_neg (by rw [es];exact λz=>LM z.2),if_neg (by rw [es];exact LM),edn];have ec:fQ t t.length=some t:=by
  show some (Txt.slice t none (some (t.length:Int)))=_;rw [je (by rw [zX];exact we _),<- zX,Mj (we _),iA]
 rw [ec];have e2:d.spend t.length={ d with cnt:=d.cnt+t.length }:=by
  unfold DM.spend;rw [edn,h1,h2,decide_eq_false (Qh _)];rfl
 rw [e2];rfl
theorem CB{k:Nat}(h1:d.left=none)(h2:d.st=false):d.empty k=(.val .non,d.cleared k (d.cnt+(d.rows.getD k []).length)):=by
 have edn:dn d.left (d.rows.getD k []).length=(d.rows.getD k []).length:=by rw [h1];rfl
 have es:(d.spend (d.rows.getD k []).length).st=false:=by show decide _=false;rw [edn];exact decide_eq_false (Qh _)
 unfold DM.empty;rw [if_neg (by rw [h2];exact LM),if_neg (by rw [es];exact LM)];have e2:d.spend (d.rows.getD k []).length={ d with cnt:=d.cnt+(d.rows.getD k []).length }:=by
  unfold DM.spend;rw [edn,h1,h2,decide_eq_false (Qh _)];rfl
 rw [e2];rfl
section
variable {d:DM}{m:Int}{ns:List Int}{k:Nat}
theorem rh{c:Int}(hk:k<d.rows.length){t:Tri}:t∈nU (d.cleared k c)↔t∈nU d/\t.2.1≠k:=by
 rw [cE,cE];show t∈wO (rdR (d.rows.set k [])) (rdR (d.rows.set k [])).length↔_;rw [gN];exact ER (by rw [bE];exact hk)
theorem EN{c:Int}(h:DOk d)(hk:k<d.rows.length):DOk (d.cleared k c):=h.less (h.tx.set ⟨by simp,by simp⟩) λt ht=>((rh hk).mp ht).1
theorem Cg{c:Int}(hm:2<=m)(hw:∀i,((d.rows.getD i []).length:Int)<=m)(hk:k<d.rows.length)(i:Nat):(((d.cleared k c).rows.getD i []).length:Int)<=m:=by
 show (((d.rows.set k []).getD i []).length:Int)<=m;rw [fk hk];split
 .simp;lia
 .exact hw i
theorem Kq{c:Int}(h:TOk m d ns)(hk:k<d.rows.length):TOk m (d.cleared k c) ns:=h.less (by show (d.rows.set k []).length=_;rw [Nm]) (Cg h.size.2.2.1 h.wide hk) λt ht=>((rh hk).mp ht).1
theorem lQ{t:Str}{c:Int}(hk:k<d.rows.length){u:Tri}:u∈nU (d.wrote k t c)↔u∈nU d\/(rdT (some t)=some u.1/\u.2=(k,(d.rows.getD k []).length)):=by
 rw [cE,cE];show u∈wO (rdR (d.rows.set k (d.rows.getD k []++[some t]))) (rdR (d.rows.set k (d.rows.getD k []++[some t]))).length↔_;rw [gN,Mq,<- bu];have:=Je (rs:=rdR d.rows) (o:=rdT (some t)) (k:=k) (by rw [bE];exact hk) (t:=u);rw [show ([some t]:List Tx).map rdT=[rdT (some t)] from rfl,this,bu,KE]
theorem Bq{t:Str}{c:Int}{i:Nat}(h:DOk d)(ht:TOk m d ns)(hk:k<d.rows.length)(hw:((d.rows.getD k []).length:Int)<m)(ha:asc t=true)(hl:t.length<=1000)(hn:ns[i]?=some n)(hr:∀xs,rdT (some t)=some xs->gO xs=n)(hro:∀xs,rdT (some t)=some xs->bz xs) :
  DOk (d.wrote k t c)/\TOk m (d.wrote k t c) (ns.eraseIdx i):=by
 have hsz:=ht.size;have Xl:n∈ns:=LX hn;have hi:i<ns.length:=(LH.mp hn).1;have new:∀{u:Tri},u∈nU (d.wrote k t c)->u∈nU d\/(zu u=n/\rdT (some t)=some u.1/\u.2=(k,(d.rows.getD k []).length)):=λ{u} hu=>by
  rcases (lQ hk).mp hu with hu|⟨h1,h2⟩
  .exact .inl hu
  .exact .inr ⟨hr _ h1,h1,h2⟩
 have lenU:(nU (d.wrote k t c)).length<=(nU d).length+1:=by
  cases e:rdT (some t) with
  | none =>
   refine N9 (iQ (iY _) λu hu=>?_);rcases (lQ hk).mp hu with hu|⟨h1,_⟩
   .exact hu
   .rw [e] at h1;cases h1
  | some xs =>
   have:=iQ (m:=(xs,k,(d.rows.getD k []).length)::nU d) (iY (d.wrote k t c)) λu hu=>by
    rcases (lQ hk).mp hu with hu|⟨h1,h2⟩
    .exact LO _ hu
    .rw [e] at h1;cases h1;obtain ⟨x,y⟩:=u;cases (show y=_ from h2);exact Mc ..
   simpa using this
 have hle:=PL hi;have hfew:=ht.few;have hnd':∀x∈ns.eraseIdx i,x∈ns/\x≠n:=λx hx=>by
  refine ⟨(List.eraseIdx_sublist ..).subset hx,λz=>?_⟩;rw [List.mem_eraseIdx_iff_getElem?] at hx;obtain ⟨j,hj,e⟩:=hx;subst z;exact hj ((Pn hi ht.nd).mp (hn.trans e.symm)).symm
 refine ⟨⟨h.tx.set ⟨?_,?_⟩,tP ?_,by lia,λu hu=>?_,λu hu=>?_⟩,⟨by show 3<=(d.rows.set k _).length/\(d.rows.set k _).length<=16/\_;rw [Nm];exact hsz,λj=>?_,ht.nd.sublist (List.eraseIdx_sublist ..),λx hx=>ht.in_ x (hnd' x hx).1,λu hu z=>?_,by lia⟩⟩
 .rw [Md,Oj];lia
 .intro q hq z hz;rcases My.mp hq with hq|hq
  .exact (h.tx.ok _ (fo hk)).2 q hq z hz
  .rw [LU] at hq;subst hq;cases hz;exact ⟨ha,hl⟩
 .intro s u hs hu e;rcases new hs with hs|⟨s1,s2,s3⟩
  .rcases new hu with hu|⟨u1,_⟩
   .exact uL h.nd hs hu e
   .exact absurd (by rw [e,u1];exact Xl) (ht.apart s hs)
  .rcases new hu with hu|⟨u1,u2,u3⟩
   .exact absurd (by rw [<- e,s1];exact Xl) (ht.apart u hu)
   .obtain ⟨a,b⟩:=s;obtain ⟨a',b'⟩:=u;have:a=a':=by rw [s2] at u2;exact Ms.inj u2
    rw [this,show b=b' from s3.trans u3.symm]
 .rcases new hu with hu|⟨u1,_⟩
  .exact h.pos u hu
  .rw [u1];exact ht.in_ n Xl
 .rcases new hu with hu|⟨_,u2,_⟩
  .exact h.row u hu
  .exact hro _ u2
 .show (((d.rows.set k _).getD j []).length:Int)<=m;rw [fk hk];split
  .rw [Md,Oj];lia
  .exact ht.wide j
 .obtain ⟨z1,z2⟩:=hnd' _ z;rcases new hu with hu|⟨u1,_⟩
  .exact ht.apart u hu z1
  .exact z2 u1
end
abbrev jC:Stmt:=top 60
section
variable {A:zi}{H H':Hp}{a nl p wl sl sh:Addr}{cells shc:List Addr}{m:Int}{d:DM}{ns:List Int}
theorem Pot.lst(h:Pot H a):∃xs,H a=some (.lst xs):=let ⟨x,y,e,_⟩:=h.ex;⟨_,e⟩
theorem ju{C:Addr}{fs:List (Str×V)}(h:H b=some (.lst xs))(h':H c=some (.ins C dx fs)):b≠c:=λz=>by rw [z,h'] at h;cases h
theorem zE.lists(D:zE A H p wl sl cells m d):∀x∈p::wl::sl::cells,(∃xs,H x=some (.lst xs))\/∃C dx fs,H x=some (.ins C dx fs):=λx hx=>by
 obtain ⟨dx,hp⟩:=D.ob;rcases LI.mp hx with rfl|hx
 .exact .inr ⟨_,_,_,hp⟩
 .rcases LI.mp hx with rfl|hx
  .exact .inl ⟨_,D.rows.w⟩
  .rcases LI.mp hx with rfl|hx
   .exact .inl ⟨_,D.sides⟩
   .obtain ⟨i,hi,rfl⟩:=MI hx;exact .inl ⟨_,D.rows.at_ i _ (il hi)⟩
theorem zE.out(D:zE A H p wl sl cells m d){zs:List V}(e:H c=some (.lst zs))(hn:∀x∈wl::sl::cells,x≠c):c∉p::wl::sl::cells:=λz=>by
 obtain ⟨dx,hp⟩:=D.ob;rcases LI.mp z with z|z
 .exact ju e hp z
 .exact hn c z rfl
theorem zE.tup(D:zE A H p wl sl cells m d)(b:zr (p::wl::sl::cells) H H'){r:Addr}(e:H r=some (.tup xs)):H' r=some (.tup xs):=b _ _ e λz=>by
 rcases D.lists r z with ⟨ys,q⟩|⟨C,dx,fs,q⟩ <;> · rw [q] at e;cases e
theorem au.keepF(h:au H sh shc rs)(k:zr F H H')(hF:∀x∈F,(∃xs,H x=some (.lst xs))\/∃C dx fs,H x=some (.ins C dx fs))(h1:sh∉F)(h2:∀c∈shc,c∉F):au H' sh shc rs :=
 h.keep (λr xs e=>k _ _ e λz=>by rcases hF r z with ⟨xs,q⟩|⟨C,dx,fs,q⟩ <;> · rw [q] at e;cases e) λb xs hb e=>k _ _ e (by
  rcases hb with rfl|hb
  .exact h1
  .exact h2 b hb)
theorem DW.put(h:DW A H p wl sl sh cells shc m d)(e:H b=some (.lst xs))(h1:∀x∈wl::sl::cells,x≠b)(h2:b≠sh)(h3:b∉shc)(k:zr [b] H H'):DW A H' p wl sl sh cells shc m d:=by
 have hF:∀x∈[b],(∃xs,H x=some (.lst xs))\/∃C dx fs,H x=some (.ins C dx fs):=λx hx=>by rw [LU] at hx;subst hx;exact .inl ⟨_,e⟩
 obtain ⟨dx,hp⟩:=h.disk.ob;refine ⟨h.disk.keep k λx hx z=>?_,h.shelf.keepF k hF (by simpa using λz=>h2 z.symm) (λc hc z=>by rw [LU] at z;exact h3 (z ▸ hc)),h.ap,h.tb.lists k hF,h.ok⟩;rw [LU] at z;rcases LI.mp hx with rfl|hx
 .exact ju e hp z.symm
 .exact h1 x hx z
theorem DW.diskB(h:DW A H p wl sl sh cells shc m d)(b:zr (p::wl::sl::cells) H H'):au H' sh shc (rdR d.rows)/\TB A H':=by
 refine ⟨h.shelf.keepF b h.disk.lists (h.disk.out h.shelf.w λx hx=>(h.ap x hx).1) λc hc=>?_,h.tb.lists b h.disk.lists⟩;obtain ⟨i,hi,rfl⟩:=MI hc;obtain ⟨vs,e,_⟩:=h.shelf.at_ i _ (il hi);exact h.disk.out e λx hx z=>(h.ap x hx).2 (z ▸ hc)
theorem au.set(S:au H sh shc rs){k:Nat}(hk:k<rs.length)(hc:shc[k]?=some c)(hp:Paired (cU H) X7 r'):au (upd H c (.lst X7)) sh shc (rs.set k r'):=by
 have hm:=LX hc;obtain ⟨n1,n2⟩:=MU.mp S.nd;obtain ⟨vs0,hv0,_⟩:=S.at_ k c hc;have kt:∀r xs,H r=some (.tup xs)->upd H c (.lst X7) r=some (.tup xs):=λr xs e=>by rw [ze (λz=>by rw [z,hv0] at e;cases e)];exact e
 refine ⟨by rw [ze (λz:sh=c=>n1 (by rw [z];exact hm))];exact S.w,by rw [Nm];exact S.len,λi ci hi=>?_,S.nd⟩;rw [fk hk];by_cases h:i=k
 .subst h;rw [hc] at hi;cases hi;rw [if_pos rfl];exact ⟨X7,zy,Paired.mapP hp λv o r=>r.keep kt⟩
 .rw [if_neg h];obtain ⟨vs,hv,pv⟩:=S.at_ i ci hi;refine ⟨vs,?_,Paired.mapP pv λv o r=>r.keep kt⟩;rw [ze (λz:ci=c=>h (yr n2 hi (by rw [z];exact hc)))];exact hv
theorem DW.done{k:Nat}(h:DW A H p wl sl sh cells shc m d)(b:zr (p::wl::sl::cells) H H')(hk:k<d.rows.length)(D':zE A H' p wl sl cells m d')(hr:rdR d'.rows=(rdR d.rows).set k r')(hc:shc[k]?=some c)(hp:Paired (cU H') X7 r')(ok:DOk d') :
  DW A (upd H' c (.lst X7)) p wl sl sh cells shc m d':=by
 obtain ⟨hS,hT⟩:=h.diskB b;have hm:=LX hc;obtain ⟨vs0,hv0,_⟩:=hS.at_ k c hc;obtain ⟨dx,hob⟩:=D'.ob;have kk:zr [c] H' (upd H' c (.lst X7)):=zr.upd (by simp);refine ⟨D'.keep kk λx hx z=>?_,by rw [hr];exact hS.set (by rw [bE];exact hk) hc hp,h.ap,hT.put hv0,ok⟩;rw [LU] at z;rcases LI.mp hx with rfl|hx
 .exact ju hv0 hob z.symm
 .exact (h.ap x hx).2 (z ▸ hm)
structure QW(A:zi)(H:Hp)(a nl p wl sl sh:Addr)(cells shc:List Addr)(m:Int)(d:DM)(ns:List Int):Prop where
 dw:DW A H p wl sl sh cells shc m d
 pot:Pot H a
 nums:H nl=some (.lst (ns.map V.int))
 ap:∀x∈wl::sl::cells,x≠a/\x≠nl
 ap2:a≠nl/\a≠sh/\a∉shc/\nl≠sh/\nl∉shc
 live:d.left=none/\d.st=false
 sd:d.sides.length=2
theorem But.keeps(h:But b H H'):zr [b] H H':=λc o e n=>h c o (λz=>n (by simp [z])) e
theorem DW.potB(h:DW A H p wl sl sh cells shc m d)(hP:Pot H a)(h1:∀x∈wl::sl::cells,x≠a)(h2:a≠sh)(h3:a∉shc)(b:But a H H'):DW A H' p wl sl sh cells shc m d:=by
 obtain ⟨xs,e⟩:=hP.lst;exact h.put e h1 h2 h3 b.keeps
theorem QW.potB(h:QW A H a nl p wl sl sh cells shc m d ns)(b:But a H H')(hP:Pot H' a):QW A H' a nl p wl sl sh cells shc m d ns :=
 ⟨h.dw.potB h.pot (λx hx=>(h.ap x hx).1) h.ap2.2.1 h.ap2.2.2.1 b,hP,b _ _ (L8 h.ap2.1) h.nums,h.ap,h.ap2,h.live,h.sd⟩
theorem QW.same(h:QW A H a nl p wl sl sh cells shc m d ns)(s:zl H H'):QW A H' a nl p wl sl sh cells shc m d ns:=⟨h.dw.same s,h.pot.same s,s _ _ h.nums,h.ap,h.ap2,h.live,h.sd⟩
theorem QW.popped{ns':List Int}(h:QW A H a nl p wl sl sh cells shc m d ns):QW A (upd H nl (.lst (ns'.map V.int))) a nl p wl sl sh cells shc m d ns':=by
 obtain ⟨x,y,e,r⟩:=h.pot.ex;exact ⟨h.dw.put h.nums (λx hx=>(h.ap x hx).2) h.ap2.2.2.2.1 h.ap2.2.2.2.2 (zr.upd (by simp)),⟨⟨x,y,by rw [ze h.ap2.1];exact e,r⟩⟩,zy,h.ap,h.ap2,h.live,h.sd⟩
theorem QW.done{k:Nat}(h:QW A H a nl p wl sl sh cells shc m d ns)(b:zr (p::wl::sl::cells) H H')(hk:k<d.rows.length)(D':zE A H' p wl sl cells m d')(hr:rdR d'.rows=(rdR d.rows).set k r')(hc:shc[k]?=some c)(hp:Paired (cU H') X7 r')(ok:DOk d')(lv:d'.left=none/\d'.st=false)(sd:d'.sides.length=2) :
  QW A (upd H' c (.lst X7)) a nl p wl sl sh cells shc m d' ns:=by
 have hm:=LX hc;obtain ⟨x,y,e,r⟩:=h.pot.ex;refine ⟨h.dw.done b hk D' hr hc hp ok,⟨⟨x,y,?_,r⟩⟩,?_,h.ap,h.ap2,lv,sd⟩
 .rw [ze (λz:a=c=>h.ap2.2.2.1 (z ▸ hm))];exact b _ _ e (h.dw.disk.out e λx hx=>(h.ap x hx).1)
 .rw [ze (λz:nl=c=>h.ap2.2.2.2.2 (z ▸ hm))];exact b _ _ h.nums (h.dw.disk.out h.nums λx hx=>(h.ap x hx).2)
def FT(a nl p wl sl sh:Addr)(cells shc:List Addr):List Addr:=a::nl::p::wl::sl::sh::(cells++shc)
theorem TOk.small(h:TOk m d ns):small d:=λk=>by have:=h.wide k;have:=h.size;lia
end
section
variable {P:LV}{w:Mf}{K:Frag}{mg:Str->Option Value}{base:Heap}{A:zi}
theorem yP{α β:Type}{f:α->β}:∀{l:List α}{i:Nat},(l.map f).eraseIdx i=(l.eraseIdx i).map f
 | [],_=>rfl
 | _::_,0=>rfl
 | x::l,i+1=>by show f x::(l.map f).eraseIdx i=f x::(l.eraseIdx i).map f;rw [yP]
structure HtI(H:Hp)(n:Nat)(i:Nat)(τ:L2.St)(ys:List V)(H':Hp):Prop where
 le:i<=n
 ex:∃t1,τ=[t1]
 ys:∃bs:List Bool,ys=bs.map V.bl/\bs.length<=i
 same:H'=H
def xH(A:zi):Sp:=λvs H Q _=>∃(a nl p wl sl sh:Addr)(cells shc:List Addr)(m:Int)(d:DM)(ns:List Int),vs=[.ref a,.ref p,.ref sh,.ref nl]/\QW A H a nl p wl sl sh cells shc m d ns/\TOk m d ns/\1<=ns.length /\
 ∀d' ns' H',QW A H' a nl p wl sl sh cells shc m d' ns'->TOk m d' ns'->ns.length<=ns'.length+1->zr (FT a nl p wl sl sh cells shc) H H'->Q .non H'
theorem gW:zw ["_law_pot_here","_law_disk_here","_law_shelf","_law_numbers_here","_law_stretch","_law_way","_law_heats","_law_row_here","_law_text"] ["_law_pot_here","_law_disk_here","_law_shelf","_law_numbers_here"] (zm jC):=fsc
theorem JZ:aQ { kind:=.function,names:=[(vv ".0",.local),(vv "_law_row_here",.local)],isGenerator:=false,isCoroutine:=false,more:=[] } (zm jC).names ["_law_pot_here","_law_disk_here","_law_shelf","_law_numbers_here","_law_stretch","_law_way","_law_heats","_law_row_here","_law_text"] ["_law_row_here"] [none]=true:=by decide +kernel
theorem Bw:(["_law_row_here"]:List Str).Nodup:=by decide +kernel
theorem HP(F:Fun K "_law_turn" "_law_turn" jC f fd)(T:Txt w K mg A)(Z9:GF P w K mg base true 1 "_law_draw" ["_law_pot_here","_law_many"] cL)(ZQ:GMX P w K mg base true 2 A.Disk "empty" ["self","stretch"] (pj A))(Z2:GM P w K mg base true 1 A.Disk "places" ["self"] (gq A λm _=>.int m))(YJ:GF P w K mg base true 3 "_law_row" ["_law_pot_here","_law_number","_law_is_hot"] tL)(YI:GF P w K mg base true 3 "row_text" ["row"] ye)(ZD:GMX P w K mg base true 3 A.Disk "write" ["self","stretch","text"] (oA A)):zo P w K mg base CX0 true 4 f fd ["_law_pot_here","_law_disk_here","_law_shelf","_law_numbers_here"] (xH A):=by
 refine F.ok gW (λvs H Q E h=>?_) (λZ1 Ar outer s H vs Q E hr h=>?_)
 .obtain ⟨a,nl,p,wl,sl,sh,cells,shc,m,d,ns,rfl,_⟩:=h;rfl
 .obtain ⟨a,nl,p,wl,sl,sh,cells,shc,m,d,ns,rfl,Tw,ok,n1,q⟩:=h;have hu:_<cLine:=Mi (zQ hr);refine ⟨_,(W.h (zg (zA (i:=4) gW.nd rfl (LQ rfl) (zt Z9 hr rfl (za (zd 0) (za (zK fK rfl T.n_len Mr (za (zd 2) zc)) zc))))
   (zg (zA (i:=5) gW.nd rfl (LQ rfl) (zt Z9 hr rfl (za (zd 0) (za zj zc))))
   (zh (zR (zL (bw hu) (zd 5) zj (zF _))
   (zg (aq (fU (zd 1) T.cl_Disk pN ZQ hr (za (zd 4) zc)))
   (zh (aq (qU (zH zZ (zd 2) (zd 4) (λ_ _=>rfl))))))
   (zh (zR (zL fT (zK fK rfl T.n_len Mr (za (zH zZ (zd 2) (zd 4) (λ_ _=>rfl)) zc)) (br (zd 1) T.cl_Disk Z2 hr) (zF _))
   (zg (gQ (i0:=6) gW.nd rfl (LQ rfl) (λ_=>rfl) (ar.of JZ) (bR (zH zZ (zd 2) (zd 4) (λ_ _=>rfl))) (λ_ _ _ _ _=>(zB (i:=0) Bw rfl (LQ rfl))) (λ_ _ _ _ _=>(eZ (zL hZ (zd 0) bf (zF _)))) (λ_ _ _ _ _=>(dI (eG hu) (zH zZ (zd 0) zj (λ_ _=>rfl)) zI (zF _))))
   (zg (zA (i:=7) gW.nd rfl (LQ rfl) (zt YJ hr rfl (za (zd 0) (za (JX (zd 3) (zt Z9 hr rfl (za (zd 0) (za (zK fK rfl T.n_len Mr (za (zd 3) zc)) zc)))) (za (zH zZ (zz aS (zd 6) (aw (za (dI kR (zt Z9 hr rfl (za (zd 0) (za zj zc))) zj (zF _)) zc))) zj (λ_ _=>rfl)) zc)))))
   (zg (zA (i:=8) gW.nd rfl (LQ rfl) (zt YI hr rfl (za (zd 7) zc)))
   (zh (zR (zL fT (zd 5) zj (zF _))
   (zg (aq (fU (zd 1) T.cl_Disk pN ZD hr (za (zd 4) (za (eE fG (zd 8) d6 (ee (zz aS zj (zt Z9 hr rfl (za (zd 0) (za (zz fg (zK fK rfl T.n_len Mr (za (zd 8) zc)) zj) zc)))))) zc))))
   (zh (aq (gF (zH zZ (zd 2) (zd 4) (λ_ _=>rfl)) bf))))
   (zg (aq (fU (zd 1) T.cl_Disk pN ZD hr (za (zd 4) (za (zd 8) zc))))
   (zh (aq (gF (zH zZ (zd 2) (zd 4) (λ_ _=>rfl)) (zd 7))))))))))
   aa))))))),?_⟩
  have hsz:=ok.size;have hw0:=Tw.dw.shelf.w;simp_all only [hw0,KE,Tw.dw.shelf.len,bE];refine ⟨a,_,rfl,Tw.pot,by lia,by lia,λk' H1 b1 hP1 k0 k1=>?_⟩;obtain ⟨k,rfl⟩:=Nu k0;have hk:k<d.rows.length:=by lia
  have T1:=Tw.potB b1 hP1
  try simp_all only []
  refine ⟨a,10,rfl,hP1,by decide,by decide,λway H2 b2 XH w0 w1=>?_⟩;have T2:=T1.potB b2 XH;have kA:zr (FT a nl p wl sl sh cells shc) H H2:=(b1.keeps.mono (by simp [FT])).trans (b2.keeps.mono (by simp [FT]));obtain ⟨XB,ob2⟩:=T2.dw.disk.ob;have hw2:=T2.dw.shelf.w;obtain ⟨c,vs,hc,ha,WY,pv2,lv2⟩:=T2.dw.shelf.cell (k:=k) (by rw [bE];exact hk);have Yx:=LX hc;have lv2':vs.length=(d.rows.getD k []).length:=by rw [lv2,bu,KE]
  simp_all only [ob2,yI];refine aj (λhway=>?_) (λhway=>?_)
  .refine ⟨p,wl,sl,cells,m,d,k,rfl,T2.dw.disk,hk,ok.small,(λl e=>by rw [Tw.live.1] at e;cases e),λH3 D3 b3=>?_⟩;rw [CB Tw.live.1 Tw.live.2] at D3 ⊢;unfold Out;dsimp only;obtain ⟨S3,_⟩:=T2.dw.diskB b3;obtain ⟨c',vs3,Yy,ha3,hv3,pv3,lv3⟩:=S3.cell (k:=k) (by rw [bE];exact hk);rw [hc] at Yy;cases Yy;have hw3:=S3.w;have kZ:zr (FT a nl p wl sl sh cells shc) H (upd H3 c (.lst [])):=(kA.trans (b3.mono (by simp [FT];intro x hx;simp [hx]))).trans (zr.upd (by simp [FT,Yx]));refine ⟨_,.inl hw3,_,ha3,c,rfl,⟨_,hv3⟩,q (d.cleared k _) ns _ (T2.done b3 hk D3 (r':=[]) ?_ hc .nil (EN T2.dw.ok hk) T2.live T2.sd) (Kq ok hk) (by lia) kZ⟩;exact gN
  .try simp_all only [ob2,kU,hw2,ha,WY]
   refine ⟨p,wl,sl,cells,m,d,rfl,T2.dw.disk,?_⟩;simp_all only [];rw [lv2'];refine aj (λhwd=>?_) (λhwd=>?_)
   rotate_left
   .exact q d ns H2 T2 ok (by lia) kA
   have hwd:((d.rows.getD k []).length:Int)<m:=of_decide_eq_true hwd;refine ⟨_,.inl hw2,_,ha,?_⟩;rw [ly];have okd:=T2.dw.ok;have Xz:∀j xs,((rdR d.rows).getD k [])[j]?=some (some xs)->∃y n ys,xs=V.str y::V.int n::ys:=λj xs e=>okd.sh.keys (xs,k,j) (bV.mpr ⟨by rw [bE];exact hk,(LH.mp e).1,by show ((rdR d.rows).getD k []).getD j none=_;rw [LG,e];rfl⟩);have hw32:=okd.sh.wide k;refine ⟨⟨_,SqL.of WY⟩,zS.lst (xs:=vs) (HtI H2 vs.length) (λi τ ys H' I=>?_) (λi τ ys H' I=>by rw [I.same];exact SqL.of WY) ⟨MM _,⟨_,rfl⟩,⟨[],rfl,we _⟩,rfl⟩ ?_ ?_⟩
   .obtain ⟨bs,e,l⟩:=I.ys;rw [e,KE];exact aF (by have:=I.le;lia)
   .intro N i x τ ys H' hx I hN;obtain ⟨t1,rfl⟩:=I.ex;obtain ⟨bs,e,l⟩:=I.ys;have es:=I.same;subst es;have hi:i<((rdR d.rows).getD k []).length:=by rw [<- lv2];exact (LH.mp hx).1
    have hri:((rdR d.rows).getD k [])[i]?=some ((rdR d.rows).getD k [])[i]:=il hi;have hr:=bI pv2 hx hri;have Yi:=Xz i;rw [hri] at Yi;generalize ((rdR d.rows).getD k [])[i]=o at hr Yi;cases o with
    | none =>
     cases (show x=V.non from hr);simp_all only [];exact hN _ _ _ ⟨by lia,⟨_,rfl⟩,⟨bs,e,by lia⟩,rfl⟩
    | some xs =>
     obtain ⟨rr,rfl,hrr⟩:=hr;obtain ⟨y,n,zs,rfl⟩:=Yi xs rfl;have ix:atI (V.str y::V.int n::zs) 0=some (V.str y):=cB (j:=0) (by simp);simp_all only [hrr,ix];exact hN _ _ _ ⟨by lia,⟨_,rfl⟩,⟨bs++[_],by rw [e,Mq];rfl,by simp;lia⟩,rfl⟩
   .intro τ ys H' I D3 H3 m3;obtain ⟨bs,ebs,lbs⟩:=I.ys;have es:=I.same;subst es;rw [ebs] at m3;have T3:=T2.same m3.same;have hn3:=T3.nums;have nsl:=ok.few;refine ⟨⟨_,hn3⟩,_,.inl hn3,a,_,rfl,T3.pot,by rw [KE];lia,by rw [KE];lia,λri H4 b4 hP4 r0 r1=>?_⟩;obtain ⟨i,rfl⟩:=Nu r0;have hi:i<ns.length:=by rw [KE] at r1;lia
    have hni:ns[i]?=some ns[i]:=il hi;have hnb:=ok.in_ _ (MC hi);generalize ns[i]=n at hni hnb;have T4:=T3.potB b4 hP4;refine ⟨_,i,rfl,T4.nums,_,by rw [L6,hni];rfl,?_⟩;rw [yP];have T5:=T4.popped (ns':=ns.eraseIdx i);have k5:zr [nl] H4 (upd H4 nl (.lst ((ns.eraseIdx i).map V.int))):=zr.upd (by simp);generalize upd H4 nl (.lst ((ns.eraseIdx i).map V.int))=H5 at T5 k5 ⊢;refine ⟨a,3,rfl,T5.pot,by decide,by decide,λg H6 b6 hP6 g0 g1=>?_⟩;have T6:=T5.potB b6 hP6;simp only [wQ];refine ⟨by decide,λpl H7 m7 _=>?_⟩;have T7:=T6.same m7.same;have Da:D3≠a:=T2.pot.ne m3.no;have Dn:D3≠nl:=λz=>by have:=m3.no;rw [z,T2.nums] at this;cases this
    have eD:H7 D3=some (.lst (bs.map V.bl)):=m7.same _ _ (b6 _ _ Da (k5 _ _ (b4 _ _ Da m3.at_) (by simpa using Dn)));have lbs32:bs.length<=32:=by lia
    rw [eI];refine ⟨_,_,eD,m7.at_,aK (by simp;lia),λp8 H8 m8=>?_⟩;rw [gE];obtain ⟨XI,hhot⟩:∃XI:Bool,atI (bs.map V.bl++[V.bl (decide (0<g))]) 0=some (.bl XI):=by
     cases bs with
     | nil=>exact ⟨_,rfl⟩
     | cons b bs=>exact ⟨b,cB (j:=0) (by simp)⟩
    have T8:=T7.same m8.same;refine ⟨_,.inl m8.at_,_,hhot,a,n,XI,rfl,T8.pot,hnb.1,hnb.2,λr xs H9 b9 hP9 lr hr9=>?_⟩;have T9:=T8.potB b9 hP9;obtain ⟨ra,rl,rr,rl2⟩:=Fd lr.ok lr.len;have k9:zr (FT a nl p wl sl sh cells shc) H H9:=(((((kA.trans (zr.same m3.same)).trans (b4.keeps.mono (by simp [FT]))).trans (k5.mono (by simp [FT]))).trans (b6.keeps.mono (by simp [FT]))).trans (zr.same (m7.same.trans m8.same))).trans (b9.keeps.mono (by simp [FT]));have YG:∀(t:Str)(v:V)(H11:Hp)(Q':VK)(E':XK),QW A H11 a nl p wl sl sh cells shc m d (ns.eraseIdx i)->zr (FT a nl p wl sl sh cells shc) H H11->asc t=true->t.length<=1000->(∀xs',rdT (some t)=some xs'->gO xs'=n)->(∀xs',rdT (some t)=some xs'->bz xs')->(∀H12,zr (p::wl::sl::cells) H11 H12->cU H12 v (rdT (some t))) ->
      (∀u H12 c vs,H12 sh=some (.lst (shc.map V.ref))->atI (shc.map V.ref) (k:Int)=some (.ref c)->H12 c=some (.lst vs)->vs.length<sizeLine->Q .non (upd H12 c (.lst (vs++[v])))->Q' u H12)->oA A [.ref p,.int k,.str t] H11 Q' E':=λt v H11 Q' E' TT kk hta htl X4 hro hcr cont=>by
     refine ⟨p,wl,sl,cells,m,d,k,t,rfl,TT.dw.disk,hk,htl,ok.small,λH12 D12 b12=>?_⟩;rw [Fb TT.live.1 TT.live.2 hwd] at D12 ⊢;obtain ⟨S12,_⟩:=TT.dw.diskB b12;obtain ⟨c',X7,Yy,ha',hv',pv',lv'⟩:=S12.cell (k:=k) (by rw [bE];exact hk);have hcm':=LX Yy;obtain ⟨od,tod⟩:=Bq (c:=d.cnt+t.length) (i:=i) TT.dw.ok ok hk hwd hta htl hni X4 hro;have hset:rdR (d.wrote k t (d.cnt+t.length)).rows=(rdR d.rows).set k ((rdR d.rows).getD k []++[rdT (some t)]):=by
      show rdR (d.rows.set k _)=_;rw [gN,Mq,bu];rfl
     refine cont _ H12 c' X7 S12.w ha' hv' (aF (by lia)) (q _ (ns.eraseIdx i) _ (TT.done b12 hk D12 hset Yy (dC pv' (.cons (hcr H12 b12) .nil)) od TT.live TT.sd) tod (by rw [PL hi];lia) ?_);exact (kk.trans (b12.mono (by simp [FT];intro x hx;simp [hx]))).trans (zr.upd (by simp [FT,hcm']))
    refine ⟨r,xs,rfl,.inr hr9,lr.ok.parts.1,lr.ok.parts.2.2.2,λH10 s10=>?_⟩;have T10:=T9.same s10;have hr10:=s10 _ _ hr9;have k10:=k9.trans (zr.same s10);obtain ⟨dx10,ob10⟩:=T10.dw.disk.ob;have X4:gO xs=n:=by obtain ⟨y,ys,e⟩:=lr.hd;rw [e];rfl
    refine aj (λhw3=>?_) (λhw3=>?_)
    .refine ⟨dx10,_,ob10,xt,?_⟩
     try simp_all only []
     refine ⟨aK (by lia),a,_,rfl,T10.pot,by lia,by lia,λj' H11 b11 hP11 j0 j1=>?_⟩;obtain ⟨j,rfl⟩:=Nu j0;have hj:1+j<(aM xs).length:=by lia
     have T11:=T10.potB b11 hP11;have k11:=k10.trans (b11.keeps.mono (by simp [FT]));simp only [fe,tS];have et:Txt.slice (aM xs) none (some (1+(j:Int)))=tx ((sg (aM xs)).take (1+j)):=by
      have e:(1+(j:Int))=((1+j:Nat):Int):=by lia
      rw [e,je (by rw [zX];lia)]
     rw [et];have WX:rdT (some (tx ((sg (aM xs)).take (1+j))))=none:=Gb lr.ok hj;refine ⟨aK (by lia),YG _ .non H11 _ _ T11 k11 ?_ ?_ (λxs' e=>by rw [WX] at e;cases e) (λxs' e=>by rw [WX] at e;cases e) (λH12 b12=>by rw [WX];rfl) λu H12 c vs h1 h2 h3 h4 h5=>⟨_,.inl h1,_,h2,c,rfl,⟨_,h3⟩,_,h3,h4,h5⟩⟩
     .rw [bJ,ck];rw [bJ] at ra;exact Mz.mpr λc hc=>Mz.mp ra c (Pd hc)
     .rw [nV,Nj,zX];lia
    .refine ⟨dx10,_,ob10,xt,YG _ (.ref r) H10 _ _ T10 k10 ra rl (λxs' e=>by rw [show rdT (some (aM xs))=some xs from rr] at e;cases e;exact X4) (λxs' e=>by rw [show rdT (some (aM xs))=some xs from rr] at e;cases e;exact lr.ok) (λH12 b12=>by rw [show rdT (some (aM xs))=some xs from rr];exact ⟨r,rfl,T10.dw.disk.tup b12 hr10⟩) λu H12 c vs h1 h2 h3 h4 h5=>⟨_,.inl h1,_,h2,c,rfl,⟨_,h3⟩,_,h3,h4,h5⟩⟩
end
abbrev jx:Stmt:=top 62
def DM.torn(d:DM)(k j:Nat):DM:={ d with rows:=d.rows.set k (Mg j none++(d.rows.getD k []).drop j),cnt:=d.cnt+j }
theorem FC{k:Nat}(h2:d.st=false)(hj:j<(d.rows.getD k []).length):(d.stop j).empty k=(.stop,{ d.torn k j with left:=some 0,st:=true }):=by
 have edn:dn (d.stop j).left (((d.stop j).rows.getD k []).length:Nat)=j:=by
  show (if (j:Int)<((d.rows.getD k []).length:Int) then (j:Int) else _)=j;rw [if_pos (by lia)]
 have e2:(d.stop j).spend (((d.stop j).rows.getD k []).length:Nat)={ d with cnt:=d.cnt+j,left:=some 0,st:=true }:=by
  unfold DM.spend;rw [edn];have e3:(d.stop j).left.map (· - (j:Int))=some 0:=by show some ((j:Int)-j)=some 0;rw [Int.sub_self]
  have e4:decide ((j:Int)<(((d.stop j).rows.getD k []).length:Nat))=true:=decide_eq_true (by show (j:Int)<((d.rows.getD k []).length:Int);lia);rw [e3,e4];rfl
 unfold DM.empty;rw [if_neg (by show ¬ d.st=true;rw [h2];exact LM),if_pos (by rw [e2]),edn,e2,Np];rfl
theorem uW{k:Nat}(hk:k<d.rows.length)(hj:j<(d.rows.getD k []).length){t:Tri}(h:t∈nU (d.torn k j)):t∈nU d:=by
 rw [cE] at h ⊢;rw [bV] at h ⊢;rw [bE] at h ⊢;obtain ⟨h1,h2,h3⟩:=h;have e:(rdR (d.torn k j).rows).getD t.2.1 []=if t.2.1=k then Mg j none++((rdR d.rows).getD k []).drop j else (rdR d.rows).getD t.2.1 []:=by
  show (rdR (d.rows.set k _)).getD _ _=_;rw [gN,fk (by rw [bE];exact hk)];split
  .rw [Mq,PK,List.map_drop,bu];rfl
  .rfl
 have h1':t.2.1<d.rows.length:=by
  have:(d.torn k j).rows.length=d.rows.length:=Nm ..;lia
 rw [e] at h2 h3;by_cases Yi:t.2.1=k
 .rw [if_pos Yi] at h2 h3;rw [Md,MQ,O8] at h2;by_cases hb:t.2.2<j
  .rw [LG,NB (by rw [MQ];exact hb),NV,if_pos hb] at h3;cases h3
  .rw [LG,Nh (by rw [MQ];lia),MQ,List.getElem?_drop] at h3;have hl:((rdR d.rows).getD k []).length=(d.rows.getD k []).length:=by rw [bu,KE]
   refine ⟨h1',by rw [Yi];lia,?_⟩;rw [Yi,LG];rw [show j+(t.2.2-j)=t.2.2 by lia] at h3;exact h3
 .rw [if_neg Yi] at h2 h3;exact ⟨h1',h2,h3⟩
theorem xR{k:Nat}(hj:j<(d.rows.getD k []).length):(Mg j (none:Tx)++(d.rows.getD k []).drop j).length=(d.rows.getD k []).length:=by rw [Md,MQ,O8];lia
theorem Ho{k:Nat}{c:Int}(h:DOk d)(hk:k<d.rows.length)(hj:j<(d.rows.getD k []).length):DOk { d.torn k j with left:=lf,st:=st }:=by
 refine h.less (h.tx.set ⟨?_,λq hq z hz=>?_⟩) λt ht=>uW hk hj ht
 .rw [xR hj];exact (h.tx.ok _ (fo hk)).1
 .rcases My.mp hq with hq|hq
  .rw [(List.mem_replicate.mp hq).2] at hz;cases hz
  .exact (h.tx.ok _ (fo hk)).2 q (List.mem_of_mem_drop hq) z hz
theorem AN{k:Nat}(h:TOk m d ns)(hk:k<d.rows.length)(hj:j<(d.rows.getD k []).length):TOk m { d.torn k j with left:=lf,st:=st } ns:=by
 refine h.less (Nm ..) (λi=>?_) λt ht=>uW hk hj ht;show (((d.rows.set k _).getD i []).length:Int)<=m;rw [fk hk];split
 .rw [xR hj];exact h.wide k
 .exact h.wide i
theorem au.swap{sh:Addr}(S:au H sh shc rs){k:Nat}{c':Addr}(hk:k<rs.length)(e:H c'=some (.lst X7))(h1:c'≠sh)(h2:c'∉shc)(hp:Paired (cU H) X7 r'):au (upd H sh (.lst ((shc.map V.ref).set k (.ref c')))) sh (shc.set k c') (rs.set k r'):=by
 obtain ⟨n1,n2⟩:=MU.mp S.nd;have kt:∀r xs,H r=some (.tup xs)->upd H sh (.lst ((shc.map V.ref).set k (.ref c'))) r=some (.tup xs):=λr xs e=>by rw [ze (λz=>by rw [z,S.w] at e;cases e)];exact e
 have YF:k<shc.length:=by rw [S.len];exact hk
 have Yw:∀x∈shc.set k c',x=c'\/x∈shc:=λx hx=>(Oq hx).symm;refine ⟨by rw [zy,map_set],by rw [Nm,Nm];exact S.len,λi ci hi=>?_,MU.mpr ⟨λz=>?_,?_⟩⟩
 .rw [fk hk];by_cases h:i=k
  .subst h;rw [N5 YF] at hi;cases hi;rw [if_pos rfl];exact ⟨X7,by rw [ze h1];exact e,Paired.mapP hp λv o r=>r.keep kt⟩
  .rw [if_neg h];rw [Ow (L8 h)] at hi;obtain ⟨vs,hv,pv⟩:=S.at_ i ci hi;exact ⟨vs,by rw [ze (λz:ci=sh=>n1 (by rw [<- z];exact LX hi))];exact hv,Paired.mapP pv λv o r=>r.keep kt⟩
 .rcases Yw sh z with z|z
  .exact h1 z.symm
  .exact n1 z
 .refine Oo.mpr λi j hi hj Yh=>?_;rw [Nm] at hi hj;rw [List.getElem_set,List.getElem_set];have nij:=Oo.mp n2 i j hi hj Yh;split
  .split
   .lia
   .exact λz=>h2 (by rw [z];exact MC hj)
  .split
   .exact λz=>h2 (by rw [<- z];exact MC hi)
   .exact nij
theorem tI{H:Hp}:∀{n:Nat},Paired (cU H) (Mg n V.non) (Mg n none)
 | 0=>.nil
 | n+1=>by rw [M8,M8];exact .cons rfl tI
theorem uy{α β:Type}{R:α->β->Prop}:∀{l:List α}{m:List β}{j:Nat},Paired R l m->Paired R (l.drop j) (m.drop j)
 | _,_,0,h=>h
 | _,_,_+1,.nil=>.nil
 | _,_,j+1,.cons _ t=>uy (j:=j) t
theorem Kw(h:j<=xs.length):aU xs (some (j:Int)) none=xs.drop j:=by
 unfold aU;rw [HT.sIx_nat,HT.sIx_none,QI h,Mj (by rw [O8];exact we _)]
theorem Cj{n:Nat}{x:V}:(Mg n [x]).flatten=Mg n x:=by
 induction n with
 | zero=>rfl
 | succ n ih=>rw [M8,OI,ih];rfl
section
variable {P:LV}{w:Mf}{K:Frag}{mg:Str->Option Value}{base:Heap}{A:zi}
structure SmI(H:Hp)(rs:List (List OR))(i:Nat)(τ:L2.St)(ys:List V)(H':Hp):Prop where
 ex:∃t1 t2,τ=[t1,t2]
 ys:∃l:List Nat,ys=l.map iv/\l.length<=i/\∀k∈l,k<rs.length/\(rs.getD k []).length≠0
 same:zl H H'
 le:i<=16
def sZ(A:zi):Sp:=λvs H Q _=>∃(a nl p wl sl sh:Addr)(cells shc:List Addr)(m:Int)(d:DM)(ns:List Int),vs=[.ref a,.ref p,.ref sh]/\QW A H a nl p wl sl sh cells shc m d ns/\TOk m d ns /\
 ∀p' XA XX ZL shc' d' H',QW A H' a nl p' XA XX sh ZL shc' m d' ns->TOk m d' ns->zr (FT a nl p wl sl sh cells shc) H H'->(∀x∈FT a nl p' XA XX sh ZL shc',x∈FT a nl p wl sl sh cells shc\/H x=none)->Q (.ref p') H'
theorem gJ:zw ["_law_pot_here","_law_disk_here","_law_shelf","_law_some","_law_stretch","_law_many","_law_told"] ["_law_pot_here","_law_disk_here","_law_shelf"] (zm jx):=fsc
theorem GA:aQ { kind:=.function,names:=[(vv ".0",.local),(vv "_law_k",.local),(vv "_law_rows_here",.local)],isGenerator:=false,isCoroutine:=false,more:=[] } (zm jx).names ["_law_pot_here","_law_disk_here","_law_shelf","_law_some","_law_stretch","_law_many","_law_told"] ["_law_k","_law_rows_here"] [none,none]=true:=by decide +kernel
theorem wI:(["_law_k","_law_rows_here"]:List Str).Nodup:=by decide +kernel
theorem yX(F:Fun K "_law_torn" "_law_torn" jx f fd)(T:Txt w K mg A)(Z9:GF P w K mg base true 1 "_law_draw" ["_law_pot_here","_law_many"] cL)(Z4:GF P w K mg base true 2 "_law_drawn" ["_law_pot_here","_law_some"] iM)(ZM:GM P w K mg base true 1 A.Disk "stop" ["self","many"] (pY A))(ZQ:GMX P w K mg base true 2 A.Disk "empty" ["self","stretch"] (pj A))(Zt:GM P w K mg base true 5 A.Disk "copied" ["self"] (uD A)):zo P w K mg base CX0 true 6 f fd ["_law_pot_here","_law_disk_here","_law_shelf"] (sZ A):=by
 refine F.ok gJ (λvs H Q E h=>?_) (λZ1 Ar outer s H vs Q E hr h=>?_)
 .obtain ⟨a,nl,p,wl,sl,sh,cells,shc,m,d,ns,rfl,_⟩:=h;rfl
 .obtain ⟨a,nl,p,wl,sl,sh,cells,shc,m,d,ns,rfl,Tw,ok,q⟩:=h;have hu:_<cLine:=Mi (zQ hr);refine ⟨_,(W.h (zg (gQ (i0:=3) gJ.nd rfl (LQ rfl) (λ_=>rfl) (ar.of GA) (km rfl T.n_enumerate (za (zd 2) zc)) (λ_ _ _ _ _=>(fJ (n:=2) (zU (zB (i:=0) wI rfl (LQ rfl)) (zU (zB (i:=1) wI rfl (LQ rfl)) bS)))) (λ_ _ _ _ _=>(eZ (zL (xT hu) (zd 1) (aw zc) (zF _)))) (λ_ _ _ _ _=>(zd 0)))
   (zg (zR (di (eT (zL (va hu) (zd 3) (aw zc) (zF _)) (iS (zL (bw hu) (zt Z9 hr rfl (za (zd 0) (za zj zc))) zj (zF _)))))
   (zh (zx (zd 1)))
   aa)
   (zg (zA (i:=4) gJ.nd rfl (LQ rfl) (zt Z4 hr rfl (za (zd 0) (za (zd 3) zc))))
   (zg (zA (i:=5) gJ.nd rfl (LQ rfl) (zt Z9 hr rfl (za (zd 0) (za (zK fK rfl T.n_len Mr (za (zH zZ (zd 2) (zd 4) (λ_ _=>rfl)) zc)) zc))))
   (zg (aq (bU (zd 1) T.cl_Disk ZM hr (za (zd 5) zc)))
   (zg (zA (i:=6) gJ.nd rfl (LQ rfl) bO)
   (zg (mO rfl rfl ⟨rfl,rfl⟩ T.ek_Stopped rfl T.mg_Stopped (λGo Ex=>(zh (aq (fU (zd 1) T.cl_Disk oB ZQ hr (za (zd 4) zc))))) (λGo ea=>by
   have hr:=hr.mark (v:=some (.ref ea));exact (zh (zA (i:=6) gJ.nd rfl (LQ rfl) bO))))
   (zg (zR (aX (zd 6))
   (zh (cW (zz aS (zz dP (aw (za bf zc)) (zd 5)) (eE fG (zH zZ (zd 2) (zd 4) (λ_ _=>rfl)) (ee (zd 5)) d6)) (dY (zd 2) (zd 4) gZ)))
   aa)
   (zh (zx (br (zd 1) T.cl_Disk Zt hr)))))))))))),?_⟩
  have hsz:=ok.size;have S:=Tw.dw.shelf;simp_all only [];refine ⟨⟨_,SqL.of S.w⟩,zS.enum (xs:=shc.map V.ref) (SmI H (rdR d.rows)) (λi τ ys H' I=>?_) (λi τ ys H' I=>SqL.of (I.same _ _ S.w)) ⟨⟨_,_,rfl⟩,⟨[],rfl,we _,by simp⟩,zl.refl _,by lia⟩ ?_ ?_⟩
  .obtain ⟨l,e,hl,_⟩:=I.ys;rw [e,KE];exact aF (by have:=I.le;lia)
  .intro N i x pt τ ys H' hx I hp hN;obtain ⟨t1,t2,rfl⟩:=I.ex;obtain ⟨l,e,hl,hm⟩:=I.ys;rw [L6] at hx;obtain ⟨c,hc,rfl⟩:=Mh.mp hx;have hi:i<(rdR d.rows).length:=by rw [<- S.len];exact (LH.mp hc).1
   have hi16:i<16:=by rw [bE] at hi;lia
   obtain ⟨vs,hv,pv⟩:=S.at_ i c hc;have lv:=ay pv;refine ⟨pt,_,rfl,SqT.of zy,rfl,?_⟩;have nw:New H' pt (.tup [.int i,.ref c]) (upd H' pt (.tup [.int i,.ref c])):=.mk' hp;generalize upd H' pt (.tup [.int i,.ref c])=H0 at nw ⊢;simp_all only [];refine ⟨MM _,λpl H5 n5 _=>⟨_,n5.same _ _ (nw.same _ _ (I.same _ _ hv)),_,n5.at_,.inr rfl,?_⟩⟩;have sm:=(I.same.trans nw.same).trans n5.same;rw [show ([]:List V).length=0 from rfl];by_cases h0:vs.length=0
   .rw [decide_eq_true h0];simp_all only [];exact hN _ _ _ ⟨⟨_,_,rfl⟩,⟨l,e,by lia,hm⟩,sm,by lia⟩
   .rw [decide_eq_false h0];simp_all only [];refine hN _ _ _ ⟨⟨_,_,rfl⟩,⟨l++[i],by rw [e,Mq];rfl,by simp;lia,λk hk=>?_⟩,sm,by lia⟩;rcases My.mp hk with hk|hk
    .exact hm k hk
    .rw [LU] at hk;subst hk;exact ⟨hi,by lia⟩
  .intro τ ys H' I D2 H2 m2;obtain ⟨l,e,hl,hm⟩:=I.ys;rw [e] at m2;have s2:zl H H2:=I.same.trans m2.same;have T2:=Tw.same s2;have stay:Q (.ref p) H2:=q p wl sl cells shc d H2 T2 ok (zr.same s2) λx hx=>.inl hx;intro _;refine ⟨MM _,λpl H3 m3 _=>?_⟩;have T3:=T2.same m3.same;have s3:=s2.trans m3.same;rw [ub];refine ⟨_,_,m3.same _ _ m2.at_,m3.at_,.inr rfl,?_⟩;simp_all only [];rw [KE];by_cases hl0:l.length=0
   .rw [if_pos (decide_eq_true hl0)];exact q p wl sl cells shc d H3 T3 ok (zr.same s3) λx hx=>.inl hx
   rw [if_neg (by rw [decide_eq_false hl0];exact LM)];refine ⟨a,3,rfl,T3.pot,by decide,by decide,λr H4 b4 hP4 r0 r1=>?_⟩;have T4:=T3.potB b4 hP4;have kp:∀{H H':Hp},But a H H'->zr (FT a nl p wl sl sh cells shc) H H':=λ{H H'} b=>b.keeps.mono (by simp [FT]);have k4:zr (FT a nl p wl sl sh cells shc) H H4:=(zr.same s3).trans (kp b4);simp only [qo,wZ];by_cases hr0:r=0
   .rw [decide_eq_true hr0];exact q p wl sl cells shc d H4 T4 ok k4 λx hx=>.inl hx
   rw [decide_eq_false hr0];have Da:D2≠a:=(Tw.pot.same I.same).ne m2.no;have hl16:l.length<=16:=by
    have:=hl;rw [KE,S.len,bE] at this;lia
   refine ⟨a,T4.pot,.inl ⟨D2,_,rfl,Da,.inl (b4 _ _ Da (m3.same _ _ m2.at_)),by rw [KE];lia,by rw [KE];lia,λv H5 hv b5 Xs=>?_⟩⟩;obtain ⟨k,hkl,rfl⟩:=NK.mp hv;obtain ⟨YF,YU⟩:=hm k hkl;have hk:k<d.rows.length:=by rw [bE] at YF;exact YF
   have T5:=T4.potB b5 Xs;have k5:=k4.trans (kp b5);obtain ⟨c,vs,hc,ha,hv5,pv5,lv5⟩:=T5.dw.shelf.cell (k:=k) YF;have Yx:=LX hc;have hlv:vs.length=(d.rows.getD k []).length:=by rw [lv5,bu,KE]
   have hw32:=ok.wide k;unfold iv;rw [gE];refine ⟨_,.inl T5.dw.shelf.w,_,ha,?_⟩;rw [pA];refine ⟨_,.inl hv5,a,_,rfl,T5.pot,by lia,by lia,λj' H6 b6 hP6 j0 j1=>?_⟩;obtain ⟨j,rfl⟩:=Nu j0;have hj:j<(d.rows.getD k []).length:=by lia
   have T6:=T5.potB b6 hP6;have k6:=k5.trans (kp b6);obtain ⟨dx6,ob6⟩:=T6.dw.disk.ob;refine ⟨dx6,_,ob6,vo,p,wl,sl,cells,m,d,j,rfl,T6.dw.disk,λH7 D7 b7=>?_⟩;obtain ⟨dx7,ob7⟩:=D7.ob;refine ⟨dx7,_,ob7,yI,p,wl,sl,cells,m,d.stop j,k,rfl,D7,hk,ok.small,(λl e=>by cases e;lia),λH8 D8 b8=>?_⟩;rw [FC T6.live.2 hj] at D8 ⊢;unfold Out;dsimp only;refine ⟨_,rfl,T.ek_Stopped,T.ms_Stopped,λea oe he _=>?_⟩;have b68:zr (p::wl::sl::cells) H6 H8:=(b7.mono (by simp)).trans b8;have s89:zl H8 (upd H8 ea (.frz oe (.own 0))):=λx o e=>by rw [ze (zC e he)];exact e
   generalize upd H8 ea (.frz oe (.own 0))=H9 at s89 ⊢;have D9:=D8.sameT (.of s89);have b69:zr (p::wl::sl::cells) H6 H9:=b68.trans (zr.same s89);obtain ⟨S9,tb9⟩:=T6.dw.diskB b69;obtain ⟨c9,vs9,hc9,ha9,hv9,pv9,lv9⟩:=S9.cell (k:=k) YF;have hw9:=S9.w;have hlv9:vs9.length=(d.rows.getD k []).length:=by rw [lv9,bu,KE]
   try simp_all only [hw9,ha9,hv9]
   refine ⟨by decide,λp1 H10 m10 _=>⟨_,m10.at_,by lia,by lia,aK (by simp;lia),λp2 H11 m11=>?_⟩⟩;have s11:zl H9 H11:=m10.same.trans m11.same;refine ⟨_,.inl (s11 _ _ hw9),_,ha9,?_⟩;rw [mK];refine ⟨_,s11 _ _ hv9,λp3 H12 m12=>?_⟩;rw [Kw (by lia)] at m12;rw [eI];have e11:=m11.at_;rw [Np,Cj] at e11;refine ⟨_,_,m12.same _ _ e11,m12.at_,aK (by simp;lia),λp4 H13 m13=>?_⟩;have s12:zl H9 H12:=s11.trans m12.same;have s13:zl H9 H13:=s12.trans m13.same;have S13:=S9.same s13;have tb13:=tb9.same s13;have D13:=D9.sameT (.of s13);have hkL:k<shc.length:=by rw [S9.len];exact YF
   have ix:ixN (shc.map V.ref).length (k:Int)=some k:=by
    unfold ixN;rw [if_pos (by lia),if_pos (by rw [KE];lia)];simp
   refine ⟨_,S13.w,k,ix,?_⟩;have h4sh:p4≠sh:=λz=>by have:=m13.no;rw [z,s12 _ _ hw9] at this;cases this
   have h4c:p4∉shc:=λz=>by
    obtain ⟨i,hi,e⟩:=MI z;obtain ⟨us,eu,_⟩:=S9.at_ i _ (il hi);have:=m13.no;rw [<- e,s12 _ _ eu] at this;cases this
   have pv13:Paired (cU H13) (Mg j V.non++vs9.drop j) (Mg j none++((rdR d.rows).getD k []).drop j):=dC tI (Paired.mapP (uy pv9) λv o r=>r.keep λr xs e=>s13 _ _ e);have S14:=S13.swap YF m13.at_ h4sh h4c pv13;have kS:zr [sh] H13 (upd H13 sh (.lst ((shc.map V.ref).set k (.ref p4)))):=zr.upd (by simp);have tb14:TB A (upd H13 sh (.lst ((shc.map V.ref).set k (.ref p4)))):=tb13.put S13.w;have D14:=D13.keep kS λx hx z=>by
    rw [LU] at z;obtain ⟨dxx,obx⟩:=D13.ob;rcases LI.mp hx with rfl|hx
    .rw [z,S13.w] at obx;cases obx
    .exact (T6.dw.ap x hx).1 z
   have k13:zr (FT a nl p wl sl sh cells shc) H H13:=(k6.trans (b69.mono (by simp [FT];intro x hx;simp [hx]))).trans (zr.same s13);have k14:zr (FT a nl p wl sl sh cells shc) H (upd H13 sh (.lst ((shc.map V.ref).set k (.ref p4)))):=k13.trans (kS.mono (by simp [FT]));have a14:Pot (upd H13 sh (.lst ((shc.map V.ref).set k (.ref p4)))) a:=by
    obtain ⟨x,y,e,rr⟩:=T6.pot.ex;exact ⟨⟨x,y,by rw [ze T6.ap2.2.1];exact s13 _ _ (b69 _ _ e (T6.dw.disk.out e λx hx=>(T6.ap x hx).1)),rr⟩⟩
   have n14:(upd H13 sh (.lst ((shc.map V.ref).set k (.ref p4)))) nl=some (.lst (ns.map V.int)):=by
    rw [ze T6.ap2.2.2.2.1];exact s13 _ _ (b69 _ _ T6.nums (T6.dw.disk.out T6.nums λx hx=>(T6.ap x hx).2))
   have h4H:p4∈FT a nl p wl sl sh cells shc\/H p4=none:=by
    by_cases z:p4∈FT a nl p wl sl sh cells shc
    .exact .inl z
    .refine .inr ?_;cases e:H p4 with
     | none=>rfl
     | some o =>
      have:=((k6.trans (b69.mono (by simp [FT];intro x hx;simp [hx]))).trans (zr.same s12)) _ _ e z;rw [m13.no] at this;cases this
   have h4a:a≠p4:=λz=>by
    obtain ⟨xs,e⟩:=T6.pot.lst;have:=s12 _ _ (b69 _ _ e (T6.dw.disk.out e λx hx=>(T6.ap x hx).1));rw [z,m13.no] at this;cases this
   have h4n:nl≠p4:=λz=>by
    have:=s12 _ _ (b69 _ _ T6.nums (T6.dw.disk.out T6.nums λx hx=>(T6.ap x hx).2));rw [z,m13.no] at this;cases this
   generalize upd H13 sh (.lst ((shc.map V.ref).set k (.ref p4)))=H14 at S14 tb14 D14 k14 a14 n14 ⊢;obtain ⟨dx14,ob14⟩:=D14.ob;have rl:(d.torn k j).rows.length=d.rows.length:=Nm ..;refine ⟨dx14,_,ob14,Dc,p,wl,sl,cells,m,_,rfl,D14,by show 3<=(d.torn k j).rows.length;lia,by show (d.torn k j).rows.length<=16;lia,hsz.2.2.1,hsz.2.2.2,λp' XA XX ZL H15 D15 s15 f15=>?_⟩;have Yw:∀x∈shc.set k p4,x=p4\/x∈shc:=λx hx=>(Oq hx).symm;have fr:∀x∈p'::XA::XX::ZL,x∈FT a nl p wl sl sh cells shc\/H x=none:=λx hx=>by
    by_cases z:x∈FT a nl p wl sl sh cells shc
    .exact .inl z
    .refine .inr ?_;cases e:H x with
     | none=>rfl
     | some o =>
      have:=k14 _ _ e z;rw [f15 x hx] at this;cases this
   have hrd:rdR (d.torn k j).rows=(rdR d.rows).set k (Mg j none++((rdR d.rows).getD k []).drop j):=by
    show rdR (d.rows.set k _)=_;rw [gN,Mq,PK,List.map_drop,bu];rfl
   refine q p' XA XX ZL (shc.set k p4) { d.torn k j with left:=none,st:=false } H15 ⟨⟨D15,?_,λx hx=>?_,tb14.same s15,Ho (c:=0) Tw.dw.ok hk hj⟩,a14.same s15,s15 _ _ n14,λx hx=>?_,⟨T6.ap2.1,T6.ap2.2.1,λz=>?_,T6.ap2.2.2.2.1,λz=>?_⟩,⟨rfl,rfl⟩,Tw.sd⟩ (AN ok hk hj) (k14.trans (zr.same s15)) λx hx=>?_
   .show au H15 sh _ (rdR (d.torn k j).rows);rw [hrd];exact S14.same s15
   .have Xn:=f15 x (LO _ hx);refine ⟨λz=>?_,λz=>?_⟩
    .rw [z,S14.w] at Xn;cases Xn
    .obtain ⟨i,hi,e⟩:=MI z;obtain ⟨us,eu,_⟩:=S14.at_ i _ (il hi);rw [<- e,eu] at Xn;cases Xn
   .have Xn:=f15 x (LO _ hx);refine ⟨a14.ne Xn,λz=>?_⟩;rw [z,n14] at Xn;cases Xn
   .rcases Yw _ z with z|z
    .exact h4a z
    .exact T6.ap2.2.2.1 z
   .rcases Yw _ z with z|z
    .exact h4n z
    .exact T6.ap2.2.2.2.2 z
   .unfold FT at hx;rcases LI.mp hx with rfl|hx
    .exact .inl (by simp [FT])
    .rcases LI.mp hx with rfl|hx
     .exact .inl (by simp [FT])
     .rcases LI.mp hx with rfl|hx
      .exact fr _ (by simp)
      .rcases LI.mp hx with rfl|hx
       .exact fr _ (by simp)
       .rcases LI.mp hx with rfl|hx
        .exact fr _ (by simp)
        .rcases LI.mp hx with rfl|hx
         .exact .inl (by simp [FT])
         .rcases My.mp hx with hx|hx
          .exact fr _ (by simp [hx])
          .rcases Yw x hx with rfl|hx
           .exact h4H
           .exact .inl (by simp [FT,hx])
end
abbrev oZ:Stmt:=top 76
abbrev lC:Stmt:=top 63
theorem mZ(n i:Nat):(Mg n ([]:List α)).getD i []=[]:=by
 rw [LG,NV];split<;>rfl
theorem uM(n:Nat):nU (DM.new n)=[]:=by
 refine List.eq_nil_iff_forall_not_mem.mpr λt ht=>?_;rw [cE,bV] at ht;have h:=ht.2.1;rw [bu,KE] at h;have e:(DM.new n).rows.getD t.2.1 []=[]:=mZ n _;rw [e] at h;simp at h
theorem Bb{n:Nat}(h:n<=16):DOk (DM.new n):=by
 have e:=uM n;refine ⟨⟨λr hr=>?_,by show (Mg n _).length<=16;rw [MQ];exact h⟩,by rw [e];exact nodup_nil,by rw [e];decide,(λt ht=>by rw [e] at ht;cases ht),(λt ht=>by rw [e] at ht;cases ht)⟩;rw [(List.mem_replicate.mp hr).2];exact ⟨by simp,by simp⟩
theorem KL{n:Nat}(h1:3<=n)(h2:n<=16)(h3:2<=m)(h4:m<=32)(nd:ns.Nodup)(hi:∀x∈ns,1<=x/\x<10 ^ 17)(hl:ns.length<=20):TOk m (DM.new n) ns:=by
 have e:=uM n;refine ⟨by show 3<=(Mg n _).length/\(Mg n _).length<=16/\_;rw [MQ];exact ⟨h1,h2,h3,h4⟩,λi=>?_,nd,hi,(λt ht=>by rw [e] at ht;cases ht),by rw [e];simpa using hl⟩;show (((Mg n ([]:List Tx)).getD i []).length:Int)<=m;rw [mZ];simp;lia
section
variable {P:LV}{w:Mf}{K:Frag}{mg:Str->Option Value}{base:Heap}{A:zi}
structure Lp1(A:zi)(H0:Hp)(a nl p wl sl sh:Addr)(cells shc:List Addr)(m:Int)(lo:Nat)(i:Nat)(σ:L2.St)(H':Hp):Prop where
 ex:∃t,σ=[some (V.ref a),some (.ref p),some (.ref sh),some (.ref nl),t]
 st:∃d ns,QW A H' a nl p wl sl sh cells shc m d ns/\TOk m d ns/\lo<=ns.length+i
 keep:zr (FT a nl p wl sl sh cells shc) H0 H'
def tN(A:zi):Sp:=λvs H Q _=>∃a,vs=[.ref a]/\Pot H a/\TB A H/\∀tp p wl sl sh cells shc m d H',H' tp=some (.tup [.ref p,.ref sh])->DW A H' p wl sl sh cells shc m d->Pot H' a->But a H H' ->
 (∀x∈p::wl::sl::sh::(cells++shc),x≠a/\H x=none)->d.left=none->d.st=false->d.sides.length=2->(3<=d.rows.length/\d.rows.length<=16/\2<=m/\m<=32)->(∀i,((d.rows.getD i []).length:Int)<=m)->Q (.ref tp) H'
theorem gn:zw ["_law_pot_here","_law_disk_here","_law_shelf","_law_numbers_here","_law_turn_here"] ["_law_pot_here"] (zm lC):=fsc
theorem E3:aQ { kind:=.function,names:=[(vv ".0",.local),(vv "_law_k",.local)],isGenerator:=false,isCoroutine:=false,more:=[] } (zm lC).names ["_law_pot_here","_law_disk_here","_law_shelf","_law_numbers_here","_law_turn_here"] ["_law_k"] [none]=true:=by decide +kernel
theorem AI:(["_law_k"]:List Str).Nodup:=by decide +kernel
theorem A8(F:Fun K "_law_disk" "_law_disk" lC f fd)(T:Txt w K mg A)(Z4:GF P w K mg base true 2 "_law_drawn" ["_law_pot_here","_law_some"] iM)(YA:GC P w K mg base true 3 "Disk" A.Disk ["self","stretches","places"] (qD A))(ZW:GM P w K mg base true 1 A.Disk "stretches" ["self"] (gq A λ_ d=>.int d.rows.length))(Zx:GF P w K mg base true 2 "_law_numbers" ["_law_pot_here","_law_many"] uh)(Z9:GF P w K mg base true 1 "_law_draw" ["_law_pot_here","_law_many"] cL)(Zu:GF P w K mg base true 4 "_law_turn" ["_law_pot_here","_law_disk_here","_law_shelf","_law_numbers_here"] (xH A))(Y1:GF P w K mg base true 6 "_law_torn" ["_law_pot_here","_law_disk_here","_law_shelf"] (sZ A)):zo P w K mg base CX0 true 7 f fd ["_law_pot_here"] (tN A):=by
 refine F.ok gn (λvs H Q E h=>?_) (λZ1 Ar outer s H vs Q E hr h=>?_)
 .obtain ⟨a,rfl,_⟩:=h;rfl
 .obtain ⟨a,rfl,hP,tb,q⟩:=h;have hu:_<cLine:=Mi (zQ hr);refine ⟨_,(W.h (zg (zA (i:=1) gn.nd rfl (LQ rfl) (j7 YA hr rfl (za (zt Z4 hr rfl (za (zd 0) (za (aw (za zj (za zj (za zj (za zj (za zj zc)))))) zc))) (za (zt Z4 hr rfl (za (zd 0) (za (aw (za zj (za zj (za zj (za zj (za zj zc)))))) zc))) zc))))
   (zg (gQ (i0:=2) gn.nd rfl (LQ rfl) (λ_=>rfl) (ar.of E3) (fq rfl T.n_range (za (br (zd 1) T.cl_Disk ZW hr) zc)) (λ_ _ _ _ _=>(zB (i:=0) AI rfl (LQ rfl))) (λ_ _ _ _ _=>cN) (λ_ _ _ _ _=>(aw zc)))
   (zg (zA (i:=3) gn.nd rfl (LQ rfl) (zt Zx hr rfl (za (zd 0) (za zj zc))))
   (zg (cb Nb.never (λ_=>rfl) (fq rfl T.n_range (za (zt Z9 hr rfl (za (zd 0) (za zj zc))) zc)) (zB (i:=4) gn.nd rfl (LQ rfl))
   (zh (aq (zt Zu hr rfl (za (zd 0) (za (zd 1) (za (zd 2) (za (zd 3) zc))))))))
   (zg (zA (i:=1) gn.nd rfl (LQ rfl) (zt Y1 hr rfl (za (zd 0) (za (zd 1) (za (zd 2) zc)))))
   (zg (cb Nb.never (λ_=>rfl) (fq rfl T.n_range (za (zt Z9 hr rfl (za (zd 0) (za zj zc))) zc)) (zB (i:=4) gn.nd rfl (LQ rfl))
   (zh (aq (zt Zu hr rfl (za (zd 0) (za (zd 1) (za (zd 2) (za (zd 3) zc))))))))
   (zh (zx (aP (za (zd 1) (za (zd 2) zc)))))))))))),?_⟩
  have lst:∀{H:Hp},Pot H a->∀x∈[a],(∃xs,H x=some (.lst xs))\/∃C dx fs,H x=some (.ins C dx fs):=λ{H} h x hx=>by
   rw [LU] at hx;subst hx;obtain ⟨xs,e⟩:=h.lst;exact .inl ⟨xs,e⟩
  simp_all only [];refine ⟨by decide,λl1 H1 m1 _=>⟨a,hP.same m1.same,.inl ⟨l1,_,rfl,hP.ne m1.no,.inl m1.at_,by simp,by simp,λv1 H2 hv1 b2 XH=>?_⟩⟩⟩;obtain ⟨n,rfl,hn1,hn2⟩:∃n:Nat,v1 = .int n/\3<=n/\n<=16:=by
   simp only [LI,LP,or_false] at hv1;rcases hv1 with rfl|rfl|rfl|rfl|rfl
   .exact ⟨3,rfl,by decide,by decide⟩
   .exact ⟨3,rfl,by decide,by decide⟩
   .exact ⟨4,rfl,by decide,by decide⟩
   .exact ⟨5,rfl,by decide,by decide⟩
   .exact ⟨16,rfl,by decide,by decide⟩
  have bA:=(But.of m1.same).trans b2;have tb2:TB A H2:=(tb.same m1.same).lists b2.keeps (lst (hP.same m1.same));refine ⟨by decide,λl3 H3 m3 _=>⟨a,XH.same m3.same,.inl ⟨l3,_,rfl,XH.ne m3.no,.inl m3.at_,by simp,by simp,λv2 H4 WY b4 hP4=>?_⟩⟩⟩;obtain ⟨m,rfl,hm1,hm2⟩:∃m:Int,v2 = .int m/\2<=m/\m<=32:=by
   simp only [LI,LP,or_false] at WY;rcases WY with rfl|rfl|rfl|rfl|rfl
   .exact ⟨2,rfl,by decide,by decide⟩
   .exact ⟨2,rfl,by decide,by decide⟩
   .exact ⟨3,rfl,by decide,by decide⟩
   .exact ⟨5,rfl,by decide,by decide⟩
   .exact ⟨32,rfl,by decide,by decide⟩
  have bB:=(bA.trans (But.of m3.same)).trans b4;have tb4:TB A H4:=(tb2.same m3.same).lists b4.keeps (lst (XH.same m3.same));refine λp dxp H5 nI=>⟨p,dxp,n,m,rfl,nI.at_,by lia,by lia,by lia,by lia,λwl sl cells H6 D6 k6 f6=>⟨rfl,?_⟩⟩;rw [Np] at D6;have P5:=hP4.same nI.same;obtain ⟨xa,ya,ea,ra⟩:=P5.ex;have apn:a≠p:=λz=>by rw [z,nI.at_] at ea;cases ea
  have P6:Pot H6 a:=⟨⟨xa,ya,k6 _ _ ea apn,ra⟩⟩;have kp6:zr [p] H5 H6:=λc o e n=>k6 c o e (λz=>n (by simp [z]));have tb6:TB A H6:=(tb4.same nI.same).lists kp6 (λx hx=>by rw [LU] at hx;subst hx;exact .inr ⟨_,_,_,nI.at_⟩);have b6:But a H H6:=λx o nx e=>k6 x o (nI.same _ _ (bB x o nx e)) (λz=>by have:=bB x o nx e;rw [z,nI.no] at this;cases this);have frp:∀x∈p::wl::sl::cells,x≠a/\H x=none:=λx hx=>by
   rcases LI.mp hx with rfl|hx
   .exact ⟨L8 apn,bB.no hP4 nI.no⟩
   .have h5:=f6 x hx;have h4:H4 x=none:=nI.same.free h5;exact ⟨P5.ne h5,bB.no hP4 h4⟩
  obtain ⟨dx6,ob6⟩:=D6.ob;refine ⟨dx6,_,ob6,qK,p,wl,sl,cells,m,_,rfl,D6,?_⟩;have er:(DM.new n).rows.length=n:=MQ ..
  try simp_all only []
  rw [er,Np];refine ⟨by lia,by lia,zS.rng (sG H6) (λi τ ys H' I=>?_) ⟨⟨_,rfl⟩,⟨[],rfl,rfl,by simp,nodup_nil⟩,zl.refl _,by decide⟩ ?_ ?_⟩
  .obtain ⟨cs,e,l,_⟩:=I.ex;rw [e,KE,l];exact aF (by have:=I.le;lia)
  .intro N i τ ys H' hi I hN;obtain ⟨t,rfl⟩:=I.τ;obtain ⟨cs,e,l,hc,Xw⟩:=I.ex;simp_all only [];refine ⟨MM _,λc H7 n7 _=>hN _ _ _ ⟨⟨_,rfl⟩,⟨cs++[c],by rw [e];simp,by simp [l],λx hx=>?_,?_⟩,I.same.trans n7.same,by lia⟩⟩
   .rcases My.mp hx with hx|hx
    .exact ⟨n7.same _ _ (hc x hx).1,(hc x hx).2⟩
    .rw [LU] at hx;subst hx;exact ⟨n7.at_,I.same.free n7.no⟩
   .rw [Oi];refine ⟨Xw,by simp,λx hx y hy z=>?_⟩;rw [LU] at hy;have:=(hc x hx).1;rw [z,hy,n7.no] at this;cases this
  .intro τ ys H7 I sh H8 n8;obtain ⟨shc,e,lc,hc,Xw⟩:=I.ex;rw [e] at n8;have s68:zl H6 H8:=I.same.trans n8.same;have shn:sh∉shc:=λz=>by have:=n8.no;rw [(hc sh z).1] at this;cases this
   have rrep:rdR (DM.new n).rows=Mg n []:=by
    show (Mg n ([]:List Tx)).map _=_;rw [PK];rfl
   have rep:∀i c,shc[i]?=some c->H8 c=some (.lst []):=λi c h=>n8.same _ _ (hc c (LX h)).1;have S8:au H8 sh shc (rdR (DM.new n).rows):=by
    rw [rrep];exact ⟨n8.at_,by rw [MQ];exact lc,λi c h=>⟨[],rep i c h,by rw [mZ];exact .nil⟩,MU.mpr ⟨shn,Xw⟩⟩
   have fr:∀x o,H6 x=some o->x≠sh/\x∉shc:=λx o h=>by
    refine ⟨λz=>?_,λz=>?_⟩
    .have:=n8.no;rw [<- z,I.same _ _ h] at this;cases this
    .have:=(hc x z).2;rw [h] at this;cases this
   have D6H:∀x∈wl::sl::cells,∃o,H6 x=some o:=λx hx=>by
    rcases D6.lists x (LO _ hx) with ⟨xs,h⟩|⟨_,_,_,h⟩<;>exact ⟨_,h⟩
   have W8:DW A H8 p wl sl sh cells shc m (DM.new n):=⟨D6.sameT (.of s68),S8,λx hx=>by obtain ⟨o,ho⟩:=D6H x hx;exact fr x o ho,tb6.same s68,Bb hn2⟩;have P8:=P6.same s68;obtain ⟨x6,y6,ea6,_⟩:=P6.ex;obtain ⟨asn,acn⟩:=fr a _ ea6;have b8:But a H H8:=b6.trans (But.of s68);refine ⟨a,14,rfl,P8,by decide,by decide,λnl ns H9 b9 hP9 nl0 hnl Z5 nd XR=>?_⟩;have b9':=b8.trans b9;have nlx:∀x o,H8 x=some o->x≠nl:=λx o h z=>by rw [z,nl0] at h;cases h
   have Q9:QW A H9 a nl p wl sl sh cells shc m (DM.new n) ns:=by
    refine ⟨W8.potB P8 (λx hx=>(frp x (LO _ hx)).1) asn acn b9,hP9,hnl,λx hx=>⟨(frp x (LO _ hx)).1,?_⟩,⟨nlx a _ (s68 _ _ ea6),asn,acn,(nlx sh _ S8.w).symm,λz=>?_⟩,⟨rfl,rfl⟩,rfl⟩
    .obtain ⟨o,ho⟩:=D6H x hx;exact nlx x o (s68 _ _ ho)
    .obtain ⟨i,hi,ei⟩:=MI z;exact nlx nl _ (rep i nl (by rw [<- ei];exact il hi)) rfl
   have T9:TOk m (DM.new n) ns:=KL hn1 hn2 hm1 hm2 nd XR (by lia);have fr9:∀x∈FT a nl p wl sl sh cells shc,x=a\/H x=none:=λx hx=>by
    unfold FT at hx;rcases LI.mp hx with rfl|hx
    .exact .inl rfl
    .rcases LI.mp hx with rfl|hx
     .exact .inr (b8.no P8 nl0)
     .rcases LI.mp hx with rfl|hx
      .exact .inr (frp _ (by simp)).2
      .rcases LI.mp hx with rfl|hx
       .exact .inr (frp _ (by simp)).2
       .rcases LI.mp hx with rfl|hx
        .exact .inr (frp _ (by simp)).2
        .rcases LI.mp hx with rfl|hx
         .exact .inr (b6.no P6 (I.same.free n8.no))
         .rcases My.mp hx with hx|hx
          .exact .inr (frp _ (by simp [hx])).2
          .exact .inr (b6.no P6 (hc x hx).2)
   have but_of:∀{Hy Hc:Hp}{F:List Addr},But a H Hy->(∀x∈F,x=a\/H x=none)->zr F Hy Hc->But a H Hc:=λ{Hy Hc F} b fr k x o nx e=>k x o (b x o nx e) λz=>by
    rcases fr x z with z|z
    .exact nx z
    .rw [e] at z;cases z
   try simp_all only []
   refine ⟨a,10,rfl,hP9,by decide,by decide,λr1 H10 WW hP10 r10 r11=>?_⟩;have Q10:=Q9.potB WW hP10;have bt10:=b9'.trans WW
   try simp_all only []
   refine ⟨by lia,by lia,aB.rng (Lp1 A H10 a nl p wl sl sh cells shc m 14) ⟨⟨_,rfl⟩,⟨_,ns,Q10,T9,by lia⟩,zr.refl⟩ ?_ ?_⟩
   .rintro i σ Ha hi ⟨⟨t,rfl⟩,⟨d,ns',Qa,Ta,hl⟩,ka⟩;simp_all only [];exact ⟨a,nl,p,wl,sl,sh,cells,shc,m,d,ns',rfl,Qa,Ta,by lia,λd' ns2 Hb Qb Tb XW kb=>⟨⟨_,rfl⟩,⟨d',ns2,Qb,Tb,by lia⟩,ka.trans kb⟩⟩
   .rintro σ Ha ⟨⟨t,rfl⟩,⟨d,ns',Qa,Ta,hl⟩,ka⟩;have bta:=but_of bt10 fr9 ka;simp_all only [];refine ⟨a,nl,p,wl,sl,sh,cells,shc,m,d,ns',rfl,Qa,Ta,λp' XA XX ZL shc' d' Hb Qb Tb kb fb=>?_⟩;have btb:=but_of bta fr9 kb;have frb:∀x∈FT a nl p' XA XX sh ZL shc',x=a\/H x=none:=λx hx=>by
     rcases fb x hx with h|h
     .exact fr9 x h
     .exact .inr (bta.no Qa.pot h)
    try simp_all only []
    refine ⟨a,6,rfl,Qb.pot,by decide,by decide,λr2 Hc bc hPc r20 r21=>?_⟩;have Qc:=Qb.potB bc hPc;have btc:=btb.trans bc
    try simp_all only []
    refine ⟨by lia,by lia,aB.rng (Lp1 A Hc a nl p' XA XX sh ZL shc' m 5) ⟨⟨_,rfl⟩,⟨d',ns',Qc,Tb,by lia⟩,zr.refl⟩ ?_ ?_⟩
    .rintro i σ Hd hi ⟨⟨t,rfl⟩,⟨d2,ns2,Qd,Td,XW⟩,kd⟩;simp_all only [];exact ⟨a,nl,p',XA,XX,sh,ZL,shc',m,d2,ns2,rfl,Qd,Td,by lia,λd3 ns3 He Qe Te hl3 ke=>⟨⟨_,rfl⟩,⟨d3,ns3,Qe,Te,by lia⟩,kd.trans ke⟩⟩
    .rintro σ Hd ⟨⟨t,rfl⟩,⟨d2,ns2,Qd,Td,XW⟩,kd⟩;have btd:=but_of btc frb kd;simp_all only [];refine ⟨by decide,λtp He me=>?_⟩;have Qe:=Qd.same me.same;refine q tp p' XA XX sh ZL shc' m d2 He me.at_ Qe.dw Qe.pot (btd.trans (But.of me.same)) (λx hx=>?_) Qe.live.1 Qe.live.2 Qe.sd Td.size Td.wide;have hxF:x∈FT a nl p' XA XX sh ZL shc':=by
      unfold FT;exact LO _ (LO _ hx)
     have xa:x≠a:=by
      rcases LI.mp hx with rfl|hx
      .obtain ⟨dxx,obx⟩:=Qe.dw.disk.ob;obtain ⟨xs,e⟩:=Qe.pot.lst;exact L8 (ju e obx)
      .rcases LI.mp hx with rfl|hx
       .exact (Qe.ap _ (by simp)).1
       .rcases LI.mp hx with rfl|hx
        .exact (Qe.ap _ (by simp)).1
        .rcases LI.mp hx with rfl|hx
         .exact L8 Qe.ap2.2.1
         .rcases My.mp hx with hx|hx
          .exact (Qe.ap _ (by simp [hx])).1
          .exact λz=>Qe.ap2.2.2.1 (z ▸ hx)
     exact ⟨xa,(frb x hxF).resolve_left xa⟩
def rH(A:zi):Sp:=λvs H Q _=>∃(p wl sl:Addr)(cells:List Addr)(m:Int)(d:DM),vs=[.ref p]/\zE A H p wl sl cells m d/\d.st=false/\d.sides.length=2/\∀d' H',zE A H' p wl sl cells m d'->d'.rows=d.rows->zr (p::wl::sl::cells) H H'->Q (.bl true) H'
theorem mh:zw ["_law_disk_here","_law_told"] ["_law_disk_here"] (zm oZ):=fsc
theorem Jj(F:Fun K "_law_halted" "_law_halted" oZ f fd)(T:Txt w K mg A)(ZM:GM P w K mg base true 1 A.Disk "stop" ["self","many"] (pY A))(ZF:GMX P w K mg base true 3 A.Disk "put_side" ["self","k","text"] (xF A)):zo P w K mg base CX0 true 4 f fd ["_law_disk_here"] (rH A):=by
 refine F.ok mh (λvs H Q E h=>?_) (λZ1 Ar outer s H vs Q E hr h=>?_)
 .obtain ⟨p,wl,sl,cells,m,d,rfl,_⟩:=h;rfl
 .obtain ⟨p,wl,sl,cells,m,d,rfl,D,hst,hsd,q⟩:=h;refine ⟨_,(W.h (zg (zA (i:=1) mh.nd rfl (LQ rfl) bO)
   (zg (aq (bU (zd 0) T.cl_Disk ZM hr (za zj zc)))
   (zg (mO rfl rfl ⟨rfl,rfl⟩ T.ek_Stopped rfl T.mg_Stopped (λGo Ex=>(zh (aq (fU (zd 0) T.cl_Disk oB ZF hr (za zj (za zI zc)))))) (λGo ea=>by
   have hr:=hr.mark (v:=some (.ref ea));exact (zh (zA (i:=1) mh.nd rfl (LQ rfl) bO))))
   (zh (zx (zd 1))))))),?_⟩
  obtain ⟨dx,h1⟩:=D.ob;simp_all only [h1,vo];refine ⟨p,wl,sl,cells,m,d,0,rfl,D,λH1 D1 b1=>?_⟩;obtain ⟨dx1,g1⟩:=D1.ob
  try simp_all only [g1,BL]
  have la:("a":Str).length=1:=by decide +kernel
  have e0:dn (d.stop 0).left (("a":Str).length:Nat)=0:=by rw [la];show (if (0:Int)<1 then (0:Int) else 1)=0;decide
  have es:((d.stop 0).spend (("a":Str).length:Nat)).st=true:=by
   show decide (dn (d.stop 0).left (("a":Str).length:Nat)<(("a":Str).length:Nat))=true;rw [e0,la];decide
  have ep:(d.stop 0).put 0 "a"=(.stop,(d.stop 0).spend (("a":Str).length:Nat)):=by
   unfold DM.put;rw [if_neg (by show ¬ d.st=true;rw [hst];exact LM),if_pos ⟨e0,es⟩]
  refine ⟨p,wl,sl,cells,m,d.stop 0,0,"a",rfl,D1,by show 0<d.sides.length;lia,hsd,by lia,λH2 D2 b2=>?_⟩;rw [ep] at D2 ⊢;unfold Out;dsimp only;refine ⟨_,rfl,T.ek_Stopped,T.ms_Stopped,λea oe he _=>⟨_,rfl,?_⟩⟩;have s3:zl H2 (upd H2 ea (.frz oe (.own 0))):=λx o e=>by rw [ze (zC e he)];exact e
  exact q _ _ (D2.sameT (.of s3)) rfl (((b1.mono (by simp)).trans b2).trans (zr.same s3))
end
abbrev mS:Stmt:=ax (top 51) 0
abbrev ma:Stmt:=ax (top 51) 1
abbrev qg:Stmt:=ax (top 51) 2
abbrev nN:Stmt:=ax (top 51) 14
abbrev Tab:=List (Str×List Int)
variable{ks:List (Str×Tab)}
def aJ(H:Hp)(v:V)(l:List Int):Prop:=∃p,v = .ref p/\H p=some (.tup (l.map V.int))
def aI(b k:Addr):List (Str×V):=[("births",.ref b),("kept",.ref k)]
structure cH(H:Hp)(b:Addr)(t:Tab):Prop where
 ex:∃kvs,H b=some (.dK (sk kvs))/\Dct (aJ H) kvs t
 nd:(names t).Nodup
structure dc(H:Hp)(b:Addr)(t:Tab):Prop where
 ex:∃kvs,Rd H b (.dK (sk kvs))/\Dct (aJ H) kvs t
 nd:(names t).Nodup
theorem cH.r{t:Tab}(h:cH H b t):dc H b t:=let ⟨kvs,e,d⟩:=h.ex;⟨⟨kvs,.inl e,d⟩,h.nd⟩
structure cf(A:zi)(H:Hp)(q b k:Addr)(t:Tab):Prop where
 ob:∃dx,H q=some (.ins A.Files dx (aI b k))
 births:dc H b t
 kept:Rd H k (.dK (sk []))
def cG(A:zi)(H:Hp)(b k:Addr)(v:V)(t:Tab):Prop:=∃q b' k',v = .ref q/\cf A H q b' k' t/\b'≠b/\b'≠k/\k'≠b/\k'≠k
structure zM(A:zi)(H:Hp)(p b k:Addr)(t:Tab)(ks:List (Str×Tab)):Prop where
 ob:∃dx,H p=some (.ins A.Files dx (aI b k))
 births:cH H b t
 kept:∃kk,H k=some (.dK (sk kk))/\Dct (cG A H b k) kk ks
 ndk:(names ks).Nodup
 ne:b≠k
structure fS(A:zi)(H:Hp)(p b k:Addr)(t:Tab)(ks:List (Str×Tab)):Prop where
 ob:∃dx,H p=some (.ins A.Files dx (aI b k))
 births:dc H b t
 kept:∃kk,Rd H k (.dK (sk kk))/\Dct (cG A H b k) kk ks
 ndk:(names ks).Nodup
theorem zM.r{p k:Addr}{t:Tab}(h:zM A H p b k t ks):fS A H p b k t ks:=let ⟨kk,e,d⟩:=h.kept;⟨h.ob,h.births.r,⟨kk,.inl e,d⟩,h.ndk⟩
structure FS(H H':Hp):Prop where
 oth:∀a o,(∀kvs,o≠.dK kvs)->(∀ob kvs,o≠.frz ob (.dK kvs))->H a=some o->H' a=some o
 dic:∀a kvs,Rd H a (.dK kvs)->Rd H' a (.dK kvs)
theorem FS.of(s:zl H H'):FS H H':=⟨λa o _ _ e=>s a o e,λa kvs r=>r.elim (λe=>.inl (s _ _ e)) (λ⟨o,e⟩=>.inr ⟨o,s _ _ e⟩)⟩
theorem Rd.same{u:HO}(h:Rd H a u)(s:zl H H'):Rd H' a u:=h.elim (λe=>.inl (s _ _ e)) (λ⟨o,e⟩=>.inr ⟨o,s _ _ e⟩)
theorem But.upd:But b H (upd H b o):=λa u n e=>by rw [ze n];exact e
theorem aJ.but(h:aJ H v l)(s:But b H H')(hb:∀xs,H b≠some (.tup xs)):aJ H' v l:=by
 obtain ⟨p,e,hp⟩:=h;exact ⟨p,e,s p _ (λz=>by subst z;exact hb _ hp) hp⟩
theorem aJ.same(h:aJ H v l)(s:zl H H'):aJ H' v l:=let ⟨p,e,hp⟩:=h;⟨p,e,s p _ hp⟩
theorem cH.but{t:Tab}(h:cH H b t)(s:But x H H')(hx:∀xs,H x≠some (.tup xs))(n:b≠x):cH H' b t:=by
 obtain ⟨kvs,e,d⟩:=h.ex;exact ⟨⟨kvs,s _ _ n e,d.imp λv a r=>r.but s hx⟩,h.nd⟩
theorem cH.same{t:Tab}(h:cH H b t)(s:zl H H'):cH H' b t:=by
 obtain ⟨kvs,e,d⟩:=h.ex;exact ⟨⟨kvs,s _ _ e,d.imp λv a r=>r.same s⟩,h.nd⟩
theorem dc.but{t:Tab}(h:dc H b t)(s:But x H H')(hx:∀xs,H x≠some (.tup xs))(n:b≠x):dc H' b t:=by
 obtain ⟨kvs,e,d⟩:=h.ex;exact ⟨⟨kvs,e.elim (λe=>.inl (s _ _ n e)) (λ⟨o,e⟩=>.inr ⟨o,s _ _ n e⟩),d.imp λv a r=>r.but s hx⟩,h.nd⟩
theorem aJ.fs(h:aJ H v l)(s:FS H H'):aJ H' v l:=let ⟨p,e,hp⟩:=h;⟨p,e,s.oth p _ (λ_=>nofun) (λ_ _=>nofun) hp⟩
theorem dc.fs{t:Tab}(h:dc H b t)(s:FS H H'):dc H' b t:=by
 obtain ⟨kvs,e,d⟩:=h.ex;exact ⟨⟨kvs,s.dic _ _ e,d.imp λv a r=>r.fs s⟩,h.nd⟩
theorem cf.but{k:Addr}{t:Tab}{kvs:List (Key×V)}(h:cf A H q b k t)(s:But x H H')(hx:H x=some (.dK kvs))(n1:b≠x)(n2:k≠x):cf A H' q b k t:=by
 obtain ⟨dx,e⟩:=h.ob;exact ⟨⟨dx,s _ _ (λz=>by subst z;rw [e] at hx;cases hx) e⟩,h.births.but s (λxs z=>by rw [z] at hx;cases hx) n1,h.kept.elim (λe=>.inl (s _ _ n2 e)) (λ⟨o,e⟩=>.inr ⟨o,s _ _ n2 e⟩)⟩
theorem cf.fs{k:Addr}{t:Tab}(h:cf A H q b k t)(s:FS H H'):cf A H' q b k t:=let ⟨dx,e⟩:=h.ob;⟨⟨dx,s.oth _ _ (λ_=>nofun) (λ_ _=>nofun) e⟩,h.births.fs s,s.dic _ _ h.kept⟩
theorem cf.same{k:Addr}{t:Tab}(h:cf A H q b k t)(s:zl H H'):cf A H' q b k t:=h.fs (.of s)
theorem cG.fs{k:Addr}{t:Tab}(h:cG A H b k v t)(s:FS H H'):cG A H' b k v t:=let ⟨q,b',k',e,r,n⟩:=h;⟨q,b',k',e,r.fs s,n⟩
theorem fS.fs{p k:Addr}{t:Tab}(h:fS A H p b k t ks)(s:FS H H'):fS A H' p b k t ks:=by
 obtain ⟨dx,e⟩:=h.ob;obtain ⟨kk,e2,d⟩:=h.kept;exact ⟨⟨dx,s.oth _ _ (λ_=>nofun) (λ_ _=>nofun) e⟩,h.births.fs s,⟨kk,s.dic _ _ e2,d.imp λv a r=>r.fs s⟩,h.ndk⟩
theorem zM.fs{p k d:Addr}{t:Tab}(h:zM A H p b k t ks)(s:FS H H')(bt:But d H H')(n1:b≠d)(n2:k≠d):zM A H' p b k t ks:=by
 obtain ⟨dx,e⟩:=h.ob;obtain ⟨kk,e2,d⟩:=h.kept;obtain ⟨kvs,e3,d3⟩:=h.births.ex;exact ⟨⟨dx,s.oth _ _ (λ_=>nofun) (λ_ _=>nofun) e⟩,⟨⟨kvs,bt _ _ n1 e3,d3.imp λv a r=>r.fs s⟩,h.births.nd⟩,⟨kk,bt _ _ n2 e2,d.imp λv a r=>r.fs s⟩,h.ndk,h.ne⟩
theorem cG.same{k:Addr}{t:Tab}(h:cG A H b k v t)(s:zl H H'):cG A H' b k v t:=let ⟨q,b',k',e,r,n⟩:=h;⟨q,b',k',e,r.same s,n⟩
theorem zM.same{p k:Addr}{t:Tab}(h:zM A H p b k t ks)(s:zl H H'):zM A H' p b k t ks:=by
 obtain ⟨dx,e⟩:=h.ob;obtain ⟨kk,e2,d⟩:=h.kept;exact ⟨⟨dx,s _ _ e⟩,h.births.same s,⟨kk,s _ _ e2,d.imp λv a r=>r.same s⟩,h.ndk,h.ne⟩
theorem zM.setB{p k:Addr}{t t':Tab}{kvs':List (Str×V)}(h:zM A H p b k t ks)(s:But b H H')(e:H' b=some (.dK (sk kvs')))(d':Dct (aJ H') kvs' t')(nd:(names t').Nodup):zM A H' p b k t' ks:=by
 obtain ⟨dx,e1⟩:=h.ob;obtain ⟨kk,e2,d⟩:=h.kept;obtain ⟨kvs,e3,_⟩:=h.births.ex;exact ⟨⟨dx,s _ _ (λz=>by subst z;rw [e1] at e3;cases e3) e1⟩,⟨⟨kvs',e,d'⟩,nd⟩,⟨kk,s _ _ (L8 h.ne) e2,d.imp λv a ⟨q,b',k',ev,r,n1,n2,n3,n4⟩=>⟨q,b',k',ev,r.but s e3 n1 n3,n1,n2,n3,n4⟩⟩,h.ndk,h.ne⟩
theorem zM.setK{p k:Addr}{t:Tab}{ks':List (Str×Tab)}{kk':List (Str×V)}(h:zM A H p b k t ks)(s:But k H H')(e:H' k=some (.dK (sk kk')))(d':Dct (cG A H' b k) kk' ks')(nd:(names ks').Nodup):zM A H' p b k t ks':=by
 obtain ⟨dx,e1⟩:=h.ob;obtain ⟨kk,e2,d⟩:=h.kept;exact ⟨⟨dx,s _ _ (λz=>by subst z;rw [e1] at e2;cases e2) e1⟩,h.births.but s (λxs z=>by rw [z] at e2;cases e2) h.ne,⟨kk',e,d'⟩,nd,h.ne⟩
theorem cG.but{k:Addr}{t:Tab}{kvs:List (Key×V)}(h:cG A H b k v t)(s:But k H H')(hx:H k=some (.dK kvs)):cG A H' b k v t:=let ⟨q,b',k',ev,r,n1,n2,n3,n4⟩:=h;⟨q,b',k',ev,r.but s hx n2 n4,n1,n2,n3,n4⟩
section
variable {P:LV}{w:Mf}{K:Frag}{mg:Str->Option Value}{base:Heap}{A:zi}{b k:Addr}
theorem cJ:(aI b k).lookup ("births":Str)=some (.ref b):=by kernel_rfl
theorem mE:(aI b k).lookup ("kept":Str)=some (.ref k):=by kernel_rfl
theorem uP:(aI b k).lookup ("names":Str)=none:=by kernel_rfl
theorem i8:(aI b k).lookup ("many":Str)=none:=by kernel_rfl
theorem G1:(aI b k).lookup ("put":Str)=none:=by kernel_rfl
theorem FA:(aI b k).lookup ("cut":Str)=none:=by kernel_rfl
theorem Fo:(aI b k).lookup ("hold":Str)=none:=by kernel_rfl
theorem yf:(aI b k).lookup ("bare":Str)=none:=by kernel_rfl
theorem AV:(aI b k).lookup ("keep":Str)=none:=by kernel_rfl
theorem yt:(aI b k).lookup ("refuse_if_none":Str)=none:=by kernel_rfl
def oQ(A:zi):Sp:=λvs H Q _=>∃(p dx:Addr),vs=[.ref p]/\H p=some (.ins A.Files dx [])/\∀b k H',But p H H'->H b=none->H k=none->H' b=some (.dK (sk []))->H' k=some (.dK (sk []))->b≠k->H' p=some (.ins A.Files dx (aI b k))->Q .non H'
theorem Jv:zw ["self"] ["self"] (zm mS):=fsc
theorem Cv(F:Fun K "__init__" "Files.__init__" mS f fd)(T:Txt w K mg A):zo P w K mg base CX0 true 1 f fd ["self"] (oQ A):=by
 refine F.ok Jv (λvs H Q E h=>?_) (λZ1 Ar outer s H vs Q E hr h=>?_)
 .obtain ⟨p,dx,rfl,_⟩:=h;rfl
 .obtain ⟨p,dx,rfl,hp,q⟩:=h;refine ⟨_,(W.h (zg (sfD (aY T.cl_Files T.na_Files_births (clE (zb 0)) (clE ot)))
   (zh (sfD (aY T.cl_Files T.na_Files_kept (clE (zb 0)) (clE ot)))))),?_⟩
  simp_all only [];refine λb H1 n1=>⟨dx,[],n1.same _ _ hp,by decide,λk H2 n2=>⟨dx,_,n2.same _ _ zy,by show 1<1000;decide,?_⟩⟩;have bp:b≠p:=λz=>by have:=n1.no;rw [z,hp] at this;cases this
  have kp:k≠p:=λz=>by have:=n2.no;rw [z,zy] at this;cases this
  have k1:H1 k=none:=by have:=n2.no;rw [ze kp] at this;exact this
  have eF:zP ("kept":Str) (V.ref k) (zP ("births":Str) (V.ref b) [])=aI b k:=by kernel_rfl
  have e2:H2 b=some (.dK []):=n2.same _ _ (by rw [ze bp];exact n1.at_);rw [eF];refine q b k _ (λa o n e=>?_) n1.no (n1.same.free k1) (by rw [ze bp];exact e2) (by rw [ze kp];exact n2.at_) (λz=>?_) zy
  .rw [ze n];exact n2.same _ _ (by rw [ze n];exact n1.same _ _ e)
  .have:=n2.no;rw [<- z,ze bp,n1.at_] at this;cases this
def vc(A:zi):Sp:=λvs H Q _=>∃(p b k:Addr)(t:Tab)(ks:List (Str×Tab)),vs=[.ref p]/\fS A H p b k t ks/\t.length<64/\∀l H',New H l (.lst ((cS (names t)).map V.str)) H'->Q (.ref l) H'
theorem J9:zw ["self"] ["self"] (zm ma):=fsc
theorem E1(F:Fun K "names" "Files.names" ma f fd)(T:Txt w K mg A):zo P w K mg base CX0 true 1 f fd ["self"] (vc A):=by
 refine F.ok J9 (λvs H Q E h=>?_) (λZ1 Ar outer s H vs Q E hr h=>?_)
 .obtain ⟨p,b,k,t,ks,rfl,_⟩:=h;rfl
 .obtain ⟨p,b,k,t,ks,rfl,hF,hl,q⟩:=h;refine ⟨_,(W.h (zh (zx (zK (IY rfl) rfl T.n_sorted PX (za (fD (ae T.cl_Files T.na_Files_births (clE (zb 0)))) zc))))),?_⟩;obtain ⟨dx,e1⟩:=hF.ob;obtain ⟨kvs,e2,d⟩:=hF.births.ex;simp_all only [e1,cJ];refine ⟨kvs,e2,by rw [d.length];exact hl,?_⟩;rw [d.names];exact q
def lk(t:Tab)(n:Str):List Int:=(look t n).getD []
def jA(A:zi):Sp:=λvs H Q _=>∃(p b k:Addr)(t:Tab)(ks:List (Str×Tab))(n:Str),vs=[.ref p,.str n]/\fS A H p b k t ks/\∀H',zl H H'->Q (.int (lk t n).length) H'
theorem cH.get{t:Tab}{kvs:List (Str×V)}(d:Dct (aJ H) kvs t)(n:Str){p:Addr}(s:zl H H')(hp:H' p=some (.tup [])):∃a,(look kvs n).getD (.ref p) = .ref a/\H' a=some (.tup ((lk t n).map V.int)):=by
 rcases d.look n with ⟨v,l,e1,e2,a,ev,ha⟩|⟨e1,e2⟩
 .exact ⟨a,by rw [e1,ev];rfl,by unfold lk;rw [e2];exact s _ _ ha⟩
 .exact ⟨p,by rw [e1];rfl,by unfold lk;rw [e2];exact hp⟩
theorem HS:zw ["self","file"] ["self","file"] (zm qg):=fsc
theorem Le(F:Fun K "many" "Files.many" qg f fd)(T:Txt w K mg A):zo P w K mg base CX0 true 1 f fd ["self","file"] (jA A):=by
 refine F.ok HS (λvs H Q E h=>?_) (λZ1 Ar outer s H vs Q E hr h=>?_)
 .obtain ⟨p,b,k,t,ks,n,rfl,_⟩:=h;rfl
 .obtain ⟨p,b,k,t,ks,n,rfl,hF,q⟩:=h;refine ⟨_,(W.h (zh (zx (zK cO rfl T.n_len Mr (za (yC (zQ hr) (fD (ae T.cl_Files T.na_Files_births (clE (zb 0)))) (zb 1) (aP zc)) zc))))),?_⟩;obtain ⟨dx,e1⟩:=hF.ob;obtain ⟨kvs,e2,d⟩:=hF.births.ex;simp_all only [e1,cJ];refine ⟨⟨_,e2⟩,MM _,λp' H2 n2=>⟨_,Rd.same e2 n2.same,?_⟩⟩;obtain ⟨a,ea,ha⟩:=cH.get d n n2.same n2.at_;rw [gu,ea,xV];exact ⟨_,.inr ha,by rw [KE];exact q H2 n2.same⟩
theorem Dct.some_iff{R:V->α->Prop}{kvs:List (Str×V)}{t:List (Str×α)}(d:Dct R kvs t)(n:Str):(look kvs n).isSome=(look t n).isSome:=by
 rcases d.look n with ⟨v,l,e1,e2,_⟩|⟨e1,e2⟩<;>rw [e1,e2]<;>rfl
def xO(A:zi):Sp:=λvs H Q _=>∃(p b k:Addr)(t:Tab)(ks:List (Str×Tab))(n:Str),vs=[.ref p,.str n]/\fS A H p b k t ks/\(look t n).isSome=true/\Q .non H
theorem La:zw ["self","file"] ["self","file"] (zm nN):=fsc
theorem C7(F:Fun K "refuse_if_none" "Files.refuse_if_none" nN f fd)(T:Txt w K mg A):zo P w K mg base CX0 true 1 f fd ["self","file"] (xO A):=by
 refine F.ok La (λvs H Q E h=>?_) (λZ1 Ar outer s H vs Q E hr h=>?_)
 .obtain ⟨p,b,k,t,ks,n,rfl,_⟩:=h;rfl
 .obtain ⟨p,b,k,t,ks,n,rfl,hF,hn,q⟩:=h;refine ⟨_,(W.h (zh (zR (tD (zL (clO (GI (zQ hr))) (clE (zb 1)) (clE (fD (ae T.cl_Files T.na_Files_births (clE (zb 0))))) rfl))
   (zh gL)
   aa))),?_⟩
  obtain ⟨dx,e1⟩:=hF.ob;obtain ⟨kvs,e2,d⟩:=hF.births.ex;simp_all only [e1,cJ];refine ⟨_,e2,?_⟩;rw [gu,Dct.some_iff d n,hn];exact gG q
end
abbrev qz:Stmt:=ax (top 51) 4
abbrev qh:Stmt:=ax (top 51) 5
section
variable {P:LV}{w:Mf}{K:Frag}{mg:Str->Option Value}{base:Heap}{A:zi}{b k:Addr}
theorem yu{a b:Int}(h1:a<=i)(h2:i<=b):hW (.int i) a b=true:=by
 show (decide (a<=i)&&decide (i<=b))=true;rw [decide_eq_true h1,decide_eq_true h2];rfl
theorem wq(h0:0<=i)(h1:i<=xs.length):aU xs none (some i)=xs.take i.toNat:=by
 have e1:HT.sIx xs.length 0 none=0:=rfl;have e2:HT.sIx xs.length xs.length (some i)=i.toNat:=by
  unfold HT.sIx;simp only;split<;>lia
 unfold aU;rw [e1,e2];simp
theorem AB(h0:0<=i)(h1:i<=xs.length+1):aU xs (some i) none=xs.drop i.toNat:=by
 have e1:HT.sIx xs.length xs.length none=xs.length:=rfl;have e2:HT.sIx xs.length 0 (some i)=min i.toNat xs.length:=by
  unfold HT.sIx;simp only;split<;>lia
 unfold aU;rw [e1,e2];by_cases h:i.toNat<=xs.length
 .rw [QI h,Mj (by rw [O8];lia)]
 .rw [Nat.min_eq_right (by lia),OO (we _),OO (by lia)];simp
def tf(A:zi):Sp:=λvs H Q _=>∃(p b k:Addr)(t:Tab)(ks:List (Str×Tab))(n:Str)(i x:Int),vs=[.ref p,.str n,.int i,.int x]/\zM A H p b k t ks/\0<=i/\i<=(lk t n).length/\(lk t n).length<=1000/\t.length<=1000 /\
 ∀H',But b H H'->zM A H' p b k (bj t n ((lk t n).take i.toNat++[x]++(lk t n).drop (i.toNat+1))) ks->Q .non H'
theorem ve:zw ["self","file","place","birth","births"] ["self","file","place","birth"] (zm qz):=fsc
theorem Ey(F:Fun K "put" "Files.put" qz f fd)(T:Txt w K mg A)(ZZ:GM P w K mg base true 1 A.Files "many" ["self","file"] (jA A))(ZX:GF P w K mg base true 2 "is_within" ["value","least","most"] jP):zo P w K mg base CX0 true 4 f fd ["self","file","place","birth"] (tf A):=by
 refine F.ok ve (λvs H Q E h=>?_) (λZ1 Ar outer s H vs Q E hr h=>?_)
 .obtain ⟨p,b,k,t,ks,n,i,x,rfl,_⟩:=h;rfl
 .obtain ⟨p,b,k,t,ks,n,i,x,rfl,hF,i0,i1,l1,t1,q⟩:=h;refine ⟨_,(W.h (zg (zR (cQ (aX (caD (zt ZX hr rfl (clP (za (zb 2) (za zj (za (mD (bU (clE (zb 0)) T.cl_Files ZZ hr (clP (za (zb 1) zc)))) zc))))))))
   (zh gL)
   aa)
   (zg (zA (i:=4) ve.nd rfl (LQ rfl) (yC (zQ hr) (fD (ae T.cl_Files T.na_Files_births (clE (zb 0)))) (zb 1) (aP zc)))
   (zh (cW (zz ja (zz ja (eE pH (zb 4) d6 (ee (zb 2))) (aP (za (zb 3) zc))) (eE pH (zb 4) (ee (zz ja (zb 2) zj)) d6)) (dY (fD (ae T.cl_Files T.na_Files_births (clE (zb 0)))) (zb 1) (lE (zQ hr)))))))),?_⟩
  obtain ⟨dx,e1⟩:=hF.ob;simp_all only [e1,cJ,i8];refine ⟨p,b,k,t,ks,n,rfl,hF.r,λH1 s1=>?_⟩;have F1:=hF.same s1;obtain ⟨dx',e1'⟩:=F1.ob;obtain ⟨kvs,e2,d⟩:=F1.births.ex;simp_all only [];refine ⟨_,_,_,rfl,.int i,?_⟩;rw [yu i0 i1];simp_all only [e1',cJ];refine ⟨⟨_,.inl e2⟩,MM _,λp1 H2 n2=>⟨_,.inl (n2.same _ _ e2),?_⟩⟩;obtain ⟨a,ea,ha⟩:=cH.get d n n2.same n2.at_;rw [gu,ea];simp_all only [ha];intro p2 H3 s3 e3;refine ⟨by decide,λp3 H4 n4=>?_⟩;rw [wq i0 (by rw [KE];exact i1)] at e3;have big:∀n:Nat,n<=100000->n<=sizeLine:=λn h=>Mp h (by decide);refine .inr ⟨_,n4.same _ _ e3,_,n4.at_,big _ (by simp;lia),λp4 H5 s5 e5=>?_⟩;have ha5:=s5 _ _ (n4.same _ _ (s3 _ _ ha));refine .inr ⟨_,ha5,λp6 H6 s6 e6=>?_⟩;rw [AB (by lia) (by rw [KE];lia)] at e6;refine .inr ⟨_,s6 _ _ e5,_,e6,big _ (by simp;lia),λp7 H7 s7 e7=>?_⟩;have sB:zl H1 H7:=((((n2.same.trans s3).trans n4.same).trans s5).trans s6).trans s7;have F7:=F1.same sB;obtain ⟨dx7,e17⟩:=F7.ob;simp_all only [e17,cJ];refine ⟨_,sB _ _ e2,by rw [ow,d.length];exact MY t1 (by decide),?_⟩;rw [nL];have bt:∀xs,H7 b≠some (.tup xs):=λxs z=>by rw [sB _ _ e2] at z;cases z
  have et:(i+1).toNat=i.toNat+1:=by lia
  have d7:Dct (aJ H7) kvs t:=d.imp λv a r=>r.same sB;have r7:aJ H7 (.ref p7) ((lk t n).take i.toNat++[x]++(lk t n).drop (i.toNat+1)):=⟨p7,rfl,by rw [e7,et];simp [List.map_take,List.map_drop]⟩;refine q _ (λc o nc e=>by rw [ze nc];exact sB _ _ (s1 _ _ e)) (F7.setB But.upd zy ((d7.put n r7).imp λv a r=>r.but But.upd bt) (qu hF.births.nd))
def fE(t:Tab)(n:Str)(m:Int):Tab:=if m=0 then aH t n else bj t n ((lk t n).take m.toNat)
def yi(A:zi):Sp:=λvs H Q _=>∃(p b k:Addr)(t:Tab)(ks:List (Str×Tab))(n:Str)(l:List Int)(m:Int),vs=[.ref p,.str n,.int m]/\zM A H p b k t ks/\look t n=some l/\0<=m/\m<=l.length/\t.length<=1000/\∀H',But b H H'->zM A H' p b k (fE t n m) ks->Q .non H'
theorem EF:zw ["self","file","many"] ["self","file","many"] (zm qh):=fsc
theorem Hf(F:Fun K "cut" "Files.cut" qh f fd)(T:Txt w K mg A)(ZT:GM P w K mg base true 1 A.Files "refuse_if_none" ["self","file"] (xO A))(ZZ:GM P w K mg base true 1 A.Files "many" ["self","file"] (jA A))(ZX:GF P w K mg base true 2 "is_within" ["value","least","most"] jP):zo P w K mg base CX0 true 4 f fd ["self","file","many"] (yi A):=by
 refine F.ok EF (λvs H Q E h=>?_) (λZ1 Ar outer s H vs Q E hr h=>?_)
 .obtain ⟨p,b,k,t,ks,n,l,m,rfl,_⟩:=h;rfl
 .obtain ⟨p,b,k,t,ks,n,l,m,rfl,hF,hn,m0,m1,t1,q⟩:=h;have hu:_<cLine:=Mi (zQ hr);refine ⟨_,(W.h (zg (aq (mD (bU (clE (zb 0)) T.cl_Files ZT hr (clP (za (zb 1) zc)))))
   (zg (zR (cQ (aX (caD (zt ZX hr rfl (clP (za (zb 2) (za zj (za (mD (bU (clE (zb 0)) T.cl_Files ZZ hr (clP (za (zb 1) zc)))) zc))))))))
   (zh gL)
   aa)
   (zh (zR (tD (zL (clO (oE (bw hu))) (clE (zb 2)) (clE zj) (zF _)))
   (zh (Cy (fD (ae T.cl_Files T.na_Files_births (clE (zb 0)))) (zb 1)))
   (zh (cW (eE pH (zH (jN (zQ hr)) (fD (ae T.cl_Files T.na_Files_births (clE (zb 0)))) (zb 1) (λ_ _=>rfl)) d6 (ee (zb 2))) (dY (fD (ae T.cl_Files T.na_Files_births (clE (zb 0)))) (zb 1) (lE (zQ hr)))))))))),?_⟩
  obtain ⟨dx,e1⟩:=hF.ob;simp_all only [e1,cJ,yt,i8];refine ⟨p,b,k,t,ks,n,rfl,hF.r,by rw [hn];rfl,?_⟩;simp_all only [e1,cJ,yt,i8];refine ⟨p,b,k,t,ks,n,rfl,hF.r,λH1 s1=>?_⟩;have F1:=hF.same s1;obtain ⟨dx',e1'⟩:=F1.ob;obtain ⟨kvs,e2,d⟩:=F1.births.ex;have el:lk t n=l:=by unfold lk;rw [hn];rfl
  simp_all only [];refine ⟨_,_,_,rfl,.int m,?_⟩;rw [yu m0 (by rw [el];lia)];simp_all only [e1',cJ];have bt:∀xs,H1 b≠some (.tup xs):=λxs z=>by rw [e2] at z;cases z
  obtain ⟨v,l',d1,d2,a,ev,ha⟩:∃v l',look kvs n=some v/\look t n=some l'/\aJ H1 v l':=by
   rcases d.look n with ⟨v,l',d1,d2,r⟩|⟨_,d2⟩
   .exact ⟨v,l',d1,d2,r⟩
   .rw [hn] at d2;cases d2
  rw [hn] at d2;cases d2;subst ev;refine aj (λh=>?_) (λh=>?_)
  .have hm:m=0:=of_decide_eq_true h;refine ⟨_,e2,by rw [gu,d1];rfl,?_⟩;rw [Dm];have ec:fE t n m=aH t n:=if_pos hm;refine q _ (λc o nc e=>by rw [ze nc];exact s1 _ _ e) ?_;rw [ec];exact F1.setB But.upd zy ((d.drop n).imp λv a r=>r.but But.upd bt) (Bs hF.births.nd)
  .have hm : ¬ m=0:=λz=>h (decide_eq_true z);refine ⟨_,.inl e2,.ref a,by rw [gu];exact d1,?_⟩;simp_all only [ha];intro p2 H2 s2 ep;rw [wq m0 (by rw [KE];exact m1)] at ep;have F2:=F1.same s2;obtain ⟨XB,e12⟩:=F2.ob;simp_all only [e12,cJ];refine ⟨_,s2 _ _ e2,by rw [ow,d.length];exact MY t1 (by decide),?_⟩;rw [nL];have bt2:∀xs,H2 b≠some (.tup xs):=λxs z=>by rw [s2 _ _ e2] at z;cases z
   have d2:Dct (aJ H2) kvs t:=d.imp λv a r=>r.same s2;have r2:aJ H2 (.ref p2) ((lk t n).take m.toNat):=⟨p2,rfl,by rw [ep,el,List.map_take]⟩;have ec:fE t n m=bj t n ((lk t n).take m.toNat):=if_neg hm;refine q _ (λc o nc e=>by rw [ze nc];exact s2 _ _ (s1 _ _ e)) ?_;rw [ec];exact F2.setB But.upd zy ((d2.put n r2).imp λv a r=>r.but But.upd bt2) (qu hF.births.nd)
end
abbrev lS:Stmt:=ax (top 51) 6
abbrev n9:Stmt:=ax (top 51) 12
abbrev o9:Stmt:=ax (top 51) 13
section
variable {P:LV}{w:Mf}{K:Frag}{mg:Str->Option Value}{base:Heap}{A:zi}{b k:Addr}
structure Has(A:zi)(H:Hp)(p:Addr)(t:Tab):Prop where
 ob:∃b k dx,H p=some (.ins A.Files dx (aI b k))/\dc H b t
theorem zM.has{p:Addr}{t:Tab}(h:zM A H p b k t ks):Has A H p t:=let ⟨dx,e⟩:=h.ob;⟨b,k,dx,e,h.births.r⟩
def oz(A:zi):Sp:=λvs H Q _=>∃(p:Addr)(t:Tab),vs=[.ref p]/\Has A H p t/\∀q b' k' H',zl H H'->H b'=none->H k'=none->H q=none->cf A H' q b' k' t->Q (.ref q) H'
theorem uj:zw ["self","other"] ["self"] (zm n9):=fsc
theorem EW(F:Fun K "bare" "Files.bare" n9 f fd)(T:Txt w K mg A)(YT:GC P w K mg base true 1 "Files" A.Files ["self"] (oQ A)):zo P w K mg base CX0 true 3 f fd ["self"] (oz A):=by
 refine F.ok uj (λvs H Q E h=>?_) (λZ1 Ar outer s H vs Q E hr h=>?_)
 .obtain ⟨p,t,rfl,_⟩:=h;rfl
 .obtain ⟨p,t,rfl,⟨b,k,dx,e1,hB⟩,q⟩:=h;refine ⟨_,(W.h (zg (zA (i:=1) uj.nd rfl (LQ rfl) (tw YT hr rfl))
   (zg (sfD (aY T.cl_Files T.na_Files_births (clE (zb 1)) (clE (eW vP rfl T.n_dict boot_dict (za (fD (ae T.cl_Files T.na_Files_births (clE (zb 0)))) zc)))))
   (zh (zx (zb 1)))))),?_⟩
  obtain ⟨kvs,e2,d⟩:=hB.ex;simp_all only [e1,cJ];refine λx XB H2 nI=>⟨x,XB,rfl,nI.at_,λb1 k1 H3 s3 nb nk eb ek nbk ex=>⟨rfl,?_⟩⟩;have px:∀c o,H c=some o->c≠x:=λc o e z=>by have:=nI.no;rw [<- z,e] at this;cases this
  have s03:∀c o,H c=some o->H3 c=some o:=λc o e=>s3 c o (px c o e) (nI.same c o e);have e13:=s03 _ _ e1;simp_all only [e13,cJ];refine ⟨_,Rd.same e2 s03,λb2 H4 n4=>⟨XB,_,n4.same _ _ ex,by show 2<1000;decide,?_⟩⟩;have eF:zP ("births":Str) (V.ref b2) (aI b1 k1)=aI b2 k1:=by kernel_rfl
  rw [eF];have b2x:b2≠x:=λz=>by have:=n4.no;rw [z,ex] at this;cases this
  have k1x:k1≠x:=λz=>by rw [z,ex] at ek;cases ek
  have sF:zl H (upd H4 x (.ins A.Files XB (aI b2 k1))):=λc o e=>by rw [ze (px c o e)];exact n4.same _ _ (s03 c o e)
  have fr:∀c,H3 c=none->H c=none:=λc e=>by
   cases h:H c with
   | none=>rfl
   | some o=>rw [s03 c o h] at e;cases e
  have k0:H k1=none:=nI.same.free nk;refine q x b2 k1 _ sF (fr b2 n4.no) k0 nI.no ⟨⟨XB,zy⟩,⟨⟨kvs,.inl (by rw [ze b2x];exact n4.at_),d.imp λv a r=>r.same sF⟩,hB.nd⟩,.inl (by rw [ze k1x];exact n4.same _ _ ek)⟩
def xc(A:zi):Sp:=λvs H Q _=>∃(p b k:Addr)(t:Tab)(ks:List (Str×Tab))(n:Str)(q:Addr)(u:Tab),vs=[.ref p,.str n,.ref q]/\zM A H p b k t ks/\Has A H q u/\ks.length<=1000/\∀H',But k H H'->zM A H' p b k t (bj ks n u)->Q .non H'
theorem Do:zw ["self","name","files"] ["self","name","files"] (zm o9):=fsc
theorem FR(F:Fun K "keep" "Files.keep" o9 f fd)(T:Txt w K mg A)(ZP:GM P w K mg base true 3 A.Files "bare" ["self"] (oz A)):zo P w K mg base CX0 true 4 f fd ["self","name","files"] (xc A):=by
 refine F.ok Do (λvs H Q E h=>?_) (λZ1 Ar outer s H vs Q E hr h=>?_)
 .obtain ⟨p,b,k,t,ks,n,q,u,rfl,_⟩:=h;rfl
 .obtain ⟨p,b,k,t,ks,n,qa,u,rfl,hF,hQ,kl,q⟩:=h;refine ⟨_,(W.h (zh (cW (m0D (br (clE (zb 2)) T.cl_Files ZP hr)) (dY (fD (ae T.cl_Files T.na_Files_kept (clE (zb 0)))) (zb 1) (lE (zQ hr)))))),?_⟩;obtain ⟨dx,e1⟩:=hF.ob;obtain ⟨bq,kq,dxq,eq1,_⟩:=hQ.ob;simp_all only [eq1,yf];refine ⟨qa,u,rfl,hQ,λx b' k' H1 s1 nb nk nx hB=>?_⟩;have F1:=hF.same s1;obtain ⟨dx1,e11⟩:=F1.ob;obtain ⟨kk,e2,d⟩:=F1.kept;obtain ⟨kvb,eb,_⟩:=hF.births.ex;obtain ⟨kk0,ek,_⟩:=hF.kept;simp_all only [e11,mE];refine ⟨_,e2,by rw [ow,d.length];exact MY kl (by decide),?_⟩;rw [nL];have ne:∀c o,H c=some o->∀e,H e=none->e≠c:=λc o h e he z=>by rw [z,h] at he;cases he
  have r:cG A H1 b k (.ref x) u:=⟨x,b',k',rfl,hB,ne _ _ eb _ nb,ne _ _ ek _ nb,ne _ _ eb _ nk,ne _ _ ek _ nk⟩;exact q _ (λc o nc e=>by rw [ze nc];exact s1 _ _ e) (F1.setK But.upd zy ((d.put n r).imp λv a r=>r.but But.upd e2) (qu hF.ndk))
def xf(A:zi):Sp:=λvs H Q _=>∃(p b k:Addr)(t:Tab)(ks:List (Str×Tab))(n:Str),vs=[.ref p,.str n]/\zM A H p b k t ks/\look ks n=none/\ks.length<=1000/\∀H',But k H H'->zM A H' p b k t (bj ks n t)->Q .non H'
theorem Jy:zw ["self","name"] ["self","name"] (zm lS):=fsc
theorem Jc(F:Fun K "hold" "Files.hold" lS f fd)(T:Txt w K mg A)(Zh:GM P w K mg base true 4 A.Files "keep" ["self","name","files"] (xc A)):zo P w K mg base CX0 true 5 f fd ["self","name"] (xf A):=by
 refine F.ok Jy (λvs H Q E h=>?_) (λZ1 Ar outer s H vs Q E hr h=>?_)
 .obtain ⟨p,b,k,t,ks,n,rfl,_⟩:=h;rfl
 .obtain ⟨p,b,k,t,ks,n,rfl,hF,hn,kl,q⟩:=h;refine ⟨_,(W.h (zg (zR (tD (zL (clO (Jp (zQ hr))) (clE (zb 1)) (clE (fD (ae T.cl_Files T.na_Files_kept (clE (zb 0))))) rfl))
   (zh gL)
   aa)
   (zh (aq (mD (bU (clE (zb 0)) T.cl_Files Zh hr (clP (za (zb 1) (za (zb 0) zc))))))))),?_⟩
  obtain ⟨dx,e1⟩:=hF.ob;obtain ⟨kk,e2,d⟩:=hF.kept;simp_all only [e1,mE,AV];refine ⟨_,.inl e2,?_⟩;rw [gu,Dct.some_iff d n,hn];exact gG ⟨p,b,k,t,ks,n,p,t,rfl,hF,hF.has,kl,q⟩
end
abbrev pG:Stmt:=ax (top 51) 11
abbrev jY:Stmt:=ax (top 53) 0
abbrev lq:Stmt:=ax (top 53) 2
abbrev pX:Stmt:=ax (top 53) 1
abbrev qr:Stmt:=ax (top 53) 4
def bC(l:List (Int×α))(n:Int)(a:α):List (Int×α):=if n∈l.map (·.1) then l.map (λp=>if p.1=n then (p.1,a) else p) else l++[(n,a)]
theorem wo:((ik kvs).any λkv=>decide (kv.1=(.inl n:Key)))=true↔n∈kvs.map (·.1):=by
 unfold ik;rw [List.any_map,List.any_eq_true];constructor
 .rintro ⟨p,hp,h⟩;have h:(Sum.inl p.1:Key) = .inl n:=of_decide_eq_true h;cases h;exact NK.mpr ⟨p,hp,rfl⟩
 .intro h;obtain ⟨p,hp,rfl⟩:=NK.mp h;exact ⟨p,hp,by simp⟩
theorem vg:aG (ik kvs) (.inl n) v=ik (bC kvs n v):=by
 unfold aG bC;by_cases h:n∈kvs.map (·.1)
 .rw [if_pos (wo.mpr h),if_pos h];unfold ik;rw [MB,MB];refine Nq λp _=>?_;show (if (Sum.inl p.1:Key) = .inl n then _ else _)=_;by_cases e:p.1=n
  .rw [if_pos (by rw [e])];show _=(Sum.inl (if p.1=n then (p.1,v) else p).1,(if p.1=n then (p.1,v) else p).2);rw [if_pos e]
  .rw [if_neg (λz=>e (by cases z;rfl))];show _=(Sum.inl (if p.1=n then (p.1,v) else p).1,(if p.1=n then (p.1,v) else p).2);rw [if_neg e]
 .rw [if_neg (λz=>h (wo.mp z)),if_neg h];unfold ik;rw [Mq];rfl
theorem qk{n:Int}{v:V}:∀{kvs:List (Int×V)},(kvs.map (·.1)).Nodup->(n,v)∈kvs->zW (ik kvs) (.inl n)=some v
 | [],_,h=>by cases h
 | p::kvs,nd,h=>by
  have nd':=MU.mp nd;show zW ((Sum.inl p.1,p.2)::ik kvs) (.inl n)=_;rcases LI.mp h with e|h
  .rw [<- e];exact i4 rfl
  .have ne : ¬ (Sum.inl p.1:Key) = .inl n:=λz=>by
    cases z;exact nd'.1 (NK.mpr ⟨_,h,rfl⟩)
   rw [iI ne];exact qk nd'.2 h
theorem pe:(ik kvs).length=kvs.length:=by simp [ik]
abbrev T3:=Int×Int×Int
variable{ts:List T3}
def cK(H:Hp)(p:Int×V)(t:T3):Prop:=p.1=t.1/\∃a,p.2 = .ref a/\H a=some (.tup [.int t.2.1,.int t.2.2])
def dh(H:Hp)(a:Addr)(t:T3):Prop:=H a=some (.tup [.int t.1,.int t.2.1,.int t.2.2])
structure mR(ts:List T3):Prop where
 nd:(ts.map (·.1)).Nodup
 few:ts.length<40
 num:∀t∈ts,0<=t.1/\t.1<10 ^ 18
def cV(f d:Addr)(n m:Int):List (Str×V):=[("own_files",.ref f),("spot_of",.ref d),("next_row",.int n),("next_mark",.int m)]
structure bo(A:zi)(H:Hp)(x:Addr)(ts:List T3)(n:Int):Prop where
 ex:∃dx f d m kvs,H x=some (.ins A.State dx (cV f d n m))/\H d=some (.dK (ik kvs))/\Paired (cK H) kvs ts
 ok:mR ts
def Fw(A:zi)(H:Hp)(p:Addr):Prop:=∃b k dx t kvs,H p=some (.ins A.Files dx (aI b k))/\dc H b t/\H k=some (.dK kvs)
def Own(A:zi)(H:Hp)(x:Addr):Prop:=∃dx f d n m,H x=some (.ins A.State dx (cV f d n m))/\Fw A H f
theorem Fw.but{p:Addr}{u:HO}(h:Fw A H p)(s:But x H H')(hx:H x=some u)(h1:∀kvs,u≠.dK kvs)(h2:∀o kvs,u≠.frz o (.dK kvs))(h3:∀xs,u≠.tup xs)(n:p≠x):Fw A H' p:=by
 obtain ⟨b,k,dx',t,kvs,e,hB,e2⟩:=h;have ne:∀{o:HO},H x=some o->u=o:=λe=>Ms.inj (hx.symm.trans e);refine ⟨b,k,dx',t,kvs,s _ _ n e,hB.but s (λxs z=>h3 _ (ne z)) (λz=>?_),s _ _ (λz=>h1 _ (ne (z ▸ e2))) e2⟩;obtain ⟨kv,er,_⟩:=hB.ex;rw [z] at er;rcases er with er|⟨o,er⟩
 .exact h1 _ (ne er)
 .exact h2 _ _ (ne er)
theorem zM.fw{p k:Addr}{t:Tab}(h:zM A H p b k t ks):Fw A H p:=by
 obtain ⟨dx,e⟩:=h.ob;obtain ⟨kk,e2,_⟩:=h.kept;exact ⟨b,k,dx,t,_,e,h.births.r,e2⟩
theorem cK.keep{p:Int×V}{t:T3}(h:cK H p t)(k:∀r xs,H r=some (.tup xs)->H' r=some (.tup xs)):cK H' p t:=let ⟨e,a,e2,e3⟩:=h;⟨e,a,e2,k _ _ e3⟩
theorem bo.sameT(h:bo A H x ts n)(s:zD H H'):bo A H' x ts n:=by
 obtain ⟨dx,f,d,m,kvs,e1,e2,e3⟩:=h.ex;exact ⟨⟨dx,f,d,m,kvs,s _ _ (λ_=>nofun) e1,s _ _ (λ_=>nofun) e2,Paired.mapP e3 λp t r=>r.keep λr xs e=>s.tup e⟩,h.ok⟩
theorem kD(h:Paired (cK H) kvs ts):kvs.map (·.1)=ts.map (·.1):=by
 induction h with
 | nil=>rfl
 | cons r _ ih=>rw [MD,MD,ih,r.1]
section
variable {P:LV}{w:Mf}{K:Frag}{mg:Str->Option Value}{base:Heap}{A:zi}{b k f d:Addr}{n m:Int}
theorem sr:(aI b k).lookup ("copied":Str)=none:=by kernel_rfl
theorem tV:(cV f d n m).lookup ("spot_of":Str)=some (.ref d):=by kernel_rfl
theorem Gq:(cV f d n m).lookup ("own_files":Str)=some (.ref f):=by kernel_rfl
theorem CT:(cV f d n m).lookup ("next_row":Str)=some (.int n):=by kernel_rfl
theorem BX:(cV f d n m).lookup ("files":Str)=none:=by kernel_rfl
theorem lG:(cV f d n m).lookup ("next_number":Str)=none:=by kernel_rfl
theorem Ax:(cV f d n m).lookup ("spots":Str)=none:=by kernel_rfl
def nS(A:zi):Sp:=λvs H Q _=>∃p,vs=[.ref p]/\Fw A H p/\∀q H',zl H H'->H q=none->Fw A H' q->Q (.ref q) H'
theorem wK:zw ["self","other"] ["self"] (zm pG):=fsc
theorem KW(F:Fun K "copied" "Files.copied" pG f fd)(T:Txt w K mg A)(ZP:GM P w K mg base true 3 A.Files "bare" ["self"] (oz A)):zo P w K mg base CX0 true 4 f fd ["self"] (nS A):=by
 refine F.ok wK (λvs H Q E h=>?_) (λZ1 Ar outer s H vs Q E hr h=>?_)
 .obtain ⟨p,rfl,_⟩:=h;rfl
 .obtain ⟨p,rfl,⟨b,k,dx,t,kvs,e1,hB0,e2⟩,q⟩:=h;refine ⟨_,(W.h (zg (zA (i:=1) wK.nd rfl (LQ rfl) (m0D (br (clE (zb 0)) T.cl_Files ZP hr)))
   (zg (sfD (aY T.cl_Files T.na_Files_kept (clE (zb 1)) (clE (eW vP rfl T.n_dict boot_dict (za (fD (ae T.cl_Files T.na_Files_kept (clE (zb 0)))) zc)))))
   (zh (zx (zb 1)))))),?_⟩
  simp_all only [e1,yf];refine ⟨p,t,rfl,⟨b,k,dx,e1,hB0⟩,λx b' k' H1 s1 nb nk nx hB=>?_⟩;obtain ⟨dx1,ex1⟩:=hB.ob;have e1':=s1 _ _ e1;simp_all only [e1',mE];refine ⟨_,.inl (s1 _ _ e2),λkd H2 n2=>⟨dx1,_,n2.same _ _ ex1,by show 2<1000;decide,?_⟩⟩;have eF:zP ("kept":Str) (V.ref kd) (aI b' k')=aI b' kd:=by kernel_rfl
  rw [eF];have kx:kd≠x:=λz=>by have:=n2.no;rw [z,ex1] at this;cases this
  have bx:b'≠x:=λz=>by obtain ⟨kv,er,_⟩:=hB.births.ex;rw [z] at er;rcases er with e|⟨o,e⟩ <;> · rw [ex1] at e;cases e
  refine q x _ (λa o e=>by rw [ze (zC e nx)];exact n2.same _ _ (s1 _ _ e)) nx ⟨b',kd,dx1,t,kvs,zy,?_,by rw [ze kx];exact n2.at_⟩;exact (hB.same n2.same).births.but But.upd (λxs z=>by rw [n2.same _ _ ex1] at z;cases z) bx
structure DcI(H:Hp)(ts:List T3)(i:Nat)(τ:L2.St)(ys:List (Key×V))(H':Hp):Prop where
 ex:∃t1 t2 t3,τ=[t1,t2,t3]
 ys:∃kvs,ys=ik kvs/\Paired (cK H') kvs (ts.take i)
 same:zl H H'
def lY(A:zi):Sp:=λvs H Q _=>∃(x p sl dx:Addr)(n m:Int)(as:List Addr)(ts:List T3),vs=[.ref x,.ref p,.ref sl,.int n,.int m]/\H x=some (.ins A.State dx [])/\Fw A H p/\H sl=some (.lst (as.map V.ref))/\Paired (dh H) as ts/\mR ts /\
 ∀H',But x H H'->bo A H' x ts n->Own A H' x->Q .non H'
theorem Fp:zw ["self","files","spots","next_number","mark_number"] ["self","files","spots","next_number","mark_number"] (zm jY):=fsc
theorem Hk:aQ { kind:=.function,names:=[(vv ".0",.local),(vv "birth",.local),(vv "stretch",.local),(vv "place",.local)],isGenerator:=false,isCoroutine:=false,more:=[] } (zm jY).names ["self","files","spots","next_number","mark_number"] ["birth","stretch","place"] [none,none,none]=true:=by decide +kernel
theorem pJ:(["birth","stretch","place"]:List Str).Nodup:=by decide +kernel
theorem Dj(F:Fun K "__init__" "State.__init__" jY f fd)(T:Txt w K mg A)(ZU:GM P w K mg base true 4 A.Files "copied" ["self"] (nS A)):zo P w K mg base CX0 true 5 f fd ["self","files","spots","next_number","mark_number"] (lY A):=by
 refine F.ok Fp (λvs H Q E h=>?_) (λZ1 Ar outer s H vs Q E hr h=>?_)
 .obtain ⟨x,p,sl,dx,n,m,as,ts,rfl,_⟩:=h;rfl
 .obtain ⟨x,p,sl,dx,n,m,as,ts,rfl,hx,hF,hs,hp,ok,q⟩:=h;refine ⟨_,(W.h (zg (sfD (aY T.cl_State T.na_State_own_files (clE (zb 0)) (clE (m0D (br (clE (zb 1)) T.cl_Files ZU hr)))))
   (zg (sfD (aY T.cl_State T.na_State_spot_of (clE (zb 0)) (clE (Cn (λ_=>rfl) (ar.of Hk) (liD (bR (clE (zb 2)))) (λ_ _ _ _ _=>(fJ (n:=3) (gsD (zU (zB (i:=0) pJ rfl (LQ rfl)) (gsD (zU (zB (i:=1) pJ rfl (LQ rfl)) (gsD (zU (zB (i:=2) pJ rfl (LQ rfl)) bS)))))))) (λ_ _ _ _ _=>cN) (λ_ _ _ _ _=>(zb 0)) (λ_ _ _ _ _=>(aP (za (zb 1) (za (zb 2) zc))))))))
   (zg (sfD (aY T.cl_State T.na_State_next_row (clE (zb 0)) (clE (zb 3))))
   (zh (sfD (aY T.cl_State T.na_State_next_mark (clE (zb 0)) (clE (zb 4))))))))),?_⟩
  obtain ⟨b,k,dxf,t,kvs0,e1,_⟩:=id hF;simp_all only [e1,sr];refine ⟨p,rfl,hF,λqf H1 s1 nq F1=>⟨dx,[],s1 _ _ hx,by decide,?_⟩⟩;have tne:∀{o:HO}{r:Addr}{xs:List V},H1 r=some (.tup xs)->upd H1 x o r=some (.tup xs):=λ{o r xs} e=>by rw [ze (λz=>by rw [z,s1 _ _ hx] at e;cases e)];exact e
  have sx:sl≠x:=λz=>by rw [z,hx] at hs;cases hs
  have Yv:∀o,upd H1 x o sl=some (.lst (as.map V.ref)):=λo=>by rw [ze sx];exact s1 _ _ hs
  have Z5:=ay hp;refine ⟨⟨_,SqL.of (Yv _)⟩,j4.lst (xs:=as.map V.ref) (DcI (upd H1 x _) ts) (λi τ ys H' I=>?_) (λi τ ys H' I=>SqL.of (I.same _ _ (Yv _))) ⟨⟨_,_,_,rfl⟩,⟨[],rfl,.nil⟩,zl.refl _⟩ ?_ ?_⟩
  .obtain ⟨kvs,e,pr⟩:=I.ys;have:=ay pr;have h2:=Ni i ts;have:=ok.few;rw [e,pe];exact aF (by lia)
  .intro N i v τ ys H' hv I hN;obtain ⟨t1,t2,t3,rfl⟩:=I.ex;obtain ⟨kvs,e,pr⟩:=I.ys;rw [L6] at hv;obtain ⟨a,ha,rfl⟩:=Mh.mp hv;have hi:i<ts.length:=by rw [<- Z5];exact (LH.mp ha).1
   have YE:ts[i]?=some ts[i]:=il hi;have ht:=I.same _ _ (tne (o:=_) (s1 _ _ (bI hp ha YE)));refine ⟨a,_,rfl,SqT.of ht,rfl,?_⟩;simp_all only [];refine ⟨by decide,λa2 H2 n2=>hN _ _ _ ⟨⟨_,_,_,rfl⟩,⟨kvs++[(ts[i].1,.ref a2)],?_,?_⟩,I.same.trans n2.same⟩⟩
   .have nin:ts[i].1∉kvs.map (·.1):=by
     rw [kD pr];intro z;obtain ⟨u,hu,eu⟩:=NK.mp z;obtain ⟨j,hj,ej⟩:=MI hu;have hj':j<i:=by rw [Nj] at hj;lia
     rw [List.getElem_take] at ej;have hj2:j<(ts.map (·.1)).length:=by rw [KE];lia
     have:=(Pn hj2 ok.nd).mp (show (ts.map (·.1))[j]?=(ts.map (·.1))[i]? by rw [L6,L6,YE,il (show j<ts.length by lia),ej];show some u.1=some ts[i].1;rw [eu]);lia
    rw [e,vg];unfold bC;rw [if_neg nin]
   .rw [MH,YE];exact dC (Paired.mapP pr λp t r=>r.keep λr xs e=>n2.same _ _ e) (.cons ⟨rfl,a2,rfl,n2.at_⟩ .nil)
  .intro τ ys H3 I D H4 n4;obtain ⟨kvs,e,pr⟩:=I.ys;rw [KE,Z5,Mj (we _)] at pr;rw [e] at n4;have x4:=n4.same _ _ (I.same _ _ zy);refine ⟨dx,_,x4,by show 1<1000;decide,dx,_,zy,(MY (PB (show _=2 by kernel_rfl)) (by decide)),dx,_,zy,(MY (PB (show _=3 by kernel_rfl)) (by decide)),?_⟩;rw [dW,dW];have eF:zP ("next_mark":Str) (V.int m) (zP "next_row" (V.int n) (zP "spot_of" (V.ref D) (zP "own_files" (V.ref qf) [])))=cV qf D n m:=by kernel_rfl
   rw [eF];have Dx:D≠x:=λz=>by have:=n4.no;rw [z,I.same _ _ zy] at this;cases this
   have bt:But x H1 (upd H4 x (.ins A.State dx (cV qf D n m))):=λa o na ea=>by
    rw [ze na];exact n4.same _ _ (I.same _ _ (by rw [ze na];exact ea))
   refine q _ (λa o na ea=>bt _ _ na (s1 _ _ ea)) ⟨⟨dx,qf,D,m,kvs,zy,by rw [ze Dx];exact n4.at_,Paired.mapP pr λp t r=>r.keep λr xs e=>?_⟩,ok⟩ ⟨dx,qf,D,n,m,zy,F1.but bt (s1 _ _ hx) (λ_=>nofun) (λ_ _=>nofun) (λ_=>nofun) (λz=>by rw [z,hx] at nq;cases nq)⟩
   .rw [ze (λz=>by rw [z,I.same _ _ zy] at e;cases e)];exact n4.same _ _ e
def tH(A:zi):Sp:=λvs H Q _=>∃x,vs=[.ref x]/\Own A H x/\∀q H',zl H H'->Fw A H' q->Q (.ref q) H'
theorem Lr:zw ["self"] ["self"] (zm pX):=fsc
theorem Bp(F:Fun K "files" "State.files" pX f fd)(T:Txt w K mg A)(ZU:GM P w K mg base true 4 A.Files "copied" ["self"] (nS A)):zo P w K mg base CX0 true 5 f fd ["self"] (tH A):=by
 refine F.ok Lr (λvs H Q E h=>?_) (λZ1 Ar outer s H vs Q E hr h=>?_)
 .obtain ⟨x,rfl,_⟩:=h;rfl
 .obtain ⟨x,rfl,⟨dx,f1,d,n,m,e1,hF⟩,q⟩:=h;refine ⟨_,(W.h (zh (zx (m0D (br (clE (fD (ae T.cl_State T.na_State_own_files (clE (zb 0))))) T.cl_Files ZU hr))))),?_⟩;obtain ⟨b,k,dxf,t,kvs0,e2,_⟩:=id hF;simp_all only [e1,e2,Gq,sr];exact ⟨f1,rfl,hF,λq' H' s' _=>q q' H' s'⟩
def k8(A:zi):Sp:=λvs H Q _=>∃x ts n,vs=[.ref x]/\bo A H x ts n/\Q (.int n) H
theorem EU:zw ["self"] ["self"] (zm qr):=fsc
theorem Cb(F:Fun K "next_number" "State.next_number" qr f fd)(T:Txt w K mg A):zo P w K mg base CX0 cm 1 f fd ["self"] (k8 A):=by
 refine F.ok EU (λvs H Q E h=>?_) (λZ1 Ar outer s H vs Q E hr h=>?_)
 .obtain ⟨x,ts,n,rfl,_⟩:=h;rfl
 .obtain ⟨x,ts,n,rfl,hS,q⟩:=h;refine ⟨_,(W.h (zh (zx (fD (ae T.cl_State T.na_State_next_row (clE (zb 0))))))),?_⟩;obtain ⟨dx,f1,d,m,kvs,e1,_⟩:=hS.ex;simp_all only [e1,CT];exact q
end
abbrev i5:Stmt:=top 38
def fO(ts:List T3)(n:Int):T3:=(ts.find? λt=>decide (t.1=n)).getD (0,0,0)
theorem yl(nd:(ts.map (·.1)).Nodup){t:T3}(h:t∈ts):fO ts t.1=t:=by
 unfold fO
 induction ts with
 | nil=>cases h
 | cons u ts ih =>
  obtain ⟨n1,n2⟩:=MU.mp nd;rw [OA];rcases LI.mp h with rfl|h
  .rw [decide_eq_true rfl];rfl
  .have ne : ¬ u.1=t.1:=λz=>n1 (by show u.1∈_;rw [z];exact NK.mpr ⟨t,h,rfl⟩);rw [decide_eq_false ne];exact ih n2 h
theorem IK(nd:(ts.map (·.1)).Nodup):(ts.map (·.1)).map (fO ts)=ts:=by
 rw [MB];have:∀us:List T3,(∀u∈us,u∈ts)->us.map (fO ts∘(·.1))=us:=λus h=>by
  induction us with
  | nil=>rfl
  | cons u us ih=>rw [MD,ih λv hv=>h v (LO _ hv)];show fO ts u.1::us=_;rw [yl nd (h u (Mc ..))]
 exact this ts λ_ h=>h
def pk(ts:List T3)(k:Int):List (Int×Int):=(ts.filter λt=>decide (t.2.1=k)).map λt=>(t.2.2,t.1)
def jH(ts:List T3)(k:Int)(ns:List Int):Prop:=∃ps:List (Int×Int),ps.Perm (pk ts k)/\ps.Pairwise (λa b=>ltP b a=false)/\ns=ps.map (·.2)
theorem G9{Yc:List T3}{k:Int}(p:Yc.Perm ts)(h:jH Yc k ns):jH ts k ns:=by
 obtain ⟨ps,p1,s1,e⟩:=h;exact ⟨ps,p1.trans ((p.filter _).map _),s1,e⟩
theorem jI(ts:List T3)(k:Int):(pk ts k).length<=ts.length:=by unfold pk;rw [KE];exact OQ ..
theorem wX(ts:List T3)(k:Int)(t:T3):pk (ts++[t]) k=if t.2.1=k then pk ts k++[(t.2.2,t.1)] else pk ts k:=by
 unfold pk;rw [List.filter_append];by_cases h:t.2.1=k
 .rw [if_pos h,show [t].filter (λt=>decide (t.2.1=k))=[t] by simp [h],Mq];rfl
 .rw [if_neg h,show [t].filter (λt=>decide (t.2.1=k))=[] by simp [h],Nw]
section
variable {P:LV}{w:Mf}{K:Frag}{mg:Str->Option Value}{base:Heap}{A:zi}
def yy(A:zi):Sp:=λvs H Q _=>∃(x:Addr)(ts:List T3)(n:Int),vs=[.ref x]/\bo A H x ts n/\∀l as Yc H',zl H H'->H l=none->H' l=some (.lst (as.map V.ref))->Paired (dh H') as Yc->Yc.Perm ts->Q (.ref l) H'
structure SpI(H:Hp)(x:Addr)(ts:List T3)(ns:List Int)(i:Nat)(τ:L2.St)(ys:List V)(H':Hp):Prop where
 ex:∃t1,τ=[t1,some (.ref x)]
 ys:∃as:List Addr,ys=as.map V.ref/\Paired (dh H') as ((ns.take i).map (fO ts))
 same:zl H H'
theorem DJ:zw ["self"] ["self"] (zm lq):=fsc
theorem Im:aQ { kind:=.function,names:=[(vv ".0",.local),(vv "birth",.local),(vv "self",.free)],isGenerator:=false,isCoroutine:=false,more:=[] } (zm lq).names ["self"] ["birth","self"] [none,some 0]=true:=by decide +kernel
theorem EA:(["birth","self"]:List Str).Nodup:=by decide +kernel
theorem HX(F:Fun K "spots" "State.spots" lq f fd)(T:Txt w K mg A):zo P w K mg base CX0 true 1 f fd ["self"] (yy A):=by
 refine F.ok DJ (λvs H Q E h=>?_) (λZ1 Ar outer s H vs Q E hr h=>?_)
 .obtain ⟨x,ts,n,rfl,_⟩:=h;rfl
 .obtain ⟨x,ts,n,rfl,hS,q⟩:=h;refine ⟨_,(W.h (zh (zx (cy (λ_=>rfl) (ar.of Im) (bR (zK (wV rfl) rfl T.n_sorted PX (za (ae T.cl_State T.na_State_spot_of (zd 0)) zc))) (λ_ _ _ _ _=>(zB (i:=0) EA rfl (LQ rfl))) (λ_ _ _ _ _=>cN) (λ_ _ _ _ _=>(zz ja (aP (za (zd 0) zc)) (zH (jN (zQ hr)) (ae T.cl_State T.na_State_spot_of (zd 1)) (zd 0) (λ_ _=>rfl)))))))),?_⟩;obtain ⟨dx,f',d,m,kvs,e1,e2,e3⟩:=hS.ex;have ok:=hS.ok;have lk:=ay e3;have ky:=kD e3;simp_all only [e1,tV];refine ⟨kvs,.inl e2,by rw [lk];have:=ok.few;lia,λp ns H1 n1 pm _=>?_⟩;rw [ky] at pm;have hns:ns.length=ts.length:=by rw [pm.length_eq,KE]
  refine ⟨⟨_,SqL.of n1.at_⟩,zS.lst (xs:=ns.map V.int) (SpI H1 x ts ns) (λi τ ys H' I=>?_) (λi τ ys H' I=>SqL.of (I.same _ _ n1.at_)) ⟨⟨_,rfl⟩,⟨[],rfl,.nil⟩,zl.refl _⟩ ?_ ?_⟩
  .obtain ⟨as,e,pr⟩:=I.ys;have:=ay pr;rw [KE] at this;have h2:=Ni i ns;have:=ok.few;rw [e,KE];exact aF (by lia)
  .intro N i v τ ys H' hv I hN;obtain ⟨t1,rfl⟩:=I.ex;obtain ⟨as,e,pr⟩:=I.ys;rw [L6] at hv;obtain ⟨nb,hnb,rfl⟩:=Mh.mp hv;have e1':=I.same _ _ (n1.same _ _ e1);have e2':=I.same _ _ (n1.same _ _ e2);obtain ⟨t,ht,et⟩:=NK.mp (pm.mem_iff.mp (LX hnb));obtain ⟨j,hj,ej⟩:=MI ht;have hjk:j<kvs.length:=by rw [lk];exact hj
   obtain ⟨s1,a,s2,s3⟩:=bI e3 (il hjk) (il hj);rw [ej] at s1 s3;have WY:zW (ik kvs) (.inl nb)=some (.ref a):=by
    refine qk (by rw [ky];exact ok.nd) ?_;rw [<- et,<- s1,<- s2];exact MC hjk
   simp_all only [];refine ⟨by decide,λp1 H2 n2=>?_⟩;have e12:=n2.same _ _ e1';simp_all only [e12,tV];refine ⟨_,.inl (n2.same _ _ e2'),_,WY,?_⟩;simp_all only [];refine .inr ⟨_,n2.at_,_,n2.same _ _ (I.same _ _ (n1.same _ _ s3)),by show 3<=sizeLine;decide,λp2 H3 s3' e3'=>hN _ _ _ ⟨⟨_,rfl⟩,⟨as++[p2],by rw [e,Mq];rfl,?_⟩,I.same.trans (n2.same.trans s3')⟩⟩;rw [MH,hnb,Mq];refine dC (Paired.mapP pr λa t r=>s3' _ _ (n2.same _ _ r)) (.cons ?_ .nil);show H3 p2=_;rw [e3',<- et,yl ok.nd ht];rfl
  .intro τ ys H' I D H2 n2;obtain ⟨as,e,pr⟩:=I.ys;rw [KE,Mj (we _)] at pr;rw [e] at n2;refine q D as _ H2 ((n1.same.trans I.same).trans n2.same) ((n1.same.trans I.same).free n2.no) n2.at_ (Paired.mapP pr λa t r=>n2.same _ _ r) ?_;have:=pm.map (fO ts);rw [IK ok.nd] at this;exact this
structure FdI(H:Hp)(k:Int)(ts:List T3)(i:Nat)(τ:L2.St)(ys:List V)(H':Hp):Prop where
 ex:∃t1 t2 t3,τ=[t1,t2,t3,some (.int k)]
 ys:∃as:List Addr,ys=as.map V.ref/\Paired (fH H') as (pk (ts.take i) k)
 same:zl H H'
structure BtI(H:Hp)(ps:List (Int×Int))(i:Nat)(τ:L2.St)(ys:List V)(H':Hp):Prop where
 ex:∃t1 t2,τ=[t1,t2]
 ys:ys=((ps.take i).map (·.2)).map V.int
 same:H'=H
def vk(A:zi):Sp:=λvs H Q _=>∃(x:Addr)(ts:List T3)(k n:Int),vs=[.ref x,.int k]/\bo A H x ts n/\∀l ns H',zl H H'->H l=none->l≠sysModules->H' l=some (.lst (ns.map V.int))->jH ts k ns->Q (.ref l) H'
theorem qT:zw ["state","stretch","found"] ["state","stretch"] (zm i5):=fsc
theorem CF:aQ { kind:=.function,names:=[(vv ".0",.local),(vv "birth",.local),(vv "at",.local),(vv "place",.local),(vv "stretch",.free)],isGenerator:=false,isCoroutine:=false,more:=[] } (zm i5).names ["state","stretch","found"] ["birth","at","place","stretch"] [none,none,none,some 1]=true:=by decide +kernel
theorem ph:(["birth","at","place","stretch"]:List Str).Nodup:=by decide +kernel
theorem C6:aQ { kind:=.function,names:=[(vv ".0",.local),(vv "place",.local),(vv "birth",.local)],isGenerator:=false,isCoroutine:=false,more:=[] } (zm i5).names ["state","stretch","found"] ["place","birth"] [none,none]=true:=by decide +kernel
theorem qO:(["place","birth"]:List Str).Nodup:=by decide +kernel
theorem IJ(F:Fun K "living_in" "living_in" i5 f fd)(T:Txt w K mg A)(Zs:GM P w K mg base true 1 A.State "spots" ["self"] (yy A)):zo P w K mg base CX0 true 2 f fd ["state","stretch"] (vk A):=by
 refine F.ok qT (λvs H Q E h=>?_) (λZ1 Ar outer s H vs Q E hr h=>?_)
 .obtain ⟨x,ts,k,n,rfl,_⟩:=h;rfl
 .obtain ⟨x,ts,k,n,rfl,hS,q⟩:=h;have hu:_<cLine:=Mi (zQ hr);refine ⟨_,(W.h (zg (gQ (i0:=2) qT.nd rfl (LQ rfl) (λ_=>rfl) (ar.of CF) (bR (br (zd 0) T.cl_State Zs hr)) (λ_ _ _ _ _=>(fJ (n:=3) (zU (zB (i:=0) ph rfl (LQ rfl)) (zU (zB (i:=1) ph rfl (LQ rfl)) (zU (zB (i:=2) ph rfl (LQ rfl)) bS))))) (λ_ _ _ _ _=>(eZ (zL (bw hu) (zd 1) (zd 3) (zF _)))) (λ_ _ _ _ _=>(aP (za (zd 2) (za (zd 0) zc)))))
   (zh (zx (cy (λ_=>rfl) (ar.of C6) (bR (zK Bg rfl T.n_sorted PX (za (zd 2) zc))) (λ_ _ _ _ _=>(fJ (n:=2) (zU (zB (i:=0) qO rfl (LQ rfl)) (zU (zB (i:=1) qO rfl (LQ rfl)) bS)))) (λ_ _ _ _ _=>cN) (λ_ _ _ _ _=>(zd 1))))))),?_⟩
  obtain ⟨dx,f',d,m,kvs,e1,e2,e3⟩:=hS.ex;have ok:=hS.ok;simp_all only [e1,Ax];refine ⟨x,ts,n,rfl,hS,λl as Yc H1 s1 l0 hl hp pm=>?_⟩;have Z5:=ay hp;have hts:Yc.length<40:=by rw [pm.length_eq];exact ok.few
  simp_all only [];refine ⟨⟨_,SqL.of hl⟩,zS.lst (xs:=as.map V.ref) (FdI H1 k Yc) (λi τ ys H' I=>?_) (λi τ ys H' I=>SqL.of (I.same _ _ hl)) ⟨⟨_,_,_,rfl⟩,⟨[],rfl,.nil⟩,zl.refl _⟩ ?_ ?_⟩
  .obtain ⟨bs,e,pr⟩:=I.ys;have:=ay pr;have h2:=Ni i Yc;have:=jI (Yc.take i) k;rw [e,KE];exact aF (by lia)
  .intro N i v τ ys H' hv I hN;obtain ⟨t1,t2,t3,rfl⟩:=I.ex;obtain ⟨bs,e,pr⟩:=I.ys;rw [L6] at hv;obtain ⟨a,ha,rfl⟩:=Mh.mp hv;have hi:i<Yc.length:=by rw [<- Z5];exact (LH.mp ha).1
   have YE:Yc[i]?=some Yc[i]:=il hi;have ht:=I.same _ _ (bI hp ha YE);have sn:=wX (Yc.take i) k Yc[i];have tk:Yc.take (i+1)=Yc.take i++[Yc[i]]:=by rw [MH,YE];rfl
   refine ⟨a,_,rfl,SqT.of ht,rfl,?_⟩;generalize Yc[i]=t at ht sn tk;simp_all only [];by_cases hk:t.2.1=k
   .rw [decide_eq_true hk];simp_all only [];refine ⟨by decide,λp2 H2 n2=>hN _ _ _ ⟨⟨_,_,_,rfl⟩,⟨bs++[p2],by rw [e,Mq];rfl,?_⟩,I.same.trans n2.same⟩⟩;rw [tk,sn,if_pos hk];exact dC (Paired.mapP pr λa t r=>n2.same _ _ r) (.cons n2.at_ .nil)
   .rw [decide_eq_false hk];simp_all only [];refine hN _ _ _ ⟨⟨_,_,_,rfl⟩,⟨bs,e,?_⟩,I.same⟩;rw [tk,sn,if_neg hk];exact pr
  .intro τ ys H2 I D H3 n3;obtain ⟨bs,e,pr⟩:=I.ys;rw [KE,Z5,Mj (we _)] at pr;rw [e] at n3;have lb:=ay pr;have sI:=I.same;have:=jI Yc k;simp_all only [];refine ⟨bs,n3.at_,_,Paired.mapP pr λa t r=>n3.same _ _ r,by lia,λD2 as2 ps2 H4 n4 _ p4 pm4 so4=>?_⟩
   try simp_all only []
   have l4:=ay p4;have l5:=pm4.length_eq;refine ⟨⟨_,SqL.of n4.at_⟩,zS.lstS (xs:=as2.map V.ref) (BtI H4 ps2) (λi τ ys H' I=>?_) (λi τ ys H' I=>by rw [I.same];exact SqL.of n4.at_) ⟨⟨_,_,rfl⟩,rfl,rfl⟩ ?_ ?_⟩
   .have h2:=Ni i ps2;rw [I.ys,KE,KE];exact aF (by lia)
   .intro N i v τ ys H' hv I hN;obtain ⟨t1,t2,rfl⟩:=I.ex;rw [L6] at hv;obtain ⟨a,ha,rfl⟩:=Mh.mp hv;have hi:i<ps2.length:=by rw [<- l4];exact (LH.mp ha).1
    have YE:ps2[i]?=some ps2[i]:=il hi;have e:=I.same;subst e;have ht:=n4.same _ _ (bI p4 ha YE);refine ⟨a,_,rfl,SqT.of ht,rfl,?_⟩;simp_all only [];refine hN _ _ _ ⟨⟨_,_,rfl⟩,?_,rfl⟩;rw [I.ys,MH,YE,Mq,Mq];rfl
   .intro τ ys H5 I D5 H6 n6 ns6;have e:=I.same;subst e;have hy:=I.ys;rw [KE,l4,Mj (we _)] at hy;rw [hy] at n6;exact q D5 _ H6 ((((s1.trans sI).trans n3.same).trans n4.same).trans n6.same) (((((s1.trans sI).trans n3.same).trans n4.same)).free n6.no) ns6 n6.at_ (G9 pm ⟨ps2,pm4,so4,rfl⟩)
end
abbrev mY:Stmt:=top 66
def aO(a:Addr)(H H':Hp):Prop:=∀b o,b≠a->(∀ps,o≠.tbl ps)->H b=some o->H' b=some o
theorem aO.of(s:zD H H'):aO a H H':=λb o _ n e=>s b o n e
theorem aO.but(s:But a H H'):aO a H H':=λb o n _ e=>s b o n e
theorem aO.trans(x:aO a H H1)(y:aO a H1 H2):aO a H H2:=λb o n m e=>y b o n m (x b o n m e)
theorem Gk{l:List (Int×α)}{a:α}:(bC l n a).map (·.1)=if n∈l.map (·.1) then l.map (·.1) else l.map (·.1)++[n]:=by
 unfold bC;split
 .rw [MB];refine Nq λp _=>?_;show (if p.1=n then (p.1,a) else p).1=p.1;split<;>rfl
 .rw [Mq];rfl
theorem Jt{l:List (Int×α)}{a:α}(h:(l.map (·.1)).Nodup):((bC l n a).map (·.1)).Nodup:=by
 rw [Gk];split
 .exact h
 .rename_i hn;rw [Oi];exact ⟨h,by simp,λx hx y hy e=>by rw [LU] at hy;exact hn (by rw [<- hy,<- e];exact hx)⟩
theorem Ao{l:List (Int×α)}{a:α}:(bC l n a).length<=l.length+1:=by
 unfold bC;split<;>simp
theorem uO{l:List (Int×α)}{a:α}{p:Int×α}(h:p∈bC l n a):p∈l\/p=(n,a):=by
 unfold bC at h;split at h
 .obtain ⟨q,hq,e⟩:=NK.mp h;by_cases c:q.1=n
  .rw [if_pos c] at e;right;rw [<- e,c]
  .rw [if_neg c] at e;left;rw [<- e];exact hq
 .rcases My.mp h with h|h
  .exact .inl h
  .exact .inr (by simpa using h)
theorem Ap{us:List T3}(h:Paired (cK H) kvs us){st:Int×Int}(r:cK H (n,v) (n,st)):Paired (cK H) (bC kvs n v) (bC us n st):=by
 have ky:=kD h;unfold bC;rw [ky];split
 .rename_i XR;clear ky XR
  induction h with
  | nil=>exact .nil
  | @cons p t l m hp _ ih =>
   rw [MD,MD];refine .cons ?_ ih;rw [hp.1];by_cases c:t.1=n
   .rw [if_pos c,if_pos c];exact ⟨rfl,r.2⟩
   .rw [if_neg c,if_neg c];exact hp
 .exact dC h (.cons r .nil)
section
variable {P:LV}{w:Mf}{K:Frag}{mg:Str->Option Value}{base:Heap}{A:zi}
theorem y7{l:List (Int×β)}{a:β}(h1:(l.map (·.1)).Nodup)(h2:(l.map (·.2)).Nodup)(h:a∉l.map (·.2)):((bC l n a).map (·.2)).Nodup:=by
 have h1:=Nf.mp h1;have h2:=Nf.mp h2;have h:∀x∈l,a≠x.2:=λx hx z=>h (NK.mpr ⟨x,hx,z.symm⟩);unfold bC;split
 .rw [MB];refine Nf.mpr ((h1.and h2).imp_of_mem λ{x y} hx hy z=>?_);show (if x.1=n then (x.1,a) else x).2≠(if y.1=n then (y.1,a) else y).2;by_cases ex:x.1=n<;>by_cases ey:y.1=n
  .exact absurd (ex.trans ey.symm) z.1
  .rw [if_pos ex,if_neg ey];exact h y hy
  .rw [if_neg ex,if_pos ey];exact (h x hx).symm
  .rw [if_neg ex,if_neg ey];exact z.2
 .rw [Mq];refine List.pairwise_append.mpr ⟨Nf.mpr h2,OF ..,λx hx y hy=>?_⟩;obtain ⟨u,hu,rfl⟩:=NK.mp hx;rw [List.map_singleton,LU] at hy;rw [hy];exact (h u hu).symm
def p2(s:Tri):Int×Int:=(s.2.1,s.2.2)
theorem FV(d:DM):((nU d).map p2).Nodup:=by
 rw [cE];refine Nf.mpr ((ml (rs:=rdR d.rows) (rdR d.rows).length).imp_of_mem (R:=(·≠·)) λ{x y} hx hy z e=>z ?_);have hx:=(bV.mp hx).2.2;have hy:=(bV.mp hy).2.2;have e1:x.2.1=y.2.1:=by have:=congrArg Prod.fst e;exact Int.ofNat.inj this
 have e2:x.2.2=y.2.2:=by have:=congrArg Prod.snd e;exact Int.ofNat.inj this
 rw [e1,e2,hy] at hx;exact Prod.ext (Ms.inj hx).symm (Prod.ext e1 e2)
structure SpM(d:DM)(ts:List T3):Prop where
 nd:(ts.map (·.2)).Nodup
 at_:∀t∈ts,∃s∈nU d,t.2=p2 s
structure BiI(A:zi)(H2:Hp)(a sh dd:Addr)(ts:List Tri)(i:Nat)(σ:L2.St)(H':Hp):Prop where
 ex:∃t1 t2 t3,σ=[some (V.ref a),some (.ref sh),some (.ref dd),t1,t2,t3]
 dic:∃kvs us,H' dd=some (.dK (ik kvs))/\Paired (cK H') kvs us/\(us.map (·.1)).Nodup/\us.length<=i/\(∀t∈us,0<=t.1/\t.1<10 ^ 18)/\(us.map (·.2)).Nodup/\∀t∈us,∃s∈ts.take i,t.2=p2 s
 keep:∀b o,b≠a->b≠dd->H2 b=some o->H' b=some o
 pot:Pot H' a
def qS(A:zi):Sp:=λvs H Q _=>∃(a p wl sl sh:Addr)(cells shc:List Addr)(m:Int)(d:DM),vs=[.ref a,.ref sh]/\DW A H p wl sl sh cells shc m d/\Pot H a /\
 ∀dd kvs ts H',aO a H H'->TB A H'->Pot H' a->H dd=none->H' dd=some (.dK (ik kvs))->Paired (cK H') kvs ts->mR ts->SpM d ts->Q (.ref dd) H'
theorem iN:zw ["_law_pot_here","_law_shelf","_law_found","_law_row_here","_law_stretch","_law_place"] ["_law_pot_here","_law_shelf"] (zm mY):=fsc
theorem Ai(F:Fun K "_law_births" "_law_births" mY f fd)(T:Txt w K mg A)(Z9:GF P w K mg base true 1 "_law_draw" ["_law_pot_here","_law_many"] cL)(ZV:GF P w K mg base true 1 "_law_rows" ["_law_shelf"] (iO A)):zo P w K mg base CX0 true 2 f fd ["_law_pot_here","_law_shelf"] (qS A):=by
 refine F.ok iN (λvs H Q E h=>?_) (λZ1 Ar outer s H vs Q E hr h=>?_)
 .obtain ⟨a,p,wl,sl,sh,cells,shc,m,d,rfl,_⟩:=h;rfl
 .obtain ⟨a,p,wl,sl,sh,cells,shc,m,d,rfl,Ww,hP,q⟩:=h;have hu:_<cLine:=Mi (zQ hr);refine ⟨_,(W.h (zg (zA (i:=2) iN.nd rfl (LQ rfl) ot)
   (zg (cb Nb.never (λ_=>rfl) (bR (zt ZV hr rfl (za (zd 1) zc))) (eK (n:=3) (zU (zB (i:=3) iN.nd rfl (LQ rfl)) (zU (zB (i:=4) iN.nd rfl (LQ rfl)) (zU (zB (i:=5) iN.nd rfl (LQ rfl)) bS))))
   (zh (zR (di (hV (zL (oO hu) (zH zZ (zd 3) zj (λ_ _=>rfl)) (aP (za zI (za zI zc))) rfl) (gS (zL kR (zt Z9 hr rfl (za (zd 0) (za zj zc))) zj (zF _)))))
   (zh (cW (aP (za (zd 4) (za (zd 5) zc))) (dY (zd 2) (zH zZ (zd 3) (zz aS zj (eW yH rfl T.n_int boot_int (za (dI (bw hu) (zH zZ (zd 3) zj (λ_ _=>rfl)) zI (zF _)) zc))) (λ_ _=>rfl)) (lE (zQ hr)))))
   aa)))
   (zh (zx (zd 2)))))),?_⟩
  have ok:=Ww.ok;have WV:=ok.sh;simp_all only [];refine λdd H1 n1=>?_;have W1:=Ww.same n1.same;refine ⟨sh,shc,_,rfl,W1.shelf,WV.len,WV.wide,WV.keys,WV.nd,WV.few,W1.tb,λl2 as2 H2 s2 tb2 f2 ns2 e2 ht2=>?_⟩;rw [<- cE] at ht2;have Z5:=ay ht2;have h30:(aV (nU d)).length<=30:=by rw [(dA _).length_eq];exact ok.few
  have XJ:∀t∈aV (nU d),bz t.1:=λt ht=>ok.row t ((dA _).mem_iff.mp ht);have hpd:((aV (nU d)).map p2).Nodup:=((dA _).map _).nodup_iff.mpr (FV d);have Yw:∀s∈aV (nU d),s∈nU d:=λs hs=>(dA _).mem_iff.mp hs;generalize aV (nU d)=ts at Z5 h30 XJ ht2 hpd Yw;have P2:Pot H2 a:=by obtain ⟨x,y,e,r⟩:=(hP.same n1.same).ex;exact ⟨⟨x,y,s2.list e,r⟩⟩
  have Xj:H2 dd=some (.dK (ik [])):=s2 _ _ (λ_=>nofun) n1.at_;have da:dd≠a:=hP.ne n1.no;have la:l2≠a:=(hP.same n1.same).ne f2;have ld:l2≠dd:=λz=>by rw [z,n1.at_] at f2;cases f2
  try simp_all only []
  refine ⟨⟨_,SqL.of e2⟩,aB.lst (xs:=as2.map V.ref) (BiI A H2 a sh dd ts) ⟨⟨_,_,_,rfl⟩,⟨[],[],Xj,.nil,by simp,by simp,by simp,by simp,by simp⟩,λ_ _ _ _ e=>e,P2⟩ (λi σ H' _ I=>SqL.of (I.keep _ _ la ld e2)) ?_ ?_⟩
  .rintro i x σ H3 hx ⟨⟨t1,t2,t3,rfl⟩,⟨kvs,us,hd,pr,nd,ul,un,np,ua⟩,kp,Xt⟩;rw [L6] at hx;obtain ⟨b,hb,rfl⟩:=Mh.mp hx;have hi:i<ts.length:=by rw [<- Z5];exact (LH.mp hb).1
   have YE:ts[i]?=some ts[i]:=il hi;have tup3:∀{r:Addr}{xs:List V},H2 r=some (.tup xs)->H3 r=some (.tup xs):=λ{r xs} e=>kp _ _ (λz=>by obtain ⟨x,y,ea,_⟩:=P2.ex;rw [z,ea] at e;cases e) (λz=>by rw [z,Xj] at e;cases e) e;obtain ⟨r,g1,g2⟩:=bI ht2 hb YE;have g1:=tup3 g1;have g2:=tup3 g2;have ro:=XJ _ (MC hi);refine ⟨b,_,rfl,SqT.of g1,rfl,?_⟩;have tk:∀s∈ts.take i,s∈ts.take (i+1):=λs hs=>by rw [MH];exact MR _ hs
   have XR:∃s∈ts.take (i+1),(((ts[i].2.1:Nat):Int),((ts[i].2.2:Nat):Int))=p2 s:=⟨ts[i],by rw [MH,YE];exact Mb _ (LU.mpr rfl),rfl⟩;have hnw:(((ts[i].2.1:Nat):Int),((ts[i].2.2:Nat):Int))∉us.map (·.2):=λz=>by
    obtain ⟨u,hu,eu⟩:=NK.mp z;obtain ⟨s,hs,es⟩:=ua u hu;obtain ⟨j,hj,ej⟩:=MI hs;have hj':j<i:=by rw [Nj] at hj;lia
    rw [List.getElem_take] at ej;have hj2:j<(ts.map p2).length:=by rw [KE];lia
    have e2:p2 s=p2 ts[i]:=es.symm.trans eu;have:=(Pn hj2 hpd).mp (show (ts.map p2)[j]?=(ts.map p2)[i]? by rw [L6,L6,YE,il (show j<ts.length by lia),ej];show some (p2 s)=some (p2 ts[i]);rw [e2]);lia
   have nxt:∀H4,(∀b o,b≠a->b≠dd->H3 b=some o->H4 b=some o)->Pot H4 a->H4 dd=H3 dd->∀t1 t2 t3,BiI A H2 a sh dd ts (i+1) [some (V.ref a),some (.ref sh),some (.ref dd),t1,t2,t3] H4:=λH4 k4 p4 e4 t1 t2 t3=>by
    refine ⟨⟨_,_,_,rfl⟩,⟨kvs,us,by rw [e4];exact hd,Paired.mapP pr λp t r=>r.keep λr xs e=>k4 _ _ (λz=>by obtain ⟨x,y,ea,_⟩:=Xt.ex;rw [z,ea] at e;cases e) (λz=>by rw [z,hd] at e;cases e) e,nd,by lia,un,np,λt ht=>let ⟨s,hs,e⟩:=ua t ht;⟨s,tk s hs,e⟩⟩,λb o n1 n2 e=>k4 _ _ n1 n2 (kp _ _ n1 n2 e),p4⟩
   generalize ts[i].1=row at g2 ro;generalize ts[i].2.1=kk at g1 XR hnw;generalize ts[i].2.2=jj at g1 XR hnw;have YG:∀(nb:Int)(p6:Addr)(H6:Hp),0<=nb->nb<10 ^ 18->(∀b o,b≠a->H3 b=some o->H6 b=some o)->Pot H6 a->H6 p6=some (.tup [.int kk,.int jj])->∀t1 t2 t3,ir (.ref dd) (.int nb) (.ref p6) H6 λH7=>BiI A H2 a sh dd ts (i+1) [some (V.ref a),some (.ref sh),some (.ref dd),t1,t2,t3] H7:=λnb p6 H6 b0 b1 k6 hP6 e6 t1 t2 t3=>by
    have hd6:=k6 _ _ da hd;have lk:=ay pr;have hp6:p6≠dd:=λz=>by rw [z,hd6] at e6;cases e6
    rw [xX];refine .inr ⟨_,hd6,by rw [pe];exact aF (by lia),?_⟩;rw [vg];have up:∀{r:Addr}{xs:List V}{o:HO},H6 r=some (.tup xs)->upd H6 dd o r=some (.tup xs):=λ{r xs o} e=>by rw [ze (λz=>by rw [z,hd6] at e;cases e)];exact e
    have pr6:Paired (cK H6) kvs us:=Paired.mapP pr λp t r=>r.keep λr xs e=>k6 _ _ (λz=>by obtain ⟨x,y,ea,_⟩:=Xt.ex;rw [z,ea] at e;cases e) e;refine ⟨⟨_,_,_,rfl⟩,⟨bC kvs nb (.ref p6),bC us nb ((kk:Int),(jj:Int)),zy,Paired.mapP (Ap pr6 (st:=((kk:Int),(jj:Int))) ⟨rfl,p6,rfl,e6⟩) λp t r=>r.keep λr xs e=>up e,Jt nd,?_,λt ht=>?_,y7 nd np hnw,λt ht=>?_⟩,λb o n1 n2 e=>by rw [ze n2];exact k6 _ _ n1 (kp _ _ n1 n2 e),?_⟩
    .have:=Ao (l:=us) (n:=nb) (a:=((kk:Int),(jj:Int)));lia
    .rcases uO ht with ht|rfl
     .exact un t ht
     .exact ⟨b0,b1⟩
    .rcases uO ht with ht|rfl
     .obtain ⟨s,hs,e⟩:=ua t ht;exact ⟨s,tk s hs,e⟩
     .exact XR
    .obtain ⟨x,y,e,rr⟩:=hP6.ex;exact ⟨⟨x,y,by rw [ze (L8 da)];exact e,rr⟩⟩
   have skip:∀{H4:Hp}{o:HO}{p1:Addr},New H3 p1 o H4->∀t1 t2 t3,BiI A H2 a sh dd ts (i+1) [some (V.ref a),some (.ref sh),some (.ref dd),t1,t2,t3] H4:=λ{H4 o p1} n4 t1 t2 t3=>nxt H4 (λb o _ _ e=>n4.same _ _ e) (Xt.same n4.same) ((n4.same _ _ hd).trans hd.symm) t1 t2 t3;have rne:∀{xs:List V},H3 r=some (.tup xs)->r≠a:=λ{xs} e z=>by obtain ⟨x,y,ea,_⟩:=Xt.ex;rw [z,ea] at e;cases e
   cases ro with
   | put n g b nm pl wd h1 h2 h3 h4 h5 =>
    have i0:atI [V.str "put",.int n,.int g,.bl b,.str nm,.int pl,.str wd] 0=some (V.str "put"):=rfl;have i1:atI [V.str "put",.int n,.int g,.bl b,.str nm,.int pl,.str wd] (1+0)=some (V.int n):=rfl;have ne:decide (("put":Str)="carry")=false:=by decide +kernel
    simp_all only [g2,i0];refine ⟨by decide,λp1 H4 n4=>⟨_,.inr n4.at_,rfl,rfl,?_⟩⟩;rw [if_pos (f!"")];refine ⟨a,3,rfl,Xt.same n4.same,by decide,by decide,λr' H5 b5 Xs r0 r1=>?_⟩;simp_all only [];refine aj (λh=>⟨by decide,λp6 H6 n6=>?_⟩) (λh=>nxt H5 (λb o n1 _ e=>b5 _ _ n1 (n4.same _ _ e)) Xs ((b5 _ _ da (n4.same _ _ hd)).trans hd.symm) _ _ _);have g6:=n6.same _ _ (b5 _ _ (rne g2) (n4.same _ _ g2));refine ⟨_,.inr g6,_,i0,?_⟩;simp only [kB,ne,o8,fe,gE];refine ⟨_,.inr g6,_,i1,YG n p6 H6 h1.1 h1.2 (λb o n1 e=>n6.same _ _ (b5 _ _ n1 (n4.same _ _ e))) (Xs.same n6.same) n6.at_ _ _ _⟩
   | carry n g wd h1 h2 h3 =>
    have i0:atI [V.str "carry",.int n,.int g,.str wd] 0=some (V.str "carry"):=rfl;have i1:atI [V.str "carry",.int n,.int g,.str wd] (1+1)=some (V.int g):=rfl;have ne:decide (("carry":Str)="carry")=true:=by decide +kernel
    simp_all only [g2,i0];refine ⟨by decide,λp1 H4 n4=>⟨_,.inr n4.at_,rfl,rfl,?_⟩⟩;rw [if_pos (f!"")];refine ⟨a,3,rfl,Xt.same n4.same,by decide,by decide,λr' H5 b5 Xs r0 r1=>?_⟩;simp_all only [];refine aj (λh=>⟨by decide,λp6 H6 n6=>?_⟩) (λh=>nxt H5 (λb o n1 _ e=>b5 _ _ n1 (n4.same _ _ e)) Xs ((b5 _ _ da (n4.same _ _ hd)).trans hd.symm) _ _ _);have g6:=n6.same _ _ (b5 _ _ (rne g2) (n4.same _ _ g2));refine ⟨_,.inr g6,_,i0,?_⟩;simp only [kB,ne,o8,fe,gE];refine ⟨_,.inr g6,_,i1,YG g p6 H6 h2.1 h2.2 (λb o n1 e=>n6.same _ _ (b5 _ _ n1 (n4.same _ _ e))) (Xs.same n6.same) n6.at_ _ _ _⟩
   | cut n nm pl h1 h2 h3 =>
    have i0:atI [V.str "cut",.int n,.str nm,.int pl] 0=some (V.str "cut"):=rfl;simp_all only [g2,i0];refine ⟨by decide,λp1 H4 n4=>⟨_,.inr n4.at_,rfl,rfl,?_⟩⟩;rw [if_neg (f!"")];exact skip n4 _ _ _
   | hold n nm h1 h2 =>
    have i0:atI [V.str "hold",.int n,.str nm] 0=some (V.str "hold"):=rfl;simp_all only [g2,i0];refine ⟨by decide,λp1 H4 n4=>⟨_,.inr n4.at_,rfl,rfl,?_⟩⟩;rw [if_neg (f!"")];exact skip n4 _ _ _
   | free n nm h1 h2 =>
    have i0:atI [V.str "free",.int n,.str nm] 0=some (V.str "free"):=rfl;simp_all only [g2,i0];refine ⟨by decide,λp1 H4 n4=>⟨_,.inr n4.at_,rfl,rfl,?_⟩⟩;rw [if_neg (f!"")];exact skip n4 _ _ _
  .rintro σ H3 ⟨⟨t1,t2,t3,rfl⟩,⟨kvs,us,hd,pr,nd,ul,un,np,ua⟩,kp,Xt⟩;simp_all only [];rw [KE] at ul;have tb3:TB A H3:=tb2.keep (F:=[a,dd]) (λb o e n=>kp b o (λz=>n (by simp [z])) (λz=>n (by simp [z])) e) λx hx o e=>by
    rcases LI.mp hx with rfl|hx
    .obtain ⟨x',y',ea,_⟩:=P2.ex;rw [ea] at e;cases e;exact ⟨λ_=>nofun,λ_=>nofun⟩
    .rw [LU] at hx;subst hx;rw [Xj] at e;cases e;exact ⟨λ_=>nofun,λ_=>nofun⟩
   refine q dd kvs us H3 (λb o nb no e=>?_) tb3 Xt n1.no hd pr ⟨nd,by lia,un⟩ ⟨np,λt ht=>let ⟨s,hs,e⟩:=ua t ht;⟨s,Yw s (Pd hs),e⟩⟩;exact kp b o nb (λz=>by rw [z,n1.no] at e;cases e) (s2 _ _ no (n1.same _ _ e))
end
abbrev qj:Stmt:=top 67
theorem HL(a b:Str):leS a b\/leS b a:=by
 unfold leS;rw [ltCps_eq,ltCps_eq];by_cases h:NL.blt b.cps.toList a.cps.toList=true
 .exact .inr (KeyOrd.klt_asymm (O:=NL.toKeyOrd) h)
 .exact .inl (by simpa using h)
theorem Hu{a b c:Str}(h1:leS a b)(h2:leS b c):leS a c:=by
 unfold leS at *
 rw [ltCps_eq] at *
 exact KeyOrd.kle_trans (O:=NL.toKeyOrd) h1 h2
theorem yg(x:Str):∀l:List Str,l.Pairwise leS->∃m:List Str,m.Perm (x::l)/\m.Pairwise leS
 | [],_=>⟨[x],OG.refl _,by simp⟩
 | y::l,h=>by
  rcases HL x y with hx|hx
  .refine ⟨x::y::l,OG.refl _,MS.mpr ⟨λz hz=>?_,h⟩⟩;rcases LI.mp hz with rfl|hz
   .exact hx
   .exact Hu hx ((MS.mp h).1 z hz)
  .obtain ⟨m,p,hm⟩:=yg x l (MS.mp h).2;refine ⟨y::m,(OG.cons y p).trans (OG.swap x y l),MS.mpr ⟨λz hz=>?_,hm⟩⟩;rcases LI.mp (p.mem_iff.mp hz) with rfl|hz
   .exact hx
   .exact (MS.mp h).1 z hz
theorem rW:∀ks:List Str,∃ss:List Str,ss.Perm ks/\ss.Pairwise leS
 | []=>⟨[],OG.refl _,.nil⟩
 | x::ks=>by
  obtain ⟨ss,p,h⟩:=rW ks;obtain ⟨m,p2,h2⟩:=yg x ss h;exact ⟨m,p2.trans (OG.cons x p),h2⟩
theorem Lf(ks:List Str):(cS ks).Perm ks/\(cS ks).Pairwise leS:=by
 obtain ⟨ss,p,h⟩:=rW ks;have e:=ud p (sortedS_of_pairwise ss h);rw [<- e];exact ⟨p,h⟩
theorem wj{t:List (Str×α)}{n:Str}{a:α}:(bj t n a).length<=t.length+1:=by
 unfold bj;split<;>simp
section
variable {A:zi}{H H':Hp}{a p b k:Addr}{xs:List V}{t:Tab}{ks:List (Str×Tab)}
theorem Rd.lst{kvs:List (Key×V)}(h:Rd H c (.dK kvs))(s:But a H H')(ha:H a=some (.lst xs)):Rd H' c (.dK kvs):=by
 have n:c≠a:=λz=>by
  rcases h with h|⟨o,h⟩ <;> · rw [z,ha] at h;cases h
 exact h.elim (λe=>.inl (s _ _ n e)) λ⟨o,e⟩=>.inr ⟨o,s _ _ n e⟩
theorem aJ.lst(h:aJ H v l)(s:But a H H')(ha:H a=some (.lst xs)):aJ H' v l:=h.but s λys z=>by rw [ha] at z;cases z
theorem cf.lst{b' k':Addr}{t:Tab}(h:cf A H q b' k' t)(s:But a H H')(ha:H a=some (.lst xs)):cf A H' q b' k' t:=by
 obtain ⟨dx,e⟩:=h.ob;obtain ⟨kvs,e2,d⟩:=h.births.ex;exact ⟨⟨dx,s _ _ (λz=>by rw [z,ha] at e;cases e) e⟩,⟨⟨kvs,Rd.lst e2 s ha,d.imp λv l r=>r.lst s ha⟩,h.births.nd⟩,Rd.lst h.kept s ha⟩
theorem zM.lst(h:zM A H p b k t ks)(s:But a H H')(ha:H a=some (.lst xs)):zM A H' p b k t ks:=by
 obtain ⟨dx,e⟩:=h.ob;obtain ⟨kk,e2,d⟩:=h.kept;obtain ⟨kvs,e3,d3⟩:=h.births.ex;have ne:∀{c:Addr}{ys:List (Key×V)},H c=some (.dK ys)->c≠a:=λ{c ys} e z=>by rw [z,ha] at e;cases e
 exact ⟨⟨dx,s _ _ (λz=>by rw [z,ha] at e;cases e) e⟩,⟨⟨kvs,s _ _ (ne e3) e3,d3.imp λv l r=>r.lst s ha⟩,h.births.nd⟩,⟨kk,s _ _ (ne e2) e2,d.imp λv u ⟨q,b',k',ev,r,nn⟩=>⟨q,b',k',ev,r.lst s ha,nn⟩⟩,h.ndk,h.ne⟩
theorem zM.pot(h:zM A H p b k t ks)(s:But a H H')(hP:Pot H a):zM A H' p b k t ks:=let ⟨_,_,e,_⟩:=hP.ex;h.lst s e
theorem zM.bd(h:zM A H p b k t ks):∃kvs,H b=some (.dK kvs):=let ⟨_,e,_⟩:=h.births.ex;⟨_,e⟩
theorem zM.kd(h:zM A H p b k t ks):∃kvs,H k=some (.dK kvs):=let ⟨_,e,_⟩:=h.kept;⟨_,e⟩
theorem Pot.dic{kvs:List (Key×V)}(hP:Pot H a)(s:But c H H')(e:H c=some (.dK kvs)):Pot H' a:=by
 obtain ⟨x,y,ea,r⟩:=hP.ex;exact ⟨⟨x,y,s _ _ (λz=>by rw [z,e] at ea;cases ea) ea,r⟩⟩
theorem Lv{n m:Str}:lk (bj t n l) m=if m=n then l else lk t m:=by
 unfold lk;rw [xE];split<;>rfl
theorem Ay{n m:Str}(h:m≠n):look (fE t n i) m=look t m:=by
 unfold fE;split
 .rw [Bv,if_neg h]
 .rw [xE,if_neg h]
theorem JN{n:Str}:(fE t n i).length<=t.length+1:=by
 unfold fE;split
 .exact N9 (OQ ..)
 .exact wj
end
theorem Dq(h:v∈[V.str "a",.str "b",.str "zzzzzz"]):∃z:Str,v = .str z:=by
 simp only [LI,LP,or_false] at h;rcases h with rfl|rfl|rfl<;>exact ⟨_,rfl⟩
section
variable {P:LV}{w:Mf}{K:Frag}{mg:Str->Option Value}{base:Heap}{A:zi}
structure FiI(A:zi)(H0:Hp)(a dd p b k:Addr)(i:Nat)(σ:L2.St)(H':Hp):Prop where
 ex:∃t1 t2,σ=[some (V.ref a),some (.ref dd),some (.ref p),t1,t2]
 fi:∃t,zM A H' p b k t []/\t.length<=i/\∀n,(lk t n).length<=i
 keep:∀c o,c≠a->c≠b->H0 c=some o->H' c=some o
 pot:Pot H' a
structure CuI(A:zi)(H0:Hp)(a dd p b k:Addr)(t0:Tab)(ks:List (Str×Tab))(ss:List Str)(i:Nat)(σ:L2.St)(H':Hp):Prop where
 ex:∃t1 t2,σ=[some (V.ref a),some (.ref dd),some (.ref p),t1,t2]
 fi:∃t,zM A H' p b k t ks/\t.length<=64+i/\∀j n,i<=j->ss[j]?=some n->look t n=look t0 n
 keep:∀c o,c≠a->c≠b->H0 c=some o->H' c=some o
 pot:Pot H' a
def vK(A:zi):Sp:=λvs H Q _=>∃(a dd:Addr)(kvs:List (Int×V)),vs=[.ref a,.ref dd]/\Pot H a/\H dd=some (.dK (ik kvs))/\kvs.length<40/\∀p b k t ks H',But a H H'->Pot H' a->zM A H' p b k t ks->Q (.ref p) H'
theorem i6:zw ["_law_pot_here","_law_births_here","_law_files_here","_law_birth","_law_name"] ["_law_pot_here","_law_births_here"] (zm qj):=fsc
theorem AJ(F:Fun K "_law_files" "_law_files" qj f fd)(T:Txt w K mg A)(YT:GC P w K mg base true 1 "Files" A.Files ["self"] (oQ A))(Z4:GF P w K mg base true 2 "_law_drawn" ["_law_pot_here","_law_some"] iM)(Z9:GF P w K mg base true 1 "_law_draw" ["_law_pot_here","_law_many"] cL)(ZZ:GM P w K mg base true 1 A.Files "many" ["self","file"] (jA A))(Y0:GM P w K mg base true 4 A.Files "put" ["self","file","place","birth"] (tf A))(Zg:GM P w K mg base true 5 A.Files "hold" ["self","name"] (xf A))(Zr:GM P w K mg base true 1 A.Files "names" ["self"] (vc A))(YZ:GM P w K mg base true 4 A.Files "cut" ["self","file","many"] (yi A)):zo P w K mg base CX0 true 6 f fd ["_law_pot_here","_law_births_here"] (vK A):=by
 refine F.ok i6 (λvs H Q E h=>?_) (λZ1 Ar outer s H vs Q E hr h=>?_)
 .obtain ⟨a,dd,kvs,rfl,_⟩:=h;rfl
 .obtain ⟨a,dd,kvs,rfl,hP,hd,hl,q⟩:=h;have hu:_<cLine:=Mi (zQ hr);refine ⟨_,(W.h (zg (zA (i:=2) i6.nd rfl (LQ rfl) (tw YT hr rfl))
   (zg (cb Nb.never (λ_=>rfl) (bR (zK (wV rfl) rfl T.n_sorted PX (za (zd 1) zc))) (zB (i:=3) i6.nd rfl (LQ rfl))
   (zg (zA (i:=4) i6.nd rfl (LQ rfl) (zt Z4 hr rfl (za (zd 0) (za (aw (za zI (za zI (za zI zc)))) zc))))
   (zh (aq (bU (zd 2) T.cl_Files Y0 hr (za (zd 4) (za (bU (zd 2) T.cl_Files ZZ hr (za (zd 4) zc)) (za (zd 3) zc))))))))
   (zg (zR (zL (bw hu) (zt Z9 hr rfl (za (zd 0) (za zj zc))) zj (zF _))
   (zg (aq (bU (zd 2) T.cl_Files Zg hr (za zI zc)))
   (zh (cb Nb.never (λ_=>rfl) (bR (br (zd 2) T.cl_Files Zr hr)) (zB (i:=4) i6.nd rfl (LQ rfl))
   (zh (aq (bU (zd 2) T.cl_Files YZ hr (za (zd 4) (za (zt Z9 hr rfl (za (zd 0) (za (zz aS (bU (zd 2) T.cl_Files ZZ hr (za (zd 4) zc)) zj) zc))) zc))))))))
   aa)
   (zh (zx (zd 2))))))),?_⟩
  simp_all only [];refine λp dxp H1 nI=>⟨p,dxp,rfl,nI.at_,λb k H2 s2 nb nk eb ek nbk ex=>⟨rfl,?_⟩⟩;have ne1:∀{c:Addr}{o:HO},H c=some o->c≠p:=λ{c o} e z=>by have:=nI.no;rw [<- z,e] at this;cases this
  have k02:∀c o,H c=some o->H2 c=some o:=λc o e=>s2 _ _ (ne1 e) (nI.same _ _ e);have F2:zM A H2 p b k [] []:=⟨⟨dxp,ex⟩,⟨⟨[],eb,.nil⟩,by simp [names]⟩,⟨[],ek,.nil⟩,by simp [names],nbk⟩;have b0:H b=none:=nI.same.free nb;have kk0:H k=none:=nI.same.free nk;refine ⟨kvs,.inl (k02 _ _ hd),by lia,λl ns H3 n3 pm _=>?_⟩;have lns:ns.length<40:=by rw [pm.length_eq,KE];exact hl
  have F3:=F2.same n3.same;have P3:Pot H3 a:=by obtain ⟨x,y,e,r⟩:=hP.ex;exact ⟨⟨x,y,n3.same _ _ (k02 _ _ e),r⟩⟩
  have la:l≠a:=(show Pot H2 a by obtain ⟨x,y,e,r⟩:=hP.ex;exact ⟨⟨x,y,k02 _ _ e,r⟩⟩).ne n3.no;have lb:l≠b:=λz=>by have:=n3.no;rw [z,eb] at this;cases this
  try simp_all only []
  refine ⟨⟨_,SqL.of n3.at_⟩,aB.lst (xs:=ns.map V.int) (FiI A H3 a dd p b k) ⟨⟨_,_,rfl⟩,⟨[],F3,by simp,λn=>by simp [lk,look]⟩,λ_ _ _ _ e=>e,P3⟩ (λi σ H' _ I=>SqL.of (I.keep _ _ la lb n3.at_)) ?_ ?_⟩
  .rintro i x σ H4 hx ⟨⟨t1,t2,rfl⟩,⟨t,F4,tl,tn⟩,kp,P4⟩;rw [L6] at hx;obtain ⟨bi,hbi,rfl⟩:=Mh.mp hx;have hi:i<ns.length:=(LH.mp hbi).1;simp_all only [];refine ⟨by decide,λl5 H5 n5 _=>⟨a,P4.same n5.same,.inl ⟨l5,_,rfl,P4.ne n5.no,.inl n5.at_,by simp,by simp,λv H6 hv b6 P6=>?_⟩⟩⟩;obtain ⟨z,rfl⟩:=Dq hv;have F6:=(F4.same n5.same).pot b6 (P4.same n5.same);obtain ⟨dx6,e6⟩:=F6.ob;simp_all only [e6,i8,G1];refine ⟨p,b,k,t,[],z,rfl,F6.r,λH7 s7=>?_⟩;have F7:=F6.same s7
   try simp_all only []
   refine ⟨p,b,k,t,[],z,_,bi,rfl,F7,by lia,by lia,by have:=tn z;lia,by lia,λH8 b8 F8=>?_⟩;obtain ⟨kb,e7⟩:=F7.bd;refine ⟨⟨_,_,rfl⟩,⟨_,F8,?_,λn=>?_⟩,λc o n1 n2 e=>b8 _ _ n2 (s7 _ _ (b6 _ _ n1 (n5.same _ _ (kp _ _ n1 n2 e)))),(P6.same s7).dic b8 e7⟩
   .have:=wj (t:=t) (n:=z) (a:=((lk t z).take (((lk t z).length:Nat):Int).toNat++[bi]++(lk t z).drop ((((lk t z).length:Nat):Int).toNat+1)));lia
   .rw [Lv];have:=tn n;have:=tn z;split
    .simp;lia
    .lia
  .rintro σ H4 ⟨⟨t1,t2,rfl⟩,⟨t,F4,tl,tn⟩,kp,P4⟩;rw [KE] at tl;simp_all only [];refine ⟨a,3,rfl,P4,by decide,by decide,λr H5 b5 P5 r0 r1=>?_⟩;have F5:=F4.pot b5 P4;have b05:But a H H5:=λc o n e=>b5 _ _ n (kp _ _ n (λz=>by rw [z,b0] at e;cases e) (n3.same _ _ (k02 _ _ e)));simp_all only [];refine aj (λh=>?_) (λh=>q p b k t [] H5 b05 P5 F5);obtain ⟨dx5,e5⟩:=F5.ob
   try simp_all only [e5,Fo,uP]
   refine ⟨p,b,k,t,[],"h",rfl,F5,rfl,by simp,λH6 b6 F6=>?_⟩;obtain ⟨kd,e5k⟩:=F5.kd;have P6:=P5.dic b6 e5k;obtain ⟨dx6,e6⟩:=F6.ob
   try simp_all only [e6,uP]
   refine ⟨p,b,k,t,_,rfl,F6.r,by lia,λl7 H7 n7=>?_⟩;have F7:=F6.same n7.same;have P7:=P6.same n7.same;have l7a:l7≠a:=P6.ne n7.no;have l7b:l7≠b:=λz=>by obtain ⟨kb,eb'⟩:=F6.bd;have:=n7.no;rw [z,eb'] at this;cases this
   have sp:=Lf (names t);have ls:(cS (names t)).length<=40:=by rw [sp.1.length_eq];simp [names];lia
   have snd:(cS (names t)).Nodup:=sp.1.nodup_iff.mpr F6.births.nd;have smem:∀n∈cS (names t),∃u,look t n=some u:=λn hn=>by
    cases e:look t n with
    | none=>exact absurd (sp.1.mem_iff.mp hn) (g9.mp e)
    | some u=>exact ⟨u,rfl⟩
   generalize cS (names t)=ss at n7 ls snd smem
   try simp_all only []
   refine ⟨⟨_,SqL.of n7.at_⟩,aB.lst (xs:=ss.map V.str) (CuI A H7 a dd p b k t _ ss) ⟨⟨_,_,rfl⟩,⟨t,F7,by lia,λ_ _ _ _=>rfl⟩,λ_ _ _ _ e=>e,P7⟩ (λi σ H' _ I=>SqL.of (I.keep _ _ l7a l7b n7.at_)) ?_ ?_⟩
   .rintro i x σ H8 hx ⟨⟨t1,t2,rfl⟩,⟨u,F8,ul,uk⟩,kp8,P8⟩;rw [L6] at hx;obtain ⟨n,hn,rfl⟩:=Mh.mp hx;have hi:i<ss.length:=(LH.mp hn).1;obtain ⟨l,el⟩:=smem n (LX hn);have eu:look u n=some l:=by rw [uk i n (we _) hn];exact el
    have elk:lk u n=l:=by unfold lk;rw [eu];rfl
    obtain ⟨dx8,e8⟩:=F8.ob;simp_all only [e8,FA,i8];refine ⟨p,b,k,u,_,n,rfl,F8.r,λH9 s9=>?_⟩;have F9:=F8.same s9;have l40:l.length<=40:=by
     have e:lk t n=l:=by unfold lk;rw [el];rfl
     have h:=tn n;rw [e,KE] at h;lia
    rw [elk]
    try simp_all only []
    refine ⟨a,_,rfl,P8.same s9,by lia,OB (show (l.length:Int)+1<=41 by lia) (by decide),λm H10 WW P10 m0 m1=>?_⟩;have F10:=F9.pot WW (P8.same s9);refine ⟨p,b,k,u,_,n,l,m,rfl,F10,eu,m0,by lia,by lia,λH11 b11 F11=>?_⟩;obtain ⟨kb,e10⟩:=F10.bd;refine ⟨⟨_,_,rfl⟩,⟨_,F11,by have:=JN (t:=u) (n:=n) (i:=m);lia,λj n' hj hn'=>?_⟩,λc o n1 n2 e=>b11 _ _ n2 (WW _ _ n1 (s9 _ _ (kp8 _ _ n1 n2 e))),P10.dic b11 e10⟩;have ne:n'≠n:=λz=>by
     rw [z] at hn';have:=(Pn hi snd).mp (hn.trans hn'.symm);lia
    rw [Ay ne];exact uk j n' (by lia) hn'
   .rintro σ H8 ⟨⟨t1,t2,rfl⟩,⟨u,F8,ul,uk⟩,kp8,P8⟩;simp_all only [];refine q p b k u _ H8 (λc o n e=>kp8 _ _ n (λz=>by rw [z,b0] at e;cases e) (n7.same _ _ (b6 _ _ (λz=>by rw [z,kk0] at e;cases e) (b05 _ _ n e)))) P8 F8
end
abbrev jl:Stmt:=top 68
abbrev ku:Stmt:=top 69
theorem yJ(f:Nat->Int):∀n,0<n->∃i,i<n/\ao f n=some (f i)/\∀j,j<n->f j<=f i
 | 1,_=>⟨0,by decide,rfl,λj hj=>by rw [show j=0 by lia];exact Int.le_refl _⟩
 | n+2,_=>by
  obtain ⟨i,hi,e,hm⟩:=yJ f (n+1) (by lia);have e2:ao f (n+2)=some (match ao f (n+1) with|none=>f (n+1)|some m=>if f (n+1)>m then f (n+1) else m):=rfl;rw [e2,e];show ∃j,j<n+2/\some (if f (n+1)>f i then f (n+1) else f i)=some (f j)/\_;split
  .refine ⟨n+1,by lia,rfl,λj hj=>?_⟩;by_cases ej:j=n+1
   .rw [ej];exact Int.le_refl _
   .have:=hm j (by lia);lia
  .refine ⟨i,by lia,rfl,λj hj=>?_⟩;by_cases ej:j=n+1
   .rw [ej];lia
   .exact hm j (by lia)
section
variable {A:zi}{H H':Hp}{a p wl sl sh:Addr}{cells shc:List Addr}{m:Int}{d:DM}
structure Apt(a wl sl sh:Addr)(cells shc:List Addr):Prop where
 d:∀x∈wl::sl::cells,x≠a
 s:a≠sh
 c:a∉shc
theorem DW.butT(h:DW A H p wl sl sh cells shc m d)(hP:Pot H a)(ap:Apt a wl sl sh cells shc)(s:aO a H H')(tb:TB A H')(W0:Pot H' a):DW A H' p wl sl sh cells shc m d:=by
 obtain ⟨xs,e⟩:=hP.lst;obtain ⟨ys,e'⟩:=W0.lst;have s':zD H (upd H' a (.lst xs)):=λb o n eb=>by
  by_cases z:b=a
  .subst z;rw [e] at eb;cases eb;exact zy
  .rw [ze z];exact s b o z n eb
 have W:=h.sameT s' (tb.put e');refine W.put (b:=a) zy ap.d ap.s ap.c λb o eb nb=>?_;have z:b≠a:=λz=>nb (by simp [z]);rw [ze z] at eb;exact eb
theorem aO.fr{l:Addr}(s:aO a H H')(hP:Pot H' a)(h:H' l=none):Fr H l:=λo no e=>by
 by_cases z:l=a
 .subst z;obtain ⟨x,y,ea,_⟩:=hP.ex;rw [ea] at h;cases h
 .rw [s l o z no e] at h;cases h
end
section
variable {P:LV}{w:Mf}{K:Frag}{mg:Str->Option Value}{base:Heap}{A:zi}
structure NuI(H:Hp)(ts:List Tri)(i:Nat)(τ:L2.St)(ys:List V)(H':Hp):Prop where
 ex:∃t1,τ=[t1]
 ys:ys=((ts.take i).map zu).map V.int
 same:H'=H
def tE(A:zi):Sp:=λvs H Q _=>∃(a p wl sl sh:Addr)(cells shc:List Addr)(m:Int)(d:DM),vs=[.ref a,.ref sh]/\DW A H p wl sl sh cells shc m d/\Pot H a/\∀(z:Int) H',aO a H H'->TB A H'->Pot H' a->(∀t∈nU d,zu t<z)->0<z->z<10 ^ 18->Q (.int z) H'
theorem tG:zw ["_law_pot_here","_law_shelf","_law_numbers_here"] ["_law_pot_here","_law_shelf"] (zm jl):=fsc
theorem IH:aQ { kind:=.function,names:=[(vv ".0",.local),(vv "_law_one",.local)],isGenerator:=false,isCoroutine:=false,more:=[] } (zm jl).names ["_law_pot_here","_law_shelf","_law_numbers_here"] ["_law_one"] [none]=true:=by decide +kernel
theorem EZ:(["_law_one"]:List Str).Nodup:=by decide +kernel
theorem En(F:Fun K "_law_next" "_law_next" jl f fd)(T:Txt w K mg A)(Z9:GF P w K mg base true 1 "_law_draw" ["_law_pot_here","_law_many"] cL)(ZV:GF P w K mg base true 1 "_law_rows" ["_law_shelf"] (iO A)):zo P w K mg base CX0 true 2 f fd ["_law_pot_here","_law_shelf"] (tE A):=by
 refine F.ok tG (λvs H Q E h=>?_) (λZ1 Ar outer s H vs Q E hr h=>?_)
 .obtain ⟨a,p,wl,sl,sh,cells,shc,m,d,rfl,_⟩:=h;rfl
 .obtain ⟨a,p,wl,sl,sh,cells,shc,m,d,rfl,Ww,hP,q⟩:=h;have hu:_<cLine:=Mi (zQ hr);refine ⟨_,(W.h (zg (zA (i:=2) tG.nd rfl (LQ rfl) (zz aS (aw (za zj zc)) (cy (λ_=>rfl) (ar.of IH) (bR (zt ZV hr rfl (za (zd 1) zc))) (λ_ _ _ _ _=>(zB (i:=0) EZ rfl (LQ rfl))) (λ_ _ _ _ _=>cN) (λ_ _ _ _ _=>(zH zZ (zH zZ (zd 0) zj (λ_ _=>rfl)) zj (λ_ _=>rfl))))))
   (zh (zx (zz aS (zz aS (zK (ig rfl) rfl T.n_max boot_max (za (zd 2) zc)) zj) (zt Z9 hr rfl (za (zd 0) (za (zH zZ (aw (za zj (za zj (za (zz qE zj zj) zc)))) (zt Z9 hr rfl (za (zd 0) (za zj zc))) (λ_ _=>rfl)) zc)))))))),?_⟩
  have ok:=Ww.ok;have WV:=ok.sh;simp_all only [];refine ⟨by decide,λl0 H1 n1 _=>?_⟩;have W1:=Ww.same n1.same;refine ⟨sh,shc,_,rfl,W1.shelf,WV.len,WV.wide,WV.keys,WV.nd,WV.few,W1.tb,λl2 as2 H2 s2 tb2 f2 ns2 e2 ht2=>?_⟩;rw [<- cE] at ht2
  try simp_all only []
  have Z5:=ay ht2;have h30:(aV (nU d)).length<=30:=by rw [(dA _).length_eq];exact ok.few
  have hkk:∀t∈aV (nU d),∃y n ys,t.1 = .str y::.int n::ys:=λt ht=>lJ ((dA _).mem_iff.mp ht);have X5:∀t∈aV (nU d),1<=zu t/\zu t<10 ^ 17:=λt ht=>ok.pos t ((dA _).mem_iff.mp ht);have Xl:∀t∈nU d,t∈aV (nU d):=λt ht=>(dA _).mem_iff.mpr ht;generalize aV (nU d)=ts at Z5 h30 hkk ht2 X5 Xl;refine ⟨⟨_,SqL.of e2⟩,zS.lst (xs:=as2.map V.ref) (NuI H2 ts) (λi τ ys H' I=>?_) (λi τ ys H' I=>by rw [I.same];exact SqL.of e2) ⟨⟨_,rfl⟩,rfl,rfl⟩ ?_ ?_⟩
  .rw [I.ys,KE,KE];exact aF (by have:=Ni i ts;lia)
  .intro N i x τ ys H' hx I hN;obtain ⟨t1,rfl⟩:=I.ex;have e:=I.same;subst e;rw [L6] at hx;obtain ⟨b,hb,rfl⟩:=Mh.mp hx;have hi:i<ts.length:=by rw [<- Z5];exact (LH.mp hb).1
   have YE:ts[i]?=some ts[i]:=il hi;obtain ⟨r,g1,g2⟩:=bI ht2 hb YE;obtain ⟨y,n,zs,et⟩:=hkk _ (MC hi);rw [et] at g2;have i0:atI [V.ref r,V.int (ts[i]).2.1,V.int (ts[i]).2.2] 0=some (V.ref r):=rfl;have ix:atI (V.str y::V.int n::zs) 1=some (V.int n):=cB (j:=1) (by simp);simp_all only [g1,g2,i0,ix];refine hN _ _ _ ⟨⟨_,rfl⟩,?_,rfl⟩;have ek:zu ts[i]=n:=by unfold zu;rw [et];rfl
   rw [MH,YE,I.ys,Mq,Mq];show _=_++[V.int (zu ts[i])];rw [ek]
  .intro τ ys H' I D3 H3 n3;have e:=I.same;subst e;have hys:=I.ys;rw [KE,Z5,Mj (we _)] at hys;rw [hys] at n3;rw [eI];refine ⟨_,_,n3.same _ _ (s2.list n1.at_),n3.at_,aK (by simp;lia),λp4 H4 n4=>?_⟩;rw [mx];refine ⟨0::ts.map zu,by rw [n4.at_];rfl,by simp,?_⟩;obtain ⟨i,hi,eb,hM⟩:=yJ (λi=>(0::ts.map zu).getD i 0) (0::ts.map zu).length (by simp);rw [eb];show c0 (V.int ((0::ts.map zu).getD i 0)) (V.int 1) H4 _;have hM1:(0::ts.map zu).getD i 0<10 ^ 17:=by
    cases i with
    | zero=>show (0:Int)<_;decide
    | succ i =>
     rw [List.getD_cons_succ];have hi:i<(ts.map zu).length:=by simpa using hi
     rw [LG,il hi];show (ts.map zu)[i]<_;rw [List.getElem_map];exact (X5 _ (MC _)).2
   have hM0:0<=(0::ts.map zu).getD i 0:=hM 0 (by simp);have hMk:∀t∈nU d,zu t<=(0::ts.map zu).getD i 0:=λt ht=>by
    obtain ⟨j,hj,ej⟩:=MI (Xl t ht);have:=hM (j+1) (by simpa using hj);rw [List.getD_cons_succ,LG,L6,il hj,ej] at this;exact this
   clear hM eb;generalize (0::ts.map zu).getD i 0=M at hM1 hM0 hMk ⊢;have s04:zD H H4:=(zD.of n1.same).trans (s2.trans (.of (n3.same.trans n4.same)));have tb4:=(tb2.same n3.same).same n4.same;have P4:Pot H4 a:=by obtain ⟨x,y,e,r⟩:=hP.ex;exact ⟨⟨x,y,s04.list e,r⟩⟩
   simp_all only [];refine ⟨⟨by decide,by decide,by decide⟩,by decide,λp5 H5 n5 _=>?_⟩;have P5:=P4.same n5.same;refine ⟨a,3,rfl,P5,by decide,by decide,λr H6 b6 P6 r0 r1=>?_⟩;have p5a:p5≠a:=P4.ne n5.no;have e6:=b6 _ _ p5a n5.at_;obtain ⟨v,ev,hv⟩:=l8 (xs:=[V.int 6,.int 60,.int (10 ^ Int.toNat 16)]) r0 (by simpa using r1)
   try simp_all only [e6]
   refine ⟨v,ev,?_⟩;obtain ⟨mm,rfl,m0,m1⟩:∃mm:Int,v = .int mm/\0<mm/\mm<=10 ^ 16:=by
    simp only [LI,LP,or_false] at hv;rcases hv with rfl|rfl|rfl
    .exact ⟨6,rfl,by decide,by decide⟩
    .exact ⟨60,rfl,by decide,by decide⟩
    .exact ⟨_,rfl,by decide,by decide⟩
   refine ⟨a,mm,rfl,P6,m0,by lia,λr' H7 b7 P7 z0 z1=>?_⟩
   try simp_all only []
   have b47:But a H4 H7:=((But.of n5.same).trans b6).trans b7;exact q _ H7 ((aO.of s04).trans (.but b47)) (tb4.lists b47.keeps λx hx=>by rw [LU] at hx;subst hx;obtain ⟨xs,e⟩:=P4.lst;exact .inl ⟨_,e⟩) P7 (λt ht=>by have:=hMk t ht;lia) (by lia) (by lia)
structure SsI(H:Hp)(dd:Addr)(fz:HO)(ts:List T3)(i:Nat)(τ:L2.St)(ys:List V)(H':Hp):Prop where
 ex:∃t1,τ=[t1,some (.ref dd)]
 ys:∃as:List Addr,ys=as.map V.ref/\Paired (dh H') as (ts.take i)
 fz:H' dd=some fz
 same:zl H H'
theorem TB.potB(tb:TB A H)(hP:Pot H a)(b:But a H H'):TB A H':=tb.lists b.keeps λx hx=>by rw [LU] at hx;subst hx;obtain ⟨xs,e⟩:=hP.lst;exact .inl ⟨_,e⟩
theorem Pot.tup{r:Addr}(hP:Pot H a)(e:H r=some (.tup xs)):r≠a:=λz=>by obtain ⟨x,y,ea,_⟩:=hP.ex;rw [z,ea] at e;cases e
theorem aO.tup{r:Addr}(s:aO a H H')(hP:Pot H a)(e:H r=some (.tup xs)):H' r=some (.tup xs):=s _ _ (hP.tup e) (λ_=>nofun) e
theorem zM.butT{p k:Addr}{t:Tab}(h:zM A H p b k t ks)(hP:Pot H a)(s:aO a H H'):zM A H' p b k t ks:=by
 obtain ⟨x,y,ha,_⟩:=hP.ex;have tr:∀{v:V}{l:List Int},aJ H v l->aJ H' v l:=λ{v l} ⟨q,e,hq⟩=>⟨q,e,s.tup hP hq⟩;have ii:∀{q dx:Addr}{fs:List (Str×V)},H q=some (.ins A.Files dx fs)->H' q=some (.ins A.Files dx fs):=λ{q dx fs} e=>s _ _ (λz=>by rw [z,ha] at e;cases e) (λ_=>nofun) e;have dk:∀{c:Addr}{ys:List (Key×V)},H c=some (.dK ys)->H' c=some (.dK ys):=λ{c ys} e=>s _ _ (λz=>by rw [z,ha] at e;cases e) (λ_=>nofun) e;have rd:∀{c:Addr}{ys:List (Key×V)},Rd H c (.dK ys)->Rd H' c (.dK ys):=λ{c ys} e=>e.elim (λe=>.inl (dk e)) λ⟨o,e⟩=>.inr ⟨o,s _ _ (λz=>by rw [z,ha] at e;cases e) (λ_=>nofun) e⟩;obtain ⟨dx,e⟩:=h.ob;obtain ⟨kk,e2,d⟩:=h.kept;obtain ⟨kvs,e3,d3⟩:=h.births.ex;exact ⟨⟨dx,ii e⟩,⟨⟨kvs,dk e3,d3.imp λv l r=>tr r⟩,h.births.nd⟩,⟨kk,dk e2,d.imp λv u ⟨q,b',k',ev,⟨⟨dq,eq⟩,⟨⟨kv,eb,db⟩,nb⟩,ek⟩,nn⟩=>⟨q,b',k',ev,⟨⟨dq,ii eq⟩,⟨⟨kv,rd eb,db.imp λv l r=>tr r⟩,nb⟩,rd ek⟩,nn⟩⟩,h.ndk,h.ne⟩
theorem Fw.same{p:Addr}(h:Fw A H p)(s:zl H H'):Fw A H' p:=by
 obtain ⟨b,k,dx,t,kvs,e,hB,e2⟩:=h;exact ⟨b,k,dx,t,kvs,s _ _ e,hB.fs (.of s),s _ _ e2⟩
theorem Own.same(h:Own A H x)(s:zl H H'):Own A H' x:=by
 obtain ⟨dx,f,d,n,m,e,hF⟩:=h;exact ⟨dx,f,d,n,m,s _ _ e,hF.same s⟩
theorem bo.pot(h:bo A H x ts n)(hP:Pot H a)(s:But a H H'):bo A H' x ts n:=by
 obtain ⟨dx,f,d,m,kvs,e1,e2,e3⟩:=h.ex;obtain ⟨u,v,ea,_⟩:=hP.ex;exact ⟨⟨dx,f,d,m,kvs,s _ _ (λz=>by rw [z,ea] at e1;cases e1) e1,s _ _ (λz=>by rw [z,ea] at e2;cases e2) e2,Paired.mapP e3 λp t r=>r.keep λr xs e=>s _ _ (hP.tup e) e⟩,h.ok⟩
def xQ(A:zi):Sp:=λvs H Q _=>∃(a p wl sl sh:Addr)(cells shc:List Addr)(m:Int)(d:DM),vs=[.ref a,.ref sh]/\DW A H p wl sl sh cells shc m d/\Pot H a/\Apt a wl sl sh cells shc /\
 ∀tp x l as ts n H',H' tp=some (.tup [.ref x,.ref l])->aO a H H'->TB A H'->Pot H' a->bo A H' x ts n->Own A H' x->H' l=some (.lst (as.map V.ref))->Paired (dh H') as ts->Fr H l->SpM d ts->(∀t∈nU d,zu t<n)->0<n->n<10 ^ 18->Q (.ref tp) H'
theorem qH:zw ["_law_pot_here","_law_shelf","_law_births_here","_law_spots"] ["_law_pot_here","_law_shelf"] (zm ku):=fsc
theorem J6:aQ { kind:=.function,names:=[(vv ".0",.local),(vv "_law_birth",.local),(vv "_law_births_here",.free)],isGenerator:=false,isCoroutine:=false,more:=[] } (zm ku).names ["_law_pot_here","_law_shelf","_law_births_here","_law_spots"] ["_law_birth","_law_births_here"] [none,some 2]=true:=by decide +kernel
theorem DQ:(["_law_birth","_law_births_here"]:List Str).Nodup:=by decide +kernel
theorem EE(F:Fun K "_law_state" "_law_state" ku f fd)(T:Txt w K mg A)(Z9:GF P w K mg base true 1 "_law_draw" ["_law_pot_here","_law_many"] cL)(Zq:GF P w K mg base true 2 "_law_births" ["_law_pot_here","_law_shelf"] (qS A))(Zf:GF P w K mg base true 6 "_law_files" ["_law_pot_here","_law_births_here"] (vK A))(YY:GF P w K mg base true 2 "_law_next" ["_law_pot_here","_law_shelf"] (tE A))(YS:GC P w K mg base true 5 "State" A.State ["self","files","spots","next_number","mark_number"] (lY A)):zo P w K mg base CX0 true 7 f fd ["_law_pot_here","_law_shelf"] (xQ A):=by
 refine F.ok qH (λvs H Q E h=>?_) (λZ1 Ar outer s H vs Q E hr h=>?_)
 .obtain ⟨a,p,wl,sl,sh,cells,shc,m,d,rfl,_⟩:=h;rfl
 .obtain ⟨a,p,wl,sl,sh,cells,shc,m,d,rfl,Ww,hP,ap,q⟩:=h;have hu:_<cLine:=Mi (zQ hr);refine ⟨_,(W.h (zg (zA (i:=2) qH.nd rfl (OM rfl) (zt Zq hr rfl (za (zd 0) (za (zd 1) zc))))
   (zg (FM (gQ (i0:=3) qH.nd rfl (LQ rfl) (λ_=>rfl) (ar.of J6) (BU (zd 2)) (λ_ _ _ _ _=>(zB (i:=0) DQ rfl (LQ rfl))) (λ_ _ _ _ _=>cN) (λ_ _ _ _ _=>(aP (za (zd 0) (za (zH zZ (zH (jN (zQ hr)) (zd 1) (zd 0) (λ_ _=>rfl)) zj (λ_ _=>rfl)) (za (zH zZ (zH (jN (zQ hr)) (zd 1) (zd 0) (λ_ _=>rfl)) zj (λ_ _=>rfl)) zc)))))))
   (zh (zx (aP (za (j7 YS hr rfl (za (zt Zf hr rfl (za (zd 0) (za (zd 2) zc))) (za (zd 3) (za (zt YY hr rfl (za (zd 0) (za (zd 1) zc))) (za (zt Z9 hr rfl (za (zd 0) (za zj zc))) zc))))) (za (zd 3) zc)))))))),?_⟩
  simp_all only [];refine ⟨a,p,wl,sl,sh,cells,shc,m,d,rfl,Ww,hP,λdd kvs ts H1 b1 WU P1 dd0 hd pr ok sm=>?_⟩;have lk:=ay pr;have W1:=Ww.butT hP ap b1 WU P1
  try simp_all only []
  refine ⟨dd,_,hd,λo=>?_⟩;have hfz:upd H1 dd (.frz o (.dK (ik kvs))) dd=some (.frz o (.dK (ik kvs))):=zy;have tupF:∀{r:Addr}{xs:List V},H1 r=some (.tup xs)->upd H1 dd (.frz o (.dK (ik kvs))) r=some (.tup xs):=λ{r xs} e=>by rw [ze (λz=>by rw [z,hd] at e;cases e)];exact e
  try simp_all only []
  refine ⟨o,ik kvs,by first|exact hfz|rfl,zS.dct (SsI (upd H1 dd (.frz o (.dK (ik kvs)))) dd (.frz o (.dK (ik kvs))) ts) (λi τ ys H' I=>?_) (λi τ ys H' I=>I.fz) ⟨⟨_,rfl⟩,⟨[],rfl,.nil⟩,hfz,zl.refl _⟩ ?_ ?_⟩
  .obtain ⟨as,e,pr'⟩:=I.ys;have:=ay pr';have h2:=Ni i ts;have:=ok.few;rw [e,KE];exact aF (by lia)
  .intro N i pv τ ys H' hp I hN;obtain ⟨t1,rfl⟩:=I.ex;obtain ⟨as,e,pr'⟩:=I.ys;unfold ik at hp;rw [L6] at hp;obtain ⟨kv,hkv,rfl⟩:=Mh.mp hp;have hi:i<ts.length:=by rw [<- lk];exact (LH.mp hkv).1
   have YE:ts[i]?=some ts[i]:=il hi;obtain ⟨s1,a2,s2,s3⟩:=bI pr hkv YE;have s3:=I.same _ _ (tupF s3);have hv:zW (ik kvs) (.inl ts[i].1)=some (.ref a2):=qk (by rw [kD pr];exact ok.nd) (by rw [<- s1,<- s2];exact LX hkv);have ek:kV (Sum.inl kv.1:Key)=V.int ts[i].1:=by rw [<- s1];rfl
   show dX 0 (kV (Sum.inl kv.1:Key)) _ _ _;rw [ek];have rdd:Rd H' dd (.dK (ik kvs)):=.inr ⟨o,I.fz⟩;simp_all only [];refine ⟨_,rdd,_,hv,?_⟩;simp_all only [s3,kJ,lh];refine ⟨_,rdd,_,hv,?_⟩;simp_all only [s3,kJ,lh];refine ⟨by decide,λp2 H2 n2=>hN _ _ _ ⟨⟨_,rfl⟩,⟨as++[p2],by rw [e,Mq];rfl,?_⟩,n2.same _ _ I.fz,I.same.trans n2.same⟩⟩;rw [MH,YE];exact dC (Paired.mapP pr' λa t r=>n2.same _ _ r) (.cons n2.at_ .nil)
  .intro τ ys H2 I D H3 n3;obtain ⟨as,e,pr'⟩:=I.ys;rw [pe,lk,Mj (we _)] at pr';rw [e] at n3;refine ⟨o,n3.same _ _ I.fz,?_⟩;have s14:zl H1 (upd H3 dd (.dK (ik kvs))):=λc u eu=>by
    by_cases z:c=dd
    .subst z;rw [hd] at eu;cases eu;exact zy
    .rw [ze z];exact n3.same _ _ (I.same _ _ (by rw [ze z];exact eu))
   have Dd:D≠dd:=λz=>by have:=n3.no;rw [z,I.fz] at this;cases this
   have hD4:upd H3 dd (.dK (ik kvs)) D=some (.lst (as.map V.ref)):=by rw [ze Dd];exact n3.at_
   have pr4:Paired (dh (upd H3 dd (.dK (ik kvs)))) as ts:=Paired.mapP pr' λa t r=>by
    have r:H2 a=_:=r;show upd H3 dd _ a=_;rw [ze (λz=>by rw [z,I.fz] at r;cases r)];exact n3.same _ _ r
   have D1:H1 D=none:=by
    cases eD:H1 D with
    | none=>rfl
    | some u =>
     have h3:=I.same D u (by rw [ze Dd];exact eD);rw [n3.no] at h3;cases h3
   have frD:Fr H D:=b1.fr P1 D1;have P4:=P1.same s14;have W4:=W1.same s14;have tb4:=WU.same s14;have hd4:=s14 _ _ hd;have Da:D≠a:=P1.ne D1;generalize upd H3 dd (.dK (ik kvs))=H4 at s14 hD4 pr4 P4 W4 tb4 hd4;simp_all only [];refine ⟨a,dd,kvs,rfl,P4,hd4,by rw [lk];exact ok.few,λpf b k t ks H5 b5 P5 F5=>?_⟩;have W5:=W4.potB P4 ap.d ap.s ap.c b5;refine ⟨a,p,wl,sl,sh,cells,shc,m,d,rfl,W5,P5,λz H6 b6 tb6 P6 zk z0 z1=>⟨a,9,rfl,P6,by decide,by decide,λr H7 b7 P7 _ _=>?_⟩⟩;have b47:aO a H4 H7:=((aO.but b5).trans b6).trans (.but b7);have F7:=(F5.butT P5 b6).butT P6 (.but b7);have tb7:=tb6.potB P6 b7;have hD7:=b47 D (.lst (as.map V.ref)) Da (λ_=>nofun) hD4;have pr7:Paired (dh H7) as ts:=Paired.mapP pr4 λc t r=>b47.tup P4 r;intro x dxx H8 nI;refine ⟨x,pf,D,dxx,z,r,as,ts,rfl,nI.at_,(F7.same nI.same).fw,nI.same _ _ hD7,Paired.mapP pr7 λc t r=>nI.same _ _ r,ok,λH9 b9 S9 O9=>⟨rfl,by decide,λtp H10 n10=>?_⟩⟩;have nx:∀{c:Addr}{o:HO},H7 c=some o->c≠x:=λ{c o} e z=>by have:=nI.no;rw [<- z,e] at this;cases this
   have k79:∀{c:Addr}{o:HO},H7 c=some o->H10 c=some o:=λ{c o} e=>n10.same _ _ (b9 _ _ (nx e) (nI.same _ _ e));have tb9:TB A H9:=(tb7.same nI.same).lists b9.keeps λy hy=>by rw [LU] at hy;subst hy;exact .inr ⟨_,_,_,nI.at_⟩
   have P10:Pot H10 a:=by obtain ⟨x',y',ea,rr⟩:=P7.ex;exact ⟨⟨x',y',k79 ea,rr⟩⟩
   refine q tp x D as ts z H10 n10.at_ (λc o n no e=>k79 (b47 _ _ n no (s14 _ _ (b1 _ _ n no e)))) (tb9.same n10.same) P10 (S9.sameT (.of n10.same)) (O9.same n10.same) (k79 hD7) (Paired.mapP pr7 λc t r=>k79 r) frD sm zk z0 z1
end
abbrev kI:Stmt:=top 39
section
variable {P:LV}{w:Mf}{K:Frag}{mg:Str->Option Value}{base:Heap}{A:zi}
def uI(A:zi):Sp:=λvs H Q _=>∃(p wl sl:Addr)(cells:List Addr)(m:Int)(d:DM)(k:Nat),vs=[.ref p,.int k]/\zE A H p wl sl cells m d/\dF d/\k<d.rows.length /\
 ∀H',zl H H'->Q (oi (ao (λi=>((rIn (d.rows.getD k []) k (d.rows.getD k []).length).map zu).getD i 0) (rIn (d.rows.getD k []) k (d.rows.getD k []).length).length)) H'
structure DB(H:Hp)(ts:List Tri)(i:Nat)(τ:L2.St)(ys:List V)(H':Hp):Prop where
 ex:∃t1 t2 t3,τ=[t1,t2,t3]
 ys:ys=((ts.take i).map zu).map V.int
 same:H'=H
theorem Br:zw ["disk","stretch"] ["disk","stretch"] (zm kI):=fsc
theorem Ae:aQ { kind:=.function,names:=[(vv ".0",.local),(vv "row",.local),(vv "at",.local),(vv "place",.local)],isGenerator:=false,isCoroutine:=false,more:=[] } (zm kI).names ["disk","stretch"] ["row","at","place"] [none,none,none]=true:=by decide +kernel
theorem mB:(["row","at","place"]:List Str).Nodup:=by decide +kernel
theorem Ks(F:Fun K "last_number" "last_number" kI f fd)(T:Txt w K mg A)(Yz:GF P w K mg base true 8 "rows_in" ["disk","stretch"] (qY A)):zo P w K mg base CX0 true 9 f fd ["disk","stretch"] (uI A):=by
 refine F.ok Br (λvs H Q E h=>?_) (λZ1 Ar outer s H vs Q E hr h=>?_)
 .obtain ⟨p,wl,sl,cells,m,d,k,rfl,_⟩:=h;rfl
 .obtain ⟨p,wl,sl,cells,m,d,k,rfl,D,tx,hk,q⟩:=h;refine ⟨_,(W.h (zh (zx (FF rfl rfl T.n_max (cy (λ_=>rfl) (ar.of Ae) (bR (zt Yz hr rfl (za (zd 0) (za (zd 1) zc)))) (λ_ _ _ _ _=>(fJ (n:=3) (zU (zB (i:=0) mB rfl (LQ rfl)) (zU (zB (i:=1) mB rfl (LQ rfl)) (zU (zB (i:=2) mB rfl (LQ rfl)) bS))))) (λ_ _ _ _ _=>cN) (λ_ _ _ _ _=>(zH zZ (zd 0) zj (λ_ _=>rfl)))))))),?_⟩;have hw32:=(tx.ok _ (fo (x:=[]) hk)).1;have hrl:∀j,(rIn (d.rows.getD k []) k j).length<=j:=λj=>by
   induction j with
   | zero=>exact we _
   | succ j ih=>show (rIn _ k j++_).length<=_;rw [Md];have:=sO (rdT ((d.rows.getD k []).getD j none)) k j;lia
  have hrl:=hrl (d.rows.getD k []).length;have X4:∀t∈rIn (d.rows.getD k []) k (d.rows.getD k []).length,∃y n ys,t.1 = .str y::.int n::ys:=λt ht=>o6 ht;generalize ets:rIn (d.rows.getD k []) k (d.rows.getD k []).length=ts at hrl X4 q;simp_all only [];refine ⟨p,wl,sl,cells,m,d,k,rfl,D,tx,hk,λl as H1 s1 ln hl ht=>?_⟩;rw [ets] at ht;have Z5:=ay ht;simp_all only [];refine ⟨⟨_,SqL.of hl⟩,zS.lst (xs:=as.map V.ref) (DB H1 ts) (λi τ ys H' I=>?_) (λi τ ys H' I=>by rw [I.same];exact SqL.of hl) ⟨⟨_,_,_,rfl⟩,rfl,rfl⟩ ?_ ?_⟩
  .rw [I.ys,KE,KE];exact aF (by have:=List.length_take_le i ts;have:=Ni i ts;lia)
  .intro N i x τ ys H' hx I hN;obtain ⟨t1,t2,t3,rfl⟩:=I.ex;have e:=I.same;subst e;rw [L6] at hx;obtain ⟨a,ha,rfl⟩:=Mh.mp hx;have hi:i<ts.length:=by rw [<- Z5];exact (LH.mp ha).1
   have YE:ts[i]?=some ts[i]:=il hi;obtain ⟨r,e1,e2⟩:=bI ht ha YE;obtain ⟨y,n,zs,et⟩:=X4 _ (MC hi);rw [et] at e2;refine ⟨a,_,rfl,SqT.of e1,rfl,?_⟩;have ix:atI (V.str y::V.int n::zs) 1=some (V.int n):=cB (j:=1) (by simp);simp_all only [e2,ix];refine hN _ _ _ ⟨⟨_,_,_,rfl⟩,?_,rfl⟩;have ek:zu ts[i]=n:=by unfold zu;rw [et];rfl
   rw [MH,YE,I.ys,Mq,Mq];show _=_++[V.int (zu ts[i])];rw [ek]
  .intro τ ys H' I D2 H4 n4;have e:=I.same;subst e;rw [I.ys,KE,Z5,Mj (we _)] at n4;rw [ly];refine ⟨_,n4.at_,?_⟩;rw [KE];exact q H4 (s1.trans n4.same)
end
abbrev kg:Stmt:=top 65
abbrev jb:Stmt:=top 70
abbrev k7:Stmt:=top 71
def ov:Option Nat->V|none=>.non|some n=>.int n
theorem BZ{e0 e1:Option Nat}:[ov e0,ov e1].all zY=true:=by cases e0<;>cases e1<;>rfl
section
variable {P:LV}{w:Mf}{K:Frag}{mg:Str->Option Value}{base:Heap}{A:zi}
structure CK(H1:Hp)(XI:Bool)(n:Nat)(i:Nat)(τ:L2.St)(ys:List V)(H':Hp):Prop where
 ex:∃t1,τ=[t1,some (V.bl XI)]
 ys:∃zs:List Nat,ys=zs.map iv/\zs.length<=i
 same:H'=H1
 le:i<=n
def xp(A:zi):Sp:=λvs H Q _=>∃(sh:Addr)(shc:List Addr)(rs:List (List OR))(XI:Bool),vs=[.ref sh,.bl XI]/\au H sh shc rs/\kj rs/\TB A H/\∀o H',zD H H'->TB A H'->Q (ov o) H'
theorem qW:zw ["_law_shelf","_law_is_hot","_law_found"] ["_law_shelf","_law_is_hot"] (zm kg):=fsc
theorem Gw:aQ { kind:=.function,names:=[(vv ".0",.local),(vv "_law_one",.local),(vv "_law_is_hot",.free)],isGenerator:=false,isCoroutine:=false,more:=[] } (zm kg).names ["_law_shelf","_law_is_hot","_law_found"] ["_law_one","_law_is_hot"] [none,some 1]=true:=by decide +kernel
theorem Ji:(["_law_one","_law_is_hot"]:List Str).Nodup:=by decide +kernel
theorem KD(F:Fun K "_law_end" "_law_end" kg f fd)(T:Txt w K mg A)(ZV:GF P w K mg base true 1 "_law_rows" ["_law_shelf"] (iO A)):zo P w K mg base CX0 true 2 f fd ["_law_shelf","_law_is_hot"] (xp A):=by
 refine F.ok qW (λvs H Q E h=>?_) (λZ1 Ar outer s H vs Q E hr h=>?_)
 .obtain ⟨sh,shc,rs,XI,rfl,_⟩:=h;rfl
 .obtain ⟨sh,shc,rs,XI,rfl,S,ok,tb,q⟩:=h;have hu:_<cLine:=Mi (zQ hr);refine ⟨_,(W.h (zg (gQ (i0:=2) qW.nd rfl (LQ rfl) (λ_=>rfl) (ar.of Gw) (bR (zt ZV hr rfl (za (zd 0) zc))) (λ_ _ _ _ _=>(zB (i:=0) Ji rfl (LQ rfl))) (λ_ _ _ _ _=>(eZ (zL (bw hu) (dI (eG hu) (zH zZ (zH zZ (zd 0) zj (λ_ _=>rfl)) zj (λ_ _=>rfl)) zI (zF _)) (zd 1) (zF _)))) (λ_ _ _ _ _=>(zH zZ (zd 0) zj (λ_ _=>rfl))))
   (zg (zR (zL (va hu) (zd 2) (aw zc) (zF _))
   (zh (zx bf))
   aa)
   (zh (zx (zH zZ (zd 2) (jR jn zj) (λ_ _=>rfl))))))),?_⟩
  simp_all only [];refine ⟨sh,shc,rs,rfl,S,ok.len,ok.wide,ok.keys,ok.nd,ok.few,tb,λl as H1 s1 WU ln _ hl ht=>?_⟩;have Z5:=ay ht;have XO:(aV (wO rs rs.length)).length<64:=by rw [(dA _).length_eq];exact ok.few
  have hkk:∀t∈aV (wO rs rs.length),∃y n ys,t.1 = .str y::.int n::ys:=λt h=>ok.keys t ((dA _).mem_iff.mp h);generalize aV (wO rs rs.length)=ts at Z5 XO hkk ht;simp_all only [];refine ⟨⟨_,SqL.of hl⟩,zS.lst (xs:=as.map V.ref) (CK H1 XI ts.length) (λi τ ys H' I=>?_) (λi τ ys H' I=>by rw [I.same];exact SqL.of hl) ⟨⟨_,rfl⟩,⟨[],rfl,we _⟩,rfl,by lia⟩ ?_ ?_⟩
  .obtain ⟨zs,e,le⟩:=I.ys;rw [e,KE];exact aF (by have:=I.le;lia)
  .intro N i x τ ys H' hx I hN;obtain ⟨t1,rfl⟩:=I.ex;obtain ⟨zs,e,le⟩:=I.ys;have e':=I.same;subst e';rw [L6] at hx;obtain ⟨a,ha,rfl⟩:=Mh.mp hx;have hi:i<ts.length:=by rw [<- Z5];exact (LH.mp ha).1
   have YE:ts[i]?=some ts[i]:=il hi;have htm:=MC hi;generalize ts[i]=t at YE htm;obtain ⟨r,e1,e2⟩:=bI ht ha YE;obtain ⟨y,n,WZ,et⟩:=hkk _ htm;rw [et] at e2;have i0:atI [V.ref r,V.int t.2.1,V.int t.2.2] 0=some (V.ref r):=rfl;have i1:atI [V.ref r,V.int t.2.1,V.int t.2.2] 1=some (V.int t.2.1):=rfl;have i2:atI (V.str y::V.int n::WZ) 0=some (V.str y):=cB (j:=0) (by simp);simp_all only [e1,e2,i0,i1,i2];refine aj (λ_=>?_) λ_=>hN _ _ _ ⟨⟨_,rfl⟩,⟨zs,e,by lia⟩,rfl,by lia⟩
   try simp_all only [e1,i1]
   exact hN _ _ _ ⟨⟨_,rfl⟩,⟨zs++[t.2.1],by rw [e,Mq];rfl,by rw [Md];show _+1<=_;lia⟩,rfl,by lia⟩
  .intro τ ys H' I D2 H4 n4;obtain ⟨zs,e,le⟩:=I.ys;have e':=I.same;subst e';rw [e] at n4;have hl4:=n4.at_;have q2:∀o H5,zl H' H5->Q (ov o) H5:=λo H5 s5=>q o H5 (s1.trans (.of s5)) (WU.same s5);simp_all only [];refine ⟨MM _,λpl H5 n5 _=>⟨_,n5.same _ _ hl4,_,n5.at_,.inr rfl,?_⟩⟩;rw [KE];rcases List.eq_nil_or_concat zs with rfl|⟨WZ,z,ez⟩
   .exact q2 none H5 (n4.same.trans n5.same)
   .rw [List.concat_eq_append] at ez;subst ez;rw [decide_eq_false (by simp)];rw [Mq] at hl4;exact ⟨_,.inl (n5.same _ _ hl4),_,sL _ _,q2 (some z) H5 (n4.same.trans n5.same)⟩
structure ClO(H:Hp)(el:Addr)(i:Nat)(τ:L2.St)(ys:List V)(H':Hp):Prop where
 ex:∃t1 t2,τ=[t1,t2,some (V.ref el)]
 ys:∃ks:List Nat,ys=ks.map iv/\ks.length<=i/\∀k∈ks,k<i
 same:zl H H'
 le:i<=16
def vH(A:zi):Sp:=λvs H Q _=>∃(sh:Addr)(shc:List Addr)(rs:List (List OR)),vs=[.ref sh]/\au H sh shc rs/\kj rs/\TB A H/\∀l (ks:List Nat) H',zD H H'->TB A H'->Fr H l->H' l=some (.lst (ks.map iv))->ks.length<=16->(∀k∈ks,k<rs.length)->Q (.ref l) H'
theorem yA:zw ["_law_shelf","_law_ends"] ["_law_shelf"] (zm jb):=fsc
theorem KA:aQ { kind:=.function,names:=[(vv ".0",.local),(vv "_law_k",.local),(vv "_law_rows_here",.local),(vv "_law_ends",.free)],isGenerator:=false,isCoroutine:=false,more:=[] } (zm jb).names ["_law_shelf","_law_ends"] ["_law_k","_law_rows_here","_law_ends"] [none,none,some 1]=true:=by decide +kernel
theorem vh:(["_law_k","_law_rows_here","_law_ends"]:List Str).Nodup:=by decide +kernel
theorem Fk(F:Fun K "_law_closed" "_law_closed" jb f fd)(T:Txt w K mg A)(Ze:GF P w K mg base true 2 "_law_end" ["_law_shelf","_law_is_hot"] (xp A)):zo P w K mg base CX0 true 3 f fd ["_law_shelf"] (vH A):=by
 refine F.ok yA (λvs H Q E h=>?_) (λZ1 Ar outer s H vs Q E hr h=>?_)
 .obtain ⟨sh,shc,rs,rfl,_⟩:=h;rfl
 .obtain ⟨sh,shc,rs,rfl,S,ok,tb,q⟩:=h;have hu:_<cLine:=Mi (zQ hr);have hl:=ok.len;refine ⟨_,(W.h (zg (zA (i:=1) yA.nd rfl (OM rfl) (aw (za (zt Ze hr rfl (za (zd 0) (za bO zc))) (za (zt Ze hr rfl (za (zd 0) (za bO zc))) zc))))
   (zh (zx (cy (λ_=>rfl) (ar.of KA) (km rfl T.n_enumerate (za (zd 0) zc)) (λ_ _ _ _ _=>(fJ (n:=2) (zU (zB (i:=0) vh rfl (LQ rfl)) (zU (zB (i:=1) vh rfl (LQ rfl)) bS)))) (λ_ _ _ _ _=>(eZ (di (hV (zL (xT hu) (zd 1) (aw zc) (zF _)) (gS (zL (Dg hu) (zd 0) (zd 2) rfl)))))) (λ_ _ _ _ _=>(zd 0))))))),?_⟩
  simp_all only [];refine ⟨sh,shc,rs,true,rfl,S,ok,tb,λe1 H1 s1 WU=>?_⟩;simp_all only [];refine ⟨sh,shc,rs,false,rfl,S.sameT s1,ok,WU,λe0 H2 s2 tb2=>?_⟩;simp_all only [];refine ⟨by decide,λel H3 n3 _=>?_⟩;have s3:zD H H3:=(s1.trans s2).trans (.of n3.same);have tb3:=tb2.same n3.same;have S3:=S.sameT s3;refine ⟨⟨_,SqL.of S3.w⟩,zS.enum (xs:=shc.map V.ref) (ClO H3 el) (λi τ ys H' I=>?_) (λi τ ys H' I=>SqL.of (I.same _ _ S3.w)) ⟨⟨_,_,rfl⟩,⟨[],rfl,we _,by simp⟩,zl.refl _,by lia⟩ ?_ ?_⟩
  .obtain ⟨ks,e,le,_⟩:=I.ys;rw [e,KE];exact aF (by have:=I.le;lia)
  .intro N i x p τ ys H' hx I hp hN;obtain ⟨t1,t2,rfl⟩:=I.ex;obtain ⟨ks,e,le,lt⟩:=I.ys;rw [L6] at hx;obtain ⟨c,hc,rfl⟩:=Mh.mp hx;have hi:i<rs.length:=by rw [<- S.len];exact (LH.mp hc).1
   obtain ⟨vs,hv,pv⟩:=S3.at_ i c hc;refine ⟨p,_,rfl,SqT.of zy,rfl,?_⟩;have nw:New H' p (.tup [.int i,.ref c]) (upd H' p (.tup [.int i,.ref c])):=.mk' hp;generalize upd H' p (.tup [.int i,.ref c])=H0 at nw ⊢;simp_all only [];refine ⟨MM _,λpl H5 n5 _=>⟨_,n5.same _ _ (nw.same _ _ (I.same _ _ hv)),_,n5.at_,.inr rfl,?_⟩⟩;have sm:=(I.same.trans nw.same).trans n5.same;have no:N [some (V.int i),some (V.ref c),some (V.ref el)] ys H5:=hN _ _ _ ⟨⟨_,_,rfl⟩,⟨ks,e,by lia,λk hk=>by have:=lt k hk;lia⟩,sm,by lia⟩;have yes:N [some (V.int i),some (V.ref c),some (V.ref el)] (ys++[.int i]) H5:=hN _ _ _ ⟨⟨_,_,rfl⟩,⟨ks++[i],by rw [e,Mq];rfl,by rw [Md];show _+1<=_;lia,λk hk=>by
    rcases My.mp hk with hk|hk
    .have:=lt k hk;lia
    .rw [LU] at hk;lia⟩,sm,by lia⟩
   by_cases h0:vs.length=0
   .rw [show ([]:List V).length=0 from rfl,decide_eq_true h0];exact no
   .rw [show ([]:List V).length=0 from rfl,decide_eq_false h0];refine ⟨_,.inl (sm _ _ n3.at_),rfl,BZ,?_⟩;cases inV (V.int i) [ov e1,ov e0] with
    | true=>simp_all only [];exact no
    | false=>simp_all only [];exact yes
  .intro τ ys H' I D2 H4 n4 ns;obtain ⟨ks,e,le,lt⟩:=I.ys;rw [KE,S.len] at le lt;rw [e] at n4;have s4:zD H H4:=s3.trans (.of (I.same.trans n4.same));exact q D2 ks H4 s4 (tb3.same (I.same.trans n4.same)) ((s3.trans (.of I.same)).fr n4.no) n4.at_ (by lia) lt
def aE:List OR->List Int
 | []=>[]
 | none::l=>aE l
 | some xs::l=>gO xs::aE l
theorem sS(l m:List OR):aE (l++m)=aE l++aE m:=by
 induction l with
 | nil=>rfl
 | cons o l ih=>cases o with
  | none=>exact ih
  | some xs=>show gO xs::aE (l++m)=_;rw [ih];rfl
theorem wW(l:List OR):(aE l).length<=l.length:=by
 induction l with
 | nil=>exact we _
 | cons o l ih=>cases o with
  | none=>exact Mp ih (PV _)
  | some xs=>exact Nat.succ_le_succ ih
structure KG(H:Hp)(r:List OR)(i:Nat)(τ:L2.St)(ys:List V)(H':Hp):Prop where
 ex:∃t1,τ=[t1]
 ys:ys=(aE (r.take i)).map V.int
 same:H'=H
def qV:Sp:=λvs H Q _=>∃(sh:Addr)(shc:List Addr)(rs:List (List OR))(k:Nat),vs=[.ref sh,.int k]/\au H sh shc rs/\kj rs/\k<rs.length /\
 ∀H',zl H H'->Q (oi (ao (λi=>((-1)::aE (rs.getD k [])).getD i 0) ((aE (rs.getD k [])).length+1))) H'
theorem Lm:zw ["_law_shelf","_law_stretch"] ["_law_shelf","_law_stretch"] (zm k7):=fsc
theorem FD:aQ { kind:=.function,names:=[(vv ".0",.local),(vv "_law_row_here",.local)],isGenerator:=false,isCoroutine:=false,more:=[] } (zm k7).names ["_law_shelf","_law_stretch"] ["_law_row_here"] [none]=true:=by decide +kernel
theorem B7:(["_law_row_here"]:List Str).Nodup:=by decide +kernel
theorem CO(F:Fun K "_law_last" "_law_last" k7 f fd)(T:Txt w K mg A):zo P w K mg base CX0 true 1 f fd ["_law_shelf","_law_stretch"] qV:=by
 refine F.ok Lm (λvs H Q E h=>?_) (λZ1 Ar outer s H vs Q E hr h=>?_)
 .obtain ⟨sh,shc,rs,k,rfl,_⟩:=h;rfl
 .obtain ⟨sh,shc,rs,k,rfl,S,ok,hk,q⟩:=h;have hu:_<cLine:=Mi (zQ hr);refine ⟨_,(W.h (zh (zx (zK (ig rfl) rfl T.n_max boot_max (za (zz aS (aw (za (jR jn zj) zc)) (cy (λ_=>rfl) (ar.of FD) (bR (zH zZ (zd 0) (zd 1) (λ_ _=>rfl))) (λ_ _ _ _ _=>(zB (i:=0) B7 rfl (LQ rfl))) (λ_ _ _ _ _=>(eZ (zL hZ (zd 0) bf (zF _)))) (λ_ _ _ _ _=>(zH zZ (zd 0) zj (λ_ _=>rfl))))) zc))))),?_⟩;have hw:=ok.wide k;have Xz:∀j xs,(rs.getD k [])[j]?=some (some xs)->∃y n ys,xs=V.str y::V.int n::ys:=λj xs e=>ok.keys (xs,k,j) (bV.mpr ⟨hk,(LH.mp e).1,by show (rs.getD k []).getD j none=_;rw [LG,e];rfl⟩);simp_all only [];refine ⟨by decide,λpl H1 n1 _=>?_⟩;have S1:=S.same n1.same;obtain ⟨c,vs,hc,ha,hv,pv,lv⟩:=S1.cell hk;generalize rs.getD k []=r at q pv lv hw Xz;simp_all only [S1.w,ha];refine ⟨⟨_,SqL.of hv⟩,zS.lst (xs:=vs) (KG H1 r) (λi τ ys H' I=>?_) (λi τ ys H' I=>by rw [I.same];exact SqL.of hv) ⟨⟨_,rfl⟩,rfl,rfl⟩ ?_ ?_⟩
  .rw [I.ys,KE];exact aF (by have:=wW (r.take i);have:=Ni i r;lia)
  .intro N i x τ ys H' hx I hN;obtain ⟨t1,rfl⟩:=I.ex;have e:=I.same;subst e;have hi:i<r.length:=by rw [<- lv];exact (LH.mp hx).1
   have hri:r[i]?=some r[i]:=il hi;have hr:=bI pv hx hri;have Yi:=Xz i;rw [hri] at Yi;have et:aE (r.take (i+1))=aE (r.take i)++aE [r[i]]:=by rw [MH,hri,sS];rfl
   generalize r[i]=o at hr Yi et;cases o with
   | none =>
    cases (show x=V.non from hr);simp_all only [];exact hN _ _ _ ⟨⟨_,rfl⟩,by rw [I.ys,et];show _=(_++[]).map _;rw [Nw],rfl⟩
   | some xs =>
    obtain ⟨rr,rfl,hrr⟩:=hr;obtain ⟨y,n,zs,rfl⟩:=Yi xs rfl;have ix:atI (V.str y::V.int n::zs) 1=some (V.int n):=cB (j:=1) (by simp);simp_all only [hrr,ix];exact hN _ _ _ ⟨⟨_,rfl⟩,by rw [I.ys,et,Mq];rfl,rfl⟩
  .intro τ ys H' I D2 H4 n4;have e:=I.same;subst e;have hys:=I.ys;rw [lv,Mj (we _)] at hys;rw [hys] at n4;have kl:=wW r;rw [eI];refine ⟨_,_,n4.same _ _ n1.at_,n4.at_,aK (by simp;lia),λp5 H5 n5=>?_⟩;rw [mx];refine ⟨(-1)::aE r,by rw [n5.at_];rfl,by simp,?_⟩;exact q H5 ((n1.same.trans n4.same).trans n5.same)
end
theorem rE(l:List OR)(k:Nat):∀j,j<=l.length->(rO l k j).map zu=aE (l.take j)
 | 0,_=>by simp [rO,aE]
 | j+1,h=>by
  have hj:j<l.length:=by lia
  show (rO l k j++one (l.getD j none) k j).map zu=_;rw [Mq,rE l k j (by lia),MH,il hj,sS,LG,il hj];show _++(one l[j] k j).map zu=_++aE [l[j]];cases l[j]<;>rfl
theorem tX(l:List Tx)(k:Nat):(rIn l k l.length).map zu=aE (l.map rdT):=by
 rw [jF,rE _ _ _ (by rw [KE];exact we _),Mj (by rw [KE];exact we _)]
theorem yO{k:Nat}:∀n∈aE ((rdR d.rows).getD k []),∃t∈nU d,zu t=n:=λn hn=>by
 by_cases hk:k<d.rows.length
 .rw [bu,<- tX] at hn;obtain ⟨t,ht,rfl⟩:=NK.mp hn;refine ⟨t,?_,rfl⟩;rw [cE];rw [jF] at ht;obtain ⟨i,h1,h2,h3⟩:=i9.mp ht;rw [bV,h3];refine ⟨by rw [bE];exact hk,?_,?_⟩
  .show i<((rdR d.rows).getD k []).length;rw [bu,KE];exact h1
  .show ((rdR d.rows).getD k []).getD i none=_;rw [bu];exact h2
 .rw [bu,LG,Nn (by lia)] at hn;cases hn
theorem rA(ks:List Int)(h:∀n∈ks,0<=n):∀j,j<=ks.length->ao (λi=>((-1)::ks).getD i 0) (j+1)=some (match ao (λi=>ks.getD i 0) j with|none=>-1|some m=>m)/\∀m,ao (λi=>ks.getD i 0) j=some m->m∈ks
 | 0,_=>⟨rfl,λm h=>by cases h⟩
 | j+1,hj=>by
  obtain ⟨e,hm⟩:=rA ks h j (by lia);have Yw:ks.getD j 0∈ks:=fo (by lia);have eg:((-1)::ks).getD (j+1) 0=ks.getD j 0:=rfl;have e1:ao (λi=>((-1)::ks).getD i 0) (j+1+1)=some (match ao (λi=>((-1)::ks).getD i 0) (j+1) with|none=>((-1)::ks).getD (j+1) 0|some m=>if ((-1)::ks).getD (j+1) 0>m then ((-1)::ks).getD (j+1) 0 else m):=rfl;have e2:ao (λi=>ks.getD i 0) (j+1)=some (match ao (λi=>ks.getD i 0) j with|none=>ks.getD j 0|some m=>if ks.getD j 0>m then ks.getD j 0 else m):=rfl;rw [e1,e,e2,eg];cases hb:ao (λi=>ks.getD i 0) j with
  | none =>
   have:=h _ Yw;exact ⟨by show some (if ks.getD j 0 > -1 then _ else _)=_;rw [if_pos (by lia)],λm hm=>by cases hm;exact Yw⟩
  | some m =>
   refine ⟨rfl,λm' hm'=>?_⟩;simp only [Ms.injEq] at hm';rw [<- hm'];split
   .exact Yw
   .exact hm m hb
abbrev qq:Stmt:=top 43
abbrev mj:Stmt:=top 42
abbrev oq:Stmt:=top 41
abbrev nR:Stmt:=top 74
section
variable {P:LV}{w:Mf}{K:Frag}{mg:Str->Option Value}{base:Heap}{A:zi}
def jJ:Sp:=λvs H Q _=>∃a b:Nat,vs=[.int a,.int b]/\Q (.int (gcd a b)) H
structure GcI(H0:Hp)(g:Nat)(m:Nat)(σ:L2.St)(H':Hp):Prop where
 ex:∃x:Nat,σ=[some (V.int x),some (.int m)]/\gcd x m=g
 same:H'=H0
theorem uq:zw ["number","other"] ["number","other"] (zm qq):=fsc
theorem Az(F:Fun K "common_divisor" "common_divisor" qq f fd)(T:Txt w K mg A):zo P w K mg base CX0 true 1 f fd ["number","other"] jJ:=by
 refine F.ok uq (λvs H Q E h=>?_) (λZ1 Ar outer s H vs Q E hr h=>?_)
 .obtain ⟨a,b,rfl,_⟩:=h;rfl
 .obtain ⟨a,b,rfl,q⟩:=h;have hu:_<cLine:=Mi (zQ hr);refine ⟨_,(W.h (zg (sR Nb.never (tD (zL (clO (oE (eG hu))) (clE (zb 1)) (clE zj) (zF _)))
   (zh (vd (i:=0) (j:=1) rfl uq.nd rfl rfl (by decide) rfl rfl (za (zb 1) (za (zz (oI eY) (zb 0) (zb 1)) zc)) rfl)))
   (zh (zx (zb 0))))),?_⟩
  simp_all only [];unfold oh;refine ⟨GcI H (gcd a b),⟨b,⟨a,rfl,rfl⟩,rfl⟩,?_⟩;rintro m σ H' ⟨⟨x,rfl,hg⟩,rfl⟩;simp_all only [];by_cases hm:m=0
  .subst hm;rw [Nat.gcd_zero_right] at hg;subst hg;exact q
  .rw [decide_eq_false (show ¬ ((m:Nat):Int)=0 by lia)];refine ⟨GcI H' (gcd a b) (x % m),λσ' H' h=>⟨_,Nat.mod_lt _ (by lia),h⟩,?_⟩;exact ⟨by lia,⟨m,rfl,by rw [<- hg,gcd_comm m,<- Nat.gcd_rec,gcd_comm]⟩,rfl⟩
theorem wG:zw ["_law_one","_law_other"] ["_law_one","_law_other"] (zm nR):=fsc
theorem Ep(F:Fun K "_law_common" "_law_common" nR f fd)(T:Txt w K mg A):zo P w K mg base CX0 true 1 f fd ["_law_one","_law_other"] jJ:=by
 refine F.ok wG (λvs H Q E h=>?_) (λZ1 Ar outer s H vs Q E hr h=>?_)
 .obtain ⟨a,b,rfl,_⟩:=h;rfl
 .obtain ⟨a,b,rfl,q⟩:=h;refine ⟨_,(W.h (zg (sR Nb.never (tD (zL (clO (oI0 kR)) (clE (zb 1)) (clE zj) (zF _)))
   (zh (vd (i:=0) (j:=1) rfl wG.nd rfl rfl (by decide) rfl rfl (za (zb 1) (za (zz (oI eY) (zb 0) (zb 1)) zc)) rfl)))
   (zh (zx (zb 0))))),?_⟩
  simp_all only [];unfold oh;refine ⟨GcI H (gcd a b),⟨b,⟨a,rfl,rfl⟩,rfl⟩,?_⟩;rintro m σ H' ⟨⟨x,rfl,hg⟩,rfl⟩;simp_all only [];by_cases hm:m=0
  .subst hm;rw [Nat.gcd_zero_right] at hg;subst hg;exact q
  .rw [decide_eq_true (show ((m:Nat):Int)>0 by lia)];refine ⟨GcI H' (gcd a b) (x % m),λσ' H' h=>⟨_,Nat.mod_lt _ (by lia),h⟩,?_⟩;exact ⟨by lia,⟨m,rfl,by rw [<- hg,gcd_comm m,<- Nat.gcd_rec,gcd_comm]⟩,rfl⟩
def cw(d:DM)(k:Nat):Option Int:=ao (λi=>((rIn (d.rows.getD k []) k (d.rows.getD k []).length).map zu).getD i 0) (rIn (d.rows.getD k []) k (d.rows.getD k []).length).length
def hU(n:Int)(o:Option Int):Int:=match o with|none=>n|some l=>n-l
def sX(A:zi):Sp:=λvs H Q _=>∃(p wl sl x:Addr)(cells:List Addr)(m:Int)(d:DM)(k:Nat)(ts:List T3)(n:Int),vs=[.ref p,.ref x,.int k]/\zE A H p wl sl cells m d/\dF d/\k<d.rows.length/\bo A H x ts n/\∀H',zl H H'->Q (.int (hU n (cw d k))) H'
theorem rX:zw ["disk","state","stretch","last"] ["disk","state","stretch"] (zm mj):=fsc
theorem Bc(F:Fun K "age_of" "age_of" mj f fd)(T:Txt w K mg A)(Zp:GF P w K mg base true 9 "last_number" ["disk","stretch"] (uI A))(Z6:GM P w K mg base true 1 A.State "next_number" ["self"] (k8 A)):zo P w K mg base CX0 true 10 f fd ["disk","state","stretch"] (sX A):=by
 refine F.ok rX (λvs H Q E h=>?_) (λZ1 Ar outer s H vs Q E hr h=>?_)
 .obtain ⟨p,wl,sl,x,cells,m,d,k,ts,n,rfl,_⟩:=h;rfl
 .obtain ⟨p,wl,sl,x,cells,m,d,k,ts,n,rfl,D,tx,hk,hS,q⟩:=h;refine ⟨_,(W.h (zg (zA (i:=3) rX.nd rfl (LQ rfl) (caD (zt Zp hr rfl (clP (za (zb 0) (za (zb 2) zc))))))
   (zh (zx (jS (tD (zL (clO nJ) (clE (zb 3)) (clE bf) (zF _))) (m0D (br (clE (zb 1)) T.cl_State Z6 hr)) (zz (oI0 fg) (m0D (br (clE (zb 1)) T.cl_State Z6 hr)) (zb 3))))))),?_⟩
  simp_all only [];refine ⟨p,wl,sl,cells,m,d,k,rfl,D,tx,hk,λH1 s1=>?_⟩;have S1:=hS.sameT (.of s1);obtain ⟨dx,f1,dd,mm,kvs,e1,_⟩:=id S1.ex;have q1:=q H1 s1;unfold cw at q1;generalize ao (λi=>((rIn (d.rows.getD k []) k (d.rows.getD k []).length).map zu).getD i 0) (rIn (d.rows.getD k []) k (d.rows.getD k []).length).length=o at q1 ⊢;cases o with
  | none =>
   simp_all only [oi,e1,lG];exact ⟨x,ts,n,rfl,S1,q1⟩
  | some l =>
   simp_all only [oi,e1,lG];refine ⟨x,ts,n,rfl,S1,?_⟩;simp_all only [];exact q1
def al(ts:List T3)(k:Nat):Nat:=(pk ts k).length
theorem JH{k:Nat}(h:jH ts k ns):ns.length=al ts k:=by
 obtain ⟨ps,pm,_,rfl⟩:=h;rw [KE];exact pm.length_eq
def uo(A:zi):Sp:=λvs H Q _=>∃(p wl sl x:Addr)(cells:List Addr)(m:Int)(d:DM)(k:Nat)(ts:List T3)(n:Int),vs=[.ref p,.ref x,.int k]/\zE A H p wl sl cells m d/\dF d/\k<d.rows.length/\bo A H x ts n/\(al ts k:Int)<=m/\2<=m/\m<=32/\0<=hU n (cw d k) /\
 ∀tp (u l:Nat) H',zl H H'->(u:Int)=(m-al ts k)*hU n (cw d k)->(l:Int)=m+al ts k->H' tp=some (.tup [.int (u / gcd u l:Nat),.int (l / gcd u l:Nat)])->Q (.ref tp) H'
theorem ij:zw ["disk","state","stretch","many","upper","lower","divisor"] ["disk","state","stretch"] (zm oq):=fsc
theorem BJ(F:Fun K "worth" "worth" oq f fd)(T:Txt w K mg A)(YX:GF P w K mg base true 2 "living_in" ["state","stretch"] (vk A))(Z2:GM P w K mg base true 1 A.Disk "places" ["self"] (gq A λm _=>.int m))(Yk:GF P w K mg base true 10 "age_of" ["disk","state","stretch"] (sX A))(ZI:GF P w K mg base true 1 "common_divisor" ["number","other"] jJ):zo P w K mg base CX0 true 11 f fd ["disk","state","stretch"] (uo A):=by
 refine F.ok ij (λvs H Q E h=>?_) (λZ1 Ar outer s H vs Q E hr h=>?_)
 .obtain ⟨p,wl,sl,x,cells,m,d,k,ts,n,rfl,_⟩:=h;rfl
 .obtain ⟨p,wl,sl,x,cells,m,d,k,ts,n,rfl,D,tx,hk,hS,h1,h2,h3,h4,q⟩:=h;refine ⟨_,(W.h (zg (zA (i:=3) ij.nd rfl (LQ rfl) (zK cO rfl T.n_len Mr (za (caD (zt YX hr rfl (clP (za (zb 1) (za (zb 2) zc))))) zc)))
   (zg (zA (i:=4) ij.nd rfl (LQ rfl) (zz dP (zz (oI0 fg) (m0D (br (clE (zb 0)) T.cl_Disk Z2 hr)) (zb 3)) (caD (zt Yk hr rfl (clP (za (zb 0) (za (zb 1) (za (zb 2) zc))))))))
   (zg (zA (i:=5) ij.nd rfl (LQ rfl) (zz eO (m0D (br (clE (zb 0)) T.cl_Disk Z2 hr)) (zb 3)))
   (zg (zA (i:=6) ij.nd rfl (LQ rfl) (caD (zt ZI hr rfl (clP (za (zb 4) (za (zb 5) zc))))))
   (zh (zx (aP (za (zz (oI o3) (zb 4) (zb 6)) (za (zz (oI o3) (zb 5) (zb 6)) zc)))))))))),?_⟩
  simp_all only [];refine ⟨x,ts,k,n,rfl,hS,λl ns H1 s1 l0 _ hl hal=>?_⟩;have D1:=D.sameT (.of s1);obtain ⟨dx,g1⟩:=D1.ob;simp_all only [hl,g1,kU];rw [KE,JH hal];generalize eo:hU n (cw d k)=ag at h4 q;have u0:0<=(m-al ts k)*ag:=Int.mul_nonneg (by lia) h4;obtain ⟨u,eu⟩:∃u:Nat,(u:Int)=(m-al ts k)*ag:=⟨((m-al ts k)*ag).toNat,Int.toNat_of_nonneg u0⟩;obtain ⟨v,ev⟩:∃v:Nat,(v:Int)=m+al ts k:=⟨(m+al ts k).toNat,by lia⟩;have gp:0<gcd u v:=Nat.gcd_pos_of_pos_right _ (by lia);have gl:gcd u v<=v:=Nat.gcd_le_right _ (by lia);refine ⟨p,wl,sl,cells,m,d,rfl,D1,p,wl,sl,x,cells,m,d,k,ts,n,rfl,D1,tx,hk,hS.sameT (.of s1),λH2 s2=>?_⟩;have D2:=D1.sameT (.of s2);obtain ⟨XB,g2⟩:=D2.ob;rw [eo];simp_all only [g2,kU];refine ⟨.inl ⟨by lia,by lia⟩,p,wl,sl,cells,m,d,rfl,D2,?_⟩;simp_all only [];rw [<- eu,<- ev];refine ⟨u,v,rfl,⟨⟨by lia,by lia⟩,⟨by lia,by lia⟩,by decide,λtp H3 n3=>q tp u v H3 ((s1.trans s2).trans n3.same) eu ev ?_⟩⟩;rw [n3.at_];rfl
end
abbrev jK:Stmt:=top 72
abbrev nE:Stmt:=top 73
abbrev lB:Stmt:=top 75
theorem Hj{a b c:V}:atI [a,b,c] 1=some b:=rfl
theorem qB(ok:DOk d){k:Nat}:ao (λi=>((-1)::aE ((rdR d.rows).getD k [])).getD i 0) ((aE ((rdR d.rows).getD k [])).length+1)=some (match cw d k with|none=>-1|some m=>m)/\∀m,cw d k=some m->∃t∈nU d,zu t=m:=by
 have ek:(rIn (d.rows.getD k []) k (d.rows.getD k []).length).map zu=aE ((rdR d.rows).getD k []):=by rw [tX,bu]
 have el:(rIn (d.rows.getD k []) k (d.rows.getD k []).length).length=(aE ((rdR d.rows).getD k [])).length:=by rw [<- ek,KE]
 obtain ⟨eb,hm⟩:=rA (aE ((rdR d.rows).getD k [])) (λn hn=>by obtain ⟨t,ht,e⟩:=yO n hn;have:=ok.pos t ht;lia) _ (we _);unfold cw;rw [ek,el];exact ⟨eb,λm h=>yO m (hm m h)⟩
theorem DL(ok:DOk d){k:Nat}(hn:∀t∈nU d,zu t<n)(n0:0<n):0<=hU n (cw d k):=by
 have h:=(qB ok (k:=k)).2;cases e:cw d k with
 | none=>show 0<=n;lia
 | some l =>
  obtain ⟨t,ht,et⟩:=h l e;have:=hn t ht;show 0<=n-l;lia
section
variable {P:LV}{w:Mf}{K:Frag}{mg:Str->Option Value}{base:Heap}{A:zi}
theorem JR:zw ["_law_thing"] ["_law_thing"] (zm nE):=fsc
theorem Cs(F:Fun K "_law_is_whole" "_law_is_whole" nE f fd)(T:Txt w K mg A):zo P w K mg base CX0 cm 1 f fd ["_law_thing"] ll:=by
 refine F.ok JR (λvs H Q E h=>?_) (λZ1 Ar outer s H vs Q E hr h=>?_)
 .obtain ⟨v,rfl,_⟩:=h;rfl
 .obtain ⟨v,rfl,th,q⟩:=h;refine ⟨_,(W.h (zh (zx (anD (kh (clE (zK fA rfl T.n_isinstance NH (za (zb 0) (za (fP rfl T.n_int boot_int (v:=.ty "int") rfl) zc)))) (iH (ntD (vQ (clE (zK fA rfl T.n_isinstance NH (za (zb 0) (za (fP rfl T.n_bool boot_bool (v:=.ty "bool") rfl) zc)))))))))))),?_⟩;simp_all only [];refine sD th ?_;cases th with
  | int i=>dsimp only [bD];exact gK (ki (.int i) q)
  | bl i=>dsimp only [bD];exact gK (ki (.bl i) q)
  | _=>dsimp only [bD];exact gG q
structure LwI(H:Hp)(k:Int)(ts:List T3)(i:Nat)(τ:L2.St)(ys:List V)(H':Hp):Prop where
 ex:∃t1,τ=[t1,some (.int k)]
 ys:ys.length=(pk (ts.take i) k).length
 same:H'=H
def rD:Sp:=λvs H Q _=>∃(sh l:Addr)(shc as:List Addr)(d:DM)(ts:List T3)(m n:Int)(k:Nat),vs=[.ref sh,.int m,.ref l,.int n,.int k]/\au H sh shc (rdR d.rows)/\DOk d/\k<d.rows.length/\H l=some (.lst (as.map V.ref))/\Paired (dh H) as ts/\ts.length<40/\2<=m/\m<=32 /\
 ∀tp H',zl H H'->H' tp=some (.tup [.int ((m-al ts k)*hU n (cw d k)),.int (m+al ts k)])->Q (.ref tp) H'
theorem wm:zw ["_law_shelf","_law_places","_law_spots","_law_following","_law_stretch","_law_alive"] ["_law_shelf","_law_places","_law_spots","_law_following","_law_stretch"] (zm jK):=fsc
theorem Jl:aQ { kind:=.function,names:=[(vv ".0",.local),(vv "_law_one",.local),(vv "_law_stretch",.free)],isGenerator:=false,isCoroutine:=false,more:=[] } (zm jK).names ["_law_shelf","_law_places","_law_spots","_law_following","_law_stretch","_law_alive"] ["_law_one","_law_stretch"] [none,some 4]=true:=by decide +kernel
theorem G0:(["_law_one","_law_stretch"]:List Str).Nodup:=by decide +kernel
theorem Bz(F:Fun K "_law_worth" "_law_worth" jK f fd)(T:Txt w K mg A)(YW:GF P w K mg base true 1 "_law_last" ["_law_shelf","_law_stretch"] qV):zo P w K mg base CX0 true 2 f fd ["_law_shelf","_law_places","_law_spots","_law_following","_law_stretch"] rD:=by
 refine F.ok wm (λvs H Q E h=>?_) (λZ1 Ar outer s H vs Q E hr h=>?_)
 .obtain ⟨sh,l,shc,as,d,ts,m,n,k,rfl,_⟩:=h;rfl
 .obtain ⟨sh,l,shc,as,d,ts,m,n,k,rfl,S,ok,hk,hl,hp,hts,m2,m32,q⟩:=h;have hu:_<cLine:=Mi (zQ hr);refine ⟨_,(W.h (zg (zA (i:=5) wm.nd rfl (LQ rfl) (zK cO rfl T.n_len Mr (za (cy (λ_=>rfl) (ar.of Jl) (liD (bR (clE (zb 2)))) (λ_ _ _ _ _=>(zB (i:=0) G0 rfl (LQ rfl))) (λ_ _ _ _ _=>(eZ (tD (zL (clO (oE (bw hu))) (clE (zH c8 (zb 0) zj (λ_ _=>rfl))) (clE (zb 1)) (zF _))))) (λ_ _ _ _ _=>(zb 0))) zc)))
   (zh (zx (aP (za (zz dP (zz (oI0 fg) (zb 1) (zb 5)) (zz (oI0 fg) (zb 3) (zK (ig rfl) rfl T.n_max boot_max (za zj (za (caD (zt YW hr rfl (clP (za (zb 0) (za (zb 4) zc))))) zc))))) (za (zz eO (zb 1) (zb 5)) zc))))))),?_⟩
  have Z5:=ay hp;simp_all only [];refine ⟨⟨_,SqL.of hl⟩,zS.lst (xs:=as.map V.ref) (LwI H k ts) (λi τ ys H' I=>?_) (λi τ ys H' I=>by rw [I.same];exact SqL.of hl) ⟨⟨_,rfl⟩,rfl,rfl⟩ ?_ ?_⟩
  .have h2:=Ni i ts;have:=jI (ts.take i) k;rw [I.ys];exact aF (by lia)
  .intro N i v τ ys H' hv I hN;obtain ⟨t1,rfl⟩:=I.ex;have e':=I.same;subst e';rw [L6] at hv;obtain ⟨a,ha,rfl⟩:=Mh.mp hv;have hi:i<ts.length:=by rw [<- Z5];exact (LH.mp ha).1
   have YE:ts[i]?=some ts[i]:=il hi;have ht:H' a=_:=bI hp ha YE;have sn:=wX (ts.take i) k ts[i];have tk:ts.take (i+1)=ts.take i++[ts[i]]:=by rw [MH,YE];rfl
   generalize ts[i]=t at ht sn tk;simp_all only [ht,Hj];by_cases hk:t.2.1=(k:Int)
   .rw [decide_eq_true hk]
    try simp_all only []
    exact hN _ _ _ ⟨⟨_,rfl⟩,by rw [tk,sn,if_pos hk,Md,Md,I.ys];rfl,rfl⟩
   .rw [decide_eq_false hk]
    try simp_all only []
    exact hN _ _ _ ⟨⟨_,rfl⟩,by rw [tk,sn,if_neg hk];exact I.ys,rfl⟩
  .intro τ ys H2 I D H3 n3;have e':=I.same;subst e';have hy:=I.ys;rw [KE,Z5,Mj (we _)] at hy;have hy:ys.length=al ts k:=hy;have hD:=n3.at_;simp_all only [hD];refine ⟨sh,shc,_,k,rfl,S.same n3.same,ok.sh,by rw [bE];exact hk,λH4 s4=>?_⟩;rw [(qB ok).1,hy];have ZO:∀m,cw d k=some m->1<=m:=λm e=>by obtain ⟨t,ht,et⟩:=(qB ok).2 m e;have:=ok.pos t ht;lia
   have q4:=λtp H' s=>q tp H' ((n3.same.trans s4).trans s);clear q;have al40:al ts k<=40:=by have:=jI ts k;unfold al;lia
   cases e:cw d k with
   | none =>
    rw [e] at q4;simp_all only [oi];rw [if_neg (by decide),Int.sub_zero];exact ⟨.inl ⟨by lia,by lia⟩,by decide,λtp H5 n5=>q4 tp H5 n5.same n5.at_⟩
   | some l =>
    rw [e] at q4;have:=ZO l e;simp_all only [oi];rw [if_pos (by lia)];exact ⟨.inl ⟨by lia,by lia⟩,by decide,λtp H5 n5=>q4 tp H5 n5.same n5.at_⟩
structure RgI(H:Hp)(p sh x l:Addr)(i:Nat)(σ:L2.St)(H':Hp):Prop where
 ex:∃t1 t2 t3 t4 t5,σ=[some (.ref p),some (.ref sh),some (.ref x),some (.ref l),t1,t2,t3,t4,t5]
 same:zl H H'
structure WhI(H:Hp)(i:Nat)(τ:L2.St)(ys:List V)(H':Hp):Prop where
 ex:∃t1,τ=[t1]
 ys:ys=Mg i (.bl true)
 same:H'=H
 le:i<=2
def sV(A:zi):Sp:=λvs H Q _=>∃(p wl sl sh x l:Addr)(cells shc as:List Addr)(m:Int)(d:DM)(ts:List T3)(n:Int),vs=[.ref p,.ref sh,.ref x,.ref l]/\DW A H p wl sl sh cells shc m d/\bo A H x ts n/\H l=some (.lst (as.map V.ref))/\Paired (dh H) as ts/\(∀k,(al ts k:Int)<=m)/\2<=m/\m<=32/\(∀t∈nU d,zu t<n)/\0<n /\
 ∀H',zD H H'->TB A H'->Q (.bl true) H'
theorem hX:zw ["_law_disk_here","_law_shelf","_law_state_here","_law_spots","_law_stretch","_law_told","_law_upper","_law_lower","_law_due"] ["_law_disk_here","_law_shelf","_law_state_here","_law_spots"] (zm lB):=fsc
theorem Kh:aQ { kind:=.function,names:=[(vv ".0",.local),(vv "_law_one",.local),(vv "_law_is_whole",.globalImplicit)],isGenerator:=false,isCoroutine:=false,more:=[] } (zm lB).names ["_law_disk_here","_law_shelf","_law_state_here","_law_spots","_law_stretch","_law_told","_law_upper","_law_lower","_law_due"] ["_law_one"] [none]=true:=by decide +kernel
theorem C8:(["_law_one"]:List Str).Nodup:=by decide +kernel
theorem Lz(F:Fun K "_law_right" "_law_right" lB f fd)(T:Txt w K mg A)(Zo:GF P w K mg base true 3 "_law_closed" ["_law_shelf"] (vH A))(X6:GF P w K mg base true 11 "worth" ["disk","state","stretch"] (uo A))(ZE:GF P w K mg base true 1 "_law_is_whole" ["_law_thing"] ll)(Z2:GM P w K mg base true 1 A.Disk "places" ["self"] (gq A λm _=>.int m))(Z6:GM P w K mg base true 1 A.State "next_number" ["self"] (k8 A))(Zd:GF P w K mg base true 2 "_law_worth" ["_law_shelf","_law_places","_law_spots","_law_following","_law_stretch"] rD)(Zn:GF P w K mg base true 1 "_law_common" ["_law_one","_law_other"] jJ):zo P w K mg base CX0 true 12 f fd ["_law_disk_here","_law_shelf","_law_state_here","_law_spots"] (sV A):=by
 refine F.ok hX (λvs H Q E h=>?_) (λZ1 Ar outer s H vs Q E hr h=>?_)
 .obtain ⟨p,wl,sl,sh,x,l,cells,shc,as,m,d,ts,n,rfl,_⟩:=h;rfl
 .obtain ⟨p,wl,sl,sh,x,l,cells,shc,as,m,d,ts,n,rfl,Ww,hS,hl,hp,hal,m2,m32,hn,n0,q⟩:=h;have hu:_<cLine:=Mi (zQ hr);refine ⟨_,(W.h (zg (cb Nb.never (λ_=>rfl) (liD (bR (clE (caD (zt Zo hr rfl (clP (za (zb 1) zc))))))) (zB (i:=4) hX.nd rfl (LQ rfl))
   (zg (zA (i:=5) hX.nd rfl (LQ rfl) (caD (zt X6 hr rfl (clP (za (zb 0) (za (zb 2) (za (zb 4) zc)))))))
   (zg (zR (di (eT (cQ (aX (zK fA rfl T.n_isinstance NH (za (zb 5) (za (fP rfl T.n_tuple boot_tuple (v:=.ty "tuple") rfl) zc))))) (eT (tD (zL (clO (oE (eG hu))) (clE (zK cO rfl T.n_len Mr (za (zb 5) zc))) (clE zj) (zF _))) (iS (cQ (aX (zK (xl rfl) rfl T.n_all boot_all (za (cy (λ_=>rfl) (ar.of Kh) (BS (zb 5)) (λ_ _ _ _ _=>(zB (i:=0) C8 rfl (LQ rfl))) (λ_ _ _ _ _=>cN) (λ_ _ _ _ _=>(caD (zt ZE hr rfl (clP (za (zb 0) zc)))))) zc))))))))
   (zh (zx bO))
   aa)
   (zg (cW (zb 5) (eK (n:=2) (gsD (zU (zB (i:=6) hX.nd rfl (LQ rfl)) (gsD (zU (zB (i:=7) hX.nd rfl (LQ rfl)) bS))))))
   (zg (zA (i:=8) hX.nd rfl (LQ rfl) (caD (zt Zd hr rfl (clP (za (zb 1) (za (m0D (br (clE (zb 0)) T.cl_Disk Z2 hr)) (za (zb 3) (za (m0D (br (clE (zb 2)) T.cl_State Z6 hr)) (za (zb 4) zc)))))))))
   (zh (zR (di (eT (tD (zL (clO (oI0 fT)) (clE (zb 6)) (clE zj) (zF _))) (eT (tD (zL (clO (oI0 fT)) (clE (zb 7)) (clE zj) (zF _))) (eT (tD (zL (clO (oE (eG hu))) (clE (caD (zt Zn hr rfl (clP (za (zb 6) (za (zb 7) zc)))))) (clE zj) (zF _))) (iS (tD (zL (clO (oE (eG hu))) (clE (zz dP (zb 6) (zH c8 (zb 8) zj (λ_ _=>rfl)))) (clE (zz dP (zH c8 (zb 8) zj (λ_ _=>rfl)) (zb 7))) (zF _))))))))
   (zh (zx bO))
   aa)))))))
   (zh (zx bO)))),?_⟩
  have ok:=Ww.ok;simp_all only [];refine ⟨sh,shc,_,rfl,Ww.shelf,ok.sh,Ww.tb,λcl ks H1 s1 WU f1 hcl kl kr=>?_⟩
  try simp_all only []
  refine ⟨⟨_,SqL.of hcl⟩,aB.lst (xs:=ks.map iv) (RgI H1 p sh x l) ⟨⟨_,_,_,_,_,rfl⟩,zl.refl _⟩ (λi σ H' _ I=>SqL.of (I.same _ _ hcl)) ?_ ?_⟩
  .rintro i v σ H2 hv ⟨⟨t1,t2,t3,t4,t5,rfl⟩,s2⟩;rw [L6] at hv;obtain ⟨k,hk,rfl⟩:=Mh.mp hv;have hkr:k<d.rows.length:=by have:=kr k (LX hk);rw [bE] at this;exact this
   have s02:=s1.trans (.of s2);have D2:=Ww.disk.sameT s02;show dX 4 (.int k) _ _ _
   try simp_all only []
   have S2:=hS.sameT s02;refine ⟨p,wl,sl,x,cells,m,d,k,ts,n,rfl,D2,ok.tx,hkr,S2,hal k,m2,m32,DL ok hn n0,λtp u v H3 s3 eu ev Xd=>?_⟩;have s03:=s02.trans (.of s3);have gp:0<gcd u v:=Nat.gcd_pos_of_pos_right _ (by lia);have vp:0<v / gcd u v:=Nat.div_pos (Nat.gcd_le_right _ (by lia)) gp;have cop:gcd (u / gcd u v) (v / gcd u v)=1:=by rw [Nat.gcd_div (Nat.gcd_dvd_left u v) (Nat.gcd_dvd_right u v),Nat.div_self gp]
   have crs:(u / gcd u v)*v=u*(v / gcd u v):=by
    rw [<- Nat.mul_div_right_comm (Nat.gcd_dvd_left u v),<- Nat.mul_div_assoc _ (Nat.gcd_dvd_right u v)]
   generalize u / gcd u v=a at Xd cop crs;have bv:v / gcd u v<=v:=Nat.div_le_self ..;have v64:v<=64:=by have:=hal k;lia
   generalize v / gcd u v=b at Xd cop crs vp bv;refine ⟨_,_,_,_,_,rfl,rfl,.of (.tup Xd),rfl,?_⟩;simp_all only [Xd];refine ⟨⟨_,SqT.of Xd⟩,zS.tup (xs:=[.int a,.int b]) (WhI H3) (λi τ ys H' I=>?_) (λi τ ys H' I=>by rw [I.same];exact SqT.of Xd) ⟨⟨_,rfl⟩,rfl,rfl,by decide⟩ ?_ ?_⟩
   .rw [I.ys,MQ];exact aF (by have:=I.le;lia)
   .intro N i v τ ys H' hv I hN;obtain ⟨t1,rfl⟩:=I.ex;obtain ⟨z,rfl⟩:∃z:Int,v = .int z:=by
     have:=LX hv;simp only [LI,LP,or_false] at this;rcases this with h|h<;>exact ⟨_,h⟩
    simp_all only [];exact ⟨_,rfl,.int z,hN _ _ _ ⟨⟨_,rfl⟩,by rw [I.ys,List.replicate_succ'];rfl,I.same,(LH.mp hv).1⟩⟩
   .intro τ ys H' I D3 H4 n4;have e':=I.same;subst e';rw [I.ys] at n4;rw [uG];refine ⟨[true,true],n4.at_,?_⟩;simp_all only [];have s34:zD H H4:=s03.trans (.of n4.same);have ht4:=n4.same _ _ Xd;refine ⟨tp,_,rfl,SqT.of ht4,rfl,?_⟩;have D4:=Ww.disk.sameT s34;obtain ⟨dx4,g4⟩:=D4.ob;have S4:=hS.sameT s34;obtain ⟨dxs,f1,dd,mm,kvs,e4,_⟩:=id S4.ex;simp_all only [g4,kU];refine ⟨p,wl,sl,cells,m,d,rfl,D4,?_⟩;simp_all only [e4,lG];refine ⟨x,ts,n,rfl,S4,?_⟩;refine ⟨sh,l,shc,as,d,ts,m,n,k,rfl,Ww.shelf.sameT s34,ok,hkr,s34.list hl,Paired.mapP hp λa t r=>s34.tup r,by have:=hS.ok.few;lia,m2,m32,λtq H5 s5 hq=>?_⟩;rw [<- eu,<- ev] at hq;have i0:atI [V.int u,.int v] 0=some (.int u):=rfl;have i1:atI [V.int u,.int v] 1=some (.int v):=rfl;simp_all only [hq,i0,i1];rw [decide_eq_false (by lia),decide_eq_false (by lia)];refine ⟨a,b,rfl,?_⟩;rw [cop];simp_all only [];refine ⟨_,.inr hq,_,i1,?_⟩;simp_all only [];refine ⟨.inr ⟨by lia,by lia⟩,_,.inr hq,_,i0,?_⟩;simp_all only [];refine ⟨.inr ⟨by lia,by lia⟩,?_⟩;rw [decide_eq_true (show ((a:Nat):Int)*(v:Nat)=(u:Nat)*(b:Nat) by exact_mod_cast crs)];exact ⟨⟨_,_,_,_,_,rfl⟩,((s2.trans s3).trans n4.same).trans s5⟩
  .rintro σ H2 ⟨⟨t1,t2,t3,t4,t5,rfl⟩,s2⟩;simp_all only [];exact q H2 (s1.trans (.of s2)) (WU.same s2)
end
abbrev lN:Stmt:=top 77
theorem DOk.rows(h:DOk d)(e:d'.rows=d.rows):DOk d':=by
 have en:nU d'=nU d:=by unfold nU;rw [e]
 exact ⟨⟨by rw [e];exact h.tx.ok,by rw [e];exact h.tx.len⟩,by rw [en];exact h.nd,by rw [en];exact h.few,by rw [en];exact h.pos,by rw [en];exact h.row⟩
theorem zD.keeps{H0:Hp}(s:zD H0 H)(k:zr F H H')(f:∀x∈F,Fr H0 x):zD H0 H':=λb o n e=>k b o (s b o n e) λz=>f b z o n e
theorem SqL.sameT{K:Frag}(s:zD H H')(h:SqL K H a xs):SqL K H' a xs:=by
 rcases h with (h|⟨o,h⟩)|h
 .exact .inl (.inl (s.list h))
 .exact .inl (.inr ⟨o,s _ _ (λ_=>nofun) h⟩)
 .exact .inr h
theorem zD.butT{H0:Hp}(s:zD H0 H)(k:aO a H H')(f:Fr H0 a):zD H0 H':=λb o n e=>k b o (λz=>f o n (by rw [<- z];exact e)) n (s b o n e)
theorem FH{p dp d:Addr}{m':Int}{dm:DM}(h:H x=some (.ins A.State dx (cV f d n m)))(h':H p=some (.ins A.Disk dp (zG m' wl sl dm))):x≠p:=λz=>by
 rw [z,h'] at h;have h:=Ms.inj h;simp only [HO.ins.injEq,zG,cV,List.cons.injEq,Prod.mk.injEq] at h;exact absurd h.2.2.1.1 (f!"")
theorem bo.disk{p:Addr}{dm:DM}(h:bo A H x ts n)(D:zE A H p wl sl cells m dm)(b:zr (p::wl::sl::cells) H H'):bo A H' x ts n:=by
 obtain ⟨dx,f,d,mm,kvs,e1,e2,e3⟩:=h.ex;obtain ⟨dp,ep⟩:=D.ob;have out:∀{c:Addr}{o:HO},H c=some o->(∀xs,o≠.lst xs)->(∀C dx fs,o≠.ins C dx fs)->H' c=some o:=λ{c o} e n1 n2=>b _ _ e λz=>by
  rcases D.lists c z with ⟨xs,q⟩|⟨C,dx,fs,q⟩
  .rw [q] at e;cases e;exact n1 _ rfl
  .rw [q] at e;cases e;exact n2 _ _ _ rfl
 refine ⟨⟨dx,f,d,mm,kvs,b _ _ e1 λz=>?_,out e2 (λ_=>nofun) (λ_ _ _=>nofun),Paired.mapP e3 λp t r=>r.keep λr xs e=>out e (λ_=>nofun) (λ_ _ _=>nofun)⟩,h.ok⟩;rcases LI.mp z with z|z
 .exact FH e1 ep z
 .have hx:=LO p z;rcases LI.mp z with rfl|z
  .rw [D.rows.w] at e1;cases e1
  .rcases LI.mp z with rfl|z
   .rw [D.sides] at e1;cases e1
   .obtain ⟨i,hi,rfl⟩:=MI z;rw [D.rows.at_ i _ (il hi)] at e1;cases e1
theorem oK:∀(n:Nat)(l:List Int),l.Nodup->(∀x∈l,0<=x/\x<n)->l.length<=n
 | 0,l,_,h=>by
  cases l with
  | nil=>exact we _
  | cons x l=>have:=h x (Mc ..);lia
 | n+1,l,nd,h=>by
  by_cases hn:(n:Int)∈l
  .have:=oK n (l.erase n) (nd.erase _) λx hx=>by
    have h1:=(List.Nodup.mem_erase_iff nd).mp hx;have:=h x h1.2;have:=h1.1;lia
   rw [List.length_erase_of_mem hn] at this;lia
  .have:=oK n l nd λx hx=>by
    have:=h x hx;have:x≠n:=λz=>hn (z ▸ hx);lia
   lia
theorem E5(sm:SpM d ts)(wide:∀i,((d.rows.getD i []).length:Int)<=m)(k:Nat):(al ts k:Int)<=m:=by
 refine Int.le_trans (Int.ofNat_le.mpr ?_) (wide k);unfold al pk;rw [KE,<- KE (f:=λt:T3=>t.2.2)];refine oK _ _ (Nf.mpr (((Nf.mp sm.nd).filter _).imp_of_mem λ{a b} ha hb z e=>z ?_)) λx hx=>?_
 .obtain ⟨t,ht,rfl⟩:=NK.mp hx;obtain ⟨ht,hk⟩:=Pz.mp ht;have hk:=of_decide_eq_true hk;obtain ⟨s,hs,es⟩:=sm.at_ t ht;rw [es] at hk ⊢;rw [cE] at hs;have h1:=(bV.mp hs).2.1;have hk:s.2.1=k:=by have:(s.2.1:Int)=k:=hk;lia
  rw [hk,bu,KE] at h1;exact ⟨by show (0:Int)<=(s.2.2:Nat);lia,by show ((s.2.2:Nat):Int)<_;lia⟩
 .have h1:=of_decide_eq_true (Pz.mp ha).2;have h2:=of_decide_eq_true (Pz.mp hb).2;exact Prod.ext (h1.trans h2.symm) e
section
variable {P:LV}{w:Mf}{K:Frag}{mg:Str->Option Value}{base:Heap}{A:zi}
structure Ik(A:zi)(H0:Hp)(sc:V)(i:Nat)(σ:L2.St)(H':Hp):Prop where
 ex:∃t1 t2 t3 t4 t5 t6 t7 t8,σ=[some sc,t1,t2,t3,t4,t5,t6,t7,t8]
 same:zD H0 H'
 tb:TB A H'
structure In3(A:zi)(H0:Hp)(σ0:L2.St)(i:Nat)(σ:L2.St)(H':Hp):Prop where
 ex:∃t,σ=σ0++[t]
 same:zD H0 H'
 tb:TB A H'
def kX(t1:Addr)(K:Frag):Sp:=λvs H Q _=>∃(a:Addr)(ns:List Int),vs=[.ref a]/\SqL K H a (ns.map V.int)/\ns.length<=63/\H t1=some (.tbl #[])/\∀H',Q (.bl true) H'
theorem d9:zw ["_law_script","_law_k","_law_pot_here","_law_disk_here","_law_shelf","_law_state_here","_law_spots","_law_later","_law_one"] ["_law_script"] (zm lN):=fsc
theorem E4(F:Fun K "law" "law" lN f fd)(T:Txt w K mg A)(YH:GF P w K mg base true 2 "_law_pot" ["_law_script","_law_k"] (vj K))(YV:GF P w K mg base true 7 "_law_disk" ["_law_pot_here"] (tN A))(Zc:GF P w K mg base true 7 "_law_state" ["_law_pot_here","_law_shelf"] (xQ A))(Zm:GM P w K mg base true 5 A.State "files" ["self"] (tH A))(Z6:GM P w K mg base true 1 A.State "next_number" ["self"] (k8 A))(Z9:GF P w K mg base true 1 "_law_draw" ["_law_pot_here","_law_many"] cL)(YS:GC P w K mg base true 5 "State" A.State ["self","files","spots","next_number","mark_number"] (lY A))(ZC:GF P w K mg base true 12 "_law_right" ["_law_disk_here","_law_shelf","_law_state_here","_law_spots"] (sV A))(Zl:GF P w K mg base true 4 "_law_halted" ["_law_disk_here"] (rH A)):zo P w K mg base CX0 true 14 f fd ["_law_script"] (kX A.t__law_rows K):=by
 refine F.ok d9 (λvs H Q E h=>?_) (λZ1 Ar outer s H vs Q E hr h=>?_)
 .obtain ⟨a,ns,rfl,_⟩:=h;rfl
 .obtain ⟨sc,ns,rfl,hS,hl,hT1,q⟩:=h;have hu:_<cLine:=Mi (zQ hr);refine ⟨_,(W.h (zg (cb Nb.never (λ_=>rfl) (fq rfl T.n_range (za (zK (ig rfl) rfl T.n_max boot_max (za zj (za (zK (pT rfl) rfl T.n_min boot_min (za (zK kP rfl T.n_len Mr (za (zb 0) zc)) (za zj zc))) zc))) zc)) (zB (i:=1) d9.nd rfl (LQ rfl))
   (zg (zA (i:=2) d9.nd rfl (LQ rfl) (caD (zt YH hr rfl (clP (za (zb 0) (za (zb 1) zc))))))
   (zg (cW (caD (zt YV hr rfl (clP (za (zb 2) zc)))) (eK (n:=2) (gsD (zU (zB (i:=3) d9.nd rfl (LQ rfl)) (gsD (zU (zB (i:=4) d9.nd rfl (LQ rfl)) bS))))))
   (zg (cW (caD (zt Zc hr rfl (clP (za (zb 2) (za (zb 4) zc))))) (eK (n:=2) (gsD (zU (zB (i:=5) d9.nd rfl (LQ rfl)) (gsD (zU (zB (i:=6) d9.nd rfl (LQ rfl)) bS))))))
   (zg (zA (i:=7) d9.nd rfl (LQ rfl) (j7 YS hr rfl (za (m0D (br (clE (zb 5)) T.cl_State Zm hr)) (za (zb 6) (za (zz eO (zz eO (m0D (br (clE (zb 5)) T.cl_State Z6 hr)) zj) (caD (zt Z9 hr rfl (clP (za (zb 2) (za zj zc)))))) (za zj zc))))))
   (zg (cb Nb.never (λ_=>rfl) (liD (bR (clE (aw (za (zb 5) (za (zb 7) (za (zb 5) zc))))))) (zB (i:=8) d9.nd rfl (LQ rfl))
   (zh (zR (cQ (aX (caD (zt ZC hr rfl (clP (za (zb 3) (za (zb 4) (za (zb 8) (za (zb 6) zc)))))))))
   (zh (zx bO))
   aa)))
   (zh (zR (di (eT (cQ (aX (caD (zt Zl hr rfl (clP (za (zb 3) zc)))))) (iS (cQ (aX (caD (zt ZC hr rfl (clP (za (zb 3) (za (zb 4) (za (zb 7) (za (zb 6) zc))))))))))))
   (zh (zx bO))
   aa))))))))
   (zh (zx bO)))),?_⟩
  have tb0:TB A H:=⟨.inl hT1⟩;simp_all only [];refine ⟨_,.inl hS,?_⟩;rw [KE];have hN:∃N:Nat,(if (if 3<(ns.length:Int) then 3 else (ns.length:Int))>1 then if 3<(ns.length:Int) then 3 else (ns.length:Int) else 1)=(N:Int)/\N<=3:=by
   by_cases h1:3<(ns.length:Int)
   .rw [if_pos h1];exact ⟨3,rfl,by decide⟩
   .rw [if_neg h1];split
    .exact ⟨ns.length,rfl,by lia⟩
    .exact ⟨1,rfl,by decide⟩
  obtain ⟨N,eN,hN3⟩:=hN;rw [eN,Np];refine ⟨by lia,by lia,aB.rng (Ik A H (.ref sc)) ⟨⟨_,_,_,_,_,_,_,_,rfl⟩,zD.refl,tb0⟩ ?_ ?_⟩
  .rintro i σ H0 hi ⟨⟨t1,t2,t3,t4,t5,t6,t7,t8,rfl⟩,s0,tb0'⟩;have ej:(0+(i:Int))=((i:Nat):Int):=by lia
   simp_all only [ej];refine ⟨sc,ns,i,rfl,SqL.sameT s0 hS,by lia,λa H1 s1 a0 hP1=>?_⟩;have WU:=tb0'.same s1
   try simp_all only []
   refine ⟨a,rfl,hP1,WU,λtp p wl sl sh cells shc m d H2 Xd W2 XH b2 fr lf st sd size wide=>?_⟩;refine ⟨tp,_,rfl,SqT.of Xd,rfl,?_⟩;have frH:∀x∈p::wl::sl::sh::(cells++shc),Fr H0 x:=λx hx o no e=>by
    have:=(fr x hx).2;rw [s1 _ _ e] at this;cases this
   have fra:Fr H0 a:=λo no e=>by rw [a0] at e;cases e
   have s2:zD H0 H2:=(zD.of s1).keeps b2.keeps (λx hx=>by rw [LU] at hx;subst hx;exact fra);have ap:Apt a wl sl sh cells shc:=⟨λx hx=>(fr x (by
    rcases LI.mp hx with rfl|hx
    .simp
    .rcases LI.mp hx with rfl|hx
     .simp
     .simp [hx])).1,λz=>(fr sh (by simp)).1 z.symm,λz=>(fr a (by simp [z])).1 rfl⟩
   have frD:∀x∈p::wl::sl::cells,Fr H0 x:=λx hx=>frH x (by
    rcases LI.mp hx with rfl|hx
    .simp
    .rcases LI.mp hx with rfl|hx
     .simp
     .rcases LI.mp hx with rfl|hx
      .simp
      .simp [hx])
   try simp_all only []
   refine ⟨a,p,wl,sl,sh,cells,shc,m,d,rfl,W2,XH,ap,λtq x l as ts n H3 htq b3 tb3 P3 S3 O3 hl3 pr3 frl sm hn n0 n1=>?_⟩;refine ⟨tq,_,rfl,SqT.of htq,rfl,?_⟩;have W3:=W2.butT XH ap b3 tb3 P3;have s3:=s2.butT b3 fra;have hal:=E5 sm wide;obtain ⟨dx3,f3,d3,m3,kv3,g3,_⟩:=id S3.ex;simp_all only [g3,BX];refine ⟨x,rfl,O3,λqf H4 s4 F4=>?_⟩;have S4:=S3.sameT (.of s4);have g4:=s4 _ _ g3;simp_all only [g4,lG];refine ⟨x,ts,n,rfl,S4,?_⟩;simp_all only [];refine ⟨a,9,rfl,P3.same s4,by decide,by decide,λr H5 b5 P5 r0 r1=>?_⟩;simp_all only [];intro y dy H6 nI;have la:l≠a:=λz=>by obtain ⟨u,v,ea,_⟩:=XH.ex;exact frl.lst ea z
   have hl5:=b5 _ _ la (s4 _ _ hl3);have pr5:Paired (dh H5) as ts:=Paired.mapP pr3 λc t r=>b5 _ _ ((P3.same s4).tup (s4 _ _ r)) (s4 _ _ r);have F5:Fw A H5 qf:=by
    obtain ⟨u,v,ea,_⟩:=(P3.same s4).ex;refine F4.but b5 ea (λ_=>nofun) (λ_ _=>nofun) (λ_=>nofun) λz=>?_;obtain ⟨_,_,_,_,_,e,_⟩:=F4;rw [z,ea] at e;cases e
   refine ⟨y,qf,l,dy,n+1+r,0,as,ts,rfl,nI.at_,F5.same nI.same,nI.same _ _ hl5,Paired.mapP pr5 λc t r=>nI.same _ _ r,S3.ok,λH7 b7 S7 O7=>⟨rfl,by decide,λil H8 n8 _=>?_⟩⟩;have s58:zl H5 H8:=λc o e=>n8.same _ _ (b7 _ _ (λz=>by have:=nI.no;rw [<- z,e] at this;cases this) (nI.same _ _ e));have W8:=((W3.same s4).potB (P3.same s4) ap.d ap.s ap.c b5).same s58;have S8:=(S4.pot (P3.same s4) b5).sameT (.of s58);have Y8:=S7.sameT (.of n8.same);have hl8:=s58 _ _ hl5;have pr8:Paired (dh H8) as ts:=Paired.mapP pr5 λc t r=>s58 _ _ r;have b38:aO a H3 H8:=λc o n no e=>s58 _ _ (b5 _ _ n (s4 _ _ e));have s8:=s3.butT b38 fra;have hny:∀t∈nU d,zu t<n+1+r:=λt ht=>by have:=hn t ht;lia
   refine ⟨⟨_,SqL.of n8.at_⟩,aB.lst (xs:=[.ref x,.ref y,.ref x]) (In3 A H8 [some (.ref sc),some (.int i),some (.ref a),some (.ref p),some (.ref sh),some (.ref x),some (.ref l),some (.ref y)]) ⟨⟨_,rfl⟩,zD.refl,W8.tb⟩ (λi σ H' _ I=>SqL.of (I.same.list n8.at_)) ?_ ?_⟩
   .rintro j v σ H9 hv ⟨⟨t,rfl⟩,s9,tb9⟩;obtain ⟨z,nz,rfl,Z8,hz,z0⟩:∃z nz,v = .ref z/\bo A H8 z ts nz/\(∀t∈nU d,zu t<nz)/\0<nz:=by
     have:=LX hv;simp only [LI,LP,or_false] at this;rcases this with h|h|h
     .exact ⟨x,n,h,S8,hn,n0⟩
     .exact ⟨y,n+1+r,h,Y8,hny,by lia⟩
     .exact ⟨x,n,h,S8,hn,n0⟩
    simp_all only [];refine ⟨p,wl,sl,sh,z,l,cells,shc,as,m,d,ts,nz,rfl,W8.sameT s9 tb9,Z8.sameT s9,s9.list hl8,Paired.mapP pr8 λc t r=>s9.tup r,hal,size.2.2.1,size.2.2.2,hz,z0,λH10 s10 tb10=>?_⟩
    try simp_all only []
    exact ⟨⟨_,rfl⟩,s9.trans s10,tb10⟩
   .rintro σ H9 ⟨⟨t,rfl⟩,s9,tb9⟩;simp_all only [];have W9:=W8.sameT s9 tb9;have hl9:=s9.list hl8;refine ⟨p,wl,sl,cells,m,d,rfl,W9.disk,st,sd,λd5 H10 D10 er WW=>?_⟩;obtain ⟨Sh10,tb10⟩:=W9.diskB WW;have W10:DW A H10 p wl sl sh cells shc m d5:=⟨D10,by rw [er];exact Sh10,W9.ap,tb10,W9.ok.rows er⟩;have Y10:=(Y8.sameT s9).disk W9.disk WW;have lF:l∉p::wl::sl::cells:=W9.disk.out hl9 λy hy z=>by
     rcases W2.disk.lists y (LO _ hy) with ⟨xs,e⟩|⟨C,dx,fs,e⟩
     .exact frl (.lst xs) (λ_=>nofun) (by rw [<- z];exact e)
     .exact frl (.ins C dx fs) (λ_=>nofun) (by rw [<- z];exact e)
    have eU:nU d5=nU d:=by unfold nU;rw [er]
    try simp_all only []
    refine ⟨p,wl,sl,sh,y,l,cells,shc,as,m,d5,ts,n+1+r,rfl,W10,Y10,WW _ _ hl9 lF,Paired.mapP pr8 λc t r=>W9.disk.tup WW (s9.tup r),hal,size.2.2.1,size.2.2.2,by rw [eU];exact hny,by lia,λH11 s11 tb11=>?_⟩
    try simp_all only []
    exact ⟨⟨_,_,_,_,_,_,_,_,rfl⟩,s0.trans ((((s8.trans s9).keeps WW frD)).trans s11),tb11⟩
  .rintro σ H1 ⟨⟨t1,t2,t3,t4,t5,t6,t7,t8,rfl⟩,s1,WU⟩;simp_all only [];exact q H1
end
theorem all_mk{l:OpenLaw}{w:Mf}{K:Frag}{h:Heap}{mg:Str->Option Value}{fa:Addr}{x00 x09 x1E x26 v6 x1F x18 x07 x19 xz xL u8 x3h x1a ut x0q x04 x05 x01 x02 v0:Addr}{x3m x3n x1G x1H x1b x1c x0F:Option Addr}{x3o x1I x1J x1d x1e x0G:Array (Option Value)}{x3p x3q x3r x3s x3t:Value}{x2l x2m x0r x0s x1f x2n x0a x0d x0t x0H x1K x0I x0J x0K x0L x0M x0N x1L x0O x0P x0Q x1g x0u x0v x1h x0w x0x x0R x0k x0l x0m:Tok}{x31 x1M x1N x1i x1j x0S:Nat}(X:K.In h)(G:h.Ns LN mg)(hfa:mg "law"=some (.ref fa))
  (x1k:NO K LN "CleanError"=some (some (.ref x00)))
  (x32:NO K LN "NoRow"=some (some (.ref x09)))
  (x2B:NO K LN "NoDisk"=some (some (.ref x1E)))
  (x3i:NO K LN "Full"=some (some (.ref x26)))
  (x2o:NO K LN "Stopped"=some (some (.ref v6)))
  (x2C:NO K LN "NoFile"=some (some (.ref x1F)))
  (x2p:NO K LN "NoPlace"=some (some (.ref x18)))
  (x0T:NO K LN "HeldAlready"=some (some (.ref x07)))
  (x2q:NO K LN "NotHeld"=some (some (.ref x19)))
  (x2D:NO K LN "Disk"=some (some (.ref xz)))
  (x2j:NO K LN "Files"=some (some (.ref xL)))
  (x2k:NO K LN "State"=some (some (.ref u8)))
  (x27:FnM K "is_whole" lO)
  (x1O:FnM K "is_within" mT)
  (x1l:FnM K "is_made_of" kM)
  (x0e:FnM K "is_number_text" ny)
  (x2r:FnM K "is_name" o7)
  (x2s:FnM K "is_word" nF)
  (x2E:FnM K "sum_of" oU)
  (x2F:FnM K "summed" nj)
  (x2t:FnM K "body_of" oG)
  (x28:FnM K "row_text" jT)
  (x1P:FnM K "part_text" pW)
  (x29:FnM K "read_row" jf)
  (x2G:FnM K "row_of" jm)
  (x1Q:FnM K "read_part" lx)
  (x2H:FnM K "row_at" oY)
  (x2u:FnM K "rows_in" mG)
  (x0U:FnM K "last_number" kI)
  (x1R:FnM K "living_in" i5)
  (x33:FnM K "worth" oq)
  (x2I:FnM K "age_of" mj)
  (x0f:FnM K "common_divisor" qq)
  (x0n:ah K xz "__init__" "Disk.__init__" kC)
  (x0g:ah K xz "stretches" "Disk.stretches" qx)
  (x0V:ah K xz "places" "Disk.places" nY)
  (x0b:ah K xz "next_place" "Disk.next_place" my)
  (x1S:ah K xz "told" "Disk.told" qF)
  (x1m:ah K xz "write" "Disk.write" jZ)
  (x0o:ah K xz "put_side" "Disk.put_side" lD)
  (x1n:ah K xz "empty" "Disk.empty" jM)
  (x1T:ah K xz "stop" "Disk.stop" qv)
  (x0W:ah K xz "copied" "Disk.copied" kH)
  (v4:ah K xz "refuse_if_stopped" "Disk.refuse_if_stopped" jV)
  (x1o:ah K xz "spend" "Disk.spend" ni)
  (x08:ah K xz "first_signs" "Disk.first_signs" jG)
  (x0h:ah K xL "__init__" "Files.__init__" mS)
  (x0X:ah K xL "names" "Files.names" ma)
  (x1p:ah K xL "many" "Files.many" qg)
  (x1U:ah K xL "put" "Files.put" qz)
  (x1V:ah K xL "cut" "Files.cut" qh)
  (x1q:ah K xL "hold" "Files.hold" lS)
  (x0y:ah K xL "copied" "Files.copied" pG)
  (x1r:ah K xL "bare" "Files.bare" n9)
  (x1s:ah K xL "keep" "Files.keep" o9)
  (x03:ah K xL "refuse_if_none" "Files.refuse_if_none" nN)
  (x0i:ah K u8 "__init__" "State.__init__" jY)
  (x0Y:ah K u8 "files" "State.files" pX)
  (x0Z:ah K u8 "spots" "State.spots" lq)
  (x06:ah K u8 "next_number" "State.next_number" qr)
  (x1W:FnM K "_law_cell" pE)
  (x2a:FnM K "_law_pot" qy)
  (x1X:FnM K "_law_draw" mF)
  (x1t:FnM K "_law_drawn" p0)
  (x2b:FnM K "_law_row" nX)
  (x1Y:FnM K "_law_turn" jC)
  (x0z:FnM K "_law_numbers" nu)
  (x1Z:FnM K "_law_torn" jx)
  (x20:FnM K "_law_disk" lC)
  (x3G:NO K LN "_law_rows"=some (some (.ref x3h)))
  (x3H:K.lookup x3h=some ⟨x3p,x3m,.func (fnOf "_law_rows" "_law_rows" (gR eM) (dS eM) (zm eM) .none x3q x3r x3s x3n (.ref x1a) x3t),x3o⟩)
  (x3I:codeIn K (.ref x1a) "_law_rows"=true)
  (x3J:tabIn K "_law_rows"=some (x1a,ut))
  (x3g:codeHdIn K x1a ut=true)
  (x3u:K.lookup ut=none)
  (x3v:Ph K (.ref x3h)=true)
  (x2c:FnM K "_law_end" kg)
  (x10:FnM K "_law_closed" jb)
  (x21:FnM K "_law_last" k7)
  (x11:FnM K "_law_births" mY)
  (x1u:FnM K "_law_files" qj)
  (x22:FnM K "_law_next" jl)
  (x1v:FnM K "_law_state" ku)
  (x1w:FnM K "_law_worth" jK)
  (x12:FnM K "_law_common" nR)
  (x0p:FnM K "_law_is_whole" nE)
  (x1x:FnM K "_law_right" lB)
  (x13:FnM K "_law_halted" oZ)
  (x3w:FnM K "law" lN)
  (x3x:NO K LN "abs"=some none)
  (x3y:NO K LN "all"=some none)
  (x3j:NO K LN "bool"=some none)
  (x3k:NO K LN "dict"=some none)
  (x2J:NO K LN "divmod"=some none)
  (x23:NO K LN "enumerate"=some none)
  (x3z:NO K LN "int"=some none)
  (x1y:NO K LN "isinstance"=some none)
  (x3A:NO K LN "len"=some none)
  (x3l:NO K LN "list"=some none)
  (x3B:NO K LN "max"=some none)
  (x3C:NO K LN "min"=some none)
  (x3D:NO K LN "ord"=some none)
  (x34:NO K LN "range"=some none)
  (x2K:NO K LN "sorted"=some none)
  (x3E:NO K LN "str"=some none)
  (x35:NO K LN "tuple"=some none)
  (x3F:NO K LN "zip"=some none)
  (x2v:NO K LN "FIGURES"=some (some (.str "0123456789" x2l)))
  (x2w:NO K LN "LETTERS"=some (some (.str "abcdefghijklmnopqrstuvwxyz" x2m)))
  (x0A:NO K LN "MOST_FIGURES"=some (some (.int 18 x0r)))
  (x0B:NO K LN "MOST_LETTERS"=some (some (.int 6 x0s)))
  (x1z:NO K LN "MOST_SIGNS"=some (some (.int 20 x1f)))
  (x2x:NO K LN "MODULUS"=some (some (.int 65521 x2n)))
  (x0c:NO K LN "LEAST_STRETCHES"=some (some (.int 3 x0a)))
  (x0j:NO K LN "MOST_STRETCHES"=some (some (.int 16 x0d)))
  (x0C:NO K LN "LEAST_PLACES"=some (some (.int 2 x0t)))
  (x14:NO K LN "MOST_PLACES"=some (some (.int 32 x0H)))
  (x36:NO K LN "PARTS"=some (some (.ref x0q)))
  (x2L:K.lookup x0q=some { cls:=.type "dict",dict:=none,data:=.dict #[{ hash:=Oh w.params (vv "put"),key:=.str (vv "put") x1K,val:=.ref x04 },{ hash:=Oh w.params (vv "cut"),key:=.str (vv "cut") x1L,val:=.ref x05 },{ hash:=Oh w.params (vv "hold"),key:=.str (vv "hold") x1g,val:=.ref x01 },{ hash:=Oh w.params (vv "free"),key:=.str (vv "free") x1h,val:=.ref x02 },{ hash:=Oh w.params (vv "carry"),key:=.str (vv "carry") x0R,val:=.ref v0 }] x31,slots:=#[] })
  (x2M:(x0q==sysModules)=false)
  (x1A:K.lookup x04=some { cls:=.type "tuple",dict:=x1G,data:=.seq #[.str (vv "number") x0I,.str (vv "number") x0J,.str (vv "end") x0K,.str (vv "name") x0L,.str (vv "number") x0M,.str (vv "word") x0N] x1M,slots:=x1I })
  (x1B:K.lookup x05=some { cls:=.type "tuple",dict:=x1H,data:=.seq #[.str (vv "number") x0O,.str (vv "name") x0P,.str (vv "number") x0Q] x1N,slots:=x1J })
  (x15:K.lookup x01=some { cls:=.type "tuple",dict:=x1b,data:=.seq #[.str (vv "number") x0u,.str (vv "name") x0v] x1i,slots:=x1d })
  (x16:K.lookup x02=some { cls:=.type "tuple",dict:=x1c,data:=.seq #[.str (vv "number") x0w,.str (vv "name") x0x] x1j,slots:=x1e })
  (x0D:K.lookup v0=some { cls:=.type "tuple",dict:=x0F,data:=.seq #[.str (vv "number") x0k,.str (vv "number") x0l,.str (vv "word") x0m] x0S,slots:=x0G })
  (x17:excIn K x00 [.type "ValueError",.type "Exception",.type "BaseException",.type "object"] "ValueError.__new__"=true)
  (x2N:excIn K x09 [.type "ValueError",.type "Exception",.type "BaseException",.type "object"] "ValueError.__new__"=true)
  (x37:excIn K x26 [.type "ValueError",.type "Exception",.type "BaseException",.type "object"] "ValueError.__new__"=true)
  (x2d:excIn K v6 [.type "ValueError",.type "Exception",.type "BaseException",.type "object"] "ValueError.__new__"=true)
  (x2O:mroIn K x09 (.ref x09)=some true)
  (x2f:mroIn K v6 (.ref v6)=some true)
  (x38:Ql K xz Pr=true)
  (x2P:Qp K xz=true)
  (x39:plainOver K xz=true)
  (x3a:findIn K (.ref xz) "__setattr__"=some (some (.builtin "object.__setattr__")))
  (x3b:makesIn K xz=true)
  (x3c:Ph K (.ref xz)=true)
  (x24:findIn K (.ref xz) "at_sides"=some none)
  (x2g:findIn K (.ref xz) "counted"=some none)
  (x0E:findIn K (.ref xz) "has_stopped"=some none)
  (x3d:findIn K (.ref xz) "left"=some none)
  (x2Q:findIn K (.ref xz) "width"=some none)
  (x2h:findIn K (.ref xz) "written"=some none)
  (x2R:Ql K xL Pr=true)
  (x2y:Qp K xL=true)
  (x2S:plainOver K xL=true)
  (x2T:findIn K (.ref xL) "__setattr__"=some (some (.builtin "object.__setattr__")))
  (x2U:makesIn K xL=true)
  (x2V:Ph K (.ref xL)=true)
  (x2z:findIn K (.ref xL) "births"=some none)
  (x3f:findIn K (.ref xL) "kept"=some none)
  (x2W:Ql K u8 Pr=true)
  (x2A:Qp K u8=true)
  (x2X:plainOver K u8=true)
  (x2Y:findIn K (.ref u8) "__setattr__"=some (some (.builtin "object.__setattr__")))
  (x2Z:makesIn K u8=true)
  (x30:Ph K (.ref u8)=true)
  (x1C:findIn K (.ref u8) "next_mark"=some none)
  (x25:findIn K (.ref u8) "next_row"=some none)
  (x1D:findIn K (.ref u8) "own_files"=some none)
  (x2i:findIn K (.ref u8) "spot_of"=some none) :
  ∃fd:Nc,(∀(s:LF)(v:Value),BindsTo s fd ⟨[v],[]⟩ [("_law_script",v)])/\(∀T,T∈[ut]->K.lookup T=none/\∃c,codeHdIn K c T=true)/\∀base:Heap,K.In base->base.Ns LN mg->gg mg base->zo l.prog w K mg base CX0 true 14 fa fd ["_law_script"] (kX ut K):=by
 obtain ⟨flaw,fdlaw,a_70,Flaw⟩:=x3w;have e:=hfa.symm.trans (NR X G a_70);cases e;have hfd:∀(s:LF)(v:Value),BindsTo s fdlaw ⟨[v],[]⟩ [("_law_script",v)]:=by obtain ⟨_,_,_,_,_,_,_,_,_,rfl,_⟩:=Flaw.ex;exact λs v=>.of_eq rfl
 have T:Txt w K mg ⟨x00,x09,x1E,x26,v6,x1F,x18,x07,x19,xz,xL,u8,ut,x0q,x04,x05,x01,x02,v0⟩:=⟨NR X G x36,⟨⟨_,_,x2L,(.cons (.cons (.cons (.cons (.cons .nil)))))⟩,by show (["put","cut","hold","free","carry"]:List Str).Nodup;decide +kernel,x2M⟩,λH=>.inr ⟨_,_,_,x1A,rfl,rfl,by show 6<=sizeLine;decide,(.cons ⟨_,rfl⟩ (.cons ⟨_,rfl⟩ (.cons ⟨_,rfl⟩ (.cons ⟨_,rfl⟩ (.cons ⟨_,rfl⟩ (.cons ⟨_,rfl⟩ .nil))))))⟩,λH=>.inr ⟨_,_,_,x1B,rfl,rfl,by show 3<=sizeLine;decide,(.cons ⟨_,rfl⟩ (.cons ⟨_,rfl⟩ (.cons ⟨_,rfl⟩ .nil)))⟩,λH=>.inr ⟨_,_,_,x15,rfl,rfl,by show 2<=sizeLine;decide,(.cons ⟨_,rfl⟩ (.cons ⟨_,rfl⟩ .nil))⟩,λH=>.inr ⟨_,_,_,x16,rfl,rfl,by show 2<=sizeLine;decide,(.cons ⟨_,rfl⟩ (.cons ⟨_,rfl⟩ .nil))⟩,λH=>.inr ⟨_,_,_,x0D,rfl,rfl,by show 3<=sizeLine;decide,(.cons ⟨_,rfl⟩ (.cons ⟨_,rfl⟩ (.cons ⟨_,rfl⟩ .nil)))⟩,MV X G x3x,MV X G x3y,MV X G x3j,MV X G x3k,MV X G x2J,MV X G x23,MV X G x3z,MV X G x1y,MV X G x3A,MV X G x3l,MV X G x3B,MV X G x3C,MV X G x3D,MV X G x34,MV X G x2K,MV X G x3E,MV X G x35,MV X G x3F,⟨_,NR X G x2v,⟨_,rfl⟩⟩,⟨_,NR X G x2w,⟨_,rfl⟩⟩,⟨_,NR X G x0A,⟨_,rfl⟩⟩,⟨_,NR X G x0B,⟨_,rfl⟩⟩,⟨_,NR X G x1z,⟨_,rfl⟩⟩,⟨_,NR X G x2x,⟨_,rfl⟩⟩,⟨_,NR X G x0c,⟨_,rfl⟩⟩,⟨_,NR X G x0j,⟨_,rfl⟩⟩,⟨_,NR X G x0C,⟨_,rfl⟩⟩,⟨_,NR X G x14,⟨_,rfl⟩⟩,NR X G x1k,NR X G x32,NR X G x2B,NR X G x3i,NR X G x2o,NR X G x2C,NR X G x2p,NR X G x0T,NR X G x2q,NR X G x2D,NR X G x2j,NR X G x2k,x17,x2N,x37,x2d,x2O,x2f,⟨x38,x2P,x39,x3a⟩,x24,x2g,x0E,x3d,x2Q,x2h,⟨x2R,x2y,x2S,x2T⟩,x2z,x3f,⟨x2W,x2A,x2X,x2Y⟩,x1C,x25,x1D,x2i⟩;have F_law_rows:=AQ (st:=eM) x3H x3I x3v;have b_law_rows:=F_law_rows.binds (ps:=["_law_shelf"]) fun|_,_,_,_,_,_,[_],_=>rfl;refine ⟨fdlaw,hfd,λT hT=>?_,λbase KB _ hbt=>?_⟩
 .simp only [LI,LP,or_false] at hT;rcases hT with rfl
  .exact ⟨x3u,_,x3g⟩
 have LB__law_rows:iE mg base (.ref x1a) ut:=⟨⟨x1a,rfl,codeHd_of_K KB x3g⟩,hbt⟩;have ZY:=gf l.prog base true X G x1l (λ_ _ F=>BG F T) λ_ _ _ _ _ _=>u3 λ_ _ _=>rfl;have YD:=gf l.prog base true X G x2r (λ_ _ F=>Eg F T ZY) λ_ _ _ _ _ _=>u1 λ_=>rfl;have YC:=gf l.prog base true X G x2s (λ_ _ F=>A2 F T ZY) λ_ _ _ _ _ _=>u1 λ_=>rfl;have ZJ:=gf l.prog base true X G x0e (λ_ _ F=>FP F T ZY) λ_ _ _ _ _ _=>u1 λ_=>rfl;have Yn:=gf l.prog base true X G x2E (λ_ _ F=>FQ F T) λ_ _ _ _ _ _=>u1 λ_=>rfl;have Zk:=gf l.prog base true X G x2F (λ_ _ F=>AE F T Yn) λ_ _ _ _ _ _=>u1 λ_=>rfl;have YB:=gf l.prog base true X G x2t (λ_ _ F=>HM F T Zk) λ_ _ _ _ _ _=>u1 λ_=>rfl;have Y5:=gf l.prog base true X G x1P (λ_ _ F=>yR F T) λ_ _ _ _ _ _=>u1 λ_=>rfl;have YI:=gf l.prog base true X G x28 (λ_ _ F=>IS F T Zk Y5) λ_ _ _ _ _ _=>u1 λ_=>rfl;have Y4:=gx l.prog base true X G x1Q (λ_ _ F=>B0 F T ZJ YD YC) λ_ _ _ _ _ _=>u2 λ_ _=>rfl;have Ym:=gx l.prog base true X G x2G (λ_ _ F=>KJ F T Y4) λ_ _ _ _ _ _=>u1 λ_=>rfl;have YK:=gx l.prog base true X G x29 (λ_ _ F=>Cq F T YB Ym) λ_ _ _ _ _ _=>u1 λ_=>rfl;have ZW:=gm l.prog base true x0g (λ_ _ F=>B9 F T) λ_ _ _ _ _ _=>u1 λ_=>rfl;have Z2:=gm l.prog base true x0V (λ_ _ F=>B4 F T) λ_ _ _ _ _ _=>u1 λ_=>rfl;have ZK:=gm l.prog base true x0b (λ_ _ F=>GK F T) λ_ _ _ _ _ _=>u2 λ_ _=>rfl;have Y3:=gm l.prog base true x1S (λ_ _ F=>IM F T) λ_ _ _ _ _ _=>u3 λ_ _ _=>rfl;have Z7:=gmx l.prog base true v4 (λ_ _ F=>By F T) λ_ _ _ _ _ _=>u1 λ_=>rfl;have ZR:=gm l.prog base true x1o (λ_ _ F=>Ip F T) λ_ _ _ _ _ _=>u2 λ_ _=>rfl;have Z0:=gmx l.prog base true x08 (λ_ _ F=>Jo F T ZR Z7) λ_ _ _ _ _ _=>u2 λ_ _=>rfl;have ZD:=gmx l.prog base true x1m (λ_ _ F=>BA F T Z0 Z7) λ_ _ _ _ _ _=>u3 λ_ _ _=>rfl;have ZF:=gmx l.prog base true x0o (λ_ _ F=>BV F T Z0 Z7) λ_ _ _ _ _ _=>u3 λ_ _ _=>rfl;have YL:=gf l.prog base true X G x27 (λ_ _ F=>Dv F T) λ_ _ _ _ _ _=>u1 λ_=>rfl;have ZX:=gf l.prog base true X G x1O (λ_ _ F=>BY F T YL) λ_ _ _ _ _ _=>u3 λ_ _ _=>rfl;have YA:=gc l.prog base true X G x2D x3b x3c x0n (λ_ _ F=>CP F T ZX) λ_ _ _ _ _ _=>u3 λ_ _ _=>rfl;have ZQ:=gmx l.prog base true x1n (λ_ _ F=>FU F T ZR Z7) λ_ _ _ _ _ _=>u2 λ_ _=>rfl;have Yl:=gf l.prog base true X G x2H (λ_ _ F=>HF F T Y3 YK) λ_ _ _ _ _ _=>u3 λ_ _ _=>rfl;have Yz:=gf l.prog base true X G x2u (λ_ _ F=>KZ F T ZK Yl) λ_ _ _ _ _ _=>u2 λ_ _=>rfl;have Y2:=gf l.prog base true X G x1W (λ_ _ F=>GY F T) λ_ _ _ _ _ _=>u2 λ_ _=>rfl;have YH:=gf l.prog base true X G x2a (λ_ _ F=>CA F T Y2) λ_ _ _ _ _ _=>u2 λ_ _=>rfl;have Z9:=gf l.prog base true X G x1X (λ_ _ F=>JS F T) λ_ _ _ _ _ _=>u2 λ_ _=>rfl;have Z4:=gf l.prog base true X G x1t (λ_ _ F=>DR F T Z9) λ_ _ _ _ _ _=>u2 λ_ _=>rfl;have ZV:GF l.prog w K mg base true 1 "_law_rows" ["_law_shelf"] (iO _):=⟨_,_,El F_law_rows rfl LB__law_rows T,NR X G x3G,x3v,b_law_rows⟩;have Zt:=gm l.prog base true x0W (λ_ _ F=>G7 F T ZW YA) λ_ _ _ _ _ _=>u1 λ_=>rfl;have ZM:=gm l.prog base true x1T (λ_ _ F=>JY F T) λ_ _ _ _ _ _=>u2 λ_ _=>rfl;have YJ:=gf l.prog base true X G x2b (λ_ _ F=>Kx F T Z9 Z4) λ_ _ _ _ _ _=>u3 λ_ _ _=>rfl;have Zx:=gf l.prog base true X G x0z (λ_ _ F=>As F T Z9) λ_ _ _ _ _ _=>u2 λ_ _=>rfl;have Zu:=gf l.prog base true X G x1Y (λ_ _ F=>HP F T Z9 ZQ Z2 YJ YI ZD) λ_ _ _ _ _ _=>u4 λ_ _ _ _=>rfl;have Y1:=gf l.prog base true X G x1Z (λ_ _ F=>yX F T Z9 Z4 ZM ZQ Zt) λ_ _ _ _ _ _=>u3 λ_ _ _=>rfl;have YV:=gf l.prog base true X G x20 (λ_ _ F=>A8 F T Z4 YA ZW Zx Z9 Zu Y1) λ_ _ _ _ _ _=>u1 λ_=>rfl;have Zl:=gf l.prog base true X G x13 (λ_ _ F=>Jj F T ZM ZF) λ_ _ _ _ _ _=>u1 λ_=>rfl;have YT:=gc l.prog base true X G x2j x2U x2V x0h (λ_ _ F=>Cv F T) λ_ _ _ _ _ _=>u1 λ_=>rfl;have Zr:=gm l.prog base true x0X (λ_ _ F=>E1 F T) λ_ _ _ _ _ _=>u1 λ_=>rfl;have ZZ:=gm l.prog base true x1p (λ_ _ F=>Le F T) λ_ _ _ _ _ _=>u2 λ_ _=>rfl;have ZT:=gm l.prog base true x03 (λ_ _ F=>C7 F T) λ_ _ _ _ _ _=>u2 λ_ _=>rfl;have Y0:=gm l.prog base true x1U (λ_ _ F=>Ey F T ZZ ZX) λ_ _ _ _ _ _=>u4 λ_ _ _ _=>rfl;have YZ:=gm l.prog base true x1V (λ_ _ F=>Hf F T ZT ZZ ZX) λ_ _ _ _ _ _=>u3 λ_ _ _=>rfl;have ZP:=gm l.prog base true x1r (λ_ _ F=>EW F T YT) λ_ _ _ _ _ _=>u1 λ_=>rfl;have Zh:=gm l.prog base true x1s (λ_ _ F=>FR F T ZP) λ_ _ _ _ _ _=>u3 λ_ _ _=>rfl;have Zg:=gm l.prog base true x1q (λ_ _ F=>Jc F T Zh) λ_ _ _ _ _ _=>u2 λ_ _=>rfl;have ZU:=gm l.prog base true x0y (λ_ _ F=>KW F T ZP) λ_ _ _ _ _ _=>u1 λ_=>rfl;have YS:=gc l.prog base true X G x2k x2Z x30 x0i (λ_ _ F=>Dj F T ZU) λ_ _ _ _ _ _=>u5 λ_ _ _ _ _=>rfl;have Zm:=gm l.prog base true x0Y (λ_ _ F=>Bp F T ZU) λ_ _ _ _ _ _=>u1 λ_=>rfl;have Z6:=gm l.prog base true x06 (λ_ _ F=>Cb F T) λ_ _ _ _ _ _=>u1 λ_=>rfl;have Zs:=gm l.prog base true x0Z (λ_ _ F=>HX F T) λ_ _ _ _ _ _=>u1 λ_=>rfl;have YX:=gf l.prog base true X G x1R (λ_ _ F=>IJ F T Zs) λ_ _ _ _ _ _=>u2 λ_ _=>rfl;have Zq:=gf l.prog base true X G x11 (λ_ _ F=>Ai F T Z9 ZV) λ_ _ _ _ _ _=>u2 λ_ _=>rfl;have Zf:=gf l.prog base true X G x1u (λ_ _ F=>AJ F T YT Z4 Z9 ZZ Y0 Zg Zr YZ) λ_ _ _ _ _ _=>u2 λ_ _=>rfl;have YY:=gf l.prog base true X G x22 (λ_ _ F=>En F T Z9 ZV) λ_ _ _ _ _ _=>u2 λ_ _=>rfl;have Zc:=gf l.prog base true X G x1v (λ_ _ F=>EE F T Z9 Zq Zf YY YS) λ_ _ _ _ _ _=>u2 λ_ _=>rfl;have Zp:=gf l.prog base true X G x0U (λ_ _ F=>Ks F T Yz) λ_ _ _ _ _ _=>u2 λ_ _=>rfl;have Ze:=gf l.prog base true X G x2c (λ_ _ F=>KD F T ZV) λ_ _ _ _ _ _=>u2 λ_ _=>rfl;have Zo:=gf l.prog base true X G x10 (λ_ _ F=>Fk F T Ze) λ_ _ _ _ _ _=>u1 λ_=>rfl;have YW:=gf l.prog base true X G x21 (λ_ _ F=>CO F T) λ_ _ _ _ _ _=>u2 λ_ _=>rfl;have ZI:=gf l.prog base true X G x0f (λ_ _ F=>Az F T) λ_ _ _ _ _ _=>u2 λ_ _=>rfl;have Zn:=gf l.prog base true X G x12 (λ_ _ F=>Ep F T) λ_ _ _ _ _ _=>u2 λ_ _=>rfl;have Yk:=gf l.prog base true X G x2I (λ_ _ F=>Bc F T Zp Z6) λ_ _ _ _ _ _=>u3 λ_ _ _=>rfl;have X6:=gf l.prog base true X G x33 (λ_ _ F=>BJ F T YX Z2 Yk ZI) λ_ _ _ _ _ _=>u3 λ_ _ _=>rfl;have ZE:=gf l.prog base true X G x0p (λ_ _ F=>Cs F T) λ_ _ _ _ _ _=>u1 λ_=>rfl;have Zd:=gf l.prog base true X G x1w (λ_ _ F=>Bz F T YW) λ_ _ _ _ _ _=>u5 λ_ _ _ _ _=>rfl;have ZC:=gf l.prog base true X G x1x (λ_ _ F=>Lz F T Zo X6 ZE Z2 Z6 Zd Zn) λ_ _ _ _ _ _=>u4 λ_ _ _ _=>rfl;exact E4 Flaw T YH YV Zc Zm Z6 Z9 YS ZC Zl
theorem walk{l:OpenLaw}{q:LV}{Yf:List Str}{XP:(Str->Option Value)->Heap->Prop}{YP:Mf->Heap->Prop}{d:DefRec}{K:Params->Frag}(ut:Addr){ts:List Addr}(hn:l.most=some 63)(hdf:d.params.defaults=[])
  (hY:∀(w:Mf)(h:Heap),YP w h->(K w.params).In h/\∀T∈ts,h.get? T=some (tabObj #[])) (hts:∀T,T∈ts->T∈[ut]) (hts2:∀T,T∈[ut]->T∈ts) (hnd:([ut]:List Addr).Nodup)
  (F:∀(w:Mf)(mg:Str->Option Value)(fa:Addr)(h:Heap),(K w.params).In h->h.Ns LN mg->mg d.name=some (.ref fa) ->
   ∃fd:Nc,(∀(s:LF)(u:Value),BindsTo s fd ⟨[u],[]⟩ [("_law_script",u)])/\(∀T,T∈[ut]->(K w.params).lookup T=none/\∃c,codeHdIn (K w.params) c T=true)/\∀base:Heap,(K w.params).In base->base.Ns LN mg->gg mg base->zo l.prog w (K w.params) mg base CX0 true 14 fa fd ["_law_script"] (kX ut (K w.params))) :
  WalkO q Yf XP YP l.row.toRowW d [] (λf vs=>PySem.call f vs) :=
 L2.walk_ofT (n:=63) (k:=14) (x:="_law_script") (CX:=λ_=>CX0) (sp:=λw=>kX ut (K w.params)) (ts:=ts) hn (by decide) hdf ⟨λ_=>rfl,by decide,by decide,rfl⟩ hY (λw mg fa h a b c=>let ⟨fd,g1,g2,g3⟩:=F w mg fa h a b c;⟨fd,g1,λT hT=>g2 T (hts T hT),g3⟩) (λ_ H a ns hl hT hS=>⟨a,ns,rfl,hS,hl,hT _ (hts2 _ (by simp)),λ_=>rfl⟩) λ_ _ _ _ _ z=>z
end K61
namespace PySem.W.Fast
def tw10556471422638653072:=0
def tw16335441634090709580:=0
def tw2737025779811733665:=0
def tw6441607630073536591:=0
def tw981264253764296249:=0
def tw10033268515028709103:=0
def tw10122950216184572977:=0
def tw16951879142246717081:=0
def tw685211872636437659:=0
def tw15174270017573705760:=0
def tw13217931195701350744:=0
def tw12977275690816846594:=0
def tw18434035565860083304:=0
def tw151462384694081111:=0
def tw2762112998100917402:=0
def tw6597786292722381802:=0
def tw11748490318874669779:=0
def tw1256460347036247572:=0
def tw10585967783730195505:=0
def tw3167134965567834498:=0
def tw15862320874750261318:=0
def tw958265574997794014:=0
def tw7498943205063461775:=0
def tw16485321460866813658:=0
def tw8495641830372578365:=0
def tw11243755317449986314:=0
def tw18258994469998108733:=0
def tw7047082518065130611:=0
def tw11701184732217001062:=0
def tw7297745894416287736:=0
def tw2401493867157659425:=0
def tw217210949151934780:=0
def tw11476191141363571215:=0
def tw11461790043865691966:=0
def tw14144800773598144876:=0
def tw11475256074722380934:=0
def tw10082713481657013462:=0
def tw10078873819573608701:=0
def tw5261204957711266279:=0
def tw14476611555197856022:=0
def tw9316675566460512135:=0
def tw12201896402500237191:=0
def tw16211268855619114553:=0
def tw7051841614249682261:=0
def tw4592170916614429560:=0
def tw15692974181492663421:=0
def tw5578896356737631609:=0
def tw468191800549532444:=0
def tw10952200311175011385:=0
def tw3405183252492453539:=0
def tw12397867885642745980:=0
def tw12126007115695246043:=0
def tw11998922750865884358:=0
def tw14948095097466126116:=0
def tw2451062080521356156:=0
def tw10207891924115354470:=0
def tw14207446033906281799:=0
def tw9849618189990958705:=0
def tw8169254231694230662:=0
def tw4798126693896556968:=0
def tw8134975500104291551:=0
def tw10856306665943239271:=0
def tw4548971467402661885:=0
def tw6699503063180541908:=0
def tw9432560174820292503:=0
def tw3014721138895937066:=0
def tw12454339260622274151:=0
def tw2758570841316143209:=0
def tw5905935232019449849:=0
def tw16571360958604514302:=0
def tw940730153116329246:=0
def tw6486886749687221697:=0
def tw7946822429396756294:=0
def tw155553618927738424:=0
def tw13825461537027557060:=0
def tw11637237845740574142:=0
def tw13976493217054133528:=0
def tw50240689089643051:=0
def tw4218183090816926260:=0
def tw5977921802779087913:=0
def tw4371366989733455854:=0
def tw17199030389045889012:=0
def tw8480957484543107628:=0
def tw3692812266267603544:=0
def tw11650984601177013035:=0
def tw11240844323284974568:=0
def tw11495342265138026771:=0
def tw16594375948988570468:=0
def tw10792015427403716556:=0
def tw5678024000555264016:=0
def tw12815848729641589197:=0
def tw11558024797065622421:=0
def tw945143935590701707:=0
def tw10972207175387934164:=0
def tw8069457491194144711:=0
def tw10872774681458634913:=0
def tw15391477042738340832:=0
def tw5797122390397045675:=0
def tw7807784308232944708:=0
def tw1319084067600894226:=0
def tw16641122528477934020:=0
def tw5087877437199387798:=0
def tw5533249734563814827:=0
def tw16537058714290715455:=0
def tw3390221847471969761:=0
def tw15650770989065907523:=0
def tw14404644999694712856:=0
def tw13701063634639481293:=0
def tw17830956654867944406:=0
def tw13963778884868142192:=0
def tw8754687484200039036:=0
def tw5259248085175429263:=0
def tw13103877320029801793:=0
def tw11395809447151811187:=0
def tw8180449633239740081:=0
def tw6753757498359363194:=0
def tw14705192201631557497:=0
def tw9969826392962542786:=0
def tw633266730824376257:=0
def tw2305242561586799400:=0
def tw16709128739012091322:=0
def tw5197318709816339577:=0
def tw12880809024090416970:=0
def tw15212847862232166215:=0
def tw11913289985588853739:=0
def tw3817067319353941568:=0
def tw14352563060444279654:=0
def tw17963298961417715147:=0
def tw10606805332848285112:=0
def tw5242741936157656704:=0
def tw1211113123236973614:=0
def tw10675859689045793724:=0
def tw14030142627573100866:=0
def tw73680411995098028:=0
def tw3285919978958178516:=0
def tw17788003145094225121:=0
def tw9306450773759676426:=0
def tw11073364682186464371:=0
def tw9247363746123774787:=0
def tw16884789882251436515:=0
def tw283819115224917166:=0
def tw12582099999110134844:=0
def tw16374464868423759460:=0
def tw17913960674112113442:=0
def tw15210817743186618908:=0
def tw1766828227257004231:=0
def tw1949425948149403176:=0
def tw1274931596114786165:=0
def tw11286586476466310562:=0
def tw1728209302654003275:=0
def tw5226743530836310733:=0
def tw7069481674679567149:=0
def tw18370958768484064254:=0
def tw13374416480027724249:=0
def tw9324845676048278770:=0
def tw9631096346377335999:=0
def tw3784035946556123032:=0
def tw4920216352732745526:=0
def tw12737157412486388843:=0
def tw15799907642428473975:=0
def tw2079078052603831431:=0
def tw14424768835337632353:=0
def tw2286043193773680492:=0
def tw13677703064958500001:=0
def tw4872253497570771560:=0
def tw1338760377859199675:=0
def tw16511484283298713443:=0
def tw3612526723224202384:=0
def tw13024172929247500363:=0
def tw14988522469888012623:=0
def tw18333462862897598429:=0
def tw6079351538197631387:=0
def tw5686723492200090157:=0
def tw10522830063474203748:=0
def tw15091748717639963206:=0
def tw16637571795150995511:=0
def tw2425883454408551920:=0
def tw5833658200015514346:=0
def tw201753422986646954:=0
def tw5882631180007039016:=0
def tw11055139735992149819:=0
def tw16715390671627609453:=0
def tw13979976366794044055:=0
def tw2405130841256403234:=0
def tw8998455638379072582:=0
def tw14068531834175891304:=0
def tw12284298354824374883:=0
def tw2584792432985037780:=0
def tw12211304122048064192:=0
def tw16196323093502861742:=0
def tw12313875504997752072:=0
def tw17886576711029008173:=0
def tw14458579955213781216:=0
def tw9084030934750489661:=0
def tw9339077509560443991:=0
def tw1945625060682176028:=0
def tw3231139127903514200:=0
def tw15129480678204636173:=0
def tw10230063840909237093:=0
def tw17651536160779545901:=0
def tw1101435275423539731:=0
def tw7783247545224087190:=0
def tw1911059728443931966:=0
def tw6470409487450103324:=0
def tw10206906622135889824:=0
def tw1742937834520313571:=0
def tw8255399078901121645:=0
def tw1748113965759496490:=0
def tw14082777685229668845:=0
def tw8930177836666096192:=0
def tw14273498924581253752:=0
def tw1853508094419387619:=0
def tw10070225593111653159:=0
def tw5204074091505745996:=0
def tw13603322290452023259:=0
def tw17393030241029543727:=0
def tw2841215993224637777:=0
def tw14781918163336493939:=0
def tw386260665984609378:=0
def tw14197398998522199765:=0
def tw1081840003528342261:=0
def tw2201022392278149166:=0
def tw2247142959157333103:=0
def tw4114198085041423193:=0
def tw13060661405468135423:=0
def tw11564868863817324343:=0
def tw10096781569435015206:=0
def tw17918061291319834014:=0
def tw12687866072335508926:=0
def tw12407331177537125223:=0
def tw17425318538646096399:=0
end PySem.W.Fast
open PySem PySem.W PyProof.Rows
set_option maxRecDepth 100000 in
set_option maxHeartbeats 0 in
theorem PySem.Challenge.cw_cleanrows_k61_worths_told_holds : PySem.Challenge.rw_cleanrows_k61_worths_told.Holds := by
 w_on;o_law;k_head;(case hw=>w_witness2)
 k_fill
 refine K61.walk 625 (l:=PySem.Challenge.rw_cleanrows_k61_worths_told) rfl rfl (λw h Y=>⟨PySem.W.km_in_of Y,PySem.W.km_tabs_of Y⟩) (by decide) (by decide) (by decide) ?F
 case F =>
  intro w mg fa h KX G hmg
  refine' K61.all_mk KX G hmg ..
  all_goals try refine' ⟨_,_,?_,⟨⟨_,_,_,_,_,_,_,_,_,rfl,?_,?_⟩,?_⟩⟩
  all_goals try refine' ⟨_,_,?_,?_,⟨⟨_,_,_,_,_,_,_,_,_,rfl,?_,?_⟩,?_⟩⟩
  all_goals first|k_is|kit_is|k_exc|rfl|decide +kernel|skip
