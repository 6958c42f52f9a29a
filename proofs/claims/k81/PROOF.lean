import PyProof.Rows.All
import Wide.All
import OpenK.AllK
import Wide.FinOn
import Lean
import PyProof.EqAt
import PyProof.EqKinds
import PyProof.TupleCall
import KE.KUnpack
import PyProof.NeKinds
import PyProof.EnumFor
import PyProof.EnumStmt
import PyProof.EnumMake
import PyProof.Draws
import PyProof.StrWalks
import PyProof.Rows.FStr
import PyProof.Rows.CallKw2
import PyProof.StrBlockL
import KE.KIntText
import PyProof.ConsumeWalk
import PyProof.StrBlockG
import PyProof.CallStr
import PyProof.Rows.Range3
import PyProof.MeetsDict
import PyProof.DictList
import PyProof.StrLawsChain
import PyProof.StrLawsNeg
import KE.IntTextLaws
import KE.IntTextText
import PyProof.CallFns
import PyProof.CompUse
import PyProof.DictWalks
import KE.KDictSum
import PyProof.FString5
import PyProof.Rows.SortRuns
import PyProof.Rows.SortShell
import KE.KSortKey
import KE.KLam
import KE.KNestM
import PyProof.Rows.RuleN_abs
import PyProof.WalkInts
import KE.KMinKey
import KE.KSortTup
import PyProof.DictCompW
import PyProof.SetRoads
import PyProof.SetNew
import KE.KEqDict
import PyProof.ListRange
import KE.KRevSl
import PySem.Challenge.RW_cleanrows_k81_room_told
open PySem renaming wpAny_bind->aa,Shared->af,wpAny_pure->ar,mainGlobals->az,model->aC,wpAny->aH,Program->aI,Builtin->aN,starEach->aV,boot_len->aX,World->aZ,wpAny_field->bb,Around->be,wpAny_mono->bu,Expr->bw,wpAny_holding->bE,compareOp->bG,wpAny_callSpecial?_slot->bO,eval->bV,rawInt->bZ,Spec->cb,wpAny_newObj_type->cx,attributeBase->cy,wpAny_rule->cB,mem_of_lookup->cE,wpAny_setField->cI,FuncData->cL,wpAny_Call_Name_kw->cO,wpAny_call_entry->cT,sizeLine_eq->cU,wpAny_Call_method_late->cX,assignEach->cY,NameKind->cZ,binaryOp->da,wpAny_seqItems->dm,foldedSetIterable->dB,wpAny_standAt->dF,PassesOwn->dH,backTo->dL,wpAny_passesOwn->dO,wpAny_truthy_bool->dP,wpAny_attempt->dS,keywordEach->eB,wpAny_setField_rec->eE,tupleKind_room_in1->eG,call_meets->eK,bootBuiltins->eL,wpAny_pyIter_list->eS,strIterType->eX,callWith->fe,getMethod->fj,codeAny_mono->fk,IsPair->fA,wpAny_execs_nil->fE,letOwnedTupleGo->fH,holding->fI,sliceBounds->fN,wpAny_pyIter_enum->fP,intText?->fT,wpAny_isInstance->fY,typeIs_str->fZ,pyNext->f8,closureFor->gb,checkBuiltinCall->gg,builtinsNs->gh,standAt->gp,behindInMarks->gu,wpAny_newFunctionEnv->gy,wpAny_loadName_local->gz,codeAny_call_builtin->gE,backToKw->gF,IsRangeIter->gJ,codeAny->gS,wpAny_Constant_int->gZ,isSubtype_stop->hG,field->hR,IsPart->hV,wpAny_pyIter_strU->h8,slot_list_getitem->h9,Builtin->il,tupleKind->ip,seqIndex?->iq,noteFrame->iu,wpAny_typeOf->iG,wpAny_call->iH,getItem->iN,call_meetsIn->iP,Within->iT
open PySem.Heap renaming get?_push_of_some->ad,get?_push_size->aO,lt_size->aP,get?_update_other->br,size_push->cj,get?_update_self->de,SameBut->fu,get?_none_of_le->gK
open Nat renaming le_refl->ae,lt_of_lt_of_le->aR,le_trans->aW,lt_irrefl->bj,lt_of_succ_lt->bz,ne_of_lt->bC,zero_le->cf,lt_of_le_of_lt->dv,zero_add->dD,le_of_lt->dE,ne_of_gt->dQ,lt_succ_of_lt->eQ,sub_self->fV,not_lt->gi,lt_succ_self->gj,le_of_eq->gB,add_assoc->im,toDigits->iW
open PySem.W renaming Frag->ag,kia_one->cz,findIn->cK,mg_none_of->cQ,mg_of->dU,nsIn->dW,keepIn->gN,methodCall_KW->ig,mroIn->ij,plainGet->ir,hasDictIn->iy,of_hideAll->iL,instObj->iM,callWith_K->iQ
open List renaming getElem?_eq_getElem->ah,getElem?_eq_some_iff->ak,length_map->am,mem_cons->au,getD_eq_getElem?_getD->av,mem_singleton->ax,mem_of_getElem?->aE,mem_cons_of_mem->aF,length_append->aG,size_toArray->aJ,not_mem_nil->aM,mem_append_right->aQ,mem_append->aS,append_assoc->aY,mem_cons_self->bf,getElem?_map->bh,replicate->bi,take_of_length_le->bo,length_take->bI,all_eq_true->bJ,mem_append_left->bN,map_cons->bQ,pairwise_append->bS,map_map->bU,length_replicate->b8,nodup_cons->cg,take_append_drop->ck,length_cons->cq,map_append->cr,length_set->cu,append_nil->cw,length_drop->cF,getElem?_of_mem->cM,flatten_cons->cN,length_eq_zero_iff->cR,getElem?_replicate->cS,drop_eq_getElem_cons->c8,getElem?_append_right->c9,take_add_one->di,replicate_succ->dq,pairwise_iff_getElem->du,getElem_of_mem->dw,getElem?_append_left->dy,extract_eq_drop_take->dA,getElem?_take_of_lt->dC,contains_iff_mem->dG,length_nil->dJ,lookup->dR,map_congr_left->dX,getElem?_eq_none->dY,getElem?_cons_succ->d6,filter_cons_of_pos->d9,filter_cons_of_neg->eA,getElem?_set_ne->eM,pairwise_cons->eP,perm_append_comm->eR,getElem?_set_self->eT,drop_eq_nil_of_le->eU,length_pos_iff->eY,filter_cons->eZ,map->fi,Perm->fv,mem_or_eq_of_mem_set->fw,getElem?_drop->fB,mem_of_mem_drop->fG,getElem_mem->fO,nodup_append->fQ,set_append_right->fX,find?_cons->f9,zip_cons_cons->gl,mem_map->gs,mem_filterMap->gt,take_append_of_le_length->gG,mem_of_mem_take->gH,eq_nil_of_length_eq_zero->gI,reverse_append->gO,filterMap_cons->gP,length_range->gQ,getElem?_inj->gR,mem_range->gU,foldl_cons->hJ,any_cons->hU,range->ic,getElem_take->ie,zipIdx_cons->iE,reverse_cons->iI,pairwise_map->iJ,forIn_cons->iO,all_append->iR,of_mem_zip->iU,mem_filter->iV
open PySem.Str renaming ofString->aj,length_append->fS,empty->gX
open PyProof.Rows renaming wpS_bind->aq,wpS_pure->ay,arrOf->aB,Keyed->bg,wpS_forRange->bB,SortSt->bH,pendingOf->bM,slot_tuple_getitem->bW,wpS_mono->cH,numOf->cV,callWith_type1->cW,failedOf->dz,seqObj->dI,subscriptTail_builtinR->eI,boot_isinstance->eN,AllBare->eV,envOfC->e9,wpS_modify->fK,wpS_get->gn,wpS_lift->gY,slot_tuple_getitem->g6,listUpdate_at->ii,IsTup->iF,Subscript_->iS
open Bool renaming false_ne_true->aw,and_eq_true->bF,false_eq_true->dj,eq_false_iff->eJ,eq_iff_iff->eO,or_false->fC,true_and->gv,false_and->hW
open PySem.Value renaming ref->aA,none->bx,bool->fg,int->fq,str->iZ
open Or renaming inl->aK,inr->iY
open Ne renaming symm->aU
open Array renaming length_toList->bv,getElem?_eq_some_iff->bA,getElem?_setIfInBounds_self_of_lt->bR,getElem?_toList->bT,toList_append->df,perm_iff_toList_perm->dM,toList_extract->eW,getElem_toList->fR,getElem?_setIfInBounds_ne->fW,toList_push->gA,toList_reverse->gL,toList_setIfInBounds->hX
open Option renaming some->bK,map_eq_some_iff->bX,bind_some->gW,map_some->iX
open PySem.Txt renaming split->bY,slice->cA,join->d0,rfind->fJ
open Int renaming le_refl->cc,le_of_lt->ci,toNat_natCast->cJ,le_trans->c7,emod_lt_of_pos->fc,not_lt->fM,emod_nonneg->gD,lt_irrefl->io
open PySem.Obj renaming isFreed_of_fields->cG,data_mapFields->dZ,mapSeq->fz,cls_mapFields->fU,mapFields->iw
open Classical renaming byContradiction->dN
open PySem.PyData renaming keyHash->fh
open PySem.F renaming slot_dict_get->gq,plainAttrs_list->gM,slot_str_split->g9,slot_dict_delitem->hZ,plainAttrs_dict->iz,attr_ValueError->iC,args_dict_get_3->iD
open PySem.W (methodObj hideAll hideAll_get lookIn handedIn plainGet_of isFn plainOver takerIn makesIn emptyDict callWith_K0 fnOf codeIn excIn clsIn kla_obj tabObj kla_fn codeHdIn)
open List (foldl nil_append map_nil lookup_cons drop_zero range' Sublist cons_append nodup_nil map_take)
open PySem.Heap (UpToSlots ExtBut)
open Nat (le_succ lt_trans)
open Option (isSome_iff_exists getD_none isSome_map bind_eq_some_iff)
open PySem.Value (float type builtin)
open PySem.F (slot_tuple_add entry_tuple_add args_tuple_add_2 entry_str_split args_str_split_2 entry_dict_get)
local macro_rules | `(f!$_)=>`(by decide +kernel)
set_option Elab.async false
set_option linter.all false
set_option maxRecDepth 100000
namespace L2
open PySem PySem.Spec PyProof.Rows
variable{us:List Value}{C L a b:Addr}{o:Obj}{u:Value}{α:Sort _}{P:aI}{w:aZ}{base h:Heap}{A:be}{i t':Nat}{ch fp:List Addr}{x:Str}{e tg:bw}{N ps:List Str}{M:Model}{E Q:Value->af->Prop}{c:Bool}{D:Prop}{s:af}{pos:Pos}{Ga:List (Addr×Obj)}{f:Value->Value->Sem Value}{op:CmpOp}{body:List Stmt}{pl:Sem Bool}{kw:List (Str×Value)}{mg:Str->Option Value}
structure W(p:Prop):Prop where
 h:p
abbrev Key:=Sum Int Str
def zdo:Key->Value->Bool
 | .inl k,v=>Value.isInt k v
 | .inr x,v=>Value.isStrOf x v
def zuI(w:aZ):Key->Int
 | .inl k=>hashInt k
 | .inr x=>hashStr w x
theorem zcf:∀{k:Key}{v:Value},zdo k v=true->(∃i t,k=Sum.inl i/\v=fq i t)\/(∃x t,k=Sum.inr x/\v=iZ x t)
 | .inl i,v,h=>by
  obtain ⟨t,e⟩:=Value.isInt_shape (k:=i) (v:=v) h;exact .inl ⟨i,t,rfl,e⟩
 | .inr x,v,h=>by
  obtain ⟨t,e⟩:=Value.isStrOf_shape (x:=x) (v:=v) h;exact .inr ⟨x,t,rfl,e⟩
theorem zrY(i:Int)(t:Tok):zdo (.inl i) (.int i t)=true:=by simp [zdo,Value.isInt]
theorem zri(x:Str)(t:Tok):zdo (.inr x) (.str x t)=true:=by simp [zdo,Value.isStrOf]
theorem zvi(a b:Int):decide ((Sum.inl a:Key)=Sum.inl b)=(a==b):=by
 by_cases e:a=b
 .subst e;simp
 .have h : ¬ (Sum.inl a:Key)=Sum.inl b:=λq=>e (Sum.inl.inj q);rw [decide_eq_false h];exact (beq_eq_false_iff_ne.mpr e).symm
theorem zr7(a b:Str):decide ((Sum.inr a:Key)=Sum.inr b)=decide (a=b):=by
 by_cases e:a=b
 .subst e;simp
 .have h : ¬ (Sum.inr a:Key)=Sum.inr b:=λq=>e (Sum.inr.inj q);rw [decide_eq_false h,decide_eq_false e]
theorem zrK(a:Int)(b:Str):decide ((Sum.inl a:Key)=Sum.inr b)=false:=decide_eq_false (λq=>nomatch q)
theorem zve(a:Str)(b:Int):decide ((Sum.inr a:Key)=Sum.inl b)=false:=decide_eq_false (λq=>nomatch q)
def zad(prog:aI)(w:aZ):PySem.KeyKind prog w Key where
 is:=zdo
 hash:=zuI w
 inj:=λv a b ha hb=>by
  rcases zcf ha with ⟨i,t,rfl,rfl⟩|⟨x,t,rfl,rfl⟩
  .rcases zcf hb with ⟨j,u,rfl,e⟩|⟨y,u,rfl,e⟩
   .injection e with e1 _;rw [e1]
   .exact nomatch e
  .rcases zcf hb with ⟨j,u,rfl,e⟩|⟨y,u,rfl,e⟩
   .exact nomatch e
   .injection e with e1 _;rw [e1]
 byValue:=λk v h=>by
  rcases zcf h with ⟨i,t,rfl,rfl⟩|⟨x,t,rfl,rfl⟩<;>rfl
 pyHash:=λhv h=>by
  rcases zcf hv with ⟨i,t,rfl,rfl⟩|⟨x,t,rfl,rfl⟩
  .exact wpAny_pyHash_int h
  .exact wpAny_pyHash_str h
 eqBool:=λhu hv h=>by
  rcases zcf hu with ⟨i,t,rfl,rfl⟩|⟨x,t,rfl,rfl⟩
  .rcases zcf hv with ⟨j,u,rfl,rfl⟩|⟨y,u,rfl,rfl⟩
   .rw [zvi] at h;exact wpAny_eqBool_int h
   .rw [zrK] at h;exact SeqAt.EqAt.int_str i t y u _ _ _ _ h
  .rcases zcf hv with ⟨j,u,rfl,rfl⟩|⟨y,u,rfl,rfl⟩
   .rw [zve] at h;exact SeqAt.EqAt.str_int x t j u _ _ _ _ h
   .rw [zr7] at h;exact wpAny_eqBool_str h
 «strs»:=λk x t v h=>by
  rcases zcf h with ⟨i,u,rfl,e⟩|⟨y,u,rfl,e⟩
  .exact nomatch e
  .injection e with e1 _
   subst e1;cases v<;>rfl
theorem zm4(prog:aI)(w:aZ)(i:Int)(t:Tok):(zad prog w).is (.inl i) (.int i t)=true:=zrY i t
theorem zeI(prog:aI)(w:aZ)(x:Str)(t:Tok):(zad prog w).is (.inr x) (.str x t)=true:=zri x t
inductive V where
 | non|bl (b:Bool)|int (i:Int)|str (x:Str)|byt (b:Array UInt8)|flt (b:UInt64)|ref (a:Addr)|ty (n:String)
 deriving DecidableEq
variable{vs xs:List V}{v y:V}
def zm:V->Value->Prop
 | .non,u=>u=bx
 | .bl b,u=>u=fg b
 | .int i,u=>∃t,u=fq i t
 | .str x,u=>∃t,u=iZ x t
 | .byt b,u=>∃t,u=Value.bytes b t
 | .flt b,u=>∃t,u=float b t
 | .ref a,u=>u=aA a
 | .ty n,u=>u=type n
abbrev zk:List V->List Value->Prop:=Paired zm
theorem zk.length(r:zk xs us):xs.length=us.length:=Paired.length r
theorem zk.get:∀{xs:List V}{us:List Value}{i:Nat}{x:V},zk xs us->xs[i]?=some x->∃u,us[i]?=some u/\zm x u
 | _,_,_,_,.nil,e=>by simp at e
 | _,_,0,_,.cons r _,e=>by simp at e;subst e;exact ⟨_,rfl,r⟩
 | _,_,i+1,x,.cons _ t,e=>by
  obtain ⟨u,h1,h2⟩:=zk.get (i:=i) (x:=x) t (by simpa using e);exact ⟨u,by simpa using h1,h2⟩
theorem zk.set{x:V}{u:Value}(r:zm x u):∀{xs:List V}{us:List Value}(i:Nat),zk xs us->zk (xs.set i x) (us.set i u)
 | _,_,_,.nil=>.nil
 | _,_,0,.cons _ t=>.cons r t
 | _,_,i+1,.cons q t=>.cons q (zk.set r i t)
theorem zk.append{ys:List V}{ws:List Value}(h:zk xs us)(k:zk ys ws):zk (xs++ys) (us++ws):=by
 induction h with
 | nil=>exact k
 | cons r t ih=>exact .cons r ih
theorem zk.take:∀{xs:List V}{us:List Value}(n:Nat),zk xs us->zk (xs.take n) (us.take n)
 | _,_,0,_=>.nil
 | _,_,_+1,.nil=>.nil
 | _,_,n+1,.cons r t=>.cons r (zk.take n t)
theorem zk.drop:∀{xs:List V}{us:List Value}(n:Nat),zk xs us->zk (xs.drop n) (us.drop n)
 | _,_,0,r=>r
 | _,_,_+1,.nil=>.nil
 | _,_,n+1,.cons _ t=>zk.drop n t
def zaM:Option V->Option Value->Prop
 | some v,some u=>zm v u
 | none,none=>True
 | _,_=>False
def KV{κ:Type}:List (κ×V)->List (κ×Value)->Prop:=Paired λ(p:κ×V)(q:κ×Value)=>p.1=q.1/\zm p.2 q.2
def kV:Key->V
 | .inl i=>.int i
 | .inr x=>.str x
inductive HO where
 | lst (xs:List V)
 | tup (xs:List V)
 | dK (kvs:List (Key×V))|dT (kvs:List (List Key×V))
 | set (S:Int->Bool) (n:Nat)
 | ins (C dx:Addr) (fs:List (Str×V))
 | own (x:Addr)
 | xd (fs:List (Str×V))
 | met (f x:Addr)
 | rng (lo hi:Int)
 | frz (o:Obj) (u:HO)
 | tbl (ps:Array Value)
 | ext (φ:Heap->Prop)
abbrev Hp:=Addr->Option HO
variable{H:Hp}
def upd(H:Hp)(a:Addr)(o:HO):Hp:=λb=>if b=a then some o else H b
theorem zu{o:HO}:upd H a o a=some o:=by unfold upd;rw [if_pos rfl]
theorem zd{o:HO}(h:b≠a):upd H a o b=H b:=by unfold upd;rw [if_neg h]
theorem zb1{o u:HO}:upd (upd H a o) a u=upd H a u:=by
 funext b;unfold upd;split<;>rfl
theorem zva{o u:HO}(h:H a=some o)(h':H b=some u)(d:o≠u):a≠b:=by
 intro e;subst e;rw [h] at h';exact d (bK.inj h')
theorem zp{o:HO}(h:H a=some o)(h':H b=none):a≠b:=by
 intro e;subst e;rw [h] at h';cases h'
section
variable (P:aI) (w:aZ)
def zT(H:Hp)(h:Heap)(a:Addr):HO->Prop
 | .lst xs=>xs.length<=sizeLine/\∃(its:List Value)(n:Nat),zk xs its/\h.get? a=some { cls:=.type "list",data:=.seq its.toArray n }
 | .tup xs=>xs.length<=sizeLine/\∃its:List Value,zk xs its/\iF h a its.toArray
 | .dK kvs=>kvs.length<=sizeLine/\(a==sysModules)=false/\∃vs,KV kvs vs/\h.DictOf (zad P w) a vs
 | .dT kvs=>kvs.length<=sizeLine/\(a==sysModules)=false/\∃xs:List (List Key×Addr×Value),
   Paired (λ(p:List Key×V)(q:List Key×Addr×Value)=>p.1=q.1/\H q.2.1=some (.tup (p.1.map kV))/\zm p.2 q.2.2) kvs xs /\
   ∃o es ep,h.get? a=some o/\o.ExactDict/\o.data = .dict es ep/\es.toList=xs.map (entryOfKey (ip (zad P w)))/\(xs.map (·.1)).Nodup
 | .set S n=>h.SetOf (intKind P w) a S n
 | .ins C dx fs=>H dx=some (.own a)/\fs.length<=1000/\dx≠a/\h.get? a=some (iM C dx) /\
   ∃mA,h.Ns1 dx mA/\(∀f,zaM (fs.lookup f) (mA f))/\iT mA (fs.map (·.1))
 | .own _=>∃o,h.get? a=some o
 | .xd fs=>∃mA,h.Ns1 a mA/\∀f,zaM (fs.lookup f) (mA f)
 | .rng lo hi=>∃t u v,h.get? a=some { cls:=.type "range",data:=.fields #[.int lo t,.int hi u,.int 1 v] }
 | .frz o u=>h.get? a=some o/\zT H h a u
 | .tbl ps=>h.get? a=some { cls:=.none,data:=.fields ps }
 | .met f x=>h.get? a=some (methodObj (.ref f) (.ref x))
 | .ext φ=>φ h/\(∃o,h.get? a=some o)/\∀h1 h2:Heap,φ h1->(∀o,h1.get? a=some o->h2.get? a=some o)->φ h2
def HOk(H:Hp)(h:Heap):Prop:=∀a o,H a=some o->zT P w H h a o
end
section
variable {P:aI}{w:aZ}{H H':Hp}{h h':Heap}{a:Addr}{o:HO}
theorem zT.lt(x:zT P w H h a o):a<h.objs.size:=by
 cases o with
 | lst xs=>obtain ⟨_,_,_,_,e⟩:=x;exact aP e
 | tup xs=>obtain ⟨_,_,_,p⟩:=x;exact p.lt
 | dK kvs=>obtain ⟨_,_,_,_,o,_,_,e,_⟩:=x;exact aP e
 | dT kvs=>obtain ⟨_,_,_,_,o,_,_,e,_⟩:=x;exact aP e
 | set S n=>obtain ⟨o,_,_,_,e,_⟩:=x;exact aP e
 | ins C dx fs=>obtain ⟨_,_,_,e,_⟩:=x;exact aP e
 | own y=>obtain ⟨_,e⟩:=x;exact aP e
 | xd fs=>obtain ⟨_,⟨_,_,_,e,_⟩,_⟩:=x;exact aP e
 | rng lo hi=>obtain ⟨_,_,_,e⟩:=x;exact aP e
 | frz ob u=>obtain ⟨e,_⟩:=x;exact aP e
 | tbl ps=>exact aP (show h.get? a=some _ from x)
 | met f y=>exact aP (show h.get? a=some _ from x)
 | ext φ=>obtain ⟨_,⟨_,e⟩,_⟩:=x;exact aP e
theorem Paired.mapP{α β:Type}{F G:α->β->Prop}{l₁:List α}{l₂:List β}(h:Paired F l₁ l₂)(f:∀a b,F a b->G a b):Paired G l₁ l₂:=by
 induction h with
 | nil=>exact .nil
 | cons r t ih=>exact .cons (f _ _ r) ih
theorem zT.stay(x:zT P w H h a o)(k:∀b u,(b=a\/H b=some (.own a))->h.get? b=some u->h'.get? b=some u)
  (ho:∀b,H b=some (.own a)->H' b=some (.own a)) (ht:∀b xs,H b=some (.tup xs)->H' b=some (.tup xs)):zT P w H' h' a o:=by
 induction o with
 | lst xs=>obtain ⟨z,its,n,r,e⟩:=x;exact ⟨z,its,n,r,k _ _ (.inl rfl) e⟩
 | tup xs=>obtain ⟨z,its,r,ob,e,c⟩:=x;exact ⟨z,its,r,ob,k _ _ (.inl rfl) e,c⟩
 | dK kvs=>obtain ⟨z,y,vs,r,ob,es,ep,e,c⟩:=x;exact ⟨z,y,vs,r,ob,es,ep,k _ _ (.inl rfl) e,c⟩
 | dT kvs =>
  obtain ⟨z,y,xs,r,ob,es,ep,e,c⟩:=x;exact ⟨z,y,xs,Paired.mapP r λp q z=>⟨z.1,ht _ _ z.2.1,z.2.2⟩,ob,es,ep,k _ _ (.inl rfl) e,c⟩
 | set S n=>obtain ⟨ob,es,ep,t,e,c⟩:=x;exact ⟨ob,es,ep,t,k _ _ (.inl rfl) e,c⟩
 | ins C dx fs =>
  obtain ⟨d,z,ne,e,mA,⟨od,es,ep,e2,c⟩,r⟩:=x;exact ⟨ho _ d,z,ne,k _ _ (.inl rfl) e,mA,⟨od,es,ep,k _ _ (.inr d) e2,c⟩,r⟩
 | own y=>obtain ⟨ob,e⟩:=x;exact ⟨ob,k _ _ (.inl rfl) e⟩
 | xd fs=>obtain ⟨mA,⟨od,es,ep,e,c⟩,r⟩:=x;exact ⟨mA,⟨od,es,ep,k _ _ (.inl rfl) e,c⟩,r⟩
 | rng lo hi=>obtain ⟨t,u,v,e⟩:=x;exact ⟨t,u,v,k _ _ (.inl rfl) e⟩
 | frz ob u ih=>obtain ⟨e,q⟩:=x;exact ⟨k _ _ (.inl rfl) e,ih q⟩
 | tbl ps =>
  have e:h.get? a=some { cls:=.none,data:=.fields ps }:=x;show h'.get? a=some { cls:=.none,data:=.fields ps };exact k a _ (.inl rfl) e
 | met f y =>
  have e:h.get? a=some (methodObj (.ref f) (.ref y)):=x;show h'.get? a=some (methodObj (.ref f) (.ref y));exact k a _ (.inl rfl) e
 | ext φ=>obtain ⟨p,⟨o,e⟩,st⟩:=x;exact ⟨st _ _ p λo q=>k _ _ (.inl rfl) q,⟨o,k _ _ (.inl rfl) e⟩,st⟩
theorem HOk.lt(x:HOk P w H h)(e:H a=some o):a<h.objs.size:=(x a o e).lt
theorem HOk.fresh(x:HOk P w H h)(e:h.objs.size<=a):H a=none:=by
 cases q:H a with
 | none=>rfl
 | some u=>exact absurd (aR (x.lt q) e) (bj _)
theorem HOk.kept(x:HOk P w H h)(k:∀b u,h.get? b=some u->h'.get? b=some u):HOk P w H h':=λa o e =>
 (x a o e).stay (λb u _ q=>k b u q) (λ_ q=>q) λ_ _ q=>q
theorem HOk.laid(x:HOk P w H h)(k:∀b u,h.get? b=some u->h'.get? b=some u)(hp:h.objs.size<=a)(new:zT P w (upd H a o) h' a o):HOk P w (upd H a o) h':=λb u e=>by
 have hn:=x.fresh hp;by_cases hb:b=a
 .subst hb;rw [zu] at e;cases e;exact new
 .rw [zd hb] at e;exact (x b u e).stay (λc v _ q=>k c v q) (λc q=>by rw [zd (zp q hn)];exact q) λc xs q=>by rw [zd (zp q hn)];exact q
end
def Rd(H:Hp)(a:Addr)(u:HO):Prop:=H a=some u\/∃o,H a=some (.frz o u)
theorem Rd.ok{u:HO}(r:Rd H a u)(x:HOk P w H h):zT P w H h a u:=by
 rcases r with r|⟨o,r⟩
 .exact x a u r
 .obtain ⟨_,q⟩:=x a _ r;exact q
def Mut:Option HO->Prop
 | some (.lst _)=>True
 | some (.dK _)=>True
 | some (.dT _)=>True
 | some (.set _ _)=>True
 | some (.ins _ _ _)=>True
 | some (.ext _)=>True
 | _=>False
section
variable {P:aI}{w:aZ}{H:Hp}{h h':Heap}{x e:Addr}{o':HO}
theorem HOk.write(ok:HOk P w H h)(mu:Mut (H x))(he:e=x\/H e=some (.own x))(k:∀b u,b≠e->h.get? b=some u->h'.get? b=some u)(heo:∃u,h'.get? e=some u)
  (new:zT P w (upd H x o') h' x o'):HOk P w (upd H x o') h':=λb u q=>by
 have nown:∀c y,H c=some (.own y)->c≠x:=λc y r z=>by subst z;rw [r] at mu;exact mu
 have ntup:∀c xs,H c=some (.tup xs)->c≠x:=λc xs r z=>by subst z;rw [r] at mu;exact mu
 by_cases hb:b=x
 .subst hb;rw [zu] at q;cases q;exact new
 .rw [zd hb] at q;by_cases hbe:b=e
  .have q':H b=some (.own x):=by
    rcases he with z|z
    .exact absurd (hbe.trans z) hb
    .rw [hbe];exact z
   rw [q] at q';cases q';obtain ⟨v,hv⟩:=heo;exact ⟨v,by rw [hbe];exact hv⟩
  .refine (ok b u q).stay (λc v hc r=>k c v ?_ r) (λc r=>by rw [zd (nown c b r)];exact r) λc xs r=>by rw [zd (ntup c xs r)];exact r
   rcases hc with rfl|hc
   .exact hbe
   .rintro rfl;rcases he with z|z
    .exact nown c b hc z
    .rw [hc] at z;cases z;exact hb rfl
end
structure Un(fs ex:List Addr)(H H':Hp)(h h':Heap):Prop where
 keep:∀b o,h.get? b=some o->H b=none->b∉fs->b∉ex->h'.get? b=some o
 slot:∀b o,h.get? b=some o->H b=none->b∈fs->b∉ex->∃sl,h'.get? b=some { o with slots:=sl }
 free:∀b o,h.get? b=some o->H b=none->b∉ex->H' b=none
 there:∀b o,h.get? b=some o->b∉ex->∃o',h'.get? b=some o'
 tups:∀b xs,H b=some (.tup xs)->H' b=some (.tup xs)
 frzs:∀b o u,H b=some (.frz o u)->H' b=some (.frz o u)
 tbls:∀b ps,H b=some (.tbl ps)->∃more,H' b=some (.tbl (ps++more))
section
variable {fs fs' ex ex':List Addr}{H H1 H2:Hp}{h h1 h2 h':Heap}{a x e:Addr}{o:HO}
theorem Un.any(u:Un fs ex H H1 h h1){ob:Obj}(q:h.get? b=some ob)(n:H b=none)(hx:b∉ex):∃sl,h1.get? b=some { ob with slots:=sl }:=by
 by_cases hb:b∈fs
 .exact u.slot b ob q n hb hx
 .exact ⟨ob.slots,u.keep b ob q n hb hx⟩
theorem Un.kept(k:∀b u,h.get? b=some u->h'.get? b=some u):Un fs ex H H h h' :=
 ⟨λb ob q _ _ _=>k b ob q,λb ob q _ _ _=>⟨ob.slots,k b ob q⟩,λ_ _ _ n _=>n,λb ob q _=>⟨ob,k b ob q⟩,λ_ _ q=>q,λ_ _ _ q=>q,λ_ ps q=>⟨#[],by rw [q];simp⟩⟩
theorem Un.refl:Un fs ex H H h h:=Un.kept λ_ _ q=>q
theorem Un.laid(k:∀b u,h.get? b=some u->h'.get? b=some u)(hp:h.objs.size<=a)(hn:H a=none):Un fs ex H (upd H a o) h h' where
 keep:=λb u q _ _ _=>k b u q
 slot:=λb u q _ _ _=>⟨u.slots,k b u q⟩
 free:=λb u q n _=>by rw [zd (bC (aR (aP q) hp))];exact n
 there:=λb u q _=>⟨u,k b u q⟩
 tups:=λb xs q=>by rw [zd (zp q hn)];exact q
 frzs:=λb u xs q=>by rw [zd (zp q hn)];exact q
 tbls:=λb ps q=>⟨#[],by rw [zd (zp q hn),q];simp⟩
theorem Un.write(mu:Mut (H x))(he:e=x\/H e=some (.own x))(k:∀b u,b≠e->h.get? b=some u->h'.get? b=some u)(heo:∃u,h'.get? e=some u):Un fs ex H (upd H x o) h h':=by
 have hx:∀b,H b=none->b≠x:=λb n z=>by subst z;rw [n] at mu;exact mu
 have hb:∀b,H b=none->b≠e:=λb n z=>by
  subst z;rcases he with r|r
  .exact hx b n r
  .rw [n] at r;cases r
 have hm:∀b u,H b=some u->¬ Mut (some u)->b≠x:=λb u q nm z=>by subst z;rw [q] at mu;exact nm mu
 refine ⟨λb u q n _ _=>k b u (hb b n) q,λb u q n _ _=>⟨u.slots,k b u (hb b n) q⟩,λb u q n _=>by rw [zd (hx b n)];exact n,λb u q _=>?_,
  λb xs q=>by rw [zd (hm b _ q λz=>z)];exact q,λb u xs q=>by rw [zd (hm b _ q λz=>z)];exact q,λb ps q=>⟨#[],by rw [zd (hm b _ q λz=>z),q];simp⟩⟩
 by_cases hbe:b=e
 .subst hbe;exact heo
 .exact ⟨u,k b u hbe q⟩
end
def trk(h:Heap)(H:Hp):List Addr:=(ic h.objs.size).filter λa=>(H a).isSome
def zbN(h:Heap)(H:Hp):Heap:=hideAll h (trk h H)
theorem zn1(h:Heap)(H:Hp):(zbN h H).objs.size=h.objs.size:=PySem.W.hideAll_size _ _
theorem zvc(e:h.get? b=some o)(n:H b=none):(zbN h H).get? b=some o :=
 hideAll_get _ e λhm=>by
  have q:(H b).isSome=true:=(iV.mp hm).2;rw [n] at q;simp at q
theorem zsb(e:(zbN h H).get? b=some o):h.get? b=some o/\H b=none:=by
 have e':h.get? b=some o:=iL (trk h H) e;refine ⟨e',?_⟩;cases q:H b with
 | none=>rfl
 | some x =>
  have hm:b∈trk h H:=iV.mpr ⟨gU.mpr (aP e'),by simp [q]⟩;have z:(zbN h H).get? b=none:=PySem.W.hideAll_none (trk h H) hm;rw [z] at e;cases e
def zcE(g h:Heap)(L:Addr):List (Addr×Obj):=(ic h.objs.size).filterMap λa=>if a=L\/(g.get? a).isSome=true then none else (h.get? a).map λo=>(a,o)
theorem ztd{g:Heap}(h1:a≠L)(h2:g.get? a=none)(h3:h.get? a=some o):(a,o)∈zcE g h L :=
 gt.mpr ⟨a,gU.mpr (aP h3),by simp [h1,h2,h3]⟩
theorem zuw{g:Heap}{p:Addr×Obj}(hp:p∈zcE g h L):p.1≠L/\g.get? p.1=none/\h.get? p.1=some p.2:=by
 obtain ⟨b,_,e⟩:=gt.mp hp;split at e
 .cases e
 .rename_i hn;cases q:h.get? b with
  | none=>rw [q] at e;simp at e
  | some u =>
   rw [q] at e;simp only [iX,bK.injEq] at e;subst e;refine ⟨λz=>hn (.inl z),?_,q⟩;show g.get? b=none;cases r:g.get? b with
   | none=>rfl
   | some v=>exact (hn (.inr (by simp [r]))).elim
theorem ztr{g:Heap}:News g L h (zcE g h L):=λp hp=>let ⟨a,b,c⟩:=zuw hp;⟨c,a,b⟩
structure Mod(K:ag)(mg:Str->Option Value)(base:Heap):Prop where
 kin:K.In base
 glob:base.Ns az mg
 blt:∃mb,base.Ns gh mb/\∀x:Str,x≠"__name__"->mb x=eL x
 nolimit:base.NoLimit
def zej(A:be)(H:Hp):Prop:=A.handled=none\/∃(a:Addr)(o:Obj)(vs:Array Value),A.handled=some (.ref a)/\H a=some (.frz o (.own 0))/\o.data = .fields vs/\vs[2]?=some .none/\∃C,o.cls = .ref C
theorem zej.same{H':Hp}(x:zej A H)(k:∀b o u,H b=some (.frz o u)->H' b=some (.frz o u)):zej A H':=by
 rcases x with x|⟨a,o,vs,h1,h2,h3⟩
 .exact .inl x
 .exact .inr ⟨a,o,vs,h1,k _ _ _ h2,h3⟩
structure Cx where
 prog:aI
 w:aZ
 K:ag
 mg:Str->Option Value
 base:Heap
 A:be
 N:List Str
 s₀:af
 H₀:Hp
 env:Env
 outer:List Env
 stack:List Env
 ex:List Addr
 fn:Str->Bool
 calm:Bool
 pn:List (Addr×Obj)
 xe:Value->af->Prop
variable{X:Cx}
def frs(l:List Env):List Addr:=l.filterMap (·.frame)
abbrev Cx.fs(X:Cx):List Addr:=frs X.outer
def Vis(sc:Scope)(x:Str):Prop:=sc.names.lookup x=some .local\/sc.names.lookup x=some .cell\/sc.names.lookup x=some .free
def Loc(sc:Scope)(x:Str):Prop:=sc.names.lookup x=some .local\/sc.names.lookup x=some .cell
def zto(env:Env)(h:Heap)(m:Str->Option Value)(x:Str)(u:Value):Prop :=
 (env.kindOf x=some .local/\m x=some u)\/((env.kindOf x=some .cell\/env.kindOf x=some .free)/\∃c,env.cells.lookup x=some c/\h.IsCell c (some u))
structure Cx.Ok(X:Cx):Prop where
 mod:Mod X.K X.mg X.base
 kind:X.env.scope.kind = .function
 glob:X.env.globals=az
 blt:X.env.builtins=gh
 above:X.s₀.heap.objs.size<=X.env.locals
 inj:∀x y c,X.env.cells.lookup x=some c->X.env.cells.lookup y=some c->x=y
 has:∀x,(X.env.kindOf x=some .cell\/X.env.kindOf x=some .free)->∃c,X.env.cells.lookup x=some c
 cab:∀x c,X.fn x=true->X.env.cells.lookup x=some c->X.s₀.heap.objs.size<=c
 hd:X.calm=true->X.A.handled=none
 frames:X.A.frames=some X.stack
 stk:X.stack=X.outer\/(X.stack=X.env::X.outer/\X.env.frame=some X.env.locals)
 exf:∀b∈X.ex,b≠X.env.locals/\∀x c,X.env.cells.lookup x=some c->c≠b
 bs:∀b o,X.base.get? b=some o->X.s₀.heap.get? b=some o/\X.H₀ b=none
 bsz:X.base.objs.size<=X.s₀.heap.objs.size
 noex:∀b o,X.base.get? b=some o->b∉X.ex
 exfs:∀b∈X.ex,b∉X.fs
 funs:X.s₀.heap.FunFrames X.base X.outer
 frf:∀b∈X.fs,X.H₀ b=none
structure Inv(X:Cx)(Ga:List (Addr×Obj))(σ:List (Option V))(H:Hp)(s:af):Prop where
 ok:X.Ok
 os:s.os=X.s₀.os
 bare:eV s.gens
 base:Un X.fs X.ex X.H₀ H X.s₀.heap s.heap
 loc:∃m,s.heap.Ns X.env.locals m/\∀(i:Nat)(x:Str)(v:V),X.N[i]?=some x->σ[i]?=some (some v)->Vis X.env.scope x->∃u,zm v u/\zto X.env s.heap m x u
 cell:∀x c,X.env.cells.lookup x=some c->∃v,s.heap.IsCell c v
 free:H X.env.locals=none
 freeC:∀x c,X.env.cells.lookup x=some c->H c=none
 pin:∀p∈X.pn++Ga,s.heap.get? p.1=some p.2/\H p.1=none/\p.1≠X.env.locals/\p.1∉X.fs/\∀v,p.2.data≠.cell v
 hok:HOk X.prog X.w H s.heap
 len:σ.length=X.N.length
 hdk:zej X.A H
section
variable {X:Cx}{Ga:List (Addr×Obj)}{σ:List (Option V)}{H H':Hp}{s:af}{h':Heap}
theorem Cx.Ok.nofr(ok:X.Ok)(e:X.base.get? b=some o):b∉X.fs:=λhb=>by
 have:=(ok.funs.mem hb).1;rw [e] at this;cases this
theorem Inv.bs(I:Inv X Ga σ H s):∀b o,X.base.get? b=some o->s.heap.get? b=some o/\H b=none:=λb o e =>
 ⟨I.base.keep b o (I.ok.bs b o e).1 (I.ok.bs b o e).2 (I.ok.nofr e) (I.ok.noex b o e),I.base.free b o (I.ok.bs b o e).1 (I.ok.bs b o e).2 (I.ok.noex b o e)⟩
theorem Inv.bk(I:Inv X Ga σ H s):∀b o,X.base.get? b=some o->s.heap.get? b=some o:=λb o e=>(I.bs b o e).1
theorem Inv.mod(I:Inv X Ga σ H s):Mod X.K X.mg X.base:=I.ok.mod
theorem Inv.kIn(I:Inv X Ga σ H s):X.K.In s.heap:=I.ok.mod.kin.keeps I.bk
theorem Inv.fr(I:Inv X Ga σ H s):∃m,Fr X.base X.env.locals s.heap m :=
 let ⟨m,hn,_⟩:=I.loc
 ⟨m,hn,I.bk,aW I.ok.bsz I.ok.above⟩
theorem Inv.lt(I:Inv X Ga σ H s):X.env.locals<s.heap.objs.size:=let ⟨_,hn,_⟩:=I.loc;hn.lt
theorem Inv.sz(I:Inv X Ga σ H s):X.s₀.heap.objs.size<=s.heap.objs.size:=aW I.ok.above (dE I.lt)
theorem Inv.nofs(I:Inv X Ga σ H s)(h:s.heap.objs.size<=a):a∉X.fs:=λhb=>by
 obtain ⟨_,o,ho,_⟩:=I.ok.funs.mem hb;exact absurd (aR (aP ho) (aW I.sz h)) (bj _)
theorem Inv.cne(I:Inv X Ga σ H s):∀x c,X.env.cells.lookup x=some c->c≠X.env.locals:=λx c e z=>by
 obtain ⟨v,o,ho,hd⟩:=I.cell x c e;obtain ⟨m,⟨o',es,ep,ho',hd',_⟩,_⟩:=I.loc;rw [z,ho'] at ho;cases ho;rw [hd'] at hd;cases hd
theorem Inv.funs(I:Inv X Ga σ H s):s.heap.FunFrames X.base X.outer:=by
 have all:∀(l:List Env),(∀b∈frs l,b∈X.fs)->X.s₀.heap.FunFrames X.base l->s.heap.FunFrames X.base l:=by
  intro l
  induction l with
  | nil=>intro _ _;trivial
  | cons env r ih =>
   intro hs hl;obtain ⟨hk,⟨L,o,hf,hn,ho,hd⟩,hr⟩:=hl;have hL:L∈X.fs:=hs L (by unfold frs;rw [gP,hf];exact bf);obtain ⟨sl,e⟩:=I.base.slot L o ho (I.ok.frf L hL) hL λz=>I.ok.exfs L z hL;exact ⟨hk,⟨L,_,hf,hn,e,hd⟩,ih (λb hb=>hs b (by unfold frs;rw [gP,hf];exact aF _ hb)) hr⟩
 exact all X.outer (λ_ hb=>hb) I.ok.funs
theorem Inv.stack(I:Inv X Ga σ H s):s.heap.FunFrames X.base X.stack:=by
 rcases I.ok.stk with e|⟨e,hf⟩
 .rw [e];exact I.funs
 .rw [e];obtain ⟨m,hn,_⟩:=I.loc;refine .cons (by rw [I.ok.kind];decide) hf hn ?_ I.funs;exact gK (aW I.ok.bsz I.ok.above)
theorem Inv.stkSub(I:Inv X Ga σ H s):∀b∈frs X.stack,b∈X.env.locals::X.fs:=λb hb=>by
 rcases I.ok.stk with e|⟨e,hf⟩
 .rw [e] at hb;exact aF _ hb
 .rw [e] at hb;unfold frs at hb;rw [gP,hf] at hb;exact hb
theorem Inv.stkFree(I:Inv X Ga σ H s):∀b∈frs X.stack,H b=none:=λb hb=>by
 rcases au.mp (I.stkSub b hb) with e|hb
 .rw [e];exact I.free
 .obtain ⟨_,o,ho,_⟩:=I.ok.funs.mem hb;exact I.base.free b o ho (I.ok.frf b hb) λz=>I.ok.exfs b z hb
theorem Inv.step{g':Array GenState}{d':Drawn}(I:Inv X Ga σ H s)
  (hch:∀b∈ch,(b∈X.ex\/X.s₀.heap.objs.size<=b)/\b≠X.env.locals/\(∀x c,X.env.cells.lookup x=some c->c≠b)/\∀p∈X.pn++Ga,p.1≠b)
  (keep:∀b o,b≠X.env.locals->b∉X.fs->b∉ch->s.heap.get? b=some o->H b=none->h'.get? b=some o)
  (slot:∀b o,b≠X.env.locals->b∈X.fs->b∉ch->s.heap.get? b=some o->H b=none->∃sl,h'.get? b=some { o with slots:=sl }) (free:∀b o,b∉ch->s.heap.get? b=some o->H b=none->H' b=none)
  (there:∀b o,b∉ch->s.heap.get? b=some o->∃o',h'.get? b=some o')
  (tups:∀b xs,H b=some (.tup xs)->H' b=some (.tup xs)) (frzs:∀b o u,H b=some (.frz o u)->H' b=some (.frz o u)) (tbls:∀b ps,H b=some (.tbl ps)->∃more,H' b=some (.tbl (ps++more)))
  (ns:∀m,s.heap.Ns X.env.locals m->h'.Ns X.env.locals m) (hok:HOk X.prog X.w H' h') (hg:eV g') :
  Inv X Ga σ H' { s with heap:=h',gens:=g',drawn:=d',toks:=t' }:=by
 have neL:∀b o,X.s₀.heap.get? b=some o->b≠X.env.locals:=λb o e=>bC (aR (aP e) I.ok.above);have neC:∀b o,X.s₀.heap.get? b=some o->b∉X.ex->b∉ch:=λb o e hx hb=>by
  rcases (hch b hb).1 with z|z
  .exact hx z
  .exact absurd (aR (aP e) z) (bj _)
 have cellK:∀x c,X.env.cells.lookup x=some c->∀v,s.heap.IsCell c v->h'.IsCell c v:=λx c e v ⟨o,ho,hd⟩=>by
  have nch:c∉ch:=λz=>(hch c z).2.2.1 x c e rfl;by_cases hc:c∈X.fs
  .obtain ⟨sl,q⟩:=slot c o (I.cne x c e) hc nch ho (I.freeC x c e);exact ⟨_,q,hd⟩
  .exact ⟨o,keep c o (I.cne x c e) hc nch ho (I.freeC x c e),hd⟩
 refine ⟨I.ok,I.os,hg,⟨λb o e n hb hx=>?_,λb o e n hb hx=>?_,λb o e n hx=>?_,λb o e hx=>?_,λb xs e=>tups b xs (I.base.tups b xs e),λb o xs e=>frzs b o xs (I.base.frzs b o xs e),λb ps e=>?_⟩,?_,λx c e=>?_,?_,λx c e=>?_,λp hp=>?_,hok,I.len,I.hdk.same frzs⟩
 .exact keep b o (neL b o e) hb (neC b o e hx) (I.base.keep b o e n hb hx) (I.base.free b o e n hx)
 .obtain ⟨sl,e1⟩:=I.base.slot b o e n hb hx;obtain ⟨sl',e2⟩:=slot b _ (neL b o e) hb (neC b o e hx) e1 (I.base.free b o e n hx);exact ⟨sl',e2⟩
 .obtain ⟨o',e1⟩:=I.base.there b o e hx;exact free b o' (neC b o e hx) e1 (I.base.free b o e n hx)
 .obtain ⟨o',e1⟩:=I.base.there b o e hx;exact there b o' (neC b o e hx) e1
 .obtain ⟨m1,e1⟩:=I.base.tbls b ps e;obtain ⟨m2,e2⟩:=tbls b _ e1;exact ⟨m1++m2,by rw [e2,Array.append_assoc]⟩
 .obtain ⟨m,hn,hl⟩:=I.loc;refine ⟨m,ns m hn,λi x v e1 e2 e3=>?_⟩;obtain ⟨u,r,l⟩:=hl i x v e1 e2 e3;refine ⟨u,r,?_⟩;rcases l with l|⟨k,c,e,z⟩
  .exact .inl l
  .exact .inr ⟨k,c,e,cellK x c e _ z⟩
 .obtain ⟨v,z⟩:=I.cell x c e;exact ⟨v,cellK x c e v z⟩
 .obtain ⟨m,⟨o,_,_,ho,_⟩,_⟩:=I.loc;exact free _ o (λz=>(hch _ z).2.1 rfl) ho I.free
 .obtain ⟨v,o,ho,hd⟩:=I.cell x c e;exact free c o (λz=>(hch c z).2.2.1 x c e rfl) ho (I.freeC x c e)
 .obtain ⟨e,n,ne,nf,d⟩:=I.pin p hp;have nch:p.1∉ch:=λz=>(hch p.1 z).2.2.2 p hp rfl;exact ⟨keep p.1 p.2 ne nf nch e n,free p.1 p.2 nch e n,ne,nf,d⟩
theorem Inv.un(I:Inv X Ga σ H s)(u:Un X.fs [] H H' s.heap h')(hok:HOk X.prog X.w H' h'):Inv X Ga σ H' { s with heap:=h',toks:=t' }:=by
 obtain ⟨m,⟨o,es,ep,ho,r⟩,_⟩:=id I.loc;obtain ⟨sl,hL⟩:=u.any ho I.free (by simp);exact I.step (g':=s.gens) (d':=s.drawn) (ch:=[]) (λ_ z=>nomatch z) (λb o _ hb _ e n=>u.keep b o e n hb (by simp)) (λb o _ hb _ e n=>u.slot b o e n hb (by simp)) (λb o _ e n=>u.free b o e n (by simp)) (λb o _ e=>u.there b o e (by simp)) u.tups u.frzs u.tbls (λm' hm=>by
  obtain ⟨o',es',ep',ho',r'⟩:=hm;rw [ho] at ho';cases ho';exact ⟨_,es',ep',hL,r'⟩) hok I.bare
theorem Inv.call{g':Array GenState}{d':Drawn}(I:Inv X Ga σ H s)(u:Un (frs X.stack) ch H H' s.heap h')(hok:HOk X.prog X.w H' h')(hg:eV g')
  (hch:∀b∈ch,(b∈X.ex\/X.s₀.heap.objs.size<=b)/\b≠X.env.locals/\(∀x c,X.env.cells.lookup x=some c->c≠b)/\∀p∈X.pn++Ga,p.1≠b) :
  Inv X Ga σ H' { s with heap:=h',gens:=g',drawn:=d',toks:=t' }:=by
 obtain ⟨m,⟨o,es,ep,ho,r⟩,_⟩:=id I.loc;obtain ⟨sl,hL⟩:=u.any ho I.free λz=>(hch _ z).2.1 rfl;exact I.step (ch:=ch) hch (λb o hL hb hc e n=>u.keep b o e n (λz=>(au.mp (I.stkSub b z)).elim hL hb) hc) (λb o _ _ hc e n=>u.any e n hc) (λb o hc e n=>u.free b o e n hc) (λb o hc e=>u.there b o e hc) u.tups u.frzs u.tbls (λm' hm=>by
  obtain ⟨o',es',ep',ho',r'⟩:=hm;rw [ho] at ho';cases ho';exact ⟨_,es',ep',hL,r'⟩) hok hg
theorem Inv.turned{it:Addr}(I:Inv X Ga σ H s)(k:∀b o,b≠it->s.heap.get? b=some o->h'.get? b=some o)(hn:H it=none)(hL:it≠X.env.locals)
  (h1:it∈X.ex\/X.s₀.heap.objs.size<=it) (h2:∀x c,X.env.cells.lookup x=some c->c≠it) (h3:∀p∈X.pn++Ga,p.1≠it):Inv X Ga σ H { s with heap:=h',toks:=t' }:=by
 have nit:∀b u,H b=some u->b≠it:=λb u e z=>by rw [z,hn] at e;cases e
 refine I.step (g':=s.gens) (d':=s.drawn) (ch:=[it]) (λb hb=>?_) (λb o _ _ hc e _=>k b o (λz=>hc (by simp [z])) e) (λb o _ _ hc e _=>⟨o.slots,k b o (λz=>hc (by simp [z])) e⟩) (λ_ _ _ _ n=>n)
  (λb o hc e=>⟨o,k b o (λz=>hc (by simp [z])) e⟩) (λ_ _ e=>e) (λ_ _ _ e=>e) (λb ps e=>⟨#[],by rw [e];simp⟩) (λm hm=>?_) (λb u e=>?_) I.bare
 .have e:b=it:=by simpa using hb
  subst e;exact ⟨h1,hL,h2,h3⟩
 .obtain ⟨o,es,ep,ho,r⟩:=hm;exact ⟨o,es,ep,k _ o (aU hL) ho,r⟩
 .refine (I.hok b u e).stay (λc v hc q=>k c v ?_ q) (λ_ q=>q) λ_ _ q=>q;rcases hc with z|z
  .rw [z];exact nit b u e
  .exact nit c _ z
theorem Inv.tok(I:Inv X Ga σ H s)(t:Nat):Inv X Ga σ H { s with toks:=t }:=I.un (h':=s.heap) (t':=t) Un.refl I.hok
theorem Inv.kept(I:Inv X Ga σ H s)(k:∀b u,s.heap.get? b=some u->h'.get? b=some u):Inv X Ga σ H { s with heap:=h',toks:=t' }:=I.un (Un.kept k) (I.hok.kept k)
theorem Inv.laid{o:HO}(I:Inv X Ga σ H s)(k:∀b u,s.heap.get? b=some u->h'.get? b=some u)(hp:s.heap.objs.size<=a)(new:zT X.prog X.w (upd H a o) h' a o) :
  Inv X Ga σ (upd H a o) { s with heap:=h',toks:=t' }:=I.un (Un.laid k hp (I.hok.fresh hp)) (I.hok.laid k hp new)
theorem Inv.write{x e:Addr}{o:HO}(I:Inv X Ga σ H s)(mu:Mut (H x))(he:e=x\/H e=some (.own x))(k:∀b u,b≠e->s.heap.get? b=some u->h'.get? b=some u)(heo:∃u,h'.get? e=some u)
  (new:zT X.prog X.w (upd H x o) h' x o):Inv X Ga σ (upd H x o) { s with heap:=h',toks:=t' }:=I.un (Un.write mu he k heo) (I.hok.write mu he k heo new)
theorem Inv.pins_of{pins':List (Addr×Obj)}(I:Inv X Ga σ H s)(h:∀p∈pins',s.heap.get? p.1=some p.2/\H p.1=none/\p.1≠X.env.locals/\p.1∉X.fs/\∀v,p.2.data≠.cell v):Inv X pins' σ H s :=
 ⟨I.ok,I.os,I.bare,I.base,I.loc,I.cell,I.free,I.freeC,λp hp=>(aS.mp hp).elim (λz=>I.pin p (bN _ z)) (h p),I.hok,I.len,I.hdk⟩
theorem zkl(hN:N.Nodup){j:Nat}(a:N[i]?=some x)(b:N[j]?=some x):i=j:=by
 obtain ⟨h1,e1⟩:=ak.mp a;obtain ⟨h2,e2⟩:=ak.mp b;exact (List.getElem_inj hN).mp (e1.trans e2.symm)
theorem zos{Q:Unit->af->Prop}(I:Inv X Ga σ H s)(hN:X.N.Nodup)(hi:X.N[i]?=some x)(hx:Loc X.env.scope x)(r:zm v u)
  (h:∀s',Inv X Ga (σ.set i (some v)) H s'->(∃a,fu a s.heap s'.heap/\(a=X.env.locals\/X.env.cells.lookup x=some a))->Q () s') (hf:X.fn x=true\/X.env.scope.names.lookup x=some .local:=by first|exact .inl rfl|exact .inr rfl|assumption):aH M A (storeName X.env x u) Q E s:=by
 obtain ⟨m,hn,hl⟩:=id I.loc;have hcls:(X.env.scope.kind == .class||(X.env.scope.kind == .module&&X.env.locals != X.env.globals))=false:=by rw [I.ok.kind];rfl
 have hiσ:i<σ.length:=by rw [I.len];exact (ak.mp hi).1
 have cne:=I.cne;have tracked:∀{a:Addr}{h':Heap},(∃o,s.heap.get? a=some o/\H a=none)->fu a s.heap h'->HOk X.prog X.w H h':=λ{a h'} ha hs b ob e=>by
  obtain ⟨_,_,hfree⟩:=ha;refine (I.hok b ob e).stay (λc w' hc q=>(hs.2 c ?_).trans q) (λ_ q=>q) λ_ _ q=>q;rintro rfl;rcases hc with rfl|hc
  .rw [hfree] at e;cases e
  .rw [hfree] at hc;cases hc
 rcases hx with hk|hk
 .refine wpAny_storeName_local hk hn (λh' hn' hs=>?_) hcls;obtain ⟨oL,_,_,hoL,_⟩:=id hn;refine h _ ⟨I.ok,I.os,I.bare,⟨λb o e n hb hx=>?_,λb o e n hb hx=>?_,I.base.free,λb o e hx=>?_,I.base.tups,I.base.frzs,I.base.tbls⟩,⟨_,hn',λj y v' e1 e2 e3=>?_⟩,λy c e=>?_,I.free,I.freeC,λp hp=>?_,tracked ⟨oL,hoL,I.free⟩ hs,by simpa using I.len,I.hdk⟩ ⟨_,hs,.inl rfl⟩
  .exact (hs.2 b (bC (aR (aP e) I.ok.above))).trans (I.base.keep b o e n hb hx)
  .obtain ⟨sl,e1⟩:=I.base.slot b o e n hb hx;exact ⟨sl,(hs.2 b (bC (aR (aP e) I.ok.above))).trans e1⟩
  .obtain ⟨o',e1⟩:=I.base.there b o e hx;exact ⟨o',(hs.2 b (bC (aR (aP e) I.ok.above))).trans e1⟩
  .by_cases hj:j=i
   .subst hj;rw [hi] at e1;cases e1;rw [eT hiσ] at e2;cases e2;exact ⟨u,r,.inl ⟨hk,by simp⟩⟩
   .rw [eM (aU hj)] at e2;obtain ⟨u',r',q⟩:=hl j y v' e1 e2 e3;refine ⟨u',r',?_⟩;rcases q with ⟨k,e⟩|⟨k,c,e,z⟩
    .refine .inl ⟨k,?_⟩;have:y≠x:=λe=>hj (zkl hN e1 (e ▸ hi));simp [this,e]
    .exact .inr ⟨k,c,e,z.sameBut hs (cne y c e)⟩
  .obtain ⟨w',z⟩:=I.cell y c e;exact ⟨w',z.sameBut hs (cne y c e)⟩
  .obtain ⟨e,n,ne,nf,d⟩:=I.pin p hp;exact ⟨(hs.2 p.1 ne).trans e,n,ne,nf,d⟩
 .have hfn:X.fn x=true:=by
   rcases hf with z|z
   .exact z
   .rw [z] at hk;cases hk
  obtain ⟨c,hc⟩:=I.ok.has x (.inl hk);obtain ⟨w',z⟩:=I.cell x c hc;refine wpAny_storeName_cell I.ok.kind hk hc z (λh' hc' hs=>?_);obtain ⟨oc,hoc,hocd⟩:=id z;refine h { s with heap:=h' } ⟨I.ok,I.os,I.bare,⟨λb o e n hb hx=>?_,λb o e n hb hx=>?_,I.base.free,λb o e hx=>?_,I.base.tups,I.base.frzs,I.base.tbls⟩,⟨m,hn.sameBut hs (aU (cne x c hc)),λj y v' e1 e2 e3=>?_⟩,λy c' e=>?_,I.free,I.freeC,λp hp=>?_,tracked ⟨oc,hoc,I.freeC x c hc⟩ hs,by simpa using I.len,I.hdk⟩ ⟨c,hs,.inr hc⟩
  .exact (hs.2 b (bC (aR (aP e) (I.ok.cab x c hfn hc)))).trans (I.base.keep b o e n hb hx)
  .obtain ⟨sl,e1⟩:=I.base.slot b o e n hb hx;exact ⟨sl,(hs.2 b (bC (aR (aP e) (I.ok.cab x c hfn hc)))).trans e1⟩
  .obtain ⟨o',e1⟩:=I.base.there b o e hx;exact ⟨o',(hs.2 b (bC (aR (aP e) (I.ok.cab x c hfn hc)))).trans e1⟩
  .by_cases hj:j=i
   .subst hj;rw [hi] at e1;cases e1;rw [eT hiσ] at e2;cases e2;exact ⟨u,r,.inr ⟨.inl hk,c,hc,hc'⟩⟩
   .rw [eM (aU hj)] at e2;obtain ⟨u',r',q⟩:=hl j y v' e1 e2 e3;refine ⟨u',r',?_⟩;rcases q with q|⟨k,c',e,z'⟩
    .exact .inl q
    .refine .inr ⟨k,c',e,z'.sameBut hs ?_⟩;rintro rfl;exact hj (zkl hN e1 (I.ok.inj _ _ _ e hc ▸ hi))
  .by_cases hcc:c'=c
   .subst hcc;exact ⟨_,hc'⟩
   .obtain ⟨w2,z2⟩:=I.cell y c' e;exact ⟨w2,z2.sameBut hs hcc⟩
  .obtain ⟨e,n,ne,nf,d⟩:=I.pin p hp;refine ⟨(hs.2 p.1 ?_).trans e,n,ne,nf,d⟩;intro q;rw [q,hoc] at e;have q':oc=p.2:=bK.inj e;exact d w' (by rw [<- q'];exact hocd)
theorem zfP{Q:Unit->af->Prop}(I:Inv X Ga σ H s)(hN:X.N.Nodup)(hi:X.N[i]?=some x)(hx:Loc X.env.scope x)(r:zm v u)
  (h:∀s',Inv X Ga (σ.set i (some v)) H s'->Q () s') (hf:X.fn x=true\/X.env.scope.names.lookup x=some .local:=by first|exact .inl rfl|exact .inr rfl|assumption):aH M A (storeName X.env x u) Q E s :=
 zos I hN hi hx r (λs' I' _=>h s' I') hf
theorem Inv.call'{s':af}(I:Inv X Ga σ H s)(ho:s'.os=s.os)(u:Un (frs X.stack) ch H H' s.heap s'.heap)(hok:HOk X.prog X.w H' s'.heap)(hg:eV s'.gens)
  (hch:∀b∈ch,(b∈X.ex\/X.s₀.heap.objs.size<=b)/\b≠X.env.locals/\(∀x c,X.env.cells.lookup x=some c->c≠b)/\∀p∈X.pn++Ga,p.1≠b):Inv X Ga σ H' s':=by
 obtain ⟨h',g',d',t',o'⟩:=s';have e:o'=s.os:=ho;subst e;exact I.call (g':=g') (t':=t') (d':=d') u hok hg hch
end
abbrev XK:=Value->Option Addr->Hp->Prop
abbrev St:=List (Option V)
variable{σ:St}
abbrev VK:=V->Hp->Prop
abbrev TE:=St->Hp->VK->Prop
variable{te:TE}
abbrev TT:=St->Hp->(Bool->Hp->Prop)->Prop
abbrev TA:=St->Hp->(List V->Hp->Prop)->Prop
structure zaG where
 nx:St->Hp->Prop
 rt:VK
 bk:St->Hp->Prop:=λ_ _=>False
 ct:St->Hp->Prop:=λ_ _=>False
abbrev TS:=zaG->St->Hp->Prop
variable{tb:TS}
def EP(X:Cx)(Ga:List (Addr×Obj))(σ:St)(Q:VK)(u:Value)(s':af):Prop:=∃v H',Inv X Ga σ H' s'/\zm v u/\Q v H'
def TP(X:Cx)(Ga:List (Addr×Obj))(σ:St)(Q:Bool->Hp->Prop)(b:Bool)(s':af):Prop:=∃H',Inv X Ga σ H' s'/\Q b H'
def AP(X:Cx)(Ga:List (Addr×Obj))(σ:St)(Q:List V->Hp->Prop)(us:List Value)(s':af):Prop:=∃vs H',Inv X Ga σ H' s'/\zk vs us/\Q vs H'
def SP(X:Cx)(Ga:List (Addr×Obj))(D:zaG)(f:Flow)(s':af):Prop :=
 match f with
 | .next=>∃σ' H',Inv X Ga σ' H' s'/\D.nx σ' H'
 | .brk=>∃σ' H',Inv X Ga σ' H' s'/\D.bk σ' H'
 | .cont=>∃σ' H',Inv X Ga σ' H' s'/\D.ct σ' H'
 | .ret u=>∃v σ' H',Inv X Ga σ' H' s'/\zm v u/\D.rt v H'
def PE(X:Cx)(e:bw)(t:TE):Prop :=
 ∀(Ga:List (Addr×Obj))(s:af)(σ:St)(H:Hp)(Q:VK),Inv X Ga σ H s->t σ H Q->aH (aC X.prog X.w) X.A (bV e X.env) (EP X Ga σ Q) X.xe s
def PT(X:Cx)(e:bw)(t:TT):Prop :=
 ∀(Ga:List (Addr×Obj))(s:af)(σ:St)(H:Hp)(Q:Bool->Hp->Prop),Inv X Ga σ H s->t σ H Q->aH (aC X.prog X.w) X.A (isTrue e X.env (bV e X.env)) (TP X Ga σ Q) X.xe s
def PW(X:Cx)(e:bw)(t:TT):Prop :=
 ∀(whole:Sem Value)(Ga:List (Addr×Obj))(s:af)(σ:St)(H:Hp)(Q:Bool->Hp->Prop),Inv X Ga σ H s->t σ H Q->aH (aC X.prog X.w) X.A (isTrue e X.env whole) (TP X Ga σ Q) X.xe s
theorem PW.pt{t:TT}(h:PW X e t):PT X e t:=h _
def PA(X:Cx)(es:List bw)(t:TA):Prop :=
 ∀(pos:Pos)(Ga:List (Addr×Obj))(s:af)(σ:St)(H:Hp)(Q:List V->Hp->Prop),Inv X Ga σ H s->t σ H Q->aH (aC X.prog X.w) X.A (spliced (dL pos (aV es X.env))) (AP X Ga σ Q) X.xe s
def PS(X:Cx)(st:Stmt)(t:TS):Prop :=
 ∀(Ga:List (Addr×Obj))(s:af)(σ:St)(H:Hp)(D:zaG),Inv X Ga σ H s->t D σ H->aH (aC X.prog X.w) X.A (exec st X.env) (SP X Ga D) X.xe s
def PSs(X:Cx)(st:List Stmt)(t:TS):Prop :=
 ∀(Ga:List (Addr×Obj))(s:af)(σ:St)(H:Hp)(D:zaG),Inv X Ga σ H s->t D σ H->aH (aC X.prog X.w) X.A (execs st X.env) (SP X Ga D) X.xe s
theorem x2e{a b c:Prop}(f:a->b->c)(h:a/\b):c:=f h.1 h.2
theorem x3e{A B:α->Prop}(f:∀x,A x->B x->D)(h:∃x,A x/\B x):D:=h.elim λx z=>f x z.1 z.2
theorem x4e{β:Sort _}{A B:α->β->Prop}(f:∀x y,A x y->B x y->D)(h:∃x y,A x y/\B x y):D:=h.elim λx=>x3e (f x)
theorem x5e{β:Sort _}{A B C:α->β->Prop}(f:∀x y,A x y->B x y->C x y->D)(h:∃x y,A x y/\B x y/\C x y):D:=h.elim λx=>x3e λy a=>x2e (f x y a)
theorem thn{α:Type}{t:Sem α}{Q Q':α->af->Prop}(h:aH M A t Q E s)(hQ:∀a s,Q a s->Q' a s):aH M A t Q' E s:=bu h hQ λ_ _ x=>x
section
variable {X:Cx}
def zf5(i:Nat):TE:=λσ H Q=>∃v,σ[i]?=some (some v)/\Q v H
def tC(v:V):TE:=λ_ H Q=>Q v H
theorem ztF(hN:X.N[i]?=some x)(hv:Vis X.env.scope x)(hd:(x==("__debug__":Str))=false:=by decide)(hcd:(x==("__classdict__":Str))=false:=by decide):PE X (.Name x pos) (zf5 i):=by
 intro Ga s σ H Q I h;obtain ⟨v,e,h⟩:=h;obtain ⟨m,hn,hl⟩:=I.loc;obtain ⟨u,r,l⟩:=hl i x v hN e hv;have fin:EP X Ga σ Q u s:=⟨v,H,I,r,h⟩;rcases l with ⟨hk,hm⟩|⟨hk,c,hc,hcell⟩
 .exact wpAny_Name (gz I.ok.kind hk hn hm fin) hd
 .rcases hk with hk|hk
  .exact wpAny_Name (wpAny_loadName_cell I.ok.kind hk hc hcell fin) hd
  .exact wpAny_Name (wpAny_loadName_free I.ok.kind hk hc hcell fin hcd) hd
theorem zeW{i j pos}:PE X (.Constant (.int i) j pos) (tC (.int i)):=λ_ _ _ H _ I h=>gZ ⟨.int i,H,I.tok _,⟨_,rfl⟩,h⟩
theorem zcG{b j pos}:W (PE X (.Constant (.bool b) j pos) (tC (.bl b))):=⟨λ_ _ _ H _ I h=>Constant_bool ⟨.bl b,H,I,rfl,h⟩⟩
theorem zaJ{j pos}:W (PE X (.Constant .none j pos) (tC .non)):=⟨λ_ _ _ H _ I h=>Constant_none ⟨.non,H,I,rfl,h⟩⟩
theorem zM{x j pos}:W (PE X (.Constant (.str x) j pos) (tC (.str x))):=⟨λ_ _ _ H _ I h=>Calls.Constant_str ⟨.str x,H,I.tok _,⟨_,rfl⟩,h⟩⟩
def Gl(X:Cx)(x:Str):Prop:=X.env.kindOf x=some .globalImplicit
theorem zcB(I:Inv X Ga σ H s)(hg:Gl X x)(hm:X.mg x=some u)(h:Q u s)
  (hd:(x==("__debug__":Str))=false:=by decide):aH (aC X.prog X.w) X.A (bV (.Name x pos) X.env) Q E s :=
 Calls.Name_function_global I.ok.kind hg (Calls.loadGlobal_global (by rw [I.ok.glob];exact I.mod.glob.keeps I.bk) hm h) hd
theorem zb8(I:Inv X Ga σ H s)(hg:Gl X x)(hm:X.mg x=none)(hv:eL x=some u)(h:Q u s)
  (hn:x≠"__name__":=by decide) (hd:(x==("__debug__":Str))=false:=by decide):aH (aC X.prog X.w) X.A (bV (.Name x pos) X.env) Q E s:=by
 obtain ⟨mb,h1,h2⟩:=I.mod.blt;exact Calls.Name_function_global I.ok.kind hg (Calls.loadGlobal_builtin (by rw [I.ok.glob];exact I.mod.glob.keeps I.bk) hm (by rw [I.ok.blt];exact h1.keeps I.bk) ((h2 x hn).trans hv) h) hd
theorem ztq(hg:Gl X x)(hm:X.mg x=some u)(r:zm v u)(hd:(x==("__debug__":Str))=false:=by decide):PE X (.Name x pos) (tC v) :=
 λ_ _ _ H _ I h=>zcB I hg hm ⟨v,H,I,r,h⟩ hd
theorem zdg(hg:Gl X x)(hm:X.mg x=none)(hv:eL x=some u)(r:zm v u)(hn:x≠"__name__":=by decide)(hd:(x==("__debug__":Str))=false:=by decide):W (PE X (.Name x pos) (tC v)):=⟨λ_ _ _ H _ I h=>zb8 I hg hm hv ⟨v,H,I,r,h⟩ hn hd⟩
variable {a b:bw}{ta tb:TE}{pos:Pos}
variable {tA tB':TT}{rest:List bw}
def zkb(t u:TT):TT:=λσ H Q=>t σ H λc H1=>if c=true then u σ H1 Q else Q false H1
def tOr(t u:TT):TT:=λσ H Q=>t σ H λc H1=>if c=true then Q true H1 else u σ H1 Q
def zmH(t:TT):TT:=λσ H Q=>t σ H λc H1=>Q (!c) H1
theorem zdn(ha:W (PT X a tA)):W (PW X (.BoolOp .And [a] pos) tA):=by
 refine ⟨?_⟩;have ha:=ha.h;intro wh Ga s σ H Q I h;refine isTrue_and (thn (ha Ga s σ H Q I h) λc s1 e=>?_);cases c with
 | true=>exact isTrue_and_nil e
 | false=>exact e
theorem zgC(ha:W (PT X a tA)):W (PW X (.BoolOp .Or [a] pos) tA):=by
 refine ⟨?_⟩;have ha:=ha.h;intro wh Ga s σ H Q I h;refine isTrue_or (thn (ha Ga s σ H Q I h) λc s1 e=>?_);cases c with
 | false=>exact isTrue_or_nil e
 | true=>exact e
theorem zdb(ha:W (PT X a tA))(hb:W (PW X (.BoolOp .And (b::rest) pos) tB')):W (PW X (.BoolOp .And (a::b::rest) pos) (zkb tA tB')):=by
 refine ⟨?_⟩;have ha:=ha.h;have hb:=hb.h;intro wh Ga s σ H Q I h;refine isTrue_and (thn (ha Ga s σ H _ I h) λc s1=>x3e λH1 I1 q1=>?_);cases c with
 | true=>exact hb wh Ga s1 σ H1 Q I1 q1
 | false=>exact ⟨H1,I1,q1⟩
theorem zg7(ha:W (PT X a tA))(hb:W (PW X (.BoolOp .Or (b::rest) pos) tB')):W (PW X (.BoolOp .Or (a::b::rest) pos) (tOr tA tB')):=by
 refine ⟨?_⟩;have ha:=ha.h;have hb:=hb.h;intro wh Ga s σ H Q I h;refine isTrue_or (thn (ha Ga s σ H _ I h) λc s1=>x3e λH1 I1 q1=>?_);cases c with
 | true=>exact ⟨H1,I1,q1⟩
 | false=>exact hb wh Ga s1 σ H1 Q I1 q1
theorem zcT(ha:W (PT X a tA)):W (PT X (.UnaryOp .Not a pos) (zmH tA)):=by
 refine ⟨?_⟩;have ha:=ha.h;intro Ga s σ H Q I h;exact isTrue_not (ha Ga s σ H (λc H1=>Q (!c) H1) I h)
def zf2(ta tb:TE):TE:=λσ H Q=>ta σ H λx H1=>∃c,x = .bl c/\if c=true then tb σ H1 Q else Q (.bl false) H1
def zjR(ta tb:TE):TE:=λσ H Q=>ta σ H λx H1=>∃c,x = .bl c/\if c=true then Q (.bl true) H1 else tb σ H1 Q
def zh0(ta:TE):TE:=λσ H Q=>ta σ H λx H1=>∃c,x = .bl c/\Q (.bl (!c)) H1
theorem zc9{op}{t:TE}(h:W (PE X a t)):W (PE X (.BoolOp op [a] pos) t):=by refine ⟨?_⟩;have h:=h.h;exact λGa s σ H Q I hw=>BoolOp_one (h Ga s σ H Q I hw)
theorem zdP(ha:W (PE X a ta))(hb:W (PE X (.BoolOp .And (b::rest) pos) tb)):W (PE X (.BoolOp .And (a::b::rest) pos) (zf2 ta tb)):=by
 refine ⟨?_⟩;have ha:=ha.h;have hb:=hb.h;intro Ga s σ H Q I h;refine BoolOp_and (thn (ha Ga s σ H _ I h) λv s1=>x5e λx H1 I1 r1 q1=>?_);obtain ⟨c,rfl,q1⟩:=q1;cases r1;refine dP ?_;cases c with
 | true=>exact hb Ga s1 σ H1 Q I1 q1
 | false=>exact ⟨.bl false,H1,I1,rfl,q1⟩
theorem zqM(ha:W (PE X a ta))(hb:W (PE X (.BoolOp .Or (b::rest) pos) tb)):W (PE X (.BoolOp .Or (a::b::rest) pos) (zjR ta tb)):=by
 refine ⟨?_⟩;have ha:=ha.h;have hb:=hb.h;intro Ga s σ H Q I h;refine BoolOp_or (thn (ha Ga s σ H _ I h) λv s1=>x5e λx H1 I1 r1 q1=>?_);obtain ⟨c,rfl,q1⟩:=q1;cases r1;refine dP ?_;cases c with
 | false=>exact hb Ga s1 σ H1 Q I1 q1
 | true=>exact ⟨.bl true,H1,I1,rfl,q1⟩
theorem zii(ha:W (PE X a ta)):W (PE X (.UnaryOp .Not a pos) (zh0 ta)):=by
 refine ⟨?_⟩;have ha:=ha.h;intro Ga s σ H Q I h;refine UnaryOp_ (thn (ha Ga s σ H _ I h) λv s1=>x5e λx H1 I1 r1 q1=>?_);obtain ⟨c,rfl,q1⟩:=q1;cases r1;exact not_of (dP ⟨.bl (!c),H1,I1,rfl,q1⟩)
def tIf(t:TT)(ta tb:TE):TE:=λσ H Q=>t σ H λc H1=>if c=true then ta σ H1 Q else tb σ H1 Q
theorem zfw{c:bw}(hc:W (PT X c tA))(ha:W (PE X a ta))(hb:W (PE X b tb)):W (PE X (.IfExp c a b pos) (tIf tA ta tb)):=by
 refine ⟨?_⟩;have hc:=hc.h;have ha:=ha.h;have hb:=hb.h;intro Ga s σ H Q I h;refine wpAny_IfExp (thn (hc Ga s σ H _ I h) λd s1=>x3e λH1 I1 q1=>?_);cases d with
 | true=>exact ha Ga s1 σ H1 Q I1 q1
 | false=>exact hb Ga s1 σ H1 Q I1 q1
end
def SqL(K:ag)(H:Hp)(a:Addr)(xs:List V):Prop :=
 Rd H a (.lst xs) \/
  ∃(o:Obj)(its:Array Value)(n:Nat),K.lookup a=some o/\o.cls = .type "list"/\o.dict=none/\o.data = .seq its n/\its.size<=sizeLine/\zk xs its.toList
def SqT(K:ag)(H:Hp)(a:Addr)(xs:List V):Prop :=
 Rd H a (.tup xs) \/
  ∃(o:Obj)(its:Array Value)(n:Nat),K.lookup a=some o/\o.cls = .type "tuple"/\o.data = .seq its n/\its.size<=sizeLine/\zk xs its.toList
def zsq:Value->Option V
 | .none=>some .non
 | .bool b=>some (.bl b)
 | .int i _=>some (.int i)
 | .str x _=>some (.str x)
 | .bytes b _=>some (.byt b)
 | .float b _=>some (.flt b)
 | .ref a=>some (.ref a)
 | .type n=>some (.ty n)
 | _=>none
theorem zm.abs{x:V}(r:zm x u):zsq u=some x:=by
 cases x with
 | non=>cases r;rfl
 | bl _=>cases r;rfl
 | int _=>obtain ⟨t,rfl⟩:=r;rfl
 | str _=>obtain ⟨t,rfl⟩:=r;rfl
 | byt _=>obtain ⟨t,rfl⟩:=r;rfl
 | flt _=>obtain ⟨t,rfl⟩:=r;rfl
 | ref _=>cases r;rfl
 | ty _=>cases r;rfl
theorem zm.inj{x:V}(r:zm x u)(q:zm y u):x=y:=bK.inj (r.abs.symm.trans q.abs)
theorem zk.inj(h:zk xs us):∀{ys:List V},zk ys us->xs=ys:=by
 induction h with
 | nil=>intro ys k;cases k;rfl
 | cons r t ih =>
  intro ys k;cases k with
  | cons r' t'=>rw [r.inj r',ih t']
section
variable {X:Cx}{Ga:List (Addr×Obj)}{σ:St}{H:Hp}{s:af}{a:Addr}{xs ys:List V}
theorem SqL.of{K:ag}(h:H a=some (.lst xs)):SqL K H a xs:=.inl (.inl h)
theorem SqT.of{K:ag}(h:H a=some (.tup xs)):SqT K H a xs:=.inl (.inl h)
theorem Inv.list(I:Inv X Ga σ H s)(h:SqL X.K H a xs):∃its:List Value,zk xs its/\PlainL s.heap a its.toArray/\xs.length<=sizeLine:=by
 rcases h with h|⟨o,its,n,hk,hc,hd,hs,hz,r⟩
 .obtain ⟨z,its,n,r,e⟩:=h.ok I.hok;exact ⟨its,r,⟨_,n,e,rfl,rfl,rfl⟩,z⟩
 .refine ⟨its.toList,r,⟨o,n,I.kIn a o hk,hc,hd,by simpa using hs⟩,?_⟩;have e:=r.length;simp only [bv] at e;lia
theorem Inv.tuple(I:Inv X Ga σ H s)(h:SqT X.K H a xs):∃its:List Value,zk xs its/\iF s.heap a its.toArray/\xs.length<=sizeLine:=by
 rcases h with h|⟨o,its,n,hk,hc,hs,hz,r⟩
 .obtain ⟨z,its,r,p⟩:=h.ok I.hok;exact ⟨its,r,p,z⟩
 .refine ⟨its.toList,r,⟨o,I.kIn a o hk,hc,n,by simpa using hs⟩,?_⟩;have e:=r.length;simp only [bv] at e;lia
theorem Inv.list_inj(I:Inv X Ga σ H s)(h:SqL X.K H a xs)(h':SqL X.K H a ys):xs=ys:=by
 obtain ⟨its,r,⟨o,n,e,_,_,d⟩,_⟩:=I.list h;obtain ⟨its',r',⟨o',n',e',_,_,d'⟩,_⟩:=I.list h';rw [e] at e';cases e';rw [d] at d';injection d' with d1 _
 have:its=its':=by simpa using congrArg Array.toList d1
 subst this;exact r.inj r'
theorem Inv.tuple_inj(I:Inv X Ga σ H s)(h:SqT X.K H a xs)(h':SqT X.K H a ys):xs=ys:=by
 obtain ⟨its,r,⟨o,e,_,n,d⟩,_⟩:=I.tuple h;obtain ⟨its',r',⟨o',e',_,n',d'⟩,_⟩:=I.tuple h';rw [e] at e';cases e';rw [d] at d';injection d' with d1 _
 have:its=its':=by simpa using congrArg Array.toList d1
 subst this;exact r.inj r'
end
abbrev Cx.wish(X:Cx)(E:Value->af->Prop):Cx:={ X with xe:=E }
abbrev Cx.nox(X:Cx):Cx:=X.wish λ_ _=>False
theorem Cx.Ok.wish(ok:X.Ok)(E:Value->af->Prop):(X.wish E).Ok :=
 ⟨ok.mod,ok.kind,ok.glob,ok.blt,ok.above,ok.inj,ok.has,ok.cab,ok.hd,ok.frames,ok.stk,ok.exf,ok.bs,ok.bsz,ok.noex,ok.exfs,ok.funs,ok.frf⟩
theorem Cx.Ok.unwish(ok:(X.wish E).Ok):X.Ok :=
 ⟨ok.mod,ok.kind,ok.glob,ok.blt,ok.above,ok.inj,ok.has,ok.cab,ok.hd,ok.frames,ok.stk,ok.exf,ok.bs,ok.bsz,ok.noex,ok.exfs,ok.funs,ok.frf⟩
section
variable {X:Cx}{Ga:List (Addr×Obj)}{σ:St}{H:Hp}{s:af}{E:Value->af->Prop}
theorem Inv.wish(I:Inv X Ga σ H s)(E:Value->af->Prop):Inv (X.wish E) Ga σ H s:=⟨I.ok.wish E,I.os,I.bare,I.base,I.loc,I.cell,I.free,I.freeC,I.pin,I.hok,I.len,I.hdk⟩
theorem Inv.unwish(I:Inv (X.wish E) Ga σ H s):Inv X Ga σ H s:=⟨I.ok.unwish,I.os,I.bare,I.base,I.loc,I.cell,I.free,I.freeC,I.pin,I.hok,I.len,I.hdk⟩
theorem SP.unwish{D:zaG}{f:Flow}{s':af}(h:SP (X.wish E) Ga D f s'):SP X Ga D f s':=by
 cases f with
 | next=>obtain ⟨σ',H',I,q⟩:=h;exact ⟨σ',H',I.unwish,q⟩
 | brk=>obtain ⟨σ',H',I,q⟩:=h;exact ⟨σ',H',I.unwish,q⟩
 | cont=>obtain ⟨σ',H',I,q⟩:=h;exact ⟨σ',H',I.unwish,q⟩
 | ret u=>obtain ⟨v,σ',H',I,r,q⟩:=h;exact ⟨v,σ',H',I.unwish,r,q⟩
theorem PSs.nox{st:List Stmt}{t:TS}(h:PSs X.nox st t):PSs X st t:=λGa s σ H D I hw =>
 bu (h Ga s σ H D (I.wish _) hw) (λ_ _ q=>q.unwish) λ_ _ z=>False.elim z
end
section
variable {X:Cx}{st:Stmt}{rest:List Stmt}{t u:TS}{e:bw}{te:TE}{pos:Pos}
def zfQ:TS:=λD σ H=>D.nx σ H
def zgi(t u:TS):TS:=λD σ H=>t { D with nx:=u D } σ H
theorem zi4:PSs X [] zfQ:=λ_ _ σ H _ I h=>fE ⟨σ,H,I,h⟩
theorem zlz(h1:PS X st t)(h2:PSs X rest u):PSs X (st::rest) (zgi t u):=by
 intro Ga s σ H D I h;refine wpAny_execs_cons (thn (h1 Ga s σ H { D with nx:=u D } I h) λf s1 q=>?_);cases f with
 | next =>
  obtain ⟨σ',H',I',q⟩:=q;exact h2 Ga s1 σ' H' D I' q
 | ret v=>exact q
 | brk=>exact q
 | cont=>exact q
theorem zgz(h1:PS X st t):PSs X [st] t:=by
 intro Ga s σ H D I h;refine wpAny_execs_cons (thn (h1 Ga s σ H D I h) λf s1 q=>?_);cases f with
 | next=>exact fE q
 | ret v=>exact q
 | brk=>exact q
 | cont=>exact q
theorem Inv.quiet(I:Inv X Ga σ H s):interactive X.env=false:=by simp [interactive,I.ok.kind]
def zmf(te:TE):TS:=λD σ H=>te σ H λ_ H1=>D.nx σ H1
theorem zal(he:W (PE X e te))(hs:swapsWith e none pos.line X.env=pure false:=by rfl):W (PS X (.Expr e pos) (zmf te)):=by
 refine ⟨?_⟩;have he:=he.h;intro Ga s σ H D I h;exact wpAny_Expr_any (thn (he Ga s σ H _ I h) λv s1=>x5e λx H1 I1 r1 q1=>⟨σ,H1,I1,q1⟩) I.quiet hs
def zho(te:TE):TS:=λD σ H=>te σ H D.rt
theorem zf7(he:PE X e te):PS X (.Return (some e) pos) (zho te):=by
 intro Ga s σ H D I h;exact wpAny_Return_some (thn (he Ga s σ H _ I h) λv s1=>x5e λx H1 I1 r1 q1=>⟨x,σ,H1,I1,r1,q1⟩)
def zhf(c:TT)(t u:TS):TS:=λD σ H=>c σ H λb H1=>if b=true then t D σ H1 else u D σ H1
theorem zlF{c:bw}{a b:List Stmt}{tc:TT}(hc:PT X c tc)(ha:PSs X a t)(hb:PSs X b u):PS X (.If c a b pos) (zhf tc t u):=by
 intro Ga s σ H D I h;refine wpAny_If (thn (hc Ga s σ H _ I h) λd s1=>x3e λH1 I1 q1=>?_);cases d with
 | true=>exact ha Ga s1 σ H1 D I1 q1
 | false=>exact hb Ga s1 σ H1 D I1 q1
end
abbrev TG:=V->St->Hp->(St->Hp->Prop)->Prop
abbrev TGs:=List V->St->Hp->(St->Hp->Prop)->Prop
def PG(X:Cx)(target:bw)(t:TG):Prop :=
 ∀(Ga:List (Addr×Obj))(s:af)(σ:St)(H:Hp)(v:V)(u:Value)(Q:St->Hp->Prop),Inv X Ga σ H s->zm v u->t v σ H Q ->
  aH (aC X.prog X.w) X.A (assign target X.env u) (λ_ s'=>∃σ' H',Inv X Ga σ' H' s'/\Q σ' H') X.xe s
def PGs(X:Cx)(ts:List bw)(t:TGs):Prop :=
 ∀(Ga:List (Addr×Obj))(s:af)(σ:St)(H:Hp)(vs:List V)(us:List Value)(Q:St->Hp->Prop),Inv X Ga σ H s->zk vs us->t vs σ H Q ->
  aH (aC X.prog X.w) X.A (assignInOrder ((cY ts X.env).map (·.2)) us) (λ_ s'=>∃σ' H',Inv X Ga σ' H' s'/\Q σ' H') X.xe s
abbrev zib:=V->V->V->Hp->(Hp->Prop)->Prop
def zhM(X:Cx)(t:zib):Prop :=
 ∀(Ga:List (Addr×Obj))(s:af)(σ:St)(H:Hp)(o i v:V)(ov iv u:Value)(Q:Hp->Prop),Inv X Ga σ H s->zm o ov->zm i iv->zm v u->t o i v H Q ->
  aH (aC X.prog X.w) X.A (setItem ov iv u) (λ_ s'=>∃H',Inv X Ga σ H' s'/\Q H') X.xe s
abbrev TIp:=V->V->Hp->VK->Prop
def PIp(X:Cx)(op:Operator)(t:TIp):Prop :=
 ∀(Ga:List (Addr×Obj))(s:af)(σ:St)(H:Hp)(x y:V)(v u:Value)(Q:VK),Inv X Ga σ H s->zm x v->zm y u->t x y H Q ->
  aH (aC X.prog X.w) X.A (inplaceOp op v u) (EP X Ga σ Q) X.xe s
section
variable {X:Cx}{pos:Pos}
def zcJ(i:Nat):TG:=λv σ H Q=>Q (σ.set i (some v)) H
theorem zjp(hN:X.N.Nodup)(hi:X.N[i]?=some x)(hx:Loc X.env.scope x)(hf:X.fn x=true\/X.env.scope.names.lookup x=some .local:=by first|exact .inl rfl|exact .inr rfl|assumption):PG X (.Name x pos) (zcJ i):=by
 intro Ga s σ H v u Q I r h;exact wpAny_assign_Name (zfP I hN hi hx r (λs' I'=>⟨_,H,I',h⟩) hf)
def zkR:TGs:=λvs σ H Q=>vs=[]/\Q σ H
def zgG(t:TG)(u:TGs):TGs:=λvs σ H Q=>∃v r,vs=v::r/\t v σ H λσ' H'=>u r σ' H' Q
theorem zbT:W (PGs X [] zkR):=by
 refine ⟨?_⟩;intro Ga s σ H vs us Q I r h;obtain ⟨e,h⟩:=h;subst e;cases r;exact assignInOrder_nil ⟨σ,H,I,h⟩
theorem zW{es:List bw}{t:TG}{u:TGs}(h1:W (PG X e t))(h2:W (PGs X es u))
  (hs:(cY (e::es) X.env).map (·.2)=assign e X.env::(cY es X.env).map (·.2):=by rfl):W (PGs X (e::es) (zgG t u)):=by
 refine ⟨?_⟩;have h1:=h1.h;have h2:=h2.h;intro Ga s σ H vs us Q I r h;obtain ⟨v,vr,e1,h⟩:=h;subst e1;cases r with
 | cons r rr =>
  rw [hs];refine assignInOrder_cons (thn (h1 Ga s σ H _ _ _ I r h) λ_ s1=>x4e λσ1 H1 I1 q1=>?_);exact h2 Ga s1 σ1 H1 _ _ Q I1 rr q1
def zg3(K:ag)(n:Nat)(t:TGs):TG:=λv σ H Q=>∃a xs,v = .ref a/\SqT K H a xs/\xs.length=n/\t xs σ H Q
def zmv(to ti:TE)(t:zib):TG:=λv σ H Q=>to σ H λo H1=>ti σ H1 λi H2=>t o i v H2 λH3=>Q σ H3
theorem zcM{o i:bw}{to ti:TE}{t:zib}(ho:W (PE X o to))(hi:W (PE X i ti))(hs:zhM X t)
  (ha:∀v,assign (.Subscript o i pos) X.env v=(do
   let ov<-fI [v] (bV o X.env)
   let iv<-fI [v,ov] (bV i X.env)
   gp pos
   fI [v,ov,iv] (setItem ov iv v)
   release [v,ov,iv] []):=by intro _;rfl):W (PG X (.Subscript o i pos) (zmv to ti t)):=by
 refine ⟨?_⟩;have ho:=ho.h;have hi:=hi.h;intro Ga s σ H v u Q I r h;rw [ha];refine aa (bE (thn (ho Ga s σ H _ I h) λov s1=>x5e λx H1 I1 r1 q1=>?_));refine aa (bE (thn (hi Ga s1 σ H1 _ I1 q1) λiv s2=>x5e λy H2 I2 r2 q2=>?_));refine aa (dF (aa (bE (thn (hs Ga s2 σ H2 x y v ov iv u _ I2 r1 r2 r q2) λ_ s3=>x3e λH3 I3 q3=>?_))));exact wpAny_release ⟨σ,H3,I3,q3⟩
def zef(te:TE)(g:TG):TS:=λD σ H=>te σ H λx H1=>g x σ H1 D.nx
theorem zbp{g:TG}(he:W (PE X e te))(hg:W (PG X tg g))(hs:swapsWithSole [tg] e pos.line X.env=pure false:=by rfl)(hw:swappedStores [tg] e X.env=pure none:=by rfl)
  (h1:(cY [tg] X.env).map (·.2)=[assign tg X.env]:=by rfl):W (PS X (.Assign [tg] e pos) (zef te g)):=by
 refine ⟨?_⟩;have he:=he.h;have hg:=hg.h;intro Ga s σ H D I h;refine wpAny_Assign_stores (thn (he Ga s σ H _ I h) λv s1=>x5e λx H1 I1 r1 q1=>?_) hs hw;rw [h1];exact thn (hg Ga s1 σ H1 x v _ I1 r1 q1) λ_ s2 q=>q
theorem zx{pos':Pos}(hN:X.N.Nodup)(hi:X.N[i]?=some x)(hx:Loc X.env.scope x)(he:W (PE X e te))(hs:swapsWith e (some (.Name x pos')) pos.line X.env=pure false:=by rfl)(hf:X.fn x=true\/X.env.scope.names.lookup x=some .local:=by first|exact .inl rfl|exact .inr rfl|assumption):W (PS X (.Assign [.Name x pos'] e pos) (zef te (zcJ i))):=by
 refine ⟨?_⟩;have he:=he.h;intro Ga s σ H D I h;refine wpAny_Assign_Name (thn (he Ga s σ H _ I h) λv s1=>x5e λy H1 I1 r1 q1=>?_) hs;exact zfP I1 hN hi hx r1 (λs2 I2=>⟨_,H1,I2,q1⟩) hf
def zik(i:Nat)(te:TE)(ti:TIp):TS:=λD σ H=>∃x,σ[i]?=some (some x)/\te σ H λy H1=>ti x y H1 λz H2=>D.nx (σ.set i (some z)) H2
theorem zqz{op:Operator}{ti:TIp}{pos':Pos}(hN:X.N.Nodup)(hi:X.N[i]?=some x)(hx:Loc X.env.scope x)(he:W (PE X e te))(ho:PIp X op ti)(hf:X.fn x=true\/X.env.scope.names.lookup x=some .local:=by first|exact .inl rfl|exact .inr rfl|assumption):W (PS X (.AugAssign (.Name x pos') op e pos) (zik i te ti)):=by
 refine ⟨?_⟩;have he:=he.h;intro Ga s σ H D I h;obtain ⟨v,e1,h⟩:=h;obtain ⟨m,hn,hl⟩:=I.loc;have vis:Vis X.env.scope x:=by rcases hx with k|k;exact .inl k;exact .inr (.inl k)
 obtain ⟨u,r,l⟩:=hl i x v hi e1 vis;refine wpAny_AugAssign_Name ?_;have go:aH (aC X.prog X.w) X.A (bV e X.env) (λw s₂=>aH (aC X.prog X.w) X.A (inplaceOp op u w) (λr s₃=>aH (aC X.prog X.w) X.A (storeName X.env x r) (λ_=>SP X Ga D .next) X.xe s₃) X.xe s₂) X.xe s:=by
  refine thn (he Ga s σ H _ I h) λw s1=>x5e λy H1 I1 r1 q1=>?_;refine thn (ho Ga s1 σ H1 v y u w _ I1 r r1 q1) λz s2=>x5e λzv H2 I2 r2 q2=>?_;exact zfP I2 hN hi hx r2 (λs3 I3=>⟨_,H2,I3,q2⟩) hf
 rcases l with ⟨hk,hm⟩|⟨hk,c,hc,hcell⟩
 .exact gz I.ok.kind hk hn hm go
 .rcases hk with hk|hk
  .exact wpAny_loadName_cell I.ok.kind hk hc hcell go
  .rcases hx with k|k
   .have:X.env.scope.names.lookup x=some .free:=hk;rw [k] at this;cases this
   .have:X.env.scope.names.lookup x=some .free:=hk;rw [k] at this;cases this
def ipI(f:Int->Int->Int):TIp:=λx y H Q=>∃i j,x = .int i/\y = .int j/\Q (.int (f i j)) H
theorem zo4:PIp X .Add (ipI λi j=>i+j):=by
 intro Ga s σ H x y v u Q I r1 r2 h;obtain ⟨i,j,e1,e2,q⟩:=h;subst e1;subst e2;obtain ⟨t,rfl⟩:=r1;obtain ⟨t',rfl⟩:=r2;exact iadd_int ⟨.int _,H,I.tok _,⟨_,rfl⟩,q⟩
def zjk(c:TT)(tb:TS):TS:=λD σ H=>∃W:Nat->St->Hp->Prop,(∃m,W m σ H)/\∀m σ H,W m σ H ->
 c σ H λb H1=>if b=true then ∃N:St->Hp->Prop,(∀σ' H',N σ' H'->∃m',m'<m/\W m' σ' H')/\tb { D with nx:=N,ct:=N,bk:=D.nx } σ H1 else D.nx σ H1
theorem zpq{c:bw}{tc:TT}(hp:dH (aC X.prog X.w) X.A X.env X.xe)(hc:W (PT X c tc))(hb:W (PSs X body tb)):W (PS X (.While c body [] pos) (zjk tc tb)):=by
 refine ⟨?_⟩;have hc:=hc.h;have hb:=hb.h;intro Ga s σ H D I h;obtain ⟨W,⟨m0,w0⟩,turn⟩:=h;refine wpAny_While (codeAny_whileLoop (λn s'=>∃σ' H',Inv X Ga σ' H' s'/\W n σ' H') ?_ m0 ⟨σ,H,I,w0⟩);rintro n s1 ⟨σ1,H1,I1,w1⟩;refine dO hp (thn (hc Ga s1 σ1 H1 _ I1 (turn n σ1 H1 w1)) λb s2=>x3e λH2 I2 q2=>?_);cases b with
 | true =>
  obtain ⟨N,hN,q2⟩:=q2;rw [if_pos rfl];refine dO hp (thn (hb Ga s2 σ1 H2 _ I2 q2) λf s3 q3=>?_);cases f with
  | next =>
   obtain ⟨σ3,H3,I3,n3⟩:=q3;obtain ⟨m',hm,w3⟩:=hN σ3 H3 n3;exact ⟨m',hm,σ3,H3,I3,w3⟩
  | cont =>
   obtain ⟨σ3,H3,I3,n3⟩:=q3;obtain ⟨m',hm,w3⟩:=hN σ3 H3 n3;exact ⟨m',hm,σ3,H3,I3,w3⟩
  | brk=>exact q3
  | ret v=>exact q3
 | false =>
  rw [if_neg aw];exact fE ⟨σ1,H2,I2,q2⟩
end
structure It where
 go:Nat->Hp->Prop
 yld:Nat->Hp->V->Hp->Prop
 stop:Nat->Hp->Prop
def zbc(X:Cx)(Ga:List (Addr×Obj))(H:Hp)(b:Addr):Prop :=
 H b=none/\b≠X.env.locals/\b∉X.fs/\(b∈X.ex\/X.s₀.heap.objs.size<=b)/\(∀x c,X.env.cells.lookup x=some c->c≠b)/\∀p∈X.pn++Ga,p.1≠b
theorem Inv.fpOk{H':Hp}(I:Inv X Ga σ H s)(hb:s.heap.objs.size<=b)(hn:H' b=none):zbc X Ga H' b:=by
 refine ⟨hn,dQ (aR I.lt hb),I.nofs hb,.inr (aW I.sz hb),λx c e z=>?_,λp hp z=>?_⟩
 .obtain ⟨v,q⟩:=I.cell x c e;exact absurd (aR q.lt (by rw [z];exact hb)) (bj _)
 .exact absurd (aR (aP (I.pin p hp).1) (by rw [z];exact hb)) (bj _)
structure zbV(c:Bool)(P:aI)(w:aZ)(K:ag)(tg:bw)(J:It)(fp:List Addr)(it:Addr)(tn:Nat->Heap->Prop):Prop where
 mem:it∈fp
 obj:∀i h,tn i h->∀b∈fp,∃o,h.get? b=some o/\∀v,o.data≠.cell v
 keep:∀i h h',tn i h->(∀b∈fp,∀o,h.get? b=some o->h'.get? b=some o)->tn i h'
 item:∀(X:Cx),X.prog=P->X.w=w->X.K=K->(c=true->X.calm=true)->∀(i:Nat)(Ga:List (Addr×Obj))(s:af)(σ:St)(H:Hp)(E:Value->af->Prop),Inv X Ga σ H s->(∀b∈fp,zbc X Ga H b)->tn i s.heap->J.go i H ->
  aH (aC P w) X.A (f8 (.ref it)) (λr s1=>∃u,r=some u /\
   aH (aC P w) X.A (fH tg (.ref it) u) (λ_ s2=>∃x H',Inv X Ga σ H' s2/\zm x u/\J.yld i H x H'/\tn (i+1) s2.heap/\∀b∈fp,H' b=none) E s1) E s
 done:∀(X:Cx),X.prog=P->X.w=w->X.K=K->(c=true->X.calm=true)->∀(i:Nat)(Ga:List (Addr×Obj))(s:af)(σ:St)(H:Hp)(E:Value->af->Prop),Inv X Ga σ H s->(∀b∈fp,zbc X Ga H b)->tn i s.heap->J.stop i H ->
  aH (aC P w) X.A (f8 (.ref it)) (λr s1=>r=none/\Inv X Ga σ H s1) E s
 self:∀(A:be)(i:Nat)(s:af)(Q:Value->af->Prop)(E:Value->af->Prop),tn i s.heap->Q (.ref it) s->aH (aC P w) A (pyIter (.ref it)) Q E s
abbrev TI:=St->Hp->(It->Hp->Prop)->Prop
def PIE(c:Bool)(X:Cx)(Ga:List (Addr×Obj))(σ:St)(tg:bw)(R:It->Hp->Prop)(itv:Value)(s2:af):Prop :=
 ∃(it:Addr)(fp:List Addr)(tn:Nat->Heap->Prop)(J:It)(H':Hp),itv = .ref it/\Inv X Ga σ H' s2/\zbV c X.prog X.w X.K tg J fp it tn/\tn 0 s2.heap/\(∀b∈fp,zbc X Ga H' b)/\R J H'
def PIc(c:Bool)(X:Cx)(tg iter:bw)(wi:TI):Prop :=
 ∀(Ga:List (Addr×Obj))(s:af)(σ:St)(H:Hp)(R:It->Hp->Prop),Inv X Ga σ H s->wi σ H R ->
  aH (aC X.prog X.w) X.A (bV iter X.env) (λv s1=>aH (aC X.prog X.w) X.A (pyIter v) (PIE c X Ga σ tg R) X.xe s1) X.xe s
abbrev PI:=PIc true
theorem zdq{it:Addr}{n:String}{vs:Array Value}{Q:Unit->af->Prop}(ho:s.heap.get? it=some o)(hc:o.cls = .type n)(hd:o.data = .fields vs)
  (hn:["enumerate","zip","dict_itemiterator","dict_reverseitemiterator","odict_iterator","itertools.zip_longest","itertools.pairwise"].contains n=false) (hQ:Q () s):aH M A (fH tg (.ref it) u) Q E s:=by
 unfold fH;cases tg<;>first
  | exact ar hQ
  | (cases u<;>first
    | exact ar hQ
    | (refine aa (wpAny_load ho ?_)
       rw [hc, hd];show aH M A (if (["enumerate", "zip", "dict_itemiterator", "dict_reverseitemiterator", "odict_iterator", "itertools.zip_longest", "itertools.pairwise"].contains n && vs[0]? == some (bZ _)) = true then _ else _) Q E s;rw [if_neg (by intro h; rw [hn, hW] at h; cases h)];exact ar hQ))
def Itl(K:ag)(a:Addr):It :=
 ⟨λi H=>∃xs x,SqL K H a xs/\xs[i]?=some x,λi H x H'=>H'=H/\∀xs,SqL K H a xs->xs[i]?=some x,λi H=>∃xs,SqL K H a xs/\xs.length<=i⟩
def Itt(K:ag)(a:Addr):It :=
 ⟨λi H=>∃xs x,SqT K H a xs/\xs[i]?=some x,λi H x H'=>H'=H/\∀xs,SqT K H a xs->xs[i]?=some x,λi H=>∃xs,SqT K H a xs/\xs.length<=i⟩
def Itr(lo:Int)(n:Nat):It:=⟨λi _=>i<n,λi H x H'=>H'=H/\x = .int (lo+i),λi _=>n<=i⟩
theorem ze4{K:ag}(a it:Addr):zbV true P w K tg (Itl K a) [it] it (λi h=>h.IsListIter it a i) where
 mem:=by simp
 obj:=λi h st b hb=>by
  have e:b=it:=by simpa using hb
  subst e;obtain ⟨o,e,c,d⟩:=st;exact ⟨o,e,λv z=>by rw [d] at z;cases z⟩
 keep:=λi h h' st k=>st.at λo e=>k it (by simp) o e
 item:=by
  intro X hP hw hK hc i Ga s σ H E I hf st hg;subst hP hw hK;obtain ⟨xs,x,hq,hx⟩:=hg;obtain ⟨its,rv,p,hz⟩:=I.list hq;obtain ⟨u,hu,ru⟩:=rv.get hx;obtain ⟨f0,f1,f2,f3,f4,f5⟩:=hf it (by simp);refine wpAny_pyNext_list_item st p.isList (x:=u) (by simpa using hu) λh' st' sb=>?_;have I1:Inv X Ga σ H { s with heap:=h' }:=I.turned (t':=s.toks) (λb o hb e=>(sb.2 b hb).trans e) f0 f1 f3 f4 f5;obtain ⟨o,e,c,d⟩:=id st';exact ⟨u,rfl,zdq (s:={ s with heap:=h' }) e c d (by decide) ⟨x,H,I1,ru,⟨rfl,λys hy=>by rw [I.list_inj hy hq];exact hx⟩,st',λb hb=>(hf b hb).1⟩⟩
 done:=by
  intro X hP hw hK hc i Ga s σ H E I hf st hg;subst hP hw hK;obtain ⟨xs,hq,hx⟩:=hg;obtain ⟨its,rv,p,hz⟩:=I.list hq;obtain ⟨f0,f1,f2,f3,f4,f5⟩:=hf it (by simp);have hl:=rv.length;exact wpAny_pyNext_list_end (I.ok.hd (hc rfl)) st p.isList (by simp;lia) λh' eb=>⟨rfl,I.turned (t':=s.toks) (λb o hb e=>eb b o hb e) f0 f1 f3 f4 f5⟩
 self:=λ_ _ _ _ _ st h=>wpAny_pyIter_listiter st h
theorem zr6{K:ag}(a it:Addr):zbV true P w K tg (Itt K a) [it] it (λi h=>h.IsTupleIter it a i) where
 mem:=by simp
 obj:=λi h st b hb=>by
  have e:b=it:=by simpa using hb
  subst e;obtain ⟨o,e,c,d⟩:=st;exact ⟨o,e,λv z=>by rw [d] at z;cases z⟩
 keep:=λi h h' st k=>st.at λo e=>k it (by simp) o e
 item:=by
  intro X hP hw hK hc i Ga s σ H E I hf st hg;subst hP hw hK;obtain ⟨xs,x,hq,hx⟩:=hg;obtain ⟨its,rv,p,hz⟩:=I.tuple hq;obtain ⟨u,hu,ru⟩:=rv.get hx;obtain ⟨f0,f1,f2,f3,f4,f5⟩:=hf it (by simp);refine wpAny_pyNext_tuple_item st (show s.heap.IsTuple a its.toArray from p) (x:=u) (by simpa using hu) λh' st' sb=>?_;have I1:Inv X Ga σ H { s with heap:=h' }:=I.turned (t':=s.toks) (λb o hb e=>(sb.2 b hb).trans e) f0 f1 f3 f4 f5;obtain ⟨o,e,c,d⟩:=id st';exact ⟨u,rfl,zdq (s:={ s with heap:=h' }) e c d (by decide) ⟨x,H,I1,ru,⟨rfl,λys hy=>by rw [I.tuple_inj hy hq];exact hx⟩,st',λb hb=>(hf b hb).1⟩⟩
 done:=by
  intro X hP hw hK hc i Ga s σ H E I hf st hg;subst hP hw hK;obtain ⟨xs,hq,hx⟩:=hg;obtain ⟨its,rv,p,hz⟩:=I.tuple hq;obtain ⟨f0,f1,f2,f3,f4,f5⟩:=hf it (by simp);have hl:=rv.length;exact wpAny_pyNext_tuple_end (I.ok.hd (hc rfl)) st (show s.heap.IsTuple a its.toArray from p) (by simp;lia) λh' eb=>⟨rfl,I.turned (t':=s.toks) (λb o hb e=>eb b o hb e) f0 f1 f3 f4 f5⟩
 self:=λ_ _ _ _ _ st h=>wpAny_pyIter_tupleiter st h
theorem zhC{K:ag}(it:Addr)(lo:Int)(n:Nat):zbV true P w K tg (Itr lo n) [it] it (λi h=>gJ h it (lo+(i:Nat)*1) ((n:Int)-(i:Nat)) 1) where
 mem:=by simp
 obj:=λi h st b hb=>by
  have e:b=it:=by simpa using hb
  subst e;exact ⟨_,st,λv z=>by
   have z':Data.fields _=Data.cell v:=z;cases z'⟩
 keep:=λi h h' st k=>k it (by simp) _ st
 item:=by
  intro X hP hw hK hc i Ga s σ H E I hf st hg;subst hP hw hK;obtain ⟨f0,f1,f2,f3,f4,f5⟩:=hf it (by simp);have W:=Walks.range (prog:=X.prog) (w:=X.w) (I.ok.hd (hc rfl)) it lo 1 n;refine W.item i s _ _ hg st λv h' tk hv st' kk=>?_;obtain ⟨t,rfl⟩:=hv;have I1:Inv X Ga σ H { s with heap:=h',toks:=tk }:=I.turned (λb o hb e=>kk b o (by simpa using hb) e) f0 f1 f3 f4 f5;refine ⟨_,rfl,zdq (s:={ s with heap:=h',toks:=tk }) (n:="range_iterator") st' rfl rfl (by decide) ⟨.int (lo+i),H,I1,⟨t,?_⟩,⟨rfl,rfl⟩,st',λb hb=>(hf b hb).1⟩⟩;rw [Int.mul_one]
 done:=by
  intro X hP hw hK hc i Ga s σ H E I hf st hg;subst hP hw hK;obtain ⟨f0,f1,f2,f3,f4,f5⟩:=hf it (by simp);exact wpAny_pyNext_range_end (I.ok.hd (hc rfl)) st (by have:n<=i:=hg;lia) λh' eb=>⟨rfl,I.turned (t':=s.toks) (λb o hb e=>eb b o hb e) f0 f1 f3 f4 f5⟩
 self:=λ_ _ _ _ _ st h=>wpAny_pyIter_rangeiter st h
section
variable {X:Cx}{tg:bw}
def zdU(K:ag)(tl:TE):TI:=λσ H R=>tl σ H λx H1=>∃a,x = .ref a/\(∃xs,SqL K H1 a xs)/\R (Itl K a) H1
theorem zd1{l:bw}{tl:TE}(hl:W (PE X l tl)):W (PI X tg l (zdU X.K tl)):=by
 refine ⟨?_⟩;have hl:=hl.h;intro Ga s σ H R I h;refine thn (hl Ga s σ H _ I h) λv s1=>x5e λx H1 I1 r1 q1=>?_;obtain ⟨a,e,⟨xs,hq⟩,q⟩:=q1;subst e;cases r1;obtain ⟨its,rv,p,hz⟩:=I1.list hq;refine eS p.isList ?_;refine ⟨s1.heap.objs.size,[s1.heap.objs.size],_,_,H1,rfl,I1.kept (t':=s1.toks) λb o e=>ad _ e,ze4 a _,⟨_,aO _ rfl,rfl,rfl⟩,λb hb=>?_,q⟩;have e:b=s1.heap.objs.size:=by simpa using hb
 subst e;exact I1.fpOk (ae _) (I1.hok.fresh (ae _))
theorem zrO{R:It->Hp->Prop}{lo hi:Int}{t u v:Tok}{tk:Nat}(I:Inv X Ga σ H s)(h1 : -(2 ^ 62)<=lo)(h2:lo<2 ^ 62)(h3 : -(2 ^ 62)<=hi)(h4:hi<2 ^ 62)
  (q:R (Itr lo (hi-lo).toNat) H):aH (aC X.prog X.w) X.A (pyIter (.ref s.heap.objs.size)) (PIE true X Ga σ tg R) E { s with heap:=s.heap.push { cls:=.type "range",data:=.fields #[.int lo t,.int hi u,.int 1 v] },toks:=tk }:=by
 refine wpAny_pyIter_range (IsRange.new ..) (small_one h1 h2 h3 h4) ?_;have I1:Inv X Ga σ H { s with heap:=s.heap.push { cls:=.type "range",data:=.fields #[.int lo t,.int hi u,.int 1 v] },toks:=tk }:=I.kept λb o e=>ad _ e;refine ⟨(s.heap.push { cls:=.type "range",data:=.fields #[.int lo t,.int hi u,.int 1 v] }).objs.size,[(s.heap.push { cls:=.type "range",data:=.fields #[.int lo t,.int hi u,.int 1 v] }).objs.size],_,_,H,rfl,
  I1.kept (t':=tk) λb o e=>ad _ e,zhC _ lo (hi-lo).toNat,?_,λb hb=>?_,q⟩
 .have e1:lo+((0:Nat):Int)*1=lo:=by simp
  have e2:(((hi-lo).toNat:Nat):Int)-((0:Nat):Int)=aN.Range.rangeSize lo hi 1:=by rw [rangeSize_one];split<;>lia
  show gJ _ _ (lo+((0:Nat):Int)*1) ((((hi-lo).toNat:Nat):Int)-((0:Nat):Int)) 1;rw [e1,e2];exact aO _ rfl
 .have e:b=(s.heap.push { cls:=.type "range",data:=.fields #[.int lo t,.int hi u,.int 1 v] }).objs.size:=by simpa using hb
  subst e;exact I1.fpOk (ae _) (I1.hok.fresh (ae _))
def zdW(ta:TA):TI:=λσ H R=>ta σ H λvs H1=>∃j:Int,vs=[.int j]/\-(2 ^ 62)<=j/\j<2 ^ 62/\R (Itr 0 j.toNat) H1
theorem zrR{a:bw}{ta:TA}{p:Pos}(hg:Gl X "range")(hm:X.mg "range"=none)(ha:PA X [a] ta)(hs:aV [a] X.env=[(false,bV a X.env)]:=by rfl):PI X tg (.Call (.Name "range" p) [a] [] pos) (zdW ta):=by
 intro Ga s σ H R I h;refine Call_ (zb8 I hg hm boot_range (cW (thn (ha pos Ga s σ H _ I h) λus s1=>x5e λvs H1 I1 r1 q1=>?_) hs rfl));obtain ⟨j,e,q1,q2,q⟩:=q1;subst e;cases r1 with
 | cons r rr =>
  cases rr;obtain ⟨t,rfl⟩:=r;exact call_range_1 (zrO I1 (by lia) (by lia) q1 q2 (by simpa using q))
def ziA(wi:TI)(g:TG)(tb:TS):TS:=λD σ H=>wi σ H λJ H1=>∃W:Nat->Nat->St->Hp->Prop,(∃m,W 0 m σ H1)/\∀i m σ H,W i m σ H ->
 (J.stop i H/\D.nx σ H)\/(J.go i H/\∃N:St->Hp->Prop,(∀σ' H',N σ' H'->∃m',m'<m/\W (i+1) m' σ' H')/\∀x H',J.yld i H x H'->g x σ H' λσ2 H2=>tb { D with nx:=N,ct:=N,bk:=D.nx } σ2 H2)
def zdd(fp:List Addr)(h:Heap):List (Addr×Obj):=fp.filterMap λb=>(h.get? b).map λo=>(b,o)
theorem zfs(hb:b∈fp)(e:h.get? b=some o):(b,o)∈zdd fp h:=gt.mpr ⟨b,hb,by rw [e];rfl⟩
theorem zrU{p:Addr×Obj}(hp:p∈zdd fp h):p.1∈fp/\h.get? p.1=some p.2:=by
 obtain ⟨b,hb,e⟩:=gt.mp hp;cases q:h.get? b with
 | none=>rw [q] at e;cases e
 | some o =>
  rw [q] at e;have e':(b,o)=p:=bK.inj e;subst e';exact ⟨hb,q⟩
theorem Inv.pinned(I:Inv X Ga σ H s)(hf:∀b∈fp,zbc X Ga H b)(ho:∀b∈fp,∃o,s.heap.get? b=some o/\∀v,o.data≠.cell v):Inv X (Ga++zdd fp s.heap) σ H s :=
 I.pins_of λp hp=>(aS.mp hp).elim (λz=>I.pin p (aQ _ z)) λz=>by
  obtain ⟨hb,e⟩:=zrU z;obtain ⟨f0,f1,f2,_⟩:=hf p.1 hb;obtain ⟨o,e',d⟩:=ho p.1 hb;rw [e] at e';cases e';exact ⟨e,f0,f1,f2,d⟩
theorem Inv.unpinned{pl:List (Addr×Obj)}(I:Inv X (Ga++pl) σ H s):Inv X Ga σ H s:=I.pins_of λp hp=>I.pin p (aQ _ (bN _ hp))
theorem zbw{iter:bw}{wi:TI}{g:TG}(hp:dH (aC X.prog X.w) X.A X.env X.xe)(hc:c=true->X.calm=true)(hi:W (PIc c X tg iter wi))(hg:W (PG X tg g))(hb:W (PSs X body tb))
  (hs:∀x,dB iter X.env x=pure x:=by intro _;rfl):W (PS X (.For tg iter body [] pos) (ziA wi g tb)):=by
 refine ⟨?_⟩;have hi:=hi.h;have hg:=hg.h;have hb:=hb.h;intro Ga s σ H D I h;refine wpAny_For (thn (hi Ga s σ H _ I h) λv s1 h1=>thn h1 λitv s2 h2=>?_) hs;obtain ⟨it,fp,tn,J,H2,e,I2,T,st2,f2,W,⟨m0,w0⟩,turn⟩:=h2;subst e;have stat:∀{H':Hp},(∀b∈fp,H' b=none)->∀b∈fp,zbc X Ga H' b:=λhn b hb=>⟨hn b hb,(f2 b hb).2⟩;refine codeAny_forLoop_any (λn s'=>∃i σ' H',Inv X Ga σ' H' s'/\tn i s'.heap/\(∀b∈fp,H' b=none)/\W i n σ' H') ?_ m0 ⟨0,σ,H2,I2,st2,λb hb=>(f2 b hb).1,w0⟩;rintro n s3 ⟨i,σ3,H3,I3,st3,fr3,w3⟩;rcases turn i n σ3 H3 w3 with ⟨stop,qn⟩|⟨go,N,hN,step⟩
 .refine dO hp (thn (T.done X rfl rfl rfl hc i Ga s3 σ3 H3 X.xe I3 (stat fr3) st3 stop) λr s4=>x2e λhr I4=>?_);subst hr;exact fE ⟨σ3,H3,I4,qn⟩
 .refine dO hp (thn (T.item X rfl rfl rfl hc i Ga s3 σ3 H3 X.xe I3 (stat fr3) st3 go) λr s4=>x3e λu hr h4=>?_);subst hr;refine dO hp (thn h4 λ_ s5=>x5e λx H5 I5 r5 zz1=>?_);obtain ⟨y5,st5,fr5⟩:=zz1;have I5':=I5.pinned (stat fr5) (T.obj _ _ st5);refine dO hp (thn (hg _ s5 σ3 H5 x u _ I5' r5 (step x H5 y5)) λ_ s6=>x4e λσ6 H6 I6 q6=>?_);refine dO hp (thn (hb _ s6 σ6 H6 _ I6 q6) λf s7 q7=>?_);have again:∀{σ7:St}{H7:Hp},Inv X (Ga++zdd fp s5.heap) σ7 H7 s7->N σ7 H7->∃m,m<n/\∃i σ' H',Inv X Ga σ' H' s7/\tn i s7.heap/\(∀b∈fp,H' b=none)/\W i m σ' H':=λ{σ7 H7} I7 n7=>by
   obtain ⟨m',hm,w7⟩:=hN σ7 H7 n7;refine ⟨m',hm,i+1,σ7,H7,I7.unpinned,T.keep _ _ _ st5 λb hb o e=>(I7.pin (b,o) (aQ _ (aQ _ (zfs hb e)))).1,λb hb=>?_,w7⟩;obtain ⟨o,e,d⟩:=T.obj _ _ st5 b hb;exact (I7.pin (b,o) (aQ _ (aQ _ (zfs hb e)))).2.1
  cases f with
  | next=>obtain ⟨σ7,H7,I7,n7⟩:=q7;exact again I7 n7
  | cont=>obtain ⟨σ7,H7,I7,n7⟩:=q7;exact again I7 n7
  | brk=>obtain ⟨σ7,H7,I7,q7⟩:=q7;exact ⟨σ7,H7,I7.unpinned,q7⟩
  | ret v=>obtain ⟨x7,σ7,H7,I7,r7,q7⟩:=q7;exact ⟨x7,σ7,H7,I7.unpinned,r7,q7⟩
end
theorem zn9{K:ag}{g:TG}{D:zaG}(Pv:Nat->St->Hp->Prop)(h0:Pv 0 σ H)(hl:∀i σ H,i<=xs.length->Pv i σ H->SqL K H a xs)
  (hs:∀i x σ H,xs[i]?=some x->Pv i σ H->g x σ H λσ2 H2=>tb { D with nx:=Pv (i+1),ct:=Pv (i+1),bk:=D.nx } σ2 H2) (hd:∀σ H,Pv xs.length σ H->D.nx σ H) :
  ∃W:Nat->Nat->St->Hp->Prop,(∃m,W 0 m σ H)/\∀i m σ H,W i m σ H ->
   ((Itl K a).stop i H/\D.nx σ H)\/((Itl K a).go i H/\∃N:St->Hp->Prop,(∀σ' H',N σ' H'->∃m',m'<m/\W (i+1) m' σ' H')/\∀x H',(Itl K a).yld i H x H'->g x σ H' λσ2 H2=>tb { D with nx:=N,ct:=N,bk:=D.nx } σ2 H2):=by
 refine ⟨λi m σ H=>m=xs.length-i/\i<=xs.length/\Pv i σ H,⟨xs.length,by simp,cf _,h0⟩,?_⟩;rintro i m σ H ⟨rfl,hi,p⟩;have q:=hl i σ H hi p;by_cases hlt:i<xs.length
 .refine .inr ⟨⟨xs,xs[i],q,by simp [hlt]⟩,Pv (i+1),λσ' H' p'=>⟨xs.length-(i+1),by lia,rfl,hlt,p'⟩,λx H' y=>?_⟩;obtain ⟨e,y⟩:=y;subst e;exact hs i x σ _ (y xs q) p
 .have e:i=xs.length:=by lia
  subst e;exact .inl ⟨⟨xs,q,ae _⟩,hd σ H p⟩
theorem zqb{lo:Int}{n:Nat}{g:TG}{D:zaG}(Pv:Nat->St->Hp->Prop)(h0:Pv 0 σ H)
  (hs:∀i σ H,i<n->Pv i σ H->g (.int (lo+i)) σ H λσ2 H2=>tb { D with nx:=Pv (i+1),ct:=Pv (i+1),bk:=D.nx } σ2 H2) (hd:∀σ H,Pv n σ H->D.nx σ H) :
  ∃W:Nat->Nat->St->Hp->Prop,(∃m,W 0 m σ H)/\∀i m σ H,W i m σ H ->
   ((Itr lo n).stop i H/\D.nx σ H)\/((Itr lo n).go i H/\∃N:St->Hp->Prop,(∀σ' H',N σ' H'->∃m',m'<m/\W (i+1) m' σ' H')/\∀x H',(Itr lo n).yld i H x H'->g x σ H' λσ2 H2=>tb { D with nx:=N,ct:=N,bk:=D.nx } σ2 H2):=by
 refine ⟨λi m σ H=>m=n-i/\i<=n/\Pv i σ H,⟨n,by simp,cf _,h0⟩,?_⟩;rintro i m σ H ⟨rfl,hi,p⟩;by_cases hlt:i<n
 .refine .inr ⟨hlt,Pv (i+1),λσ' H' p'=>⟨n-(i+1),by lia,rfl,hlt,p'⟩,λx H' y=>?_⟩;obtain ⟨e,y⟩:=y;subst e y;exact hs i σ _ hlt p
 .have e:i=n:=by lia
  subst e;exact .inl ⟨ae _,hd σ H p⟩
abbrev R2:=V->V->Hp->VK->Prop
def OpR(X:Cx)(f:Value->Value->Sem Value)(r:R2):Prop :=
 ∀(Ga:List (Addr×Obj))(s:af)(σ:St)(H:Hp)(x y:V)(v u:Value)(Q:VK),Inv X Ga σ H s->zm x v->zm y u->r x y H Q ->
  aH (aC X.prog X.w) X.A (f v u) (EP X Ga σ Q) X.xe s
def UnR(X:Cx)(f:Value->Sem Value)(r:V->Hp->VK->Prop):Prop :=
 ∀(Ga:List (Addr×Obj))(s:af)(σ:St)(H:Hp)(x:V)(v:Value)(Q:VK),Inv X Ga σ H s->zm x v->r x H Q ->
  aH (aC X.prog X.w) X.A (f v) (EP X Ga σ Q) X.xe s
def zK(X:Cx)(f:Value)(r:List V->Hp->VK->Prop):Prop :=
 ∀(Ga:List (Addr×Obj))(s:af)(σ:St)(H:Hp)(xs:List V)(us:List Value)(Q:VK),Inv X Ga σ H s->zk xs us->r xs H Q ->
  aH (aC X.prog X.w) X.A (call f us) (EP X Ga σ Q) X.xe s
def zrM(X:Cx)(r:V->Hp->(Bool->Hp->Prop)->Prop):Prop :=
 ∀(Ga:List (Addr×Obj))(s:af)(σ:St)(H:Hp)(x:V)(v:Value)(Q:Bool->Hp->Prop),Inv X Ga σ H s->zm x v->r x H Q ->
  aH (aC X.prog X.w) X.A (truthy v) (TP X Ga σ Q) X.xe s
def tOp(r:R2)(ta tb:TE):TE:=λσ H Q=>ta σ H λx H1=>tb σ H1 λy H2=>r x y H2 Q
def tUn(r:V->Hp->VK->Prop)(ta:TE):TE:=λσ H Q=>ta σ H λx H1=>r x H1 Q
def rI(C:Int->Int->Prop)(g:Int->Int->V):R2:=λx y H Q=>∃i j,x = .int i/\y = .int j/\C i j/\Q (g i j) H
def rI0(g:Int->Int->V):R2:=λx y H Q=>∃i j,x = .int i/\y = .int j/\Q (g i j) H
def rU(g:Int->V):V->Hp->VK->Prop:=λx H Q=>∃i,x = .int i/\Q (g i) H
section
variable {X:Cx}{a b c:bw}{ta tb tc:TE}{pos:Pos}
theorem zhp(ha:PE X a ta)(hb:PE X b tb){R:V->V->Hp->Prop}(I:Inv X Ga σ H s)
  (h:ta σ H λx H1=>tb σ H1 λy H2=>R x y H2) 
  (hf:∀v u s2 x y H2,Inv X Ga σ H2 s2->zm x v->zm y u->R x y H2->aH (aC X.prog X.w) X.A (f v u) Q X.xe s2) :
  aH (aC X.prog X.w) X.A (bV a X.env) (λv s₁=>aH (aC X.prog X.w) X.A (bV b X.env) (λu s₂=>aH (aC X.prog X.w) X.A (f v u) Q X.xe s₂) X.xe s₁) X.xe s:=by
 refine thn (ha Ga s σ H _ I h) λv s1=>x5e λx H1 I1 r1 q1=>?_;refine thn (hb Ga s1 σ H1 _ I1 q1) λu s2=>x5e λy H2 I2 r2 q2=>?_;exact hf v u s2 x y H2 I2 r1 r2 q2
theorem zl{op:Operator}{r:R2}(ho:OpR X (da op) r)(ha:W (PE X a ta))(hb:W (PE X b tb)):W (PE X (.BinOp a op b pos) (tOp r ta tb)):=by
 refine ⟨?_⟩;have ha:=ha.h;have hb:=hb.h;intro Ga s σ H Q I h;exact wpAny_BinOp (zhp ha hb I h λv u s2 x y H2 I2 rx ry q=>ho Ga s2 σ H2 x y v u Q I2 rx ry q)
theorem zlv{op:UnaryOp}{r:V->Hp->VK->Prop}(ho:UnR X (unaryOp op) r)(ha:PE X a ta):PE X (.UnaryOp op a pos) (tUn r ta):=by
 intro Ga s σ H Q I h;exact UnaryOp_ (thn (ha Ga s σ H _ I h) λv s1=>x5e λx H1 I1 r1 q1=>ho Ga s1 σ H1 x v Q I1 r1 q1)
theorem opI{C:Int->Int->Prop}{g:Int->Int->Int}
  (rule:∀(i j:Int)(t u:Tok)(s:af)(Q:Value->af->Prop)(E:Value->af->Prop),C i j->Q (.int (g i j) s.toks) { s with toks:=s.toks+1 }->aH (aC X.prog X.w) X.A (f (.int i t) (.int j u)) Q E s) :
  OpR X f (rI C λi j=>.int (g i j)):=by
 intro Ga s σ H x y v u Q I rx ry h;obtain ⟨i,j,rfl,rfl,hc,q⟩:=h;obtain ⟨t,rfl⟩:=rx;obtain ⟨t',rfl⟩:=ry;exact rule i j t t' s _ _ hc ⟨.int (g i j),H,I.tok _,⟨_,rfl⟩,q⟩
theorem zjD{g:Int->Int->Int}
  (rule:∀(i j:Int)(t u:Tok)(s:af)(Q:Value->af->Prop)(E:Value->af->Prop),Q (.int (g i j) s.toks) { s with toks:=s.toks+1 }->aH (aC X.prog X.w) X.A (f (.int i t) (.int j u)) Q E s) :
  OpR X f (rI0 λi j=>.int (g i j)):=by
 intro Ga s σ H x y v u Q I rx ry h;obtain ⟨i,j,rfl,rfl,q⟩:=h;obtain ⟨t,rfl⟩:=rx;obtain ⟨t',rfl⟩:=ry;exact rule i j t t' s _ _ ⟨.int (g i j),H,I.tok _,⟨_,rfl⟩,q⟩
theorem zgf{g:Int->Int->Bool}
  (rule:∀(i j:Int)(t u:Tok)(s:af)(Q:Value->af->Prop)(E:Value->af->Prop),Q (.bool (g i j)) s->aH (aC X.prog X.w) X.A (f (.int i t) (.int j u)) Q E s) :
  OpR X f (rI0 λi j=>.bl (g i j)):=by
 intro Ga s σ H x y v u Q I rx ry h;obtain ⟨i,j,rfl,rfl,q⟩:=h;obtain ⟨t,rfl⟩:=rx;obtain ⟨t',rfl⟩:=ry;exact rule i j t t' s _ _ ⟨.bl (g i j),H,I,rfl,q⟩
def ziz(i j:Int):Prop:=0<j/\j<1073741824
def zqP(i j:Int):Prop:=0<=j/\j<=1000000/\i.natAbs<2 ^ 64
def zdp(i j:Int):Prop:=(-(2 ^ 64)<i/\i<2 ^ 64)\/(-(2 ^ 64)<j/\j<2 ^ 64)
theorem zdp.ok{i j:Int}(h:zdp i j):IntMulOk i j:=by
 rcases h with ⟨h1,h2⟩|⟨h1,h2⟩
 .exact .of_left (intBits_le_64 h1 h2)
 .exact .of_right (intBits_le_64 h1 h2)
theorem zow:OpR X (da .Add) (rI0 λi j=>.int (i+j)):=zjD λ_ _ _ _ _ _ _ q=>add_int q
theorem zct:OpR X (da .Sub) (rI0 λi j=>.int (i-j)):=zjD λ_ _ _ _ _ _ _ q=>sub_int q
theorem zq9:OpR X (da .Mult) (rI zdp λi j=>.int (i*j)):=opI λ_ _ _ _ _ _ _ hc q=>mul_int q hc.ok
theorem zco:OpR X (da .FloorDiv) (rI ziz λi j=>.int (i / j)):=opI λi j _ _ _ _ _ hc q=>by
 have h1:(0:Int)<j:=hc.1;have h2:j<1073741824:=hc.2;exact floordiv_int (by lia) (by rw [Int.fdiv_eq_ediv_of_nonneg i (by lia)];exact q) (.inl (PyProof.noPylong_small (by lia)))
theorem zS:OpR X (da .Mod) (rI (λ_ j=>0<j) λi j=>.int (i % j)):=opI λi j _ _ _ _ _ hc q=>by
 have h1:(0:Int)<j:=hc;exact mod_int' (by lia) (by rw [Int.fmod_eq_emod_of_nonneg i (by lia)];exact q)
theorem zpr:OpR X (da .Pow) (rI zqP λi j=>.int (i ^ j.toNat)):=opI λ_ _ _ _ _ _ _ hc q=>pow_int_small hc.1 hc.2.1 hc.2.2 q
theorem unI{f:Value->Sem Value}{g:Int->Int}
  (rule:∀(i:Int)(t:Tok)(s:af)(Q:Value->af->Prop)(E:Value->af->Prop),Q (.int (g i) s.toks) { s with toks:=s.toks+1 }->aH (aC X.prog X.w) X.A (f (.int i t)) Q E s) :
  UnR X f (rU λi=>.int (g i)):=by
 intro Ga s σ H x v Q I rx h;obtain ⟨i,rfl,q⟩:=h;obtain ⟨t,rfl⟩:=rx;exact rule i t s _ _ ⟨.int (g i),H,I.tok _,⟨_,rfl⟩,q⟩
theorem zhx:UnR X (unaryOp .USub) (rU λi=>.int (-i)):=unI λ_ _ _ _ _ q=>neg_int q
end
def zcZ:V->V->Bool
 | .non,.non=>true | .non,.int _=>true | .int _,.non=>true | .non,.bl _=>true | .bl _,.non=>true | .non,.str _=>true | .str _,.non=>true
 | .int _,.int _=>true | .bl _,.bl _=>true | .str _,.str _=>true | .byt _,.byt _=>true
 | .int _,.str _=>true | .str _,.int _=>true | .bl _,.str _=>true | .str _,.bl _=>true
 | _,_=>false
def rEq:R2:=λx y H Q=>zcZ x y=true/\Q (.bl (decide (x=y))) H
def rNe:R2:=λx y H Q=>zcZ x y=true/\Q (.bl (!decide (x=y))) H
theorem zl4{i j:Int}:decide (V.int i=V.int j)=(i==j):=by
 rw [eO];simp
theorem zkm{i j:Bool}:decide (V.bl i=V.bl j)=(i==j):=by
 rw [eO];simp
theorem zjw{i j:Str}:decide (V.str i=V.str j)=(i==j):=by
 rw [eO];simp
theorem zkM{i j:Array UInt8}:decide (V.byt i=V.byt j)=(i.toList==j.toList):=by
 rw [eO];cases i;cases j;simp
section
variable {X:Cx}{a b c:bw}{ta tb tc:TE}{pos:Pos}
theorem zP{Q:VK}{k k':Bool}(I:Inv X Ga σ H s)(q:Q (.bl k) H)(e:k=k'):EP X Ga σ Q (.bool k') s:=by
 subst e;exact ⟨.bl k,H,I,rfl,q⟩
theorem zpe:OpR X (bG .Eq) rEq:=by
 intro Ga s σ H x y v u Q I rx ry h;obtain ⟨hs,q⟩:=h;cases x with
 | non =>
  cases rx;cases y with
  | non=>cases ry;exact PySem.EqNone.eq_none_none (zP I q (by simp))
  | bl j=>cases ry;exact PySem.EqNone.eq_none_bool (zP I q (by simp))
  | int j=>obtain ⟨t',rfl⟩:=ry;exact PySem.EqNone.eq_none_int (zP I q (by simp))
  | str j=>obtain ⟨t',rfl⟩:=ry;exact PySem.EqNone.eq_none_str (zP I q (by simp))
  | _=>exact absurd (show false=true from hs) aw
 | bl i =>
  cases rx;cases y with
  | non=>cases ry;exact PySem.EqNone.eq_bool_none (zP I q (by simp))
  | bl j=>cases ry;exact eq_bool (zP I q zkm)
  | str j=>obtain ⟨t',rfl⟩:=ry;exact PySem.EqMixed.eq_bool_str (zP I q (by simp))
  | _=>exact absurd (show false=true from hs) aw
 | int i =>
  obtain ⟨t,rfl⟩:=rx;cases y with
  | non=>cases ry;exact PySem.EqNone.eq_int_none (zP I q (by simp))
  | int j=>obtain ⟨t',rfl⟩:=ry;exact eq_int (zP I q zl4)
  | str j=>obtain ⟨t',rfl⟩:=ry;exact PySem.EqMixed.eq_int_str (zP I q (by simp))
  | _=>exact absurd (show false=true from hs) aw
 | str i =>
  obtain ⟨t,rfl⟩:=rx;cases y with
  | non=>cases ry;exact PySem.EqNone.eq_str_none (zP I q (by simp))
  | bl j=>cases ry;exact PySem.EqMixed.eq_str_bool (zP I q (by simp))
  | int j=>obtain ⟨t',rfl⟩:=ry;exact PySem.EqMixed.eq_str_int (zP I q (by simp))
  | str j=>obtain ⟨t',rfl⟩:=ry;exact eq_str (zP I q zjw)
  | _=>exact absurd (show false=true from hs) aw
 | byt i =>
  obtain ⟨t,rfl⟩:=rx;cases y with
  | byt j=>obtain ⟨t',rfl⟩:=ry;exact PySem.W.eq_bytes (zP I q zkM)
  | _=>exact absurd (show false=true from hs) aw
 | _=>cases y<;>exact absurd (show false=true from hs) aw
theorem zuB:OpR X (bG .NotEq) rNe:=by
 intro Ga s σ H x y v u Q I rx ry h;obtain ⟨hs,q⟩:=h;cases x with
 | non =>
  cases rx;cases y with
  | non=>cases ry;exact PySem.EqNone.ne_none_none (zP I q (by simp))
  | bl j=>cases ry;exact PySem.EqNone.ne_none_bool (zP I q (by simp))
  | int j=>obtain ⟨t',rfl⟩:=ry;exact PySem.EqNone.ne_none_int (zP I q (by simp))
  | str j=>obtain ⟨t',rfl⟩:=ry;exact PySem.EqNone.ne_none_str (zP I q (by simp))
  | _=>exact absurd (show false=true from hs) aw
 | bl i =>
  cases rx;cases y with
  | non=>cases ry;exact PySem.EqNone.ne_bool_none (zP I q (by simp))
  | bl j=>cases ry;exact ne_bool (zP I q (congrArg not zkm))
  | str j=>obtain ⟨t',rfl⟩:=ry;exact PySem.EqMixed.ne_bool_str (zP I q (by simp))
  | _=>exact absurd (show false=true from hs) aw
 | int i =>
  obtain ⟨t,rfl⟩:=rx;cases y with
  | non=>cases ry;exact PySem.EqNone.ne_int_none (zP I q (by simp))
  | int j=>obtain ⟨t',rfl⟩:=ry;exact ne_int (zP I q (congrArg not zl4))
  | str j=>obtain ⟨t',rfl⟩:=ry;exact PySem.EqMixed.ne_int_str (zP I q (by simp))
  | _=>exact absurd (show false=true from hs) aw
 | str i =>
  obtain ⟨t,rfl⟩:=rx;cases y with
  | non=>cases ry;exact PySem.EqNone.ne_str_none (zP I q (by simp))
  | bl j=>cases ry;exact PySem.EqMixed.ne_str_bool (zP I q (by simp))
  | int j=>obtain ⟨t',rfl⟩:=ry;exact PySem.EqMixed.ne_str_int (zP I q (by simp))
  | str j=>obtain ⟨t',rfl⟩:=ry;exact ne_str (zP I q (congrArg not zjw))
  | _=>exact absurd (show false=true from hs) aw
 | byt i =>
  obtain ⟨t,rfl⟩:=rx;cases y with
  | byt j=>obtain ⟨t',rfl⟩:=ry;exact PySem.W.ne_bytes (zP I q (congrArg not zkM))
  | _=>exact absurd (show false=true from hs) aw
 | _=>cases y<;>exact absurd (show false=true from hs) aw
theorem zd0:OpR X (bG .Lt) (rI0 λi j=>.bl (decide (i<j))):=zgf λ_ _ _ _ _ _ _ q=>lt_int q
theorem zeB:OpR X (bG .LtE) (rI0 λi j=>.bl (decide (i<=j))):=zgf λ_ _ _ _ _ _ _ q=>le_int q
theorem zjJ:OpR X (bG .Gt) (rI0 λi j=>.bl (decide (j<i))):=zgf λ_ _ _ _ _ _ _ q=>gt_int q
theorem zoI:OpR X (bG .In) (λx y H Q=>∃i j,x = .str i/\y = .str j/\Q (.bl (!(aN.Str.occurrences j i 0 j.length 1).isEmpty)) H):=by
 intro Ga s σ H x y v u Q I rx ry h;obtain ⟨i,j,rfl,rfl,q⟩:=h;obtain ⟨t,rfl⟩:=rx;obtain ⟨t',rfl⟩:=ry;exact in_str (zP I q rfl)
theorem zue:OpR X (bG .Is) (λx y H Q=>y = .non/\Q (.bl (decide (x = .non))) H):=by
 intro Ga s σ H x y v u Q I rx ry h;obtain ⟨rfl,q⟩:=h;cases ry;refine is_none_gen (zP I q ?_);cases x<;>first
  | (cases rx;rfl)
  | (obtain ⟨t,rfl⟩:=rx;rfl)
theorem zup:OpR X (bG .IsNot) (λx y H Q=>y = .non/\Q (.bl (!decide (x = .non))) H):=by
 intro Ga s σ H x y v u Q I rx ry h;obtain ⟨rfl,q⟩:=h;cases ry;refine isnot_none_gen (zP I q ?_);cases x<;>first
  | (cases rx;rfl)
  | (obtain ⟨t,rfl⟩:=rx;rfl)
theorem OpR.or{r r':R2}(h:OpR X f r)(h':OpR X f r'):OpR X f (λx y H Q=>r x y H Q\/r' x y H Q):=by
 intro Ga s σ H x y v u Q I rx ry q;rcases q with q|q
 .exact h Ga s σ H x y v u Q I rx ry q
 .exact h' Ga s σ H x y v u Q I rx ry q
theorem zD(b:bw)(h:op≠.In:=by decide)(h2:op≠.NotIn:=by decide):gu op b=false:=by
 have e1:(op==CmpOp.In)=false:=by cases op<;>first|rfl|exact absurd rfl h
 have e2:(op==CmpOp.NotIn)=false:=by cases op<;>first|rfl|exact absurd rfl h2
 cases b<;>simp [gu,e1,e2]
theorem zch{r:R2}(ho:OpR X (bG op) r)(ha:W (PE X a ta))(hb:W (PE X b tb))(hm:gu op b=false):W (PE X (.Compare a [op] [b] pos) (tOp r ta tb)):=by
 refine ⟨?_⟩;have ha:=ha.h;have hb:=hb.h;intro Ga s σ H Q I h;exact wpAny_Compare1 (zhp ha hb I h λv u s2 x y H2 I2 rx ry q=>ho Ga s2 σ H2 x y v u Q I2 rx ry q) hm
def zeP(t:TE):TT:=λσ H Q=>t σ H λx H'=>∃k,x = .bl k/\Q k H'
theorem zkW{r:R2}(ho:OpR X (bG op) r)(ha:PE X a ta)(hb:PE X b tb)(hm:gu op b=false):PT X (.Compare a [op] [b] pos) (zeP (tOp r ta tb)):=by
 intro Ga s σ H Q I h;refine wpAny_isTrue_Compare1 (thn (ha Ga s σ H _ I h) λv s1=>x5e λx H1 I1 r1 q1=>thn (hb Ga s1 σ H1 _ I1 q1) λu s2=>x5e λy H2 I2 r2 q2 =>
  thn (ho Ga s2 σ H2 x y v u _ I2 r1 r2 q2) λc s3=>x5e λz H3 I3 r3 zz2=>?_) hm
 obtain ⟨k,e,q3⟩:=zz2;subst e;cases r3;exact dP ⟨H3,I3,q3⟩
def ziD(r r':R2)(ta tb tc:TE):TE:=λσ H Q=>ta σ H λx H1=>tb σ H1 λy H2=>r x y H2 λz H3=>∃k,z = .bl k /\
 (if k=true then tc σ H3 λw' H4=>r' y w' H4 Q else Q (.bl false) H3)
theorem zmx{op':CmpOp}{r r':R2}(ho:OpR X (bG op) r)(ho':OpR X (bG op') r')(ha:W (PE X a ta))(hb:W (PE X b tb))(hc:W (PE X c tc))
  (hm:lastMarks [op,op'] [b,c]=false:=by with_unfolding_all rfl):W (PE X (.Compare a [op,op'] [b,c] pos) (ziD r r' ta tb tc)):=by
 refine ⟨?_⟩;have ha:=ha.h;have hb:=hb.h;have hc:=hc.h;intro Ga s σ H Q I h;refine Compare_chain (thn (ha Ga s σ H _ I h) λv s1=>x5e λx H1 I1 r1 q1=>chain_link (thn (hb Ga s1 σ H1 _ I1 q1) λu s2=>x5e λy H2 I2 r2 q2 =>
  thn (ho Ga s2 σ H2 x y v u _ I2 r1 r2 q2) λd s3=>x5e λz H3 I3 r3 zz3=>?_)) hm
 obtain ⟨k,e,q3⟩:=zz3;subst e;cases r3;refine dP ?_;cases k with
 | false=>exact ite_ff ⟨.bl false,H3,I3,rfl,q3⟩
 | true=>exact ite_tt (chain_last (thn (hc Ga s3 σ H3 _ I3 q3) λw' s4=>x5e λz' H4 I4 r4 q4=>ho' Ga s4 σ H4 y z' u w' Q I4 r2 r4 q4))
def zcW(K:ag)(x:V)(H:Hp)(k:Bool):Prop :=
 match x with
 | .non=>k=false
 | .bl b=>k=b
 | .int i=>k=(i != 0)
 | .str y=>y.length<=sizeLine/\k=((y.length:Int) != 0)
 | .byt y=>y.size<=sizeLine/\k=((y.size:Int) != 0)
 | .ref p=>(∃xs,SqL K H p xs/\k = !xs.isEmpty)\/(∃xs,SqT K H p xs/\k = !xs.isEmpty)\/∃kvs,H p=some (.dK kvs)/\k = !kvs.isEmpty
 | _=>False
theorem zrE{κ:Type}{kvs:List (κ×V)}{vs:List (κ×Value)}(r:KV kvs vs):(!vs.isEmpty) = !kvs.isEmpty:=by
 cases r<;>rfl
theorem zmg{its:List Value}(r:zk xs its):(!its.toArray.isEmpty) = !xs.isEmpty:=by
 cases r<;>simp
theorem zc2:(sizeLine:Nat)<2 ^ 63:=by rw [cU];decide
theorem zoy:zrM X (λx H Q=>∃k,zcW X.K x H k/\Q k H):=by
 intro Ga s σ H x v Q I rx h;obtain ⟨k,e,q⟩:=h;have hl:=zc2;have hs:sizeLine=16777216:=cU;cases x with
 | non =>
  cases rx;have e':k=false:=e;subst e';exact truthy_none ⟨H,I,q⟩
 | bl b =>
  cases rx;have e':k=b:=e;subst e';exact dP ⟨H,I,q⟩
 | int i =>
  obtain ⟨t,rfl⟩:=rx;have e':k=(i != 0):=e;subst e';exact PySem.P.truthy_int ⟨H,I,q⟩
 | str y =>
  obtain ⟨t,rfl⟩:=rx;obtain ⟨hy,e'⟩:y.length<=sizeLine/\k=((y.length:Int) != 0):=e;subst e';exact PySem.P.truthy_str (by lia) ⟨H,I.tok _,q⟩
 | byt y =>
  obtain ⟨t,rfl⟩:=rx;obtain ⟨hy,e'⟩:y.size<=sizeLine/\k=((y.size:Int) != 0):=e;subst e';exact PySem.W.truthy_bytes (by lia) ⟨H,I.tok _,q⟩
 | ref p =>
  cases rx;have e':(∃xs,SqL X.K H p xs/\k = !xs.isEmpty)\/(∃xs,SqT X.K H p xs/\k = !xs.isEmpty)\/∃kvs,H p=some (.dK kvs)/\k = !kvs.isEmpty:=e;rcases e' with ⟨xs,hx,e'⟩|⟨xs,hx,e'⟩|⟨kvs,hx,e'⟩
  .subst e';obtain ⟨its,r,pl,hz⟩:=I.list hx;have hlen:=r.length;exact wpAny_truthy_list pl.isList (by simp only [aJ];lia) ⟨H,I.tok _,by rw [zmg r];exact q⟩
  .subst e';obtain ⟨its,r,pl,hz⟩:=I.tuple hx;have hlen:=r.length;exact truthy_tuple pl (by simp only [aJ];lia) ⟨H,I.tok _,by rw [zmg r];exact q⟩
  .subst e';obtain ⟨hz,hS,vs,r,m⟩:kvs.length<=sizeLine/\(p==sysModules)=false/\∃vs,KV kvs vs/\s.heap.DictOf (zad X.prog X.w) p vs:=I.hok p _ hx;have hlen:kvs.length=vs.length:=Paired.length r;exact wpAny_truthy_dict hS m (by lia) ⟨H,I.tok _,by rw [zrE r];exact q⟩
 | _=>exact (show False from e).elim
theorem ztT(ha:PE X a ta)(he:∀whole,isTrue a X.env whole=(do let v<-whole;gp a.pos;fI [v] (truthy v))) :
  PT X a (λσ H Q=>ta σ H λx H'=>∃k,zcW X.K x H' k/\Q k H'):=by
 intro Ga s σ H Q I h;exact isTrue_plain (thn (ha Ga s σ H _ I h) λv s1=>x5e λx H1 I1 r1 q1=>zoy Ga s1 σ H1 x v Q I1 r1 q1) (he _)
theorem zru:OpR X (da .Add) (λx y H Q=>∃i j,x = .str i/\y = .str j/\i.length+j.length<=sizeLine/\Q (.str (i++j)) H):=by
 intro Ga s σ H x y v u Q I rx ry h;obtain ⟨i,j,rfl,rfl,hz,q⟩:=h;obtain ⟨t,rfl⟩:=rx;obtain ⟨t',rfl⟩:=ry;exact add_str (λt' tk=>⟨.str (i++j),H,I.tok _,⟨_,rfl⟩,q⟩) hz
theorem zby{x:V}(r:zk [x] us):∃u,us=[u]/\zm x u:=by
 cases r with
 | cons r1 r2=>cases r2;exact ⟨_,rfl,r1⟩
theorem zlK{x:V}(r:zk [x,y] us):∃u w',us=[u,w']/\zm x u/\zm y w':=by
 cases r with
 | cons r1 r2 =>
  cases r2 with
  | cons r3 r4=>cases r4;exact ⟨_,_,rfl,r1,r3⟩
theorem zvl(hc:X.calm=true):zK X (.builtin "max") (λxs H Q=>∃i j,xs=[.int i,.int j]/\Q (.int (if j>i then j else i)) H):=by
 intro Ga s σ H xs us Q I r h;obtain ⟨i,j,rfl,q⟩:=h;obtain ⟨u,w',rfl,⟨t,rfl⟩,⟨t',rfl⟩⟩:=zlK r;refine max_two_ints (I.ok.hd hc) λh' tk k=>⟨_,H,I.kept k,?_,q⟩;by_cases hj:j>i
 .rw [if_pos hj,if_pos hj];exact ⟨_,rfl⟩
 .rw [if_neg hj,if_neg hj];exact ⟨_,rfl⟩
theorem zsx(hc:X.calm=true):zK X (.builtin "min") (λxs H Q=>∃i j,xs=[.int i,.int j]/\Q (.int (if j<i then j else i)) H):=by
 intro Ga s σ H xs us Q I r h;obtain ⟨i,j,rfl,q⟩:=h;obtain ⟨u,w',rfl,⟨t,rfl⟩,⟨t',rfl⟩⟩:=zlK r;refine min_two_ints (I.ok.hd hc) λh' tk k=>⟨_,H,I.kept k,?_,q⟩;by_cases hj:j<i
 .rw [if_pos hj,if_pos hj];exact ⟨_,rfl⟩
 .rw [if_neg hj,if_neg hj];exact ⟨_,rfl⟩
theorem ztZ:zK X (.type "int") (λxs H Q=>(∃i,xs=[.int i]/\Q (.int i) H)\/∃k,xs=[.bl k]/\Q (.int (if k then 1 else 0)) H):=by
 intro Ga s σ H xs us Q I r h;rcases h with ⟨i,rfl,q⟩|⟨k,rfl,q⟩
 .obtain ⟨u,rfl,t,rfl⟩:=zby r;exact call_int_int ⟨.int i,H,I,⟨_,rfl⟩,q⟩
 .obtain ⟨u,rfl,r1⟩:=zby r;cases r1;exact call_int_bool ⟨.int (if k then 1 else 0),H,I.tok _,⟨_,rfl⟩,q⟩
theorem zoN:zK X (.type "str") (λxs H Q=>∃i,xs=[.int i]/\i.natAbs.log2<1920/\Q (.str (toString i)) H):=by
 intro Ga s σ H xs us Q I r h;obtain ⟨i,rfl,hz,q⟩:=h;obtain ⟨u,rfl,t,rfl⟩:=zby r;exact PySem.P.str_of_int hz ⟨.str _,H,I.tok _,⟨_,rfl⟩,q⟩
theorem zqd:zK X (.builtin "ord") (λxs H Q=>∃x,xs=[.str x]/\x.length=1/\Q (.int (x.cps.getD 0 0:Nat)) H):=by
 intro Ga s σ H xs us Q I r h;obtain ⟨x,rfl,hz,q⟩:=h;obtain ⟨u,rfl,t,rfl⟩:=zby r;exact ord_of_one hz ⟨.int _,H,I.tok _,⟨_,rfl⟩,q⟩
end
structure zcQ(h:Heap)(x dx C:Addr)(mA:Str->Option Value):Prop where
 obj:h.get? x=some (iM C dx)
 ns:h.Ns1 dx mA
 ne:dx≠x
theorem zsG{dx:Addr}{mA:Str->Option Value}(n:h.Ns1 dx mA):∃od,h.get? dx=some od/\∀name,lookIn name od=some (mA name):=by
 obtain ⟨o,es,ep,ho,hd,hk,_,hm⟩:=n;refine ⟨o,ho,λname=>?_⟩;have e:=hm name;unfold nsFind findBy at e;rw [<- Array.find?_toList] at e;unfold lookIn;rw [hd];dsimp only;split
 .rename_i y q;rw [q] at e;exact congrArg some e
 .rename_i q;rw [q] at e;have a:es.toList.any (·.refKey)=false:=by
   rw [List.any_eq_false];intro y hy;obtain ⟨z,t,hkey⟩:=hk y (Array.mem_toList_iff.mp hy);simp [DictEntry.refKey,hkey]
  have a' : ¬ es.toList.any (·.refKey)=true:=by rw [a];exact aw
  rw [if_neg a'];exact congrArg some e
theorem zcQ.look{x dx:Addr}{mA:Str->Option Value}(I:zcQ h x dx C mA):∃od,PySem.W.InstAt h x (iM C dx) C (some od)/\∀name,lookIn name od=some (mA name) :=
 let ⟨od,ho,hl⟩:=zsG I.ns
 ⟨od,⟨I.obj,rfl,rfl,ho⟩,hl⟩
section
variable {prog:aI}{w:aZ}{A:be}{E:Value->af->Prop}{s:af}{K:ag}{x dx C f:Addr}{mA:Str->Option Value}{name:Str}{v:Value}
theorem zsT{expr:Bool}(X:K.In s.heap)(I:zcQ s.heap x dx C mA)(hg:ir K C name=true)(hh:iy K C=true)
  (ha:cK K (.ref C) name=some none) (hv:mA name=some v) (hv':handedIn v=true) (h:Q v { s with toks:=s.toks+1 }) :
  aH (aC prog w) A (getAttr (.ref x) name expr) Q E s:=by
 obtain ⟨od,J,hl⟩:=I.look;exact PySem.W.get_value X J (plainGet_of hg).1 (PySem.W.findObj_own hh ha rfl (by rw [hl,hv])) hv' h
theorem zpH{Q:Value×List Value->af->Prop}(X:K.In s.heap)(I:zcQ s.heap x dx C mA)(hg:ir K C name=true)
  (hf:cK K (.ref C) name=some (some (.ref f))) (ht:isFn K (.ref f)=true) (hv:mA name=none) (h:Q (.ref f,[.ref x]) s) :
  aH (aC prog w) A (fj (.ref x) name pl) Q E s:=by
 obtain ⟨od,J,hl⟩:=I.look;exact PySem.W.method_fn X J (plainGet_of hg).1 (plainGet_of hg).2 hf (beq_iff_eq.mp ht) (by show (lookIn name od).map (·.isSome)=some false;rw [hl,hv];rfl) h
theorem zoY{ns:List Str}{Q:Unit->af->Prop}(X:K.In s.heap)(I:zcQ s.heap x dx C mA)
  (hs:cK K (.ref C) "__setattr__"=some (some (.builtin "object.__setattr__"))) (hp:plainOver K C=true) (ht:takerIn K C name=some none) (hh:iy K C=true)
  (hw:iT mA ns) (hsz:ns.length<=sizeLine)
  (h:∀h',zcQ h' x dx C (λy=>if y=name then some v else mA y)->fu dx s.heap h'->Q () { s with heap:=h',toks:=s.toks+2 }) :
  aH (aC prog w) A (setAttr (.ref x) name v) Q E s:=by
 obtain ⟨od,J,hl⟩:=I.look;refine PySem.W.set_plain X J hs (PySem.W.osa_open (s:={ s with toks:=s.toks+1 }) (r:=none) X J hp ht λb=>?_);obtain ⟨cd,hc,hd'⟩:=PySem.W.any_some hh;have hx:s.heap.get? x=some ⟨.ref C,some dx,.plain,#[]⟩:=I.obj;refine aa (ar (aa (aa (wpAny_loadPart hx (aa (PySem.W.Looks.here (s:={ s with toks:=s.toks+1 }) (PySem.W.looks_clsIn X hc) ?_))))));rw [hd'];refine ar (a:=some dx) (aa (ar (aa ?_)));refine wpAny_nsSet1 (s:={ s with toks:=s.toks+1 }) I.ns λh' hn2 hs2=>?_;obtain ⟨oD,esD,epD,hoD,hdD,hcD⟩:=hn2.count (iT.cons name v hw);refine aa (wpAny_lookBehind hoD (by rw [hdD];exact pastItsLine_dict (aW hcD (by rw [cq];lia))) ?_);exact ar (h _ ⟨(hs2.2 _ (aU I.ne)).trans I.obj,hn2,I.ne⟩ hs2)
theorem zud{R:Result->af->Prop}{vs:List Value}(X:K.In s.heap)(hm:makesIn K C=true)
  (hi:cK K (.ref C) "__init__"=some (some (.ref f))) (hf:PySem.W.typeIn K (.ref f)=some (.type "function"))
  (h:gS (aC prog w) (A.under (.builtin "type.__call__" ⟨.ref C::vs,kw⟩)) (.call (.ref f) ⟨.ref (s.heap.objs.size+1)::vs,kw⟩) (PySem.W.InitBack (s.heap.objs.size+1) R)
   { s with heap:=(s.heap.push emptyDict).push (iM C s.heap.objs.size) }) :
  gS (aC prog w) A (.call (.ref C) ⟨vs,kw⟩) R s:=by
 obtain ⟨hh,g,d,t,os⟩:=s;exact PySem.W.make_core (PySem.W.makes_of X hm) (PySem.W.looks_findIn X hi) (λself=>PySem.W.bind_fn X self hf) (.inl rfl) h
end
def zH(f:Str)(v:V):List (Str×V)->List (Str×V)
 | []=>[(f,v)]
 | (g,x)::r=>if g=f then (g,v)::r else (g,x)::zH f v r
theorem zjm(f g:Str)(v:V):∀fs:List (Str×V),(zH f v fs).lookup g=if g=f then some v else fs.lookup g
 | []=>by
  show dR g [(f,v)]=_;by_cases h:g=f
  .have hb:(g==f)=true:=beq_iff_eq.mpr h;simp only [dR,hb,if_pos h]
  .have hb:(g==f)=false:=beq_eq_false_iff_ne.mpr h;simp only [dR,hb,if_neg h]
 | (k,x)::r=>by
  have ih:=zjm f g v r;rw [show zH f v ((k,x)::r)=(if k=f then (k,v)::r else (k,x)::zH f v r) from rfl];by_cases hk:k=f
  .rw [if_pos hk];by_cases h:g=k
   .have hb:(g==k)=true:=beq_iff_eq.mpr h;simp only [dR,hb,if_pos (h.trans hk)]
   .have hb:(g==k)=false:=beq_eq_false_iff_ne.mpr h;simp only [dR,hb,if_neg (λe:g=f=>h (e.trans hk.symm))]
  .rw [if_neg hk];by_cases h:g=k
   .have hb:(g==k)=true:=beq_iff_eq.mpr h;simp only [dR,hb,if_neg (λe:g=f=>hk (h.symm.trans e))]
   .have hb:(g==k)=false:=beq_eq_false_iff_ne.mpr h;simp only [dR,hb];exact ih
theorem zfK(f:Str)(v:V):∀fs:List (Str×V),f∈(zH f v fs).map (·.1)/\∀g,g∈fs.map (·.1)->g∈(zH f v fs).map (·.1)
 | []=>⟨by simp [zH],λg h=>by simp at h⟩
 | (k,x)::r=>by
  obtain ⟨i1,i2⟩:=zfK f v r;rw [show zH f v ((k,x)::r)=(if k=f then (k,v)::r else (k,x)::zH f v r) from rfl];by_cases hk:k=f
  .rw [if_pos hk];subst hk;exact ⟨by simp,λg h=>by simpa using h⟩
  .rw [if_neg hk];refine ⟨?_,λg h=>?_⟩
   .rw [bQ];exact aF _ i1
   .rw [bQ] at h ⊢;rcases au.mp h with e|e
    .exact au.mpr (.inl e)
    .exact aF _ (i2 g e)
theorem zmu(f:Str)(v:V):∀fs:List (Str×V),(zH f v fs).length<=fs.length+1
 | []=>by simp [zH]
 | (k,x)::r=>by
  have ih:=zmu f v r;rw [show zH f v ((k,x)::r)=(if k=f then (k,v)::r else (k,x)::zH f v r) from rfl];by_cases hk:k=f
  .rw [if_pos hk,cq,cq];lia
  .rw [if_neg hk,cq,cq];lia
theorem zaM.some_of{o:Option Value}(r:zaM (some v) o):∃u,o=some u/\zm v u:=by
 cases o with
 | none=>exact (show False from r).elim
 | some u=>exact ⟨u,rfl,r⟩
theorem zaM.none_of{o:Option Value}(r:zaM none o):o=none:=by
 cases o with
 | none=>rfl
 | some u=>exact (show False from r).elim
theorem zpV(r:zm v u):handedIn u=true:=by
 cases v with
 | non=>cases (show u=bx from r);rfl
 | bl b=>cases (show u=fg b from r);rfl
 | int i=>obtain ⟨t,e⟩:=(show ∃t,u=fq i t from r);cases e;rfl
 | str x=>obtain ⟨t,e⟩:=(show ∃t,u=iZ x t from r);cases e;rfl
 | byt b=>obtain ⟨t,e⟩:=(show ∃t,u=Value.bytes b t from r);cases e;rfl
 | flt b=>obtain ⟨t,e⟩:=(show ∃t,u=float b t from r);cases e;rfl
 | ref a=>cases (show u=aA a from r);rfl
 | ty n=>cases (show u=type n from r);rfl
section
variable {P:aI}{w:aZ}{H H':Hp}{h h':Heap}{a C dx:Addr}{fs fs':List (Str×V)}
theorem ze8(hok:HOk P w H h)(e:H a=some (.ins C dx fs)):∃mA,zcQ h a dx C mA/\(∀f,zaM (fs.lookup f) (mA f))/\iT mA (fs.map (·.1))/\fs.length<=1000/\H dx=some (.own a):=by
 obtain ⟨d,z,ne,ob,mA,n,r,q⟩:=(show zT P w H h a (.ins C dx fs) from hok a _ e);exact ⟨mA,⟨ob,n,ne⟩,r,q,z,d⟩
end
structure Cls(K:ag)(C:Addr):Prop where
 pg:ir K C gX=true
 hd:iy K C=true
 po:plainOver K C=true
 sa:cK K (.ref C) "__setattr__"=some (some (.builtin "object.__setattr__"))
theorem Cls.get{K:ag}(c:Cls K C)(f:Str):ir K C f=true:=c.pg
def zaD(K:ag)(C:Addr)(f:Str):Prop:=cK K (.ref C) f=some none
theorem zaD.taker{K:ag}{f:Str}(n:zaD K C f):takerIn K C f=some none:=by
 unfold takerIn;rw [show cK K (.ref C) f=some none from n];rfl
structure zcO(K:ag)(C:Addr)(m:Str)(f:Addr):Prop where
 at_:cK K (.ref C) m=some (some (.ref f))
 fn:isFn K (.ref f)=true
 kp:gN K (.ref f)=true
section
variable {X:Cx}{Ga:List (Addr×Obj)}{σ:St}{H:Hp}{s:af}{a C dx:Addr}{fs:List (Str×V)}{f:Str}{v:V}{A:be}{E:Value->af->Prop}
theorem zmT{b:Bool}(I:Inv X Ga σ H s)(e:H a=some (.ins C dx fs))(c:Cls X.K C)(n:zaD X.K C f)(l:fs.lookup f=some v)
  (h:∀u s',Inv X Ga σ H s'->zm v u->Q u s'):aH (aC X.prog X.w) A (getAttr (.ref a) f b) Q E s:=by
 obtain ⟨mA,O,r,_,_,_⟩:=ze8 I.hok e;obtain ⟨u,hu,ru⟩:=zaM.some_of (v:=v) (o:=mA f) (by rw [<- l];exact r f);exact zsT I.kIn O (c.get f) c.hd n hu (zpV ru) (h u _ (I.tok _) ru)
theorem zen{m:Str}{g:Addr}{Q:Value×List Value->af->Prop}(I:Inv X Ga σ H s)(e:H a=some (.ins C dx fs))(c:Cls X.K C)(k:zcO X.K C m g)(l:fs.lookup m=none)
  (h:Q (.ref g,[.ref a]) s):aH (aC X.prog X.w) A (fj (.ref a) m pl) Q E s:=by
 obtain ⟨mA,O,r,_,_,_⟩:=ze8 I.hok e;have hn:mA m=none:=zaM.none_of (by rw [<- l];exact r m);exact zpH I.kIn O (c.get m) k.at_ k.fn hn h
theorem zl2{Q:Unit->af->Prop}(I:Inv X Ga σ H s)(e:H a=some (.ins C dx fs))(c:Cls X.K C)(n:zaD X.K C f)(hl:fs.length<1000)(ry:zm y u)
  (h:∀s',Inv X Ga σ (upd H a (.ins C dx (zH f y fs))) s'->Q () s'):aH (aC X.prog X.w) A (setAttr (.ref a) f u) Q E s:=by
 obtain ⟨mA,O,r,wi,_,ho⟩:=ze8 I.hok e;have hz:(fs.map (·.1)).length<=sizeLine:=by rw [am,cU];lia
 refine zoY I.kIn O c.sa c.po n.taker c.hd wi hz λh' O' sb=>h _ ?_;have hd:∃o,h'.get? dx=some o:=let ⟨o,_,_,e',_⟩:=O'.ns;⟨o,e'⟩;refine I.write (x:=a) (e:=dx) (by rw [e];exact True.intro) (.inr ho) (λb q hb z=>(sb.2 b hb).trans z) hd ?_;refine ⟨by rw [zd O.ne];exact ho,?_,O.ne,O'.obj,_,O'.ns,λg=>?_,λg hg=>?_⟩
 .have:=zmu f y fs;lia
 .show zaM ((zH f y fs).lookup g) (if g=f then some u else mA g);rw [zjm];by_cases q:g=f
  .rw [if_pos q,if_pos q];exact ry
  .rw [if_neg q,if_neg q];exact r g
 .by_cases q:g=f
  .rw [q];exact (zfK f y fs).1
  .refine (zfK f y fs).2 g (wi g λz=>hg ?_);show (if g=f then some u else mA g)=none;rw [if_neg q];exact z
theorem Inv.made(I:Inv X Ga σ H s):Inv X Ga σ (upd (upd H s.heap.objs.size (.own (s.heap.objs.size+1))) (s.heap.objs.size+1) (.ins C s.heap.objs.size []))
  { s with heap:=(s.heap.push emptyDict).push (iM C s.heap.objs.size) }:=by
 have e1:(s.heap.push emptyDict).get? s.heap.objs.size=some emptyDict:=aO s.heap rfl;have e2:((s.heap.push emptyDict).push (iM C s.heap.objs.size)).get? (s.heap.objs.size+1)=some (iM C s.heap.objs.size):=by
  have:=aO (s.heap.push emptyDict) (o:=iM C s.heap.objs.size) rfl;rwa [cj] at this
 have e3:(s.heap.push emptyDict).Ns s.heap.objs.size (λ_=>none):=⟨emptyDict,#[],_,e1,rfl,(λe he=>absurd he (by simp)),λ_=>rfl⟩;have I1:=I.laid (a:=s.heap.objs.size) (o:=.own (s.heap.objs.size+1)) (h':=s.heap.push emptyDict) (t':=s.toks) (λb u q=>ad _ q) (ae _) ⟨_,e1⟩;refine I1.laid (a:=s.heap.objs.size+1) (o:=.ins C s.heap.objs.size []) (t':=s.toks) (λb u q=>ad _ q) (gB (cj _ _)) ?_;have ne:s.heap.objs.size≠s.heap.objs.size+1:=bC (gj _);refine ⟨by rw [zd ne,zu],cf _,ne,e2,λ_=>none,(Heap.Ns1.of_empty e3).at λo q=>ad _ q,λ_=>True.intro,λy hy=>absurd rfl hy⟩
theorem zrZ{prog:aI}{env:Env}{f:Str}(hb:cy e f env (bV e env)=bV e env)
  (h:aH (aC prog w) A (bV e env) (λo s₁=>aH (aC prog w) A (getAttr o f true) Q E s₁) E s):aH (aC prog w) A (bV (.Attribute e f pos) env) Q E s :=
 Attribute_any_ h (by rw [arm_eval_Attribute,hb])
end
def zhl(X:Cx)(op:Operator)(rd:V->V->Hp->VK->Prop):Prop :=
 ∀(Ga:List (Addr×Obj))(s:af)(σ:St)(H:Hp)(x y:V)(u v:Value)(Q:VK),Inv X Ga σ H s->zm x u->zm y v->rd x y H Q->aH (aC X.prog X.w) X.A (inplaceOp op u v) (EP X Ga σ Q) X.xe s
section
variable {X:Cx}{o e value:bw}{f:Str}{pos pos' tpos:Pos}{ta tv:TE}
def zfX:V->V->Hp->VK->Prop:=λx y H Q=>∃i j,x = .int i/\y = .int j/\Q (.int (i+j)) H
def zfC:V->V->Hp->VK->Prop:=λx y H Q=>∃i j,x = .int i/\y = .int j/\Q (.int (i-j)) H
theorem zte:zhl X .Add zfX:=by
 rintro Ga s σ H x y u v Q I rx ry ⟨i,j,rfl,rfl,q⟩;obtain ⟨t,rfl⟩:=(show ∃t,u=fq i t from rx);obtain ⟨t',rfl⟩:=(show ∃t',v=fq j t' from ry);exact PyProof.Rows.iadd_int ⟨.int (i+j),H,I.tok _,⟨_,rfl⟩,q⟩
theorem zvs:zhl X .Sub zfC:=by
 rintro Ga s σ H x y u v Q I rx ry ⟨i,j,rfl,rfl,q⟩;obtain ⟨t,rfl⟩:=(show ∃t,u=fq i t from rx);obtain ⟨t',rfl⟩:=(show ∃t',v=fq j t' from ry);exact PyProof.Rows.isub_int ⟨.int (i-j),H,I.tok _,⟨_,rfl⟩,q⟩
end
section
variable {X:Cx}{Ga:List (Addr×Obj)}{σ:St}{H:Hp}{s:af}{A:be}{E:Value->af->Prop}{Q:Value->af->Prop}{c:Value}{b:Bool}
inductive zbl(K:ag)(H:Hp):V->Value->Prop where
 | non:zbl K H .non (.type "NoneType")
 | bl (x:Bool):zbl K H (.bl x) (.type "bool")
 | int (i:Int):zbl K H (.int i) (.type "int")
 | str (x:Str):zbl K H (.str x) (.type "str")
 | flt (x:UInt64):zbl K H (.flt x) (.type "float")
 | lst {a:Addr}{xs:List V} (e:H a=some (.lst xs)):zbl K H (.ref a) (.type "list")
 | frz {a:Addr}{o:Obj}{xs:List V} (e:H a=some (.frz o (.lst xs))):zbl K H (.ref a) (.type "list")
 | tup {a:Addr}{xs:List V} (e:H a=some (.tup xs)):zbl K H (.ref a) (.type "tuple")
 | dK {a:Addr}{kvs:List (Key×V)} (e:H a=some (.dK kvs)):zbl K H (.ref a) (.type "dict")
 | dT {a:Addr}{kvs:List (List Key×V)} (e:H a=some (.dT kvs)):zbl K H (.ref a) (.type "dict")
 | ins {a C dx:Addr}{fs:List (Str×V)} (e:H a=some (.ins C dx fs)) (cl:Cls K C) (ha:cK K (.ref C) "__class__"=some (some (.builtin "object.__class__")))
   (hn:PySem.W.specialIn K (.builtin "object.__class__") "__get__"=some (some (.builtin "getset_descriptor.__get__"))) (htk:PySem.W.takesIn K (.builtin "object.__class__")=some true)
   (hm:ij K C (.type "object")=some true):zbl K H (.ref a) (.ref C)
theorem zuL{x:V}{t:Value}(I:Inv X Ga σ H s)(rx:zm x u)(ty:zbl X.K H x t)(e:PySem.W.kitOne X.K t c=some b)(h:∀tk,Q (.bool b) { s with toks:=tk }) :
  aH (aC X.prog X.w) A (call (.builtin "isinstance") [u,c]) Q E s:=by
 cases ty with
 | non=>cases (show u=bx from rx);exact cz PySem.W.kitx_none I.kIn True.intro e (λz=>nomatch z) h
 | bl y=>cases (show u=fg y from rx);exact cz PySem.W.kitx_bool I.kIn True.intro e (λz=>nomatch z) h
 | int i=>obtain ⟨t,q⟩:=(show ∃t,u=fq i t from rx);cases q;exact cz PySem.W.kitx_int I.kIn True.intro e (λz=>nomatch z) h
 | str y=>obtain ⟨t,q⟩:=(show ∃t,u=iZ y t from rx);cases q;exact cz PySem.W.kitx_str I.kIn True.intro e (λz=>nomatch z) h
 | flt y=>obtain ⟨t,q⟩:=(show ∃t,u=float y t from rx);cases q;exact cz PySem.W.kitx_float I.kIn True.intro e (λz=>nomatch z) h
 | @lst a xs ea =>
  cases (show u=aA a from rx);obtain ⟨_,_,n,_,h1⟩:=(show zT X.prog X.w H s.heap a (.lst xs) from I.hok a _ ea);exact cz PySem.W.kitx_list I.kIn ⟨_,h1,rfl⟩ e (λz=>nomatch z) h
 | @frz a ob xs ea =>
  cases (show u=aA a from rx);obtain ⟨_,_,_,n,_,h1⟩:=(show zT X.prog X.w H s.heap a (.frz ob (.lst xs)) from I.hok a _ ea);exact cz PySem.W.kitx_list I.kIn ⟨_,h1,rfl⟩ e (λz=>nomatch z) h
 | @tup a xs ea =>
  cases (show u=aA a from rx);obtain ⟨_,_,_,p⟩:=(show zT X.prog X.w H s.heap a (.tup xs) from I.hok a _ ea);obtain ⟨o,h1,h2,_⟩:=p;exact cz PySem.W.kitx_tuple I.kIn ⟨o,h1,h2⟩ e (λz=>nomatch z) h
 | @dK a kvs ea =>
  cases (show u=aA a from rx);obtain ⟨_,_,vs,_,p⟩:=(show zT X.prog X.w H s.heap a (.dK kvs) from I.hok a _ ea);obtain ⟨o,es,ep,h1,h2,_⟩:=p;exact cz PySem.W.kitx_dict I.kIn ⟨o,h1,h2.1⟩ e (λz=>nomatch z) h
 | @dT a kvs ea =>
  cases (show u=aA a from rx);obtain ⟨_,_,xs,_,o,es,ep,h1,h2,_⟩:=(show zT X.prog X.w H s.heap a (.dT kvs) from I.hok a _ ea);exact cz PySem.W.kitx_dict I.kIn ⟨o,h1,h2.1⟩ e (λz=>nomatch z) h
 | @ins a C dx fs ea cl ha hn htk hm =>
  cases (show u=aA a from rx);obtain ⟨mA,O,_⟩:=ze8 I.hok ea;obtain ⟨od,J,_⟩:=O.look;exact cz (PySem.W.kitx_own (cl.get _) cl.hd ha hn htk hm) I.kIn J e (λz=>nomatch z) h
end
structure zz(c:Bool)(k:Nat)(A:be):Prop where
 hd:c=true->A.handled=none
 dp:A.depth+3*k+5<recursionLimit
 un:A.units+16*k+200<cLine
 gd:A.guards=some []
theorem zz.mono{j k:Nat}(r:zz c k A)(h:j<=k):zz c j A:=⟨r.hd,by have:=r.dp;lia,by have:=r.un;lia,r.gd⟩
theorem zz.weak{k:Nat}(r:zz c k A):zz false k A:=⟨λh=>(nomatch h),r.dp,r.un,r.gd⟩
theorem zz.deeper{k:Nat}(r:zz c (k+1) A)(env:Env):zz c k (A.deeper env) :=
 ⟨r.hd,by have:=r.dp;show A.depth+1+3*k+5<_;lia,by have:=r.un;show A.units+3+16*k+200<_;lia,by first|exact r.gd|simpa [be.deeper,be.under,Code.isGuard] using r.gd⟩
theorem zsC:(A.under (.builtin "type.__call__" ⟨.ref C::us,kw⟩)).depth=A.depth+1:=by
 first|rfl|simp [be.under,Code.weight,Code.isCreation,Code.isGuard,Code.isCaller,Code.frames,Code.isFrame,guardIds]
theorem zqt:(A.under (.builtin "type.__call__" ⟨.ref C::us,kw⟩)).units=A.units+1:=by
 first|rfl|simp [be.under,Code.cUnits,Code.frames,Code.isFrame]
theorem zz.make{k:Nat}(r:zz c (k+1) A)(C:Addr)(us:List Value)(kw:List (Str×Value)):zz c k (A.under (.builtin "type.__call__" ⟨.ref C::us,kw⟩)) :=
 ⟨r.hd,by have:=r.dp;rw [zsC];lia,by have:=r.un;rw [zqt];lia,by first|exact r.gd|simpa [be.under,Code.isGuard,guardIds] using r.gd⟩
theorem zz.depth{k:Nat}(r:zz c k A):A.depth<recursionLimit:=by have:=r.dp;lia
theorem zz.units{k:Nat}(r:zz c k A):A.units+64<cLine:=by have:=r.un;lia
def zaZ:TA:=λ_ H Q=>Q [] H
def zeS(ta:TE)(tr:TA):TA:=λσ H Q=>ta σ H λx H1=>tr σ H1 λxs H2=>Q (x::xs) H2
section
variable {X:Cx}{e:bw}{es:List bw}{te:TE}{t:TA}{pos:Pos}
theorem zbX:PA X [] zaZ:=λ_ _ _ _ H Q I h=>Calls.spliced_nil ⟨[],H,I,.nil,h⟩
theorem zb6(ha:PE X e te)(hr:PA X es t)(hs:aV (e::es) X.env=(false,bV e X.env)::aV es X.env:=by rfl):PA X (e::es) (zeS te t):=by
 intro pos Ga s σ H Q I h;rw [hs];show aH _ _ (spliced ((false,bV e X.env)::dL pos (aV es X.env))) _ _ s;refine Calls.spliced_cons (thn (ha Ga s σ H _ I h) λu s1=>x5e λx H1 I1 r1 q1=>?_);exact thn (hr pos Ga s1 σ H1 _ I1 q1) λus s2=>x5e λxs H2 I2 r2 q2=>⟨x::xs,H2,I2,.cons r1 r2,q2⟩
def zsP(t:TA):TE:=λσ H Q=>t σ H λxs H1=>xs.length<=sizeLine/\∀p,H1 p=none->Q (.ref p) (upd H1 p (.tup xs))
theorem zr2{x1}(h:PA X es t):PE X (.Tuple es x1 pos) (zsP t):=by
 intro Ga s σ H Q I hq;refine wpAny_Tuple_spliced (thn (h pos Ga s σ H _ I hq) λus s1=>x5e λxs H1 I1 r=>x2e λz q=>⟨by rw [<- r.length];exact z,?_⟩);have hf:H1 s1.heap.objs.size=none:=I1.hok.fresh (ae _);refine ⟨.ref s1.heap.objs.size,upd H1 s1.heap.objs.size (.tup xs),I1.laid (t':=s1.toks) (λb u e=>ad _ e) (ae _) ?_,rfl,q _ hf⟩;exact ⟨z,us,r,⟨_,aO _ rfl,rfl,_,rfl⟩⟩
end
abbrev Sp:=List V->Hp->VK->XK->Prop
abbrev CXT:=List Env->Hp->af->XK->Value->af->Prop
variable{CX:CXT}
structure zc4(P:aI)(w:aZ)(K:ag)(mg:Str->Option Value)(base:Heap)(A:be)(outer:List Env)(s:af)(H:Hp):Prop where
 frames:A.frames=some outer
 hdk:zej A H
 mod:Mod K mg base
 bs:∀b o,base.get? b=some o->s.heap.get? b=some o/\H b=none
 bsz:base.objs.size<=s.heap.objs.size
 funs:s.heap.FunFrames base outer
 frf:∀b∈frs outer,H b=none
 hok:HOk P w H s.heap
 bare:eV s.gens
def CE(outer:List Env)(P:aI)(w:aZ)(H:Hp)(s:af)(Q:VK)(u:Value)(s':af):Prop :=
 ∃v H',s'.os=s.os/\eV s'.gens/\Un (frs outer) [] H H' s.heap s'.heap/\HOk P w H' s'.heap/\zm v u/\Q v H'
def CR(CX:CXT)(outer:List Env)(P:aI)(w:aZ)(H:Hp)(s:af)(Q:VK)(E:XK)(r:Result)(s':af):Prop :=
 match r with
 | .ok (.ret u)=>CE outer P w H s Q u s'
 | .ok _=>False
 | .error e=>CX outer H s E e s'
structure zo(P:aI)(w:aZ)(K:ag)(mg:Str->Option Value)(base:Heap)(CX:CXT)(c:Bool)(k:Nat)(f:Addr)(fd:cL)(ps:List Str)(sp:Sp):Prop where
 len:∀vs H Q E,sp vs H Q E->vs.length=ps.length
 run:∀(A:be)(outer:List Env)(s:af)(H:Hp)(args:Args)(us:List Value)(vs:List V)(Q:VK)(E:XK),zz c k A->zc4 P w K mg base A outer s H->BindsTo s fd args (ps.zip us)->zk vs us->sp vs H Q E ->
  gS (aC P w) A (.call (.ref f) args) (CR CX outer P w H s Q E) s
theorem zo.calm{K:ag}{k:Nat}{f:Addr}{fd:cL}{sp:Sp}(F:zo P w K mg base CX false k f fd ps sp) :
  zo P w K mg base CX c k f fd ps sp:=⟨F.len,λA outer s H args us vs Q E hr=>F.run A outer s H args us vs Q E hr.weak⟩
theorem zc4.make{K:ag}{outer:List Env}(e:zc4 P w K mg base A outer s H)(C:Addr)(us:List Value)(kw:List (Str×Value)) :
  zc4 P w K mg base (A.under (.builtin "type.__call__" ⟨.ref C::us,kw⟩)) outer s H:=⟨by first|exact e.frames|(simpa [be.under,Code.envs,Code.isFrame,pushEnvs] using e.frames),e.hdk,e.mod,e.bs,e.bsz,e.funs,e.frf,e.hok,e.bare⟩
section
variable {X:Cx}{Ga:List (Addr×Obj)}{σ:St}{H:Hp}{s s':af}
theorem Inv.env0(I:Inv X Ga σ H s):zc4 X.prog X.w X.K X.mg X.base X.A X.stack s H :=
 ⟨I.ok.frames,I.hdk,I.ok.mod,I.bs,aW I.ok.bsz I.sz,I.stack,I.stkFree,I.hok,I.bare⟩
theorem Inv.after{Q:VK}(I:Inv X Ga σ H s)(h:CE X.stack X.prog X.w H s Q u s'):EP X Ga σ Q u s':=by
 obtain ⟨v,H',os,bare,un,hok,r,q⟩:=h;obtain ⟨hh,g,d,t,os'⟩:=s';obtain rfl:os'=s.os:=os;exact ⟨v,H',I.call (h':=hh) (g':=g) (d':=d) (t':=t) (ch:=[]) un hok bare (λb z=>absurd z (by simp)),r,q⟩
end
def zep(sp:Sp)(dvs:List V)(E:XK)(t:TA):TE:=λσ H Q=>t σ H λvs H1=>sp (vs++dvs) H1 Q E
def zcm(C:Addr)(m:Str)(sp:Sp)(dvs:List V)(E:XK)(ta:TE)(t:TA):TE:=λσ H Q=>ta σ H λx H1=>∃a dx fs,x = .ref a/\H1 a=some (.ins C dx fs)/\fs.lookup m=none /\
 t σ H1 λvs H2=>sp (x::(vs++dvs)) H2 Q E
def zim(C:Addr)(sp:Sp)(dvs:List V)(E:XK)(t:TA):TE:=λσ H Q=>t σ H λvs H1=>∀x dx,H1 x=none->H1 dx=none->dx≠x ->
 sp (.ref x::(vs++dvs)) (upd (upd H1 dx (.own x)) x (.ins C dx [])) (λv H2=>v = .non/\Q (.ref x) H2) E
def zaE(K:ag)(fd:cL)(ps:List Str)(ds:List Value):Prop :=
 ∀(s:af)(us:List Value),K.In s.heap->(us++ds).length=ps.length->BindsTo s fd ⟨us,[]⟩ (ps.zip (us++ds))
theorem zaE.all{K:ag}{fd:cL}(h:∀us:List Value,us.length=ps.length->bindArgs fd ⟨us,[]⟩=pure (ps.zip us)):zaE K fd ps []:=λs us _ hl=>by
 rw [cw] at hl ⊢;exact .of_eq (h us hl)
def zcq(CX:CXT)(X:Cx)(E:XK):Prop:=∀(Ga:List (Addr×Obj))(σ:St)(H:Hp)(s:af)(e:Value)(s':af),Inv X Ga σ H s->CX X.stack H s E e s'->X.xe e s'
section
variable {X:Cx}{CX:CXT}{cm:Bool}{k:Nat}{f C:Addr}{fd:cL}{ps:List Str}{sp:Sp}{dvs:List V}{ds:List Value}{E:XK}{x m:Str}{p pos apos:Pos}{e o:bw}{es:List bw}{ta:TE}{t:TA}
theorem zgx{Q:VK}(F:zo X.prog X.w X.K X.mg X.base CX cm k f fd ps sp)(hr:zz cm k X.A)(hb:zaE X.K fd ps ds)(hd:zk dvs ds)(hx:zcq CX X E)
  (I:Inv X Ga σ H s) (r:zk vs us) (h:sp (vs++dvs) H Q E):aH (aC X.prog X.w) X.A (call (.ref f) us) (EP X Ga σ Q) X.xe s:=by
 have r2:zk (vs++dvs) (us++ds):=r.append hd;have hl:(us++ds).length=ps.length:=by rw [<- r2.length];exact F.len _ _ _ _ h
 refine iH (fk (F.run X.A X.stack s H ⟨us,[]⟩ (us++ds) (vs++dvs) Q E hr I.env0 (hb s us I.kIn hl) r2 h) λr s' hq=>?_);cases r with
 | error e=>exact hx Ga σ H s e s' I hq
 | ok fl =>
  cases fl with
  | ret u=>exact I.after hq
  | next=>exact False.elim hq
  | brk=>exact False.elim hq
  | cont=>exact False.elim hq
theorem zr4(F:zo X.prog X.w X.K X.mg X.base CX cm k f fd ps sp)(hr:zz cm k X.A)(hg:Gl X x)(hm:X.mg x=some (.ref f))(hk:gN X.K (.ref f)=true)(hb:zaE X.K fd ps ds)(hd:zk dvs ds)(hx:zcq CX X E)
  (ha:PA X (e::es) t) (hdb:(x==("__debug__":Str))=false:=by decide) (he:aV (e::es) X.env=(false,bV e X.env)::aV es X.env:=by rfl) (hpl:(dL pos (aV es X.env)).any (·.1)=false:=by rfl) :
  PE X (.Call (.Name x p) (e::es) [] pos) (zep sp dvs E t):=by
 intro Ga s σ H Q I h;refine cO (zcB I hg hm ?_ hdb);refine iQ (h₀:=X.base) I.ok.mod.kin hk (thn (ha pos Ga s σ H _ I h) λus s1=>x5e λvs H1 I1 r q=>⟨I1.kIn,?_⟩) he hpl;exact zgx F hr hb hd hx I1 r q
theorem zqe(he:PE X o ta)(c:Cls X.K C)(hm:zcO X.K C m f)(F:zo X.prog X.w X.K X.mg X.base CX cm k f fd ps sp)(hr:zz cm k X.A)(hb:zaE X.K fd ps ds)(hd:zk dvs ds)(hx:zcq CX X E)(ha:PA X (e::es) t)
  (hst:aV (e::es) X.env=(false,bV e X.env)::aV es X.env:=by rfl) (hpl:(dL pos (aV es X.env)).any (·.1)=false:=by rfl)
  (ht:bV (.Call (.Attribute o m apos) (e::es) [] pos) X.env=(do
   let ov<-bV o X.env
   gp apos.atName
   let (f,first)<-fI [ov] (fj ov m pl)
   fe pos f first (dL pos (aV (e::es) X.env)) (gF pos (eB [] X.env))):=by rfl) :
  PE X (.Call (.Attribute o m apos) (e::es) [] pos) (zcm C m sp dvs E ta t):=by
 intro Ga s σ H Q I h;refine ig (pl:=pl) (thn (he Ga s σ H _ I h) λu s1=>x5e λx H1 I1 rx zz12=>?_) ht;obtain ⟨a,dx,fs,ex,ea,l,q⟩:=zz12;subst ex;obtain rfl:u=aA a:=rx;refine zen I1 ea c hm l ?_;refine iQ (first:=[.ref a]) (h₀:=X.base) I.ok.mod.kin hm.kp (thn (ha pos Ga s1 σ H1 _ I1 q) λus s2=>x5e λvs H2 I2 r q2=>⟨I2.kIn,?_⟩) hst hpl;exact zgx (us:=.ref a::us) (vs:=.ref a::vs) F hr hb hd hx I2 (.cons rfl r) q2
theorem zoV(he:PE X o ta)(c:Cls X.K C)(hm:zcO X.K C m f)(F:zo X.prog X.w X.K X.mg X.base CX cm k f fd ps sp)(hr:zz cm k X.A)(hb:zaE X.K fd ps ds)(hd:zk dvs ds)(hx:zcq CX X E)
  (ht:bV (.Call (.Attribute o m apos) [] [] pos) X.env=(do
   let ov<-bV o X.env
   gp apos.atName
   let (f,first)<-fI [ov] (fj ov m pl)
   fe pos f first (dL pos (aV [] X.env)) (gF pos (eB [] X.env))):=by rfl) :
  PE X (.Call (.Attribute o m apos) [] [] pos) (zcm C m sp dvs E ta zaZ):=by
 intro Ga s σ H Q I h;refine ig (pl:=pl) (thn (he Ga s σ H _ I h) λu s1=>x5e λx H1 I1 rx zz13=>?_) ht;obtain ⟨a,dx,fs,ex,ea,l,q⟩:=zz13;subst ex;obtain rfl:u=aA a:=rx;refine zen I1 ea c hm l ?_;exact callWith_K0 (first:=[.ref a]) I1.kIn hm.kp (zgx (us:=[.ref a]) (vs:=[.ref a]) F hr hb hd hx I1 (.cons rfl .nil) q)
structure Mk(K:ag)(C f:Addr):Prop where
 makes:makesIn K C=true
 init:cK K (.ref C) "__init__"=some (some (.ref f))
 fn:isFn K (.ref f)=true
 kp:gN K (.ref C)=true
theorem zjN{Q:VK}(M:Mk X.K C f)(F:zo X.prog X.w X.K X.mg X.base CX cm k f fd ps sp)(hr:zz cm (k+1) X.A)(hb:zaE X.K fd ps ds)(hd:zk dvs ds)
  (hx:zcq CX X E) (I:Inv X Ga σ H s) (r:zk vs us)
  (h:∀x dx,H x=none->H dx=none->dx≠x->sp (.ref x::(vs++dvs)) (upd (upd H dx (.own x)) x (.ins C dx [])) (λv H2=>v = .non/\Q (.ref x) H2) E) :
  aH (aC X.prog X.w) X.A (call (.ref C) us) (EP X Ga σ Q) X.xe s:=by
 have hq:=h (s.heap.objs.size+1) s.heap.objs.size (I.hok.fresh (le_succ _)) (I.hok.fresh (ae _)) (bC (gj _));have I2:=Inv.made (C:=C) I;have r2:zk (V.ref (s.heap.objs.size+1)::(vs++dvs)) (aA (s.heap.objs.size+1)::(us++ds)):=.cons rfl (r.append hd);have hl:(aA (s.heap.objs.size+1)::us++ds).length=ps.length:=by
  have e:=r2.length;rw [F.len _ _ _ _ hq] at e;exact e.symm
 refine iH (zud (f:=f) I.kIn M.makes M.init (beq_iff_eq.mp M.fn) (fk (F.run _ X.stack _ _ ⟨aA (s.heap.objs.size+1)::us,[]⟩ (aA (s.heap.objs.size+1)::(us++ds)) _ _ E (hr.make C us [])
  (I2.env0.make C us []) (hb _ (aA (s.heap.objs.size+1)::us) I2.kIn hl) r2 hq) λr s' hq'=>?_))
 cases r with
 | error e=>exact hx Ga σ _ _ e s' I2 hq'
 | ok fl =>
  cases fl with
  | ret u =>
   obtain ⟨v,H',I3,rv,ev,q3⟩:=I2.after hq';subst ev;exact ⟨rv,⟨V.ref (s.heap.objs.size+1),H',I3,rfl,q3⟩⟩
  | next=>exact False.elim hq'
  | brk=>exact False.elim hq'
  | cont=>exact False.elim hq'
theorem zqW(M:Mk X.K C f)(F:zo X.prog X.w X.K X.mg X.base CX cm k f fd ps sp)(hr:zz cm (k+1) X.A)(hg:Gl X x)(hm:X.mg x=some (.ref C))(hb:zaE X.K fd ps ds)(hd:zk dvs ds)(hx:zcq CX X E)
  (ha:PA X (e::es) t) (hdb:(x==("__debug__":Str))=false:=by decide) (he:aV (e::es) X.env=(false,bV e X.env)::aV es X.env:=by rfl) (hpl:(dL pos (aV es X.env)).any (·.1)=false:=by rfl) :
  PE X (.Call (.Name x p) (e::es) [] pos) (zim C sp dvs E t):=by
 intro Ga s σ H Q I h;refine cO (zcB I hg hm ?_ hdb);refine iQ (h₀:=X.base) I.ok.mod.kin M.kp (thn (ha pos Ga s σ H _ I h) λus s1=>x5e λvs H1 I1 r q=>⟨I1.kIn,?_⟩) he hpl;exact zjN M F hr hb hd hx I1 r q
theorem zuM(M:Mk X.K C f)(F:zo X.prog X.w X.K X.mg X.base CX cm k f fd ps sp)(hr:zz cm (k+1) X.A)(hg:Gl X x)(hm:X.mg x=some (.ref C))(hb:zaE X.K fd ps ds)(hd:zk dvs ds)(hx:zcq CX X E)
  (hdb:(x==("__debug__":Str))=false:=by decide):PE X (.Call (.Name x p) [] [] pos) (zim C sp dvs E zaZ):=by
 intro Ga s σ H Q I h;refine cO (zcB I hg hm ?_ hdb);exact callWith_K0 I.kIn M.kp (zjN (us:=[]) M F hr hb hd hx I .nil h)
end
section
variable {X:Cx}{CX:CXT}{cm:Bool}{k:Nat}{f C:Addr}{fd:cL}{ps ks:List Str}{sp:Sp}{E:XK}{x m:Str}{p pos apos kpos:Pos}{e o:bw}{es:List bw}{kws:List Keyword}{te ta:TE}{t tk:TA}{nm:Option Str}
variable {g:List Value->List Value->List Value}{gV:List V->List V->List V}
end
structure zr(N P:List Str)(sc:Scope):Prop where
 kind:sc.kind = .function
 co:sc.isCoroutine=false
 gen:sc.isGenerator=false
 nd:N.Nodup
 pre:N.take P.length=P
 par:∀x∈P,sc.names.lookup x=some .local\/sc.names.lookup x=some .cell
 nofree:∀y∈sc.names,y.2≠.free
theorem zmM{kindOf:Str->Option cZ}{x:Str}:∀{binds:List (Str×Value)}{m:Str->Option Value},(∀v,(x,v)∉binds)->bindL kindOf binds m x=m x
 | [],_,_=>rfl
 | (n,v)::r,m,h=>by
  unfold bindL;rw [zmM λw hw=>h w (aF _ hw)];split
  .have:x≠n:=by rintro rfl;exact h v bf
   simp [this]
  .rfl
theorem zkz{kindOf:Str->Option cZ}{x:Str}:∀{binds:List (Str×Value)}{m:Str->Option Value},(∀v,(x,v)∉binds)->bindC kindOf binds m x=m x
 | [],_,_=>rfl
 | (n,v)::r,m,h=>by
  unfold bindC;rw [zkz λw hw=>h w (aF _ hw)];split
  .rfl
  .have:x≠n:=by rintro rfl;exact h v bf
   simp [this]
theorem zly{kindOf:Str->Option cZ}{x:Str}{v:Value}:∀{P:List Str}{vs:List Value}{i:Nat}{m:Str->Option Value},P.Nodup->P[i]?=some x->vs[i]?=some v->kindOf x=some .local ->
  bindL kindOf (P.zip vs) m x=some v
 | [],_,_,_,_,h,_,_=>by simp at h
 | _::_,[],_,_,_,_,h,_=>by simp at h
 | p::P,w::vs,0,m,nd,h1,h2,hk=>by
  simp at h1 h2;subst h1;subst h2;show bindL kindOf ((p,w)::P.zip vs) m p=_;unfold bindL;rw [zmM λv hv=>(cg.mp nd).1 (iU hv).1,if_pos hk];simp
 | p::P,w::vs,i+1,m,nd,h1,h2,hk=>by
  show bindL kindOf ((p,w)::P.zip vs) m x=_;unfold bindL;exact zly (i:=i) (cg.mp nd).2 (by simpa using h1) (by simpa using h2) hk
theorem zlw{kindOf:Str->Option cZ}{x:Str}{v:Value}:∀{P:List Str}{vs:List Value}{i:Nat}{m:Str->Option Value},P.Nodup->P[i]?=some x->vs[i]?=some v->kindOf x≠some .local ->
  bindC kindOf (P.zip vs) m x=some v
 | [],_,_,_,_,h,_,_=>by simp at h
 | _::_,[],_,_,_,_,h,_=>by simp at h
 | p::P,w::vs,0,m,nd,h1,h2,hk=>by
  simp at h1 h2;subst h1;subst h2;show bindC kindOf ((p,w)::P.zip vs) m p=_;unfold bindC;rw [zkz λv hv=>(cg.mp nd).1 (iU hv).1,if_neg hk];simp
 | p::P,w::vs,i+1,m,nd,h1,h2,hk=>by
  show bindC kindOf ((p,w)::P.zip vs) m x=_;unfold bindC;exact zlw (i:=i) (cg.mp nd).2 (by simpa using h1) (by simpa using h2) hk
def start(N:List Str)(vs:List V):St:=vs.map some++bi (N.length-vs.length) none
def zbt(CX:CXT)(cm:Bool)(P:aI)(w:aZ)(K:ag)(mg:Str->Option Value)(base:Heap)(N:List Str)(qual:Str)(scope:Scope)(f:Addr)(cd:Value)(A:be)(outer:List Env)(s:af)(H:Hp)(E:XK):Cx where
 prog:=P
 w:=w
 K:=K
 mg:=mg
 base:=base
 A:=A.deeper (e9 qual scope s.heap.objs.size f cd)
 N:=N
 s₀:=s
 H₀:=H
 env:=e9 qual scope s.heap.objs.size f cd
 outer:=outer
 stack:=e9 qual scope s.heap.objs.size f cd::outer
 ex:=[]
 calm:=cm
 fn:=λ_=>true
 pn:=[]
 xe:=λe s'=>aH (aC P w) (A.deeper (e9 qual scope s.heap.objs.size f cd)) (leaving (e9 qual scope s.heap.objs.size f cd) e) (λ_ s''=>CX outer H s E e s'') (λe' s''=>CX outer H s E e' s'') s'
theorem zkv{sc:Scope}{n:Nat}(h:sc.names.lookup x=some .cell):∃c,(cellsFrom n sc.names []).lookup x=some c:=by
 have q:=PySem.W.cellsFrom_some sc.names n [] (.inl h);exact isSome_iff_exists.mp q
theorem zpO{cm:Bool}{K:ag}{qual:Str}{scope:Scope}{f:Addr}{cd:Value}{outer:List Env}{s1:af}{E:XK}
  (S:zr N ps scope) (hd:cm=true->A.handled=none) (e0:zc4 P w K mg base A outer s H) (hl:vs.length=ps.length) (r:zk vs us)
  (x:InCallC s s.heap.objs.size (bindL (e9 qual scope s.heap.objs.size f cd).kindOf (ps.zip us) λ_=>none) (cellsFrom (s.heap.objs.size+1) scope.names []) (bindC (e9 qual scope s.heap.objs.size f cd).kindOf (ps.zip us) λ_=>none) s1) :
  Inv (zbt CX cm P w K mg base N qual scope f cd A outer s H E) [] (start N vs) H s1:=by
 have hpl:ps.length<=N.length:=by have:=congrArg List.length S.pre;rw [bI] at this;lia
 obtain ⟨h1,tk,rfl,hk⟩:=x.done;have noA:∀b:Addr,b∉(zbt CX cm P w K mg base N qual scope f cd A outer s H E).ex:=λb z=>absurd (show b∈([]:List Addr) from z) (by simp);refine ⟨⟨e0.mod,S.kind,rfl,rfl,ae _,λy z c h1 h2=>?_,λy hy=>?_,λy c _ h=>?_,hd,be.frames_deeper e0.frames,.inr ⟨rfl,rfl⟩,λb z=>absurd z (noA b),e0.bs,e0.bsz,λb _ _=>noA b,λb z=>absurd z (noA b),e0.funs,e0.frf⟩,
  rfl,e0.bare,Un.kept hk,⟨_,x.toInCall.ns,λi y v h1 h2 h3=>?_⟩,λy c h=>⟨_,x.cell y c h⟩,e0.hok.fresh (ae _),λy c h=>?_,λp hp=>absurd (show p∈([]:List (Addr×Obj)) from hp) (by simp),e0.hok.kept hk,?_,e0.hdk⟩
 .exact name_of_addr x.apart (cE h1) (cE h2)
 .have hy:scope.names.lookup y=some .cell\/scope.names.lookup y=some .free:=hy;rcases hy with hy|hy
  .exact zkv hy
  .exact absurd rfl (S.nofree _ (cE hy))
 .exact dE (x.above y c (cE h))
 .have hi:i<vs.length:=by
   unfold start at h2;by_cases hi:i<vs.length
   .exact hi
   .rw [c9 (by simpa using hi)] at h2;rw [cS] at h2;split at h2<;>cases h2
  have ha:vs[i]?=some v:=by
   unfold start at h2;rw [dy (by simpa using hi),bh] at h2;cases e:vs[i]? with
   | none=>rw [e] at h2;cases h2
   | some a=>rw [e] at h2;cases h2;rfl
  obtain ⟨u,hu,rv⟩:=r.get ha;have hp:ps[i]?=some y:=by
   rw [<- S.pre,dC (by lia)];exact h1
  have ndP:ps.Nodup:=by rw [<- S.pre];exact S.nd.sublist (List.take_sublist _ _)
  refine ⟨u,rv,?_⟩;rcases S.par y (aE hp) with k|k
  .exact .inl ⟨k,zly ndP hp hu k⟩
  .obtain ⟨c,e⟩:=zkv (n:=s.heap.objs.size+1) k;refine .inr ⟨.inl k,c,e,?_⟩;have q:=x.cell y c e;rw [zlw ndP hp hu (by show scope.names.lookup y≠_;rw [k];decide)] at q;exact q
 .exact e0.hok.fresh (dE (x.above y c (cE h)))
 .unfold start;show _=N.length;rw [aG,am,b8];lia
theorem zfU{cm:Bool}{K:ag}{k:Nat}{f:Addr}{name qual:Str}{params:Arguments}{scope:Scope}{dV kV doc pm cdv ct oc:Value}{an od:Option Addr}
  {osl:Array (Option Value)}{sp:Sp} (lk:K.lookup f=some ⟨oc,od,.func (fnOf name qual params body scope dV kV doc pm an cdv ct),osl⟩) (hcd:codeIn K cdv qual=true) (S:zr N ps scope)
  (len:∀vs H Q E,sp vs H Q E->vs.length=ps.length)
  (hbody:∀(A:be)(outer:List Env)(s:af)(H:Hp)(vs:List V)(Q:VK)(E:XK),zz cm k (A.deeper (e9 qual scope s.heap.objs.size f cdv))->sp vs H Q E ->
   ∃t,PSs (zbt CX cm P w K mg base N qual scope f cdv A outer s H E) body t/\t { nx:=λ_ H'=>Q .non H',rt:=Q } (start N vs) H) :
  zo P w K mg base CX cm (k+1) f (fnOf name qual params body scope dV kV doc pm an cdv ct) ps sp:=by
 refine ⟨len,λA outer s H args us vs Q E hr e0 hb r hsp=>?_⟩;have hl:=len _ _ _ _ hsp;have KX:K.In s.heap:=e0.mod.kin.keeps λb o e=>(e0.bs b o e).1;have lim:s.heap.NoLimit:=e0.mod.nolimit.keeps λb o e=>(e0.bs b o e).1;have hkind:∀y∈ps.zip us,scope.names.lookup y.1=some .local\/(scope.names.lookup y.1=some .cell/\((cellsFrom (s.heap.objs.size+1) scope.names []).lookup y.1).isSome=true):=λ⟨n,v⟩ hy=>by
  rcases S.par n (iU hy).1 with q|q
  .exact .inl q
  .exact .inr ⟨q,PySem.W.cellsFrom_some _ _ _ (.inl q)⟩
 refine codeAny_call_function hr.depth (KX _ _ lk) rfl S.co S.gen rfl (PySem.W.codeRec_of KX hcd) (hb _ _ _ _ ?_);refine wpAny_newFunctionEnv_cells S.kind hkind λenv he s1 x=>?_;subst he;refine ⟨lim.keeps x.toInCall.keep,codeAny_func ?_⟩;obtain ⟨t,ht,hq⟩:=hbody A outer s H vs Q E (hr.deeper _) hsp;have I:Inv (zbt CX cm P w K mg base N qual scope f cdv A outer s H E) [] (start N vs) H s1:=zpO S hr.hd e0 hl r x;refine bu (ht [] s1 (start N vs) H _ I hq) (λfl s' hs=>?_) λe s' hs=>hs;have fin:∀{σ':St}{H':Hp}{v:V}{u:Value},Inv (zbt CX cm P w K mg base N qual scope f cdv A outer s H E) [] σ' H' s'->zm v u->Q v H'->CE outer P w H s Q u s' :=
  λ{σ' H' v u} J rv q=>⟨v,H',J.os,J.bare,J.base,J.hok,rv,q⟩
 cases fl with
 | ret u =>
  obtain ⟨v,σ',H',J,rv,q⟩:=hs;exact fin J rv q
 | next =>
  obtain ⟨σ',H',J,q⟩:=hs;exact fin (v:=V.non) (u:=bx) J rfl q
 | brk =>
  obtain ⟨_,_,_,q⟩:=hs;exact False.elim q
 | cont =>
  obtain ⟨_,_,_,q⟩:=hs;exact False.elim q
section
variable {X:Cx}{x:Str}{p pos:Pos}{e:bw}{es:List bw}{t:TA}{id T:String}{r:List V->Hp->VK->Prop}
def tCB(r:List V->Hp->VK->Prop)(t:TA):TE:=λσ H Q=>t σ H λvs H1=>r vs H1 Q
theorem zjB(hc:zK X (.builtin id) r)(hg:Gl X x)(hm:X.mg x=none)(hv:eL x=some (.builtin id))(ha:PA X (e::es) t)(hn:x≠"__name__":=by decide)(hdb:(x==("__debug__":Str))=false:=by decide)
  (he:aV (e::es) X.env=(false,bV e X.env)::aV es X.env:=by rfl) (hpl:(dL pos (aV es X.env)).any (·.1)=false:=by rfl):PE X (.Call (.Name x p) (e::es) [] pos) (tCB r t):=by
 intro Ga s σ H Q I h;refine cO (zb8 I hg hm hv ?_ hn hdb);exact PyProof.Rows.callWith_builtin1 (thn (ha pos Ga s σ H _ I h) λus s1=>x5e λvs H1 I1 r1 q1=>hc Ga s1 σ H1 vs us Q I1 r1 q1) he hpl
theorem zrl(hc:zK X (.type T) r)(hg:Gl X x)(hm:X.mg x=none)(hv:eL x=some (.type T))(ha:PA X (e::es) t)(hn:x≠"__name__":=by decide)(hdb:(x==("__debug__":Str))=false:=by decide)
  (he:aV (e::es) X.env=(false,bV e X.env)::aV es X.env:=by rfl) (hpl:(dL pos (aV es X.env)).any (·.1)=false:=by rfl):PE X (.Call (.Name x p) (e::es) [] pos) (tCB r t):=by
 intro Ga s σ H Q I h;refine cO (zb8 I hg hm hv ?_ hn hdb);exact cW (thn (ha pos Ga s σ H _ I h) λus s1=>x5e λvs H1 I1 r1 q1=>hc Ga s1 σ H1 vs us Q I1 r1 q1) he hpl
end
end L2
namespace HT
open PySem PyProof.Rows
section
open PySem.SeqAt
open PySem.AutoSeq1 (wpAny_loadPart')
open PySem.MeetsSeq PySem.MeetsSeq2 PySem.MeetsSeq3
end
section
variable {prog:aI}{w:aZ}{A:be}{E:Value->af->Prop}{s:af}
theorem cat_tup{t b:Addr}{vs ws:List Value}{Q:Value->af->Prop}(ht:iF s.heap t vs.toArray)(hb:iF s.heap b ws.toArray)(hv:vs≠[])
  (h1:ws=[]->Q (.ref t) s) (h2:ws≠[]->Q (.ref s.heap.objs.size) { s with heap:=s.heap.push { cls:=.type "tuple",data:=.seq (vs++ws).toArray } })
  (hsz:vs.length+ws.length<=sizeLine):aH (aC prog w) A (da .Add (.ref t) (.ref b)) Q E s:=by
 obtain ⟨⟨cls,dd,data,sl⟩,ho,hc,n,hd⟩:=id ht;obtain ⟨⟨cls2,dd2,data2,sl2⟩,ho2,hc2,n2,hd2⟩:=id hb;simp only at hc hd hc2 hd2;subst hc hd hc2 hd2;have e:vs.toArray++ws.toArray=(vs++ws).toArray:=by simp
 by_cases hw:ws=[]
 .exact concat_meets ⟨_,ho,rfl⟩ ⟨_,ho2,rfl⟩ noFill_tuple_add seq_tuple_add slot_tuple_add entry_tuple_add (args_tuple_add_2 _ _)
   (tuple_addW1 t b vs.toArray ws.toArray n n2 dd dd2 sl sl2 (by simpa using hv) (by simp [hw])) ⟨ho,ho2,h1 hw⟩
 .refine concat_meets ⟨_,ho,rfl⟩ ⟨_,ho2,rfl⟩ noFill_tuple_add seq_tuple_add slot_tuple_add entry_tuple_add (args_tuple_add_2 _ _)
   (tuple_addW2 t b vs.toArray ws.toArray n n2 dd dd2 sl sl2 (by simpa using hv) (by simpa using hw) (by rw [aJ,aJ];exact hsz)) ⟨ho,ho2,?_⟩
  rw [e];exact h2 hw
def sIx(n d:Nat):Option Int->Nat
 | none=>d
 | some v=>if v<0 then (v+(n:Int)).toNat else min v.toNat n
theorem zpm(n d:Nat)(hd:d<=n)(o:Option Int):sIx n d o<=n:=by
 cases o with
 | none=>exact hd
 | some v =>
  show (if v<0 then (v+(n:Int)).toNat else min v.toNat n)<=n;by_cases hv:v<0
  .rw [if_pos hv];lia
  .rw [if_neg hv];exact Nat.min_le_right _ _
theorem zlm(v:Int)(n d:Nat):(if v<0 then max (v+(n:Int)) 0 else min v (n:Int))=((sIx n d (some v):Nat):Int):=by
 show (if v<0 then max (v+(n:Int)) 0 else min v (n:Int))=(((if v<0 then (v+(n:Int)).toNat else min v.toNat n):Nat):Int);by_cases hv:v<0
 .simp only [if_pos hv];lia
 .simp only [if_neg hv];lia
theorem zsu(lo hi:Option Int)(n:Nat):aN.Slice.sliceAdjust lo hi 1 (n:Int)=(((sIx n 0 lo:Nat):Int),((sIx n n hi:Nat):Int)):=by
 have h1 : ¬ ((1:Int)<0):=by lia
 unfold aN.Slice.sliceAdjust;simp only [h1,if_false];refine Prod.ext ?_ ?_
 .cases lo with
  | none=>rfl
  | some v=>exact zlm v n 0
 .cases hi with
  | none=>rfl
  | some v=>exact zlm v n n
theorem ztB(i j:Nat):aN.Slice.slicePlaces (i:Int) (j:Int) 1=j-i:=by
 unfold aN.Slice.slicePlaces;have h1:(1:Int)>0:=by lia
 simp only [h1,if_true,Int.ediv_one];split<;>lia
theorem zkq{v:Value}{o:Option Int}{Q:Option Int->af->Prop}(p:hV v o)(h:Q o s):aH (aC prog w) A (aN.Slice.slicePartIndex v) Q E s:=by
 cases p with
 | none=>exact slicePart_none h
 | int i t=>exact slicePart_int h
theorem zk2{sl:Addr}{vl vu:Value}{lo hi:Option Int}{n:Nat}{Q:Int×Int×Nat->af->Prop}(hs:s.heap.IsSliceOf sl vl vu .none)(pl:hV vl lo)(pu:hV vu hi)
  (h:Q (((sIx n 0 lo:Nat):Int),1,sIx n n hi-sIx n 0 lo) s):aH (aC prog w) A (aN.Slice.sliceApplied (.ref sl) (pure (n:Int))) Q E s:=by
 obtain ⟨os,hos,hcs,hds⟩:=id hs;unfold aN.Slice.sliceApplied aN.Slice.sliceFields;refine aa (aa (bb hos hds (x:=vl) rfl (aa (bb hos hds (x:=vu) rfl (aa (bb hos hds (x:=.none) rfl (ar ?_)))))));refine aa (slicePart_none ?_);show aH _ _ (if ((1:Int)==0)=true then _ else _) _ _ s;rw [if_neg (by decide)];refine aa (zkq pl (aa (zkq pu (aa (ar ?_)))));show aH _ _ (match aN.Slice.sliceAdjust lo hi 1 (n:Int) with|(lo,hi)=>pure (lo,(1:Int),aN.Slice.slicePlaces lo hi 1)) _ _ s;rw [zsu lo hi n];show aH _ _ (pure (((sIx n 0 lo:Nat):Int),(1:Int),aN.Slice.slicePlaces ((sIx n 0 lo:Nat):Int) ((sIx n n hi:Nat):Int) 1)) _ _ s;rw [ztB];exact ar h
theorem zrz(xs:Array Value)(i k:Nat):((ic k).filterMap λ(m:Nat)=>xs[((i:Int)+(m:Int)*1).toNat]?).toArray=((xs.toList.drop i).take k).toArray:=by
 have e:(λ(m:Nat)=>xs[((i:Int)+(m:Int)*1).toNat]?)=λm=>xs[i+m]?:=by
  funext m;have:((i:Int)+(m:Int)*1).toNat=i+m:=by lia
  rw [this]
 rw [e];have:=pick_run xs i k;rw [List.filterMap_map] at this;have e2:((λx=>xs[x]?)∘λx=>i+x)=λm=>xs[i+m]?:=rfl;rw [e2] at this;rw [this]
theorem getItem_tuple_cut{t sl:Addr}{items:Array Value}{vl vu:Value}{lo hi:Option Int}{Q:Value->af->Prop}(ht:iF s.heap t items)(hs:s.heap.IsSliceOf sl vl vu .none)(pl:hV vl lo)(pu:hV vu hi)
  (hw : ¬ (sIx items.size 0 lo=0/\sIx items.size items.size hi=items.size))
  (h:Q (.ref s.heap.objs.size) { s with heap:=s.heap.push { cls:=.type "tuple",data:=.seq ((items.toList.drop (sIx items.size 0 lo)).take (sIx items.size items.size hi-sIx items.size 0 lo)).toArray } })
  (hsz:items.size<=sizeLine):aH (aC prog w) A (iN (.ref t) (.ref sl)) Q E s:=by
 have htake:sizeOk (.seq ((items.toList.drop (sIx items.size 0 lo)).take (sIx items.size items.size hi-sIx items.size 0 lo)).toArray):=by
  show ((items.toList.drop (sIx items.size 0 lo)).take (sIx items.size items.size hi-sIx items.size 0 lo)).toArray.size<=sizeLine;rw [aJ,bI,cF,bv];lia
 have hj:sIx items.size items.size hi<=items.size:=zpm _ _ (ae _) hi;obtain ⟨os,hos,hcs,hds⟩:=id hs;have hTs:s.TypeIs (.ref sl) "slice":=⟨os,hos,hcs⟩;unfold iN
 try with_reducible refine bE ?_
 first|refine aa (ar ?_)|skip
 refine aa (wpAny_sequenceKey ht.typeIs (by decide) ?_);refine aa (bO (name:=aj "__getitem__") ht.typeIs bW
  (cT bW ht.typeIs entry_tuple_getitem ?_ (args_tuple_getitem _ _)))
 show aH _ _ (aN.Tuple.tupleItemsOf (.ref t)>>=_) _ _ s;refine aa (tupleItemsOf_ ht ?_);refine aa (iG hTs ?_);rw [if_pos (by decide)];refine aa (zk2 hs pl pu ?_);have hno : ¬ ((((sIx items.size 0 lo:Nat):Int)==0&&(1:Int)==1&&(sIx items.size items.size hi-sIx items.size 0 lo)==items.size)=true):=by
  intro q;rw [bF,bF] at q;have q1:((sIx items.size 0 lo:Nat):Int)=0:=eq_of_beq q.1.1;have q2:sIx items.size items.size hi-sIx items.size 0 lo=items.size:=eq_of_beq q.2;exact hw ⟨by lia,by lia⟩
 show aH _ _ (if (((sIx items.size 0 lo:Nat):Int)==0&&(1:Int)==1&&(sIx items.size items.size hi-sIx items.size 0 lo)==items.size)=true then _ else _) _ _ s;rw [if_neg hno,zrz]
 first
  | exact aa (m:=aN.Tuple.tupleExact _) (cx (ar ⟨_,rfl,ar h⟩) htake)
  | exact aa (m:=aN.Tuple.tupleExact _) (cx (aa (ar (ar ⟨_,rfl,ar h⟩))) htake)
  | exact aa (aa (m:=aN.Tuple.tupleExact _) (cx (ar (ar ⟨_,rfl,ar h⟩)) htake))
  | exact aa (aa (m:=aN.Tuple.tupleExact _) (cx (ar ⟨_,rfl,ar h⟩) htake))
end
end HT
namespace L2
open PySem PySem.Spec PyProof.Rows
variable{xs:List V}{its us:List Value}{α:Type}{Ga:List (Addr×Obj)}{σ:St}{H:Hp}{s:af}{x:V}
abbrev TO:=St->Hp->(Option Int->Hp->Prop)->Prop
def PO(X:Cx)(e:Option bw)(t:TO):Prop :=
 ∀(Ga:List (Addr×Obj))(s:af)(σ:St)(H:Hp)(Q:Option Int->Hp->Prop),Inv X Ga σ H s->t σ H Q ->
  aH (aC X.prog X.w) X.A (evalPart e X.env) (λu s'=>∃o H',Inv X Ga σ H' s'/\hV u o/\Q o H') X.xe s
def zji:TO:=λ_ H Q=>Q none H
def zlZ(t:TE):TO:=λσ H Q=>t σ H λx H1=>∃i,x = .int i/\Q (some i) H1
section
variable {X:Cx}{e:bw}{te:TE}{lo hi:Option bw}{tl th:TO}{pos p2:Pos}
theorem zbO:W (PO X none zji):=by
 refine ⟨?_⟩;intro Ga s σ H Q I h;rw [evalPart_none];exact ar ⟨none,H,I,.none,h⟩
theorem zbP(h:W (PE X e te)):W (PO X (some e) (zlZ te)):=by
 refine ⟨?_⟩;have h:=h.h;intro Ga s σ H Q I hw;rw [evalPart_some];refine thn (h Ga s σ H _ I hw) λu s1=>x5e λx H1 I1 r1 q1=>?_;obtain ⟨i,rfl,q⟩:=q1;obtain ⟨t,rfl⟩:=r1;exact ⟨some i,H1,I1,.int i t,q⟩
def SlR(X:Cx)(r:V->Option Int->Option Int->Hp->VK->Prop):Prop :=
 ∀(Ga:List (Addr×Obj))(s:af)(σ:St)(H:Hp)(x:V)(v vl vu:Value)(lo hi:Option Int)(sl:Addr)(Q:VK),Inv X Ga σ H s->zm x v->s.heap.IsSliceOf sl vl vu .none->hV vl lo->hV vu hi->r x lo hi H Q ->
  ∃T id,typeLookup (.type T) "__getitem__"=pure (some (.builtin id))/\s.TypeIs v T/\aH (aC X.prog X.w) X.A (iN v (.ref sl)) (EP X Ga σ Q) X.xe s
theorem SlR.or{r r':V->Option Int->Option Int->Hp->VK->Prop}(h:SlR X r)(h':SlR X r'):SlR X (λx lo hi H Q=>r x lo hi H Q\/r' x lo hi H Q):=by
 intro Ga s σ H x v vl vu lo hi sl Q I rx hs pl pu q;rcases q with q|q
 .exact h Ga s σ H x v vl vu lo hi sl Q I rx hs pl pu q
 .exact h' Ga s σ H x v vl vu lo hi sl Q I rx hs pl pu q
def tSl(r:V->Option Int->Option Int->Hp->VK->Prop)(te:TE)(tl th:TO):TE:=λσ H Q=>te σ H λx H1=>tl σ H1 λl H2=>th σ H2 λu H3=>r x l u H3 Q
theorem zbQ{r:V->Option Int->Option Int->Hp->VK->Prop}(hr:SlR X r)(he:W (PE X e te))(hl:W (PO X lo tl))(hu:W (PO X hi th)):W (PE X (.Subscript e (.Slice lo hi none p2) pos) (tSl r te tl th)):=by
 refine ⟨?_⟩;have he:=he.h;have hl:=hl.h;have hu:=hu.h;intro Ga s σ H Q I h;refine iS (thn (he Ga s σ H _ I h) λv s1=>x5e λx H1 I1 r1 q1=>?_);refine wpAny_Slice (thn (hl Ga s1 σ H1 _ I1 q1) λvl s2=>x5e λl H2 I2 pl q2=>thn (hu Ga s2 σ H2 _ I2 q2) λvu s3=>x5e λu H3 I3 pu q3=>?_);rw [evalPart_none];refine ar ?_;have I4:Inv X Ga σ H3 { s3 with heap:=s3.heap.push { cls:=.type "slice",data:=.fields #[vl,vu,.none] } }:=I3.kept (t':=s3.toks) λb ob q=>ad _ q;obtain ⟨T,id,hT,ht,hg⟩:=hr Ga { s3 with heap:=s3.heap.push { cls:=.type "slice",data:=.fields #[vl,vu,.none] } } σ H3 x v vl vu l u s3.heap.objs.size Q I4 r1 (Heap.IsSliceOf.new ..) pl pu q3;show aH (aC X.prog X.w) X.A (subscriptTail e (.Slice lo hi none p2) v (.ref s3.heap.objs.size)) (EP X Ga σ Q) X.xe { s3 with heap:=s3.heap.push { cls:=.type "slice",data:=.fields #[vl,vu,.none] } };exact tail_any (ops:=[.ref s3.heap.objs.size,v]) ht hT hg (by with_unfolding_all rfl)
def zaw(xs:List V)(lo hi:Option Int):List V:=(xs.drop (HT.sIx xs.length 0 lo)).take (HT.sIx xs.length xs.length hi-HT.sIx xs.length 0 lo)
theorem zlG(xs:List V)(lo hi:Option Int):(zaw xs lo hi).length<=xs.length:=by
 unfold zaw;rw [bI,cF];lia
def zpU(K:ag):V->Option Int->Option Int->Hp->VK->Prop:=λx lo hi H Q=>∃a xs,x = .ref a/\SqT K H a xs /\
 ¬ (HT.sIx xs.length 0 lo=0/\HT.sIx xs.length xs.length hi=xs.length)/\∀p,H p=none->Q (.ref p) (upd H p (.tup (zaw xs lo hi)))
theorem zsZ:SlR X (zpU X.K):=by
 intro Ga s σ H x v vl vu lo hi sl Q I rx hs pl pu h;obtain ⟨a,xs,rfl,hx,hw,q⟩:=h;cases rx;obtain ⟨its,r,ht,hz⟩:=I.tuple hx;have hlen:its.toArray.size=xs.length:=by rw [aJ];exact r.length.symm
 refine ⟨"tuple",_,bW.lookup,ht.typeIs,?_⟩;refine HT.getItem_tuple_cut ht hs pl pu (by rw [hlen];exact hw) ?_ (by rw [hlen];exact hz);rw [hlen];refine ⟨.ref s.heap.objs.size,_,I.laid (t':=s.toks) (o:=.tup (zaw xs lo hi)) (λb ob q=>ad _ q) (ae _) ?_,rfl,q _ (I.hok.fresh (ae _))⟩;exact ⟨aW (zlG xs lo hi) hz,_,(r.drop (HT.sIx xs.length 0 lo)).take (HT.sIx xs.length xs.length hi-HT.sIx xs.length 0 lo),iF.new _ _⟩
def zr8(K:ag):R2:=λx y H Q=>∃a b xs ys,x = .ref a/\y = .ref b/\SqT K H a xs/\SqT K H b ys/\xs≠[]/\xs.length+ys.length<=sizeLine /\
 (ys=[]->Q (.ref a) H)/\(ys≠[]->∀p,H p=none->Q (.ref p) (upd H p (.tup (xs++ys))))
theorem zk.nil_iff(r:zk xs us):us=[]↔xs=[]:=by
 cases r with
 | nil=>simp
 | cons _ _=>simp
theorem zpz:OpR X (da .Add) (zr8 X.K):=by
 intro Ga s σ H x y v u Q I rx ry h;obtain ⟨a,b,xs,ys,rfl,rfl,ha,hb,hx,hz,q1,q2⟩:=h;cases rx;cases ry;obtain ⟨its,r1,p1,_⟩:=I.tuple ha;obtain ⟨its2,r2,p2,_⟩:=I.tuple hb;refine HT.cat_tup p1 p2 (λz=>hx (r1.nil_iff.mp z)) (λz=>⟨.ref a,H,I,rfl,q1 (r2.nil_iff.mp z)⟩) (λz=>?_) (by rw [<- r1.length,<- r2.length];exact hz);refine ⟨.ref s.heap.objs.size,_,I.laid (t':=s.toks) (o:=.tup (xs++ys)) (λb ob q=>ad _ q) (ae _) ?_,rfl,q2 (λw=>z (r2.nil_iff.mpr w)) _ (I.hok.fresh (ae _))⟩;exact ⟨by rw [aG];exact hz,_,r1.append r2,iF.new _ _⟩
end
def ixN(n:Nat)(i:Int):Option Nat:=if 0<=i then (if i<n then some i.toNat else none) else if -(n:Int)<=i then some (i+n).toNat else none
def atI(xs:List α)(i:Int):Option α:=(ixN xs.length i).bind λj=>xs[j]?
theorem zkS{n:Nat}{i:Int}{j:Nat}(h:ixN n i=some j):iq i n=some j/\j<n/\-(n:Int)<=i/\i<n:=by
 unfold ixN at h;by_cases h0:0<=i
 .rw [if_pos h0] at h;by_cases h1:i<n
  .rw [if_pos h1] at h;have e:i.toNat=j:=bK.inj h;exact ⟨by rw [seqIndex_of h0 h1,e],by lia,by lia,h1⟩
  .rw [if_neg h1] at h;cases h
 .rw [if_neg h0] at h;by_cases h1 : -(n:Int)<=i
  .rw [if_pos h1] at h;have e:(i+n).toNat=j:=bK.inj h;exact ⟨by rw [seqIndex_neg (by lia) h1,e],by lia,h1,by lia⟩
  .rw [if_neg h1] at h;cases h
theorem zfS{xs:List α}{i:Int}{v:α}(h:atI xs i=some v):∃j,iq i xs.length=some j/\xs[j]?=some v/\j<xs.length/\-(xs.length:Int)<=i/\i<xs.length:=by
 unfold atI at h;cases e:ixN xs.length i with
 | none=>rw [e] at h;cases h
 | some j =>
  rw [e] at h;obtain ⟨h1,h2,h3,h4⟩:=zkS e;exact ⟨j,h1,h,h2,h3,h4⟩
theorem za8{xs:List α}{j:Nat}{v:α}(h:xs[j]?=some v):atI xs (j:Int)=some v:=by
 have hj:j<xs.length:=(ak.mp h).1;have e:ixN xs.length (j:Int)=some j:=by
  unfold ixN;rw [if_pos (by lia),if_pos (by lia)];simp
 unfold atI;rw [e];exact h
def zmV(b:bw):Prop:=∀o i,subscripted b false o i=operate [o,i] (iN o i)
def IxR(X:Cx)(r:R2):Prop :=
 ∀(value slice:bw)(Ga:List (Addr×Obj))(s:af)(σ:St)(H:Hp)(x y:V)(v u:Value)(Q:VK),Inv X Ga σ H s->zm x v->zm y u->r x y H Q ->
  subscripted slice false v u=operate [v,u] (iN v u)->aH (aC X.prog X.w) X.A (subscriptTail value slice v u) (EP X Ga σ Q) X.xe s
def MtR(X:Cx)(id:String)(r:V->List V->Hp->VK->Prop):Prop :=
 ∀(Ga:List (Addr×Obj))(s:af)(σ:St)(H:Hp)(x:V)(xs:List V)(v:Value)(us:List Value)(Q:VK),Inv X Ga σ H s->zm x v->zk xs us->r x xs H Q ->
  aH (aC X.prog X.w) X.A (call (.builtin id) (v::us)) (EP X Ga σ Q) X.xe s
section
variable {X:Cx}{a b:bw}{ta tb:TE}{pos:Pos}
theorem IxR.or{r r':R2}(h:IxR X r)(h':IxR X r'):IxR X (λx y H Q=>r x y H Q\/r' x y H Q):=by
 intro value slice Ga s σ H x y v u Q I rx ry q hs;rcases q with q|q
 .exact h value slice Ga s σ H x y v u Q I rx ry q hs
 .exact h' value slice Ga s σ H x y v u Q I rx ry q hs
theorem zma{r:R2}(hr:IxR X r)(ha:PE X a ta)(hb:PE X b tb)(hs:zmV b):PE X (.Subscript a b pos) (tOp r ta tb):=by
 intro Ga s σ H Q I h;exact iS (zhp ha hb I h λv u s2 x y H2 I2 rx ry q=>hr a b Ga s2 σ H2 x y v u Q I2 rx ry q (hs _ _))
def zl6(K:ag):R2:=λx y H Q=>∃p xs i v,x = .ref p/\y = .int i/\SqL K H p xs/\atI xs i=some v/\Q v H
def zlo(K:ag):R2:=λx y H Q=>∃p xs i v,x = .ref p/\y = .int i/\SqT K H p xs/\atI xs i=some v/\Q v H
def ziN:R2:=λx y H Q=>∃z i c,x = .str z/\y = .int i/\z.length<=sizeLine/\atI z.cps.toList i=some c/\Q (.str ⟨#[c]⟩) H
theorem zjr:IxR X (zl6 X.K):=by
 intro value slice Ga s σ H x y v u Q I rx ry h hs;obtain ⟨p,xs,i,z,rfl,rfl,hq,he,q⟩:=h;cases rx;obtain ⟨t,rfl⟩:=ry;obtain ⟨its,r,pl,hz⟩:=I.list hq;obtain ⟨j,h1,h2,h3,h4,h5⟩:=zfS he;obtain ⟨w,ew,rw'⟩:=r.get h2;have hl:=r.length;have hn:=zc2;have fin:EP X Ga σ Q w s:=⟨z,H,I,rw',q⟩;by_cases h0:0<=i
 .have hj:i.toNat=j:=by
   rw [seqIndex_of h0 h5] at h1;exact bK.inj h1
  exact item_listR pl.isList h0 (by lia) (by rw [hj];simpa using ew) fin hs
 .have hj:(i+(its.toArray.size:Int)).toNat=j:=by
   rw [seqIndex_neg (by lia) h4] at h1;rw [aJ,<- hl];exact bK.inj h1
  exact eI (x:=w) pl.isList.typeIs h9.lookup
   (wpAny_getItem_list_neg (Q:=λr s'=>r=w/\EP X Ga σ Q r s') pl.isList (by lia) (by rw [aJ]<;>lia) (by lia) (by rw [hj];simpa using ew) ⟨rfl,fin⟩) hs
theorem zu3:IxR X (zlo X.K):=by
 intro value slice Ga s σ H x y v u Q I rx ry h hs;obtain ⟨p,xs,i,z,rfl,rfl,hq,he,q⟩:=h;cases rx;obtain ⟨t,rfl⟩:=ry;obtain ⟨its,r,pl,hz⟩:=I.tuple hq;obtain ⟨j,h1,h2,h3,h4,h5⟩:=zfS he;obtain ⟨w,ew,rw'⟩:=r.get h2;have hl:=r.length;have hn:=zc2;have fin:EP X Ga σ Q w s:=⟨z,H,I,rw',q⟩;exact eI (x:=w) pl.typeIs g6.lookup
  (getItem_tuple (j:=j) (Q:=λr s'=>r=w/\EP X Ga σ Q r s') pl (by lia) (by lia) (by rw [aJ,<- hl];exact h1) (by simpa using ew) ⟨rfl,fin⟩) hs
theorem zsU:IxR X ziN:=by
 intro value slice Ga s σ H x y v u Q I rx ry h hs;obtain ⟨z,i,c,rfl,rfl,hz,he,q⟩:=h;obtain ⟨t,rfl⟩:=rx;obtain ⟨t',rfl⟩:=ry;obtain ⟨j,h1,h2,h3,h4,h5⟩:=zfS he;have hl:z.cps.toList.length=z.length:=by simp [Str.length]
 rw [hl] at h1 h4 h5;have hn:=zc2;exact tail_any (fZ s z t) slot_str_getitem.lookup (getItem_str (c:=c) (by
  have e1:decide (i < -(2 ^ 63:Int))=false:=decide_eq_false (by lia);have e2:decide (i ≥ 2 ^ 63)=false:=decide_eq_false (by lia);rw [e1,e2,fC]) (by rw [h1];simpa using h2) ⟨.str ⟨#[c]⟩,H,I.tok _,⟨_,rfl⟩,q⟩) hs
def rIx(K:ag):R2:=λx y H Q=>zl6 K x y H Q\/zlo K x y H Q\/ziN x y H Q
theorem zm5:IxR X (rIx X.K):=zjr.or (zu3.or zsU)
theorem zvR(its:List Value)(n j:Nat)(u:Value):fz (·.setIfInBounds j u) { cls:=.type "list",data:=.seq its.toArray n }={ cls:=.type "list",data:=.seq (its.set j u).toArray n }:=by
 simp [fz]
theorem Inv.lst{p:Addr}(I:Inv X Ga σ H s)(h:H p=some (.lst xs)) :
  ∃(its:List Value)(n:Nat),zk xs its/\s.heap.get? p=some { cls:=.type "list",data:=.seq its.toArray n }/\xs.length<=sizeLine:=by
 obtain ⟨z,its,n,r,e⟩:=I.hok p _ h;exact ⟨its,n,r,e,z⟩
theorem Inv.lstUpd{p:Addr}{ys:List V}{its':List Value}{n n':Nat}{f:Obj->Obj}(I:Inv X Ga σ H s)(h:H p=some (.lst xs))
  (ho:s.heap.get? p=some { cls:=.type "list",data:=.seq its.toArray n }) (hf:f { cls:=.type "list",data:=.seq its.toArray n }={ cls:=.type "list",data:=.seq its'.toArray n' }) (r:zk ys its') (hz:ys.length<=sizeLine) (t:Nat) :
  Inv X Ga σ (upd H p (.lst ys)) { s with heap:=s.heap.update p f,toks:=t }:=by
 have e:(s.heap.update p f).get? p=some { cls:=.type "list",data:=.seq its'.toArray n' }:=by
  rw [de f ho (by rw [hf]<;>rfl),hf]
 refine I.write (x:=p) (e:=p) (by rw [h];trivial) (.inl rfl) (λb u hb q=>(br _ _ (aU hb)).trans q) ⟨_,e⟩ ?_;exact ⟨hz,its',n',r,e⟩
def zh4:V->V->V->Hp->(Hp->Prop)->Prop:=λo i v H Q=>∃p xs k j,o = .ref p/\i = .int k/\H p=some (.lst xs)/\ixN xs.length k=some j/\Q (upd H p (.lst (xs.set j v)))
theorem zdM:zhM X zh4:=by
 intro Ga s σ H o i v ov iv u Q I ro ri rv h;obtain ⟨p,xs,k,j,rfl,rfl,hp,hj,q⟩:=h;cases ro;obtain ⟨t,rfl⟩:=ri;obtain ⟨its,n,r,ho,hz⟩:=I.lst hp;obtain ⟨h1,h2,h3,h4⟩:=zkS hj;have hl:=r.length;have hn:=zc2;have I':Inv X Ga σ (upd H p (.lst (xs.set j v))) { s with heap:=s.heap.update p (fz (·.setIfInBounds j u)) } :=
  I.lstUpd hp ho (zvR its n j u) (r.set rv j) (by rw [cu];exact hz) s.toks
 by_cases h0:0<=k
 .have hk:k.toNat=j:=by
   rw [seqIndex_of h0 h4] at h1;exact bK.inj h1
  exact PySem.W.ki_setAt ho h0 (by lia) (by rw [aJ,<- hl];exact h4) (by rw [hk];exact ⟨_,I',q⟩)
 .have hk:(k+(its.toArray.size:Int)).toNat=j:=by
   rw [seqIndex_neg (by lia) h3] at h1;rw [aJ,<- hl];exact bK.inj h1
  exact PySem.W.ki_setBack ho (by lia) (by rw [aJ,<- hl];exact h3) (by lia) (by rw [hk];exact ⟨_,I',q⟩)
theorem zvu(lo hi:Option Int)(n:Nat):(fN lo hi none n).1=((HT.sIx n 0 lo:Nat):Int)/\(fN lo hi none n).2.1=((HT.sIx n n hi:Nat):Int)/\(fN lo hi none n).2.2=1:=by
 refine ⟨?_,?_,rfl⟩
 .cases lo with
  | none=>simp [fN,HT.sIx]
  | some i =>
   simp only [fN,HT.sIx,getD_none,show (1:Int)>0 by decide,if_true];by_cases h:i<0
   .simp only [h,if_true]<;>lia
   .simp only [h,if_false]<;>lia
 .cases hi with
  | none=>simp [fN,HT.sIx]
  | some i =>
   simp only [fN,HT.sIx,getD_none,show (1:Int)>0 by decide,if_true];by_cases h:i<0
   .simp only [h,if_true]<;>lia
   .simp only [h,if_false]<;>lia
theorem zs6(its:List Value)(lo hi:Option Int):slicePick its.toArray lo hi none=((its.drop (HT.sIx its.length 0 lo)).take (HT.sIx its.length its.length hi-HT.sIx its.length 0 lo)).toArray:=by
 obtain ⟨h1,h2,h3⟩:=zvu lo hi its.toArray.size;unfold slicePick;rw [h1,h2,h3];simp only [sliceRange_one,pick_run,aJ]<;>rfl
def zuC(K:ag):V->Option Int->Option Int->Hp->VK->Prop:=λx lo hi H Q=>∃a xs,x = .ref a/\SqL K H a xs/\∀p,H p=none->Q (.ref p) (upd H p (.lst (zaw xs lo hi)))
theorem zp1:SlR X (zuC X.K):=by
 intro Ga s σ H x v vl vu lo hi sl Q I rx hs pl pu h;obtain ⟨a,xs,rfl,hx,q⟩:=h;cases rx;obtain ⟨its,r,ht,hz⟩:=I.list hx;have hlen:=r.length;refine ⟨"list",_,h9.lookup,ht.isList.typeIs,?_⟩;refine wpAny_getItem_list_slice ht.isList hs pl pu .none (by simp) ?_ (by rw [aJ]<;>lia);rw [zs6,<- hlen];refine ⟨.ref s.heap.objs.size,_,I.laid (t':=s.toks) (o:=.lst (zaw xs lo hi)) (λb ob q=>ad _ q) (ae _) ?_,rfl,q _ (I.hok.fresh (ae _))⟩;exact ⟨aW (zlG xs lo hi) hz,_,0,(r.drop (HT.sIx xs.length 0 lo)).take (HT.sIx xs.length xs.length hi-HT.sIx xs.length 0 lo),aO _ rfl⟩
def zL:V->Bool
 | .non=>true
 | .bl _=>true
 | .int _=>true
 | .str _=>true
 | _=>false
def eqV:V->V->Bool
 | .non,.non=>true
 | .bl a,.bl b=>a==b
 | .bl a,.int b=>(if a then 1 else 0)==b
 | .int a,.bl b=>a==(if b then 1 else 0)
 | .int a,.int b=>a==b
 | .str a,.str b=>a==b
 | _,_=>false
theorem zgv{A:be}{y:V}{u v:Value}(ry:zm y u)(rx:zm x v)(fy:zL y=true)(fx:zL x=true):SeqAt.EqAt A s u v (eqV y x):=by
 cases y with
 | non =>
  cases ry;cases x with
  | non=>cases rx;exact SeqAt.EqAt.same _
  | bl b=>cases rx;exact SeqAt.EqAt.none_bool b
  | int b=>obtain ⟨t,rfl⟩:=rx;exact SeqAt.EqAt.none_int b t
  | str b=>obtain ⟨t,rfl⟩:=rx;exact SeqAt.EqAt.none_str b t
  | _=>exact absurd (show false=true from fx) aw
 | bl a =>
  cases ry;cases x with
  | non=>cases rx;exact SeqAt.EqAt.bool_none a
  | bl b=>cases rx;exact SeqAt.EqAt.bool_bool a b
  | int b=>obtain ⟨t,rfl⟩:=rx;exact SeqAt.EqAt.bool_int a b t
  | str b=>obtain ⟨t,rfl⟩:=rx;exact SeqAt.EqAt.bool_str a b t
  | _=>exact absurd (show false=true from fx) aw
 | int a =>
  obtain ⟨t',rfl⟩:=ry;cases x with
  | non=>cases rx;exact SeqAt.EqAt.int_none a t'
  | bl b=>cases rx;exact SeqAt.EqAt.int_bool a t' b
  | int b=>obtain ⟨t,rfl⟩:=rx;exact SeqAt.EqAt.int_int a t' b t
  | str b=>obtain ⟨t,rfl⟩:=rx;exact SeqAt.EqAt.int_str a t' b t
  | _=>exact absurd (show false=true from fx) aw
 | str a =>
  obtain ⟨t',rfl⟩:=ry;cases x with
  | non=>cases rx;exact SeqAt.EqAt.str_none a t'
  | bl b=>cases rx;exact SeqAt.EqAt.str_bool a t' b
  | int b=>obtain ⟨t,rfl⟩:=rx;exact SeqAt.EqAt.str_int a t' b t
  | str b=>obtain ⟨t,rfl⟩:=rx;exact SeqAt.EqAt.str_str a t' b t
  | _=>exact absurd (show false=true from fx) aw
 | _=>exact absurd (show false=true from fy) aw
def eqU(x:V)(u:Value):Bool:=match u with
 | .none=>eqV .non x
 | .bool b=>eqV (.bl b) x
 | .int i _=>eqV (.int i) x
 | .str z _=>eqV (.str z) x
 | _=>false
theorem zlT{y:V}{u:Value}(r:zm y u)(f:zL y=true):eqU x u=eqV y x:=by
 cases y with
 | non=>cases r;rfl
 | bl b=>cases r;rfl
 | int i=>obtain ⟨t,rfl⟩:=r;rfl
 | str z=>obtain ⟨t,rfl⟩:=r;rfl
 | _=>exact absurd (show false=true from f) aw
theorem zev(h:zk xs us)(f:xs.all zL=true):us.any (eqU x)=xs.any λy=>eqV y x:=by
 induction h with
 | nil=>rfl
 | cons r t ih =>
  rw [List.all_cons,bF] at f;rw [hU,hU,zlT r f.1,ih f.2]
theorem zeb{A:be}{s:af}{x:V}{v:Value}(rx:zm x v)(fx:zL x=true):∀{xs:List V}{us:List Value},zk xs us->xs.all zL=true->∀u∈us,SeqAt.EqAt A s u v (eqU x u)
 | _,_,.nil,_=>λu hu=>by cases hu
 | y::xs,u::us,.cons r t,f=>λu' hu=>by
  rw [List.all_cons,bF] at f;rcases au.mp hu with rfl|hu
  .rw [zlT r f.1];exact zgv r rx f.1 fx
  .exact zeb rx fx t f.2 u' hu
def inV(x:V)(xs:List V):Bool:=xs.any λy=>eqV y x
def rIn(K:ag)(neg:Bool):R2:=λx y H Q=>∃p xs,y = .ref p/\(SqL K H p xs\/SqT K H p xs)/\zL x=true/\xs.all zL=true/\Q (.bl (if neg then !inV x xs else inV x xs)) H
theorem zm3:OpR X (bG .In) (rIn X.K false):=by
 intro Ga s σ H x y v u Q I rx ry h;obtain ⟨p,xs,rfl,hq,fx,fs,q⟩:=h;cases ry;rcases hq with hq|hq
 .obtain ⟨its,r,pl,hz⟩:=I.list hq;refine SeqAt.in_listAt (eqU x) pl.isList (λw hw=>zeb rx fx r fs w (by simpa using hw)) ⟨.bl _,H,I,rfl,?_⟩;rw [show its.toArray.any (eqU x)=its.any (eqU x) by simp,zev r fs];exact q
 .obtain ⟨its,r,pl,hz⟩:=I.tuple hq;refine SeqAt.in_tupleAt (eqU x) pl (λw hw=>zeb rx fx r fs w (by simpa using hw)) ⟨.bl _,H,I,rfl,?_⟩;rw [show its.toArray.any (eqU x)=its.any (eqU x) by simp,zev r fs];exact q
theorem zqL:OpR X (bG .NotIn) (rIn X.K true):=by
 intro Ga s σ H x y v u Q I rx ry h;obtain ⟨p,xs,rfl,hq,fx,fs,q⟩:=h;cases ry;rcases hq with hq|hq
 .obtain ⟨its,r,pl,hz⟩:=I.list hq;refine SeqAt.notIn_listAt (eqU x) pl.isList (λw hw=>zeb rx fx r fs w (by simpa using hw)) ⟨.bl _,H,I,rfl,?_⟩;rw [show its.toArray.any (eqU x)=its.any (eqU x) by simp,zev r fs];exact q
 .obtain ⟨its,r,pl,hz⟩:=I.tuple hq;refine SeqAt.notIn_tupleAt (eqU x) pl (λw hw=>zeb rx fx r fs w (by simpa using hw)) ⟨.bl _,H,I,rfl,?_⟩;rw [show its.toArray.any (eqU x)=its.any (eqU x) by simp,zev r fs];exact q
theorem zh1:zK X (.builtin "len") (λxs H Q=>∃p ys,xs=[.ref p]/\(SqL X.K H p ys\/SqT X.K H p ys)/\Q (.int ys.length) H):=by
 intro Ga s σ H xs us Q I r h;obtain ⟨p,ys,rfl,hq,q⟩:=h;obtain ⟨u,rfl,rx⟩:=zby r;cases rx;have hn:=zc2;rcases hq with hq|hq
 .obtain ⟨its,r',pl,hz⟩:=I.list hq;have hlen:=r'.length;exact Calls.call_len_list pl.isList (by simp only [aJ]<;>lia) ⟨.int ys.length,H,I.tok _,⟨s.toks+1,by rw [aJ,hlen]⟩,q⟩
 .obtain ⟨its,r',pl,hz⟩:=I.tuple hq;have hlen:=r'.length;exact len_tuple pl (by simp only [aJ]<;>lia) ⟨.int ys.length,H,I.tok _,⟨s.toks+1,by rw [aJ,hlen]⟩,q⟩
theorem zpy:zK X (.builtin "len") (λxs H Q=>∃z,xs=[.str z]/\z.length<=sizeLine/\Q (.int z.length) H):=by
 intro Ga s σ H xs us Q I r h;obtain ⟨z,rfl,hz,q⟩:=h;obtain ⟨u,rfl,t,rfl⟩:=zby r;have hn:=zc2;exact len_str (by lia) ⟨.int z.length,H,I.tok _,⟨_,rfl⟩,q⟩
theorem zK.or{f:Value}{r r':List V->Hp->VK->Prop}(h:zK X f r)(h':zK X f r'):zK X f (λxs H Q=>r xs H Q\/r' xs H Q):=by
 intro Ga s σ H xs us Q I rs q;rcases q with q|q
 .exact h Ga s σ H xs us Q I rs q
 .exact h' Ga s σ H xs us Q I rs q
theorem zqT:zK X (.type "list") (λxs H Q=>∃p ys,xs=[.ref p]/\(SqL X.K H p ys\/SqT X.K H p ys)/\∀l,H l=none->Q (.ref l) (upd H l (.lst ys))):=by
 intro Ga s σ H xs us Q I r h;obtain ⟨p,ys,rfl,hq,q⟩:=h;obtain ⟨u,rfl,rx⟩:=zby r;cases rx;have fin:∀(its:List Value),zk ys its->ys.length<=sizeLine->∀(h':Heap)(c':Nat),(∀b o',s.heap.get? b=some o'->h'.get? b=some o') ->
   h'.get? s.heap.objs.size=some { cls:=.type "list",dict:=none,data:=.seq its.toArray c',slots:=#[] }->EP X Ga σ Q (.ref s.heap.objs.size) { s with heap:=h' }:=λits r' hz h' c' kp e =>
  ⟨.ref s.heap.objs.size,_,I.laid (t':=s.toks) kp (ae _) (show zT X.prog X.w _ h' _ (.lst ys) from ⟨hz,its,c',r',e⟩),rfl,q _ (I.hok.fresh (ae _))⟩
 rcases hq with hq|hq
 .obtain ⟨its,r',pl,hz⟩:=I.list hq;have hlen:=r'.length;obtain ⟨o,ho,hc,n,hd⟩:=pl.isList;exact call_list_seq p (.inl rfl) ho hc hd (λh' c' kp e=>fin its r' hz h' c' kp e) (by simp only [aJ]<;>lia)
 .obtain ⟨its,r',pl,hz⟩:=I.tuple hq;have hlen:=r'.length;obtain ⟨o,ho,hc,n,hd⟩:=pl;exact call_list_seq p (.inr rfl) ho hc hd (λh' c' kp e=>fin its r' hz h' c' kp e) (by simp only [aJ]<;>lia)
theorem znn:zK X (.type "tuple") (λxs H Q=>∃p ys,xs=[.ref p]/\((SqL X.K H p ys/\∀l,H l=none->Q (.ref l) (upd H l (.tup ys)))\/(SqT X.K H p ys/\Q (.ref p) H))):=by
 intro Ga s σ H xs us Q I r h;obtain ⟨p,ys,rfl,h⟩:=h;obtain ⟨u,rfl,rx⟩:=zby r;cases rx;rcases h with ⟨hq,q⟩|⟨hq,q⟩
 .obtain ⟨its,r',pl,hz⟩:=I.list hq;have hlen:=r'.length;refine call_tuple_list pl.isList (λh' kp=>?_) (by simp only [aJ]<;>lia);have I1:Inv X Ga σ H { s with heap:=h' }:=I.kept (t':=s.toks) kp;have I2:Inv X Ga σ (upd H h'.objs.size (.tup ys)) { s with heap:=h'.push { cls:=.type "tuple",data:=.seq its.toArray } } :=
   I1.laid (t':=s.toks) (λb o e=>ad _ e) (ae _) (show zT X.prog X.w _ _ _ (.tup ys) from ⟨hz,its,r',iF.new _ _⟩)
  exact ⟨.ref h'.objs.size,_,I2,rfl,q _ (I1.hok.fresh (ae _))⟩
 .obtain ⟨its,r',pl,hz⟩:=I.tuple hq;exact call_tuple_same pl ⟨.ref p,H,I,rfl,q⟩
def tyV(K:ag)(T:String)(x:V)(H:Hp):Prop:=match x with
 | .str _=>T="str"
 | .int _=>T="int"
 | .ref p=>(T="list"/\∃xs,SqL K H p xs)\/(T="tuple"/\∃o,K.lookup p=some o/\o.cls = .type "tuple"/\o.dict=none) \/
   (T="dict"/\((∃kvs,H p=some (.dK kvs))\/∃kvs,H p=some (.dT kvs)))\/(T="set"/\∃S n,H p=some (.set S n))
 | _=>False
theorem zdm{T:String}{v:Value}(I:Inv X Ga σ H s)(r:zm x v)(ty:tyV X.K T x H) :
  s.TypeIs v T/\∀a,v = .ref a->∃ob,s.heap.get? a=some ob/\ob.dict=none:=by
 cases x with
 | str z =>
  obtain ⟨t,rfl⟩:=r;cases (show T="str" from ty);exact ⟨fZ s z t,λ_ e=>nomatch e⟩
 | int i =>
  obtain ⟨t,rfl⟩:=r;cases (show T="int" from ty);exact ⟨typeIs_int s i t,λ_ e=>nomatch e⟩
 | ref p =>
  cases r;rcases ty with ⟨rfl,xs,hq⟩|⟨rfl,o,hk,hc,hd⟩|⟨rfl,hk⟩|⟨rfl,S,n,hk⟩
  .obtain ⟨its,_,pl,_⟩:=I.list hq;refine ⟨pl.isList.typeIs,λa e=>?_⟩;cases e;obtain ⟨o,n,e,c,hd,_⟩:=pl;exact ⟨o,e,hd⟩
  .refine ⟨⟨o,I.kIn p o hk,hc⟩,λa e=>?_⟩;cases e;exact ⟨o,I.kIn _ o hk,hd⟩
  .have z:∃o,s.heap.get? p=some o/\o.ExactDict:=by
    rcases hk with ⟨kvs,hk⟩|⟨kvs,hk⟩
    .obtain ⟨_,_,_,_,o,_,_,e,ex,_⟩:=I.hok p _ hk;exact ⟨o,e,ex⟩
    .obtain ⟨_,_,_,_,o,_,_,e,ex,_⟩:=I.hok p _ hk;exact ⟨o,e,ex⟩
   obtain ⟨o,e,ex⟩:=z;refine ⟨⟨o,e,ex.1⟩,λa e2=>?_⟩;cases e2;exact ⟨o,e,ex.2.1⟩
  .obtain ⟨o,_,_,_,e,ex,_⟩:=I.hok p _ hk;refine ⟨⟨o,e,ex.1⟩,λa e2=>?_⟩;cases e2;exact ⟨o,e,ex.2.1⟩
 | _=>exact False.elim ty
variable {o e:bw}{es:List bw}{to:TE}{t:TA}{name:Str}{apos cpos:Pos}{T id:String}{r:V->List V->Hp->VK->Prop}
end
def MtM(X:Cx)(id:String)(r:V->List V->Hp->VK->Prop):Prop :=
 ∀(Ga:List (Addr×Obj))(s:af)(σ:St)(H:Hp)(x:V)(xs:List V)(v:Value)(us:List Value)(Q:VK),Inv X Ga σ H s->zm x v->zk xs us->r x xs H Q ->
  aH (aC X.prog X.w) X.A (call (.builtin id) (v::us)) (EP X Ga σ Q) X.xe s
theorem zsH{β:Type}{F:α->β->Prop}{x:α}{xs:List α}{us:List β}(h:Paired F (x::xs) us):∃u ws,us=u::ws/\F x u/\Paired F xs ws:=by
 cases h with
 | cons r t=>exact ⟨_,_,rfl,r,t⟩
theorem zmI{β:Type}{F:α->β->Prop}{us:List β}(h:Paired F [] us):us=[]:=by cases h;rfl
theorem zk.one(h:zk [x] us):∃u,us=[u]/\zm x u:=by
 obtain ⟨u,ws,rfl,r,t⟩:=zsH h;cases zmI t;exact ⟨_,rfl,r⟩
def za6(k:V->Prop):List V->Prop
 | [y]=>k y
 | _=>False
theorem za6.ex{k:V->Prop}{vs:List V}(h:za6 k vs):∃y,vs=[y]/\k y:=by
 cases vs with
 | nil=>exact h.elim
 | cons y t =>
  cases t with
  | nil=>exact ⟨y,rfl,h⟩
  | cons _ _=>exact h.elim
theorem zk.zero(h:zk [] us):us=[]:=zmI h
theorem zk.eraseIdx:∀{xs:List V}{us:List Value}(i:Nat),zk xs us->zk (xs.eraseIdx i) (us.eraseIdx i)
 | _,_,_,.nil=>.nil
 | _,_,0,.cons _ t=>t
 | _,_,i+1,.cons r t=>.cons r (zk.eraseIdx i t)
theorem zk.reverse(h:zk xs us):zk xs.reverse us.reverse:=by
 induction h with
 | nil=>exact .nil
 | cons r t ih=>rw [iI,iI];exact zk.append ih (.cons r .nil)
theorem zk.rep{xs:List V}{us:List Value}(h:zk xs us):∀k:Nat,zk (bi k xs).flatten (bi k us).flatten
 | 0=>.nil
 | k+1=>by
  rw [dq,dq,cN,cN];exact zk.append h (zk.rep h k)
theorem zk4{α:Type}:∀(l:List α)(i:Nat),(l.eraseIdx i).length<=l.length
 | [],_=>ae _
 | _::_,0=>le_succ _
 | _::r,i+1=>Nat.succ_le_succ (zk4 r i)
theorem zmC(its:List Value):∀(k:Nat)(acc:List Value),
  foldl (λx1 x2=>x1++x2) acc.toArray (bi k its.toArray)=(acc++(bi k its).flatten).toArray
 | 0,acc=>by simp
 | k+1,acc=>by
  have e:acc.toArray++its.toArray=(acc++its).toArray:=by simp
  have e2:(acc++its)++(bi k its).flatten=acc++(bi (k+1) its).flatten:=by
   rw [dq,cN,aY]
  rw [<- e2,<- zmC its k (acc++its),<- e,dq,hJ]
section
variable {X:Cx}{Ga:List (Addr×Obj)}{σ:St}{H:Hp}{s:af}{l b:Addr}{xs ys zs:List V}
theorem Inv.lset{its':List Value}{n:Nat}{f:Array Value->Array Value}{t':Nat}(I:Inv X Ga σ H s)(hH:H l=some (.lst xs))
  (e:s.heap.get? l=some { cls:=.type "list",data:=.seq its.toArray n }) (hf:f its.toArray=its'.toArray) (hv:zk ys its') (hz:ys.length<=sizeLine) :
  Inv X Ga σ (upd H l (.lst ys)) { s with heap:=s.heap.update l (fz f),toks:=t' }:=by
 have q:=PySem.IsL.update e f;rw [hf] at q;refine I.write (x:=l) (e:=l) (by rw [hH];exact trivial) (.inl rfl) (λb' u hb hu=>(br s.heap (fz f) (aU hb)).trans hu) ⟨_,q⟩ ?_;exact ⟨hz,its',_,hv,q⟩
theorem Inv.lnew{t':Nat}(I:Inv X Ga σ H s)(hv:zk ys its)(hz:ys.length<=sizeLine) :
  Inv X Ga σ (upd H s.heap.objs.size (.lst ys)) { s with heap:=s.heap.push { cls:=.type "list",data:=.seq its.toArray },toks:=t' } :=
 I.laid (λ_ _ q=>ad _ q) (ae _) ⟨hz,its,0,hv,aO _ rfl⟩
theorem Inv.fresh(I:Inv X Ga σ H s):H s.heap.objs.size=none:=I.hok.fresh (ae _)
theorem Inv.lstM(I:Inv X Ga σ H s)(hH:H l=some (.lst xs)):xs.length<=sizeLine/\∃(its:List Value)(n:Nat),zk xs its/\xs.length=its.length/\s.heap.get? l=some { cls:=.type "list",data:=.seq its.toArray n }:=by
 obtain ⟨z,its,n,r,e⟩:=I.hok l _ hH;exact ⟨z,its,n,r,r.length,e⟩
theorem zk9{n:Nat}(h:n<=sizeLine):aN.List.listTooLong n=false:=by
 unfold aN.List.listTooLong;exact decide_eq_false (by lia)
end
section
variable {X:Cx}
def zpC:V->List V->Hp->VK->Prop:=λx vs H Q=>∃l xs y,x = .ref l/\vs=[y]/\H l=some (.lst xs)/\xs.length<sizeLine/\Q .non (upd H l (.lst (xs++[y])))
theorem zuV:MtM X "list.append" zpC:=by
 intro Ga s σ H x vs v us Q I rx rv h;obtain ⟨l,xs,y,rfl,rfl,hH,hz,q⟩:=h;cases rx;obtain ⟨u,rfl,ru⟩:=rv.one;obtain ⟨z,its,n,r,hl,e⟩:=I.lstM hH;refine eK F.slot_list_append ⟨_,e,rfl⟩ F.entry_list_append (F.args_list_append_2 _ _) (PySem.list_append l its.toArray n u (by rw [aJ];lia)) ⟨e,?_⟩;refine ⟨.non,_,I.lset (its':=its++[u]) hH e (by simp) (r.append (.cons ru .nil)) ?_,rfl,q⟩;rw [aG,List.length_singleton];lia
def znv:V->List V->Hp->VK->Prop:=λx vs H Q=>∃l b xs zs,x = .ref l/\vs=[.ref b]/\H l=some (.lst xs)/\H b=some (.lst zs)/\xs.length+zs.length<=sizeLine/\Q .non (upd H l (.lst (xs++zs)))
theorem zuy:MtM X "list.extend" znv:=by
 intro Ga s σ H x vs v us Q I rx rv h;obtain ⟨l,b,xs,zs,rfl,rfl,hH,hB,hz,q⟩:=h;cases rx;obtain ⟨u,rfl,ru⟩:=rv.one;cases ru;obtain ⟨z,its,n,r,hl,e⟩:=I.lstM hH;obtain ⟨z2,its2,n2,r2,hl2,e2⟩:=I.lstM hB;have hsz:its.toArray.size+its2.toArray.size<=sizeLine:=by rw [aJ,aJ];lia
 have hlong : ¬ (!its.toArray.isEmpty&&aN.List.listTooLong (its.toArray.size+its2.toArray.size))=true:=by
  rw [zk9 hsz,Bool.and_false];exact aw
 refine eK F.slot_list_extend ⟨_,e,rfl⟩ F.entry_list_extend (F.args_list_extend_2 _ _)
  (AutoSeq1.list_extend_list_list_0 l its.toArray n b its2.toArray n2 hlong (by rw [aJ];lia) (by lia)) ⟨e,e2,?_⟩
 refine ⟨.non,_,I.lset (its':=its++its2) hH e (by simp) (r.append r2) ?_,rfl,q⟩;rw [aG];lia
def zuF:V->List V->Hp->VK->Prop:=λx vs H Q=>∃l xs i k y,x = .ref l/\vs=[.int i]/\H l=some (.lst xs)/\-(2 ^ 63)<=i/\i<2 ^ 63/\iq i xs.length=some k/\xs[k]?=some y/\Q y (upd H l (.lst (xs.eraseIdx k)))
theorem zti:MtM X "list.pop" zuF:=by
 intro Ga s σ H x vs v us Q I rx rv h;obtain ⟨l,xs,i,k,y,rfl,rfl,hH,h1,h2,hk,hy,q⟩:=h;cases rx;obtain ⟨u,rfl,ru⟩:=rv.one;obtain ⟨t,rfl⟩:=ru;obtain ⟨z,its,n,r,hl,e⟩:=I.lstM hH;obtain ⟨w,hw,rw'⟩:=r.get hy;refine eK F.slot_list_pop ⟨_,e,rfl⟩ F.entry_list_pop (F.args_list_pop_2 _ _)
  (MeetsSeq.list_pop_at l its.toArray n i t k w (fitsIndex_both h1 h2) (by rw [aJ,<- hl];exact hk) (by rw [<- bT];exact hw) (by rw [aJ];lia)) ⟨e,?_⟩
 refine ⟨y,_,I.lset (its':=its.eraseIdx k) hH e ?_ (r.eraseIdx k) ?_,rw',q⟩
 .show its.toArray.eraseIdxIfInBounds k=(its.eraseIdx k).toArray;rw [List.eraseIdxIfInBounds_toArray]
 .have:=zk4 xs k;lia
def zu9:V->List V->Hp->VK->Prop:=λx vs H Q=>∃l xs,x = .ref l/\vs=[]/\H l=some (.lst xs)/\Q .non (upd H l (.lst []))
theorem zng:MtM X "list.clear" zu9:=by
 intro Ga s σ H x vs v us Q I rx rv h;obtain ⟨l,xs,rfl,rfl,hH,q⟩:=h;cases rx;have hus:=rv.zero;subst hus;obtain ⟨z,its,n,r,hl,e⟩:=I.lstM hH;refine eK F.slot_list_clear ⟨_,e,rfl⟩ F.entry_list_clear (F.args_list_clear_1 _) (AutoSeq1.list_clear_list_0 l its.toArray n (by rw [aJ];lia)) ⟨e,?_⟩;exact ⟨.non,_,I.lset (its':=[]) (ys:=[]) hH e rfl .nil (cf _),rfl,q⟩
def znI:R2:=λx y H Q=>∃l b xs zs,x = .ref l/\y = .ref b/\H l=some (.lst xs)/\H b=some (.lst zs)/\xs.length+zs.length<=sizeLine/\∀p,H p=none->Q (.ref p) (upd H p (.lst (xs++zs)))
theorem zoQ:OpR X (da .Add) znI:=by
 intro Ga s σ H x y v u Q I rx ry h;obtain ⟨l,b,xs,zs,rfl,rfl,hH,hB,hz,q⟩:=h;cases rx;cases ry;obtain ⟨z,its,n,r,hl,e⟩:=I.lstM hH;obtain ⟨z2,its2,n2,r2,hl2,e2⟩:=I.lstM hB;refine PySem.P.add_list e e2 ?_ (by rw [aJ,aJ];lia);have ea:its.toArray++its2.toArray=(its++its2).toArray:=by simp
 rw [ea];exact ⟨.ref _,_,I.lnew (t':=s.toks) (r.append r2) (by rw [aG];lia),rfl,q _ I.fresh⟩
def zp5:R2:=λx y H Q=>∃l k xs,x = .ref l/\y = .int k/\H l=some (.lst xs)/\-(2 ^ 63)<=k/\k<2 ^ 63/\xs.length*k.toNat<=sizeLine /\
 ∀p,H p=none->Q (.ref p) (upd H p (.lst (bi k.toNat xs).flatten))
theorem zon(xs:List α)(k:Nat):(bi k xs).flatten.length=k*xs.length:=by
 induction k with
 | zero=>simp
 | succ k ih=>rw [dq,cN,aG,ih,Nat.succ_mul,Nat.add_comm]
theorem zsv:OpR X (da .Mult) zp5:=by
 intro Ga s σ H x y v u Q I rx ry h;obtain ⟨l,k,xs,rfl,rfl,hH,h1,h2,hz,q⟩:=h;cases rx;obtain ⟨t,rfl⟩:=ry;obtain ⟨z,its,n,r,hl,e⟩:=I.lstM hH;have hlen:its.toArray.size*k.toNat<=sizeLine:=by rw [aJ,<- hl];exact hz
 have hcap : ¬ its.toArray.size*k.toNat>(2 ^ 63-1) / 8:=by
  have:(sizeLine:Nat)<=(2 ^ 63-1) / 8:=by decide
  lia
 have hfit : ¬ (!Builtin.List.listFitsIndex k)=true:=by
  rw [fitsIndex_both h1 h2];exact aw
 have hlong : ¬ aN.List.listTooLong (its.toArray.size*k.toNat)=true:=by
  rw [zk9 hlen];exact aw
 have hnew:foldl (λx1 x2=>x1++x2) #[] (bi (if its.toArray.isEmpty=true then 0 else k.toNat) its.toArray)=(bi k.toNat its).flatten.toArray:=by
  have f0:∀m:Nat,foldl (λx1 x2=>x1++x2) #[] (bi m its.toArray)=(bi m its).flatten.toArray:=λm=>by
   have:=zmC its m [];rw [nil_append] at this;exact this
  rw [f0];cases its with
  | nil=>simp
  | cons a r'=>rw [if_neg (by simp)]
 refine wpAny_binaryOp_repeat_ref (T:="list") (U:="int") (by decide) ⟨_,e,rfl⟩ (λs'=>typeIs_int s' k t) noFill_list_mul F.fills_int_mul F.slot_int_rmul repeat_list F.slot_int_index.lookup
  (eK F.slot_int_rmul (typeIs_int s k t) F.entry_int_rmul (F.args_int_rmul_2 _ _) (int___rmul___int_list k t l its.toArray n)
   ⟨e,rfl,⟨_,e,rfl⟩,eK F.slot_list_mul ⟨_,e,rfl⟩ F.entry_list_mul (F.args_list_mul_2 _ _) (AutoListH.list___mul___list_int_3 l its.toArray n k t hfit hcap hlong) ⟨e,?_⟩⟩)
 rw [hnew];exact ⟨.ref _,_,I.lnew (t':=s.toks) (r.rep k.toNat) (by rw [zon,Nat.mul_comm];exact hz),rfl,q _ I.fresh⟩
end
section
variable {prog:aI}{w:aZ}{A:be}{E:Value->af->Prop}{s:af}
end
section
variable {X:Cx}
end
end L2
namespace Att
open PySem PySem.W PySem.Calls PyProof.Rows
theorem zr0{P:Params}{h:Heap}:∀(ns:List Int)(vs:List Value),WellAll P h vs (ns.map WData.int)->IntsAre vs ns:=by
 intro ns
 induction ns with
 | nil =>
  intro vs w;rw [map_nil] at w;cases w;exact .nil
 | cons n ns ih =>
  intro vs w;rw [bQ] at w;cases w with
  | cons a b =>
   cases a;exact .cons _ _ (ih _ b)
theorem zvv{l:OpenLaw}{n:Nat}(hn:l.most=some n){P:Params}{h:Heap}{args:List WData}{vals:List Value}
  (hpre:l.row.toRowW.claim.pre args=true) (hwl:WellAll P h vals args) :
  ∃a vs ns,vals=[aA a]/\args=[WData.list (ns.map WData.int)]/\h.get? a=some { cls:=.type "list",data:=.seq vs.toArray }/\IntsAre vs ns/\ns.length<=n:=by
 have hsh:WShape.hasAll [] args [.list .int]=true:=(pre_splitW hpre).1;have hc:l.pre.holds [] { args:=args }=true:=(pre_splitW hpre).2;obtain ⟨d,r,rfl,h1,h2⟩:=hasAllW_cons hsh;obtain rfl:=hasAllW_nil h2;obtain ⟨xs,rfl,h3⟩:=hasW_list h1;obtain ⟨ns,rfl⟩:=items_int h3;have hlen:ns.length<=n:=by
  unfold OpenLaw.pre at hc;have h4:(WTm.not (.lt (.lit (.int (n:Int))) (.len (.arg 0)))).holds [] { args:=[.list (ns.map .int)] }=true:=by
   have h4:=(holds_andW hc).1;rw [hn] at h4;exact h4
  have h5:=condW_of h4 (w_not (w_lt w_lit (w_len_list (w_arg rfl))));rw [am] at h5;refine Nat.le_of_not_lt λq=>?_;have q':(n:Int)<((ns.length:Nat):Int):=by lia
  first
   | (rw [decide_eq_true q'] at h5;exact absurd h5 (by decide))
   | (simp at h5;lia)
 cases hwl with
 | cons w1 w2 =>
  cases w2;cases w1 with
  | list ho hall=>exact ⟨_,_,ns,rfl,rfl,ho,zr0 ns _ hall,hlen⟩
theorem zob(l:OpenLaw)(args:List WData):l.row.toRowW.claim.post args (.bool true) args=true :=
 postW_of (r:=l.row.toRowW) (X:=(true==true))
  (show WShape.has [] (.bool true) .bool=true by first|rfl|decide|simp [WShape.has,WShape.arms,WShape.armsAll])
  (show (WTm.eq .res (.lit (.bool true))).value [] { args:=args,res:=some (.bool true),after:=args }=some (.bool (true==true)) from w_eq_bool (w_res rfl) w_lit) rfl
theorem attach_call{l:OpenLaw}{n:Nat}{q:aI}{loose:List Str}{XP:(Str->Option Value)->Heap->Prop}{YP:aZ->Heap->Prop}{d:DefRec}
  (hn:l.most=some n) (hdf:d.params.defaults=[])
  (call:∀(w:aZ)(s₀ s₁:af)(mg mb:Str->Option Value)(fa:Addr)(o:Obj)(pm cd doc:Value)(a:Addr)(vs:List Value)(ns:List Int),
   Ground q loose [] XP w s₀ mg mb s₁.heap->YP w s₁.heap ->
   s₁.heap.get? fa=some o->o.data = .func (docDef d.name d.params d.body d.scope pm cd doc)->s₁.heap.CodeRec cd d.name->mg d.name=some (.ref fa) ->
   s₁.heap.get? a=some { cls:=.type "list",data:=.seq vs.toArray }->IntsAre vs ns->ns.length<=n->s₁.gens = #[] ->
   gS (aC l.prog w) callerA (.call (.ref fa) ⟨[.ref a],[]⟩) (λr s'=>r = .ok (.ret (.bool true))/\OldK s₁.heap s'.heap/\s'.os=s₁.os/\eV s'.gens) s₁) :
  WalkO q loose XP YP l.row.toRowW d [] (λf vs=>PySem.call f vs):=by
 intro w s₀ s₁ mg mb G Y fa o pm cd doc dV kV ho hd hcd hD hmg hg args vals as hpre hlay hrd hwl hlo;obtain rfl:dV = .none:=Dflts.none hD hdf;obtain rfl:kV = .none:=Dflts.noKw hD;obtain ⟨a,vs,ns,rfl,rfl,hobj,hints,hlen⟩:=zvv hn hpre hwl;refine enter_call (fk (call w s₀ s₁ mg mb fa o pm cd doc a vs ns G Y ho (fd_plain hd) hcd hmg hobj hints hlen hg) λr s' hq=>?_);obtain ⟨rfl,h2,h3,h4⟩:=hq;exact ⟨.inl ⟨.bool true,.bool true,[],rfl,λ_=>rfl,.bool true,zob l _,λ_=>⟨List.Pairwise.nil,λ_ hm=>(nomatch hm)⟩⟩,h2,h3,h4⟩
section
variable {prog:aI}{w:aZ}{A:be}{E:Value->af->Prop}{s:af}{K:Frag}
end
end Att
namespace L2
open PySem PySem.Spec PyProof.Rows
variable{qual x:Str}{st:Stmt}{f:Addr}{A B:Prop}{H:Hp}
theorem zqu{vs:List Value}{ns:List Int}(h:IntsAre vs ns):zk (ns.map V.int) vs:=by
 induction h with
 | nil=>exact .nil
 | cons n t h ih=>exact .cons ⟨t,rfl⟩ ih
def zap(s:Stmt)(j:Nat):Stmt:=match s with
 | .ClassDef _ _ _ body _ _ _ _ _ _ _=>body.getD j (.Pass ⟨0,0,0,0⟩)
 | _=>.Pass ⟨0,0,0,0⟩
def zdu(s:Stmt):Arguments:=match s with
 | .FunctionDef _ a _ _ _ _ _ _ _ _=>a
 | _=>{ posonlyargs:=[],args:=[],vararg:=none,kwonlyargs:=[],kw_defaults:=[],kwarg:=none,defaults:=[] }
def zb5(s:Stmt):List Stmt:=match s with
 | .FunctionDef _ _ b _ _ _ _ _ _ _=>b
 | _=>[]
def zn(s:Stmt):Scope:=match s with
 | .FunctionDef _ _ _ _ _ _ sc _ _ _=>sc
 | _=>{ kind:=.function,names:=[],isGenerator:=false,isCoroutine:=false }
abbrev CX0:CXT:=λ_ _ _ _ _ _=>False
abbrev E0:XK:=λ_ _ _=>False
theorem zdB{X:Cx}:zcq CX0 X E0:=λ_ _ _ _ _ _ _ h=>h.elim
structure Fun(K:ag)(x qual:Str)(st:Stmt)(f:Addr)(fd:cL):Prop where
 ex:∃(oc:Value)(od:Option Addr)(kV doc pm:Value)(an:Option Addr)(cdv ct:Value)(osl:Array (Option Value)),
  fd=fnOf x qual (zdu st) (zb5 st) (zn st) .none kV doc pm an cdv ct/\K.lookup f=some ⟨oc,od,.func fd,osl⟩/\codeIn K cdv qual=true
 kp:gN K (.ref f)=true
section
variable {P:aI}{w:aZ}{K:ag}{mg:Str->Option Value}{base:Heap}
theorem Fun.ok{fd:cL}{N ps:List Str}{cm:Bool}{k:Nat}{sp:Sp}(F:Fun K x qual st f fd)(S:zr N ps (zn st))(len:∀vs H Q E,sp vs H Q E->vs.length=ps.length)
  (hbody:∀(cdv:Value)(A:be)(outer:List Env)(s:af)(H:Hp)(vs:List V)(Q:VK)(E:XK),zz cm k (A.deeper (e9 qual (zn st) s.heap.objs.size f cdv))->sp vs H Q E ->
   ∃t,PSs (zbt CX0 cm P w K mg base N qual (zn st) f cdv A outer s H E).nox (zb5 st) t/\t { nx:=λ_ H'=>Q .non H',rt:=Q } (start N vs) H):zo P w K mg base CX0 cm (k+1) f fd ps sp:=by
 obtain ⟨oc,od,kV,doc,pm,an,cdv,ct,osl,rfl,lk,hcd⟩:=F.ex;refine zfU lk hcd S len λA outer s H vs Q E hr hsp=>?_;obtain ⟨t,h,q⟩:=hbody cdv A outer s H vs Q E hr hsp;exact ⟨t,h.nox,q⟩
theorem Fun.binds{fd:cL}{ps:List Str}(F:Fun K x qual st f fd)
  (h:∀(kV doc pm:Value)(an:Option Addr)(cdv ct:Value)(us:List Value),us.length=ps.length->bindArgs (fnOf x qual (zdu st) (zb5 st) (zn st) .none kV doc pm an cdv ct) ⟨us,[]⟩=pure (ps.zip us)):zaE K fd ps []:=by
 obtain ⟨oc,od,kV,doc,pm,an,cdv,ct,osl,rfl,lk,hcd⟩:=F.ex;exact .all (h kV doc pm an cdv ct)
theorem zqv{oc:Value}{od an:Option Addr}{osl:Array (Option Value)}{kV doc pm cdv ct:Value}(l:K.lookup f=some ⟨oc,od,.func (fnOf x qual (zdu st) (zb5 st) (zn st) .none kV doc pm an cdv ct),osl⟩)
  (c:codeIn K cdv qual=true) (k:gN K (.ref f)=true):Fun K x qual st f (fnOf x qual (zdu st) (zb5 st) (zn st) .none kV doc pm an cdv ct):=⟨⟨oc,od,kV,doc,pm,an,cdv,ct,osl,rfl,l,c⟩,k⟩
end
theorem zab{A:be}{c:Bool}{k:Nat}(hr:zz c k A):A.units+1<cLine:=dv (Nat.add_le_add_left (by decide:1<=64) _) hr.units
theorem zd2{n:Nat}(h:n<=1000):n<sizeLine:=dv h (by decide)
section
variable {X:Cx}
theorem pv(i:Nat){pos:Pos}(hN:X.N[i]?=some x:=by rfl)(hv:Vis X.env.scope x:=by first|exact aK rfl|exact iY (aK rfl)|exact iY (iY rfl))(hd:(x==("__debug__":Str))=false:=by decide)
  (hcd:(x==("__classdict__":Str))=false:=by decide):PE X (.Name x pos) (zf5 i):=ztF hN hv hd hcd
end
theorem zd7(h:B):if false=true then A else B:=by
 rw [if_neg aw];exact h
theorem zft(h:A):if true=true then A else B:=by
 rw [if_pos rfl];exact h
theorem zO{c:Prop} [Decidable c] (h1:c->A) (h2 : ¬ c->B):if c then A else B:=by
 by_cases h:c
 .rw [if_pos h];exact h1 h
 .rw [if_neg h];exact h2 h
def ze(H H':Hp):Prop:=∀b o,H b=some o->H' b=some o
theorem ze.refl(H:Hp):ze H H:=λ_ _ h=>h
theorem ze.trans{H1 H2:Hp}(a:ze H H1)(b:ze H1 H2):ze H H2:=λc o h=>b c o (a c o h)
theorem ze.free{H':Hp}(e:ze H H'){l:Addr}(h:H' l=Option.none):H l=Option.none:=by
 cases q:H l with
 | none=>rfl
 | some o =>
  rw [e l o q] at h;cases h
theorem ze.seq{K:ag}{H':Hp}{a:Addr}{xs:List V}(e:ze H H')(h:SqL K H a xs):SqL K H' a xs:=by
 rcases h with (h|⟨o,h⟩)|h
 .exact .inl (.inl (e _ _ h))
 .exact .inl (.inr ⟨o,e _ _ h⟩)
 .exact .inr h
end L2
set_option maxHeartbeats 4000000
namespace L2
open PySem PySem.Spec PyProof.Rows
variable{sc scope:Scope}{env:Env}{X:Cx}{N':List Str}{ix:List (Option Nat)}{P:aI}{w:aZ}{H:Hp}{h:Heap}{C:Addr}{σ:St}{Ga:List (Addr×Obj)}{s:af}{elt iter:bw}{ifs:List bw}{pos:Pos}{Q:Unit->af->Prop}
def zaA(cells:List (Str×Addr)):List (Str×cZ)->List (Str×Addr)->List (Str×Addr)
 | [],cs=>cs
 | (n,k)::r,cs=>zaA cells r (if k == .free then (match cells.lookup n with|some c=>(n,c)::cs|none=>cs) else cs)
theorem zlA(h:∀y∈scope.names,y.2 = .free->∃c,env.cells.lookup y.1=some c):gb scope env=pure (zaA env.cells scope.names []):=by
 simp only [gb];have all:∀(l:List (Str×cZ))(cs:List (Str×Addr)),(∀y∈l,y.2 = .free->∃c,env.cells.lookup y.1=some c) ->
   (forIn l cs λ(x:Str×cZ)(r:List (Str×Addr))=>match x with|(name,kind)=>if (kind==cZ.free)=true then do let a<-cellOf env name;pure (ForInStep.yield ((name,a)::r)) else pure (ForInStep.yield r):Sem (List (Str×Addr)))=pure (zaA env.cells l cs):=by
  intro l
  induction l with
  | nil=>intro cs _;rfl
  | cons y r ih =>
   intro cs hy;obtain ⟨n,k⟩:=y;rw [iO];by_cases hk:k = .free
   .subst hk;obtain ⟨c,hc⟩:=hy (n,.free) bf rfl;have hc':env.cells.lookup n=some c:=hc;simp only [cellOf,hc',zaA,beq_self_eq_true,if_true];exact ih _ λz hz=>hy z (aF _ hz)
   .have hb:(k==cZ.free)=false:=by simpa using hk
    simp only [zaA,hb,dj,if_false];exact ih _ λz hz=>hy z (aF _ hz)
 have e:=all scope.names [] h;show (do let cs<-forIn scope.names [] _;pure cs)=_
 first
  | (rw [bind_pure];exact e)
  | exact e
  | (simpa using e)
theorem zeq{cells:List (Str×Addr)}:∀{l:List (Str×cZ)}{cs:List (Str×Addr)}{x:Str}{c:Addr},(zaA cells l cs).lookup x=some c->cs.lookup x=some c\/(cells.lookup x=some c/\(x,cZ.free)∈l)
 | [],_,_,_,h=>.inl h
 | (n,k)::r,cs,x,c,h=>by
  unfold zaA at h;rcases zeq h with h|⟨h1,h2⟩
  .by_cases hk:k = .free
   .subst hk;simp only [beq_self_eq_true,if_true] at h;cases e:cells.lookup n with
    | none=>rw [e] at h;exact .inl h
    | some c' =>
     rw [e] at h;simp only [lookup_cons] at h;by_cases hx:x=n
     .subst hx;simp only [beq_self_eq_true] at h;cases h;exact .inr ⟨e,bf⟩
     .have hb:(x==n)=false:=by simpa using hx
      rw [hb] at h;exact .inl h
   .have hb:(k==cZ.free)=false:=by simpa using hk
    rw [hb] at h;exact .inl h
  .exact .inr ⟨h1,aF _ h2⟩
theorem ziR{cells:List (Str×Addr)}:∀{l:List (Str×cZ)}{cs:List (Str×Addr)}{x:Str},(cs.lookup x).isSome=true->((zaA cells l cs).lookup x).isSome=true
 | [],_,_,h=>h
 | (n,k)::r,cs,x,h=>by
  unfold zaA;refine ziR ?_;split
  .split
   .simp only [lookup_cons];split
    .rfl
    .exact h
   .exact h
  .exact h
theorem zj3{cells:List (Str×Addr)}:∀{l:List (Str×cZ)}{cs:List (Str×Addr)}{x:Str}{c:Addr},(x,cZ.free)∈l->cells.lookup x=some c->((zaA cells l cs).lookup x).isSome=true
 | (n,k)::r,cs,x,c,hm,hc=>by
  unfold zaA;rcases au.mp hm with e|hm
  .cases e;refine ziR ?_;simp only [beq_self_eq_true,if_true,hc,lookup_cons];rfl
  .exact zj3 hm hc
def zbk(sc:Scope)(names:List (Str×cZ))(N N':List Str)(ix:List (Option Nat)):Bool :=
 sc.kind == .function&&sc.names.all (λy=>y.2 != .cell&&(y.2 != .local||sc.names.lookup y.1==some .local)&&(y.2 != .free||(names.lookup y.1==some .cell&&sc.names.lookup y.1==some .free)) ) &&
 ix.length==N'.length&&(ic ix.length).all (λi=>match ix.getD i none with
  | none=>true
  | some j=>(match N'[i]?,N[j]? with|some x,some y=>x==y&&sc.names.lookup x==some .free|_,_=>false))
def za3(ix:List (Option Nat))(σ:St):St:=ix.map λo=>o.bind λj=>(σ[j]?).join
structure zaz(X:Cx)(sc:Scope)(N':List Str)(ix:List (Option Nat)):Prop where
 kind:sc.kind = .function
 cell:∀y∈sc.names,y.2≠.cell
 names:∀y∈sc.names,y.2 = .local->sc.names.lookup y.1=some .local
 free:∀y∈sc.names,y.2 = .free->X.env.kindOf y.1=some .cell/\sc.names.lookup y.1=some .free
 len:ix.length=N'.length
 at_:∀(i j:Nat),ix[i]?=some (some j)->∃x,N'[i]?=some x/\X.N[j]?=some x/\sc.names.lookup x=some .free
theorem zaz.of(h:zbk sc X.env.scope.names X.N N' ix=true):zaz X sc N' ix:=by
 unfold zbk at h;simp only [bF,bJ] at h;obtain ⟨⟨⟨h1,h2⟩,h3⟩,h4⟩:=h;refine ⟨by simpa using h1,λy hy=>?_,λy hy hk=>?_,λy hy hk=>?_,by simpa using h3,λi j e=>?_⟩
 .simpa using (h2 y hy).1.1
 .have q:=(h2 y hy).1.2;rw [hk] at q;simpa using q
 .have q:=(h2 y hy).2;rw [hk] at q;simp only [bne_self_eq_false,Bool.false_or,bF,beq_iff_eq] at q;exact q
 .have hi:i<ix.length:=(ak.mp e).1;have:=h4 i (gU.mpr hi);have eg:ix.getD i none=some j:=by rw [av,e];rfl
  rw [eg] at this;dsimp only at this;cases e1:N'[i]? with
  | none=>rw [e1] at this;simp at this
  | some x =>
   cases e2:X.N[j]? with
   | none=>rw [e1,e2] at this;simp at this
   | some y =>
    rw [e1,e2] at this;simp only [bF,beq_iff_eq] at this;exact ⟨x,rfl,by rw [this.1],this.2⟩
def zE(X:Cx)(sc:Scope)(N':List Str)(Ga:List (Addr×Obj))(C:Addr)(fp:List Addr)(s:af)(H:Hp):Cx :=
 { X with N:=N',s₀:=s,H₀:=H,env:=compEnvC sc (zaA X.env.cells sc.names []) C X.env,outer:=X.stack,stack:=X.stack,ex:=fp,fn:=λ_=>false,pn:=X.pn++Ga,xe:=λ_ _=>False }
theorem HOk.add{D:Addr}{o:HO}(x:HOk P w H h)(hn:H D=none)(new:zT P w (upd H D o) h D o):HOk P w (upd H D o) h:=λb u e=>by
 by_cases hb:b=D
 .subst hb;rw [zu] at e;cases e;exact new
 .rw [zd hb] at e;exact (x b u e).stay (λ_ _ _ q=>q) (λc q=>by rw [zd (zp q hn)];exact q) λc xs q=>by rw [zd (zp q hn)];exact q
theorem HOk.but{h':Heap}(x:HOk P w H h)(hn:H C=none)(k:∀b u,b≠C->h.get? b=some u->h'.get? b=some u):HOk P w H h':=λb u e =>
 (x b u e).stay (λc v hc q=>k c v (by
  rcases hc with z|z
  .rw [z];exact zp e hn
  .exact zp z hn) q) (λ_ q=>q) λ_ _ q=>q
theorem zvq(hk:env.scope.kind = .function)(hf:∀y∈sc.names,y.2 = .free->env.kindOf y.1=some .cell) :
  ∀x,(relabel sc env).names.lookup x=(sc.names.lookup x).map λk=>if k == .free then .cell else k:=by
 intro x;have em:(relabel sc env).names=sc.names.map λy=>(y.1,if y.2 == .free then cZ.cell else y.2):=by
  show sc.names.map _=_;refine dX λy hy=>?_;obtain ⟨n,k⟩:=y;by_cases hk':k = .free
  .subst hk';have e:env.kindOf n=some .cell:=hf (n,.free) hy rfl;simp [hk,e]
  .have hb:(k==cZ.free)=false:=by simpa using hk'
   simp [hb]
 rw [em];generalize sc.names=l
 induction l with
 | nil=>rfl
 | cons y r ih =>
  obtain ⟨n,k⟩:=y;simp only [bQ,lookup_cons];cases x==n with
  | true=>rfl
  | false=>exact ih
section
variable {X:Cx}{sc:Scope}{N':List Str}{ix:List (Option Nat)}
theorem zqE{i:Nat}{v:V}(h:(za3 ix σ)[i]?=some (some v)):∃j,ix[i]?=some (some j)/\σ[j]?=some (some v):=by
 unfold za3 at h;rw [bh] at h;cases e:ix[i]? with
 | none=>rw [e] at h;cases h
 | some o =>
  rw [e] at h;have h':(o.bind λj=>(σ[j]?).join)=some v:=bK.inj h;cases o with
  | none=>cases h'
  | some j =>
   have h'':(σ[j]?).join=some v:=h';cases e2:σ[j]? with
   | none=>rw [e2] at h'';cases h''
   | some z =>
    rw [e2] at h'';have:z=some v:=h'';exact ⟨j,rfl,by rw [e2,this]⟩
theorem zj9{fp:List Addr}{h₁:Heap}{tk:Nat}{m:Str->Option Value}(I:Inv X Ga σ H s)(L:zaz X sc N' ix)(f:∀b∈fp,zbc X Ga H b)(fl:∀b∈fp,b<s.heap.objs.size)
  (hC:s.heap.objs.size<=C) (hns:h₁.Ns C m) (old:∀b o,s.heap.get? b=some o->h₁.get? b=some o) :
  Inv (zE X sc N' Ga C fp s H) [] (za3 ix σ) H { s with heap:=h₁,toks:=tk }:=by
 have cof:∀x c,(zaA X.env.cells sc.names []).lookup x=some c->X.env.cells.lookup x=some c/\(x,cZ.free)∈sc.names:=λx c h=>by
  rcases zeq h with h|h
  .cases h
  .exact h
 have rl:=zvq (sc:=sc) (env:=X.env) I.ok.kind λy hy hk=>(L.free y hy hk).1;have chas:∀x,sc.names.lookup x=some .free->∃c,(zaA X.env.cells sc.names []).lookup x=some c/\X.env.cells.lookup x=some c:=λx hx=>by
  have hm:(x,cZ.free)∈sc.names:=cE hx;obtain ⟨c,hc⟩:=I.ok.has x (.inl (L.free _ hm rfl).1);obtain ⟨c',hc'⟩:=isSome_iff_exists.mp (zj3 (cs:=[]) hm hc);exact ⟨c',hc',(cof x c' hc').1⟩
 refine ⟨⟨I.ok.mod,L.kind,I.ok.glob,I.ok.blt,hC,λx y c h1 h2=>I.ok.inj x y c (cof x c h1).1 (cof y c h2).1,λx hx=>?_,λx c h=>(nomatch h),I.ok.hd,I.ok.frames,.inl rfl,λb hb=>⟨bC (aR (fl b hb) hC),λx c h=>(f b hb).2.2.2.2.1 x c (cof x c h).1⟩,
   I.bs,aW I.ok.bsz I.sz,λb o e hb=>?_,λb hb z=>?_,I.stack,I.stkFree⟩,rfl,I.bare,Un.kept old,⟨m,hns,λi x v e1 e2 e3=>?_⟩,λx c h=>?_,I.hok.fresh hC,λx c h=>I.freeC x c (cof x c h).1,λp hp=>?_,I.hok.kept old,?_,I.hdk⟩
 .have hx':(relabel sc X.env).names.lookup x=some .cell\/(relabel sc X.env).names.lookup x=some .free:=hx;rw [rl x] at hx';cases e:sc.names.lookup x with
  | none=>rw [e] at hx';simp at hx'
  | some k =>
   have hk:k = .free:=by
    cases k with
    | free=>rfl
    | cell=>exact absurd rfl (L.cell _ (cE e))
    | _=>rw [e] at hx';revert hx';decide
   subst hk;obtain ⟨c,h1,_⟩:=chas x e;exact ⟨c,h1⟩
 .rcases (f b hb).2.2.2.1 with z|z
  .exact I.ok.noex b o e z
  .exact absurd (aR (aP (I.ok.bs b o e).1) z) (bj _)
 .rcases au.mp (I.stkSub b z) with e|e
  .exact (f b hb).2.1 e
  .exact (f b hb).2.2.1 e
 .obtain ⟨j,hj,hv⟩:=zqE e2;obtain ⟨y,n1,n2,n3⟩:=L.at_ i j hj;have exy:x=y:=bK.inj ((show N'[i]?=some x from e1).symm.trans n1);subst exy;obtain ⟨c,c1,c2⟩:=chas x n3;have kf:=(L.free _ (cE n3) rfl).1;obtain ⟨m0,hn0,hl⟩:=I.loc;obtain ⟨u,r,l⟩:=hl j x v n2 hv (.inr (.inl kf));refine ⟨u,r,.inr ⟨.inl ?_,c,c1,?_⟩⟩
  .show (relabel sc X.env).names.lookup x=some .cell;rw [rl x,n3];rfl
  .rcases l with ⟨hk,_⟩|⟨_,c',hc',z⟩
   .have kf':X.env.kindOf x=some .cell:=kf;rw [hk] at kf';cases kf'
   .rw [c2] at hc';cases hc';obtain ⟨oc,ho,hd⟩:=z;exact ⟨oc,old _ _ ho,hd⟩
 .obtain ⟨v,oc,ho,hd⟩:=I.cell x c (cof x c h).1;exact ⟨v,oc,old _ _ ho,hd⟩
 .have hp':p∈X.pn++Ga:=by
   have:p∈(X.pn++Ga)++[]:=hp;simpa using this
  obtain ⟨a,b,c,d,e⟩:=I.pin p hp';exact ⟨old _ _ a,b,bC (aR (aP a) hC),λz=>(au.mp (I.stkSub p.1 z)).elim c d,e⟩
 .show (za3 ix σ).length=N'.length;unfold za3;rw [am,L.len]
end
def PTs(X:Cx)(ifs:List bw)(t:TT):Prop :=
 ∀(Ga:List (Addr×Obj))(s:af)(σ:St)(H:Hp)(Q:Bool->Hp->Prop),Inv X Ga σ H s->t σ H Q ->
  aH (aC X.prog X.w) X.A (forIn ifs true λc r=>if r=true then do let ok<-isTrue c X.env (bV c X.env);pure (ForInStep.yield ok) else pure (ForInStep.yield r)) (TP X Ga σ Q) X.xe s
def zhe:TT:=λ_ H Q=>Q true H
theorem zc6:W (PTs X [] zhe):=⟨λ_ _ _ H _ I h=>wpAny_tests_nil ⟨H,I,h⟩⟩
theorem zfv{c:bw}{t:TT}(h:W (PT X c t)):W (PTs X [c] t):=by refine ⟨?_⟩;have h:=h.h;exact λGa s σ H Q I q=>wpAny_tests_one (h Ga s σ H Q I q)
theorem ztX{prog:aI}{A:be}{R:Result->af->Prop}{target:bw}{it acc:Value}(I:Nat->af->Prop)
  (turn:∀n s,I n s->aH (aC prog w) A (f8 it) (λr s₁=>match r with
   | none=>R (.ok .next) s₁
   | some v=>aH (aC prog w) A (fH target it v) (λ_ s₁'=>aH (aC prog w) A (assign target env v) (λ_ s₂ =>
     aH (aC prog w) A (forIn ifs true λc r=>if r=true then do let ok<-isTrue c env (bV c env);pure (ForInStep.yield ok) else pure (ForInStep.yield r)) (λok s₃ =>
      if ok=true then aH (aC prog w) A (bV elt env) (λx s₄ =>
       aH (aC prog w) A (call (.builtin "list.append") [acc,x]) (λ_ s₅=>∃m,m<n/\I m s₅) (λ_ _=>False) s₄) (λ_ _=>False) s₃
      else ∃m,m<n/\I m s₃) (λ_ _=>False) s₂) (λ_ _=>False) s₁') (λ_ _=>False) s₁) (λ_ _=>False) s)
  (n:Nat) (h:I n s):gS (aC prog w) A (.compLoop (.ListComp elt [⟨target,iter,ifs,0⟩] scope pos) 0 it acc env) R s:=by
 refine codeAny_loop rfl I (λn s hI=>?_) n h;show aH _ A ((compTurn (.ListComp elt [⟨target,iter,ifs,0⟩] scope pos) 0 it acc env).onRaise (λx=>do iu x env;theTreesLotGoes x)) _ _ s;refine wpAny_noted (bu (E:=λ_ _=>False) ?_ (λ_ _ q=>q) λ_ _ z=>z.elim);rw [compTurn_list];refine aa (dF (aa (bu (turn n s hI) (λr s₁ h₁=>?_) λ_ _ h'=>h')));cases r with
 | none=>exact ar h₁
 | some v =>
  refine aa (bu h₁ (λ_ s₁' h₁'=>?_) λ_ _ h'=>h');refine aa (bu h₁' (λ_ s₂ h₂=>aa (bu h₂ (λok s₃ h₃=>?_) λ_ _ h'=>h')) λ_ _ h'=>h');cases ok with
  | false=>exact ar ⟨rfl,h₃⟩
  | true=>exact aa (aa (bu h₃ (λx s₄ h₄=>aa (bu h₄ (λ_ s₅ h₅=>ar (ar ⟨rfl,h₅⟩)) λ_ _ h'=>h')) λ_ _ h'=>h'))
def tLC(ix:List (Option Nat))(wi:TI)(g:TG)(tt:TT)(te:TE):TE:=λσ H Q=>wi σ H λJ H1=>∃W:Nat->Nat->St->List V->Hp->Prop,(∃m,W 0 m (za3 ix σ) [] H1)/\∀i m τ ys H2,W i m τ ys H2->ys.length<sizeLine /\
 ((J.stop i H2 ∧ ∀ D, H2 D = none → D ≠ sysModules → Q (.ref D) (upd H2 D (.lst ys))) ∨
  (J.go i H2 ∧ ∀ x H3, J.yld i H2 x H3 → g x τ H3 fun τ1 H4 => tt τ1 H4 fun ok H5 => if ok = true then te τ1 H5 fun y H6 => ∃ m', m' < m ∧ W (i + 1) m' τ1 (ys ++ [y]) H6 else ∃ m', m' < m ∧ W (i + 1) m' τ1 ys H5))
theorem zkU{c:Bool}{tg:bw}{wi:TI}{g:TG}{tt:TT}{te:TE}{use:Option (Value->Sem Unit)}{R:Value->af->Prop}{Q:VK}(hc:c=true->X.calm=true)(L:zaz X sc N' ix)(hi:PIc c X tg iter wi)
  (hg:∀Ga C fp s H,PG (zE X sc N' Ga C fp s H) tg g) (ht:∀Ga C fp s H,PTs (zE X sc N' Ga C fp s H) ifs tt) (he:∀Ga C fp s H,PE (zE X sc N' Ga C fp s H) elt te) (hs:∀x,dB iter X.env x=pure x) (I:Inv X Ga σ H s) (h:tLC ix wi g tt te σ H Q)
  (kk:∀(C D:Addr)(oC:Obj)(H':Hp)(s5:af)(m5:Str->Option Value),Inv X (Ga++[(C,oC)]) σ H' s5->(∀{hp:Heap},hp.get? C=some oC->hp.Ns C m5)->(∀{σ':St}{H'':Hp}{s':af}{h':Heap},Inv X Ga σ' H'' s'->H'' C=none->fu C s'.heap h'->Inv X Ga σ' H'' { s' with heap:=h' })->Q (.ref D) H'->compPost (aC X.prog X.w) X.A X.xe use R (.ref D) C (.ok .next) s5) :
  aH (aC X.prog X.w) X.A (comprehension (.ListComp elt [⟨tg,iter,ifs,0⟩] sc pos) sc X.env (firstIterPos [⟨tg,iter,ifs,0⟩] pos) (newList []) (firstAsync [⟨tg,iter,ifs,0⟩]) (firstIter [⟨tg,iter,ifs,0⟩] X.env) use) R X.xe s:=by
 have hclos:gb sc X.env=pure (zaA X.env.cells sc.names []):=zlA λy hy hk=>I.ok.has y.1 (.inl (L.free y hy hk).1);refine wpAny_comprehension_free (use:=use) rfl hs hclos L.kind L.names (thn (hi Ga s σ H _ I h) λv s1 h1=>thn h1 λitv s2 h2=>?_);obtain ⟨it,fp,tn,J,H2,e,I2,T,st2,f2,W,⟨m0,w0⟩,turn⟩:=h2;subst e;refine cx (gy L.cell (by intro y hy;simp at hy) (λh₁ hns₁ hsb₁=>?_) L.kind);dsimp only at hns₁ hsb₁ ⊢;generalize hH2:s2.heap.push { cls:=.type "list",dict:=none,data:=.seq ([]:List Value).toArray }=G2 at hns₁ hsb₁ ⊢;have hC:G2.objs.size=s2.heap.objs.size+1:=by rw [<- hH2,cj]
 have hDC:s2.heap.objs.size≠G2.objs.size:=by rw [hC];exact bC (gj _)
 have hCle:s2.heap.objs.size<=G2.objs.size:=by rw [hC];exact le_succ _
 have below:∀b,b<s2.heap.objs.size->b≠G2.objs.size/\b≠s2.heap.objs.size:=λb hb=>⟨by rw [hC];exact bC (eQ hb),bC hb⟩;have old:∀b o,s2.heap.get? b=some o->h₁.get? b=some o:=λb o e=>hsb₁.extBut b o (below b (aP e)).1 (ad _ (hH2 ▸ ad _ e));have hacc:h₁.get? s2.heap.objs.size=some { cls:=.type "list",data:=.seq ([]:List Value).toArray 0 }:=hsb₁.extBut _ _ hDC (ad _ (hH2 ▸ aO _ rfl));have fl:∀b∈fp,b<s2.heap.objs.size:=λb hb=>by
  obtain ⟨o,e,_⟩:=T.obj 0 _ st2 b hb;exact aP e
 have hDfp:s2.heap.objs.size∉fp:=λz=>bj _ (fl _ z);generalize hD:s2.heap.objs.size=D at *
 generalize hCe:G2.objs.size=C at *
 have cof:∀x c,(zaA X.env.cells sc.names []).lookup x=some c->X.env.cells.lookup x=some c:=λx c h=>by
  rcases zeq h with h|h
  .cases h
  .exact h.1
 have st1:tn 0 h₁:=T.keep _ _ _ st2 λb _ o e=>old b o e;have I3:Inv (zE X sc N' Ga C fp s2 H2) [] (za3 ix σ) H2 { s2 with heap:=h₁,toks:=s2.toks+([]:List (Str×Value)).length }:=zj9 I2 L f2 (λb hb=>by rw [hD];exact fl b hb) (by rw [hD];exact hCle) hns₁ old;have D0:H2 D=none:=I2.hok.fresh (gB hD);have fD:∀{H':Hp},H' D=none->zbc (zE X sc N' Ga C fp s2 H2) [] H' D:=λ{H'} hn=>by
  refine ⟨hn,hDC,λz=>?_,.inr (gB hD),λx c hx z=>?_,λp hp z=>?_⟩
  .obtain ⟨_,o,ho,_⟩:=I2.stack.mem (show D∈frs X.stack from z);exact absurd (aP ho) (by rw [hD];exact bj _)
  .obtain ⟨v,q⟩:=I2.cell x c (cof x c hx);have:=q.lt;rw [z,hD] at this;exact bj _ this
  .have hp':p∈X.pn++Ga:=by
    have:p∈(X.pn++Ga)++[]:=hp;simpa using this
   have:=aP (I2.pin p hp').1;rw [z,hD] at this;exact bj _ this
 have fF:∀{H':Hp},(∀b∈fp,H' b=none)->∀b∈fp,zbc (zE X sc N' Ga C fp s2 H2) [] H' b:=λ{H'} hn b hb=>by
  obtain ⟨_,g1,g2,g3,g4,g5⟩:=f2 b hb;refine ⟨hn b hb,(below b (fl b hb)).1,λz=>?_,.inl hb,λx c hx=>g4 x c (cof x c hx),λp hp=>g5 p ?_⟩
  .rcases au.mp (I2.stkSub b z) with e|e
   .exact g1 e
   .exact g2 e
  .have:p∈(X.pn++Ga)++[]:=hp;simpa using this
 have loop:∀s₃:af,s₃={ s2 with heap:=h₁,toks:=s2.toks+([]:List (Str×Value)).length } ->
   gS (aC X.prog X.w) X.A (.compLoop (.ListComp elt [⟨tg,iter,ifs,0⟩] sc pos) 0 (.ref it) (.ref D) (compEnvC sc (zaA X.env.cells sc.names []) C X.env))
    (compPost (aC X.prog X.w) X.A X.xe use R (.ref D) C) s₃:=by
  rintro s₃ rfl;refine ztX (λn s'=>∃i τ ys H',Inv (zE X sc N' Ga C fp s2 H2) [] τ H' s'/\tn i s'.heap/\(∀b∈fp,H' b=none)/\H' D=none/\(∃its k,zk ys its/\s'.heap.get? D=some { cls:=.type "list",data:=.seq its.toArray k })/\W i n τ ys H')
   ?_ m0 ⟨0,_,[],H2,I3,st1,λb hb=>(f2 b hb).1,D0,⟨[],0,.nil,hacc⟩,w0⟩
  rintro n s4 ⟨i,τ,ys,H4,I4,st4,fr4,dn4,⟨its,k,rv,dg⟩,w4⟩;obtain ⟨hlen,step⟩:=turn i n τ ys H4 w4;rcases step with ⟨stop,fin⟩|⟨go,step⟩
  .refine thn (T.done (zE X sc N' Ga C fp s2 H2) rfl rfl rfl hc i [(D,({ cls:=.type "list",data:=.seq its.toArray k }:Obj))] s4 τ H4 (λ_ _=>False) (I4.pins_of λp hp=>?_) (λb hb=>?_) st4 stop) λr s5=>x2e λhr I5=>?_
   .have e:p=(D,{ cls:=.type "list",data:=.seq its.toArray k }):=by simpa using hp
    subst e;obtain ⟨g0,g1,g2,_⟩:=fD dn4;exact ⟨dg,g0,g1,g2,λv z=>(nomatch z)⟩
   .obtain ⟨g0,g1,g2,g3,g4,g5⟩:=fF fr4 b hb;refine ⟨g0,g1,g2,g3,g4,λp hp=>?_⟩;rcases aS.mp hp with z|z
    .exact g5 p (bN _ z)
    .have e:p=(D,{ cls:=.type "list",data:=.seq its.toArray k }):=by simpa using z
     subst e;exact λq=>hDfp (by have q':D=b:=q;rw [q'];exact hb)
   .subst hr;have dg5:=(I5.pin (D,_) (aQ _ (ax.mpr rfl))).1;obtain ⟨m5,hn5,_⟩:=id I5.loc;have hlt:∀b o,s2.heap.get? b=some o->b≠C/\b≠D:=λb o e=>by
     have:=aP e;rw [hD] at this;exact below b this
    have U:=I5.base;have IX:Inv X Ga σ (upd H4 D (.lst ys)) s5:=by
     refine I2.call' (s':=s5) (ch:=fp) I5.os ⟨λb o e n hb hx=>U.keep b o e n hb hx,λb o e n hb hx=>U.slot b o e n hb hx,λb o e n hx=>?_,λb o e hx=>U.there b o e hx,λb xs e=>?_,λb o u e=>?_,λb ps e=>?_⟩ ?_ I5.bare (λb hb=>?_)
     .rw [zd (hlt b o e).2];exact U.free b o e n hx
     .have q:=U.tups b xs e;rw [zd (zp q dn4)];exact q
     .have q:=U.frzs b o u e;rw [zd (zp q dn4)];exact q
     .obtain ⟨more,q⟩:=U.tbls b ps e;exact ⟨more,by rw [zd (zp q dn4)];exact q⟩
     .exact I5.hok.add dn4 ⟨dE hlen,its,k,rv,dg5⟩
     .obtain ⟨_,g1,g2,g3,g4,g5⟩:=f2 b hb;exact ⟨g3,g1,g4,g5⟩
    obtain ⟨oC,esC,epC,gC,rC⟩:=id hn5;have dataC:∀v,oC.data≠.cell v:=λv z=>by rw [rC.1] at z;cases z
    have CneD:C≠D:=aU hDC;have HC:upd H4 D (.lst ys) C=none:=by rw [zd CneD];exact I5.free
    have CneL:C≠X.env.locals:=λz=>by
     have:=I2.lt;rw [<- z,hD] at this;exact absurd (aR this hCle) (bj _)
    have Cfs:C∉X.fs:=I2.nofs (by rw [hD];exact hCle);have IXp:=IX.pins_of (pins':=Ga++[(C,oC)]) λp hp=>by
     rcases aS.mp hp with z|z
     .exact IX.pin p (aQ _ z)
     .rw [ax.mp z];exact ⟨gC,HC,CneL,Cfs,dataC⟩
    refine kk C D oC _ s5 m5 IXp (λe=>⟨oC,esC,epC,e,rC⟩) (λ{σ6 H6 s6 h'} I7 p6n hsb=>I7.turned (t':=s6.toks) (it:=C) (λb o hb e=>(hsb.2 b hb).trans e) p6n CneL (.inr (aW I2.sz (by rw [hD];exact hCle))) (λx c hx z=>?_) (λp hp z=>?_)) (fin D dn4 (by have h:az<s2.heap.objs.size:=(I2.mod.glob.keeps I2.bk).lt;rw [hD] at h;exact dQ (lt_trans (by decide) h)))
    .obtain ⟨v,q⟩:=I2.cell x c hx;have:=q.lt;rw [z,hD] at this;exact absurd (aR this hCle) (bj _)
    .have:=aP (I2.pin p hp).1;rw [z,hD] at this;exact absurd (aR this hCle) (bj _)
  .refine thn (T.item (zE X sc N' Ga C fp s2 H2) rfl rfl rfl hc i [(D,({ cls:=.type "list",data:=.seq its.toArray k }:Obj))] s4 τ H4 (λ_ _=>False) (I4.pins_of λp hp=>?_) (λb hb=>?_) st4 go) λr s5=>x3e λu hr h5=>?_
   .have e:p=(D,{ cls:=.type "list",data:=.seq its.toArray k }):=by simpa using hp
    subst e;obtain ⟨g0,g1,g2,_⟩:=fD dn4;exact ⟨dg,g0,g1,g2,λv z=>(nomatch z)⟩
   .obtain ⟨g0,g1,g2,g3,g4,g5⟩:=fF fr4 b hb;refine ⟨g0,g1,g2,g3,g4,λp hp=>?_⟩;rcases aS.mp hp with z|z
    .exact g5 p (bN _ z)
    .have e:p=(D,{ cls:=.type "list",data:=.seq its.toArray k }):=by simpa using z
     subst e;exact λq=>hDfp (by have q':D=b:=q;rw [q'];exact hb)
   .subst hr;refine thn h5 λ_ s6=>x5e λx H6 I6 r6 zz1=>?_;obtain ⟨y6,st6,fr6⟩:=zz1;obtain ⟨dg6,dn6,_⟩:=I6.pin (D,_) (aQ _ (ax.mpr rfl));have dn6':H6 D=none:=dn6;have all6:∀b∈D::fp,zbc (zE X sc N' Ga C fp s2 H2) [] H6 b:=λb hb=>by
     rcases au.mp hb with z|z
     .subst z;exact fD dn6'
     .exact fF fr6 b z
    have obj6:∀b∈D::fp,∃o,s6.heap.get? b=some o/\∀v,o.data≠.cell v:=λb hb=>by
     rcases au.mp hb with z|z
     .subst z;exact ⟨_,dg6,λv q=>(nomatch q)⟩
     .exact T.obj _ _ st6 b z
    have I6':=(I6.unpinned (Ga:=[])).pinned all6 obj6;refine thn (hg Ga C fp s2 H2 _ s6 τ H6 x u _ I6' r6 (step x H6 y6)) λ_ s7=>x4e λτ7 H7 I7 q7=>?_;refine thn (ht Ga C fp s2 H2 _ s7 τ7 H7 _ I7 q7) λok s8=>x3e λH8 I8 q8=>?_;have back:∀{s9:af}{H9:Hp},Inv (zE X sc N' Ga C fp s2 H2) ([]++zdd (D::fp) s6.heap) τ7 H9 s9->s9.heap.get? D=some { cls:=.type "list",data:=.seq its.toArray k }/\H9 D=none/\tn (i+1) s9.heap/\∀b∈fp,H9 b=none:=λ{s9 H9} I9=>by
     have pin:∀b o,b∈D::fp->s6.heap.get? b=some o->s9.heap.get? b=some o/\H9 b=none:=λb o hb e=>by
      have q:=I9.pin (b,o) (aQ _ (aQ _ (zfs hb e)));exact ⟨q.1,q.2.1⟩
     refine ⟨(pin D _ bf dg6).1,(pin D _ bf dg6).2,T.keep _ _ _ st6 λb hb o e=>(pin b o (aF _ hb) e).1,λb hb=>?_⟩;obtain ⟨o,e,_⟩:=T.obj _ _ st6 b hb;exact (pin b o (aF _ hb) e).2
    cases ok with
    | false =>
     obtain ⟨b1,b2,b3,b4⟩:=back I8;simp only [dj,if_false] at q8 ⊢;obtain ⟨m',hm,w'⟩:=q8;exact ⟨m',hm,i+1,τ7,ys,H8,I8.unpinned,b3,b4,b2,⟨its,k,rv,b1⟩,w'⟩
    | true =>
     simp only [if_true] at q8 ⊢;refine thn (he Ga C fp s2 H2 _ s8 τ7 H8 _ I8 q8) λy s9=>x5e λyv H9 I9 r9 zz2=>?_;obtain ⟨m',hm,w'⟩:=zz2;obtain ⟨b1,b2,b3,b4⟩:=back I9;have el:its.toArray.size<=sizeLine:=by
      have:=rv.length;simp only [aJ];lia
     refine append_at (hsz:=el) b1 λh10 sb hD10=>?_;obtain ⟨_,g1,_,g3,g4,g5⟩:=fD b2;refine ⟨m',hm,i+1,τ7,ys++[yv],H9,(I9.unpinned (Ga:=[])).turned (t':=s9.toks) (λb o hb e=>(sb.2 b hb).trans e) b2 g1 g3 g4 g5,T.keep _ _ _ b3 λb hb o e=>(sb.2 b λq=>hDfp (by rw [<- q];exact hb)).trans e,b4,b2,⟨its++[y],k+1,rv.append (.cons r9 .nil),?_⟩,w'⟩;show h10.get? D=_;rw [hD10];simp
 exact codeAny_compStart_list (loop _ rfl) (T.self _ 0 _ _ _ st1 (loop _ rfl))
theorem zci{c:Bool}{tg:bw}{wi:TI}{g:TG}{tt:TT}{te:TE}(hc:c=true->X.calm=true)(L:zaz X sc N' ix)(hi:W (PIc c X tg iter wi))
  (hg:∀Ga C fp s H,W (PG (zE X sc N' Ga C fp s H) tg g)) (ht:∀Ga C fp s H,W (PTs (zE X sc N' Ga C fp s H) ifs tt)) (he:∀Ga C fp s H,W (PE (zE X sc N' Ga C fp s H) elt te))
  (hs:∀x,dB iter X.env x=pure x:=by intro _;rfl):W (PE X (.ListComp elt [⟨tg,iter,ifs,0⟩] sc pos) (tLC ix wi g tt te)):=by
 refine ⟨?_⟩;have hi:=hi.h;have hg:=λz0 z1 z2 z3 z4=>(hg z0 z1 z2 z3 z4).h;have ht:=λz0 z1 z2 z3 z4=>(ht z0 z1 z2 z3 z4).h;have he:=λz0 z1 z2 z3 z4=>(he z0 z1 z2 z3 z4).h;intro Ga s σ H Q I h;rw [eval_ListComp];refine zkU (use:=none) hc L hi hg ht he hs I h λC D oC H' s5 m5 IX ns tu q=>?_;obtain ⟨p6,p6n,_⟩:=IX.pin (C,oC) (aQ _ (aQ _ (ax.mpr rfl)));exact ⟨m5,ns p6,λh' hsb=>⟨.ref D,H',tu (IX.pins_of λp hp=>IX.pin p (aQ _ (bN _ hp))) p6n hsb,rfl,q⟩⟩
structure zaH(B:Heap)(l:List Env)(e:Addr)(cls fl:Value)(h:Heap):Prop where
 stays:B.StaysIn h
 new:B.get? e=none
 frames:h.FunFrames B l
 obj:∃oe vs,h.get? e=some oe/\oe.cls=cls/\oe.dict=none/\oe.data = .fields vs/\2<vs.size/\vs[2]?=some .none /\
  (vs[1]?=some .none\/∃T oT ts,vs[1]?=some (.ref T)/\B.get? T=none/\T≠e/\h.get? T=some oT/\oT.data = .fields ts/\ts[3]?=some fl)
section
variable {M:Model}{A:be}{E:Value->af->Prop}{s:af}{B:Heap}{env:Env}{outer l:List Env}{L e:Addr}{cls fl:Value}
theorem zkP(o:Obj)(f:Array Value->Array Value):(o.mapFields f).dict=o.dict:=by
 obtain ⟨c,d,dt,sl⟩:=o;cases dt<;>rfl
theorem zjh{oe:Obj}{vs:Array Value}{head:Value}{had:Bool}(hfr:A.frames=some (env::outer))(hf:env.frame=some L)(st:B.StaysIn s.heap)(hn:B.get? e=none)
  (hl:s.heap.FunFrames B (env::outer)) (he:s.heap.get? e=some oe) (hc:oe.cls=cls) (hdi:oe.dict=none) (hd:oe.data = .fields vs) (hz:2<vs.size) (h2:vs[2]?=some .none)
  (k:∀h',zaH B (env::outer) e cls (bZ L) h'->s.heap.UpToSlots h'->Q () { s with heap:=h' }) :
  aH M A (do let a<-frameOf env;let pl<-entryPlaceOf L had;let b<-EntryCells.newEntry head a .none (bZ L) .none pl;setField (.ref e) 1 b) Q E s:=by
 have nfr:e∉(env::outer).filterMap (·.frame):=λz=>by
  obtain ⟨_,o,ho,nf⟩:=hl.mem z;rw [he] at ho;cases ho;exact nf vs hd
 refine aa (wpAny_frameOf_fun hfr hl hf λg only=>?_);obtain ⟨_,same,slots⟩:=only;refine aa (wpAny_entryPlaceOf λpl hpl=>?_);have key:∀(tb:Obj)(ts:Array Value),tb.data = .fields ts->ts[3]?=some (bZ L)->aH M A (setField (.ref e) 1 (.ref g.objs.size)) Q E { s with heap:=g.push tb }:=by
  intro tb ts td t3;have e1:g.get? e=some oe:=(same e nfr).trans he;have e2:(g.push tb).get? e=some oe:=ad _ e1;have hT:(g.push tb).get? g.objs.size=some tb:=aO _ (by rw [cG td]);have hne:g.objs.size≠e:=dQ (aP e1);have fresh:B.get? g.objs.size=none:=by
   cases q:B.get? g.objs.size with
   | none=>rfl
   | some o =>
    obtain ⟨sl,z⟩:=slots _ o (st _ o q);exact absurd (aP z) (bj _)
  have up:∀b o,b≠e->g.get? b=some o->((g.push tb).update e (iw (·.setIfInBounds 1 (.ref g.objs.size)))).get? b=some o:=λb o hb q =>
   (br _ _ (aU hb)).trans (ad _ q)
  have notE:∀b o,s.heap.get? b=some o->(∀ws,o.data≠.fields ws)->b≠e:=λb o q nf z=>by
   rw [z,he] at q;cases q;exact nf vs hd
  have dd:=dZ hd (·.setIfInBounds 1 (aA g.objs.size));refine cI e2 hd (by lia) (k _ ⟨λb o q=>?_,hn,?_,?_⟩ λb o q nf=>?_)
  .refine up b o (λz=>by rw [z,hn] at q;cases q) ((same b λz=>?_).trans (st b o q));rw [(hl.mem z).1] at q;cases q
  .refine hl.of_keeps λb o q nf=>?_;obtain ⟨sl,z⟩:=slots b o q;exact ⟨_,up b _ (notE b o q nf) z,rfl⟩
  .refine ⟨_,_,de _ e2 (cG dd),(fU _ _).trans hc,(zkP _ _).trans hdi,dd,by simpa using hz,by rw [fW (by decide)];exact h2,.inr ⟨g.objs.size,tb,ts,?_,fresh,hne,?_,td,t3⟩⟩
   .rw [bR (by lia)]
   .rw [br _ _ (aU hne)];exact hT
  .obtain ⟨sl,z⟩:=slots b o q;exact ⟨sl,up b _ (notE b o q nf) z⟩
 unfold EntryCells.newEntry newFields;refine aa (cx ?_ (hpl.sizeOk5 _ _ _ _ _));exact key _ _ rfl (by simp)
theorem zmk(hfr:A.frames=some (env::outer))(hf:env.frame=some L)(x:zaH B (env::outer) e cls fl s.heap)
  (k:∀h',zaH B (env::outer) e cls (bZ L) h'->s.heap.UpToSlots h'->Q () { s with heap:=h' }):aH M A (iu (.ref e) env) Q E s:=by
 obtain ⟨st,hn,hl,oe,vs,he,hc,hdi,hd,hz,h2,h1⟩:=x;unfold iu;simp only [hf];rcases h1 with h1|⟨T,oT,ts,h1,nT,Te,gT,dT,t3⟩
 .refine aa (bb he hd h1 ?_);rw [if_neg (show ¬ ((bx != bx)=true) by decide)];exact zjh hfr hf st hn hl he hc hdi hd hz h2 k
 .refine aa (bb he hd h1 ?_);rw [if_pos (show (aA T != bx)=true by simp)];refine aa (bb gT dT t3 ?_);by_cases hfl:fl=bZ L
  .subst hfl;rw [if_pos (show (bZ L==bZ L)=true by simp)];exact ar (k s.heap ⟨st,hn,hl,oe,vs,he,hc,hdi,hd,hz,h2,.inr ⟨T,oT,ts,h1,nT,Te,gT,dT,t3⟩⟩ (UpToSlots.refl _))
  .rw [if_neg (show ¬ ((fl==bZ L)=true) by simpa using hfl)];refine aa (cI gT dT (bA.mp t3).1 ?_);have oth:∀b,b≠T->(s.heap.update T (iw (·.setIfInBounds 3 bx))).get? b=s.heap.get? b:=λb hb=>br _ _ (aU hb);have notT:∀b o,s.heap.get? b=some o->(∀ws,o.data≠.fields ws)->b≠T:=λb o q nf z=>by
    rw [z,gT] at q;cases q;exact nf ts dT
   refine zjh (B:=B) (cls:=cls) hfr hf (λb o q=>?_) hn (hl.of_keeps λb o q nf=>⟨o,(oth b (notT b o q nf)).trans q,rfl⟩) ((oth e (aU Te)).trans he) hc hdi hd hz h2 λh' y up=>k h' y λb o q nf=>up b o ((oth b (notT b o q nf)).trans q) nf;exact (oth b λz=>by rw [z,nT] at q;cases q).trans (st b o q)
theorem zhs(x:zaH B l e cls fl s.heap)(k:∀h',zaH B l e cls .none h'->s.heap.UpToSlots h'->Q () { s with heap:=h' }):aH M A (setFlight (.ref e) none) Q E s:=by
 obtain ⟨st,hn,hl,oe,vs,he,hc,hdi,hd,hz,h2,h1⟩:=x;unfold setFlight;rcases h1 with h1|⟨T,oT,ts,h1,nT,Te,gT,dT,t3⟩
 .refine aa (bb he hd h1 ?_);rw [if_neg (show ¬ ((bx != bx)=true) by decide)];exact ar (k s.heap ⟨st,hn,hl,oe,vs,he,hc,hdi,hd,hz,h2,.inl h1⟩ (UpToSlots.refl _))
 .refine aa (bb he hd h1 ?_);rw [if_pos (show (aA T != bx)=true by simp)];have lt3:3<ts.size:=(bA.mp t3).1;have dd:=dZ dT (·.setIfInBounds 3 bx);have oth:∀b,b≠T->(s.heap.update T (iw (·.setIfInBounds 3 bx))).get? b=s.heap.get? b:=λb hb=>br _ _ (aU hb);have notT:∀b o,s.heap.get? b=some o->(∀ws,o.data≠.fields ws)->b≠T:=λb o q nf z=>by
   rw [z,gT] at q;cases q;exact nf ts dT
  refine cI gT dT lt3 (k _ ⟨λb o q=>(oth b λz=>by rw [z,nT] at q;cases q).trans (st b o q),hn,hl.of_keeps λb o q nf=>⟨o,(oth b (notT b o q nf)).trans q,rfl⟩,oe,vs,(oth e (aU Te)).trans he,hc,hdi,hd,hz,h2,
   .inr ⟨T,_,_,h1,nT,Te,de _ gT (cG dd),dd,?_⟩⟩ λb o q nf=>⟨o.slots,(oth b (notT b o q nf)).trans q⟩)
  rw [bR lt3]
theorem znD(hfr:A.frames=some (env::outer))(hf:env.frame=some L)(x:zaH B (env::outer) e cls fl s.heap)
  (k:∀h',zaH B outer e cls .none h'->s.heap.UpToSlots h'->Q () { s with heap:=h' }):aH M A (leaving env (.ref e)) Q E s:=by
 unfold leaving;refine aa (zmk hfr hf x λh1 y u1=>zhs (s:={ s with heap:=h1 }) y λh2 z u2=>?_);obtain ⟨a,b,⟨_,_,c⟩,d⟩:=z;exact k h2 ⟨a,b,c,d⟩ (u1.trans u2)
end
def CXW(P:aI)(w:aZ):CXT:=λouter H s E e s'=>∃(ea C:Addr)(B:Heap)(H':Hp)(sI:af),e = .ref ea/\zaH B outer ea (.ref C) .none s'.heap/\Un (frs outer) [] H H' s.heap sI.heap/\HOk P w H' sI.heap /\
 sI.os=s.os/\eV sI.gens/\s'.os=s.os/\eV s'.gens/\(∀b o,sI.heap.get? b=some o->b∉frs outer->B.get? b=some o)/\sI.heap.UpToSlots s'.heap/\E (.ref C) none H'
def zaP(X:Cx)(Ex:Addr->St->Hp->Prop):Prop:=∀(Ga:List (Addr×Obj))(σ:St)(H:Hp)(sI:af)(ea C:Addr)(B:Heap)(fl:Value)(s':af),Inv X Ga σ H sI->zaH B X.stack ea (.ref C) fl s'.heap->s'.os=sI.os->eV s'.gens ->
 (∀b o,sI.heap.get? b=some o->b∉frs X.stack->B.get? b=some o)->sI.heap.UpToSlots s'.heap->Ex C σ H->X.xe (.ref ea) s'
theorem zh7:zaP X (λ_ _ _=>False):=λ_ _ _ _ _ _ _ _ _ _ _ _ _ _ _ h=>h.elim
theorem zcL{cm:Bool}{K:ag}{mg:Str->Option Value}{base:Heap}{N:List Str}{qual:Str}{f:Addr}{cd:Value}{A:be}{outer:List Env}{E:XK} :
  zaP (zbt (CXW P w) cm P w K mg base N qual scope f cd A outer s H E) (λC _ H'=>E (.ref C) none H'):=by
 intro Ga σ H' sI ea C B fl s' I x os bare hB up q;have ff:A.frames=some outer:=by
  have:=I.ok.frames;cases h:A.frames with
  | none =>
   have z:(A.deeper (e9 qual scope s.heap.objs.size f cd)).frames=none:=by
    first|(show (A.frames.map _)=none;rw [h];rfl)|simp [be.deeper,be.under,h]
   rw [show (zbt (CXW P w) cm P w K mg base N qual scope f cd A outer s H E).A=A.deeper (e9 qual scope s.heap.objs.size f cd) from rfl,z] at this;cases this
  | some l =>
   have z:=be.frames_deeper (env:=e9 qual scope s.heap.objs.size f cd) h;rw [show (zbt (CXW P w) cm P w K mg base N qual scope f cd A outer s H E).A=A.deeper (e9 qual scope s.heap.objs.size f cd) from rfl,z] at this;have:=bK.inj this;exact congrArg some (List.cons.inj this).2
 show aH (aC P w) (A.deeper (e9 qual scope s.heap.objs.size f cd)) (leaving (e9 qual scope s.heap.objs.size f cd) (.ref ea)) _ _ s';refine znD (L:=s.heap.objs.size) (be.frames_deeper ff) rfl x λh' y u=>?_;have hid:∀b o,b≠s.heap.objs.size->sI.heap.get? b=some o->(hideAll sI.heap [s.heap.objs.size]).get? b=some o:=λb o hb e=>hideAll_get _ e (by simpa using hb);have U:=I.base;have lt:∀b o,s.heap.get? b=some o->b≠s.heap.objs.size:=λb o e=>bC (aP e);have nl:∀b:Addr,b∉(zbt (CXW P w) cm P w K mg base N qual scope f cd A outer s H E).ex:=λb z=>absurd (show b∈([]:List Addr) from z) (by simp);refine ⟨ea,C,B,H',{ sI with heap:=hideAll sI.heap [s.heap.objs.size] },rfl,y,⟨λb o e n hb _=>hid b o (lt b o e) (U.keep b o e n hb (nl b)),λb o e n hb _=>?_,λb o e n _=>U.free b o e n (nl b),λb o e _=>?_,U.tups,U.frzs,U.tbls⟩,
  I.hok.but (C:=s.heap.objs.size) I.free hid,I.os,I.bare,os.trans I.os,bare,λb o e hb=>?_,λb o e nf=>?_,q⟩
 .obtain ⟨sl,z⟩:=U.slot b o e n hb (nl b);exact ⟨sl,hid b _ (lt b o e) z⟩
 .obtain ⟨o',z⟩:=U.there b o e (nl b);exact ⟨o',hid b _ (lt b o e) z⟩
 .have e':=iL _ e;refine hB b o e' λz=>?_;have z':b∈s.heap.objs.size::frs outer:=z;rcases au.mp z' with r|r
  .rw [r] at e;have z9:(hideAll sI.heap [s.heap.objs.size]).get? s.heap.objs.size=none:=PySem.W.hideAll_none _ (by simp);exact absurd (z9.symm.trans e) (by simp)
  .exact hb r
 .exact (up.trans u) b o (iL _ e) nf
def XE(Ex:Addr->St->Hp->Prop)(σ:St):XK:=λc _ H'=>∃C,c = .ref C/\Ex C σ H'
def ze1(sp:Sp)(dvs:List V)(Ex:Addr->St->Hp->Prop)(t:TA):TE:=λσ H Q=>t σ H λvs H1=>sp (vs++dvs) H1 Q (XE Ex σ)
def zcs(C:Addr)(m:Str)(sp:Sp)(dvs:List V)(Ex:Addr->St->Hp->Prop)(ta:TE)(t:TA):TE:=λσ H Q=>ta σ H λx H1=>∃a dx fs,x = .ref a/\H1 a=some (.ins C dx fs)/\fs.lookup m=none /\
 t σ H1 λvs H2=>sp (x::(vs++dvs)) H2 Q (XE Ex σ)
section
variable {X:Cx}{cm:Bool}{k:Nat}{f C:Addr}{fd:cL}{ps:List Str}{sp:Sp}{dvs:List V}{ds:List Value}{Ex:Addr->St->Hp->Prop}{x m:Str}{p pos apos:Pos}{e o:bw}{es:List bw}{ta:TE}{t:TA}
theorem zaP.of{s':af}{v:Value}(T:zaP X Ex)(I:Inv X Ga σ H s)(h:CXW X.prog X.w X.stack H s (XE Ex σ) v s'):X.xe v s':=by
 obtain ⟨ea,C,B,H',sI,rfl,y,un,hok,os,bare,os',bare',hB,up,C',ec,q⟩:=h;cases ec;exact T Ga σ H' sI ea C B .none s' (I.call' os un hok bare λb z=>absurd z (by simp)) y (os'.trans os.symm) bare' hB up q
theorem zh5{Q:VK}{us:List Value}{vs:List V}(T:zaP X Ex)(F:zo X.prog X.w X.K X.mg X.base (CXW X.prog X.w) cm k f fd ps sp)(hr:zz cm k X.A)(hb:zaE X.K fd ps ds)(hd:zk dvs ds)
  (I:Inv X Ga σ H s) (r:zk vs us) (h:sp (vs++dvs) H Q (XE Ex σ)):aH (aC X.prog X.w) X.A (call (.ref f) us) (EP X Ga σ Q) X.xe s:=by
 have r2:zk (vs++dvs) (us++ds):=r.append hd;have hl:(us++ds).length=ps.length:=by rw [<- r2.length];exact F.len _ _ _ _ h
 refine iH (fk (F.run X.A X.stack s H ⟨us,[]⟩ (us++ds) (vs++dvs) Q (XE Ex σ) hr I.env0 (hb s us I.kIn hl) r2 h) λr s' hq=>?_);cases r with
 | error v=>exact T.of I hq
 | ok fl =>
  cases fl with
  | ret u=>exact I.after hq
  | next=>exact False.elim hq
  | brk=>exact False.elim hq
  | cont=>exact False.elim hq
theorem znG(T:zaP X Ex)(F:zo X.prog X.w X.K X.mg X.base (CXW X.prog X.w) cm k f fd ps sp)(hr:zz cm k X.A)(hg:Gl X x)(hm:X.mg x=some (.ref f))(hk:gN X.K (.ref f)=true)(hb:zaE X.K fd ps ds)(hd:zk dvs ds)
  (ha:PA X (e::es) t) (hdb:(x==("__debug__":Str))=false:=by decide) (he:aV (e::es) X.env=(false,bV e X.env)::aV es X.env:=by rfl) (hpl:(dL pos (aV es X.env)).any (·.1)=false:=by rfl) :
  PE X (.Call (.Name x p) (e::es) [] pos) (ze1 sp dvs Ex t):=by
 intro Ga s σ H Q I h;refine cO (zcB I hg hm ?_ hdb);refine iQ (h₀:=X.base) I.ok.mod.kin hk (thn (ha pos Ga s σ H _ I h) λus s1=>x5e λvs H1 I1 r q=>⟨I1.kIn,?_⟩) he hpl;exact zh5 T F hr hb hd I1 r q
theorem zoF{pl:Sem Bool}(he:PE X o ta)(c:Cls X.K C)(hm:zcO X.K C m f)(T:zaP X Ex)(F:zo X.prog X.w X.K X.mg X.base (CXW X.prog X.w) cm k f fd ps sp)(hr:zz cm k X.A)(hb:zaE X.K fd ps ds)(hd:zk dvs ds)(ha:PA X (e::es) t)
  (hst:aV (e::es) X.env=(false,bV e X.env)::aV es X.env:=by rfl) (hpl:(dL pos (aV es X.env)).any (·.1)=false:=by rfl)
  (ht:bV (.Call (.Attribute o m apos) (e::es) [] pos) X.env=(do
   let ov<-bV o X.env
   gp apos.atName
   let (f,first)<-fI [ov] (fj ov m pl)
   fe pos f first (dL pos (aV (e::es) X.env)) (gF pos (eB [] X.env))):=by rfl) :
  PE X (.Call (.Attribute o m apos) (e::es) [] pos) (zcs C m sp dvs Ex ta t):=by
 intro Ga s σ H Q I h;refine ig (pl:=pl) (thn (he Ga s σ H _ I h) λu s1=>x5e λx H1 I1 rx zz1=>?_) ht;obtain ⟨a,dx,fs,ex,ea,l,q⟩:=zz1;subst ex;obtain rfl:u=aA a:=rx;refine zen I1 ea c hm l ?_;refine iQ (first:=[.ref a]) (h₀:=X.base) I.ok.mod.kin hm.kp (thn (ha pos Ga s1 σ H1 _ I1 q) λus s2=>x5e λvs H2 I2 r q2=>⟨I2.kIn,?_⟩) hst hpl;exact zh5 (us:=.ref a::us) (vs:=.ref a::vs) T F hr hb hd I2 (.cons rfl r) q2
theorem ztW{pl:Sem Bool}(he:PE X o ta)(c:Cls X.K C)(hm:zcO X.K C m f)(T:zaP X Ex)(F:zo X.prog X.w X.K X.mg X.base (CXW X.prog X.w) cm k f fd ps sp)(hr:zz cm k X.A)(hb:zaE X.K fd ps ds)(hd:zk dvs ds)
  (ht:bV (.Call (.Attribute o m apos) [] [] pos) X.env=(do
   let ov<-bV o X.env
   gp apos.atName
   let (f,first)<-fI [ov] (fj ov m pl)
   fe pos f first (dL pos (aV [] X.env)) (gF pos (eB [] X.env))):=by rfl) :
  PE X (.Call (.Attribute o m apos) [] [] pos) (zcs C m sp dvs Ex ta zaZ):=by
 intro Ga s σ H Q I h;refine ig (pl:=pl) (thn (he Ga s σ H _ I h) λu s1=>x5e λx H1 I1 rx zz2=>?_) ht;obtain ⟨a,dx,fs,ex,ea,l,q⟩:=zz2;subst ex;obtain rfl:u=aA a:=rx;refine zen I1 ea c hm l ?_;exact callWith_K0 (first:=[.ref a]) I1.kIn hm.kp (zh5 (us:=[.ref a]) (vs:=[.ref a]) T F hr hb hd I1 (.cons rfl .nil) q)
end
theorem PS.nox{st:Stmt}{t:TS}(h:PS X.nox st t):PS X st t:=λGa s σ H D I hw =>
 bu (h Ga s σ H D (I.wish _) hw) (λ_ _ q=>q.unwish) λ_ _ z=>False.elim z
theorem Fun.okW{K:ag}{mg:Str->Option Value}{base:Heap}{x qual:Str}{st:Stmt}{f:Addr}{fd:cL}{N ps:List Str}{cm:Bool}{k:Nat}{sp:Sp}(F:Fun K x qual st f fd)(S:zr N ps (zn st))(len:∀vs H Q E,sp vs H Q E->vs.length=ps.length)
  (hbody:∀(cdv:Value)(A:be)(outer:List Env)(s:af)(H:Hp)(vs:List V)(Q:VK)(E:XK),zz cm k (A.deeper (e9 qual (zn st) s.heap.objs.size f cdv))->sp vs H Q E ->
   ∃t,PSs (zbt (CXW P w) cm P w K mg base N qual (zn st) f cdv A outer s H E) (zb5 st) t/\t { nx:=λ_ H'=>Q .non H',rt:=Q } (start N vs) H):zo P w K mg base (CXW P w) cm (k+1) f fd ps sp:=by
 obtain ⟨oc,od,kV,doc,pm,an,cdv,ct,osl,rfl,lk,hcd⟩:=F.ex;exact zfU lk hcd S len λA outer s H vs Q E hr hsp=>hbody cdv A outer s H vs Q E hr hsp
def bmV:List Value:=[.type "ValueError",.type "Exception",.type "BaseException",.type "object"]
def zaU(K:ag)(C:Addr):Prop:=excIn K C bmV "ValueError.__new__"=true
structure zgP(h:Heap)(C:Addr)(mro:List Value):Prop where
 ex:∃bm N nm q bs hdct sn sub ab col dd k0 k1 k2 k3 k5 mN,mro = .ref C::bm/\h.get? C=some (excClassObj nm q C N bs bm hdct sn sub ab col dd k0 k1 k2 k3 k5 "ValueError.__new__")/\h.Ns N mN/\mN "__init__"=none/\OwnTail h bmV bm
theorem zaU.obj{K:ag}(x:zaU K C)(X:K.In h):∃cd,clsIn K C=some cd/\zgP h C cd.mro:=by
 unfold zaU excIn at x;split at x
 .rename_i dd cd sl look;have hc:clsIn K C=some cd:=by
   unfold clsIn;rw [look]
  refine ⟨cd,hc,?_⟩;split at x
  .rename_i C' bm k0 k1 k2 k3 n k5 em es;simp only [bF,beq_iff_eq,Bool.not_eq_true'] at x;obtain ⟨⟨⟨⟨⟨c1,c2⟩,c3⟩,c4⟩,c5⟩,c6⟩:=x;subst c1 c2;obtain ⟨a1,a2,a3,a4,a5,a6,a7,a8,a9,a10,a11⟩:=cd;dsimp only at em c3 c5 c6 ⊢;subst em c3;obtain ⟨sl⟩:=sl;dsimp only at es;subst es;exact ⟨bm,a4,a1,a5,a2,a6,a7,a8,a9,a10,dd,k0,k1,k2,k3,k5,_,rfl,X _ _ look,.of_isNs (PySem.W.isNs_of_in X c5),PySem.W.nsMap_none_of_in X c5 c6,PySem.W.tail_of_in X c4⟩
  .cases x
 .cases x
def zfV(C:Addr)(Ex:Addr->St->Hp->Prop)(t:TA):TS:=λ_ σ H=>t σ H λvs H1=>vs.length<=sizeLine/\Ex C σ H1
theorem zsM{Ex:Addr->St->Hp->Prop}{x:Str}{np cpos:Pos}{e:bw}{es:List bw}{t:TA}(hc:X.calm=true)(T:zaP X Ex)(O:zaU X.K C)(hg:Gl X x)(hm:X.mg x=some (.ref C))(ha:PA X (e::es) t)
  (hdb:(x==("__debug__":Str))=false:=by decide) (hst:aV (e::es) X.env=(false,bV e X.env)::aV es X.env:=by rfl) (hpl:(dL cpos (aV es X.env)).any (·.1)=false:=by rfl) :
  PS X (.Raise (some (.Call (.Name x np) (e::es) [] cpos)) none pos) (zfV C Ex t):=by
 intro Ga s σ H D I h;obtain ⟨cd,_,⟨bm,N,nm,q,bs,hdct,sn,sub,ab,col,dd,k0,k1,k2,k3,k5,mN,em,hC,hN,hni,TL⟩⟩:=O.obj I.ok.mod.kin;refine wpAny_Raise_call_subT (C:=C) (nm:=nm) (q:=q) (N:=N) (bs:=bs) (bm:=bm) (hdct:=hdct) (sn:=sn) (sub:=sub) (ab:=ab) (col:=col) (dd:=dd) (k0:=k0) (k1:=k1) (k2:=k2) (k3:=k3) (k5:=k5) (mN:=mN) PySem.F.excBase_ValueError (TL.hasType (by decide)) (I.ok.hd hc)
  (by rw [hst];show (false||(dL cpos (aV es X.env)).any (·.1))=false;rw [hpl];rfl) hni (zcB I hg hm ⟨rfl,?_⟩ hdb)
 have hA:=ha cpos Ga s σ H _ I h;rw [hst] at hA ⊢;refine Calls.evalArgs_plain (thn hA λus s2=>x5e λvs H2 I2 r2=>x2e λhz q2=>⟨rfl,by rw [<- r2.length];exact hz,I2.bk _ _ hC,hN.keeps I2.bk,TL.keeps I2.bk,λh' ea hm'=>?_⟩);obtain ⟨tt,he,htn,_⟩:=hm'.there;have hin:∀env∈X.stack,∀a,env.frame=some a->a∈frs X.stack:=λenv hm a ha=>gt.mpr ⟨env,hm,ha⟩;refine T Ga σ H2 s2 ea C (hideAll s2.heap (frs X.stack)) .none { s2 with heap:=h' } I2 ⟨λb o e=>hm'.keeps b o (iL _ e),?_,?_,?_⟩ rfl I2.bare (λb o e hb=>hideAll_get _ e hb) (λb o e _=>⟨o.slots,hm'.keeps b o e⟩) q2
 .cases z:(hideAll s2.heap (frs X.stack)).get? ea with
  | none=>rfl
  | some o =>
   have:=iL _ z;rw [hm'.new] at this;cases this
 .exact (PySem.W.funFrames_hide I2.stack hin).of_keeps λb o e _=>⟨o,hm'.keeps b o e,rfl⟩
 .exact ⟨_,_,he,rfl,rfl,rfl,by simp,rfl,.inl rfl⟩
section
variable {M:Model}{A:be}{E:Value->af->Prop}
theorem zs7{g:Array GenState}{d:Drawn}{t:Nat}{os:OsState}{e D:Addr}{oe:Obj}{mC mD:List Value}{Q:Bool->af->Prop}(OC:zgP h C mC)(OD:zgP h D mD)(he:h.get? e=some oe)(hcls:oe.cls = .ref C)
  (hsub:mC.contains (.ref D)=true) (hq:Q true ⟨h,g,d,t,os⟩):aH M A (excMatches (.ref e) (.ref D)) Q E ⟨h,g,d,t,os⟩:=by
 obtain ⟨bm,N,nm,q,bs,hdct,sn,sub,ab,col,dd,k0,k1,k2,k3,k5,mN,rfl,hC,_,_,TC⟩:=OC;obtain ⟨bm',N',nm',q',bs',hdct',sn',sub',ab',col',dd',j0,j1,j2,j3,j5,mN',rfl,hD,_,_,TD⟩:=OD;have b1:(aA D::bm').contains (.type "BaseException")=true:=by
  rw [List.contains_cons,TD.hasType (X:="BaseException") (b:=true) (by decide),Bool.or_true]
 have b2:=tc_notTuple;unfold excMatches
 repeat (first|(with_reducible refine wpAny_loadPart_at he ?_;rw [hcls])|with_reducible refine wpAny_loadPart_at hD ?_|(with_reducible refine wpAny_isSubtype_exc hD ?_;rw [b1])|(with_reducible refine wpAny_isSubtype_exc hC ?_;rw [hsub])|wp_step)
 exact hq
end
theorem zT.ex{a:Addr}{o:HO}(x:zT P w H h a o):∃ob,h.get? a=some ob:=by
 cases o with
 | lst xs=>obtain ⟨_,_,_,_,e⟩:=x;exact ⟨_,e⟩
 | tup xs=>obtain ⟨_,_,_,o,e,_⟩:=x;exact ⟨_,e⟩
 | dK kvs=>obtain ⟨_,_,_,_,o,_,_,e,_⟩:=x;exact ⟨_,e⟩
 | dT kvs=>obtain ⟨_,_,_,_,o,_,_,e,_⟩:=x;exact ⟨_,e⟩
 | set S n=>obtain ⟨o,_,_,_,e,_⟩:=x;exact ⟨_,e⟩
 | ins C dx fs=>obtain ⟨_,_,_,e,_⟩:=x;exact ⟨_,e⟩
 | own y=>exact x
 | xd fs=>obtain ⟨_,⟨_,_,_,e,_⟩,_⟩:=x;exact ⟨_,e⟩
 | rng lo hi=>obtain ⟨_,_,_,e⟩:=x;exact ⟨_,e⟩
 | frz ob u=>exact ⟨_,x.1⟩
 | tbl ps=>exact ⟨_,x⟩
 | met f y=>exact ⟨_,x⟩
 | ext φ=>exact x.2.1
abbrev cxP(X:Cx)(Ga:List (Addr×Obj)):Cx:={ X with pn:=X.pn++Ga }
theorem Cx.Ok.p(ok:X.Ok)(Ga:List (Addr×Obj)):(cxP X Ga).Ok :=
 ⟨ok.mod,ok.kind,ok.glob,ok.blt,ok.above,ok.inj,ok.has,ok.cab,ok.hd,ok.frames,ok.stk,ok.exf,ok.bs,ok.bsz,ok.noex,ok.exfs,ok.funs,ok.frf⟩
theorem Inv.p(I:Inv X Ga σ H s):Inv (cxP X Ga) [] σ H s :=
 ⟨I.ok.p Ga,I.os,I.bare,I.base,I.loc,I.cell,I.free,I.freeC,λp hp=>I.pin p (by have h:p∈(X.pn++Ga)++[]:=hp;simpa using h),I.hok,I.len,I.hdk⟩
theorem Inv.unp(ok:X.Ok)(I:Inv (cxP X Ga) [] σ H s):Inv X Ga σ H s :=
 ⟨ok,I.os,I.bare,I.base,I.loc,I.cell,I.free,I.freeC,λp hp=>I.pin p (by show p∈(X.pn++Ga)++[];simpa using hp),I.hok,I.len,I.hdk⟩
abbrev zgl(X:Cx)(Ga:List (Addr×Obj))(Ex:Addr->St->Hp->Prop):Cx:=(cxP X Ga).wish λe s'=>∃(ea C:Addr)(B:Heap)(H':Hp)(fl:Value)(σ:St)(sI:af),e = .ref ea/\Inv (cxP X Ga) [] σ H' sI/\zaH B X.stack ea (.ref C) fl s'.heap /\
 s'.os=sI.os/\eV s'.gens/\(∀b o,sI.heap.get? b=some o->b∉frs X.stack->B.get? b=some o)/\sI.heap.UpToSlots s'.heap/\Ex C σ H'
theorem zi8{Ex:Addr->St->Hp->Prop}:zaP (zgl X Ga Ex) Ex:=λps σ H sI ea C B fl s' I y os bare hB up q =>
 ⟨ea,C,B,H,fl,σ,sI,rfl,(I.unwish.pins_of λp hp=>(nomatch hp)),y,os,bare,hB,up,q⟩
abbrev zd4(X:Cx)(Ga:List (Addr×Obj))(ea:Addr):Cx:={ X with pn:=X.pn++Ga,A:=X.A.mark (some (.ref ea)),calm:=false,xe:=λ_ _=>False }
def zdN(C:Addr)(o:Obj):Prop:=o.cls = .ref C/\o.dict=none/\∃vs,o.data = .fields vs
theorem zlO{sI s':af}{ea:Addr}{B:Heap}{fl:Value}(hex:X.ex=[])(I:Inv (cxP X Ga) [] σ H sI)(y:zaH B X.stack ea (.ref C) fl s'.heap)(os:s'.os=sI.os)(bare:eV s'.gens)
  (hB:∀b o,sI.heap.get? b=some o->b∉frs X.stack->B.get? b=some o) (up:sI.heap.UpToSlots s'.heap) :
  H ea=none/\∃oe,zdN C oe/\s'.heap.get? ea=some oe/\Inv (zd4 X Ga ea) [] σ (upd H ea (.frz oe (.own 0))) s':=by
 obtain ⟨st,hn,hl,oe,vs,he,hc,hdi,hd,hz,h2,h1⟩:=y;have nea:ea∉frs X.stack:=λz=>by
  obtain ⟨_,o,ho,nf⟩:=hl.mem z;rw [he] at ho;cases ho;exact nf vs hd
 have new:sI.heap.get? ea=none:=by
  cases q:sI.heap.get? ea with
  | none=>rfl
  | some o =>
   have:=hB _ o q nea;rw [hn] at this;cases this
 have hH:H ea=none:=by
  cases q:H ea with
  | none=>rfl
  | some u =>
   obtain ⟨ob,z⟩:=(I.hok ea u q).ex;rw [new] at z;cases z
 have keep:∀b o,sI.heap.get? b=some o->b∉frs X.stack->s'.heap.get? b=some o:=λb o e hb=>st b o (hB b o e hb);have slot:∀b o,sI.heap.get? b=some o->b∈frs X.stack->∃sl,s'.heap.get? b=some { o with slots:=sl }:=λb o e hb=>by
  obtain ⟨_,o',ho',nf⟩:=I.stack.mem (show b∈(cxP X Ga).stack.filterMap (·.frame) from hb);rw [e] at ho';cases ho';exact up b o e nf
 have I1:Inv (cxP X Ga) [] σ H s':=I.call' (ch:=[]) os ⟨λb o e _ hb _=>keep b o e hb,λb o e _ hb _=>slot b o e hb,λ_ _ _ n _=>n,λb o e _=>?_,λ_ _ e=>e,λ_ _ _ e=>e,λb ps e=>⟨#[],by rw [e];simp⟩⟩
  (λb u e=>(I.hok b u e).stay (λc v hc q=>keep c v q λz=>?_) (λ_ q=>q) λ_ _ q=>q) bare λb z=>absurd z (by simp)
 .have nel:ea≠X.env.locals:=λz=>by
   obtain ⟨m,⟨o,es,ep,ho,hdd,_⟩,_⟩:=I1.loc;have ho':s'.heap.get? ea=some o:=by rw [z];exact ho
   rw [he] at ho';cases ho';rw [hd] at hdd;cases hdd
  refine ⟨hH,oe,⟨hc,hdi,vs,hd⟩,he,⟨⟨I1.ok.mod,I1.ok.kind,I1.ok.glob,I1.ok.blt,I1.ok.above,I1.ok.inj,I1.ok.has,I1.ok.cab,λz=>(nomatch z),I1.ok.frames,I1.ok.stk,I1.ok.exf,I1.ok.bs,I1.ok.bsz,I1.ok.noex,I1.ok.exfs,I1.ok.funs,I1.ok.frf⟩,I1.os,I1.bare,
   ⟨I1.base.keep,I1.base.slot,λb o e n hx=>?_,I1.base.there,λb xs e=>?_,λb o u e=>?_,λb ps e=>?_⟩,I1.loc,I1.cell,?_,λx c e=>?_,λp hp=>?_,I1.hok.add hH ⟨he,oe,he⟩,I1.len,.inr ⟨ea,oe,vs,rfl,zu,hd,h2,C,hc⟩⟩⟩
  .obtain ⟨o',z⟩:=I.base.there b o e hx;rw [zd (λw=>by rw [w,new] at z;cases z)];exact I1.base.free b o e n hx
  .have z:=I1.base.tups b xs e;rw [zd (zp z hH)];exact z
  .have z:=I1.base.frzs b o u e;rw [zd (zp z hH)];exact z
  .obtain ⟨more,z⟩:=I1.base.tbls b ps e;exact ⟨more,by rw [zd (zp z hH)];exact z⟩
  .rw [zd (aU nel)];exact I1.free
  .have nc:c≠ea:=λw=>by
    obtain ⟨v,o,ho,hdd⟩:=I1.cell x c e;rw [w,he] at ho;cases ho;rw [hd] at hdd;cases hdd
   rw [zd nc];exact I1.freeC x c e
  .obtain ⟨a,b,c,d,f⟩:=I1.pin p hp;refine ⟨a,?_,c,d,f⟩;rw [zd λw=>?_]
   .exact b
   .have:=(I.pin p hp).1;rw [w,new] at this;cases this
 .by_cases hb:b∈frs X.stack
  .obtain ⟨sl,z⟩:=slot b o e hb;exact ⟨_,z⟩
  .exact ⟨o,keep b o e hb⟩
 .have zf:H c=none:=I.stkFree c z;rcases hc with w|w
  .rw [w] at zf;rw [zf] at e;cases e
  .rw [zf] at w;cases w
theorem Inv.unsuite{ea:Addr}(ok:X.Ok)(hh:X.A.handled=none)(I:Inv (zd4 X Ga ea) [] σ H s):Inv X Ga σ H s :=
 ⟨ok,I.os,I.bare,I.base,I.loc,I.cell,I.free,I.freeC,λp hp=>I.pin p (by show p∈(X.pn++Ga)++[];simpa using hp),I.hok,I.len,.inl hh⟩
end L2
namespace L2
open PySem PySem.Spec PyProof.Rows PySem.W
section
variable {prog:aI}{w:aZ}{A:be}{E:Value->af->Prop}{K:Frag}{h:Heap}{g:Array GenState}{d:Drawn}{t:Nat}{os:OsState}{e C:Addr}{oe:Obj}
theorem znm{tk:Tok}{Q:Fin->af->Prop}(X:K.In h)(I:InstAt h e oe C none)(f3:findIn K (.ref C) "__class__"=some (some (.builtin "object.__class__")))(hm:mroIn K C (.type "object")=some true)
  (hq:Q (.done (.ret (.ref C))) ⟨h,g,d,t,os⟩):aH (aC prog w) A (aN.«object.__getattribute__» ⟨[.ref e,.str "__class__" tk],[]⟩) Q E ⟨h,g,d,t,os⟩:=by
 have L0:=I.type (M:=aC prog w);have L3:=looks_findIn (M:=aC prog w) X f3;have f5:=F.typeOf_object_class;have f6:=F.slot_gs_get.lookup;have f7:=F.slot_gs_set.lookup
 repeat (any_goals (first|assumption|with_reducible refine L0.at ?_|with_reducible refine L3.at ?_|wp_step))
 exact class_get (s:=⟨h,g,d,t,os⟩) X I hm (ar hq)
theorem zoT{nameV:Value}{Q:Unit->af->Prop}(X:K.In h)(I:InstAt h e oe C none)(hb:mroIn K C (.type "BaseException")=some true)(hq:Q () ⟨h,g,d,t,os⟩) :
  aH (aC prog w) A (gg "BaseException.__getattribute__" ⟨[.ref e,nameV],[]⟩) Q E ⟨h,g,d,t,os⟩:=by
 have L0:=I.type (M:=aC prog w);have L4:=looks_mroIn (M:=aC prog w) X hb;have c1:builtinKind "BaseException.__getattribute__"=some .slot:=by decide +kernel
 have c2:splitId "BaseException.__getattribute__"=some ("BaseException","__getattribute__"):=by decide +kernel
 have c3:=F.args_bexc_ga (.ref e) nameV;simp only [gg,c1,c2];refine aa ?_;unfold isInstance
 repeat (first|with_reducible refine L0.at ?_|with_reducible refine L4.at ?_|wp_step)
 exact hq
theorem zog{Q:Option Value->af->Prop}(X:K.In h)(I:InstAt h e oe C none)(f1:findIn K (.ref C) "__getattribute__"=some (some (.builtin "BaseException.__getattribute__")))(f2:findIn K (.ref C) "__getattr__"=some none)
  (f3:findIn K (.ref C) "__class__"=some (some (.builtin "object.__class__"))) (hm:mroIn K C (.type "object")=some true) (hb:mroIn K C (.type "BaseException")=some true) (hq:Q (some (.ref C)) ⟨h,g,d,t+1,os⟩) :
  aH (aC prog w) A (getAttr? (.ref e) "__class__") Q E ⟨h,g,d,t,os⟩:=by
 have L0:=I.type (M:=aC prog w);have L1:=looks_findIn (M:=aC prog w) X f1;have L2:=looks_findIn (M:=aC prog w) X f2;have f4:=iC.ga.bind (.ref e);have x2:(builtin "BaseException.__getattribute__" == builtin "object.__getattribute__")=false:=by decide +kernel
 have x1:(onTheHeap (aA C)&&builtin "BaseException.__getattribute__" == builtin "object.__getattribute__")=false:=by rw [x2];rfl
 have x0:(false&&onTheHeap (builtin "BaseException.__getattribute__"))=false:=rfl;unfold getAttr? getAttrBy?;refine aa (wpAny_mkText (aa (dS ?_)))
 repeat (any_goals (first|assumption|with_reducible refine L0.at ?_|with_reducible refine L1.at ?_|with_reducible refine L2.at ?_|wp_step))
 refine gE iC.ga.plain F.entry_bexc_ga (zoT X I hb (znm X I f3 hm ?_))
 repeat (any_goals (first|assumption|wp_step))
structure zkY(K:Frag)(C:Addr):Prop where
 err:zaU K C
 ga:findIn K (.ref C) "__getattribute__"=some (some (.builtin "BaseException.__getattribute__"))
 gr:findIn K (.ref C) "__getattr__"=some none
 cl:findIn K (.ref C) "__class__"=some (some (.builtin "object.__class__"))
 ob:mroIn K C (.type "object")=some true
 ba:mroIn K C (.type "BaseException")=some true
theorem zre(O:zkY K C):KitX K (.ref e) (.ref C) (λh=>InstAt h e oe C none) where
 ty:=λ_ _ _ I=>I.type
 it:=λM h X I=>by
  obtain ⟨cd,_,⟨bm,N,nm,q,bs,hdct,sn,sub,ab,col,dd,k0,k1,k2,k3,k5,mN,_,hC,_⟩⟩:=O.err.obj X;intro A' Q' E' s' k q';unfold isType loadHead;exact aa (wpAny_loadPart (k _ _ hC) (ar q'))
 ne:=λh tp dd its n sl X htp=>by
  obtain ⟨cd,_,⟨bm,N,nm,q,bs,hdct,sn,sub,ab,col,d1,k0,k1,k2,k3,k5,mN,_,hC,_⟩⟩:=O.err.obj X;refine eJ.mpr λz=>?_;have ec:C=tp:=aA.inj (beq_iff_eq.mp z);subst ec;have wd:=congrArg Obj.data (bK.inj (hC.symm.trans htp));cases wd
 ca:=λ{prog w A E Q s} X I k=>by
  obtain ⟨h,g,d,t,os⟩:=s;exact zog X I O.ga O.gr O.cl O.ob O.ba k
end
def zuc:V->Option Value
 | .ref a=>some (.ref a)
 | .ty n=>some (.type n)
 | _=>none
inductive TyX(K:Frag)(H:Hp):V->Value->Prop where
 | of {x:V}{t:Value} (h:zbl K H x t):TyX K H x t
 | exc {a C:Addr}{o:Obj} (e:H a=some (.frz o (.own 0))) (ho:zdN C o) (O:zkY K C):TyX K H (.ref a) (.ref C)
def zeJ(K:Frag):List V->Hp->VK->Prop:=λxs H Q=>∃x c t u b,xs=[x,c]/\zuc c=some u/\TyX K H x t/\kitOne K t u=some b/\Q (.bl b) H
theorem zdt{X:Cx}:zK X (.builtin "isinstance") (zeJ X.K):=by
 intro Ga s σ H xs us Q I r h;obtain ⟨x,c,t,u,b,rfl,hc,ty,hk,q⟩:=h;cases r with
 | cons r1 rr =>
  cases rr with
  | cons r2 rr =>
   cases rr;rename_i v1 v2;have e2:v2=u:=by
    cases c with
    | ref a=>cases hc;exact r2
    | ty n=>cases hc;exact r2
    | _=>cases hc
   subst e2;cases ty with
   | of ty=>exact zuL I r1 ty hk λtk=>⟨.bl b,H,I.tok tk,rfl,q⟩
   | exc e ho O =>
    rename_i a C o;obtain rfl:v1=aA a:=r1;obtain ⟨z,_⟩:=I.hok a _ e;obtain ⟨c1,c2,vs,c3⟩:=ho;have J:InstAt s.heap a o C none:=⟨z,c1,by unfold notCls;rw [c3],by rw [c2];trivial⟩;exact kia_one (zre O) I.kIn J hk (λw=>nomatch w) λtk=>⟨.bl b,H,I.tok tk,rfl,q⟩
end L2
namespace L2
open PySem PySem.Spec PyProof.Rows
variable{X:Cx}{Ga:List (Addr×Obj)}{σ τ:St}{H H':Hp}{s:af}{A:be}{h h':Heap}{e l o tg:bw}{C a b i1 i2 it l1 l2:Addr}{i j:Int}{items:Array Value}{Q:Value->af->Prop}{env:Env}{elts es:List bw}{apos cpos pos pos' tp:Pos}{xs:List (List Key×Addr×Value)}{ys:List V}{c:Bool}{v y:V}{ta tb td te tl to ty:TE}{f m x z:Str}{T:String}{Ex:Addr->St->Hp->Prop}{R:It->Hp->Prop}{pl:Sem Bool}{u:Value}{D:zaG}{hi lo:Option Int}{P:aI}{w:aZ}{kk:Nat}{st:Stmt}{kvs:List (List Key×V)}
def Hnd(A:be)(h:Heap):Prop:=A.handled=none\/∃(a:Addr)(o:Obj)(vs:Array Value),A.handled=some (.ref a)/\h.get? a=some o/\o.data = .fields vs/\vs[2]?=some .none/\∃C,o.cls = .ref C
theorem Inv.hnd(I:Inv X Ga σ H s):Hnd X.A s.heap:=by
 rcases I.hdk with h|⟨a,o,vs,h1,h2,h3⟩
 .exact .inl h
 .exact .inr ⟨a,o,vs,h1,(I.hok a _ h2).1,h3⟩
theorem Hnd.keeps(x:Hnd A h)(k:∀b o,(∃C,o.cls = .ref C)->h.get? b=some o->h'.get? b=some o):Hnd A h':=by
 rcases x with x|⟨a,o,vs,h1,h2,h3,h4,h5⟩
 .exact .inl x
 .exact .inr ⟨a,o,vs,h1,k a o h5 h2,h3,h4,h5⟩
theorem zqk:entryFor table "proto.unchain"=some aN.«proto.unchain»:=entryFor_of_tree (by kernel_rfl)
section
variable {prog:aI}{w:aZ}{A:be}{E:Value->af->Prop}{s:af}
theorem zvt{α:Type}{e:Addr}{oe:Obj}{ws:Array Value}{Q:α->af->Prop}(hh:Hnd A s.heap)(he:s.heap.get? e=some oe)(hd:oe.data = .fields ws)(hz:2<ws.size)(hc:∀C,oe.cls≠.ref C)
  (k:∀h',fu e s.heap h'->(∃o,h'.get? e=some o/\o.cls=oe.cls)->E (.ref e) { s with heap:=h' }):aH (aC prog w) A (raiseNew (.ref e):Sem α) Q E s:=by
 unfold raiseNew;refine aa (wpAny_handled ?_);rcases hh with hh|⟨a,o,vs,h1,h2,h3,h4,C,h5⟩
 .rw [hh];exact aa (ar (wpAny_throw (k s.heap (fu.refl _ _) ⟨oe,he,rfl⟩)))
 .rw [h1];have ne:a≠e:=λz=>by rw [z,he] at h2;cases h2;exact hc C h5
  dsimp only;rw [if_pos (show (aA a != aA e)=true by simpa using ne)];refine aa (bE (wpAny_runValue (codeAny_builtin zqk ?_)));refine aa (m:=hR (.ref a) 2) (bb h2 h3 h4 ?_);rw [if_pos (show (bx==bx)=true by rfl)];refine ar (aa ?_);show aH _ _ (setField (.ref e) 2 (.ref a)) _ _ _;have dd:=dZ hd (·.setIfInBounds 2 (aA a));exact cI he hd hz (wpAny_throw (k _ (fu.update ..) ⟨_,de _ he (cG dd),fU _ _⟩))
theorem zeH{α:Type}{Q:α->af->Prop}(hh:Hnd A s.heap)(k:∀h' e,(∀b o,s.heap.get? b=some o->h'.get? b=some o)->(∃o,h'.get? e=some o/\o.cls = .type "StopIteration")->E (.ref e) { s with heap:=h' }) :
  aH (aC prog w) A (newExc (.type "StopIteration") []>>=λe=>(raiseNew e:Sem α)) Q E s:=by
 refine aa ?_;simp only [newExc,newTuple];refine aa (cx (aa (m:=firstArgMember _ _) (wpAny_of_eq (a:=bx) (by first|rfl|(simp only [firstArgMember];rfl)) (cx ?_ (by size_fits)))) (by size_fits));have old:∀(o1 o2:Obj) b o,s.heap.get? b=some o->((s.heap.push o1).push o2).get? b=some o:=λo1 o2 b o q=>ad _ (ad _ q);refine zvt (hh.keeps λb o _ q=>old _ _ b o q) (aO _ rfl) rfl (by simp;lia) (λC z=>by cases z) λh' sb=>x3e λo g c=>k h' _ (λb o q=>?_) ⟨o,g,c⟩;refine (sb.2 b (λz=>?_)).trans (old _ _ b o q);have:=aP q;rw [z,cj] at this;exact absurd (bz this) (bj _)
theorem zqh{t:Addr}{i:Nat}{Q:Option Value->af->Prop}(hh:Hnd A s.heap)(hit:s.heap.IsTupleIter it t i)(ht:s.heap.IsTuple t items)(hx:items[i]?=none)
  (k:∀h',ExtBut it s.heap h'->Q none { s with heap:=h' }):aH (aC prog w) A (f8 (.ref it)) Q E s:=by
 obtain ⟨o,ho,hc,hd⟩:=id hit;obtain ⟨ol,hol,_,nl,hdl⟩:=ht;unfold f8;refine aa (dS (bO (name:=aj "__next__") hit.typeIs F.slot_tuple_iterator_next (cT F.slot_tuple_iterator_next hit.typeIs F.entry_tuple_iterator_next ?_ (F.args_tuple_iterator_next_1 _))));refine aa (m:=hR (.ref it) 0) (bb ho hd (x:=.ref t) rfl ?_);rw [if_neg (show ¬ ((aA t==bx)=true) by simp)];refine aa (m:=hR (.ref it) 1) (bb ho hd (x:=.int i 0) rfl (aa (m:=seqItems? (.ref t)) (dm hol hdl ?_)));simp only [cJ,hx];refine aa (cB (aa (cI ho hd (by simp) ?_)));refine zeH (hh.keeps λb q hq e=>(br _ _ λz=>?_).trans e) λh' e up=>x3e λo' g' c' =>
  aa (fY (T:="StopIteration") (b:=true) ⟨o',g',c'⟩ hG (ar (k h' λb q hb z=>up b q ((br _ _ (aU hb)).trans z))))
 obtain ⟨C,hC⟩:=hq;rw [<- z,ho] at e;cases e;rw [hc] at hC;cases hC
theorem zvx{x1}{t:Addr}{Q:Unit->af->Prop}(hh:Hnd A s.heap)(ht:iF s.heap t items)(hn:(cY elts env).length=items.size)(hstar:(cY elts env).findIdx? (·.1)=none)
  (h:∀h',ExtBut s.heap.objs.size s.heap h'->aH (aC prog w) A (assignInOrder ((cY elts env).map (·.2)) items.toList) Q E { s with heap:=h' }):aH (aC prog w) A (assign (.Tuple elts x1 pos) env (.ref t)) Q E s:=by
 have lt:t≠s.heap.objs.size:=by obtain ⟨o,ho,_⟩:=ht;exact bC (aP ho)
 have all:List.take items.size (List.drop 0 items.toList)=items.toList:=by rw [drop_zero];exact bo (by simp)
 have core:aH (aC prog w) A (unpackItems (.ref t) items.size none) (λvs s'=>∃h',vs=items.toList/\s'={ s with heap:=h' }/\ExtBut s.heap.objs.size s.heap h') E s:=by
  unfold unpackItems;refine aa ?_;unfold notIterableAtAll;refine aa (wpAny_specialOf ht.typeIs slot_tuple_iter.lookup (ar ?_));simp only [dj,if_false];refine aa (bE (iter_tuple ht (aa (bE (draw_tuple lt items.size 0 _ _ ⟨_,aO _ rfl,rfl,rfl⟩ (ht.push _) (by lia) λh1 it1 s1=>?_)))));rw [all,if_neg (by simp)];have t1:iF h1 t items:=(ht.push _).extBut s1.extBut lt;have up1:∀b o,b≠s.heap.objs.size->s.heap.get? b=some o->h1.get? b=some o:=λb o hb e=>s1.extBut b o hb (ad _ e);refine aa (bE (zqh (s:={ s with heap:=h1 }) (hh.keeps λb o _ e=>up1 b o (bC (aP e)) e) it1 t1 (by simp) λh2 e2=>?_));simp only [Option.isSome_none,dj,if_false];exact ar ⟨h2,rfl,rfl,λb o hb e=>e2 b o hb (up1 b o hb e)⟩
 rw [assign_Tuple];refine aa (dF ?_);unfold unpack;rw [hstar,hn];refine aa (bE (bu core (λvs s'=>x3e λh' e1=>x2e λe2 x=>?_) λ_ _ z=>z));subst e1 e2;exact h h' x
end
theorem zln{k:Nat}{t:TGs}{n:Nat}(h:PGs X es t)(hl:(cY es X.env).length=n:=by rfl)(hst:(cY es X.env).findIdx? (·.1)=none:=by rfl):PG X (.Tuple es k pos) (zg3 X.K n t):=by
 intro Ga s σ H v u Q I r q;obtain ⟨a,xs,rfl,hx,hn,q⟩:=q;obtain rfl:u=aA a:=r;obtain ⟨its,rv,ht,hz⟩:=I.tuple hx;refine zvx I.hnd ht (by rw [hl,<- hn,rv.length];simp) hst λh' ex=>?_;have I1:Inv X Ga σ H { s with heap:=h' }:=I.kept (t':=s.toks) λb o e=>ex b o (bC (aP e)) e;have:=h Ga { s with heap:=h' } σ H xs its Q I1 rv q;simpa using this
section
variable {prog:aI}{w:aZ}{A:be}{E:Value->af->Prop}{s:af}
end
def eqL(xs ys:List V):Bool:=xs.length==ys.length&&(ic xs.length).all λi=>eqV (xs.getD i .non) (ys.getD i .non)
theorem ztK:∀{xs:List V},xs.all zL=true->(∀x∈xs,∀b,x≠.byt b)->eqL xs xs=true:=by
 intro xs h _;unfold eqL;rw [beq_self_eq_true,gv,bJ];intro i hi;have hlt:=gU.mp hi;have hm:xs[i]∈xs:=fO hlt;have:=bJ.mp h _ hm;rw [av,ah hlt,Option.getD_some];cases e:xs[i] with
 | non=>rfl
 | bl b=>simp [eqV]
 | int j=>simp [eqV]
 | str x=>simp [eqV]
 | _=>rw [e] at this;cases this
section
variable {X:Cx}
def zjW(K:ag)(neg:Bool):R2:=λx y H Q=>∃a b xs ys,x = .ref a/\y = .ref b/\SqL K H a xs/\SqL K H b ys/\xs.all zL=true/\ys.all zL=true/\Q (.bl (if neg then !eqL xs ys else eqL xs ys)) H
theorem zlD{xs:List V}(I:Inv X Ga σ H s)(ha:SqL X.K H a xs)(hb:SqL X.K H b ys)(fx:xs.all zL=true)(fy:ys.all zL=true) :
  ∃is js:List Value,s.heap.IsList a is.toArray/\s.heap.IsList b js.toArray/\xs.length=is.length/\ys.length=js.length/\∀(A:be)(j:Nat)(h1:j<is.toArray.size)(h2:j<js.toArray.size),SeqAt.EqAt A s is.toArray[j] js.toArray[j] (eqV (xs.getD j .non) (ys.getD j .non)):=by
 obtain ⟨is,r1,p1,_⟩:=I.list ha;obtain ⟨js,r2,p2,_⟩:=I.list hb;refine ⟨is,js,p1.isList,p2.isList,r1.length,r2.length,λA j h1 h2=>?_⟩;have l1:=r1.length;have l2:=r2.length;simp only [aJ] at h1 h2;have e1:xs[j]?=some (xs.getD j .non):=by rw [av,ah (by lia)];rfl
 have e2:ys[j]?=some (ys.getD j .non):=by rw [av,ah (by lia)];rfl
 obtain ⟨u,g1,q1⟩:=r1.get e1;obtain ⟨v,g2,q2⟩:=r2.get e2;rw [ah h1] at g1;rw [ah h2] at g2;have f1:=bJ.mp fx _ (aE e1);have f2:=bJ.mp fy _ (aE e2);have z:=zgv (A:=A) (s:=s) q1 q2 f1 f2;have w1:is.toArray[j]=u:=by simpa using bK.inj g1
 have w2:js.toArray[j]=v:=by simpa using bK.inj g2
 rw [w1,w2];exact z
theorem zi7(hu:X.A.units<cLine):OpR X (bG .Eq) (zjW X.K false):=by
 intro Ga s σ H x y v u Q I rx ry h;obtain ⟨a,b,xs,ys,rfl,rfl,ha,hb,fx,fy,q⟩:=h;cases rx;cases ry;obtain ⟨is,js,p1,p2,l1,l2,eq⟩:=zlD I ha hb fx fy;by_cases hz:is.toArray.size=js.toArray.size
 .refine SeqAt.eq_listAt p1 p2 hz hu (λj h1 h2=>eq _ j h1 h2) ⟨.bl _,H,I,rfl,?_⟩;have e:eqL xs ys=(ic is.toArray.size).all λj=>eqV (xs.getD j .non) (ys.getD j .non):=by
   unfold eqL;simp only [aJ] at hz ⊢;rw [l1,l2,hz];simp
  rw [<- e];exact q
 .refine SeqAt.eq_list_lengthsAt p1 p2 (by simpa using hz) hu ⟨.bl false,H,I,rfl,?_⟩;have e:eqL xs ys=false:=by
   unfold eqL;have:(xs.length==ys.length)=false:=by simp only [aJ] at hz;rw [l1,l2];simpa using hz
   rw [this,hW]
  have q':Q (.bl (eqL xs ys)) H:=q;rw [e] at q';exact q'
theorem zlb(hu:X.A.units<cLine):OpR X (bG .NotEq) (zjW X.K true):=by
 intro Ga s σ H x y v u Q I rx ry h;obtain ⟨a,b,xs,ys,rfl,rfl,ha,hb,fx,fy,q⟩:=h;cases rx;cases ry;obtain ⟨is,js,p1,p2,l1,l2,eq⟩:=zlD I ha hb fx fy;have q':Q (.bl (!eqL xs ys)) H:=q;by_cases hz:is.toArray.size=js.toArray.size
 .refine SeqAt.RcNeAt.lists p1 p2 hz hu (λj h1 h2=>eq _ j h1 h2) _ _ _ _ ⟨.bl _,H,I,rfl,?_⟩;have e:eqL xs ys=(ic is.toArray.size).all λj=>eqV (xs.getD j .non) (ys.getD j .non):=by
   unfold eqL;simp only [aJ] at hz ⊢;rw [l1,l2,hz];simp
  rw [<- e];exact q'
 .refine SeqAt.RcNeAt.lists_lengths p1 p2 (by simpa using hz) hu _ _ _ _ ⟨.bl true,H,I,rfl,?_⟩;have e:eqL xs ys=false:=by
   unfold eqL;have:(xs.length==ys.length)=false:=by simp only [aJ] at hz;rw [l1,l2];simpa using hz
   rw [this,hW]
  rw [e] at q';exact q'
theorem Inv.big(I:Inv X Ga σ H s):sysModules<s.heap.objs.size:=by
 have h:az<s.heap.objs.size:=(I.mod.glob.keeps I.bk).lt;exact lt_trans (by decide) h
def znA:TE:=λ_ H Q=>∀p,H p=none->Q (.ref p) (upd H p (.dK []))
theorem znt:PE X (.Dict [] [] pos) znA:=λGa s σ H Q I h =>
 wpAny_Dict_empty ⟨.ref s.heap.objs.size,_,I.laid (a:=s.heap.objs.size) (o:=.dK []) (t':=s.toks) (λ_ _ q=>ad _ q) (ae _) ⟨cf _,beq_eq_false_iff_ne.mpr (aU (bC I.big)),[],.nil,Heap.DictOf.new s.heap⟩,rfl,h _ (I.hok.fresh (ae _))⟩
def znJ(K:ag)(n:Nat)(t:TGs):TG:=λv σ H Q=>∃a xs,v = .ref a/\SqL K H a xs/\xs.length=n/\t xs σ H Q
theorem zlN{k:Nat}{t:TGs}{n:Nat}(hc:X.calm=true)(h:W (PGs X es t))(hl:(cY es X.env).length=n:=by rfl)(hst:(cY es X.env).findIdx? (·.1)=none:=by rfl):W (PG X (.Tuple es k pos) (znJ X.K n t)):=by
 refine ⟨?_⟩;have h:=h.h;intro Ga s σ H v u Q I r q;obtain ⟨a,xs,rfl,hx,hn,q⟩:=q;obtain rfl:u=aA a:=r;obtain ⟨its,rv,hp,hz⟩:=I.list hx;rw [assign_Tuple];refine aa (dF ?_);unfold unpack;have hs:n=its.toArray.size:=by rw [<- hn,rv.length];simp
 rw [hl,hst,hs];refine aa (bE (PySem.W.kun_itemsOf (I.ok.hd hc) hp.isList λh' ex=>?_));have I1:Inv X Ga σ H { s with heap:=h' }:=I.kept (t':=s.toks) λb o e=>ex b o (bC (aP e)) e;have:=h Ga { s with heap:=h' } σ H xs its Q I1 rv q;simpa using this
end
theorem zz.mark{k:Nat}{v:Option Value}(r:zz c k A):zz false k (A.mark v):=⟨λh=>(nomatch h),r.dp,r.un,r.gd⟩
def zX:bw->Bool
 | .Starred _ _=>false
 | _=>true
theorem zbA(h:zX e=true):aV (e::es) env=(false,bV e env)::aV es env:=by
 cases e<;>first|rfl|(exact absurd (show false=true from h) aw)
def zbL(es:List bw):Bool:=es.all zX
theorem ziI{env:Env}:∀{es:List bw}(h:zbL es=true),(aV es env).any (·.1)=false
 | [],_=>rfl
 | e::es,h=>by
  unfold zbL at h;rw [List.all_cons,bF] at h;rw [zbA h.1,hU,ziI h.2];rfl
theorem zcl(h:zbL es=true):(dL pos (aV es env)).any (·.1)=false:=by
 have q:=ziI (env:=env) h;unfold dL;rw [List.any_map];exact q
theorem zbx(h:zX e=true):aV [e] env=[(false,bV e env)]:=(zbA h).trans rfl
section
variable {X:Cx}
theorem zb{t:TA}(ha:W (PE X e te))(hr:W (PA X es t))(hp:zX e=true:=by rfl):W (PA X (e::es) (zeS te t)):=by refine ⟨?_⟩;have ha:=ha.h;have hr:=hr.h;exact zb6 ha hr (zbA hp)
theorem zI{id:String}{r:List V->Hp->VK->Prop}{t:TA}{p:Pos}(hc:zK X (.builtin id) r)(hg:Gl X x)(hm:X.mg x=none)(hv:eL x=some (.builtin id))(ha:W (PA X (e::es) t))(hp:zX e=true:=by rfl)(hps:zbL es=true:=by rfl)(hn:x≠"__name__":=by decide)(hdb:(x==("__debug__":Str))=false:=by decide):W (PE X (.Call (.Name x p) (e::es) [] pos) (tCB r t)):=by refine ⟨?_⟩;have ha:=ha.h;exact zjB hc hg hm hv ha hn hdb (zbA hp) (zcl hps)
theorem zce{r:List V->Hp->VK->Prop}{t:TA}{p:Pos}(hc:zK X (.type T) r)(hg:Gl X x)(hm:X.mg x=none)(hv:eL x=some (.type T))(ha:W (PA X (e::es) t))(hp:zX e=true:=by rfl)(hps:zbL es=true:=by rfl)(hn:x≠"__name__":=by decide)(hdb:(x==("__debug__":Str))=false:=by decide):W (PE X (.Call (.Name x p) (e::es) [] pos) (tCB r t)):=by refine ⟨?_⟩;have ha:=ha.h;exact zrl hc hg hm hv ha hn hdb (zbA hp) (zcl hps)
theorem zbU{a:bw}{ta:TA}{p:Pos}(hg:Gl X "range")(hm:X.mg "range"=none)(ha:W (PA X [a] ta))(hp:zX a=true:=by rfl):W (PIc true X tg (.Call (.Name "range" p) [a] [] pos) (zdW ta)):=by refine ⟨?_⟩;have ha:=ha.h;exact zrR hg hm ha (zbx hp)
theorem zea{np:Pos}{t:TA}(hc:X.calm=true)(T:zaP X Ex)(O:zaU X.K C)(hg:Gl X x)(hm:X.mg x=some (.ref C))(ha:W (PA X (e::es) t))(hp:zX e=true:=by rfl)(hps:zbL es=true:=by rfl)
  (hdb:(x==("__debug__":Str))=false:=by decide):W (PS X (.Raise (some (.Call (.Name x np) (e::es) [] cpos)) none pos) (zfV C Ex t)):=by refine ⟨?_⟩;have ha:=ha.h;exact zsM hc T O hg hm ha hdb (zbA hp) (zcl hps)
end
structure New(H:Hp)(p:Addr)(o:HO)(H':Hp):Prop where
 no:H p=none
 at_:H' p=some o
 same:ze H H'
theorem New.mk'{p:Addr}{o:HO}(h:H p=none):New H p o (upd H p o):=⟨h,zu,λb u e=>by rw [zd (zp e h)];exact e⟩
section
variable {X:Cx}
def zjn(t:TA):TE:=λσ H Q=>t σ H λxs H1=>xs.length<=sizeLine/\∀p H2,New H1 p (.lst xs) H2->p≠sysModules->Q (.ref p) H2
theorem zaC{t:TA}(h:W (PA X es t)):W (PE X (.List es pos) (zjn t)):=by
 refine ⟨?_⟩;have h:=h.h;intro Ga s σ H Q I hq;refine wpAny_List_spliced (thn (h pos Ga s σ H _ I hq) λus s1=>x5e λxs H1 I1 r=>x2e λz q=>⟨by rw [<- r.length];exact z,?_⟩);have hf:H1 s1.heap.objs.size=none:=I1.hok.fresh (ae _);refine ⟨.ref s1.heap.objs.size,upd H1 s1.heap.objs.size (.lst xs),I1.laid (t':=s1.toks) (λb u e=>ad _ e) (ae _) ?_,rfl,q _ _ (.mk' hf) (dQ I1.big)⟩;exact ⟨z,us,0,r,aO _ rfl⟩
def zjP(t:TA):TE:=λσ H Q=>t σ H λxs H1=>xs.length<=sizeLine/\∀p H2,New H1 p (.tup xs) H2->Q (.ref p) H2
theorem zmE{t:TA}{R R':List V->Hp->Prop}(hw:∀xs H,R xs H->R' xs H)(h:PA X es t)(pos:Pos)(Ga:List (Addr×Obj))(s:af)(σ:St)(H:Hp)(I:Inv X Ga σ H s)(q:t σ H R) :
  aH (aC X.prog X.w) X.A (spliced (dL pos (aV es X.env))) (AP X Ga σ R') X.xe s :=
 thn (h pos Ga s σ H R I q) λ_ _=>x5e λvs H' a b c=>⟨vs,H',a,b,hw _ _ c⟩
theorem zaO{t:TA}{x1}(h:W (PA X es t)):W (PE X (.Tuple es x1 pos) (zjP t)):=by
 refine ⟨?_⟩;have h:=h.h;have h':PA X es (λσ H Q=>∃R:List V->Hp->Prop,t σ H R/\∀xs H,R xs H->Q xs H):=λpos Ga s σ H Q I=>x3e λR q hw=>zmE hw h pos Ga s σ H I q;intro Ga s σ H Q I hq;exact zr2 h' Ga s σ H Q I ⟨_,hq,λxs H1=>x2e λz q=>⟨z,λp hp=>q p _ (.mk' hp)⟩⟩
def zju:TE:=λ_ H Q=>∀p H2,New H p (.dK []) H2->Q (.ref p) H2
theorem zlU:W (PE X (.Dict [] [] pos) zju):=⟨λGa s σ H Q I h=>znt Ga s σ H Q I λp hp=>h p _ (.mk' hp)⟩
end
def uR(v:V)(q:Addr->Prop):Prop:=∃a,v = .ref a/\q a
def zj6(to te:TE):TE:=λσ H Q=>to σ H λx H1=>uR x λl=>(∃xs,H1 l=some (.lst xs))/\te σ H1 λy H2=>∃xs,H2 l=some (.lst xs)/\xs.length<sizeLine/\Q .non (upd H2 l (.lst (xs++[y])))
section
variable {X:Cx}
theorem OpR.weak{f:Value->Value->Sem Value}{r r':R2}(h:OpR X f r)(hw:∀x y H Q,r' x y H Q->r x y H Q):OpR X f r' :=
 λGa s σ H x y v u Q I rx ry q=>h Ga s σ H x y v u Q I rx ry (hw x y H Q q)
theorem zK.weak{f:Value}{r r':List V->Hp->VK->Prop}(h:zK X f r)(hw:∀xs H Q,r' xs H Q->r xs H Q):zK X f r' :=
 λGa s σ H xs us Q I rs q=>h Ga s σ H xs us Q I rs (hw xs H Q q)
theorem IxR.weak{r r':R2}(h:IxR X r)(hw:∀x y H Q,r' x y H Q->r x y H Q):IxR X r' :=
 λvalue slice Ga s σ H x y v u Q I rx ry q hs=>h value slice Ga s σ H x y v u Q I rx ry (hw x y H Q q) hs
def zbM:R2:=λx y H Q=>(∃i j,x = .int i/\y = .int j/\Q (.int (i+j)) H)\/(∃i j,x = .str i/\y = .str j/\i.length+j.length<=sizeLine/\Q (.str (i++j)) H) \/
 (∃l b xs zs,x = .ref l/\y = .ref b/\H l=some (.lst xs)/\H b=some (.lst zs)/\xs.length+zs.length<=sizeLine/\∀p H2,New H p (.lst (xs++zs)) H2->Q (.ref p) H2)
theorem zka:OpR X (da .Add) zbM:=zow.or (zru.or (zoQ.weak λx y H Q h=>by
 obtain ⟨l,b,xs,zs,e1,e2,h1,h2,h3,h4⟩:=h;exact ⟨l,b,xs,zs,e1,e2,h1,h2,h3,λp hp=>h4 p _ (.mk' hp)⟩))
def zcz:R2:=λx y H Q=>(∃i j,x = .int i/\y = .int j/\zdp i j/\Q (.int (i*j)) H) \/
 (∃l k xs,x = .ref l/\y = .int k/\H l=some (.lst xs)/\-(2 ^ 63)<=k/\k<2 ^ 63/\xs.length*k.toNat<=sizeLine/\∀p H2,New H p (.lst (bi k.toNat xs).flatten) H2->Q (.ref p) H2)
theorem zsg:OpR X (da .Mult) zcz:=zq9.or (zsv.weak λx y H Q h=>by
 obtain ⟨l,k,xs,e1,e2,h1,h2,h3,h5,h4⟩:=h;exact ⟨l,k,xs,e1,e2,h1,h2,h3,h5,λp hp=>h4 p _ (.mk' hp)⟩)
def uIx:R2:=λx y H Q=>(∃p xs i v,x = .ref p/\y = .int i/\H p=some (.lst xs)/\atI xs i=some v/\Q v H) \/
 (∃p xs i v,x = .ref p/\y = .int i/\H p=some (.tup xs)/\atI xs i=some v/\Q v H)\/(∃z i c,x = .str z/\y = .int i/\z.length<=sizeLine/\atI z.cps.toList i=some c/\Q (.str ⟨#[c]⟩) H)
theorem zqN:IxR X uIx:=zm5.weak λx y H Q h=>by
 rcases h with ⟨p,xs,i,v,e1,e2,h,r⟩|⟨p,xs,i,v,e1,e2,h,r⟩|h
 .exact .inl ⟨p,xs,i,v,e1,e2,SqL.of h,r⟩
 .exact .inr (.inl ⟨p,xs,i,v,e1,e2,SqT.of h,r⟩)
 .exact .inr (.inr h)
def zfh:List V->Hp->VK->Prop:=λxs H Q=>(∃p ys,xs=[.ref p]/\H p=some (.lst ys)/\Q (.int ys.length) H)\/(∃p ys,xs=[.ref p]/\H p=some (.tup ys)/\Q (.int ys.length) H) \/
 (∃z,xs=[.str z]/\z.length<=sizeLine/\Q (.int z.length) H)
theorem zq4:zK X (.builtin "len") zfh:=(zh1.or zpy).weak λxs H Q h=>by
 rcases h with ⟨p,ys,e,h,q⟩|⟨p,ys,e,h,q⟩|h
 .exact .inl ⟨p,ys,e,.inl (SqL.of h),q⟩
 .exact .inl ⟨p,ys,e,.inr (SqT.of h),q⟩
 .exact .inr h
def uEq(neg:Bool):R2:=λx y H Q=>(zcZ x y=true/\Q (.bl (if neg then !decide (x=y) else decide (x=y))) H) \/
 (∃a b xs ys,x = .ref a/\y = .ref b/\H a=some (.lst xs)/\H b=some (.lst ys)/\xs.all zL=true/\ys.all zL=true/\Q (.bl (if neg then !eqL xs ys else eqL xs ys)) H)
theorem zaK(hu:X.A.units<cLine):OpR X (bG .Eq) (uEq false):=(zpe.or (zi7 hu)).weak λx y H Q h=>by
 rcases h with h|⟨a,b,xs,ys,e1,e2,h1,h2,r⟩
 .exact .inl ⟨h.1,by simpa using h.2⟩
 .exact .inr ⟨a,b,xs,ys,e1,e2,SqL.of h1,SqL.of h2,r⟩
theorem zcP(hu:X.A.units<cLine):OpR X (bG .NotEq) (uEq true):=(zuB.or (zlb hu)).weak λx y H Q h=>by
 rcases h with h|⟨a,b,xs,ys,e1,e2,h1,h2,r⟩
 .exact .inl ⟨h.1,by simpa using h.2⟩
 .exact .inr ⟨a,b,xs,ys,e1,e2,SqL.of h1,SqL.of h2,r⟩
def zjA(K:ag)(ta:TE):TT:=λσ H Q=>ta σ H λx H'=>∃k,zcW K x H' k/\Q k H'
theorem za0{a:bw}(ha:W (PE X a ta))(he:∀whole,isTrue a X.env whole=(do let v<-whole;gp a.pos;fI [v] (truthy v)):=by intro _;rfl):W (PT X a (zjA X.K ta)):=by refine ⟨?_⟩;have ha:=ha.h;exact ztT ha he
def ze5(C:Addr)(ta:TE)(f:Str):TE:=λσ H Q=>ta σ H λx H1=>∃a dx fs v,x = .ref a/\H1 a=some (.ins C dx fs)/\fs.lookup f=some v/\Q v H1
theorem zac(c:Cls X.K C)(n:zaD X.K C f)(he:W (PE X e ta))(hb:cy e f X.env (bV e X.env)=bV e X.env:=by rfl):W (PE X (.Attribute e f pos) (ze5 C ta f)):=by
 refine ⟨?_⟩;have he:=he.h;intro Ga s σ H Q I h;refine zrZ hb (thn (he Ga s σ H _ I h) λu s1=>x5e λx H1 I1 rx zz1=>?_);obtain ⟨a,dx,fs,v,ex,ea,l,q⟩:=zz1;subst ex;obtain rfl:u=aA a:=rx;exact zmT I1 ea c n l λu' s2 I2 ru=>⟨v,H1,I2,ru,q⟩
def zeE(C:Addr)(ta tv:TE)(f:Str):TS:=λD σ H=>tv σ H λy H1=>ta σ H1 λx H2=>∃a dx fs,x = .ref a/\H2 a=some (.ins C dx fs)/\fs.length<1000/\D.nx σ (upd H2 a (.ins C dx (zH f y fs)))
theorem zaI{value:bw}{tv:TE}(c:Cls X.K C)(n:zaD X.K C f)(ha:W (PE X o ta))(hv:W (PE X value tv))(hs:swapsWith value (some (.Attribute o f pos')) pos.line X.env=pure false:=by rfl):W (PS X (.Assign [.Attribute o f pos'] value pos) (zeE C ta tv f)):=by
 refine ⟨?_⟩;have ha:=ha.h;have hv:=hv.h;intro Ga s σ H D I h;refine plainObj_wpAny_Assign_Attribute (thn (hv Ga s σ H _ I h) λu s1=>x5e λy H1 I1 ry q=>thn (ha Ga s1 σ H1 _ I1 q) λov s2=>x5e λx H2 I2 rx zz2=>?_) hs;obtain ⟨a,dx,fs,ex,ea,l,q2⟩:=zz2;subst ex;obtain rfl:ov=aA a:=rx;exact zl2 I2 ea c n l ry λs3 I3=>⟨σ,_,I3,q2⟩
structure GF(P:aI)(w:aZ)(K:ag)(mg:Str->Option Value)(base:Heap)(cm:Bool)(k:Nat)(x:Str)(ps:List Str)(sp:Sp):Prop where
 ex:∃(f:Addr)(fd:cL),zo P w K mg base CX0 cm k f fd ps sp/\mg x=some (.ref f)/\gN K (.ref f)=true/\zaE K fd ps []
structure GX(P:aI)(w:aZ)(K:ag)(mg:Str->Option Value)(base:Heap)(cm:Bool)(k:Nat)(x:Str)(ps:List Str)(sp:Sp):Prop where
 ex:∃(f:Addr)(fd:cL),zo P w K mg base (CXW P w) cm k f fd ps sp/\mg x=some (.ref f)/\gN K (.ref f)=true/\zaE K fd ps []
structure GM(P:aI)(w:aZ)(K:ag)(mg:Str->Option Value)(base:Heap)(cm:Bool)(k:Nat)(C:Addr)(m:Str)(ps:List Str)(sp:Sp):Prop where
 ex:∃(f:Addr)(fd:cL),zo P w K mg base CX0 cm k f fd ps sp/\zcO K C m f/\zaE K fd ps []
structure GMX(P:aI)(w:aZ)(K:ag)(mg:Str->Option Value)(base:Heap)(cm:Bool)(k:Nat)(C:Addr)(m:Str)(ps:List Str)(sp:Sp):Prop where
 ex:∃(f:Addr)(fd:cL),zo P w K mg base (CXW P w) cm k f fd ps sp/\zcO K C m f/\zaE K fd ps []
structure GC(P:aI)(w:aZ)(K:ag)(mg:Str->Option Value)(base:Heap)(cm:Bool)(k:Nat)(x:Str)(C:Addr)(ps:List Str)(sp:Sp):Prop where
 ex:∃(f:Addr)(fd:cL),zo P w K mg base CX0 cm k f fd ps sp/\mg x=some (.ref C)/\Mk K C f/\zaE K fd ps []
variable {cm:Bool}{k j:Nat}{x m:Str}{C:Addr}{ps:List Str}{sp:Sp}{e o:bw}{es:List bw}{t:TA}{ta:TE}{p pos apos:Pos}{Ex:Addr->St->Hp->Prop}
theorem zy(G:GF X.prog X.w X.K X.mg X.base cm j x ps sp)(hr:zz cm k X.A)(hg:Gl X x)(ha:W (PA X (e::es) t))(hj:j<=k:=by decide)(hdb:(x==("__debug__":Str))=false:=by decide)(hp:zX e=true:=by rfl)(hps:zbL es=true:=by rfl):W (PE X (.Call (.Name x p) (e::es) [] pos) (zep sp [] E0 t)):=by
 refine ⟨?_⟩;have ha:=ha.h;obtain ⟨f,fd,F,hm,hk,hb⟩:=G.ex;exact zr4 F (hr.mono hj) hg hm hk hb .nil zdB ha hdb (zbA hp) (zcl hps)
theorem zhz(T:zaP X Ex)(G:GX X.prog X.w X.K X.mg X.base cm j x ps sp)(hr:zz cm k X.A)(hg:Gl X x)(ha:W (PA X (e::es) t))(hj:j<=k:=by decide)(hdb:(x==("__debug__":Str))=false:=by decide)(hp:zX e=true:=by rfl)(hps:zbL es=true:=by rfl):W (PE X (.Call (.Name x p) (e::es) [] pos) (ze1 sp [] Ex t)):=by
 refine ⟨?_⟩;have ha:=ha.h;obtain ⟨f,fd,F,hm,hk,hb⟩:=G.ex;exact znG T F (hr.mono hj) hg hm hk hb .nil ha hdb (zbA hp) (zcl hps)
theorem za4(he:W (PE X o ta))(c:Cls X.K C)(G:GM X.prog X.w X.K X.mg X.base cm j C m ps sp)(hr:zz cm k X.A)(ha:W (PA X (e::es) t))(hj:j<=k:=by decide)
  (hp:zX e=true:=by rfl) (hps:zbL es=true:=by rfl)
  (ht:bV (.Call (.Attribute o m apos) (e::es) [] pos) X.env=(do
   let ov<-bV o X.env
   gp apos.atName
   let (f,first)<-fI [ov] (fj ov m pl)
   fe pos f first (dL pos (aV (e::es) X.env)) (gF pos (eB [] X.env))):=by rfl):W (PE X (.Call (.Attribute o m apos) (e::es) [] pos) (zcm C m sp [] E0 ta t)):=by
 refine ⟨?_⟩;have he:=he.h;have ha:=ha.h;obtain ⟨f,fd,F,hm,hb⟩:=G.ex;exact zqe he c hm F (hr.mono hj) hb .nil zdB ha (zbA hp) (zcl hps) ht
theorem zbn(he:W (PE X o ta))(c:Cls X.K C)(G:GM X.prog X.w X.K X.mg X.base cm j C m ps sp)(hr:zz cm k X.A)(hj:j<=k:=by decide)
  (ht:bV (.Call (.Attribute o m apos) [] [] pos) X.env=(do
   let ov<-bV o X.env
   gp apos.atName
   let (f,first)<-fI [ov] (fj ov m pl)
   fe pos f first (dL pos (aV [] X.env)) (gF pos (eB [] X.env))):=by rfl):W (PE X (.Call (.Attribute o m apos) [] [] pos) (zcm C m sp [] E0 ta zaZ)):=by
 refine ⟨?_⟩;have he:=he.h;obtain ⟨f,fd,F,hm,hb⟩:=G.ex;exact zoV he c hm F (hr.mono hj) hb .nil zdB ht
theorem zdL(he:W (PE X o ta))(c:Cls X.K C)(T:zaP X Ex)(G:GMX X.prog X.w X.K X.mg X.base cm j C m ps sp)(hr:zz cm k X.A)(ha:W (PA X (e::es) t))(hj:j<=k:=by decide)
  (hp:zX e=true:=by rfl) (hps:zbL es=true:=by rfl)
  (ht:bV (.Call (.Attribute o m apos) (e::es) [] pos) X.env=(do
   let ov<-bV o X.env
   gp apos.atName
   let (f,first)<-fI [ov] (fj ov m pl)
   fe pos f first (dL pos (aV (e::es) X.env)) (gF pos (eB [] X.env))):=by rfl):W (PE X (.Call (.Attribute o m apos) (e::es) [] pos) (zcs C m sp [] Ex ta t)):=by
 refine ⟨?_⟩;have he:=he.h;have ha:=ha.h;obtain ⟨f,fd,F,hm,hb⟩:=G.ex;exact zoF he c hm T F (hr.mono hj) hb .nil ha (zbA hp) (zcl hps) ht
theorem zdJ(he:W (PE X o ta))(c:Cls X.K C)(T:zaP X Ex)(G:GMX X.prog X.w X.K X.mg X.base cm j C m ps sp)(hr:zz cm k X.A)(hj:j<=k:=by decide)
  (ht:bV (.Call (.Attribute o m apos) [] [] pos) X.env=(do
   let ov<-bV o X.env
   gp apos.atName
   let (f,first)<-fI [ov] (fj ov m pl)
   fe pos f first (dL pos (aV [] X.env)) (gF pos (eB [] X.env))):=by rfl):W (PE X (.Call (.Attribute o m apos) [] [] pos) (zcs C m sp [] Ex ta zaZ)):=by
 refine ⟨?_⟩;have he:=he.h;obtain ⟨f,fd,F,hm,hb⟩:=G.ex;exact ztW he c hm T F (hr.mono hj) hb .nil ht
structure zh8(H:Hp)(C x dx:Addr)(H':Hp):Prop where
 no:H x=none
 nod:H dx=none
 ne:dx≠x
 at_:H' x=some (.ins C dx [])
 own:H' dx=some (.own x)
 same:ze H H'
theorem zh8.mk'{x dx:Addr}(h:H x=none)(hd:H dx=none)(ne:dx≠x):zh8 H C x dx (upd (upd H dx (.own x)) x (.ins C dx [])) :=
 ⟨h,hd,ne,zu,by rw [zd ne,zu],λb u e=>by rw [zd (zp e h),zd (zp e hd)];exact e⟩
def zfm(C:Addr)(sp:Sp)(t:TA):TE:=λσ H Q=>t σ H λvs H1=>∀x dx H2,zh8 H1 C x dx H2->sp (.ref x::vs) H2 (λv H3=>v = .non/\Q (.ref x) H3) E0
theorem PA.any{t:TA}(h:PA X es t):PA X es (λσ H Q=>∃R:List V->Hp->Prop,t σ H R/\∀xs H,R xs H->Q xs H):=λpos Ga s σ H Q I=>x3e λR q hw=>zmE hw h pos Ga s σ H I q
theorem ze6(G:GC X.prog X.w X.K X.mg X.base cm j x C ps sp)(hr:zz cm k X.A)(hg:Gl X x)(ha:W (PA X (e::es) t))(hj:j+1<=k:=by decide)(hdb:(x==("__debug__":Str))=false:=by decide)(hp:zX e=true:=by rfl)(hps:zbL es=true:=by rfl):W (PE X (.Call (.Name x p) (e::es) [] pos) (zfm C sp t)):=by
 refine ⟨?_⟩;have ha:=ha.h;obtain ⟨f,fd,F,hm,M,hb⟩:=G.ex;intro Ga s σ H Q I h;exact zqW M F (hr.mono hj) hg hm hb .nil zdB ha.any hdb (zbA hp) (zcl hps) Ga s σ H Q I ⟨_,h,λvs H1 q x dx hx hd ne=>by rw [cw];exact q x dx _ (.mk' hx hd ne)⟩
theorem zmy(hg:Gl X x)(hm:∃u,X.mg x=some u/\zm v u)(hd:(x==("__debug__":Str))=false:=by decide):PE X (.Name x pos) (tC v):=by
 obtain ⟨u,hm,r⟩:=hm;exact ztq hg hm r hd
theorem zc1(ho:W (PE X o to))(he:W (PE X e te))
  (hbase:cy o "append" X.env (bV o X.env)=bV o X.env:=by rfl)
  (hline:(apos.endLine==cpos.line)=true:=by rfl) (hp:zX e=true:=by rfl):W (PE X (.Call (.Attribute o "append" apos) [e] [] cpos) (zj6 to te)):=by
 refine ⟨?_⟩;have ho:=ho.h;have he:=he.h;intro Ga s σ H Q I h;have hs:aV [e] X.env=[(false,bV e X.env)]:=zbx hp;refine cX hbase (by rw [hs];rfl) hline rfl (thn (ho Ga s σ H _ I h) λv s1=>x5e λx H1 I1 r1 zz3=>?_);obtain ⟨l,ex,⟨xs,hx⟩,q1⟩:=zz3;subst ex;obtain ⟨h1,h2⟩:=zdm (T:="list") I1 r1 (.inl ⟨rfl,xs,SqL.of hx⟩);refine ⟨"list","list.append",gM,PySem.F.slot_list_append,PySem.F.type_list_append,h1,h2,?_⟩;rw [hs];refine Calls.callWith_builtin rfl (Calls.evalArgs_plain ?_);have hA:=zb6 he zbX (hs:=hs) cpos Ga s1 σ H1 (λys H2=>za6 (λy=>∃xs,H2 l=some (.lst xs)/\xs.length<sizeLine/\Q .non (upd H2 l (.lst (xs++[y])))) ys) I1 q1;rw [hs] at hA;refine thn hA λus s2=>x5e λvs H2 I2 r2 q2=>?_;obtain ⟨y,rfl,xs2,hx2,hl2,q2⟩:=za6.ex q2;exact zuV Ga s2 σ H2 (.ref l) [y] v us Q I2 r1 r2 ⟨l,xs2,y,rfl,rfl,hx2,hl2,q2⟩
end
section
variable {X:Cx}
def zb7:List V->Hp->VK->Prop:=λxs H Q=>(∃i,xs=[.int i]/\Q (.int i) H)\/∃k,xs=[.bl k]/\Q (.int (if k then 1 else 0)) H
theorem zoG:zK X (.type "int") zb7:=ztZ
def zcU:List V->Hp->VK->Prop:=λxs H Q=>∃i,xs=[.int i]/\i.natAbs.log2<1920/\Q (.str (toString i)) H
theorem zsW:zK X (.type "str") zcU:=zoN
theorem zvA{Q:VK}:zb7 [.int i] H Q=Q (.int i) H:=by simp [zb7]
theorem zu7{k:Bool}{Q:VK}:zb7 [.bl k] H Q=Q (.int (if k then 1 else 0)) H:=by simp [zb7]
theorem zpi{Q:VK}:zcU [.int i] H Q=(i.natAbs.log2<1920/\Q (.str (toString i)) H):=by simp [zcU]
def zmd:List V->Hp->VK->Prop:=λxs H Q=>∃i j,xs=[.int i,.int j]/\Q (.int (if j>i then j else i)) H
def zkc:List V->Hp->VK->Prop:=λxs H Q=>∃i j,xs=[.int i,.int j]/\Q (.int (if j<i then j else i)) H
theorem zkw(hc:X.calm=true):zK X (.builtin "max") zmd:=zvl hc
theorem zrb(hc:X.calm=true):zK X (.builtin "min") zkc:=zsx hc
theorem zuz{Q:VK}:zmd [.int i,.int j] H Q=Q (.int (if j>i then j else i)) H:=by
 apply propext;constructor
 .rintro ⟨a,b,e,q⟩;cases e;exact q
 .exact λq=>⟨i,j,rfl,q⟩
theorem znp{Q:VK}:zkc [.int i,.int j] H Q=Q (.int (if j<i then j else i)) H:=by
 apply propext;constructor
 .rintro ⟨a,b,e,q⟩;cases e;exact q
 .exact λq=>⟨i,j,rfl,q⟩
end
section
variable {Y:Cx}{sc:Scope}{N':List Str}{Ga:List (Addr×Obj)}{D:Addr}{fp:List Addr}{s:af}{H:Hp}
theorem zsB{k:Nat}{t:TGs}{n:Nat}(h:W (PGs (zE Y sc N' Ga D fp s H) es t))(hl:(cY es (zE Y sc N' Ga D fp s H).env).length=n:=by rfl)(hst:(cY es (zE Y sc N' Ga D fp s H).env).findIdx? (·.1)=none:=by rfl):W (PG (zE Y sc N' Ga D fp s H) (.Tuple es k pos) (zg3 Y.K n t)):=by refine ⟨?_⟩;have h:=h.h;exact zln h hl hst
end
theorem ztY{t:TG}{u:TGs}{r:List V}{Q:St->Hp->Prop}:zgG t u (v::r) σ H Q=t v σ H λσ' H'=>u r σ' H' Q:=by
 apply propext;constructor
 .rintro ⟨v,r,e,h⟩;cases e;exact h
 .exact λh=>⟨v,r,rfl,h⟩
theorem zqX{Q:St->Hp->Prop}:zkR [] σ H Q=Q σ H:=by
 apply propext;constructor
 .exact λh=>h.2
 .exact λh=>⟨rfl,h⟩
section
variable {H:Hp}{Q:VK}{i j:Int}{x y:Str}{a b:Addr}{K:ag}{g:Int->Int->V}{C:Int->Int->Prop}{k c:Bool}{QB:Bool->Hp->Prop}
theorem zkV:zbM (.int i) (.int j) H Q=Q (.int (i+j)) H:=by simp [zbM]
theorem zio:zbM (.str x) (.str y) H Q=(x.length+y.length<=sizeLine/\Q (.str (x++y)) H):=by simp [zbM]
theorem zgF:zbM (.ref a) (.ref b) H Q = ∃xs zs,H a=some (.lst xs)/\H b=some (.lst zs)/\xs.length+zs.length<=sizeLine/\∀p H2,New H p (.lst (xs++zs)) H2->Q (.ref p) H2:=by simp [zbM]
theorem zkQ:zcz (.int i) (.int j) H Q=(zdp i j/\Q (.int (i*j)) H):=by simp [zcz]
theorem ztg:zcz (.ref a) (.int i) H Q = ∃xs,H a=some (.lst xs)/\-(2 ^ 63)<=i/\i<2 ^ 63/\xs.length*i.toNat<=sizeLine/\∀p H2,New H p (.lst (bi i.toNat xs).flatten) H2->Q (.ref p) H2:=by simp [zcz]
theorem zkG:uIx (.ref a) (.int i) H Q = ∃xs,(H a=some (.lst xs)\/H a=some (.tup xs))/\∃v,atI xs i=some v/\Q v H:=by
 apply propext;constructor
 .rintro (⟨p,xs,i,v,e1,e2,h,r⟩|⟨p,xs,i,v,e1,e2,h,r⟩|⟨z,i,c,e,_⟩)
  .cases e1;cases e2;exact ⟨xs,.inl h,v,r⟩
  .cases e1;cases e2;exact ⟨xs,.inr h,v,r⟩
  .cases e
 .rintro ⟨xs,h|h,v,r⟩
  .exact .inl ⟨_,xs,_,v,rfl,rfl,h,r⟩
  .exact .inr (.inl ⟨_,xs,_,v,rfl,rfl,h,r⟩)
theorem zjb:uIx (.str x) (.int i) H Q=(x.length<=sizeLine/\∃c,atI x.cps.toList i=some c/\Q (.str ⟨#[c]⟩) H):=by simp [uIx]
theorem ziy:zfh [.ref a] H Q = ∃ys,(H a=some (.lst ys)\/H a=some (.tup ys))/\Q (.int ys.length) H:=by
 apply propext;constructor
 .rintro (⟨p,xs,e1,h,r⟩|⟨p,xs,e1,h,r⟩|⟨z,e,_⟩)
  .cases e1;exact ⟨xs,.inl h,r⟩
  .cases e1;exact ⟨xs,.inr h,r⟩
  .cases e
 .rintro ⟨xs,h|h,r⟩
  .exact .inl ⟨_,xs,rfl,h,r⟩
  .exact .inr (.inl ⟨_,xs,rfl,h,r⟩)
theorem zlj:zfh [.str x] H Q=(x.length<=sizeLine/\Q (.int x.length) H):=by simp [zfh]
theorem zpJ:rI C g (.int i) (.int j) H Q=(C i j/\Q (g i j) H):=by simp [rI]
theorem znu:rI0 g (.int i) (.int j) H Q=Q (g i j) H:=by simp [rI0]
theorem zvz{g:Int->V}:rU g (.int i) H Q=Q (g i) H:=by simp [rU]
theorem zmm:uEq c (.int i) (.int j) H Q=Q (.bl (if c then !decide (i=j) else decide (i=j))) H:=by simp [uEq,zcZ]
theorem zkX:uEq c (.str x) (.str y) H Q=Q (.bl (if c then !decide (x=y) else decide (x=y))) H:=by simp [uEq,zcZ]
theorem zl1:uEq c (.bl k) (.bl k') H Q=Q (.bl (if c then !decide (k=k') else decide (k=k'))) H:=by simp [uEq,zcZ]
theorem ziP:uEq c (.ref a) (.ref b) H Q = ∃xs ys,H a=some (.lst xs)/\H b=some (.lst ys)/\xs.all zL=true/\ys.all zL=true/\Q (.bl (if c then !eqL xs ys else eqL xs ys)) H:=by simp [uEq,zcZ]
def zcF(K:ag)(v:V)(H:Hp)(Q:Bool->Hp->Prop):Prop:=∃k,zcW K v H k/\Q k H
theorem znb:zcF K (.bl k) H QB=QB k H:=by simp [zcF,zcW]
theorem zqx:zcF K .non H QB=QB false H:=by simp [zcF,zcW]
theorem zuf:zcF K (.int i) H QB=QB (i != 0) H:=by simp [zcF,zcW]
theorem zoP:zjA K ta σ H QB=ta σ H λx H'=>zcF K x H' QB:=rfl
def uB(v:V)(q:Bool->Prop):Prop:=∃c,v = .bl c/\q c
theorem znK{q:Bool->Prop}:uB (.bl k) q=q k:=by simp [uB]
theorem zsN{t:TE}:zeP t σ H QB=t σ H λx H1=>uB x λc=>QB c H1:=rfl
theorem zoD{t u:TE}:zf2 t u σ H Q=t σ H λx H1=>uB x λc=>if c=true then u σ H1 Q else Q (.bl false) H1:=rfl
theorem zpX{t u:TE}:zjR t u σ H Q=t σ H λx H1=>uB x λc=>if c=true then Q (.bl true) H1 else u σ H1 Q:=rfl
theorem zuo{t:TE}:zh0 t σ H Q=t σ H λx H1=>uB x λc=>Q (.bl (!c)) H1:=rfl
theorem zvL{r r':R2}{tc:TE}:ziD r r' ta tb tc σ H Q=ta σ H λx H1=>tb σ H1 λy H2=>r x y H2 λz H3=>uB z λk=>if k=true then tc σ H3 λw' H4=>r' y w' H4 Q else Q (.bl false) H3:=rfl
theorem zj5{q:Addr->Prop}:uR (.ref a) q=q a:=by simp [uR]
theorem zq5{C:Addr}:ze5 C ta f σ H Q=ta σ H λx H1=>uR x λa=>∃dx fs v,H1 a=some (.ins C dx fs)/\fs.lookup f=some v/\Q v H1:=by
 unfold ze5 uR;congr;funext x H1;apply propext;constructor
 .rintro ⟨a,dx,fs,v,h1,h2,h3,h4⟩;exact ⟨a,h1,dx,fs,v,h2,h3,h4⟩
 .rintro ⟨a,h1,dx,fs,v,h2,h3,h4⟩;exact ⟨a,dx,fs,v,h1,h2,h3,h4⟩
theorem zq6{C:Addr}{tv:TE}:zeE C ta tv f D σ H=tv σ H λy H1=>ta σ H1 λx H2=>uR x λa=>∃dx fs,H2 a=some (.ins C dx fs)/\fs.length<1000/\D.nx σ (upd H2 a (.ins C dx (zH f y fs))):=by
 unfold zeE uR;congr;funext x H1;congr;funext x2 H2;apply propext;constructor
 .rintro ⟨a,dx,fs,h1,h2,h3,h4⟩;exact ⟨a,h1,dx,fs,h2,h3,h4⟩
 .rintro ⟨a,h1,dx,fs,h2,h3,h4⟩;exact ⟨a,dx,fs,h1,h2,h3,h4⟩
theorem zr5{C:Addr}{sp:Sp}{dvs:List V}{E:XK}{t:TA}:zcm C m sp dvs E ta t σ H Q=ta σ H λx H1=>uR x λa=>∃dx fs,H1 a=some (.ins C dx fs)/\fs.lookup m=none/\t σ H1 λvs H2=>sp (.ref a::(vs++dvs)) H2 Q E:=by
 unfold zcm uR;congr;funext x H1;apply propext;constructor
 .rintro ⟨a,dx,fs,rfl,h2,h3,h4⟩;exact ⟨a,rfl,dx,fs,h2,h3,h4⟩
 .rintro ⟨a,rfl,dx,fs,h2,h3,h4⟩;exact ⟨a,dx,fs,rfl,h2,h3,h4⟩
theorem zrt{C:Addr}{sp:Sp}{dvs:List V}{t:TA}:zcs C m sp dvs Ex ta t σ H Q=ta σ H λx H1=>uR x λa=>∃dx fs,H1 a=some (.ins C dx fs)/\fs.lookup m=none/\t σ H1 λvs H2=>sp (.ref a::(vs++dvs)) H2 Q (XE Ex σ):=by
 unfold zcs uR;congr;funext x H1;apply propext;constructor
 .rintro ⟨a,dx,fs,rfl,h2,h3,h4⟩;exact ⟨a,rfl,dx,fs,h2,h3,h4⟩
 .rintro ⟨a,rfl,dx,fs,h2,h3,h4⟩;exact ⟨a,dx,fs,rfl,h2,h3,h4⟩
end
section
variable {K:ag}{g:TG}{tb:TS}{D:zaG}{σ:St}{H:Hp}{ta:TA}{tl:TE}{wi:TI}{R:It->Hp->Prop}{j:Int}{tt:TT}{te:TE}{ix:List (Option Nat)}{Q:VK}
def zat(J:It)(g:TG)(tb:TS)(D:zaG)(σ:St)(H:Hp):Prop:=∃W:Nat->Nat->St->Hp->Prop,(∃m,W 0 m σ H)/\∀i m σ H,W i m σ H ->
 (J.stop i H/\D.nx σ H)\/(J.go i H/\∃N:St->Hp->Prop,(∀σ' H',N σ' H'->∃m',m'<m/\W (i+1) m' σ' H')/\∀x H',J.yld i H x H'->g x σ H' λσ2 H2=>tb { D with nx:=N,ct:=N,bk:=D.nx } σ2 H2)
theorem zqq:ziA wi g tb D σ H=wi σ H λJ H1=>zat J g tb D σ H1:=rfl
def uI1(vs:List V)(q:Int->Prop):Prop:=∃j,vs=[.int j]/\q j
theorem zrJ{q:Int->Prop}:uI1 [.int j] q=q j:=by simp [uI1]
theorem zs1:zdW ta σ H R=ta σ H λvs H1=>uI1 vs λj=>-(2 ^ 62)<=j/\j<2 ^ 62/\R (Itr 0 j.toNat) H1:=rfl
theorem zpB:zdU K tl σ H R=tl σ H λx H1=>uR x λa=>(∃xs,SqL K H1 a xs)/\R (Itl K a) H1:=rfl
def uR2(vs:List V)(q:Addr->Addr->Prop):Prop:=∃a b,vs=[.ref a,.ref b]/\q a b
theorem zrS{q:Addr->Addr->Prop}:uR2 [.ref a,.ref b] q=q a b:=by
 apply propext;constructor
 .rintro ⟨c,d,e,h⟩;cases e;exact h
 .exact λh=>⟨a,b,rfl,h⟩
def zau(J:It)(g:TG)(tt:TT)(te:TE)(τ:St)(H:Hp)(Q:VK):Prop:=∃W:Nat->Nat->St->List V->Hp->Prop,(∃m,W 0 m τ [] H)/\∀i m τ ys H2,W i m τ ys H2->ys.length<sizeLine /\
 ((J.stop i H2 ∧ ∀ D, H2 D = none → D ≠ sysModules → Q (.ref D) (upd H2 D (.lst ys))) ∨
  (J.go i H2 ∧ ∀ x H3, J.yld i H2 x H3 → g x τ H3 fun τ1 H4 => tt τ1 H4 fun ok H5 => if ok = true then te τ1 H5 fun y H6 => ∃ m', m' < m ∧ W (i + 1) m' τ1 (ys ++ [y]) H6 else ∃ m', m' < m ∧ W (i + 1) m' τ1 ys H5))
theorem zug:tLC ix wi g tt te σ H Q=wi σ H λJ H1=>zau J g tt te (za3 ix σ) H1 Q:=rfl
theorem zat.rng{lo:Int}{n:Nat}(Pv:Nat->St->Hp->Prop)(h0:Pv 0 σ H)
  (hs:∀i σ H,i<n->Pv i σ H->g (.int (lo+i)) σ H λσ2 H2=>tb { D with nx:=Pv (i+1),ct:=Pv (i+1),bk:=D.nx } σ2 H2) (hd:∀σ H,Pv n σ H->D.nx σ H):zat (Itr lo n) g tb D σ H:=zqb Pv h0 hs hd
theorem zat.lst{xs:List V}(Pv:Nat->St->Hp->Prop)(h0:Pv 0 σ H)(hl:∀i σ H,i<=xs.length->Pv i σ H->SqL K H a xs)
  (hs:∀i x σ H,xs[i]?=some x->Pv i σ H->g x σ H λσ2 H2=>tb { D with nx:=Pv (i+1),ct:=Pv (i+1),bk:=D.nx } σ2 H2) (hd:∀σ H,Pv xs.length σ H->D.nx σ H):zat (Itl K a) g tb D σ H:=zn9 Pv h0 hl hs hd
def zck(N:St->List V->Hp->Prop)(ys:List V)(τ1:St)(te:TE)(ok:Bool)(H5:Hp):Prop:=if ok=true then te τ1 H5 λy H6=>N τ1 (ys++[y]) H6 else N τ1 ys H5
theorem zr9{N:St->List V->Hp->Prop}:zck N ys τ te true H=te τ H λy H6=>N τ (ys++[y]) H6:=rfl
theorem zqI{N:St->List V->Hp->Prop}:zck N ys τ te false H=N τ ys H:=rfl
theorem zau.rng{lo:Int}{n:Nat}(Pv:Nat->St->List V->Hp->Prop)(hz:∀i τ ys H,Pv i τ ys H->ys.length<sizeLine)(h0:Pv 0 τ [] H)
  (hs:∀(N:St->List V->Hp->Prop) i τ ys H,i<n->Pv i τ ys H->(∀τ ys H,Pv (i+1) τ ys H->N τ ys H)->g (.int (lo+i)) τ H λτ1 H4=>tt τ1 H4 λok H5=>zck N ys τ1 te ok H5) (hd:∀τ ys H,Pv n τ ys H->∀D H',New H D (.lst ys) H'->Q (.ref D) H'):zau (Itr lo n) g tt te τ H Q:=by
 refine ⟨λi m τ ys H=>m=n-i/\i<=n/\Pv i τ ys H,⟨n,by simp,cf _,h0⟩,?_⟩;rintro i m τ ys H2 ⟨rfl,hi,p⟩;refine ⟨hz i τ ys H2 p,?_⟩;by_cases hlt:i<n
 .refine .inr ⟨hlt,λx H' y=>?_⟩;obtain ⟨e,y⟩:=y;subst e y;exact hs (λτ1 ys H=>∃m',m'<n-i/\m'=n-(i+1)/\i+1<=n/\Pv (i+1) τ1 ys H) i τ ys _ hlt p λτ1 zs H q=>⟨n-(i+1),by lia,rfl,hlt,q⟩
 .have e:i=n:=by lia
  subst e;exact .inl ⟨ae _,λD hD _=>hd τ ys H2 p D _ (.mk' hD)⟩
end
section
variable {X:Cx}
def zel:V->Option Int->Option Int->Hp->VK->Prop:=λx lo hi H Q=>∃z,x = .str z/\z.length<=sizeLine/\Q (.str (Txt.slice z lo hi)) H
theorem ztP{sl:Addr}{vl vu:Value}(hs:h.IsSliceOf sl vl vu .none)(pl:hV vl lo)(pu:hV vu hi):∃l u:Option (Int×Tok),h.IsSlice sl l u none/\l.map (·.1)=lo/\u.map (·.1)=hi:=by
 obtain ⟨o,h1,h2,h3⟩:=hs;cases pl with
 | none =>
  cases pu with
  | none=>exact ⟨none,none,⟨o,h1,h2,h3⟩,rfl,rfl⟩
  | int j t=>exact ⟨none,some (j,t),⟨o,h1,h2,h3⟩,rfl,rfl⟩
 | int i t' =>
  cases pu with
  | none=>exact ⟨some (i,t'),none,⟨o,h1,h2,h3⟩,rfl,rfl⟩
  | int j t=>exact ⟨some (i,t'),some (j,t),⟨o,h1,h2,h3⟩,rfl,rfl⟩
theorem zoC:SlR X zel:=by
 intro Ga s σ H x v vl vu lo hi sl Q I rx hs pl pu h;obtain ⟨z,rfl,hz,q⟩:=h;obtain ⟨t,rfl⟩:=rx;obtain ⟨l,u,hS,e1,e2⟩:=ztP hs pl pu;subst e1 e2;exact ⟨"str",_,F.slot_str_getitem.lookup,fZ _ _ _,wpAny_getItem_str_slice (l:=l) (u:=u) (st:=none) hS rfl
  (post_val_or_str ⟨aW (Txt.slice_le z _ _) hz,λt' k=>⟨.str _,H,I.tok k,⟨_,rfl⟩,q⟩⟩)⟩
def uSl:V->Option Int->Option Int->Hp->VK->Prop:=λx lo hi H Q=>(∃a xs,x = .ref a/\H a=some (.lst xs)/\∀p H2,New H p (.lst (zaw xs lo hi)) H2->Q (.ref p) H2)\/zel x lo hi H Q
theorem SlR.weak{r r':V->Option Int->Option Int->Hp->VK->Prop}(h:SlR X r)(hw:∀x l u H Q,r' x l u H Q->r x l u H Q):SlR X r' :=
 λGa s σ H x v vl vu lo hi sl Q I rx hs pl pu q=>h Ga s σ H x v vl vu lo hi sl Q I rx hs pl pu (hw _ _ _ _ _ q)
theorem zcg:SlR X uSl:=((zp1 (X:=X)).or zoC).weak λx l u H Q h=>by
 rcases h with ⟨a,xs,e,h,q⟩|h
 .exact .inl ⟨a,xs,e,SqL.of h,λp hp=>q p _ (.mk' hp)⟩
 .exact .inr h
def zhZ(v:V)(q:Int->Prop):Prop:=∃i,v = .int i/\q i
theorem zsn{q:Int->Prop}:zhZ (.int i) q=q i:=by simp [zhZ]
theorem zrV{t:TE}{Q:Option Int->Hp->Prop}:zlZ t σ H Q=t σ H λx H1=>zhZ x λi=>Q (some i) H1:=rfl
theorem zmo{Q:VK}:uSl (.str z) lo hi H Q=(z.length<=sizeLine/\Q (.str (Txt.slice z lo hi)) H):=by simp [uSl,zel]
theorem zmP{Q:VK}:uSl (.ref a) lo hi H Q = ∃xs,H a=some (.lst xs)/\∀p H2,New H p (.lst (zaw xs lo hi)) H2->Q (.ref p) H2:=by simp [uSl,zel]
theorem zph{ys:List Str}:∀{us:List Value},zk (ys.map V.str) us->StrsAre us ys:=by
 induction ys with
 | nil=>intro us r;rw [map_nil] at r;cases r;exact .nil
 | cons n ns ih =>
  intro us r;rw [bQ] at r;cases r with
  | cons r1 r2 =>
   obtain ⟨t,e⟩:=r1;subst e;exact .cons n t (ih r2)
def zek:V->List V->Hp->VK->Prop:=λx vs H Q=>∃z p ys,x = .str z/\vs=[.ref p]/\H p=some (.lst (ys.map V.str))/\(ys.map (·.length)).sum+ys.length*z.length<=16777216/\Q (.str (Txt.join z ys)) H
theorem zno:MtR X "str.join" zek:=by
 intro Ga s σ H x xs v us Q I rx rs h;obtain ⟨z,p,ys,rfl,rfl,hp,hz,q⟩:=h;obtain ⟨t,rfl⟩:=rx;cases rs with
 | cons r1 rr =>
  cases rr;cases (show _=aA p from r1);obtain ⟨its,r,ht,_⟩:=I.list (SqL.of (K:=X.K) hp);exact join_list ht.isList (by simpa using zph r) hz λt' k=>⟨.str _,H,I.tok k,⟨_,rfl⟩,q⟩
def zd8(z:Str)(n:Nat):Str:=⟨((bi n z.cps.toList).flatten).toArray⟩
theorem zi9{α:Type}(l:List α):∀(n:Nat)(acc:List α),foldl (λx1 x2:Array α=>x1++x2) acc.toArray (bi n l.toArray)=(acc++(bi n l).flatten).toArray
 | 0,acc=>by simp
 | n+1,acc=>by
  rw [dq,hJ,List.append_toArray,zi9 l n (acc++l)];simp [dq]
theorem zpS(z:Str)(n:Nat):(⟨(bi n z.cps).foldl (·++·) #[]⟩:Str)=zd8 z n:=by
 have h:=zi9 z.cps.toList n [];unfold zd8;congr 1
theorem zky{α:Type}(l:List α):∀n:Nat,((bi n l).flatten).length=l.length*n
 | 0=>by simp
 | n+1=>by rw [dq,cN,aG,zky l n,Nat.mul_succ];lia
theorem zm1(z:Str)(n:Nat):(zd8 z n).length=z.length*n:=by
 show (((bi n z.cps.toList).flatten).toArray).size=_;rw [aJ,zky];rfl
def zdQ:R2:=λx y H Q=>∃z n,x = .str z/\y = .int n/\1<n/\n<2 ^ 31/\z.length≠0/\z.length*n.toNat<=sizeLine/\Q (.str (zd8 z n.toNat)) H
theorem zqO:OpR X (da .Mult) zdQ:=by
 intro Ga s σ H x y v u Q I rx ry h;obtain ⟨z,n,rfl,rfl,h1,h2,h3,h4,q⟩:=h;obtain ⟨t,rfl⟩:=rx;obtain ⟨t',rfl⟩:=ry;have hs:sizeLine=16777216:=cU;have hc:(n==1||z.length==0)=false:=by
  rw [Bool.or_eq_false_iff];exact ⟨beq_eq_false_iff_ne.mpr (by lia),beq_eq_false_iff_ne.mpr h3⟩
 have hz:z.length<=16777216:=by
  have:z.length*1<=z.length*n.toNat:=Nat.mul_le_mul_left _ (by lia);lia
 refine PySem.P.mul_str ?_ ?_ ?_ ?_
 .rw [decide_eq_false (show ¬ n < -(2 ^ 63:Int) by lia),decide_eq_false (show ¬ n ≥ 2 ^ 63 by lia)];rfl
 .intro _ _ hgt;have:(16777216:Int)<=(2 ^ 63-1) / n:=Int.le_ediv_of_mul_le (by lia) (by lia);lia
 .intro _ _;exact decide_eq_false (by lia)
 .rw [if_neg (show ¬ n<1 by lia),if_neg (by rw [hc];exact aw),zpS];exact ⟨by rw [zm1];lia,⟨.str _,H,I.tok _,⟨_,rfl⟩,q⟩⟩
theorem zf9{p:Addr}{k:Int}{Q:Hp->Prop}:zh4 (.ref p) (.int k) v H Q = ∃xs j,H p=some (.lst xs)/\ixN xs.length k=some j/\Q (upd H p (.lst (xs.set j v))):=by
 apply propext;constructor
 .rintro ⟨p',xs,k',j,e1,e2,h⟩;cases e1;cases e2;exact ⟨xs,j,h⟩
 .rintro ⟨xs,j,h⟩;exact ⟨p,xs,k,j,rfl,rfl,h⟩
def zmt:List V->Hp->VK->Prop:=λxs H Q=>∃p ys,xs=[.ref p]/\(H p=some (.lst ys)\/H p=some (.tup ys))/\∀l H2,New H l (.lst ys) H2->Q (.ref l) H2
theorem zlV:zK X (.type "list") zmt:=zqT.weak λxs H Q h=>by
 obtain ⟨p,ys,e,h1,q⟩:=h;exact ⟨p,ys,e,h1.elim (λh=>.inl (SqL.of h)) (λh=>.inr (SqT.of h)),λl hl=>q l _ (.mk' hl)⟩
theorem ztV{Q:VK}:zmt [.ref a] H Q = ∃ys,(H a=some (.lst ys)\/H a=some (.tup ys))/\∀l H2,New H l (.lst ys) H2->Q (.ref l) H2:=by
 apply propext;constructor
 .rintro ⟨p,ys,e,h⟩;cases e;exact ⟨ys,h⟩
 .rintro ⟨ys,h⟩;exact ⟨a,ys,rfl,h⟩
def zj8(to:TE):TE:=λσ H Q=>to σ H λx H1=>uR x λl=>∃xs,H1 l=some (.lst xs)/\Q .non (upd H1 l (.lst []))
theorem zsi(ho:W (PE X o to))(hbase:cy o "clear" X.env (bV o X.env)=bV o X.env:=by rfl)(hline:(apos.endLine==cpos.line)=true:=by rfl):W (PE X (.Call (.Attribute o "clear" apos) [] [] cpos) (zj8 to)):=by
 refine ⟨?_⟩;have ho:=ho.h;intro Ga s σ H Q I h;refine wpAny_Call_method0_late hbase hline (thn (ho Ga s σ H _ I h) λv s1=>x5e λx H1 I1 r1 zz1=>?_);obtain ⟨l,ex,xs,hx,q1⟩:=zz1;subst ex;obtain ⟨h1,h2⟩:=zdm (T:="list") I1 r1 (.inl ⟨rfl,xs,SqL.of hx⟩);exact ⟨"list","list.clear",gM,PySem.F.slot_list_clear,PySem.F.type_list_clear,h1,h2,Calls.callWith_builtin rfl (PySem.evalArgs_none (zng Ga s1 σ H1 (.ref l) [] v [] Q I1 r1 .nil ⟨l,xs,rfl,rfl,hx,q1⟩))⟩
theorem zhd{p:Addr}{Q:VK}:zek (.str z) [.ref p] H Q = ∃ys:List Str,H p=some (.lst (ys.map V.str))/\(ys.map (·.length)).sum+ys.length*z.length<=16777216/\Q (.str (Txt.join z ys)) H:=by
 apply propext;constructor
 .rintro ⟨z',p',ys,e1,e2,h⟩;cases e1;cases e2;exact ⟨ys,h⟩
 .rintro ⟨ys,h⟩;exact ⟨z,p,ys,rfl,rfl,h⟩
end
def Ite(K:ag)(a:Addr):It :=
 ⟨λi H=>∃xs x,SqL K H a xs/\xs[i]?=some x,λi H v H'=>∃T x,H T=none/\v = .ref T/\H'=upd H T (.tup [.int i,x])/\∀xs,SqL K H a xs->xs[i]?=some x,λi H=>∃xs,SqL K H a xs/\xs.length<=i⟩
structure zn4(e it l:Addr)(i:Nat)(h:Heap):Prop where
 z:∃old,IsEnum h e it i old
 a:h.IsListIter it l i
theorem zut{K:ag}{l e:Addr}(hne:e≠it) :
  zbV true P w K (.Tuple elts kk tp) (Ite K l) [e,it] e (zn4 e it l) where
 mem:=by simp
 obj:=λi h st b hb=>by
  obtain ⟨⟨old,a1⟩,⟨o4,a4,_,d4⟩⟩:=st;simp only [au,aM,or_false] at hb;rcases hb with rfl|rfl
  .exact ⟨_,a1,λv q=>nomatch q⟩
  .exact ⟨_,a4,λv q=>by rw [d4] at q;cases q⟩
 keep:=λi h h' st k=>by
  obtain ⟨⟨old,a1⟩,a4⟩:=st;exact ⟨⟨old,k _ (by simp) _ a1⟩,a4.at λo e=>k _ (by simp) o e⟩
 item:=by
  intro X hP hw hK hc i Ga s σ H E I hf st hg;subst hP hw hK;obtain ⟨xs,x,hq1,hx⟩:=hg;obtain ⟨is1,rv1,p1,hz1⟩:=I.list hq1;obtain ⟨u1,hu1,ru1⟩:=rv1.get hx;obtain ⟨⟨old,a1⟩,a4⟩:=st;refine wpAny_pyNext_enum_item a1 a4 p1.isList (x:=u1) (by simpa using hu1) hne λh' b1 b2 b3 b4 b5=>?_;refine ⟨_,rfl,wpAny_letOwnedTupleGo_enum (s:={ s with heap:=h',toks:=s.toks+1 }) b1 λh2 c1 c2=>?_⟩;have zlt:e<s.heap.objs.size:=aP a1;have nz:s.heap.objs.size≠e:=dQ zlt;have all:∀c o,c≠e->c≠it->s.heap.get? c=some o->h2.get? c=some o:=λc o n1 n2 q=>c2.extBut c o n1 (b5 c o n1 n2 q);have tT:h2.get? s.heap.objs.size=some { cls:=.type "tuple",data:=.seq #[.int i s.toks,u1] }:=c2.extBut _ _ nz b3;have hfr:H s.heap.objs.size=none:=I.hok.fresh (ae _);have hok0:HOk X.prog X.w H h2:=λb u q0=>by
   refine (I.hok b u q0).stay (λc v hc q=>?_) (λ_ q=>q) λ_ _ q=>q;have hnn:∀d∈[e,it],c≠d:=λd hd w=>by
    have fd:=(hf d hd).1;rcases hc with k|k
    .rw [k] at w;rw [w,fd] at q0;cases q0
    .rw [w,fd] at k;cases k
   exact all c v (hnn e (by simp)) (hnn it (by simp)) q
  have lt0:∀b o,s.heap.get? b=some o->b≠s.heap.objs.size:=λb o e=>bC (aP e);have I2:Inv X Ga σ (upd H s.heap.objs.size (.tup [.int i,x])) { s with heap:=h2,toks:=s.toks+1 }:=by
   refine I.step (g':=s.gens) (d':=s.drawn) (t':=s.toks+1) (ch:=[e,it]) (λb hb=>?_) (λb o _ _ hb q _=>?_) (λb o _ _ hb q _=>?_) (λb o _ q n=>?_) (λb o hb q=>?_) (λb ps q=>?_) (λb o u q=>?_) (λb ps q=>?_) (λm hm=>?_) (hok0.add hfr ?_) I.bare
   .obtain ⟨f0,f1,f2,f3,f4,f5⟩:=hf b hb;exact ⟨f3,f1,f4,f5⟩
   .simp only [au,aM,or_false,not_or] at hb;exact all b o hb.1 hb.2 q
   .simp only [au,aM,or_false,not_or] at hb;exact ⟨o.slots,all b o hb.1 hb.2 q⟩
   .rw [zd (lt0 b o q)];exact n
   .simp only [au,aM,or_false,not_or] at hb;exact ⟨o,all b o hb.1 hb.2 q⟩
   .rw [zd (zp q hfr)];exact q
   .rw [zd (zp q hfr)];exact q
   .exact ⟨#[],by rw [zd (zp q hfr),q];simp⟩
   .obtain ⟨o,es,ep,ho,r⟩:=hm;exact ⟨o,es,ep,all _ o (aU (hf e (by simp)).2.1) (aU (hf it (by simp)).2.1) ho,r⟩
   .exact ⟨by show 2<=sizeLine;decide,[.int i s.toks,u1],.cons ⟨_,rfl⟩ (.cons ru1 .nil),⟨_,tT,rfl,_,rfl⟩⟩
  refine ⟨.ref s.heap.objs.size,_,I2,rfl,⟨_,x,hfr,rfl,rfl,λzs hz=>by rw [I.list_inj hz hq1];exact hx⟩,?_,λb hb=>?_⟩
  .exact ⟨⟨_,c1⟩,b2.extBut c2.extBut (aU hne)⟩
  .have ne:b≠s.heap.objs.size:=λq=>by
    have:b<s.heap.objs.size:=by
     simp only [au,aM,or_false] at hb;obtain ⟨o4,a4,_⟩:=a4;rcases hb with rfl|rfl
     .exact zlt
     .exact aP a4
    exact absurd (q ▸ this) (bj _)
   rw [zd ne];exact (hf b hb).1
 done:=by
  intro X hP hw hK hc i Ga s σ H E I hf st hg;subst hP hw hK;obtain ⟨xs,hq1,hx⟩:=hg;obtain ⟨is1,rv1,p1,hz1⟩:=I.list hq1;have hl:=rv1.length;obtain ⟨⟨old,a1⟩,a4⟩:=st;refine wpAny_pyNext_enum_end (I.ok.hd (hc rfl)) a1 a4 p1.isList (by simp;lia) λh' up=>⟨rfl,?_⟩;refine I.step (g':=s.gens) (d':=s.drawn) (t':=s.toks) (ch:=[it]) (λb hb=>?_) (λb o _ _ hb q _=>?_) (λb o _ _ hb q _=>?_) (λ_ _ _ _ n=>n) (λb o hb q=>?_) (λ_ _ q=>q) (λ_ _ _ q=>q) (λb ps q=>⟨#[],by rw [q];simp⟩) (λm hm=>?_) (λb u q0=>?_) I.bare
  .have hb':b∈[e,it]:=by simp only [au,aM,or_false] at hb ⊢;exact .inr hb
   obtain ⟨f0,f1,f2,f3,f4,f5⟩:=hf b hb';exact ⟨f3,f1,f4,f5⟩
  .simp only [au,aM,or_false] at hb;exact up b o hb q
  .simp only [au,aM,or_false] at hb;exact ⟨o.slots,up b o hb q⟩
  .simp only [au,aM,or_false] at hb;exact ⟨o,up b o hb q⟩
  .obtain ⟨o,es,ep,ho,r⟩:=hm;exact ⟨o,es,ep,up _ o (aU (hf it (by simp)).2.1) ho,r⟩
  .refine (I.hok b u q0).stay (λc v hc q=>?_) (λ_ q=>q) λ_ _ q=>q;have hnn:c≠it:=λw=>by
    have fd:=(hf it (by simp)).1;rcases hc with k|k
    .rw [k] at w;rw [w,fd] at q0;cases q0
    .rw [w,fd] at k;cases k
   exact up c v hnn q
 self:=λ_ _ _ _ _ st h=>by
  obtain ⟨old,a1⟩:=st.z;exact fP a1 h
section
variable {X:Cx}
def zlL(K:ag)(ta:TA):TI:=λσ H R=>ta σ H λvs H1=>∃a,vs=[.ref a]/\(∃xs,SqL K H1 a xs)/\R (Ite K a) H1
theorem znP{p:Pos}{a:bw}{ta:TA}(hg:Gl X "enumerate")(hm:X.mg "enumerate"=none)(ha:W (PA X [a] ta))(hp:zX a=true:=by rfl):W (PIc true X (.Tuple elts kk tp) (.Call (.Name "enumerate" p) [a] [] pos) (zlL X.K ta)):=by
 refine ⟨?_⟩;have ha:=ha.h;intro Ga s σ H R I h;have hs:aV [a] X.env=[(false,bV a X.env)]:=zbx hp;refine Call_ (zb8 I hg hm boot_enumerate (cW (thn (ha pos Ga s σ H _ I h) λus s1=>x5e λvs H1 I1 r1 q1=>?_) hs rfl));obtain ⟨l1,e,⟨xs,h1⟩,q⟩:=q1;subst e;cases r1 with
 | cons r rr =>
  cases rr;cases (show _=aA l1 from r);obtain ⟨is1,rv1,p1,_⟩:=I1.list h1;refine call_enumerate_list p1.isList λh' a1 a4 a6 a7=>fP (s:={ s1 with heap:=h' }) a1 ?_;refine ⟨_,_,_,_,H1,rfl,I1.kept (t':=s1.toks) a7,zut (Nat.succ_ne_self _),⟨⟨_,a1⟩,a4⟩,λb hb=>?_,q⟩;have le:s1.heap.objs.size<=b:=by
   simp only [au,aM,or_false] at hb;rcases hb with rfl|rfl<;>lia
  exact I1.fpOk le (I1.hok.fresh le)
end
section
variable {K:ag}{g:TG}{tb:TS}{D:zaG}{σ:St}{H:Hp}{ta:TA}{R:It->Hp->Prop}
def uR1(vs:List V)(q:Addr->Prop):Prop:=∃a,vs=[.ref a]/\q a
theorem zdV{q:Addr->Prop}:uR1 [.ref a] q=q a:=by
 apply propext;constructor
 .rintro ⟨c,e,h⟩;cases e;exact h
 .exact λh=>⟨a,rfl,h⟩
theorem zt8:zlL K ta σ H R=ta σ H λvs H1=>uR1 vs λa=>(∃xs,SqL K H1 a xs)/\R (Ite K a) H1:=rfl
theorem zat.enum{xs:List V}(Pv:Nat->St->Hp->Prop)(h0:Pv 0 σ H)(hl:∀i σ H,i<=xs.length->Pv i σ H->SqL K H a xs)
  (hs:∀i x p σ H,xs[i]?=some x->Pv i σ H->H p=none->g (.ref p) σ (upd H p (.tup [.int i,x])) λσ2 H2=>tb { D with nx:=Pv (i+1),ct:=Pv (i+1),bk:=D.nx } σ2 H2) (hd:∀σ H,Pv xs.length σ H->D.nx σ H):zat (Ite K a) g tb D σ H:=by
 refine ⟨λi m σ H=>m=xs.length-i/\i<=xs.length/\Pv i σ H,⟨xs.length,by simp,cf _,h0⟩,?_⟩;rintro i m σ H ⟨rfl,hi,p⟩;have q:=hl i σ H hi p;by_cases hlt:i<xs.length
 .refine .inr ⟨⟨xs,xs[i],q,by simp [hlt]⟩,Pv (i+1),λσ' H' p'=>⟨xs.length-(i+1),by lia,rfl,hlt,p'⟩,λx H' y=>?_⟩;obtain ⟨T,z,hT,rfl,rfl,hz⟩:=y;exact hs i z T σ _ (hz xs q) p hT
 .have e:i=xs.length:=by lia
  subst e;exact .inl ⟨⟨xs,q,ae _⟩,hd σ H p⟩
end
section
variable {X:Cx}
def zll(C:Addr)(ta tv:TE)(rd:V->V->Hp->VK->Prop)(f:Str):TS:=λD σ H=>ta σ H λx H1=>uR x λa=>∃dx fs v,H1 a=some (.ins C dx fs)/\fs.lookup f=some v /\
 tv σ H1 λy H2=>rd v y H2 λz H3=>∃dx' fs',H3 a=some (.ins C dx' fs')/\fs'.length<1000/\D.nx σ (upd H3 a (.ins C dx' (zH f z fs')))
theorem zkD{value:bw}{tpos:Pos}{tv:TE}{op:Operator}{rd:V->V->Hp->VK->Prop}(c:Cls X.K C)(n:zaD X.K C f)(ha:W (PE X o ta))(hv:W (PE X value tv))(hop:zhl X op rd):W (PS X (.AugAssign (.Attribute o f tpos) op value pos) (zll C ta tv rd f)):=by
 refine ⟨?_⟩;have ha:=ha.h;have hv:=hv.h;intro Ga s σ H D I h;refine wpAny_AugAssign_AttributeAny (thn (ha Ga s σ H _ I h) λov s1=>x5e λx H1 I1 rx zz1=>?_);obtain ⟨a,ex,dx,fs,v,ea,l,q⟩:=zz1;subst ex;obtain rfl:ov=aA a:=rx;refine zmT I1 ea c n l λu s2 I2 ru=>thn (hv Ga s2 σ H1 _ I2 q) λw3 s3=>x5e λy H2 I3 ry q3=>thn (hop Ga s3 σ H2 v y u w3 _ I3 ru ry q3) λw4 s4=>x5e λz H3 I4 rz zz2=>?_;obtain ⟨dx',fs',ea',l',q4⟩:=zz2;exact zl2 I4 ea' c n l' rz λs5 I5=>⟨σ,_,I5,q4⟩
theorem znW{Q:VK}:zfX (.int i) (.int j) H Q=Q (.int (i+j)) H:=by simp [zfX]
theorem zro{Q:VK}:zfC (.int i) (.int j) H Q=Q (.int (i-j)) H:=by simp [zfC]
def zbs(neg:Bool):R2:=λx y H Q=>y = .non/\Q (.bl (if neg then !decide (x = .non) else decide (x = .non))) H
theorem zic:OpR X (bG .Is) (zbs false):=zue.weak λx y H Q h=>⟨h.1,by simpa using h.2⟩
theorem zhr:OpR X (bG .IsNot) (zbs true):=zup.weak λx y H Q h=>⟨h.1,by simpa using h.2⟩
theorem zu4{Q:VK}:zbs c .non .non H Q=Q (.bl (if c then false else true)) H:=by simp [zbs]
theorem ztn{Q:VK}:zbs c (.int i) .non H Q=Q (.bl (if c then true else false)) H:=by simp [zbs]
def zcC:R2:=λx y H Q=>zcz x y H Q\/zdQ x y H Q
theorem zaT:OpR X (da .Mult) zcC:=zsg.or zqO
theorem zoW{Q:VK}:zcC (.int i) (.int j) H Q=(zdp i j/\Q (.int (i*j)) H):=by simp [zcC,zkQ,zdQ]
theorem zuR{Q:VK}:zcC (.ref a) (.int i) H Q=zcz (.ref a) (.int i) H Q:=by simp [zcC,zdQ]
theorem zuZ{Q:VK}:zcC (.str z) (.int i) H Q=(1<i/\i<2 ^ 31/\z.length≠0/\z.length*i.toNat<=sizeLine/\Q (.str (zd8 z i.toNat)) H):=by
 simp [zcC,zcz,zdQ]
def uS(v:V)(q:Str->Prop):Prop:=∃z,v = .str z/\q z
theorem zgY{q:Str->Prop}:uS (.str z) q=q z:=by simp [uS]
def zjH(to te:TE):TE:=λσ H Q=>to σ H λx H1=>uS x λz=>te σ H1 λy H2=>zek (.str z) [y] H2 Q
theorem zkr(ho:W (PE X o to))(he:W (PE X e te))(hbase:cy o "join" X.env (bV o X.env)=bV o X.env:=by rfl)(hline:(apos.endLine==cpos.line)=true:=by rfl)(hp:zX e=true:=by rfl):W (PE X (.Call (.Attribute o "join" apos) [e] [] cpos) (zjH to te)):=by
 refine ⟨?_⟩;have ho:=ho.h;have he:=he.h;intro Ga s σ H Q I h;have hs:aV [e] X.env=[(false,bV e X.env)]:=zbx hp;refine cX hbase (by rw [hs];rfl) hline rfl (thn (ho Ga s σ H _ I h) λv s1=>x5e λx H1 I1 r1 zz3=>?_);obtain ⟨z,ex,q1⟩:=zz3;subst ex;obtain ⟨h1,h2⟩:=zdm (T:="str") I1 r1 rfl;refine ⟨"str","str.join",PySem.F.plainAttrs_str,PySem.F.slot_str_join,PySem.F.type_str_join,h1,h2,?_⟩;rw [hs];refine Calls.callWith_builtin rfl (Calls.evalArgs_plain ?_);have hA:=zb6 he zbX (hs:=hs) cpos Ga s1 σ H1 (λys H2=>za6 (λy=>zek (.str z) [y] H2 Q) ys) I1 q1;rw [hs] at hA;refine thn hA λus s2=>x5e λvs H2 I2 r2 q2=>?_;obtain ⟨y,rfl,q2⟩:=za6.ex q2;exact zno Ga s2 σ H2 (.str z) [y] v us Q I2 r1 r2 q2
end
section
variable {K:ag}{g:TG}{tb:TS}{D:zaG}{σ:St}{H:Hp}{ta:TA}{tl:TE}{wi:TI}{R:It->Hp->Prop}{j:Int}{tt:TT}{te:TE}{ix:List (Option Nat)}{Q:VK}
theorem zau.lst{xs:List V}(Pv:Nat->St->List V->Hp->Prop)(hz:∀i τ ys H,Pv i τ ys H->ys.length<sizeLine)(ha:∀i τ ys H,Pv i τ ys H->SqL K H a xs)(h0:Pv 0 τ [] H)
  (hs:∀(N:St->List V->Hp->Prop) i x τ ys H,xs[i]?=some x->Pv i τ ys H->(∀τ ys H,Pv (i+1) τ ys H->N τ ys H)->g x τ H λτ1 H4=>tt τ1 H4 λok H5=>zck N ys τ1 te ok H5) (hd:∀τ ys H,Pv xs.length τ ys H->∀D H',New H D (.lst ys) H'->Q (.ref D) H'):zau (Itl K a) g tt te τ H Q:=by
 refine ⟨λi m τ ys H=>m=xs.length-i/\i<=xs.length/\Pv i τ ys H,⟨xs.length,by simp,cf _,h0⟩,?_⟩;rintro i m τ ys H2 ⟨rfl,hi,p⟩;refine ⟨hz i τ ys H2 p,?_⟩;have q:=ha i τ ys H2 p;by_cases hlt:i<xs.length
 .refine .inr ⟨⟨xs,xs[i],q,by simp [hlt]⟩,λx H' y=>?_⟩;obtain ⟨e,y⟩:=y;subst e;exact hs (λτ1 ys H=>∃m',m'<xs.length-i/\m'=xs.length-(i+1)/\i+1<=xs.length/\Pv (i+1) τ1 ys H) i x τ ys _ (y xs q) p λτ1 zs H q=>⟨xs.length-(i+1),by lia,rfl,hlt,q⟩
 .have e:i=xs.length:=by lia
  subst e;exact .inl ⟨⟨xs,q,ae _⟩,λD hD _=>hd τ ys H2 p D _ (.mk' hD)⟩
def zi3(t:TS):TS:=λD σ H=>∃Mid:St->Hp->Prop,t { D with nx:=Mid } σ H/\∀σ' H',Mid σ' H'->D.nx σ' H'
theorem zdy{t:TS}(h:W (PS X st t)):W (PS X st (zi3 t)):=by
 refine ⟨?_⟩;have h:=h.h;exact λGa s σ H D I hw=>by
  obtain ⟨Mid,h1,h2⟩:=hw;refine thn (h Ga s σ H _ I h1) λf s1 q=>?_;cases f with
  | next=>obtain ⟨σ',H',I',q⟩:=q;exact ⟨σ',H',I',h2 _ _ q⟩
  | ret v=>exact q
  | brk=>exact q
  | cont=>exact q
theorem zdz{t:TS}:zi3 t D σ H = ∃Mid:St->Hp->Prop,t { D with nx:=Mid } σ H/\∀σ' H',Mid σ' H'->D.nx σ' H':=rfl
end
section
variable {X:Cx}
theorem zQ  : W (PSs X [] zfQ):=⟨zi4 ⟩
theorem zg{rest:List Stmt}{t:TS}{u:TS}(h1:W (PS X st t))(h2:W (PSs X rest u)):W (PSs X (st::rest) (zgi t u)):=⟨zlz (h1:=h1.h) (h2:=h2.h)⟩
theorem zh{t:TS}(h1:W (PS X st t)):W (PSs X [st] t):=⟨zgz (h1:=h1.h)⟩
theorem zw(he:W (PE X e te)):W (PS X (.Return (some e) pos) (zho te)):=⟨zf7 (he:=he.h)⟩
theorem zN{t:TS}{u:TS}{c:bw}{a b:List Stmt}{tc:TT}(hc:W (PT X c tc))(ha:W (PSs X a t))(hb:W (PSs X b u)):W (PS X (.If c a b pos) (zhf tc t u)):=⟨zlF (hc:=hc.h) (ha:=ha.h) (hb:=hb.h)⟩
theorem zc  : W (PA X [] zaZ):=⟨zbX ⟩
theorem zF{a:bw}{b:bw}{op:CmpOp}{r:R2}(ho:OpR X (bG op) r)(ha:W (PE X a ta))(hb:W (PE X b tb))(hm:gu op b=false):W (PT X (.Compare a [op] [b] pos) (zeP (tOp r ta tb))):=⟨zkW (ho:=ho) (ha:=ha.h) (hb:=hb.h) (hm:=hm)⟩
theorem zbj(hg:Gl X x)(hm:∃u,X.mg x=some u/\zm v u)(hd:(x==("__debug__":Str))=false:=by decide):W (PE X (.Name x pos) (tC v)):=⟨zmy (hg:=hg) (hm:=hm) (hd:=hd)⟩
theorem zi{i j pos}:W (PE X (.Constant (.int i) j pos) (tC (.int i))):=⟨zeW ⟩
theorem zmp{a:bw}{op:UnaryOp}{r:V->Hp->VK->Prop}(ho:UnR X (unaryOp op) r)(ha:W (PE X a ta)):W (PE X (.UnaryOp op a pos) (tUn r ta)):=⟨zlv (ho:=ho) (ha:=ha.h)⟩
theorem zV{a:bw}{b:bw}{r:R2}(hr:IxR X r)(ha:W (PE X a ta))(hb:W (PE X b tb))(hs:zmV b):W (PE X (.Subscript a b pos) (tOp r ta tb)):=⟨zma (hr:=hr) (ha:=ha.h) (hb:=hb.h) (hs:=hs)⟩
theorem zC{i:Nat}(hN:X.N.Nodup)(hi:X.N[i]?=some x)(hx:Loc X.env.scope x)(hf:X.fn x=true\/X.env.scope.names.lookup x=some .local:=by first|exact .inl rfl|exact .inr rfl|assumption):W (PG X (.Name x pos) (zcJ i)):=⟨zjp (hN:=hN) (hi:=hi) (hx:=hx) (hf:=hf)⟩
theorem zc3{k:Nat}{t:TGs}{n:Nat}(h:W (PGs X es t))(hl:(cY es X.env).length=n:=by rfl)(hst:(cY es X.env).findIdx? (·.1)=none:=by rfl):W (PG X (.Tuple es k pos) (zg3 X.K n t)):=⟨zln (h:=h.h) (hl:=hl) (hst:=hst)⟩
theorem zcc{t:TT}(h:W (PW X e t)):W (PT X e t):=⟨PW.pt h.h⟩
theorem zt9{t:TS}(h:W (PS X.nox st t)):W (PS X st t):=⟨PS.nox h.h⟩
end
def asc(z:Str):Bool:=z.cps.all (· < 128)
def Its(z:Str):It:=⟨λi _=>i<z.cps.size,λi H x H'=>H'=H/\∃c,z.cps[i]?=some c/\x = .str ⟨#[c]⟩,λi _=>z.cps.size<=i⟩
theorem zrX{K:ag}(z:Str)(it:Addr):zbV true P w K tg (Its z) [it] it (λi h=>∃t,h.IsStrIter it "str_ascii_iterator" z t i) where
 mem:=by simp
 obj:=λi h st b hb=>by
  have e:b=it:=by simpa using hb
  subst e;obtain ⟨t,o,e,c,d⟩:=st;exact ⟨o,e,λv z=>by rw [d] at z;cases z⟩
 keep:=λi h h' st k=>by
  obtain ⟨t,o,e,r⟩:=st;exact ⟨t,o,k it (by simp) o e,r⟩
 item:=by
  intro X hP hw hK hc i Ga s σ H E I hf st hg;subst hP hw hK;obtain ⟨t,st⟩:=st;obtain ⟨f0,f1,f2,f3,f4,f5⟩:=hf it (by simp);have hi:i<z.cps.size:=hg;refine wpAny_pyNext_ascii_item st (c:=z.cps[i]) (by simp [hi]) λh' st' sb=>?_;have I1:Inv X Ga σ H { s with heap:=h',toks:=s.toks+1 }:=I.turned (λb o hb e=>(sb.2 b hb).trans e) f0 f1 f3 f4 f5;obtain ⟨o,e,c,d⟩:=id st';exact ⟨_,rfl,zdq (s:={ s with heap:=h',toks:=s.toks+1 }) e c d (by decide) ⟨.str ⟨#[z.cps[i]]⟩,H,I1,⟨_,rfl⟩,⟨rfl,_,by simp [hi],rfl⟩,⟨t,st'⟩,λb hb=>(hf b hb).1⟩⟩
 done:=by
  intro X hP hw hK hc i Ga s σ H E I hf st hg;subst hP hw hK;obtain ⟨t,st⟩:=st;obtain ⟨f0,f1,f2,f3,f4,f5⟩:=hf it (by simp);have hi:z.cps.size<=i:=hg;exact wpAny_pyNext_ascii_end (I.ok.hd (hc rfl)) st (by simp [hi]) λh' eb=>⟨rfl,I.turned (t':=s.toks) (λb o hb e=>eb b o hb e) f0 f1 f3 f4 f5⟩
 self:=λ_ _ _ _ _ st h=>by
  obtain ⟨t,st⟩:=st;exact wpAny_pyIter_striter_ascii st h
section
variable {X:Cx}{tg:bw}
def zl5(tl:TE):TI:=λσ H R=>tl σ H λx H1=>uS x λz=>asc z=true/\R (Its z) H1
theorem zq7:zl5 tl σ H R=tl σ H λx H1=>uS x λz=>asc z=true/\R (Its z) H1:=rfl
theorem zqS(hl:W (PE X l tl)):W (PIc true X tg l (zl5 tl)):=by
 refine ⟨?_⟩;have hl:=hl.h;intro Ga s σ H R I h;refine thn (hl Ga s σ H _ I h) λv s1=>x5e λx H1 I1 r1 q1=>?_;obtain ⟨z,e,ha,q⟩:=q1;subst e;obtain ⟨t,rfl⟩:=r1;refine wpAny_pyIter_ascii ha ?_;refine ⟨s1.heap.objs.size,[s1.heap.objs.size],_,_,H1,rfl,I1.kept (t':=s1.toks) λb o e=>ad _ e,zrX z _,⟨t,_,aO _ rfl,rfl,rfl⟩,λb hb=>?_,q⟩;have e:b=s1.heap.objs.size:=by simpa using hb
 subst e;exact I1.fpOk (ae _) (I1.hok.fresh (ae _))
end
theorem Draws.later{prog:aI}{fp:List Addr}{n k:Nat}{P:Nat->Value->Prop}{St:Nat->Heap->Prop}(D:Draws prog w A it fp n P St) :
  Draws prog w A it fp (n+k) (λi v=>P (i-k) v) (λi h=>k<=i/\St (i-k) h) where
 live:=λ_ _ st=>D.live _ _ st.2
 frame:=λ_ _ _ st hk=>⟨st.1,D.frame _ _ _ st.2 hk⟩
 item:=λi s Q E hi st hQ=>D.item (i-k) s Q E (by have:=st.1;lia) st.2 λx h' tk p st' sb=>hQ x h' tk p ⟨by have:=st.1;lia,by
  have e:i+1-k=i-k+1:=by have:=st.1;lia
  rw [e];exact st'⟩ sb
 done:=λs Q E st hE=>D.done s Q E (by
  have e:n+k-k=n:=by lia
  have:=st.2;rwa [e] at this) hE
def zdY(z:Str)(k:Nat):It :=
 ⟨λi _=>i<z.cps.size,λi H v H'=>∃T c,H T=none/\v = .ref T/\z.cps[i]?=some c/\H'=upd H T (.tup [.int ((i:Nat)+k:Nat),.str ⟨#[c]⟩]),λi _=>i=z.cps.size⟩
structure zuJ(e it:Addr)(z:Str)(k i:Nat)(h:Heap):Prop where
 en:∃old,IsEnum h e it ((i+k:Nat):Int) old
 a:∃t,h.IsStrIter it "str_ascii_iterator" z t i
theorem zrq{K:ag}{k:Nat}{e:Addr}(hne:e≠it) :
  zbV true P w K (.Tuple elts kk tp) (zdY z k) [e,it] e (zuJ e it z k) where
 mem:=by simp
 obj:=λi h st b hb=>by
  obtain ⟨⟨old,a1⟩,⟨t,o4,a4,_,d4⟩⟩:=st;simp only [au,aM,or_false] at hb;rcases hb with rfl|rfl
  .exact ⟨_,a1,λv q=>nomatch q⟩
  .exact ⟨_,a4,λv q=>by rw [d4] at q;cases q⟩
 keep:=λi h h' st k=>by
  obtain ⟨⟨old,a1⟩,⟨t,o,a4,r⟩⟩:=st;exact ⟨⟨old,k _ (by simp) _ a1⟩,t,o,k _ (by simp) o a4,r⟩
 item:=by
  intro X hP hw hK hc i Ga s σ H E I hf st hg;subst hP hw hK;obtain ⟨⟨old,a1⟩,⟨t,a4⟩⟩:=st;have hi:i<z.cps.size:=hg;have hid:=I.ok.hd (hc rfl);have D:=Draws.later (k:=k) (Draws.strAscii (prog:=X.prog) (w:=X.w) (A:=X.A.in1) hid it z t);refine wpAny_pyNext_enum_itemD D a1 (i:=i+k) ⟨by lia,by rw [Nat.add_sub_cancel];exact a4⟩ (by lia) hne (by simpa using hne) λx h' tk px b1 b2 b3 b4 b5=>?_;obtain ⟨c,u,hcc,rfl⟩:=px;rw [Nat.add_sub_cancel] at hcc;refine ⟨_,rfl,wpAny_letOwnedTupleGo_enum (s:={ s with heap:=h',toks:=tk+1 }) b1 λh2 c1 c2=>?_⟩;have zlt:e<s.heap.objs.size:=aP a1;have nz:s.heap.objs.size≠e:=dQ zlt;have all:∀c o,c≠e->c≠it->s.heap.get? c=some o->h2.get? c=some o:=λc o n1 n2 q=>c2.extBut c o n1 (b5 c o n1 n2 q);have tT:h2.get? s.heap.objs.size=some { cls:=.type "tuple",data:=.seq #[.int ((i+k:Nat):Int) tk,.str ⟨#[c]⟩ u] }:=c2.extBut _ _ nz b3;have hfr:H s.heap.objs.size=none:=I.hok.fresh (ae _);have hok0:HOk X.prog X.w H h2:=λb u q0=>by
   refine (I.hok b u q0).stay (λc v hc q=>?_) (λ_ q=>q) λ_ _ q=>q;have hnn:∀d∈[e,it],c≠d:=λd hd w=>by
    have fd:=(hf d hd).1;rcases hc with k|k
    .rw [k] at w;rw [w,fd] at q0;cases q0
    .rw [w,fd] at k;cases k
   exact all c v (hnn e (by simp)) (hnn it (by simp)) q
  have lt0:∀b o,s.heap.get? b=some o->b≠s.heap.objs.size:=λb o e=>bC (aP e);have I2:Inv X Ga σ (upd H s.heap.objs.size (.tup [.int ((i+k:Nat):Int),.str ⟨#[c]⟩])) { s with heap:=h2,toks:=tk+1 }:=by
   refine I.step (g':=s.gens) (d':=s.drawn) (t':=tk+1) (ch:=[e,it]) (λb hb=>?_) (λb o _ _ hb q _=>?_) (λb o _ _ hb q _=>?_) (λb o _ q n=>?_) (λb o hb q=>?_) (λb ps q=>?_) (λb o u q=>?_) (λb ps q=>?_) (λm hm=>?_) (hok0.add hfr ?_) I.bare
   .obtain ⟨f0,f1,f2,f3,f4,f5⟩:=hf b hb;exact ⟨f3,f1,f4,f5⟩
   .simp only [au,aM,or_false,not_or] at hb;exact all b o hb.1 hb.2 q
   .simp only [au,aM,or_false,not_or] at hb;exact ⟨o.slots,all b o hb.1 hb.2 q⟩
   .rw [zd (lt0 b o q)];exact n
   .simp only [au,aM,or_false,not_or] at hb;exact ⟨o,all b o hb.1 hb.2 q⟩
   .rw [zd (zp q hfr)];exact q
   .rw [zd (zp q hfr)];exact q
   .exact ⟨#[],by rw [zd (zp q hfr),q];simp⟩
   .obtain ⟨o,es,ep,ho,r⟩:=hm;exact ⟨o,es,ep,all _ o (aU (hf e (by simp)).2.1) (aU (hf it (by simp)).2.1) ho,r⟩
   .exact ⟨by show 2<=sizeLine;decide,[.int ((i+k:Nat):Int) tk,.str ⟨#[c]⟩ u],.cons ⟨_,rfl⟩ (.cons ⟨_,rfl⟩ .nil),⟨_,tT,rfl,_,rfl⟩⟩
  refine ⟨.ref s.heap.objs.size,_,I2,rfl,⟨_,c,hfr,rfl,hcc,rfl⟩,?_,λb hb=>?_⟩
  .obtain ⟨_,b2⟩:=b2;have e1:i+k+1-k=i+1:=by lia
   rw [e1] at b2;obtain ⟨o,b2,r⟩:=b2;have e3:((i+1+k:Nat):Int)=((i+k:Nat):Int)+1:=by lia
   refine ⟨?_,t,o,c2.extBut _ _ (aU hne) b2,r⟩;rw [e3];exact ⟨_,c1⟩
  .have ne:b≠s.heap.objs.size:=λq=>by
    have:b<s.heap.objs.size:=by
     simp only [au,aM,or_false] at hb;obtain ⟨o4,a4,_⟩:=a4;rcases hb with rfl|rfl
     .exact zlt
     .exact aP a4
    exact absurd (q ▸ this) (bj _)
   rw [zd ne];exact (hf b hb).1
 done:=by
  intro X hP hw hK hc i Ga s σ H E I hf st hg;subst hP hw hK;obtain ⟨⟨old,a1⟩,⟨t,a4⟩⟩:=st;have hi:i=z.cps.size:=hg;have hid:=I.ok.hd (hc rfl);have D:=Draws.strAscii (prog:=X.prog) (w:=X.w) (A:=X.A.in1) hid it z t;rw [hi] at a4;refine wpAny_pyNext_enum_endD D a1 a4 λh' up=>⟨rfl,?_⟩;refine I.step (g':=s.gens) (d':=s.drawn) (t':=s.toks) (ch:=[it]) (λb hb=>?_) (λb o _ _ hb q _=>?_) (λb o _ _ hb q _=>?_) (λ_ _ _ _ n=>n) (λb o hb q=>?_) (λ_ _ q=>q) (λ_ _ _ q=>q) (λb ps q=>⟨#[],by rw [q];simp⟩) (λm hm=>?_) (λb u q0=>?_) I.bare
  .have hb':b∈[e,it]:=by simp only [au,aM,or_false] at hb ⊢;exact .inr hb
   obtain ⟨f0,f1,f2,f3,f4,f5⟩:=hf b hb';exact ⟨f3,f1,f4,f5⟩
  .simp only [au,aM,or_false] at hb;exact up b o hb q
  .simp only [au,aM,or_false] at hb;exact ⟨o.slots,up b o hb q⟩
  .simp only [au,aM,or_false] at hb;exact ⟨o,up b o hb q⟩
  .obtain ⟨o,es,ep,ho,r⟩:=hm;exact ⟨o,es,ep,up _ o (aU (hf it (by simp)).2.1) ho,r⟩
  .refine (I.hok b u q0).stay (λc v hc q=>?_) (λ_ q=>q) λ_ _ q=>q;have hnn:c≠it:=λw=>by
    have fd:=(hf it (by simp)).1;rcases hc with k|k
    .rw [k] at w;rw [w,fd] at q0;cases q0
    .rw [w,fd] at k;cases k
   exact up c v hnn q
 self:=λ_ _ _ _ _ st h=>by
  obtain ⟨old,a1⟩:=st.en;exact fP a1 h
section
variable {prog:aI}{w:aZ}{A:be}{E:Value->af->Prop}{s:af}
theorem zsa(a b:Value):checkTypeCall "enumerate" ⟨[a],[(aj "start",b)]⟩=pure ():=by kernel_rfl
theorem zvP(a b:Value):gg "enumerate.__new__" ⟨[.type "enumerate",a],[(aj "start",b)]⟩=pure ():=by kernel_rfl
theorem zpE(o a b:Value):argsOk "object.__init__" ⟨[o,a],[(aj "start",b)]⟩:=by
 unfold argsOk;kernel_rfl
theorem zpf (x : Str) (t u : Tok) : Meets (aN.«enumerate.__new__» ⟨[.type "enumerate", .str x t], [(aj "start", .int 1 u)]⟩) (fun _ R s =>
      R (.ok (.ret (.ref (s.heap.push { cls := .type (eX x), data := .fields #[.str x t, .int 0 0] }).objs.size)))
        { s with heap := (s.heap.push { cls := .type (eX x), data := .fields #[.str x t, .int 0 0] }).push { cls := .type "enumerate", data := .fields #[.none, .bool false, .ref s.heap.objs.size, bZ 1, .none, .none] } }) :=
 .of_wp λprog w A R s h=>by
  obtain ⟨hp,g,d,tk,os⟩:=s;have hsub:=sub_enumerate
  wp_walk
  refine wpAny_stack_any λst=>ar ?_;split
  .rename_i c _ _ _ _ _;cases (c==type "enumerate")
   .wp_walk using h8
    exact ⟨_,rfl,h⟩
   .wp_walk using h8
    exact ⟨_,rfl,h⟩
  .wp_walk using h8
   exact ⟨_,rfl,h⟩
theorem znf{newId:String}{self a:Value}{kws:List (Str×Value)}(hl:typeLookup (.type T) "__init__"=pure (some (.builtin "object.__init__")))
  (hm:Bind.madeBy (.type T)=pure (some newId)) (hne:(some newId != some "object.__new__")=true):Meets (aN.«object.__init__» ⟨[self,a],kws⟩) (λ_ R s=>s.TypeIs self T/\R (.ok (.ret .none)) s):=by
 refine Meets.of_wp λprog w A R s=>x2e λhT hq=>?_
 repeat (any_goals (first|assumption|wp_step))
 exact ⟨_,rfl,hq⟩
theorem zvB{newId:String}{Bn:aN}{a:Value}{kws:List (Str×Value)}{S:cb}(ft:TypeCalled T newId "object.__init__")(hne:(some newId != some "object.__new__")=true)
  (hct:checkTypeCall T ⟨[a],kws⟩=pure ()) (hcn:gg newId ⟨[.type T,a],kws⟩=pure ()) (hok:∀obj,argsOk "object.__init__" ⟨[obj,a],kws⟩) (entryN:entryFor table newId=some Bn) (g:Meets (Bn ⟨[.type T,a],kws⟩) S)
  (h:S A.in1 (wants (λobj s₁=>s₁.TypeIs obj T/\Q obj s₁) E) s):aH (aC prog w) A (call (.type T) [a] kws) Q E s:=by
 obtain ⟨c,tl,hmro⟩:=ft.mro;have hmade:=ft.made;have hsub:=ft.sub;refine iH (A:=A) (codeAny_of_tree (A:=A) ?_);show aH (aC prog w) _ (callAny (.type T) _) _ _ _;refine ar ⟨Code.quiet_builtin _ (f!""),codeAny_builtin (A:=A) F.entry_type_call ?_⟩;rw [be.under_plain (weight_type_call_type T [a] kws) (units_type_call_type T [a] kws)];have k1:=ft.notType;have k2:=ft.canCreate
 repeat (any_goals (first|assumption|wp_step))
 refine fk (gE ft.plain entryN (wpAny_of_eq hcn (g prog w A.in1 _ s h))) λr s1 hr=>?_;cases r with
 | error e=>exact hr
 | ok fl =>
  cases fl with
  | ret obj =>
   have hli:=ft.init.lookup;have hbi:=ft.init.bind obj;have hT:=hr.1
   repeat (any_goals (first|assumption|wp_step))
   refine fk (gE ft.init.plain F.entry_object_init (ft.init.check _ _ _ _ _ _ _ _ hr.1 (hok obj) (znf ft.init.lookup ft.made hne prog w A.in1 (wants (λr s2=>r = .none/\Q obj s2) E) s1 ⟨hr.1,rfl,hr.2⟩))) λr2 s2 hr2=>?_;cases r2 with
   | error e=>exact hr2
   | ok fl2 =>
    cases fl2 with
    | ret r =>
     obtain ⟨rfl,hq⟩:=hr2
     repeat (any_goals (first|assumption|wp_step))
    | _=>exact hr2.elim
  | _=>exact hr.elim
theorem zm0{t u:Tok}
  (h:∀h',IsEnum h' (s.heap.objs.size+1) s.heap.objs.size 1 .none->h'.IsStrIter s.heap.objs.size (eX x) x t 0->h'.objs.size=s.heap.objs.size+2->(∀b o,s.heap.get? b=some o->h'.get? b=some o)->Q (.ref (s.heap.objs.size+1)) { s with heap:=h' }) :
  aH (aC prog w) A (call (.type "enumerate") [.str x t] [(aj "start",.int 1 u)]) Q E s:=by
 refine zvB F.called_enumerate (by decide) (zsa _ _) (zvP _ _) (λobj=>zpE obj _ _) F.entry_enumerate_new (zpf x t u) ?_;have hz:(s.heap.push { cls:=.type (eX x),data:=.fields #[.str x t,.int 0 0] }).objs.size=s.heap.objs.size+1:=cj ..;show _/\_;rw [hz];have he:IsEnum ((s.heap.push { cls:=.type (eX x),data:=.fields #[.str x t,.int 0 0] }).push { cls:=.type "enumerate",data:=.fields #[.none,.bool false,.ref s.heap.objs.size,bZ 1,.none,.none] }) (s.heap.objs.size+1) s.heap.objs.size 1 .none:=by
  have q:=aO (s.heap.push { cls:=.type (eX x),data:=.fields #[.str x t,.int 0 0] }) (o:={ cls:=.type "enumerate",data:=.fields #[.none,.bool false,.ref s.heap.objs.size,bZ 1,.none,.none] }) rfl;rw [hz] at q;exact q
 exact ⟨⟨_,he,rfl⟩,h _ he ⟨_,ad _ (aO _ rfl),rfl,rfl⟩ (by rw [cj,hz]) λb o y=>ad _ (ad _ y)⟩
theorem zta{M:Model}{args:List (Bool×Sem Value)}{keywords:List (Option Str×Sem Value)}(hplain:args.any (·.1)=false)(hkw:keywords.any (·.1.isNone)=false)
  (h:aH M A (evalArgs (.type T) true args keywords) (λa s1=>aH M A (call (.type T) a.pos a.kw) Q E s1) E s):aH M A (fe pos (.type T) [] args keywords) Q E s:=by
 unfold fe;refine aa (bE (bu h (λa s1 h1=>aa (dF ?_)) λ_ _ x=>x));simp only [hplain,hkw,fC];exact aa (ar (aa (bu h1 (λr s2 hr=>aa (bE (wpAny_point (ar hr)))) λ_ _ x=>x)))
end
section
variable {X:Cx}
def zja(k:Nat)(ta:TE):TI:=λσ H R=>ta σ H λx H1=>uS x λz=>asc z=true/\R (zdY z k) H1
theorem zuE{k:Nat}:zja k ta σ H R=ta σ H λx H1=>uS x λz=>asc z=true/\R (zdY z k) H1:=rfl
theorem zso(h:asc z=true):eX z="str_ascii_iterator":=by
 unfold eX;rw [show z.cps.all (· < 128)=true from h];rfl
theorem zqA{j:Nat}{p kp cp:Pos}{a:bw}(hg:Gl X "enumerate")(hm:X.mg "enumerate"=none)(ha:W (PE X a ta))(hp:zX a=true:=by rfl):W (PIc true X (.Tuple elts kk tp) (.Call (.Name "enumerate" p) [a] [⟨some (aj "start"),.Constant (.int 1) j cp,kp⟩] pos) (zja 1 ta)):=by
 refine ⟨?_⟩;have ha:=ha.h;intro Ga s σ H R I h;have hs:aV [a] X.env=[(false,bV a X.env)]:=zbx hp;have hA:=zb6 ha zbX (hs:=hs) pos Ga s σ H (λys H2=>za6 (λy=>uS y λz=>asc z=true/\R (zdY z 1) H2) ys) I h;refine cO (zb8 I hg hm boot_enumerate (zta (by rw [hs];rfl) rfl ?_));rw [hs] at hA ⊢;refine evalArgs_kwB rfl (thn hA λus s1=>x5e λvs H1 I1 r1 q1=>kws_cons (thn (zeW Ga s1 σ H1 (λv H=>v = .int 1/\H=H1) I1 ⟨rfl,rfl⟩) λw2 s2=>x5e λy2 H2 I2 r2 zz1=>kws_nil ?_));obtain ⟨ey2,eH2⟩:=zz1;subst ey2 eH2;obtain ⟨t2,rfl⟩:=r2;obtain ⟨y,rfl,z,ey,hz,q⟩:=za6.ex q1;subst ey;cases r1 with
 | cons r rr =>
  cases rr;obtain ⟨t,rfl⟩:=r;refine zm0 (s:=s2) λh' a1 a4 a6 a7=>fP (s:={ s2 with heap:=h' }) a1 ?_;rw [zso hz] at a4;refine ⟨_,_,_,_,H2,rfl,I2.kept (t':=s2.toks) a7,zrq (Nat.succ_ne_self _),⟨⟨_,a1⟩,t,a4⟩,λb hb=>?_,q⟩;have le:s2.heap.objs.size<=b:=by
   simp only [au,aM,or_false] at hb;rcases hb with rfl|rfl
   .exact le_succ _
   .exact ae _
  exact I2.fpOk le (I2.hok.fresh le)
end
section
variable {K:ag}{g:TG}{tb:TS}{D:zaG}{σ:St}{H:Hp}{tt:TT}{te:TE}{Q:VK}
theorem zat.enumS{k:Nat}(Pv:Nat->St->Hp->Prop)(h0:Pv 0 σ H)
  (hs:∀i c p σ H,z.cps[i]?=some c->Pv i σ H->H p=none->g (.ref p) σ (upd H p (.tup [.int ((i+k:Nat):Int),.str ⟨#[c]⟩])) λσ2 H2=>tb { D with nx:=Pv (i+1),ct:=Pv (i+1),bk:=D.nx } σ2 H2) (hd:∀σ H,Pv z.cps.size σ H->D.nx σ H):zat (zdY z k) g tb D σ H:=by
 refine ⟨λi m σ H=>m=z.cps.size-i/\i<=z.cps.size/\Pv i σ H,⟨z.cps.size,by simp,cf _,h0⟩,?_⟩;rintro i m σ H ⟨rfl,hi,p⟩;by_cases hlt:i<z.cps.size
 .refine .inr ⟨hlt,Pv (i+1),λσ' H' p'=>⟨z.cps.size-(i+1),by lia,rfl,hlt,p'⟩,λx H' y=>?_⟩;obtain ⟨T,c,hT,rfl,hc,rfl⟩:=y;exact hs i c T σ _ hc p hT
 .have e:i=z.cps.size:=by lia
  subst e;exact .inl ⟨rfl,hd σ H p⟩
theorem zau.str(Pv:Nat->St->List V->Hp->Prop)(hz:∀i τ ys H,Pv i τ ys H->ys.length<sizeLine)(h0:Pv 0 τ [] H)
  (hs:∀(N:St->List V->Hp->Prop) i c τ ys H,z.cps[i]?=some c->Pv i τ ys H->(∀τ ys H,Pv (i+1) τ ys H->N τ ys H)->g (.str ⟨#[c]⟩) τ H λτ1 H4=>tt τ1 H4 λok H5=>zck N ys τ1 te ok H5) (hd:∀τ ys H,Pv z.cps.size τ ys H->∀D H',New H D (.lst ys) H'->Q (.ref D) H'):zau (Its z) g tt te τ H Q:=by
 refine ⟨λi m τ ys H=>m=z.cps.size-i/\i<=z.cps.size/\Pv i τ ys H,⟨z.cps.size,by simp,cf _,h0⟩,?_⟩;rintro i m τ ys H2 ⟨rfl,hi,p⟩;refine ⟨hz i τ ys H2 p,?_⟩;by_cases hlt:i<z.cps.size
 .refine .inr ⟨hlt,λx H' y=>?_⟩;obtain ⟨e,c,hc,rfl⟩:=y;subst e;exact hs (λτ1 ys H=>∃m',m'<z.cps.size-i/\m'=z.cps.size-(i+1)/\i+1<=z.cps.size/\Pv (i+1) τ1 ys H) i c τ ys _ hc p λτ1 zs H q=>⟨z.cps.size-(i+1),by lia,rfl,hlt,q⟩
 .have e:i=z.cps.size:=by lia
  subst e;exact .inl ⟨ae _,λD hD _=>hd τ ys H2 p D _ (.mk' hD)⟩
end
section
variable {X:Cx}
def zmJ:List V->Hp->VK->Prop:=λxs H Q=>uR1 xs λp=>∃bs:List Bool,H p=some (.lst (bs.map V.bl))/\Q (.bl (bs.all id)) H
theorem zuW{bs:List Bool}:∀{us:List Value},zk (bs.map V.bl) us->us=bs.map fg:=by
 induction bs with
 | nil=>intro us r;rw [map_nil] at r;cases r;rfl
 | cons b bs ih =>
  intro us r;rw [bQ] at r;cases r with
  | cons r1 r2=>rw [show _=fg b from r1,ih r2];rfl
theorem zp0(hc:X.calm=true):zK X (.builtin "all") zmJ:=by
 intro Ga s σ H xs us Q I r h;obtain ⟨p,rfl,bs,hp,q⟩:=h;cases r with
 | cons r1 rr =>
  cases rr;cases (show _=aA p from r1);obtain ⟨its,rv,pl,_⟩:=I.list (SqL.of (K:=X.K) hp);have e:=zuW rv;subst e;have hne:p≠s.heap.objs.size:=by obtain ⟨o,e,_⟩:=pl.isList;exact bC (aP e)
  refine call_all_walk (eS pl.isList ?_);have hl:∀k:Nat,k=bs.length->(ic k).all (λi=>bs.getD i true)=bs.all id:=by
   intro k e;subst e;rw [eO,bJ,bJ];constructor
   .intro h x hx;obtain ⟨i,hi,rfl⟩:=dw hx;have:=h i (gU.mpr hi);rw [av,ah hi] at this;exact this
   .intro h i hi;have hi:=gU.mp hi;rw [av,ah hi];exact h _ (fO hi)
  refine ⟨s.heap.objs.size,_,_,_,_,_,λi=>bs.getD i true,rfl,Walks.list (prog:=X.prog) (w:=X.w) (A:=X.A.in1) (show X.A.in1.handled=none from I.ok.hd hc) s.heap.objs.size p hne (bs.map fg).toArray,⟨⟨_,aO _ rfl,rfl,rfl⟩,pl.isList.push _⟩,?_,λh' tk kp=>?_⟩
  .intro i v s2 Q2 E2 hv hQ;have hv:(bs.map fg)[i]?=some v:=by simpa using hv
   rw [bh] at hv;cases e:bs[i]? with
   | none=>rw [e] at hv;cases hv
   | some b =>
    rw [e] at hv;cases hv;have e2:bs.getD i true=b:=by rw [av,e];rfl
    have hQ:Q2 (bs.getD i true) s2:=hQ;rw [e2] at hQ;exact ar hQ
  .refine ⟨.bl _,H,I.kept (t':=tk) λb o e=>kp b o ?_ (ad _ e),rfl,?_⟩
   .simpa using bC (aP e)
   .rw [hl _ (by simp)];exact q
theorem zsV{p:Addr}{Q:VK}:zmJ [.ref p] H Q = ∃bs:List Bool,H p=some (.lst (bs.map V.bl))/\Q (.bl (bs.all id)) H:=zdV
def uIn:R2:=λx y H Q=>(∃i j,x = .str i/\y = .str j/\Q (.bl (!(aN.Str.occurrences j i 0 j.length 1).isEmpty)) H)\/∃p xs,y = .ref p/\(H p=some (.lst xs)\/H p=some (.tup xs))/\zL x=true/\xs.all zL=true/\Q (.bl (inV x xs)) H
theorem zlB(hu:X.A.units<cLine):OpR X (bG .In) uIn:=(zoI.or zm3).weak λx y H Q h=>by
 rcases h with h|⟨p,xs,e,h,f1,f2,q⟩
 .exact .inl h
 .exact .inr ⟨p,xs,e,h.elim (λh=>.inl (SqL.of h)) (λh=>.inr (SqT.of h)),f1,f2,by simpa using q⟩
theorem zqp{y:Str}{Q:VK}:uIn (.str x) (.str y) H Q=Q (.bl (!(aN.Str.occurrences y x 0 y.length 1).isEmpty)) H:=by simp [uIn]
theorem zn7{x:V}{p:Addr}{Q:VK}:uIn x (.ref p) H Q = ∃xs,(H p=some (.lst xs)\/H p=some (.tup xs))/\zL x=true/\xs.all zL=true/\Q (.bl (inV x xs)) H:=by simp [uIn]
def uM1(to te:TE)(r:Str->V->Hp->VK->Prop):TE:=λσ H Q=>to σ H λx H1=>uS x λz=>te σ H1 λy H2=>r z y H2 Q
theorem zsd{r:Str->V->Hp->VK->Prop}{Q:VK}:uM1 to te r σ H Q=to σ H λx H1=>uS x λz=>te σ H1 λy H2=>r z y H2 Q:=rfl
theorem zjZ{id:String}{r:Str->V->Hp->VK->Prop}(hs1:Slot "str" m id)(hs2:typeOf (.builtin id)=pure (.type "method_descriptor"))
  (hr:∀(Ga:List (Addr×Obj))(s:af)(σ:St)(H:Hp)(z:Str)(y:V)(t:Tok)(v:Value)(Q:VK),Inv X Ga σ H s->zm y v->r z y H Q->aH (aC X.prog X.w) X.A (call (.builtin id) [.str z t,v]) (λu s1=>∃x H',Inv X Ga σ H' s1/\zm x u/\Q x H') X.xe s)
  (ho:PE X o to) (he:PE X e te) (hbase:cy o m X.env (bV o X.env)=bV o X.env:=by rfl) (hline:(apos.endLine==cpos.line)=true:=by rfl) (hp:zX e=true:=by rfl) :
  PE X (.Call (.Attribute o m apos) [e] [] cpos) (uM1 to te r):=by
 intro Ga s σ H Q I h;have hs:aV [e] X.env=[(false,bV e X.env)]:=zbx hp;refine cX hbase (by rw [hs];rfl) hline rfl (thn (ho Ga s σ H _ I h) λv s1=>x5e λx H1 I1 r1 zz1=>?_);obtain ⟨z,ex,q1⟩:=zz1;subst ex;obtain ⟨h1,h2⟩:=zdm (T:="str") I1 r1 rfl;refine ⟨"str",id,PySem.F.plainAttrs_str,hs1,hs2,h1,h2,?_⟩;rw [hs];refine Calls.callWith_builtin rfl (Calls.evalArgs_plain ?_);have hA:=zb6 he zbX (hs:=hs) cpos Ga s1 σ H1 (λys H2=>za6 (λy=>r z y H2 Q) ys) I1 q1;rw [hs] at hA;refine thn hA λus s2=>x5e λvs H2 I2 r2 q2=>?_;obtain ⟨t,rfl⟩:=r1;obtain ⟨y,rfl,q2⟩:=za6.ex q2;obtain ⟨_,rfl,ry⟩:=zk.one r2;exact hr Ga s2 σ H2 z y t _ Q I2 ry q2
def zkn:Str->V->Hp->VK->Prop:=λz y H Q=>uS y λq=>Q (.int (fJ z q)) H
theorem znH(ho:W (PE X o to))(he:W (PE X e te))(hbase:cy o "rfind" X.env (bV o X.env)=bV o X.env:=by rfl)(hline:(apos.endLine==cpos.line)=true:=by rfl)(hp:zX e=true:=by rfl):W (PE X (.Call (.Attribute o "rfind" apos) [e] [] cpos) (uM1 to te zkn)):=by
 refine ⟨?_⟩;have ho:=ho.h;have he:=he.h;exact
  zjZ PySem.F.slot_str_rfind PySem.F.type_str_rfind (λGa s σ H z y t v Q I ry q=>by
   obtain ⟨w,rfl,q⟩:=q;obtain ⟨u,rfl⟩:=ry;exact eK PySem.F.slot_str_rfind (fZ _ _ _) PySem.F.entry_str_rfind (PySem.F.args_str_rfind_2 _ _) (gives_str_rfind z w t u).meets ⟨.int _,H,I.tok _,⟨_,rfl⟩,q⟩) ho he hbase hline hp
theorem znO{q:Str}{Q:VK}:zkn z (.str q) H Q=Q (.int (fJ z q)) H:=zgY
theorem zjX:∀(k:Nat)(ys:List Str),zk (ys.map V.str) (strsFrom k ys)
 | _,[]=>.nil
 | k,y::ys=>.cons ⟨k,rfl⟩ (zjX (k+1) ys)
def zis:Str->V->Hp->VK->Prop:=λz y H Q=>uS y λq=>(q.length==0)=false/\z.length<sizeLine/\(bY z q).length<=sizeLine/\∀p H2,New H p (.lst ((bY z q).map V.str)) H2->Q (.ref p) H2
theorem zst(ho:W (PE X o to))(he:W (PE X e te))(hbase:cy o "split" X.env (bV o X.env)=bV o X.env:=by rfl)(hline:(apos.endLine==cpos.line)=true:=by rfl)(hp:zX e=true:=by rfl):W (PE X (.Call (.Attribute o "split" apos) [e] [] cpos) (uM1 to te zis)):=by
 refine ⟨?_⟩;have ho:=ho.h;have he:=he.h;exact
  zjZ g9 PySem.F.type_str_split (λGa s σ H z y t v Q I ry q=>by
   obtain ⟨w,rfl,hw,hz,hn,q⟩:=q;obtain ⟨u,rfl⟩:=ry;have lay:∀(ys:List Str)(us:List Value)(k:Nat),ys=bY z w->zk (ys.map V.str) us->∃x H',Inv X Ga σ H' { s with heap:=s.heap.push { cls:=.type "list",data:=.seq us.toArray },toks:=k }/\zm x (.ref s.heap.objs.size)/\Q x H':=λys us k e rv=>by
    subst e;have hl:=rv.length;rw [am] at hl;exact ⟨.ref s.heap.objs.size,_,I.laid (t':=k) (o:=.lst _) (λb ob q=>ad _ q) (ae _) ⟨by rw [am];exact hn,us,0,rv,aO _ rfl⟩,rfl,q _ _ (.mk' (I.hok.fresh (ae _)))⟩
   cases h1:(decide (z.length<w.length)||decide (aN.Str.strKind z<aN.Str.strKind w))
   .cases hf:(aN.Str.occurrences z w 0 z.length (z.length+1)).isEmpty
    .have es:bY z w=aN.Str.partsBetween z (aN.Str.occurrences z w 0 z.length (z.length+1)) w.length:=(if_neg (ne_true_of_eq_false h1)).trans (if_neg (ne_true_of_eq_false hf));rw [es] at hn;exact eK g9 (fZ _ _ _) entry_str_split (args_str_split_2 _ _) (meets_str_split_sep z w t u h1 hw hf (dE hz) hn) (lay _ _ _ es.symm (zjX _ _))
    .exact eK g9 (fZ _ _ _) entry_str_split (args_str_split_2 _ _) (meets_str_split_not_found z w t u h1 hw hf) (lay [z] [.str z t] s.toks ((if_neg (ne_true_of_eq_false h1)).trans (if_pos hf)).symm (.cons ⟨t,rfl⟩ .nil))
   .exact eK g9 (fZ _ _ _) entry_str_split (args_str_split_2 _ _) (meets_str_split_cannot_occur z w t u h1) (lay [z] [.str z t] s.toks (if_pos h1).symm (.cons ⟨t,rfl⟩ .nil))) ho he hbase hline hp
theorem zm8{q:Str}{Q:VK}:zis z (.str q) H Q=((q.length==0)=false/\z.length<sizeLine/\(bY z q).length<=sizeLine/\∀p H2,New H p (.lst ((bY z q).map V.str)) H2->Q (.ref p) H2):=zgY
def ziu(te:TE):TE:=λσ H Q=>te σ H λx H1=>(∃z,x = .str z/\z.length<=sizeLine/\Q (.str z) H1)\/∃i,x = .int i/\i.natAbs.log2<1920/\Q (.str (toString i)) H1
def zdZ:V->Hp->VK->Prop:=λx H1 Q=>(∃z,x = .str z/\z.length<=sizeLine/\Q (.str z) H1)\/∃i,x = .int i/\i.natAbs.log2<1920/\Q (.str (toString i)) H1
theorem znx{Q:VK}:ziu te σ H Q=te σ H λx H1=>zdZ x H1 Q:=rfl
theorem zn6{Q:VK}:zdZ (.str z) H Q=(z.length<=sizeLine/\Q (.str z) H):=by simp [zdZ]
theorem zvI{Q:VK}:zdZ (.int i) H Q=(i.natAbs.log2<1920/\Q (.str (toString i)) H):=by simp [zdZ]
theorem ziY(he:W (PE X e te)):W (PE X (.FormattedValue e (-1) none pos) (ziu te)):=by
 refine ⟨?_⟩;have he:=he.h;intro Ga s σ H Q I h;refine FormattedValue_plain (thn (he Ga s σ H _ I h) λv s1=>x5e λx H1 I1 r1 q1=>?_);rcases q1 with ⟨z,rfl,hz,q⟩|⟨i,rfl,hi,q⟩
 .obtain ⟨t,rfl⟩:=r1;exact formatField_str (λt' tk=>⟨.str z,H1,I1.tok _,⟨_,rfl⟩,q⟩) hz
 .obtain ⟨t,rfl⟩:=r1;exact formatField_int_small hi ⟨.str _,H1,I1.tok _,⟨_,rfl⟩,q⟩
abbrev TJ:=Str->TE
def PJ(X:Cx)(es:List bw)(tj:TJ):Prop:=∀(out:Str)(Ga:List (Addr×Obj))(s:af)(σ:St)(H:Hp)(Q:VK),Inv X Ga σ H s->tj out σ H Q ->
 aH (aC X.prog X.w) X.A (joinParts out (evalEach es X.env)) (λu s1=>∃x H',Inv X Ga σ H' s1/\zm x u/\Q x H') X.xe s
def zk1:TJ:=λout _ H Q=>out.length<=sizeLine/\Q (.str out) H
def zih(te:TE)(tj:TJ):TJ:=λout σ H Q=>te σ H λx H1=>uS x λy=>(out++y).length<=sizeLine/\tj (out++y) σ H1 Q
theorem znE:W (PJ X [] zk1):=⟨λout Ga s σ H Q I h=>joinParts_nil ⟨.str out,H,I.tok _,⟨_,rfl⟩,h.2⟩ h.1⟩
theorem zgy{tj:TJ}(he:W (PE X e te))(hj:W (PJ X es tj)):W (PJ X (e::es) (zih te tj)):=by
 refine ⟨?_⟩;have he:=he.h;have hj:=hj.h;exact λout Ga s σ H Q I h=>by
  refine joinParts_cons (thn (he Ga s σ H _ I h) λv s1=>x5e λx H1 I1 r1 q1=>?_);obtain ⟨y,rfl,hy,q⟩:=q1;obtain ⟨t,rfl⟩:=r1;exact ⟨hy,hj _ Ga s1 σ H1 Q I1 q⟩
def zjj(tj:TJ):TE:=tj gX
theorem zrr{tj:TJ}:zjj tj=tj gX:=rfl
theorem zus{e':bw}{tj:TJ}(h:W (PJ X (e::e'::es) tj)):W (PE X (.JoinedStr (e::e'::es) pos) (zjj tj)):=by refine ⟨?_⟩;have h:=h.h;exact λGa s σ H Q I q=>JoinedStr_many (h gX Ga s σ H Q I q)
def zcD:List V->Hp->VK->Prop:=λxs H Q=>zb7 xs H Q\/∃z n,xs=[.str z]/\z.length<=640/\fT z=some n/\Q (.int n) H
theorem zq2:zK X (.type "int") zcD:=by
 intro Ga s σ H xs us Q I r h;rcases h with h|⟨z,n,rfl,hl,hn,q⟩
 .exact zoG Ga s σ H xs us Q I r h
 .cases r with
  | cons r1 rr =>
   cases rr;obtain ⟨t,rfl⟩:=r1;exact PySem.W.KIN.call_text hn hl ⟨.int n,H,I.tok _,⟨_,rfl⟩,q⟩
theorem zsj{Q:VK}:zcD [.int i] H Q=Q (.int i) H:=by simp [zcD,zb7]
theorem zuH{k:Bool}{Q:VK}:zcD [.bl k] H Q=Q (.int (if k then 1 else 0)) H:=by simp [zcD,zb7]
theorem zni{Q:VK}:zcD [.str z] H Q = ∃n,z.length<=640/\fT z=some n/\Q (.int n) H:=by simp [zcD,zb7]
def zc7:List V->Hp->VK->Prop:=λxs H Q=>zcU xs H Q\/∃z,xs=[.str z]/\Q (.str z) H
theorem zrD:zK X (.type "str") zc7:=by
 intro Ga s σ H xs us Q I r h;rcases h with h|⟨z,rfl,q⟩
 .exact zsW Ga s σ H xs us Q I r h
 .cases r with
  | cons r1 rr =>
   cases rr;obtain ⟨t,rfl⟩:=r1;exact PySem.P.str_of_str ⟨.str z,H,I,⟨_,rfl⟩,q⟩
theorem zlS{Q:VK}:zc7 [.int i] H Q=(i.natAbs.log2<1920/\Q (.str (toString i)) H):=by simp [zc7,zcU]
theorem zix{Q:VK}:zc7 [.str z] H Q=Q (.str z) H:=by simp [zc7,zcU]
def zmz:List V->Hp->VK->Prop:=λxs H Q=>uR1 xs λp=>∃ys,H p=some (.lst ys)/\∀l H2,New H l (.tup ys) H2->Q (.ref l) H2
theorem zoA:zK X (.type "tuple") zmz:=znn.weak λxs H Q h=>by
 obtain ⟨p,e,ys,h1,q⟩:=h;exact ⟨p,ys,e,.inl ⟨SqL.of h1,λl hl=>q l _ (.mk' hl)⟩⟩
theorem zrc{p:Addr}{Q:VK}:zmz [.ref p] H Q = ∃ys,H p=some (.lst ys)/\∀l H2,New H l (.tup ys) H2->Q (.ref l) H2:=zdV
def zfO:List V->Hp->VK->Prop:=λxs H Q=>∃x,xs=[.str x]/\x.length=1/\Q (.int (x.cps.getD 0 0:Nat)) H
theorem zrx:zK X (.builtin "ord") zfO:=zqd
theorem zs4{Q:VK}:zfO [.str x] H Q=(x.length=1/\Q (.int (x.cps.getD 0 0:Nat)) H):=by simp [zfO]
inductive zec(w:aZ):List DictEntry->List (Str×Addr)->Prop
 | nil:zec w [] []
 | cons {k:Str}{t:Tok}{r:Addr}{es:List DictEntry}{kvs:List (Str×Addr)}:zec w es kvs->zec w ({ hash:=fh w.params k,key:=.str k t,val:=.ref r }::es) ((k,r)::kvs)
structure zfb(w:aZ)(K:ag)(a:Addr)(kvs:List (Str×Addr)):Prop where
 ex:∃es n,K.lookup a=some { cls:=.type "dict",dict:=none,data:=.dict es n,slots:=#[] }/\zec w es.toList kvs
 nd:(kvs.map (·.1)).Nodup
 ns:(a==sysModules)=false
def zbZ(kvs:List (Str×Addr))(z:Str):V:=match kvs.find? (λp=>p.1=z) with|some p=>.ref p.2|none=>.non
theorem zlc{P:aI}{w:aZ}:∀{es:List DictEntry}{kvs:List (Str×Addr)},zec w es kvs->PySem.Pairs (zad P w) es (kvs.map λp=>(Sum.inr p.1,aA p.2))/\∀e∈es,∃k,(zad P w).is k e.key=true/\e.hash=(zad P w).hash k
 | _,_,.nil=>⟨.nil,λe he=>by cases he⟩
 | _,_,.cons (k:=k) (t:=t) h=>by
  obtain ⟨h1,h2⟩:=zlc (P:=P) h;refine ⟨.cons (zeI P w k t) rfl h1,λe he=>?_⟩;rcases au.mp he with rfl|he
  .exact ⟨Sum.inr k,zeI P w k t,rfl⟩
  .exact h2 e he
theorem zfb.dictOf{K:ag}{kvs:List (Str×Addr)}(D:zfb w K a kvs)(hk:∀o,K.lookup a=some o->h.get? a=some o):h.DictOf (zad P w) a (kvs.map λp=>(Sum.inr p.1,aA p.2)):=by
 obtain ⟨es,n,h1,h2⟩:=D.ex;obtain ⟨p1,p2⟩:=zlc (P:=P) h2;refine ⟨_,es,n,hk _ h1,⟨rfl,rfl,rfl⟩,rfl,λe he=>p2 e (by simpa using he),p1,?_⟩;rw [bU];have e:((λp:Key×Value=>p.1)∘λp:Str×Addr=>((Sum.inr p.1:Key),aA p.2))=(λz:Str=>(Sum.inr z:Key))∘(λp:Str×Addr=>p.1):=rfl;rw [e,<- bU];exact List.Pairwise.map _ (λx y q z=>q (Sum.inr.inj z)) D.nd
def ziV(kvs:List (Str×Addr))(te:TE):TE:=λσ H Q=>te σ H λy H1=>uS y λz=>Q (zbZ kvs z) H1
theorem zom{kvs:List (Str×Addr)}{Q:VK}:ziV kvs te σ H Q=te σ H λy H1=>uS y λz=>Q (zbZ kvs z) H1:=rfl
theorem zuu{kvs:List (Str×Addr)}:zm (zbZ kvs z) ((PySem.valueAt (kvs.map λp=>((Sum.inr p.1:Key),aA p.2)) (Sum.inr z)).getD .none):=by
 unfold zbZ PySem.valueAt;rw [List.find?_map];have e:((λkv:Key×Value=>decide (kv.1=Sum.inr z))∘λp:Str×Addr=>((Sum.inr p.1:Key),aA p.2))=λp:Str×Addr=>decide (p.1=z):=by
  funext p;simp
 rw [e];cases kvs.find? (λp=>decide (p.1=z)) with
 | none=>rfl
 | some p=>rfl
theorem zrW{kvs:List (Str×Addr)}{np:Pos}(hg:Gl X x)(hm:X.mg x=some (.ref a))(D:zfb X.w X.K a kvs)(he:W (PE X e te))
  (hbase:cy (.Name x np) "get" X.env (bV (.Name x np) X.env)=bV (.Name x np) X.env:=by rfl) (hline:(apos.endLine==cpos.line)=true:=by rfl) (hp:zX e=true:=by rfl) (hd:(x==("__debug__":Str))=false:=by decide):W (PE X (.Call (.Attribute (.Name x np) "get" apos) [e] [] cpos) (ziV kvs te)):=by
 refine ⟨?_⟩;have he:=he.h;intro Ga s σ H Q I h;have hs:aV [e] X.env=[(false,bV e X.env)]:=zbx hp;refine cX hbase (by rw [hs];rfl) hline rfl (thn (zmy (v:=.ref a) hg ⟨_,hm,rfl⟩ hd Ga s σ H (λv H1=>v = .ref a/\H1=H) I ⟨rfl,rfl⟩) λv s1=>x5e λx1 H1 I1 r1 zz1=>?_);obtain ⟨ex,eH⟩:=zz1;subst ex eH;cases r1;have dd:=D.dictOf (P:=X.prog) (h:=s1.heap) λo ho=>I1.kIn a o ho;refine ⟨"dict","dict.get",iz,gq,PySem.F.type_dict_get,dd.typeIs,λb q=>?_,?_⟩
 .cases q;obtain ⟨ob,_,_,h1,h2,_⟩:=dd;exact ⟨ob,h1,h2.2.1⟩
 rw [hs];refine Calls.callWith_builtin rfl (Calls.evalArgs_plain ?_);have hA:=zb6 he zbX (hs:=hs) cpos Ga s1 σ H1 (λys H2=>za6 (λy=>uS y λz=>Q (zbZ kvs z) H2) ys) I1 h;rw [hs] at hA;refine thn hA λus s2=>x5e λvs H2 I2 r2 q2=>?_;obtain ⟨y,rfl,q2⟩:=za6.ex q2;obtain ⟨_,rfl,ry⟩:=zk.one r2;obtain ⟨z,ey,q⟩:=q2;subst ey;obtain ⟨t,rfl⟩:=ry;have dd2:=D.dictOf (P:=X.prog) (h:=s2.heap) λo ho=>I2.kIn a o ho;refine iP gq dd2.typeIs entry_dict_get (PySem.F.args_dict_get_2 _ _) (meets_dict_get (zad X.prog X.w) a (zeI X.prog X.w z t) D.ns) ⟨_,dd2.mapOf,?_⟩;exact ⟨zbZ kvs z,H2,I2.tok _,zuu,q⟩
end
section
variable {X:Cx}{tg:bw}
end
section
variable {g:TG}{tb:TS}{D:zaG}{σ:St}{H:Hp}
end
section
variable {prog:aI}{w:aZ}{A:be}{E:Value->af->Prop}{s:af}
theorem zkO{l:Addr}{xs:Array Value}(x:h.IsTuple l xs)(k:∀o,h.get? l=some o->h'.get? l=some o):h'.IsTuple l xs:=by
 obtain ⟨o,e,r⟩:=x;exact ⟨o,k o e,r⟩
theorem zt4{t:Addr}{i:Nat}{x:Value}(hit:s.heap.IsTupleIter it t i)(ht:s.heap.IsTuple t items)(hx:items[i]?=some x)
  (k:∀h',h'.IsTupleIter it t (i+1)->fu it s.heap h'->Q x { s with heap:=h' }):aH (aC prog w) A (aN.SmallTypes.nextOf (.ref it)) Q E s:=by
 obtain ⟨o,ho,hc,hd⟩:=id hit;obtain ⟨ol,hol,_,nl,hdl⟩:=ht;unfold aN.SmallTypes.nextOf;refine aa (bO (name:=aj "__next__") hit.typeIs F.slot_tuple_iterator_next (cT F.slot_tuple_iterator_next hit.typeIs F.entry_tuple_iterator_next ?_ (F.args_tuple_iterator_next_1 _)));refine aa (m:=hR (.ref it) 0) (bb ho hd (x:=.ref t) rfl ?_);rw [if_neg (show ¬ ((aA t==bx)=true) by simp)];refine aa (m:=hR (.ref it) 1) (bb ho hd (x:=.int i 0) rfl (aa (m:=seqItems? (.ref t)) (dm hol hdl ?_)));simp only [cJ,hx];refine aa (m:=setField _ _ _) (cI ho hd (by simp) (ar ⟨x,rfl,ar (k _ ?_ (fu.update ..))⟩));refine ⟨_,de _ ho (cG (dZ hd _)),(fU ..).trans hc,?_⟩;rw [dZ hd];simp [bZ]
theorem zub{t:Addr}{i:Nat}(hh:Hnd A s.heap)(hit:s.heap.IsTupleIter it t i)(ht:s.heap.IsTuple t items)(hx:items[i]?=none)
  (k:∀h' e,ExtBut it s.heap h'->(∃o,h'.get? e=some o/\o.cls = .type "StopIteration")->E (.ref e) { s with heap:=h' }):aH (aC prog w) A (aN.SmallTypes.nextOf (.ref it)) Q E s:=by
 obtain ⟨o,ho,hc,hd⟩:=id hit;obtain ⟨ol,hol,_,nl,hdl⟩:=ht;unfold aN.SmallTypes.nextOf;refine aa (bO (name:=aj "__next__") hit.typeIs F.slot_tuple_iterator_next (cT F.slot_tuple_iterator_next hit.typeIs F.entry_tuple_iterator_next ?_ (F.args_tuple_iterator_next_1 _)));refine aa (m:=hR (.ref it) 0) (bb ho hd (x:=.ref t) rfl ?_);rw [if_neg (show ¬ ((aA t==bx)=true) by simp)];refine aa (m:=hR (.ref it) 1) (bb ho hd (x:=.int i 0) rfl (aa (m:=seqItems? (.ref t)) (dm hol hdl ?_)));simp only [cJ,hx];refine aa (cB (aa (cI ho hd (by simp) ?_)));refine zeH (hh.keeps λb q hq e=>(br _ _ λz=>?_).trans e) λh' e up st=>k h' e (λb q hb z=>up b q ((br _ _ (aU hb)).trans z)) st;obtain ⟨C,hC⟩:=hq;rw [<- z,ho] at e;cases e;rw [hc] at hC;cases hC
theorem zrP{z TI TO:Addr}{k1 k2:Nat}{xs ys:Array Value}{x y a b:Value}{Q:Option Value->af->Prop}(D:ZipApart z TI TO i1 i2 l1 l2)(hz:IsZip s.heap z TI TO .none)(hTI:fA s.heap TI (.ref i1) (.ref i2))(hTO:fA s.heap TO a b)
  (h1:s.heap.IsTupleIter i1 l1 k1) (h2:s.heap.IsListIter i2 l2 k2) (hl1:s.heap.IsTuple l1 xs) (hl2:s.heap.IsList l2 ys) (hx:xs[k1]?=some x) (hy:ys[k2]?=some y)
  (k:∀h',IsZip h' z TI TO (bZ s.heap.objs.size)->fA h' TO x y->h'.IsTupleIter i1 l1 (k1+1)->h'.IsListIter i2 l2 (k2+1)->fA h' s.heap.objs.size x y->h'.objs.size=s.heap.objs.size+1 ->
   (∀c o,c≠z->c≠TO->c≠i1->c≠i2->s.heap.get? c=some o->h'.get? c=some o)->Q (some (.ref s.heap.objs.size)) { s with heap:=h' }):aH (aC prog w) A (f8 (.ref z)) Q E s:=by
 have hT:s.TypeIs (.ref z) "zip":=⟨_,hz,rfl⟩;have core:∀(Q':Value->af->Prop)(E':Value->af->Prop),(∀h',IsZip h' z TI TO (bZ s.heap.objs.size)->fA h' TO x y->h'.IsTupleIter i1 l1 (k1+1)->h'.IsListIter i2 l2 (k2+1)->fA h' s.heap.objs.size x y->h'.objs.size=s.heap.objs.size+1 ->
   (∀c o,c≠z->c≠TO->c≠i1->c≠i2->s.heap.get? c=some o->h'.get? c=some o)->Q' (.ref s.heap.objs.size) { s with heap:=h' }) ->
   aH (aC prog w) A.in1 (aN.«zip.__next__» ⟨[.ref z],[]⟩) (λfin s'=>∃v,fin = .done (.ret v)/\Q' v s') E' s:=by
  intro Q' E' kk;refine aa (m:=hR (.ref z) 2) (bb hz rfl (x:=.bool false) rfl (aa (m:=hR (.ref z) 3) (bb hz rfl (x:=.ref TI) rfl (aa (dm hTI rfl (aa (m:=aN.SmallTypes.ownedTupleIsFree (.ref z)) ?_))))));unfold aN.SmallTypes.ownedTupleIsFree;refine aa (bb hz rfl (x:=.none) rfl (ar ?_));simp only [if_true];refine aa (cB (aa (bb hz rfl (x:=.ref TO) rfl (aa (eE hz (by simp) λg1 z1 s1=>?_)))))
  replace z1:IsZip g1 z TI TO .ellipsis:=z1
  refine aa ?_;simp only [iE,List.zipIdx_nil,iO,List.forIn_nil];refine aa (aa (wpAny_onRaise (aa (m:=aN.SmallTypes.nextOf (.ref i1)) ?_)));refine zt4 (s:={ s with heap:=g1 }) (h1.at λo e=>s1.extBut _ o D.i1z e) (zkO hl1 λo e=>s1.extBut _ o D.l1z e) hx λg2 a2 s2=>ar ?_;have t2:fA g2 TO a b:=s2.extBut _ _ D.TOi1 (s1.extBut _ _ D.TOz hTO);refine aa (dm t2 rfl (aa (wpAny_updateSeq_pair t2 λg3 t3 s3=>?_)))
  replace t3:fA g3 TO x b:=t3
  refine aa (wpAny_letGo (ar (aa (aa (wpAny_onRaise (aa (m:=aN.SmallTypes.nextOf (.ref i2)) ?_))))));refine wpAny_nextOf_list_item (((h2.extBut s1.extBut D.i2z).extBut s2.extBut D.i12.symm).extBut s3.extBut D.TOi2.symm) (((hl2.extBut s1.extBut D.l2z).extBut s2.extBut D.l2i1).extBut s3.extBut D.l2TO) hy λg4 b4 s4=>ar ?_;have t4:fA g4 TO x b:=s4.extBut _ _ D.TOi2 t3;refine aa (dm t4 rfl (aa (wpAny_updateSeq_pair t4 λg5 t5 s5=>?_)))
  replace t5:fA g5 TO x y:=t5
  refine aa (wpAny_letGo (ar (ar (aa (dm t5 rfl (aa (wpAny_newTuple ?_)))))));have sz:g5.objs.size=s.heap.objs.size:=by rw [s5.1,s4.1,s3.1,s2.1,s1.1]
  have z5:IsZip g5 z TI TO .ellipsis:=s5.extBut _ _ D.TOz.symm (s4.extBut _ _ D.i2z.symm (s3.extBut _ _ D.TOz.symm (s2.extBut _ _ D.i1z.symm z1)));have old:∀c o,c≠z->c≠TO->c≠i1->c≠i2->s.heap.get? c=some o->g5.get? c=some o:=λc o c1 c2 c3 c4 e=>s5.extBut _ _ c2 (s4.extBut _ _ c4 (s3.extBut _ _ c2 (s2.extBut _ _ c3 (s1.extBut _ _ c1 e))));have a5:g5.IsTupleIter i1 l1 (k1+1):=a2.at λo e=>s5.extBut _ _ D.TOi1.symm (s4.extBut _ _ D.i12 (s3.extBut _ _ D.TOi1.symm e));have b5:g5.IsListIter i2 l2 (k2+1):=b4.extBut s5.extBut D.TOi2.symm;have zlt:z<g5.objs.size:=aP z5;refine aa (m:=aN.SmallTypes.ownedTupleHandOut (.ref z) (.ref g5.objs.size)) ?_;unfold aN.SmallTypes.ownedTupleHandOut;have z6:IsZip (g5.push { cls:=.type "tuple",data:=.seq #[x,y] }) z TI TO .ellipsis:=ad _ z5;refine aa (eE z6 (by simp) λg7 z7 s7=>?_)
  replace z7:IsZip g7 z TI TO (bZ g5.objs.size):=z7
  refine eE z7 (by simp) λg8 z8 s8=>?_
  replace z8:IsZip g8 z TI TO (bZ g5.objs.size):=z8
  have up:∀c o,c≠z->g5.get? c=some o->g8.get? c=some o:=λc o c1 e=>s8.extBut _ _ c1 (s7.extBut _ _ c1 (ad _ e));have t8:fA g8 g5.objs.size x y:=s8.extBut _ _ (dQ zlt) (s7.extBut _ _ (dQ zlt) (aO _ rfl));have sz8:g8.objs.size=g5.objs.size+1:=by rw [s8.1,s7.1,cj]
  rw [sz] at z8 t8 sz8;refine ar ⟨_,rfl,?_⟩;show Q' (.ref g5.objs.size) _;rw [sz];exact kk g8 z8 (up _ _ D.TOz t5) (a5.at λo e=>up _ o D.i1z e) (b5.at λo e=>up _ o D.i2z e) t8 sz8 λc o c1 c2 c3 c4 e=>up c o c1 (old c o c1 c2 c3 c4 e)
 unfold f8;exact aa (dS (bO (name:=aj "__next__") hT F.slot_zip_next (cT F.slot_zip_next hT F.entry_zip_next (core _ _ λh' q1 q2 q3 q4 q5 q6 q7=>ar (k h' q1 q2 q3 q4 q5 q6 q7)) (F.args_zip_next_1 _))))
theorem zoo{z TI TO:Addr}{k1:Nat}{xs:Array Value}{a b:Value}{Q:Option Value->af->Prop}(hh:Hnd A s.heap)(D:ZipApart z TI TO i1 i2 l1 l2)(hz:IsZip s.heap z TI TO .none)(hTI:fA s.heap TI (.ref i1) (.ref i2))(hTO:fA s.heap TO a b)
  (h1:s.heap.IsTupleIter i1 l1 k1) (hl1:s.heap.IsTuple l1 xs) (hx:xs[k1]?=none)
  (k:∀h',(∀c o,c≠z->c≠i1->s.heap.get? c=some o->h'.get? c=some o)->Q none { s with heap:=h' }):aH (aC prog w) A (f8 (.ref z)) Q E s:=by
 have hT:s.TypeIs (.ref z) "zip":=⟨_,hz,rfl⟩;have core:∀(Q':Fin->af->Prop)(E':Value->af->Prop),(∀h' e,(∀c o,c≠z->c≠i1->s.heap.get? c=some o->h'.get? c=some o)->(∃o,h'.get? e=some o/\o.cls = .type "StopIteration")->E' (.ref e) { s with heap:=h' }) ->
   aH (aC prog w) A.in1 (aN.«zip.__next__» ⟨[.ref z],[]⟩) Q' E' s:=by
  intro Q' E' kE;refine aa (m:=hR (.ref z) 2) (bb hz rfl (x:=.bool false) rfl (aa (m:=hR (.ref z) 3) (bb hz rfl (x:=.ref TI) rfl (aa (dm hTI rfl (aa (m:=aN.SmallTypes.ownedTupleIsFree (.ref z)) ?_))))));unfold aN.SmallTypes.ownedTupleIsFree;refine aa (bb hz rfl (x:=.none) rfl (ar ?_));simp only [if_true];refine aa (cB (aa (bb hz rfl (x:=.ref TO) rfl (aa (eE hz (by simp) λg1 z1 s1=>?_)))));refine aa ?_;simp only [iE,List.zipIdx_nil,iO,List.forIn_nil];refine aa (aa (wpAny_onRaise (aa (m:=aN.SmallTypes.nextOf (.ref i1)) ?_)));have hh1:Hnd A.in1 g1:=Hnd.keeps (h:=s.heap) hh λc o ⟨C,hC⟩ e=>s1.extBut c o (λq=>by rw [q,hz] at e;cases e;cases hC) e;refine zub (s:={ s with heap:=g1 }) hh1 (h1.at λo e=>s1.extBut _ o D.i1z e) (zkO hl1 λo e=>s1.extBut _ o D.l1z e) hx λg2 e s2 st=>?_;obtain ⟨oe,ge,ce⟩:=st;have z2:IsZip g2 z TI TO .ellipsis:=s2 _ _ D.i1z.symm z1;have ez:e≠z:=λq=>by rw [q,z2] at ge;cases ge;simp at ce
  exact eE z2 (by simp) λg3 _ s3=>kE g3 e (λc o c1 c2 q=>s3.extBut _ _ c1 (s2 _ _ c2 (s1.extBut _ _ c1 q))) ⟨oe,s3.extBut _ _ ez ge,ce⟩
 unfold f8;refine aa (dS (bO (name:=aj "__next__") hT F.slot_zip_next (cT F.slot_zip_next hT F.entry_zip_next (core _ _ λh' e up st=>?_) (F.args_zip_next_1 _))));obtain ⟨o,g,c⟩:=st;exact aa (fY (T:="StopIteration") (b:=true) ⟨o,g,c⟩ hG (ar (k h' up)))
end
abbrev zT1(h:Heap)(l1:Addr):Heap:=h.push { cls:=.type "tuple_iterator",data:=.fields #[.ref l1,.int 0 0] }
abbrev zT2(h:Heap)(l1 l2:Addr):Heap:=(zT1 h l1).push { cls:=.type "list_iterator",data:=.fields #[.ref l2,.int 0 0] }
abbrev zT3(h:Heap)(l1 l2:Addr):Heap:=(zT2 h l1 l2).push { cls:=.type "tuple",data:=.seq #[.ref h.objs.size,.ref (zT1 h l1).objs.size] }
abbrev zT4(h:Heap)(l1 l2:Addr):Heap:=(zT3 h l1 l2).push { cls:=.type "tuple",data:=.seq #[.none,.none] }
abbrev zT5(h:Heap)(l1 l2:Addr):Heap:=(zT4 h l1 l2).push { cls:=.type "zip",data:=.fields #[.none,.bool false,.bool false,.ref (zT2 h l1 l2).objs.size,.ref (zT3 h l1 l2).objs.size] }
theorem zrm(l1 l2:Addr)(xs ys:Array Value):Meets (aN.«zip.__new__» ⟨[.type "zip",.ref l1,.ref l2],[]⟩) (λ_ R s=>s.heap.IsTuple l1 xs/\s.heap.IsList l2 ys/\R (.ok (.ret (.ref (zT4 s.heap l1 l2).objs.size))) { s with heap:=zT5 s.heap l1 l2 }) :=
 .of_wp λprog w A R s h=>by
  obtain ⟨hp,g,d,tk,os⟩:=s;obtain ⟨hl1,hl2,h⟩:=h;have hsub:=sub_zip;have hL1:Heap.IsTuple (af.heap ⟨hp,g,d,tk,os⟩) l1 xs:=hl1;have hL2:Heap.IsList (af.heap ⟨hp.push { cls:=.type "tuple_iterator",data:=.fields #[.ref l1,.int 0 0] },g,d,tk,os⟩) l2 ys:=Heap.IsList.push hl2 _
  wp_walk using wpAny_pyIter_tuple hL1,eS hL2
  exact ⟨_,rfl,h⟩
section
variable {prog:aI}{w:aZ}{A:be}{E:Value->af->Prop}{s:af}
theorem zqR{xs ys:Array Value}(hl1:s.heap.IsTuple l1 xs)(hl2:s.heap.IsList l2 ys)
  (h:∀h',IsZip h' (s.heap.objs.size+4) (s.heap.objs.size+2) (s.heap.objs.size+3) .none->fA h' (s.heap.objs.size+2) (.ref s.heap.objs.size) (.ref (s.heap.objs.size+1)) ->
   fA h' (s.heap.objs.size+3) .none .none->h'.IsTupleIter s.heap.objs.size l1 0->h'.IsListIter (s.heap.objs.size+1) l2 0->h'.objs.size=s.heap.objs.size+5 ->
   (∀c o,s.heap.get? c=some o->h'.get? c=some o)->Q (.ref (s.heap.objs.size+4)) { s with heap:=h' }):aH (aC prog w) A (call (.type "zip") [.ref l1,.ref l2]) Q E s:=by
 refine callType_new F.called_zip (by decide) (F.typeCall_zip_2 _ _) (F.newCall_zip_2 _ _) (λobj=>F.args_object_init_3 obj _ _) F.entry_zip_new (zrm l1 l2 xs ys) ⟨hl1,hl2,?_⟩;have z1:(zT1 s.heap l1).objs.size=s.heap.objs.size+1:=cj ..;have z2:(zT2 s.heap l1 l2).objs.size=s.heap.objs.size+2:=by rw [cj,z1]
 have z3:(zT3 s.heap l1 l2).objs.size=s.heap.objs.size+3:=by rw [cj,z2]
 have z4:(zT4 s.heap l1 l2).objs.size=s.heap.objs.size+4:=by rw [cj,z3]
 have z5:(zT5 s.heap l1 l2).objs.size=s.heap.objs.size+5:=by rw [cj,z4]
 have g5:(zT5 s.heap l1 l2).get? (zT4 s.heap l1 l2).objs.size=some _:=aO _ rfl;have g4:(zT5 s.heap l1 l2).get? (zT3 s.heap l1 l2).objs.size=some _:=ad _ (aO _ rfl);have g3:(zT5 s.heap l1 l2).get? (zT2 s.heap l1 l2).objs.size=some _:=ad _ (ad _ (aO _ rfl));have g2:(zT5 s.heap l1 l2).get? (zT1 s.heap l1).objs.size=some _:=ad _ (ad _ (ad _ (aO _ rfl)));have g1:(zT5 s.heap l1 l2).get? s.heap.objs.size=some _:=ad _ (ad _ (ad _ (ad _ (aO _ rfl))));show _/\_;rw [z2,z3,z4] at g5;rw [z1,z2] at g3;rw [z3] at g4;rw [z1] at g2;rw [z4];refine ⟨⟨_,g5,rfl⟩,h _ g5 g3 g4 ⟨_,g1,rfl,rfl⟩ ⟨_,g2,rfl,rfl⟩ z5 λc o x=>?_⟩;exact ad _ (ad _ (ad _ (ad _ (ad _ x))))
end
def zfg(K:ag)(a b:Addr):It :=
 ⟨λi H=>∃xs ys x y,SqT K H a xs/\SqL K H b ys/\xs[i]?=some x/\ys[i]?=some y,λi H v H'=>∃T x y,H T=none/\v = .ref T/\H'=upd H T (.tup [x,y])/\(∀xs,SqT K H a xs->xs[i]?=some x)/\∀ys,SqL K H b ys->ys[i]?=some y,
  λi H=>∃xs ys,SqT K H a xs/\SqL K H b ys/\xs.length<=i⟩
structure zfo(z TI TO i1 i2 l1 l2:Addr)(i:Nat)(h:Heap):Prop where
 z:IsZip h z TI TO .none
 ti:fA h TI (.ref i1) (.ref i2)
 to:∃a b,fA h TO a b
 a:h.IsTupleIter i1 l1 i
 b:h.IsListIter i2 l2 i
theorem zfo.keep{z TI TO:Addr}{i:Nat}(x:zfo z TI TO i1 i2 l1 l2 i h)(k:∀b∈[z,TI,TO,i1,i2],∀o,h.get? b=some o->h'.get? b=some o):zfo z TI TO i1 i2 l1 l2 i h':=by
 obtain ⟨a1,a2,⟨u,v,a3⟩,a4,a5⟩:=x;exact ⟨k _ (by simp) _ a1,k _ (by simp) _ a2,⟨u,v,k _ (by simp) _ a3⟩,a4.at λo e=>k _ (by simp) o e,a5.at λo e=>k _ (by simp) o e⟩
theorem zp2{K:ag}{z TI TO:Addr}(D:ZipApart z TI TO i1 i2 l1 l2) :
  zbV false P w K (.Tuple elts kk tp) (zfg K l1 l2) [z,TI,TO,i1,i2] z (zfo z TI TO i1 i2 l1 l2) where
 mem:=by simp
 obj:=λi h st b hb=>by
  obtain ⟨a1,a2,⟨u,v,a3⟩,⟨o4,a4,_,d4⟩,⟨o5,a5,_,d5⟩⟩:=st;simp only [au,aM,or_false] at hb;rcases hb with rfl|rfl|rfl|rfl|rfl
  .exact ⟨_,a1,λv q=>nomatch q⟩
  .exact ⟨_,a2,λv q=>nomatch q⟩
  .exact ⟨_,a3,λv q=>nomatch q⟩
  .exact ⟨_,a4,λv q=>by rw [d4] at q;cases q⟩
  .exact ⟨_,a5,λv q=>by rw [d5] at q;cases q⟩
 keep:=λi h h' st k=>st.keep k
 item:=by
  intro X hP hw hK hc i Ga s σ H E I hf st hg;subst hP hw hK;obtain ⟨xs,ys,x,y,hq1,hq2,hx,hy⟩:=hg;obtain ⟨is1,rv1,p1,hz1⟩:=I.tuple hq1;obtain ⟨is2,rv2,p2,hz2⟩:=I.list hq2;obtain ⟨u1,hu1,ru1⟩:=rv1.get hx;obtain ⟨u2,hu2,ru2⟩:=rv2.get hy;obtain ⟨a1,a2,⟨u,v,a3⟩,a4,a5⟩:=st;refine zrP D a1 a2 a3 a4 a5 p1 p2.isList (x:=u1) (y:=u2) (by simpa using hu1) (by simpa using hu2) λh' b1 b2 b3 b4 b5 b6 b7=>?_;refine ⟨_,rfl,wpAny_letOwnedTupleGo_zip (s:={ s with heap:=h' }) b1 λh2 c1 c2=>?_⟩;have zlt:z<s.heap.objs.size:=aP a1;have nz:s.heap.objs.size≠z:=dQ zlt;have all:∀c o,c≠z->c≠TO->c≠i1->c≠i2->s.heap.get? c=some o->h2.get? c=some o:=λc o n1 n2 n3 n4 e=>c2.extBut c o n1 (b7 c o n1 n2 n3 n4 e);have tT:h2.get? s.heap.objs.size=some { cls:=.type "tuple",data:=.seq #[u1,u2] }:=c2.extBut _ _ nz b5;have hfr:H s.heap.objs.size=none:=I.hok.fresh (ae _);have hok0:HOk X.prog X.w H h2:=λb u e=>by
   refine (I.hok b u e).stay (λc v hc q=>?_) (λ_ q=>q) λ_ _ q=>q;have hne:∀d∈[z,TI,TO,i1,i2],c≠d:=λd hd w=>by
    have fd:=(hf d hd).1;rcases hc with k|k
    .rw [k] at w;rw [w,fd] at e;cases e
    .rw [w,fd] at k;cases k
   exact all c v (hne z (by simp)) (hne TO (by simp)) (hne i1 (by simp)) (hne i2 (by simp)) q
  have lt0:∀b o,s.heap.get? b=some o->b≠s.heap.objs.size:=λb o e=>bC (aP e);have I2:Inv X Ga σ (upd H s.heap.objs.size (.tup [x,y])) { s with heap:=h2 }:=by
   refine I.step (g':=s.gens) (d':=s.drawn) (t':=s.toks) (ch:=[z,TO,i1,i2]) (λb hb=>?_) (λb o _ _ hb e _=>?_) (λb o _ _ hb e _=>?_) (λb o _ e n=>?_) (λb o hb e=>?_) (λb ps e=>?_) (λb o u e=>?_) (λb ps e=>?_) (λm hm=>?_) (hok0.add hfr ?_) I.bare
   .have hb':b∈[z,TI,TO,i1,i2]:=by simp only [au,aM,or_false] at hb ⊢;rcases hb with h|h|h|h<;>simp [h]
    obtain ⟨f0,f1,f2,f3,f4,f5⟩:=hf b hb';exact ⟨f3,f1,f4,f5⟩
   .simp only [au,aM,or_false,not_or] at hb;exact all b o hb.1 hb.2.1 hb.2.2.1 hb.2.2.2 e
   .simp only [au,aM,or_false,not_or] at hb;exact ⟨o.slots,all b o hb.1 hb.2.1 hb.2.2.1 hb.2.2.2 e⟩
   .rw [zd (lt0 b o e)];exact n
   .simp only [au,aM,or_false,not_or] at hb;exact ⟨o,all b o hb.1 hb.2.1 hb.2.2.1 hb.2.2.2 e⟩
   .rw [zd (zp e hfr)];exact e
   .rw [zd (zp e hfr)];exact e
   .exact ⟨#[],by rw [zd (zp e hfr),e];simp⟩
   .obtain ⟨o,es,ep,ho,r⟩:=hm;exact ⟨o,es,ep,all _ o (aU (hf z (by simp)).2.1) (aU (hf TO (by simp)).2.1) (aU (hf i1 (by simp)).2.1) (aU (hf i2 (by simp)).2.1) ho,r⟩
   .exact ⟨by show 2<=sizeLine;decide,[u1,u2],.cons ru1 (.cons ru2 .nil),⟨_,tT,rfl,_,rfl⟩⟩
  refine ⟨.ref s.heap.objs.size,_,I2,rfl,⟨_,x,y,hfr,rfl,rfl,λzs hz=>by rw [I.tuple_inj hz hq1];exact hx,λzs hz=>by rw [I.list_inj hz hq2];exact hy⟩,?_,λb hb=>?_⟩
  .exact ⟨c1,c2.extBut _ _ D.TIz (b7 _ _ D.TIz D.TITO D.TIi1 D.TIi2 a2),⟨u1,u2,c2.extBut _ _ D.TOz b2⟩,b3.at λo e=>c2.extBut _ o D.i1z e,b4.extBut c2.extBut D.i2z⟩
  .have ne:b≠s.heap.objs.size:=λq=>by
    have:b<s.heap.objs.size:=by
     simp only [au,aM,or_false] at hb;obtain ⟨o4,a4,_⟩:=a4;obtain ⟨o5,a5,_⟩:=a5;rcases hb with rfl|rfl|rfl|rfl|rfl
     .exact zlt
     .exact aP a2
     .exact aP a3
     .exact aP a4
     .exact aP a5
    exact absurd (q ▸ this) (bj _)
   rw [zd ne];exact (hf b hb).1
 done:=by
  intro X hP hw hK hc i Ga s σ H E I hf st hg;subst hP hw hK;obtain ⟨xs,ys,hq1,hq2,hx⟩:=hg;obtain ⟨is1,rv1,p1,hz1⟩:=I.tuple hq1;have hl:=rv1.length;obtain ⟨a1,a2,⟨u,v,a3⟩,a4,a5⟩:=st;refine zoo I.hnd D a1 a2 a3 a4 p1 (by simp;lia) λh' up=>⟨rfl,?_⟩;refine I.step (g':=s.gens) (d':=s.drawn) (t':=s.toks) (ch:=[z,i1]) (λb hb=>?_) (λb o _ _ hb e _=>?_) (λb o _ _ hb e _=>?_) (λ_ _ _ _ n=>n) (λb o hb e=>?_) (λ_ _ e=>e) (λ_ _ _ e=>e) (λb ps e=>⟨#[],by rw [e];simp⟩) (λm hm=>?_) (λb u e=>?_) I.bare
  .have hb':b∈[z,TI,TO,i1,i2]:=by simp only [au,aM,or_false] at hb ⊢;rcases hb with h|h<;>simp [h]
   obtain ⟨f0,f1,f2,f3,f4,f5⟩:=hf b hb';exact ⟨f3,f1,f4,f5⟩
  .simp only [au,aM,or_false,not_or] at hb;exact up b o hb.1 hb.2 e
  .simp only [au,aM,or_false,not_or] at hb;exact ⟨o.slots,up b o hb.1 hb.2 e⟩
  .simp only [au,aM,or_false,not_or] at hb;exact ⟨o,up b o hb.1 hb.2 e⟩
  .obtain ⟨o,es,ep,ho,r⟩:=hm;exact ⟨o,es,ep,up _ o (aU (hf z (by simp)).2.1) (aU (hf i1 (by simp)).2.1) ho,r⟩
  .refine (I.hok b u e).stay (λc v hc q=>?_) (λ_ q=>q) λ_ _ q=>q;have hne:∀d∈[z,TI,TO,i1,i2],c≠d:=λd hd w=>by
    have fd:=(hf d hd).1;rcases hc with k|k
    .rw [k] at w;rw [w,fd] at e;cases e
    .rw [w,fd] at k;cases k
   exact up c v (hne z (by simp)) (hne i1 (by simp)) q
 self:=λ_ _ _ _ _ st h=>wpAny_pyIter_zip st.z h
section
variable {X:Cx}
def zlu(K:ag)(ta:TA):TI:=λσ H R=>ta σ H λvs H1=>∃a b,vs=[.ref a,.ref b]/\(∃xs,SqT K H1 a xs)/\(∃ys,SqL K H1 b ys)/\R (zfg K a b) H1
theorem zsf{p:Pos}{a b:bw}{ta:TA}(hg:Gl X "zip")(hm:X.mg "zip"=none)(ha:W (PA X [a,b] ta))(hs:aV [a,b] X.env=[(false,bV a X.env),(false,bV b X.env)]:=by rfl)(hs2:aV [b] X.env=[(false,bV b X.env)]:=by rfl):W (PIc false X (.Tuple elts kk tp) (.Call (.Name "zip" p) [a,b] [] pos) (zlu X.K ta)):=by
 refine ⟨?_⟩;have ha:=ha.h;intro Ga s σ H R I h;refine Call_ (zb8 I hg hm boot_zip (cW (thn (ha pos Ga s σ H _ I h) λus s1=>x5e λvs H1 I1 r1 q1=>?_) (by rw [hs,hs2]) (by rw [hs2];rfl)));obtain ⟨l1,l2,e,⟨xs,h1⟩,⟨ys,h2⟩,q⟩:=q1;subst e;cases r1 with
 | cons r rr =>
  cases rr with
  | cons r' rr =>
   cases rr;cases (show _=aA l1 from r);cases (show _=aA l2 from r');obtain ⟨is1,rv1,p1,_⟩:=I1.tuple h1;obtain ⟨is2,rv2,p2,_⟩:=I1.list h2;have lt1:l1<s1.heap.objs.size:=by obtain ⟨o,e,_⟩:=p1;exact aP e
   have lt2:l2<s1.heap.objs.size:=by obtain ⟨o,e,_⟩:=p2.isList;exact aP e
   refine zqR p1 p2.isList λh' a1 a2 a3 a4 a5 a6 a7=>wpAny_pyIter_zip (s:={ s1 with heap:=h' }) a1 ?_;refine ⟨_,_,_,_,H1,rfl,I1.kept (t':=s1.toks) a7,zp2 (zipApart_new lt1 lt2),⟨a1,a2,⟨_,_,a3⟩,a4,a5⟩,λb hb=>?_,q⟩;have le:s1.heap.objs.size<=b:=by
    simp only [au,aM,or_false] at hb;rcases hb with rfl|rfl|rfl|rfl|rfl<;>lia
   exact I1.fpOk le (I1.hok.fresh le)
end
section
variable {K:ag}{g:TG}{tb:TS}{D:zaG}{σ:St}{H:Hp}{ta:TA}{R:It->Hp->Prop}
theorem zvE:zlu K ta σ H R=ta σ H λvs H1=>uR2 vs λa b=>(∃xs,SqT K H1 a xs)/\(∃ys,SqL K H1 b ys)/\R (zfg K a b) H1:=by
 apply propext;constructor
 .intro h;exact h
 .intro h;exact h
theorem zat.zipT{xs:List V}(hlen:xs.length=ys.length)(Pv:Nat->St->Hp->Prop)(h0:Pv 0 σ H)(hl:∀i σ H,i<=xs.length->Pv i σ H->SqT K H a xs/\SqL K H b ys)
  (hs:∀i x y p σ H,xs[i]?=some x->ys[i]?=some y->Pv i σ H->H p=none->g (.ref p) σ (upd H p (.tup [x,y])) λσ2 H2=>tb { D with nx:=Pv (i+1),ct:=Pv (i+1),bk:=D.nx } σ2 H2) (hd:∀σ H,Pv xs.length σ H->D.nx σ H):zat (zfg K a b) g tb D σ H:=by
 refine ⟨λi m σ H=>m=xs.length-i/\i<=xs.length/\Pv i σ H,⟨xs.length,by simp,cf _,h0⟩,?_⟩;rintro i m σ H ⟨rfl,hi,p⟩;obtain ⟨q1,q2⟩:=hl i σ H hi p;by_cases hlt:i<xs.length
 .refine .inr ⟨⟨xs,ys,xs[i],ys[i]'(by lia),q1,q2,by simp [hlt],by simp [hlen ▸ hlt]⟩,Pv (i+1),λσ' H' p'=>⟨xs.length-(i+1),by lia,rfl,hlt,p'⟩,λv H' y=>?_⟩;obtain ⟨T,x,y,hT,rfl,rfl,hx,hy⟩:=y;exact hs i x y T σ _ (hx xs q1) (hy ys q2) p hT
 .have e:i=xs.length:=by lia
  subst e;exact .inl ⟨⟨xs,ys,q1,q2,ae _⟩,hd σ H p⟩
end
section
variable {X:Cx}
end
def tx(l:List Nat):Str:=⟨l.toArray⟩
def sg(z:Str):List Nat:=z.cps.toList
theorem zbJ(l:List Nat):sg (tx l)=l:=by simp [sg,tx]
theorem zee(z:Str):tx (sg z)=z:=by cases z;simp [sg,tx]
theorem zhv{a b:Str}(h:sg a=sg b):a=b:=by rw [<- zee a,h,zee]
theorem zbY(a b:Str):sg (a++b)=sg a++sg b:=by simp [sg,Str.cps_append]
theorem zY(z:Str):(sg z).length=z.length:=by simp [sg,Str.length]
theorem ziE(l:List Nat):(tx l).length=l.length:=by simp [tx,Str.length]
def c1(c:Nat):Str:=⟨#[c]⟩
theorem zeA{c i:Nat}:StrLaws.At x (c1 c) x.length i↔(sg x)[i]?=some c:=by
 unfold StrLaws.At;rw [StrLaws.subAt_eq];show i+1<=x.length/\((((sg x).drop i).take 1)==[c])=true↔_;rw [<- zY x];constructor
 .rintro ⟨h1,h2⟩;have h2:=eq_of_beq h2;rw [ah (by lia)];have h3:((sg x).drop i).take 1=[(sg x)[i]'(by lia)]:=by
   rw [c8 (by lia)];rfl
  rw [h3] at h2;injection h2 with h2 _
  rw [h2]
 .intro h;obtain ⟨h1,h2⟩:=ak.mp h;refine ⟨by lia,?_⟩;rw [c8 h1,h2];simp
theorem zu8(y:Str)(c:Nat):(!(aN.Str.occurrences y ⟨#[c]⟩ 0 y.length 1).isEmpty)=(sg y).contains c:=by
 rcases StrLaws.occ_head y (c1 c) 1 (ae _) with ⟨h,hn⟩|⟨i,r,h,ha,_⟩
 .rw [show aN.Str.occurrences y ⟨#[c]⟩ 0 y.length 1=[] from h];symm;show (sg y).contains c=false;rw [eJ];intro hc;obtain ⟨i,hi,e⟩:=dw (dG.mp hc);exact hn i (zeA.mpr (by rw [ah hi,e]))
 .rw [show aN.Str.occurrences y ⟨#[c]⟩ 0 y.length 1=i::r from h];symm;exact dG.mpr (aE (zeA.mp ha))
def zag(c:Nat):List Nat->List (List Nat)
 | []=>[[]]
 | x::t=>if x=c then []::zag c t else match zag c t with
  | []=>[[x]]
  | h::r=>(x::h)::r
def zcr(p:List Nat):List (List Nat)->List (List Nat)
 | []=>[p]
 | h::r=>(p++h)::r
theorem zcY(c:Nat):∀l,∃h r,zag c l=h::r
 | []=>⟨_,_,rfl⟩
 | x::t=>by
  unfold zag;split
  .exact ⟨_,_,rfl⟩
  .obtain ⟨h,r,e⟩:=zcY c t;rw [e];exact ⟨_,_,rfl⟩
theorem zdF(c x:Nat)(t:List Nat)(h:x≠c):zag c (x::t)=zcr [x] (zag c t):=by
 obtain ⟨a,r,e⟩:=zcY c t;show (if x=c then _ else _)=_;rw [if_neg h,e];rfl
theorem zt2(p q:List Nat)(l:List (List Nat)):zcr p (zcr q l)=zcr (p++q) l:=by
 cases l<;>simp [zcr]
theorem zhQ(s:Str)(c hi limit:Nat):∀(l:List Nat)(st:Array Nat×Nat),(∀i∈l,st.2<=i)->l.Pairwise (· < ·)->st.1.size+l.length<=limit ->
  (forIn l st (StrLaws.occBody s (c1 c) hi limit)).run.fst.toList=st.1.toList++l.filter λi=>decide (i+1<=hi)&&aN.Str.subAt s (c1 c) i
 | [],st,_,_,_=>by simp
 | a::l,st,h1,h2,h3=>by
  rw [iO];unfold StrLaws.occBody;have ha:=h1 a (bf ..);rw [eP] at h2;simp only [cq] at h3;split
  .rename_i hc;have ih:=zhQ s c hi limit l (st.1.push a,a+(c1 c).length) (λi hi=>by have:=h2.1 i hi;show a+1<=i;lia) h2.2 (by simp;lia);have e2:(decide (a+1<=hi)&&aN.Str.subAt s (c1 c) a)=true:=by rw [bF];exact ⟨decide_eq_true hc.1.2,hc.2⟩
   rw [eZ,e2,if_pos rfl];refine Eq.trans ih ?_;simp
  .rename_i hc;have ih:=zhQ s c hi limit l st (λi hi=>h1 i (aF _ hi)) h2.2 (by lia);have e2:(decide (a+1<=hi)&&aN.Str.subAt s (c1 c) a)=false:=by
    rw [eJ];intro h;rw [bF] at h;exact hc ⟨⟨⟨by lia,ha⟩,of_decide_eq_true h.1⟩,h.2⟩
   rw [eZ,e2,if_neg (by simp)];exact ih
theorem zke(x:Str)(c:Nat):aN.Str.occurrences x (c1 c) 0 x.length (x.length+1)=(range' 0 (x.length+1)).filter λi=>(sg x)[i]? == some c:=by
 rw [StrLaws.occ_eq];rw [zhQ x c x.length (x.length+1) _ _ (λ_ _=>cf _) (List.pairwise_lt_range' (s:=0) (n:=x.length+1-0)) (by simp)];simp only [nil_append,Nat.sub_zero];refine List.filter_congr λi _=>?_;rw [eO];have:=zeA (x:=x) (c:=c) (i:=i);unfold StrLaws.At at this;rw [bF,decide_eq_true_eq,beq_iff_eq];exact this
theorem zhH(x:Str)(c:Nat):∀(k a i:Nat),i+k=x.length->a<=i->StrLaws.partsFrom x 1 a ((range' i (k+1)).filter λi=>(sg x)[i]? == some c)=(zcr (((sg x).drop a).take (i-a)) (zag c ((sg x).drop i))).map tx
 | 0,a,i,h,ha=>by
  have hl:=zY x;have e1:(sg x)[i]?=none:=dY (by lia);have e2:(sg x).drop i=[]:=eU (by lia);have e3:(range' i (0+1)).filter (λi=>(sg x)[i]? == some c)=[]:=by
   show List.filter _ [i]=[];rw [eZ,e1];rfl
  rw [e2,e3];show [aN.Str.strSub x a x.length]=[tx _];refine congrArg (·::[]) (zhv ?_);rw [zbJ];show (aN.Str.strSub x a x.length).cps.toList=_;rw [StrLaws.strSub_toList,show x.length=i by lia];simp [zag,sg]
 | k+1,a,i,h,ha=>by
  have hl:=zY x;have hi:i<(sg x).length:=by lia
  have e0:(sg x)[i]?=some ((sg x)[i]):=ah hi;have ed:(sg x).drop i=(sg x)[i]::(sg x).drop (i+1):=c8 hi;rw [List.range'_succ,eZ,e0,ed];by_cases hc:(sg x)[i]=c
  .rw [if_pos (by simp [hc])];have ih:=zhH x c k (i+1) (i+1) (by lia) (ae _);show aN.Str.strSub x a i::StrLaws.partsFrom x 1 (i+1) _=_;rw [ih];have e4:zag c ((sg x)[i]::(sg x).drop (i+1))=[]::zag c ((sg x).drop (i+1)):=by
    show (if _=c then _ else _)=_;rw [if_pos hc]
   rw [e4];obtain ⟨p,r,e⟩:=zcY c ((sg x).drop (i+1));rw [e];simp only [fV,List.take_zero,zcr,nil_append,cw,bQ];refine congrArg (·::_) (zhv ?_);rw [zbJ];exact StrLaws.strSub_toList x a i
  .rw [if_neg (by simp [hc])];rw [zhH x c k a (i+1) (by lia) (by lia),zdF c _ _ hc,zt2];have e5:((sg x).drop a).take (i+1-a)=((sg x).drop a).take (i-a)++[(sg x)[i]]:=by
    rw [show i+1-a=(i-a)+1 by lia,di];congr 1;rw [fB,show a+(i-a)=i by lia,e0];rfl
   rw [e5]
theorem zig{c:Nat}:∀{l:List Nat},c∉l->zag c l=[l]
 | [],_=>rfl
 | x::t,h=>by
  rw [au,not_or] at h;rw [zdF c x t (aU h.1),zig h.2];rfl
theorem zkZ(x:Str){c:Nat}(hc:c<128):bY x (c1 c)=(zag c (sg x)).map tx:=by
 have hk:aN.Str.strKind (c1 c)=1:=by
  unfold aN.Str.strKind;rw [if_pos];show (#[c]:Array Nat).all (· < 256)=true;simp;lia
 have hk2 : ¬ aN.Str.strKind x<aN.Str.strKind (c1 c):=by
  rw [hk];unfold aN.Str.strKind;split<;>(try split)<;>lia
 have whole:c∉sg x->[x]=(zag c (sg x)).map tx:=λh=>by rw [zig h];show [x]=[tx (sg x)];rw [zee]
 unfold bY;split
 .rename_i h;rw [decide_eq_false hk2,fC,decide_eq_true_eq] at h;have h:x.length<1:=h;rw [<- zY] at h;refine whole ?_;have e0:sg x=[]:=gI (by lia);rw [e0];exact aM
 .split
  .rename_i h;refine whole λhm=>?_;obtain ⟨i,hi,e⟩:=dw hm;rw [zke] at h;have:i∈(range' 0 (x.length+1)).filter λi=>(sg x)[i]? == some c:=by
    rw [iV];refine ⟨?_,by rw [ah hi,e];simp⟩;rw [List.mem_range'_1];rw [zY] at hi;lia
   rw [List.isEmpty_iff.mp h] at this;exact absurd this aM
  .rw [StrLaws.partsBetween_eq,zke];show StrLaws.partsFrom x 1 0 _=_;rw [zhH x c x.length 0 0 (by lia) (ae _)];simp only [fV,List.take_zero,drop_zero];obtain ⟨h,r,e⟩:=zcY c (sg x);rw [e];rfl
theorem zhO{c:Nat}:∀(w:List Nat)(ws:List (List Nat)),(∀v∈w::ws,c∉v)->zag c (w++(ws.map (c::·)).flatten)=w::ws
 | [],[],_=>rfl
 | [],v::ws,h=>by
  have ih:=zhO v ws λu hu=>h u (aF _ hu);show zag c (c::(v++(ws.map (c::·)).flatten))=_;show (if c=c then _ else _)=_;rw [if_pos rfl,ih]
 | x::w,ws,h=>by
  have hx:=h _ (bf ..);rw [au,not_or] at hx;have ih:=zhO w ws λu hu=>by
   rcases au.mp hu with rfl|hu
   .exact hx.2
   .exact h u (aF _ hu)
  show zag c (x::(w++(ws.map (c::·)).flatten))=_;rw [zdF c x _ (aU hx.1),ih];rfl
theorem zhw(x:Str)(c hi:Nat):∀(l:List Nat)(st:Option Nat),(forIn l st (λi r=>if (decide (i+(c1 c).length<=hi)&&aN.Str.subAt x (c1 c) i)=true then (pure (ForInStep.yield (some i)):Id _) else pure (ForInStep.yield r))).run =
  l.foldl (λacc i=>if (decide (i+1<=hi)&&aN.Str.subAt x (c1 c) i)=true then some i else acc) st
 | [],st=>rfl
 | a::l,st=>by
  rw [iO,hJ];show _=l.foldl _ (if (decide (a+(c1 c).length<=hi)&&aN.Str.subAt x (c1 c) a)=true then some a else st);split
  .exact zhw x c hi l _
  .exact zhw x c hi l _
theorem zkd(x:Str)(c:Nat):aN.Str.lastOccurrence x (c1 c) 0 x.length=(range' 0 (x.length+1)).foldl (λacc i=>if (sg x)[i]?=some c then some i else acc) none:=by
 have e:aN.Str.lastOccurrence x (c1 c) 0 x.length=(forIn (range' 0 (x.length+1)) none (λi r=>if (decide (i+(c1 c).length<=x.length)&&aN.Str.subAt x (c1 c) i)=true then (pure (ForInStep.yield (some i)):Id _) else pure (ForInStep.yield r))).run:=by
  unfold aN.Str.lastOccurrence;simp
 rw [e,zhw];congr 1;funext acc i;have:=zeA (x:=x) (c:=c) (i:=i);unfold StrLaws.At at this;by_cases h:(sg x)[i]?=some c
 .rw [if_pos h,if_pos];rw [bF,decide_eq_true_eq];exact this.mpr h
 .rw [if_neg h,if_neg];intro q;rw [bF,decide_eq_true_eq] at q;exact h (this.mp q)
theorem zgZ{p:Nat->Prop} [DecidablePred p]:∀(l:List Nat)(a:Option Nat),(∀i∈l,¬ p i)->l.foldl (λacc i=>if p i then some i else acc) a=a
 | [],_,_=>rfl
 | x::l,a,h=>by
  rw [hJ,if_neg (h x (bf ..))];exact zgZ l a λi hi=>h i (aF _ hi)
theorem zpL{c:Nat}{a b:List Nat}(h:sg x=a++c::b)(hb:c∉b):fJ x (c1 c)=a.length:=by
 have hl:x.length=a.length+(b.length+1):=by rw [<- zY,h];simp
 have e:aN.Str.lastOccurrence x (c1 c) 0 x.length=some a.length:=by
  rw [zkd,show x.length+1=a.length+((b.length+1)+1) by lia,<- List.range'_append_1,List.foldl_append,List.range'_succ,hJ];rw [if_pos (by rw [h];simp),dD];refine zgZ (p:=λi=>(sg x)[i]?=some c) _ _ λi hi=>?_;rw [List.mem_range'_1] at hi;intro q;rw [h,c9 (by lia)] at q;obtain ⟨j,hj⟩:∃j,i-a.length=j+1:=⟨i-a.length-1,by lia⟩;rw [hj,d6] at q;exact hb (aE q)
 show (match aN.Str.lastOccurrence x (c1 c) 0 x.length with|some i=>(i:Int)|none=>-1)=_;rw [e]
theorem zvg{c:Nat}(h:c∉sg x):fJ x (c1 c) = -1:=by
 have e:aN.Str.lastOccurrence x (c1 c) 0 x.length=none:=by
  rw [zkd];exact zgZ (p:=λi=>(sg x)[i]?=some c) _ _ λi _ q=>h (aE q)
 show (match aN.Str.lastOccurrence x (c1 c) 0 x.length with|some i=>(i:Int)|none=>-1)=_;rw [e]
theorem zh9{j:Nat}(h:j<=(sg x).length):cA x none (some (j:Int))=tx ((sg x).take j):=by
 have e:=StrLaws.sliceText_to (x:=x) (j:=(j:Int)) ⟨by lia,by simpa [sg] using h⟩;refine Eq.trans (show cA x none (some (j:Int))=StrLaws.sliceText x none (some (j:Int)) from rfl) (e.trans ?_);show tx _=tx _;simp [sg]
theorem zmn(h:0<(sg x).length):cA x none (some (-1))=tx ((sg x).dropLast):=by
 rw [zY] at h;have e:=StrLaws.sliceText_to_neg (x:=x) (j:=-1) (by lia) (by lia);refine Eq.trans (show cA x none (some (-1))=StrLaws.sliceText x none (some (-1)) from rfl) (e.trans ?_);show tx _=tx _;rw [List.dropLast_eq_take,zY,drop_zero,show (-1+(x.length:Int)-0).toNat=x.length-1 by lia];rfl
theorem zdD(m:Nat):sg (toString ((m:Nat):Int):Str)=(iW 10 m).map Char.toNat:=PySem.W.KIN.signs_num m
section
variable {X:Cx}{tg:bw}
def zfZ(K:ag)(tl:TE):TI:=λσ H R=>tl σ H λx H1=>uR x λa=>(∃xs,SqL K H1 a xs/\R (Itl K a) H1)\/∃xs,SqT K H1 a xs/\R (Itt K a) H1
theorem zuS{K:ag}:zfZ K tl σ H R=tl σ H λx H1=>uR x λa=>(∃xs,SqL K H1 a xs/\R (Itl K a) H1)\/∃xs,SqT K H1 a xs/\R (Itt K a) H1:=rfl
theorem zts(hl:PE X l tl):PIc true X tg l (zfZ X.K tl):=by
 intro Ga s σ H R I h;refine thn (hl Ga s σ H _ I h) λv s1=>x5e λx H1 I1 r1 q1=>?_;obtain ⟨a,e,q1⟩:=q1;subst e;cases r1;rcases q1 with ⟨xs,hq,q⟩|⟨xs,hq,q⟩
 .obtain ⟨its,rv,p,hz⟩:=I1.list hq;refine eS p.isList ⟨s1.heap.objs.size,[s1.heap.objs.size],_,_,H1,rfl,I1.kept (t':=s1.toks) λb o e=>ad _ e,ze4 a _,⟨_,aO _ rfl,rfl,rfl⟩,λb hb=>?_,q⟩;have e:b=s1.heap.objs.size:=by simpa using hb
  subst e;exact I1.fpOk (ae _) (I1.hok.fresh (ae _))
 .obtain ⟨its,rv,p,hz⟩:=I1.tuple hq;refine wpAny_pyIter_tuple (show s1.heap.IsTuple a its.toArray from p) ⟨s1.heap.objs.size,[s1.heap.objs.size],_,_,H1,rfl,I1.kept (t':=s1.toks) λb o e=>ad _ e,zr6 a _,⟨_,aO _ rfl,rfl,rfl⟩,λb hb=>?_,q⟩;have e:b=s1.heap.objs.size:=by simpa using hb
  subst e;exact I1.fpOk (ae _) (I1.hok.fresh (ae _))
theorem ztA(hl:W (PE X l tl)):W (PIc true X tg l (zfZ X.K tl)):=⟨zts hl.h⟩
end
section
variable {K:ag}{g:TG}{tt:TT}{te:TE}{H:Hp}{Q:VK}{R:It->Hp->Prop}
theorem zau.tup{xs:List V}(Pv:Nat->St->List V->Hp->Prop)(hz:∀i τ ys H,Pv i τ ys H->ys.length<sizeLine)(ha:∀i τ ys H,Pv i τ ys H->SqT K H a xs)(h0:Pv 0 τ [] H)
  (hs:∀(N:St->List V->Hp->Prop) i x τ ys H,xs[i]?=some x->Pv i τ ys H->(∀τ ys H,Pv (i+1) τ ys H->N τ ys H)->g x τ H λτ1 H4=>tt τ1 H4 λok H5=>zck N ys τ1 te ok H5) (hd:∀τ ys H,Pv xs.length τ ys H->∀D H',New H D (.lst ys) H'->Q (.ref D) H'):zau (Itt K a) g tt te τ H Q:=by
 refine ⟨λi m τ ys H=>m=xs.length-i/\i<=xs.length/\Pv i τ ys H,⟨xs.length,by simp,cf _,h0⟩,?_⟩;rintro i m τ ys H2 ⟨rfl,hi,p⟩;refine ⟨hz i τ ys H2 p,?_⟩;have q:=ha i τ ys H2 p;by_cases hlt:i<xs.length
 .refine .inr ⟨⟨xs,xs[i],q,by simp [hlt]⟩,λx H' y=>?_⟩;obtain ⟨e,y⟩:=y;subst e;exact hs (λτ1 ys H=>∃m',m'<xs.length-i/\m'=xs.length-(i+1)/\i+1<=xs.length/\Pv (i+1) τ1 ys H) i x τ ys _ (y xs q) p λτ1 zs H q=>⟨xs.length-(i+1),by lia,rfl,hlt,q⟩
 .have e:i=xs.length:=by lia
  subst e;exact .inl ⟨⟨xs,q,ae _⟩,λD hD _=>hd τ ys H2 p D _ (.mk' hD)⟩
theorem znj{Q:VK}:zbs c (.ref a) .non H Q=Q (.bl (if c then true else false)) H:=by simp [zbs]
theorem zsA{a:Str}{Q:VK}:zbs c (.str a) .non H Q=Q (.bl (if c then true else false)) H:=by simp [zbs]
theorem za2(z:Str):asc z=(sg z).all (· < 128):=by simp [asc,sg]
end
def zil(h:Heap)(e:Addr):Prop:=∃oe vs T,h.get? e=some oe/\oe.data = .fields vs/\vs[1]?=some (aA T)
section
variable {M:Model}{A:be}{E:Value->af->Prop}{s:af}{B:Heap}{env:Env}{outer l:List Env}{L e:Addr}{cls fl:Value}
theorem zjG{oe:Obj}{vs:Array Value}{head:Value}{had:Bool}{Q:Unit->af->Prop}(hfr:A.frames=some (env::outer))(hf:env.frame=some L)(st:B.StaysIn s.heap)(hn:B.get? e=none)
  (hl:s.heap.FunFrames B (env::outer)) (he:s.heap.get? e=some oe) (hc:oe.cls=cls) (hdi:oe.dict=none) (hd:oe.data = .fields vs) (hz:2<vs.size) (h2:vs[2]?=some .none)
  (k:∀h',zaH B (env::outer) e cls (bZ L) h'->zil h' e->s.heap.UpToSlots h'->Q () { s with heap:=h' }) :
  aH M A (do let a<-frameOf env;let pl<-entryPlaceOf L had;let b<-EntryCells.newEntry head a .none (bZ L) .none pl;setField (.ref e) 1 b) Q E s:=by
 have nfr:e∉(env::outer).filterMap (·.frame):=λz=>by
  obtain ⟨_,o,ho,nf⟩:=hl.mem z;rw [he] at ho;cases ho;exact nf vs hd
 refine aa (wpAny_frameOf_fun hfr hl hf λg only=>?_);obtain ⟨_,same,slots⟩:=only;refine aa (wpAny_entryPlaceOf λpl hpl=>?_);have key:∀(tb:Obj)(ts:Array Value),tb.data = .fields ts->ts[3]?=some (bZ L)->aH M A (setField (.ref e) 1 (.ref g.objs.size)) Q E { s with heap:=g.push tb }:=by
  intro tb ts td t3;have e1:g.get? e=some oe:=(same e nfr).trans he;have e2:(g.push tb).get? e=some oe:=ad _ e1;have hT:(g.push tb).get? g.objs.size=some tb:=aO _ (by rw [cG td]);have hne:g.objs.size≠e:=dQ (aP e1);have fresh:B.get? g.objs.size=none:=by
   cases q:B.get? g.objs.size with
   | none=>rfl
   | some o =>
    obtain ⟨sl,z⟩:=slots _ o (st _ o q);exact absurd (aP z) (bj _)
  have up:∀b o,b≠e->g.get? b=some o->((g.push tb).update e (iw (·.setIfInBounds 1 (.ref g.objs.size)))).get? b=some o:=λb o hb q =>
   (br _ _ (aU hb)).trans (ad _ q)
  have notE:∀b o,s.heap.get? b=some o->(∀ws,o.data≠.fields ws)->b≠e:=λb o q nf z=>by
   rw [z,he] at q;cases q;exact nf vs hd
  have dd:=dZ hd (·.setIfInBounds 1 (aA g.objs.size));refine cI e2 hd (by lia) (k _ ⟨λb o q=>?_,hn,?_,?_⟩ ⟨_,_,g.objs.size,de _ e2 (cG dd),dd,by rw [bR (by lia)]⟩ λb o q nf=>?_)
  .refine up b o (λz=>by rw [z,hn] at q;cases q) ((same b λz=>?_).trans (st b o q));rw [(hl.mem z).1] at q;cases q
  .refine hl.of_keeps λb o q nf=>?_;obtain ⟨sl,z⟩:=slots b o q;exact ⟨_,up b _ (notE b o q nf) z,rfl⟩
  .refine ⟨_,_,de _ e2 (cG dd),(fU _ _).trans hc,(zkP _ _).trans hdi,dd,by simpa using hz,by rw [fW (by decide)];exact h2,.inr ⟨g.objs.size,tb,ts,?_,fresh,hne,?_,td,t3⟩⟩
   .rw [bR (by lia)]
   .rw [br _ _ (aU hne)];exact hT
  .obtain ⟨sl,z⟩:=slots b o q;exact ⟨sl,up b _ (notE b o q nf) z⟩
 unfold EntryCells.newEntry newFields;refine aa (cx ?_ (hpl.sizeOk5 _ _ _ _ _));exact key _ _ rfl (by simp)
theorem zp4{Q:Unit->af->Prop}(hfr:A.frames=some (env::outer))(hf:env.frame=some L)(x:zaH B (env::outer) e cls fl s.heap)
  (k:∀h',zaH B (env::outer) e cls (bZ L) h'->zil h' e->s.heap.UpToSlots h'->Q () { s with heap:=h' }):aH M A (iu (.ref e) env) Q E s:=by
 obtain ⟨st,hn,hl,oe,vs,he,hc,hdi,hd,hz,h2,h1⟩:=x;unfold iu;simp only [hf];rcases h1 with h1|⟨T,oT,ts,h1,nT,Te,gT,dT,t3⟩
 .refine aa (bb he hd h1 ?_);rw [if_neg (show ¬ ((bx != bx)=true) by decide)];exact zjG hfr hf st hn hl he hc hdi hd hz h2 k
 .refine aa (bb he hd h1 ?_);rw [if_pos (show (aA T != bx)=true by simp)];refine aa (bb gT dT t3 ?_);by_cases hfl:fl=bZ L
  .subst hfl;rw [if_pos (show (bZ L==bZ L)=true by simp)];exact ar (k s.heap ⟨st,hn,hl,oe,vs,he,hc,hdi,hd,hz,h2,.inr ⟨T,oT,ts,h1,nT,Te,gT,dT,t3⟩⟩ ⟨oe,vs,T,he,hd,h1⟩ (UpToSlots.refl _))
  .rw [if_neg (show ¬ ((fl==bZ L)=true) by simpa using hfl)];refine aa (cI gT dT (bA.mp t3).1 ?_);have oth:∀b,b≠T->(s.heap.update T (iw (·.setIfInBounds 3 bx))).get? b=s.heap.get? b:=λb hb=>br _ _ (aU hb);have notT:∀b o,s.heap.get? b=some o->(∀ws,o.data≠.fields ws)->b≠T:=λb o q nf z=>by
    rw [z,gT] at q;cases q;exact nf ts dT
   refine zjG (B:=B) (cls:=cls) hfr hf (λb o q=>?_) hn (hl.of_keeps λb o q nf=>⟨o,(oth b (notT b o q nf)).trans q,rfl⟩) ((oth e (aU Te)).trans he) hc hdi hd hz h2 λh' y ht up=>k h' y ht λb o q nf=>up b o ((oth b (notT b o q nf)).trans q) nf;exact (oth b λz=>by rw [z,nT] at q;cases q).trans (st b o q)
theorem zqc{Q:Unit->af->Prop}(x:zaH B l e cls fl s.heap)(k:∀h',zaH B l e cls (bZ L) h'->s.heap.UpToSlots h'->Q () { s with heap:=h' }):aH M A (setFlight (.ref e) (some L)) Q E s:=by
 obtain ⟨st,hn,hl,oe,vs,he,hc,hdi,hd,hz,h2,h1⟩:=x;unfold setFlight;rcases h1 with h1|⟨T,oT,ts,h1,nT,Te,gT,dT,t3⟩
 .refine aa (bb he hd h1 ?_);rw [if_neg (show ¬ ((bx != bx)=true) by decide)];exact ar (k s.heap ⟨st,hn,hl,oe,vs,he,hc,hdi,hd,hz,h2,.inl h1⟩ (UpToSlots.refl _))
 .refine aa (bb he hd h1 ?_);rw [if_pos (show (aA T != bx)=true by simp)];have lt3:3<ts.size:=(bA.mp t3).1;have dd:=dZ dT (·.setIfInBounds 3 (bZ L));have oth:∀b,b≠T->(s.heap.update T (iw (·.setIfInBounds 3 (bZ L)))).get? b=s.heap.get? b:=λb hb=>br _ _ (aU hb);have notT:∀b o,s.heap.get? b=some o->(∀ws,o.data≠.fields ws)->b≠T:=λb o q nf z=>by
   rw [z,gT] at q;cases q;exact nf ts dT
  refine cI gT dT lt3 (k _ ⟨λb o q=>(oth b λz=>by rw [z,nT] at q;cases q).trans (st b o q),hn,hl.of_keeps λb o q nf=>⟨o,(oth b (notT b o q nf)).trans q,rfl⟩,oe,vs,(oth e (aU Te)).trans he,hc,hdi,hd,hz,h2,
   .inr ⟨T,_,_,h1,nT,Te,de _ gT (cG dd),dd,?_⟩⟩ λb o q nf=>⟨o.slots,(oth b (notT b o q nf)).trans q⟩)
  rw [bR lt3]
end
def zk7(X:Cx)(Ex:Addr->St->Hp->Prop):Value->af->Prop:=λe s'=>∃(ea C:Addr)(B:Heap)(H':Hp)(fl:Value)(σ:St)(sI:af)(Ga:List (Addr×Obj)),e = .ref ea/\Inv X Ga σ H' sI/\zaH B X.stack ea (.ref C) fl s'.heap /\
 s'.os=sI.os/\eV s'.gens/\(∀b o,sI.heap.get? b=some o->b∉frs X.stack->B.get? b=some o)/\sI.heap.UpToSlots s'.heap/\Ex C σ H'
abbrev cxF(X:Cx)(Ex:Addr->St->Hp->Prop):Cx:=X.wish (zk7 X Ex)
theorem zqZ:zaP (cxF X Ex) Ex:=λps σ H sI ea C B fl s' I y os bare hB up q =>
 ⟨ea,C,B,H,fl,σ,sI,ps,rfl,I.unwish,y,os,bare,hB,up,q⟩
theorem zqg(hst:X.stack=X.env::X.outer)(hfr:X.Ok->X.A.frames=some (X.env::X.outer)){L:Addr}(hL:X.env.frame=some L):dH (aC X.prog X.w) X.A X.env (zk7 X Ex):=by
 rintro e s' ⟨ea,C,B,H',fl,σ,sI,Ga,rfl,I,y,os,bare,hB,up,q⟩;have fr:=hfr I.ok;rw [hst] at y;refine zp4 fr hL y λh1 y1 ht u1=>?_;obtain ⟨oe,vs,T,g1,g2,g3⟩:=ht;refine aa (bb g1 g2 g3 ?_);rw [if_neg (show ¬ ((aA T==bx)=true) by simp)];rw [hL];refine zqc (s:={ s' with heap:=h1 }) y1 λh2 y2 u2=>?_;rw [<- hst] at y2;exact ⟨ea,C,B,H',_,σ,sI,Ga,rfl,I,y2,os,bare,hB,(up.trans u1).trans u2,q⟩
theorem PS.thr{t:TS}(T:zaP X Ex)(h:PS (cxF X Ex) st t):PS X st t:=λGa s σ H D I hw =>
 bu (h Ga s σ H D (I.wish _) hw) (λ_ _ q=>q.unwish) <| by
  rintro e s' ⟨ea,C,B,H',fl,σ',sI,ps,he,I',y,os,bare,hB,up,q⟩;subst he;exact T ps σ' H' sI ea C B fl s' I' y os bare hB up q
theorem zrN{t:TS}(T:zaP X Ex)(h:W (PS (cxF X Ex) st t)):W (PS X st t):=⟨PS.thr T h.h⟩
section
variable {X:Cx}
def zcH:List V->Hp->VK->Prop:=λxs H Q=>zc7 xs H Q\/∃b:Bool,xs=[.bl b]/\Q (.str (if b then "True" else "False")) H
theorem zmW:zK X (.type "str") zcH:=by
 intro Ga s σ H xs us Q I r h;rcases h with h|⟨b,rfl,q⟩
 .exact zrD Ga s σ H xs us Q I r h
 .cases r with
  | cons r1 rr =>
   cases rr;cases (show _=fg b from r1);exact PySem.P.str_of_bool ⟨.str _,H,I.tok _,⟨_,by cases b<;>rfl⟩,q⟩
theorem zp6{Q:VK}:zcH [.int i] H Q=(i.natAbs.log2<1920/\Q (.str (toString i)) H):=by simp [zcH,zlS]
theorem zsO{Q:VK}:zcH [.str z] H Q=Q (.str z) H:=by simp [zcH,zix]
theorem zrH{b:Bool}{Q:VK}:zcH [.bl b] H Q=Q (.str (if b then "True" else "False")) H:=by simp [zcH,zc7,zcU]
end
theorem zoU{elt iter:bw}{ifs:List bw}{sc:Scope}{pos0:Pos}{N':List Str}{ix:List (Option Nat)}{wi:TI}{g:TG}{tt:TT}{i0:Nat}{x0:Str}(hN0:X.N.Nodup)(hi0:X.N[i0]?=some x0)(hx0:Loc X.env.scope x0)(hc:c=true->X.calm=true)(L:zaz X sc N' ix)(hi:PIc c X tg iter wi)
  (hg:∀Ga C fp s H,PG (zE X sc N' Ga C fp s H) tg g) (ht:∀Ga C fp s H,PTs (zE X sc N' Ga C fp s H) ifs tt) (he:∀Ga C fp s H,PE (zE X sc N' Ga C fp s H) elt te)
  (hs:∀x,dB iter X.env x=pure x:=by intro _;rfl) (hsw:swapsWith (.ListComp elt [⟨tg,iter,ifs,0⟩] sc pos) (some (.Name x0 pos')) pos0.line X.env=pure true:=by rfl) (hf0:X.fn x0=true\/X.env.scope.names.lookup x0=some .local:=by first|exact .inl rfl|exact .inr rfl|assumption) :
  PS X (.Assign [.Name x0 pos'] (.ListComp elt [⟨tg,iter,ifs,0⟩] sc pos) pos0) (zef (tLC ix wi g tt te) (zcJ i0)):=by
 intro Ga s σ H Z I h;rw [exec_Assign_Name_used x0 pos' _ pos0 hsw];refine aa (dF (aa ?_));rw [arm_evalThenUse_ListComp];show aH (aC X.prog X.w) X.A (comprehension (.ListComp elt [⟨tg,iter,ifs,0⟩] sc pos) sc X.env (firstIterPos [⟨tg,iter,ifs,0⟩] pos) (newList []) (firstAsync [⟨tg,iter,ifs,0⟩]) (firstIter [⟨tg,iter,ifs,0⟩] X.env) (some (assign (.Name x0 pos') X.env))>>=λ_=>pure ()) _ _ _;refine aa (zkU hc L hi hg ht he hs I h λC D oC H' s5 m5 IX ns tu q=>?_);refine thn (zjp hN0 hi0 hx0 hf0 (Ga++[(C,oC)]) s5 σ H' (.ref D) (.ref D) Z.nx IX rfl q) λ_ s6=>x4e λσ6 H6 I6 q6=>?_;obtain ⟨p6,p6n,_⟩:=I6.pin (C,oC) (aQ _ (aQ _ (ax.mpr rfl)));exact ⟨m5,ns p6,λh' hsb=>ar (ar ⟨σ6,H6,tu (I6.pins_of λp hp=>I6.pin p (aQ _ (bN _ hp))) p6n hsb,q6⟩)⟩
theorem zl8{elt iter:bw}{ifs:List bw}{sc:Scope}{pos0:Pos}{N':List Str}{ix:List (Option Nat)}{wi:TI}{g:TG}{tt:TT}{i0:Nat}{x0:Str}(hN0:X.N.Nodup)(hi0:X.N[i0]?=some x0)(hx0:Loc X.env.scope x0)(hc:c=true->X.calm=true)(L:zaz X sc N' ix)(hi:W (PIc c X tg iter wi))
  (hg:∀Ga C fp s H,W (PG (zE X sc N' Ga C fp s H) tg g)) (ht:∀Ga C fp s H,W (PTs (zE X sc N' Ga C fp s H) ifs tt)) (he:∀Ga C fp s H,W (PE (zE X sc N' Ga C fp s H) elt te))
  (hs:∀x,dB iter X.env x=pure x:=by intro _;rfl) (hsw:swapsWith (.ListComp elt [⟨tg,iter,ifs,0⟩] sc pos) (some (.Name x0 pos')) pos0.line X.env=pure true:=by rfl) (hf0:X.fn x0=true\/X.env.scope.names.lookup x0=some .local:=by first|exact .inl rfl|exact .inr rfl|assumption) :
  W (PS X (.Assign [.Name x0 pos'] (.ListComp elt [⟨tg,iter,ifs,0⟩] sc pos) pos0) (zef (tLC ix wi g tt te) (zcJ i0))) :=
 ⟨zoU hN0 hi0 hx0 hc L hi.h (λa b c d e=>(hg a b c d e).h) (λa b c d e=>(ht a b c d e).h) (λa b c d e=>(he a b c d e).h) hs hsw hf0⟩
section
variable {κ:Type} [DecidableEq κ]
def zU(kvs:List (κ×V))(k:κ):Option V:=(kvs.find? λkv=>decide (kv.1=k)).map (·.2)
def zan(kvs:List (κ×V))(k:κ)(v:V):List (κ×V) :=
 if (kvs.any λkv=>decide (kv.1=k))=true then kvs.map (λkv=>if kv.1=k then (kv.1,v) else kv) else kvs++[(k,v)]
def za7(kvs:List (κ×V))(k:κ):List (κ×V):=kvs.filter λkv=>decide (kv.1≠k)
theorem ze9{p:κ×V}{r:List (κ×V)}{k:κ}(e:p.1=k):zU (p::r) k=some p.2:=by simp [zU,f9,e]
theorem zeR{p:κ×V}{r:List (κ×V)}{k:κ}(e : ¬ p.1=k):zU (p::r) k=zU r k:=by simp [zU,f9,e]
theorem zge(k:κ):∀kvs:List (κ×V),(kvs.any λkv=>decide (kv.1=k))=(zU kvs k).isSome
 | []=>rfl
 | p::r=>by
  rw [hU];by_cases e:p.1=k
  .simp only [ze9 e,decide_eq_true e,Bool.true_or,Option.isSome_some]
  .rw [zeR e,decide_eq_false e,Bool.false_or];exact zge k r
theorem zkt(kvs:List (κ×V))(k:κ)(v:V):(zan kvs k v).length<=kvs.length+1:=by
 unfold zan;split
 .rw [am];lia
 .rw [aG,cq,dJ];lia
theorem zaM.isSome_eq{o:Option V}{u:Option Value}(r:zaM o u):o.isSome=u.isSome:=by
 cases o with
 | none=>cases u with
  | none=>rfl
  | some _=>exact (show False from r).elim
 | some _=>cases u with
  | none=>exact (show False from r).elim
  | some _=>rfl
theorem zaM.getD{o:Option V}{u:Option Value}{d:V}{d':Value}(r:zaM o u)(rd:zm d d'):zm (o.getD d) (u.getD d'):=by
 cases o with
 | none=>cases u with
  | none=>exact rd
  | some _=>exact (show False from r).elim
 | some _=>cases u with
  | none=>exact (show False from r).elim
  | some _=>exact r
theorem KV.val{kvs:List (κ×V)}{vs:List (κ×Value)}(r:KV kvs vs)(k:κ):zaM (zU kvs k) (valueAt vs k):=by
 unfold KV at r
 induction r with
 | nil=>exact True.intro
 | @cons p q ps qs h t ih =>
  obtain ⟨h1,h2⟩:=h;by_cases e:p.1=k
  .have e':q.1=k:=h1.symm.trans e;have b:valueAt (q::qs) k=some q.2:=by simp [valueAt,f9,e']
   rw [ze9 e,b];exact h2
  .have e' : ¬ q.1=k:=λz=>e (h1.trans z);have b:valueAt (q::qs) k=valueAt qs k:=by simp [valueAt,f9,e']
   rw [zeR e,b];exact ih
theorem KV.any{kvs:List (κ×V)}{vs:List (κ×Value)}(r:KV kvs vs)(k:κ):(kvs.any λkv=>decide (kv.1=k))=vs.any λkv=>decide (kv.1=k):=by
 unfold KV at r
 induction r with
 | nil=>rfl
 | cons h t ih=>rw [hU,hU,ih,h.1]
theorem KV.repl{kvs:List (κ×V)}{vs:List (κ×Value)}(r:KV kvs vs)(k:κ)(ry:zm y u) :
  KV (kvs.map λkv=>if kv.1=k then (kv.1,y) else kv) (vs.map λkv=>if kv.1=k then (kv.1,u) else kv):=by
 unfold KV at r ⊢
 induction r with
 | nil=>exact .nil
 | @cons p q ps qs h t ih =>
  rw [bQ,bQ];refine .cons ?_ ih;obtain ⟨h1,h2⟩:=h;by_cases e:p.1=k
  .rw [if_pos e,if_pos (h1.symm.trans e)];exact ⟨h1,ry⟩
  .rw [if_neg e,if_neg (λz=>e (h1.trans z))];exact ⟨h1,h2⟩
theorem KV.put{kvs:List (κ×V)}{vs:List (κ×Value)}(r:KV kvs vs)(k:κ)(ry:zm y u):KV (zan kvs k y) (stored vs k u):=by
 unfold zan stored;rw [r.any k];by_cases e:(vs.any λkv=>decide (kv.1=k))=true
 .rw [if_pos e,if_pos e];exact r.repl k ry
 .rw [if_neg e,if_neg e];exact Paired.snoc r ⟨rfl,ry⟩
theorem KV.drop{kvs:List (κ×V)}{vs:List (κ×Value)}(r:KV kvs vs)(k:κ):KV (za7 kvs k) (without vs k):=by
 unfold KV at r ⊢;unfold za7 without
 induction r with
 | nil=>exact .nil
 | @cons p q ps qs h t ih =>
  obtain ⟨h1,h2⟩:=h;rw [eZ,eZ];by_cases e:p.1=k
  .have a : ¬ decide (p.1≠k)=true:=by simp [e]
   have b : ¬ decide (q.1≠k)=true:=by simp [h1.symm.trans e]
   rw [if_neg a,if_neg b];exact ih
  .have e' : ¬ q.1=k:=λz=>e (h1.trans z);have a:decide (p.1≠k)=true:=by simp [e]
   have b:decide (q.1≠k)=true:=by simp [e']
   rw [if_pos a,if_pos b];exact .cons ⟨h1,h2⟩ ih
theorem KV.length{kvs:List (κ×V)}{vs:List (κ×Value)}(r:KV kvs vs):kvs.length=vs.length:=Paired.length r
theorem zpo(kvs:List (κ×V))(k:κ):(za7 kvs k).length<=kvs.length:=List.length_filter_le _ _
end
theorem zcv{k:Key}(r:zm (kV k) u):(zad P w).is k u=true:=by
 cases k with
 | inl i=>obtain ⟨t,e⟩:=(show ∃t,u=fq i t from r);subst e;exact zm4 P w i t
 | inr x=>obtain ⟨t,e⟩:=(show ∃t,u=iZ x t from r);subst e;exact zeI P w x t
theorem zkf{P:aI}{w:aZ}:∀{ks:List Key}{us:List Value},zk (ks.map kV) us->ItemsAre (zad P w) ks us
 | [],_,r=>by rw [map_nil] at r;cases r;exact .nil
 | k::ks,_,r=>by
  rw [bQ] at r;cases r with
  | cons h t=>exact .cons (zcv h) (zkf t)
abbrev KT(H:Hp):List (List Key×V)->List (List Key×Addr×Value)->Prop:=Paired λp q=>p.1=q.1/\H q.2.1=some (.tup (p.1.map kV))/\zm p.2 q.2.2
theorem KT.val(r:KT H kvs xs)(k:List Key):zaM (zU kvs k) ((atKey xs k).map (·.2)):=by
 induction r with
 | nil=>exact True.intro
 | @cons p q ps qs h t ih =>
  obtain ⟨h1,_,h2⟩:=h;by_cases e:p.1=k
  .have e':q.1=k:=h1.symm.trans e;have b:atKey (q::qs) k=some q.2:=by simp [atKey,f9,e']
   rw [ze9 e,b];exact h2
  .have e' : ¬ q.1=k:=λz=>e (h1.trans z);have b:atKey (q::qs) k=atKey qs k:=by simp [atKey,f9,e']
   rw [zeR e,b];exact ih
theorem KT.repl(r:KT H kvs xs)(k:List Key)(ry:zm y u) :
  KT H (kvs.map λkv=>if kv.1=k then (kv.1,y) else kv) (xs.map (putAt k u)):=by
 induction r with
 | nil=>exact .nil
 | @cons p q ps qs h t ih =>
  rw [bQ,bQ];refine .cons ?_ ih;obtain ⟨h1,h2,h3⟩:=h;unfold putAt;by_cases e:p.1=k
  .rw [if_pos e,if_pos (h1.symm.trans e)];exact ⟨h1,h2,ry⟩
  .rw [if_neg e,if_neg (λz=>e (h1.trans z))];exact ⟨h1,h2,h3⟩
theorem KT.put(r:KT H kvs xs)(k:List Key)(hb:H b=some (.tup (k.map kV)))(ry:zm y u) :
  KT H (zan kvs k y) (storedH xs k b u):=by
 have e:(kvs.any λkv=>decide (kv.1=k))=(atKey xs k).isSome:=by
  rw [zge,(r.val k).isSome_eq,isSome_map]
 unfold zan storedH;rw [e];by_cases q:(atKey xs k).isSome=true
 .rw [if_pos q,if_pos q];exact r.repl k ry
 .rw [if_neg q,if_neg q];exact Paired.snoc r ⟨rfl,hb,ry⟩
theorem KT.keeps(r:KT H kvs xs)(ht:∀b ys,H b=some (.tup ys)->H' b=some (.tup ys)):KT H' kvs xs :=
 Paired.mapP r λ_ _ z=>⟨z.1,ht _ _ z.2.1,z.2.2⟩
section
variable {P:aI}{w:aZ}{H:Hp}{h:Heap}{a:Addr}
theorem zme{u:HO}(ok:HOk P w H h)(e:Rd H a u):zT P w H h a u:=e.ok ok
theorem zcy{kvs:List (Key×V)}(ok:HOk P w H h)(e:Rd H a (.dK kvs)):kvs.length<=sizeLine/\(a==sysModules)=false/\∃vs,KV kvs vs/\h.DictOf (zad P w) a vs :=
 show zT P w H h a (.dK kvs) from zme ok e
theorem zjL{kvs:List (Key×V)}(ok:HOk P w H h)(e:H a=some (.dK kvs)):kvs.length<=sizeLine/\(a==sysModules)=false/\∃vs,KV kvs vs/\h.DictOf (zad P w) a vs:=zcy ok (.inl e)
theorem zc8{ks:List Key}(ok:HOk P w H h)(e:H a=some (.tup (ks.map kV))):(ip (zad P w)).is h ks a:=by
 obtain ⟨_,its,r,o,h1,h2,n,h3⟩:=(show zT P w H h a (.tup (ks.map kV)) from ok a _ e);exact ⟨o,its.toArray,n,h1,h2,h3,by simpa using zkf r⟩
theorem zc0(ok:HOk P w H h)(e:Rd H a (.dT kvs)):kvs.length<=sizeLine/\(a==sysModules)=false /\
  ∃xs,KT H kvs xs/\h.DictOfH (ip (zad P w)) a xs:=by
 obtain ⟨z,y,xs,r,o,es,ep,h1,h2,h3,h4,h5⟩:=(show zT P w H h a (.dT kvs) from zme ok e);refine ⟨z,y,xs,r,o,es,ep,h1,h2,h3,h4,λx hx=>?_,h5⟩;have all:∀{l:List (List Key×V)}{m:List (List Key×Addr×Value)},KT H l m->∀x∈m,(ip (zad P w)).is h x.1 x.2.1:=by
  intro l m q
  induction q with
  | nil=>intro x hx;exact nomatch hx
  | @cons p q ps qs hq t ih =>
   intro x hx;rcases au.mp hx with e|hx
   .subst e;exact zc8 ok (by rw [<- hq.1];exact hq.2.1)
   .exact ih x hx
 exact all r x hx
theorem zpn(ok:HOk P w H h)(e:H a=some (.dT kvs)):kvs.length<=sizeLine/\(a==sysModules)=false /\
  ∃xs,KT H kvs xs/\h.DictOfH (ip (zad P w)) a xs:=zc0 ok (.inl e)
end
def zbW(H:Hp)(a:Addr)(y:V)(r:Option V):Prop :=
 (∃kvs k,Rd H a (.dK kvs)/\y=kV k/\r=zU kvs k)\/∃kvs k b,Rd H a (.dT kvs)/\y = .ref b/\H b=some (.tup (k.map kV))/\r=zU kvs k
def zdE(H:Hp)(a:Addr)(y v:V)(H':Hp):Prop :=
 (∃kvs k,H a=some (.dK kvs)/\y=kV k/\kvs.length<sizeLine/\H'=upd H a (.dK (zan kvs k v))) \/
 ∃kvs k b,H a=some (.dT kvs)/\y = .ref b/\H b=some (.tup (k.map kV))/\kvs.length<sizeLine/\H'=upd H a (.dT (zan kvs k v))
theorem zbW.k{kvs:List (Key×V)}{k:Key}(e:H a=some (.dK kvs)):zbW H a (kV k) (zU kvs k):=.inl ⟨kvs,k,.inl e,rfl,rfl⟩
theorem zbW.t{k:List Key}(e:H a=some (.dT kvs))(eb:H b=some (.tup (k.map kV))):zbW H a (.ref b) (zU kvs k):=.inr ⟨kvs,k,b,.inl e,rfl,eb,rfl⟩
theorem zdE.k{kvs:List (Key×V)}{k:Key}(e:H a=some (.dK kvs))(hl:kvs.length<sizeLine):zdE H a (kV k) v (upd H a (.dK (zan kvs k v))):=.inl ⟨kvs,k,e,rfl,hl,rfl⟩
theorem zdE.t{k:List Key}(e:H a=some (.dT kvs))(eb:H b=some (.tup (k.map kV)))(hl:kvs.length<sizeLine) :
  zdE H a (.ref b) v (upd H a (.dT (zan kvs k v))):=.inr ⟨kvs,k,b,e,rfl,eb,hl,rfl⟩
section
variable {X:Cx}{Ga:List (Addr×Obj)}{σ:St}{H:Hp}{s:af}{a:Addr}{y v:V}{u r:Value}{o:Option V}{A:be}{E:Value->af->Prop}
theorem zmZ(hu:A.units+1<cLine)(I:Inv X Ga σ H s)(g:zbW H a y (some v))(ry:zm y u)(h:∀w' s',Inv X Ga σ H s'->zm v w'->Q w' s') :
  aH (aC X.prog X.w) A (iN (.ref a) u) Q E s:=by
 rcases g with ⟨kvs,k,e,ey,l⟩|⟨kvs,k,b,e,ey,eb,l⟩
 .subst ey;obtain ⟨z,hd,vs,rel,dd⟩:=zcy I.hok e;obtain ⟨w',hw,rw'⟩:=zaM.some_of (v:=v) (o:=valueAt vs k) (by rw [l];exact rel.val k);exact wpAny_getItem_of (zcv ry) dd.mapOf hw (h w' _ (I.tok _) rw')
 .subst ey;cases (show u=aA b from ry);obtain ⟨z,hd,xs,rel,dd⟩:=zc0 I.hok e;obtain ⟨w',hw,rw'⟩:=zaM.some_of (v:=v) (o:=(atKey xs k).map (·.2)) (by rw [l];exact rel.val k);obtain ⟨p,hp,hp2⟩:=bX.mp hw;refine wpAny_getItem_heap (eG hu) (zc8 I.hok eb) dd hp ?_;rw [hp2];exact h w' _ (I.tok _) rw'
theorem zp8(hu:A.units+1<cLine)(I:Inv X Ga σ H s)(g:zbW H a y o)(ry:zm y u)(h:∀s',Inv X Ga σ H s'->Q (.bool o.isSome) s') :
  aH (aC X.prog X.w) A (bG .In u (.ref a)) Q E s:=by
 rcases g with ⟨kvs,k,e,ey,l⟩|⟨kvs,k,b,e,ey,eb,l⟩
 .subst ey;obtain ⟨z,hd,vs,rel,dd⟩:=zcy I.hok e;refine wpAny_in_of (zcv ry) hd dd.mapOf ?_;rw [<- (rel.val k).isSome_eq,<- l];exact h _ (I.tok _)
 .subst ey;cases (show u=aA b from ry);obtain ⟨z,hd,xs,rel,dd⟩:=zc0 I.hok e;refine wpAny_in_heap (eG hu) (zc8 I.hok eb) hd dd ?_;have q:=(rel.val k).isSome_eq;rw [isSome_map] at q;rw [<- q,<- l];exact h _ (I.tok _)
theorem zox(hu:A.units+1<cLine)(I:Inv X Ga σ H s)(g:zbW H a y o)(ry:zm y u)(h:∀s',Inv X Ga σ H s'->Q (.bool (!o.isSome)) s') :
  aH (aC X.prog X.w) A (bG .NotIn u (.ref a)) Q E s:=by
 rcases g with ⟨kvs,k,e,ey,l⟩|⟨kvs,k,b,e,ey,eb,l⟩
 .subst ey;obtain ⟨z,hd,vs,rel,dd⟩:=zcy I.hok e;refine wpAny_notIn_of (zcv ry) hd dd.mapOf ?_;rw [<- (rel.val k).isSome_eq,<- l];exact h _ (I.tok _)
 .subst ey;cases (show u=aA b from ry);obtain ⟨z,hd,xs,rel,dd⟩:=zc0 I.hok e;refine wpAny_notIn_heap (eG hu) (zc8 I.hok eb) hd dd ?_;have q:=(rel.val k).isSome_eq;rw [isSome_map] at q;rw [<- q,<- l];exact h _ (I.tok _)
theorem zhg{t':Nat}{ob:HO}(I:Inv X Ga σ H s)(mu:Mut (H a))(hs:fu a s.heap h')(he:∃q,h'.get? a=some q)(new:zT X.prog X.w (upd H a ob) h' a ob) :
  Inv X Ga σ (upd H a ob) { s with heap:=h',toks:=t' } :=
 I.write (x:=a) (e:=a) mu (.inl rfl) (λb q hb z=>(hs.2 b hb).trans z) he new
theorem zhF{kvs:List (Key×V)}{vs:List (Key×Value)}(z:kvs.length<=sizeLine)(hd:(a==sysModules)=false)(rel:KV kvs vs)(dd:h'.DictOf (zad P w) a vs) :
  zT P w H' h' a (.dK kvs):=⟨z,hd,vs,rel,dd⟩
theorem zrd{Q:Unit->af->Prop}(hu:A.units+1<cLine)(I:Inv X Ga σ H s)(g:zdE H a y v H')(ry:zm y u)(rv:zm v r)(h:∀s',Inv X Ga σ H' s'->Q () s') :
  aH (aC X.prog X.w) A (setItem (.ref a) u r) Q E s:=by
 rcases g with ⟨kvs,k,e,ey,l,eH⟩|⟨kvs,k,b,e,ey,eb,l,eH⟩
 .subst ey eH;obtain ⟨z,hd,vs,rel,dd⟩:=zjL I.hok e;have hz:vs.length<=sizeLine:=by rw [<- rel.length];exact z
  have hl:(zan kvs k v).length<=sizeLine:=by have:=zkt kvs k v;lia
  refine wpAny_setItem_pairs (hsz:=hz) (zcv ry) dd λh' dd' hs=>h _ ?_;have he:∃q,h'.get? a=some q:=let ⟨q,_,_,hq,_⟩:=dd';⟨q,hq⟩;exact zhg I (by rw [e];exact True.intro) hs he (zhF hl hd (rel.put k rv) dd')
 .subst ey eH;cases (show u=aA b from ry);obtain ⟨z,hd,xs,rel,dd⟩:=zpn I.hok e;have hz:xs.length<=sizeLine:=by rw [<- Paired.length rel];exact z
  have hl:(zan kvs k v).length<=sizeLine:=by have:=zkt kvs k v;lia
  refine wpAny_setItem_heap (hsz:=hz) (eG hu) (zc8 I.hok eb) dd λh' dd' hs=>h _ ?_;obtain ⟨q,es,ep,hq,h2,h3,h4,_,h5⟩:=dd';refine zhg I (by rw [e];exact True.intro) hs ⟨q,hq⟩ ⟨hl,hd,_,(rel.put k eb rv).keeps λc ys ec=>?_,q,es,ep,hq,h2,h3,h4,h5⟩;rw [zd (zva ec e (λz=>nomatch z))];exact ec
end
section
variable {X:Cx}{Ga:List (Addr×Obj)}{σ:St}{H:Hp}{s:af}{a:Addr}{kvs:List (Key×V)}{k:Key}{u:Value}{A:be}{E:Value->af->Prop}
theorem zns{Q:Unit->af->Prop}(I:Inv X Ga σ H s)(e:H a=some (.dK kvs))(ry:zm (kV k) u)(l:(zU kvs k).isSome=true)(h:∀s',Inv X Ga σ (upd H a (.dK (za7 kvs k))) s'->Q () s') :
  aH (aC X.prog X.w) A (delItem (.ref a) u) Q E s:=by
 obtain ⟨z,hd,vs,rel,dd⟩:=zjL I.hok e;refine wpAny_delItem_slot dd.typeIs (by decide) hZ
  (iP hZ dd.typeIs PySem.F.entry_dict_delitem (PySem.F.args_dict_delitem_2 _ _) (meets_dict_delitem_pairs (zad X.prog X.w) a (zcv ry)) ⟨vs,dd,by rw [<- rel.length];exact z,by rw [<- (rel.val k).isSome_eq];exact l,λh' dd' hs=>h _ ?_⟩)
 have he:∃q,h'.get? a=some q:=let ⟨q,_,_,hq,_⟩:=dd';⟨q,hq⟩;exact zhg I (by rw [e];exact True.intro) hs he (zhF (aW (zpo kvs k) z) hd (rel.drop k) dd')
end
theorem ziO{o:Option V}(I:Inv X Ga σ H s)(g:zbW H a y o):s.TypeIs (.ref a) "dict":=by
 rcases g with ⟨kvs,k,e,_,_⟩|⟨kvs,k,b,e,_,_,_⟩
 .obtain ⟨_,_,vs,_,dd⟩:=zcy I.hok e;exact dd.typeIs
 .obtain ⟨_,_,xs,_,dd⟩:=zc0 I.hok e;exact dd.typeIs
section
variable {X:Cx}{o i e value:bw}{pos pos' tpos:Pos}{td ty tv:TE}
end
section
variable {X:Cx}{pos:Pos}
end
structure M2(X:Cx)(o:bw)(m:Str)(apos:Pos)(e f:bw)(cpos:Pos):Prop where
 base:cy o m X.env (bV o X.env)=bV o X.env
 few:((dL cpos (aV [e,f] X.env)).all (λx=>!x.1)&&(gF cpos (eB [] X.env)).all (λx=>x.1.isSome)
  && decide (([e,f]:List bw).length+([]:List Keyword).length+(if ([]:List Keyword).isEmpty then 0 else 1)<30))=true
 line:(apos.endLine==cpos.line)=true
 trees:dL cpos (aV [e,f] X.env)=[(false,bV e X.env),(false,bV f X.env)]
def IsD(H:Hp)(a:Addr):Prop:=(∃kvs,Rd H a (.dK kvs))\/∃kvs,Rd H a (.dT kvs)
theorem zpk(I:Inv X Ga σ H s)(d:IsD H a) :
  s.TypeIs (.ref a) "dict"/\(∀b,aA a = .ref b->∃ob,s.heap.get? b=some ob/\ob.dict=none)/\(a==sysModules)=false:=by
 rcases d with ⟨kvs,e⟩|⟨kvs,e⟩
 .obtain ⟨_,hd,vs,_,dd⟩:=zcy I.hok e;refine ⟨dd.typeIs,λb q=>?_,hd⟩;cases q;obtain ⟨ob,_,_,h1,h2,_⟩:=dd;exact ⟨ob,h1,h2.2.1⟩
 .obtain ⟨_,hd,xs,_,dd⟩:=zc0 I.hok e;refine ⟨dd.typeIs,λb q=>?_,hd⟩;cases q;obtain ⟨ob,_,_,h1,h2,_⟩:=dd;exact ⟨ob,h1,h2.2.1⟩
section
variable {X:Cx}{Ga:List (Addr×Obj)}{σ:St}{H:Hp}{s:af}{a:Addr}{y d:V}{u r:Value}{o:Option V}{A:be}{E:Value->af->Prop}
theorem zor(hu:A.units+1<cLine)(I:Inv X Ga σ H s)(g:zbW H a y o)(ry:zm y u)(rd:zm d r)(h:∀w' s',Inv X Ga σ H s'->zm (o.getD d) w'->Q w' s') :
  aH (aC X.prog X.w) A (call (.builtin "dict.get") [.ref a,u,r]) Q E s:=by
 rcases g with ⟨kvs,k,e,ey,l⟩|⟨kvs,k,b,e,ey,eb,l⟩
 .subst ey;obtain ⟨z,hd,vs,rel,dd⟩:=zcy I.hok e;refine iP gq dd.typeIs entry_dict_get (iD _ _ _) (meets_dict_get_default (zad X.prog X.w) a (zcv ry) hd r) ⟨_,dd.mapOf,h _ _ (I.tok _) ?_⟩;rw [l];exact (rel.val k).getD rd
 .subst ey;cases (show u=aA b from ry);obtain ⟨z,hd,xs,rel,dd⟩:=zc0 I.hok e;refine iP gq dd.typeIs entry_dict_get (iD _ _ _) (meetsH_dict_get_default (ip (zad X.prog X.w)) a b hd r) ⟨eG hu,k,xs,zc8 I.hok eb,dd,h _ _ (I.tok _) ?_⟩;rw [l];exact (rel.val k).getD rd
end
section
variable {X:Cx}{o e f:bw}{apos cpos:Pos}{td ty tx:TE}
end
section
variable {X:Cx}{Ga:List (Addr×Obj)}{σ:St}{H:Hp}{s:af}{a:Addr}{kvs:List (Key×V)}{A:be}{E:Value->af->Prop}
theorem zrp(I:Inv X Ga σ H s)(e:Rd H a (.dK kvs))(h:∀p s',H p=none->Inv X Ga σ (upd H p (.dK kvs)) s'->Q (.ref p) s'):aH (aC X.prog X.w) A (call (.type "dict") [.ref a]) Q E s:=by
 obtain ⟨z,hd,vs,rel,dd⟩:=zcy I.hok e;refine kt_call_dict hd dd (by rw [<- rel.length];exact z) λh' dd' hs=>?_;refine h _ _ (I.hok.fresh (ae _)) (I.laid (a:=s.heap.objs.size) (o:=.dK kvs) (t':=s.toks) (λb q hq=>?_) (ae _) (zhF z (beq_eq_false_iff_ne.mpr (aU (bC I.big))) rel dd'));exact (hs.2 b (bC (aP hq))).trans (ad _ hq)
end
section
variable {X:Cx}{Ga:List (Addr×Obj)}{σ:St}{H:Hp}{s:af}{a:Addr}{y:V}{u:Value}{A:be}{E:Value->af->Prop}
end
section
variable {X:Cx}
end
section
variable {κ:Type} [DecidableEq κ]
theorem znl{p:κ×V}{r:List (κ×V)}{k:κ}(e:p.1=k):za7 (p::r) k=za7 r k:=by
 unfold za7;rw [eZ,if_neg (by simp [e])]
theorem zsJ{p:κ×V}{r:List (κ×V)}{k:κ}(e : ¬ p.1=k):za7 (p::r) k=p::za7 r k:=by
 unfold za7;rw [eZ,if_pos (by simp [e])]
end
section
variable {X:Cx}{Ga:List (Addr×Obj)}{σ:St}{H:Hp}{s:af}{a:Addr}{o:Obj}{kvs:List (Key×V)}
end
theorem KV.at{kvs:List (Key×V)}{vs:List (Key×Value)}(r:KV kvs vs):∀{i:Nat}{p:Key×V},kvs[i]?=some p->∃u,vs[i]?=some (p.1,u)/\zm p.2 u:=by
 induction r with
 | nil=>intro i p h;simp at h
 | @cons x y l m r t ih =>
  intro i p h;cases i with
  | zero =>
   have e:x=p:=by simpa using h
   subst e;exact ⟨y.2,by rw [r.1];rfl,r.2⟩
  | succ i=>exact ih (by simpa using h)
section
variable {X:Cx}{tg:bw}
end
def uK(y:V)(q:Key->Prop):Prop:=∃k,y=kV k/\q k
theorem zpg{q:Key->Prop}:uK (.str z) q=q (.inr z):=by
 apply propext;constructor
 .rintro ⟨k,e,h⟩;cases k with
  | inl i=>cases e
  | inr x=>cases e;exact h
 .exact λh=>⟨.inr z,rfl,h⟩
theorem zth{q:Key->Prop}:uK (.int i) q=q (.inl i):=by
 apply propext;constructor
 .rintro ⟨k,e,h⟩;cases k with
  | inl i=>cases e;exact h
  | inr x=>cases e
 .exact λh=>⟨.inl i,rfl,h⟩
section
variable {X:Cx}
def zfI:R2:=λx y H Q=>∃a k kvs v,x = .ref a/\y=kV k/\Rd H a (.dK kvs)/\zU kvs k=some v/\Q v H
theorem zuQ(hu:X.A.units+1<cLine):IxR X zfI:=by
 intro value slice Ga s σ H x y v u Q I rx ry h hs;obtain ⟨a,k,kvs,z,rfl,rfl,hq,he,q⟩:=h;obtain rfl:v=aA a:=rx;have g:zbW H a (kV k) (some z):=.inl ⟨kvs,k,hq,rfl,he.symm⟩;unfold subscriptTail;refine aa ?_;rw [getitemInPython_of_ne (ziO I g).not_modules];refine aa (wpAny_specialOf (ziO I g) PySem.F.slot_dict_getitem.lookup ?_);have fin:aH (aC X.prog X.w) X.A (subscripted slice false (.ref a) u) (λr s₃=>aH (aC X.prog X.w) X.A (letTemporaryGo value (.ref a) r>>=λ_=>pure r) (EP X Ga σ Q) X.xe s₃) X.xe s:=by
  rw [hs];exact wpAny_operating (zmZ hu I g ry λw' s3 I3 rw'=>aa (wpAny_letTemporaryGo (ar ⟨z,H,I3,rw',q⟩)))
 first
  | exact ar (aa fin)
  | exact aa (ar (aa fin))
  | exact aa fin
def ze3(c:Bool):R2:=λy x H Q=>∃a k kvs,x = .ref a/\y=kV k/\Rd H a (.dK kvs)/\Q (.bl (if c then !(zU kvs k).isSome else (zU kvs k).isSome)) H
theorem zuU(hu:X.A.units+1<cLine):OpR X (bG .In) (ze3 false):=by
 intro Ga s σ H x y v u Q I rx ry h;obtain ⟨a,k,kvs,rfl,rfl,hq,q⟩:=h;obtain rfl:u=aA a:=ry;exact zp8 hu I (.inl ⟨kvs,k,hq,rfl,rfl⟩) rx λs3 I3=>⟨.bl (zU kvs k).isSome,H,I3,rfl,q⟩
theorem zpT(hu:X.A.units+1<cLine):OpR X (bG .NotIn) (ze3 true):=by
 intro Ga s σ H x y v u Q I rx ry h;obtain ⟨a,k,kvs,rfl,rfl,hq,q⟩:=h;obtain rfl:u=aA a:=ry;exact zox hu I (.inl ⟨kvs,k,hq,rfl,rfl⟩) rx λs3 I3=>⟨.bl (!(zU kvs k).isSome),H,I3,rfl,q⟩
theorem zoz{p:Addr}{Q:VK}:ze3 c (.str x) (.ref p) H Q = ∃kvs,Rd H p (.dK kvs)/\Q (.bl (if c then !(zU kvs (.inr x)).isSome else (zU kvs (.inr x)).isSome)) H:=by
 apply propext;constructor
 .rintro ⟨a,k,kvs,e1,e2,h,q⟩;cases e1;cases k with
  | inl i=>cases e2
  | inr x=>cases e2;exact ⟨kvs,h,q⟩
 .rintro ⟨kvs,h,q⟩;exact ⟨p,.inr x,kvs,rfl,rfl,h,q⟩
def ze7:V->V->V->Hp->(Hp->Prop)->Prop:=λo i v H Q=>zh4 o i v H Q\/∃a k kvs,o = .ref a/\i=kV k/\H a=some (.dK kvs)/\kvs.length<sizeLine/\Q (upd H a (.dK (zan kvs k v)))
theorem zgr(hu:X.A.units+1<cLine):zhM X ze7:=by
 intro Ga s σ H o i v ov iv u Q I ro ri rv h;rcases h with h|⟨a,k,kvs,rfl,rfl,e,l,q⟩
 .exact zdM Ga s σ H o i v ov iv u Q I ro ri rv h
 .obtain rfl:ov=aA a:=ro;exact zrd hu I (.inl ⟨kvs,k,e,rfl,l,rfl⟩) ri rv λs' I'=>⟨_,I',q⟩
theorem zoa{Q:Hp->Prop}:ze7 (.ref a) (.str z) v H Q = ∃kvs,H a=some (.dK kvs)/\kvs.length<sizeLine/\Q (upd H a (.dK (zan kvs (.inr z) v))):=by
 apply propext;constructor
 .rintro (⟨_,_,_,_,_,e,_⟩|⟨a',k,kvs,e1,e2,h,l,q⟩)
  .cases e
  .cases e1;cases k with
   | inl i=>cases e2
   | inr x=>cases e2;exact ⟨kvs,h,l,q⟩
 .rintro ⟨kvs,h,l,q⟩;exact .inr ⟨a,.inr z,kvs,rfl,rfl,h,l,q⟩
theorem ztR{Q:Hp->Prop}:ze7 (.ref a) (.int i) v H Q=((∃xs j,H a=some (.lst xs)/\ixN xs.length i=some j/\Q (upd H a (.lst (xs.set j v))))\/∃kvs,H a=some (.dK kvs)/\kvs.length<sizeLine/\Q (upd H a (.dK (zan kvs (.inl i) v)))):=by
 apply propext;unfold ze7;rw [zf9];constructor
 .rintro (h|⟨a',k,kvs,e1,e2,h,l,q⟩)
  .exact .inl h
  .cases e1;cases k with
   | inl i=>cases e2;exact .inr ⟨kvs,h,l,q⟩
   | inr x=>cases e2
 .rintro (h|⟨kvs,h,l,q⟩)
  .exact .inl h
  .exact .inr ⟨a,.inl i,kvs,rfl,rfl,h,l,q⟩
def zlg(td ty:TE):TS:=λD σ H=>td σ H λx H1=>ty σ H1 λy H2=>uR x λa=>uK y λk=>∃kvs,H2 a=some (.dK kvs)/\(zU kvs k).isSome=true/\D.nx σ (upd H2 a (.dK (za7 kvs k)))
theorem zpQ{i:bw}{tpos:Pos}(ho:W (PE X o td))(hi:W (PE X i ty)):W (PS X (.Delete [.Subscript o i tpos] pos) (zlg td ty)):=by
 refine ⟨?_⟩;have ho:=ho.h;have hi:=hi.h;intro Ga s σ H D I h;refine wpAny_Delete (wpAny_deleteEach_cons (wpAny_delete_Subscript (thn (ho Ga s σ H _ I h) λu s1=>x5e λx H1 I1 rx q1=>thn (hi Ga s1 σ H1 _ I1 q1) λiv s2=>x5e λy H2 I2 ry zz1=>?_)));obtain ⟨a,ex,k,ey,kvs,e,l,q2⟩:=zz1;subst ex ey;obtain rfl:u=aA a:=rx;exact zns I2 e ry l λs3 I3=>wpAny_deleteEach_nil ⟨σ,_,I3,q2⟩
theorem zpx:zlg td ty D σ H=td σ H λx H1=>ty σ H1 λy H2=>uR x λa=>uK y λk=>∃kvs,H2 a=some (.dK kvs)/\(zU kvs k).isSome=true/\D.nx σ (upd H2 a (.dK (za7 kvs k))):=rfl
def zkH(td ty tx:TE):TE:=λσ H Q=>td σ H λx H1=>uR x λa=>(∃kvs,Rd H1 a (.dK kvs))/\ty σ H1 λy H2=>tx σ H2 λz H3=>uK y λk=>∃kvs,Rd H3 a (.dK kvs)/\Q ((zU kvs k).getD z) H3
theorem zvp{tx:TE}{Q:VK}:zkH td ty tx σ H Q=td σ H λx H1=>uR x λa=>(∃kvs,Rd H1 a (.dK kvs))/\ty σ H1 λy H2=>tx σ H2 λz H3=>uK y λk=>∃kvs,Rd H3 a (.dK kvs)/\Q ((zU kvs k).getD z) H3:=rfl
theorem zjF{f:bw}{tx:TE}(hu:X.A.units+1<cLine)(ho:W (PE X o td))(he:W (PE X e ty))(hf:W (PE X f tx))(m:M2 X o "get" apos e f cpos:=by exact ⟨rfl,rfl,rfl,rfl⟩):W (PE X (.Call (.Attribute o "get" apos) [e,f] [] cpos) (zkH td ty tx)):=by
 refine ⟨?_⟩;have ho:=ho.h;have he:=he.h;have hf:=hf.h;intro Ga s σ H Q I h;refine wpAny_Call_method m.base m.few m.line iz gq PySem.F.type_dict_get (thn (ho Ga s σ H _ I h) λu s1=>x5e λx H1 I1 rx zz2=>?_);obtain ⟨a,ex,d,q1⟩:=zz2;subst ex;obtain rfl:u=aA a:=rx;obtain ⟨t1,t2,_⟩:=zpk I1 (.inl d);refine ⟨t1,t2,?_⟩;rw [m.trees];refine Calls.callWith_builtin rfl (Calls.evalArgs_plain (Calls.spliced_cons (thn (he Ga s1 σ H1 _ I1 q1) λiv s2=>x5e λy H2 I2 ry q2 =>
  Calls.spliced_cons (thn (hf Ga s2 σ H2 _ I2 q2) λfv s3=>x5e λz H3 I3 rz zz3=>Calls.spliced_nil ?_))))
 obtain ⟨k,ey,kvs,g,q3⟩:=zz3;subst ey;exact zor hu I3 (.inl ⟨kvs,k,g,rfl,rfl⟩) ry rz λw' s4 I4 rw'=>⟨_,H3,I4,rw',q3⟩
end
end L2
namespace L2
open PySem PySem.Spec PyProof.Rows PySem.W PySem.Calls
open Classical in
section
variable {X:Cx}
def zj1:List V->Hp->VK->Prop:=λxs H Q=>uR1 xs λa=>∃kvs,Rd H a (.dK kvs)/\∀p H2,New H p (.dK kvs) H2->Q (.ref p) H2
theorem zt1{a:Addr}{H:Hp}{Q:VK}:zj1 [.ref a] H Q = ∃kvs,Rd H a (.dK kvs)/\∀p H2,New H p (.dK kvs) H2->Q (.ref p) H2:=zdV
theorem zmN:zK X (.type "dict") zj1:=by
 intro Ga s σ H xs us Q I r h;obtain ⟨a,rfl,kvs,ha,q⟩:=h;obtain ⟨u,rfl,ru⟩:=zby r;cases ru;exact zrp I ha λp s' hn I'=>⟨.ref p,_,I',rfl,q _ _ (.mk' hn)⟩
def sk(kvs:List (Str×V)):List (Key×V):=kvs.map λp=>(.inr p.1,p.2)
theorem zk8:∀{xs:List V}{us:List Value},xs.length=us.length->(∀(j:Nat)(u:Value),us[j]?=some u->∃x,xs[j]?=some x/\zm x u)->zk xs us
 | [],[],_,_=>.nil
 | [],_::_,h,_=>absurd h (by simp)
 | _::_,[],h,_=>absurd h (by simp)
 | x::xs,u::us,h,f=>by
  obtain ⟨y,e,r⟩:=f 0 u rfl;cases e;exact .cons r (zk8 (by simpa using h) λj w hw=>f (j+1) w hw)
end
end L2
namespace HT
open PySem PySem.Spec PyProof.Rows PySem.Calls
section
variable {prog:aI}{w:aZ}{A:be}{E:Value->af->Prop}{s:af}
theorem getItem_tuple_whole{t sl:Addr}{items:Array Value}{vl vu:Value}{lo hi:Option Int}{Q:Value->af->Prop}(ht:iF s.heap t items)(hs:s.heap.IsSliceOf sl vl vu .none)(pl:hV vl lo)(pu:hV vu hi)
  (h0:sIx items.size 0 lo=0) (h1:sIx items.size items.size hi=items.size)
  (h:Q (.ref t) s):aH (aC prog w) A (iN (.ref t) (.ref sl)) Q E s:=by
 obtain ⟨os,hos,hcs,hds⟩:=id hs;have hTs:s.TypeIs (.ref sl) "slice":=⟨os,hos,hcs⟩;unfold iN
 try with_reducible refine bE ?_
 first|refine aa (ar ?_)|skip
 refine aa (wpAny_sequenceKey ht.typeIs (by decide) ?_);refine aa (bO (name:=aj "__getitem__") ht.typeIs bW
  (cT bW ht.typeIs entry_tuple_getitem ?_ (args_tuple_getitem _ _)))
 show aH _ _ (aN.Tuple.tupleItemsOf (.ref t)>>=_) _ _ s;refine aa (tupleItemsOf_ ht ?_);refine aa (iG hTs ?_);rw [if_pos (by decide)];refine aa (zk2 hs pl pu ?_);have hyes:(((sIx items.size 0 lo:Nat):Int)==0&&(1:Int)==1&&(sIx items.size items.size hi-sIx items.size 0 lo)==items.size)=true:=by
  rw [h0,h1];simp
 show aH _ _ (if (((sIx items.size 0 lo:Nat):Int)==0&&(1:Int)==1&&(sIx items.size items.size hi-sIx items.size 0 lo)==items.size)=true then _ else _) _ _ s;rw [if_pos hyes];have hex:∀{R:Bool->af->Prop}{A':be}{E':Value->af->Prop},R true s->aH (aC prog w) A' (aN.Tuple.tupleIsExact (.ref t)) R E' s:=λ{R A' E'} hr=>by
  unfold aN.Tuple.tupleIsExact
  first
   | exact aa (iG ht.typeIs (ar hr))
   | exact wpAny_map (iG ht.typeIs hr)
 refine aa (hex ?_)
 first
  | exact aa (cB (aa (ar (ar ⟨_,rfl,ar h⟩))))
  | exact aa (cB (ar ⟨_,rfl,ar h⟩))
  | exact aa (cB (aa (ar ⟨_,rfl,ar h⟩)))
end
end HT
namespace L2
open PySem PySem.Spec PyProof.Rows PySem.W PySem.Calls
variable{H:Hp}{Q:VK}
section
variable {X:Cx}
def zeh:V->Option Int->Option Int->Hp->VK->Prop:=λx lo hi H Q=>uSl x lo hi H Q\/∃a xs,x = .ref a/\H a=some (.tup xs)/\∀p H2,ze H H2->H2 p=some (.tup (zaw xs lo hi))->Q (.ref p) H2
theorem zf0:SlR X zeh:=by
 intro Ga s σ H x v vl vu lo hi sl Q I rx hs pl pu h;rcases h with h|⟨a,xs,rfl,hx,q⟩
 .exact zcg Ga s σ H x v vl vu lo hi sl Q I rx hs pl pu h
 .by_cases hw:HT.sIx xs.length 0 lo=0/\HT.sIx xs.length xs.length hi=xs.length
  .cases rx;obtain ⟨its,r,ht,hz⟩:=I.tuple (SqT.of hx);have hlen:its.toArray.size=xs.length:=by rw [aJ];exact r.length.symm
   refine ⟨"tuple",_,bW.lookup,ht.typeIs,?_⟩;refine HT.getItem_tuple_whole ht hs pl pu (by rw [hlen];exact hw.1) (by rw [hlen];exact hw.2) ⟨.ref a,H,I,rfl,q a H (ze.refl _) ?_⟩;rw [hx];unfold zaw;rw [hw.1,hw.2];simp
  .exact zsZ Ga s σ H _ v vl vu lo hi sl Q I rx hs pl pu ⟨a,xs,rfl,SqT.of hx,hw,λp hp=>q p _ (New.mk' (o:=.tup (zaw xs lo hi)) hp).same zu⟩
theorem zoS{z:Str}{lo hi:Option Int}:zeh (.str z) lo hi H Q=(z.length<=sizeLine/\Q (.str (Txt.slice z lo hi)) H):=by simp [zeh,zmo]
theorem zrg{a:Addr}{lo hi:Option Int}:zeh (.ref a) lo hi H Q=((∃xs,H a=some (.lst xs)/\∀p H2,New H p (.lst (zaw xs lo hi)) H2->Q (.ref p) H2)\/∃xs,H a=some (.tup xs)/\∀p H2,ze H H2->H2 p=some (.tup (zaw xs lo hi))->Q (.ref p) H2):=by
 unfold zeh;rw [zmP];apply propext;constructor
 .rintro (h|⟨a',xs,e,h⟩)
  .exact .inl h
  .cases e;exact .inr ⟨xs,h⟩
 .rintro (h|⟨xs,h⟩)
  .exact .inl h
  .exact .inr ⟨a,xs,rfl,h⟩
def zdK:R2:=λx y H Q=>∃a b xs ys,x = .ref a/\y = .ref b/\H a=some (.tup xs)/\H b=some (.tup ys)/\xs.length+ys.length<=sizeLine/\∀p H2,ze H H2->H2 p=some (.tup (xs++ys))->Q (.ref p) H2
theorem zm6:OpR X (da .Add) zdK:=by
 intro Ga s σ H x y v u Q I rx ry h;obtain ⟨a,b,xs,ys,rfl,rfl,ha,hb,hz,q⟩:=h;by_cases hx:xs=[]
 .cases rx;cases ry;obtain ⟨its,r1,p1,_⟩:=I.tuple (SqT.of ha);obtain ⟨its2,r2,p2,_⟩:=I.tuple (SqT.of hb);obtain ⟨⟨cls,dd,data,sl⟩,ho,hc,n,hd⟩:=id p1;obtain ⟨⟨cls2,dd2,data2,sl2⟩,ho2,hc2,n2,hd2⟩:=id p2;simp only at hc hd hc2 hd2;subst hc hd hc2 hd2;have hi:its=[]:=r1.nil_iff.mpr hx;exact concat_meets ⟨_,ho,rfl⟩ ⟨_,ho2,rfl⟩ noFill_tuple_add seq_tuple_add slot_tuple_add entry_tuple_add (args_tuple_add_2 _ _)
   (tuple_addW0 a b its.toArray its2.toArray n n2 dd dd2 sl sl2 (by simp [hi])) ⟨ho,ho2,⟨.ref b,H,I,rfl,q b H (ze.refl _) (by rw [hb,hx];rfl)⟩⟩
 .exact zpz Ga s σ H _ _ v u Q I rx ry ⟨a,b,xs,ys,rfl,rfl,SqT.of ha,SqT.of hb,hx,hz,λe=>q a H (ze.refl _) (by rw [ha,e,cw]),λ_ p hp=>q p _ (New.mk' (o:=.tup (xs++ys)) hp).same zu⟩
def zcN:R2:=λx y H Q=>zbM x y H Q\/zdK x y H Q
theorem zfD:OpR X (da .Add) zcN:=zka.or zm6
theorem zoc{i j:Int}:zcN (.int i) (.int j) H Q=Q (.int (i+j)) H:=by simp [zcN,zdK,zbM]
theorem zqn{i j:Str}:zcN (.str i) (.str j) H Q=(i.length+j.length<=sizeLine/\Q (.str (i++j)) H):=by simp [zcN,zdK,zbM]
theorem zr1{a b:Addr}:zcN (.ref a) (.ref b) H Q=((∃xs zs,H a=some (.lst xs)/\H b=some (.lst zs)/\xs.length+zs.length<=sizeLine/\∀p H2,New H p (.lst (xs++zs)) H2->Q (.ref p) H2) \/
  ∃xs ys,H a=some (.tup xs)/\H b=some (.tup ys)/\xs.length+ys.length<=sizeLine/\∀p H2,ze H H2->H2 p=some (.tup (xs++ys))->Q (.ref p) H2):=by
 unfold zcN;rw [zgF];apply propext;constructor
 .rintro (h|⟨a',b',xs,ys,e1,e2,h⟩)
  .exact .inl h
  .cases e1;cases e2;exact .inr ⟨xs,ys,h⟩
 .rintro (h|⟨xs,ys,h⟩)
  .exact .inl h
  .exact .inr ⟨a,b,xs,ys,rfl,rfl,h⟩
def zmF:TS:=λ_ _ _=>False
theorem zdf{st:Stmt}:W (PS X st zmF):=⟨λ_ _ _ _ _ _ h=>h.elim⟩
def zmr(to te:TE):TE:=λσ H Q=>to σ H λx H1=>uR x λl=>(∃xs,H1 l=some (.lst xs))/\te σ H1 λy H2=>uR y λb=>∃xs zs,H2 l=some (.lst xs)/\H2 b=some (.lst zs)/\xs.length+zs.length<=sizeLine/\Q .non (upd H2 l (.lst (xs++zs)))
theorem zuk{to te:TE}{σ:St}:zmr to te σ H Q=to σ H λx H1=>uR x λl=>(∃xs,H1 l=some (.lst xs))/\te σ H1 λy H2=>uR y λb=>∃xs zs,H2 l=some (.lst xs)/\H2 b=some (.lst zs)/\xs.length+zs.length<=sizeLine/\Q .non (upd H2 l (.lst (xs++zs))):=rfl
theorem zo1{o e:bw}{to te:TE}{apos cpos:Pos}(ho:W (PE X o to))(he:W (PE X e te))
  (hbase:cy o "extend" X.env (bV o X.env)=bV o X.env:=by rfl)
  (hline:(apos.endLine==cpos.line)=true:=by rfl) (hp:zX e=true:=by rfl):W (PE X (.Call (.Attribute o "extend" apos) [e] [] cpos) (zmr to te)):=by
 refine ⟨?_⟩;have ho:=ho.h;have he:=he.h;intro Ga s σ H Q I h;have hs:aV [e] X.env=[(false,bV e X.env)]:=zbx hp;refine cX hbase (by rw [hs];rfl) hline rfl (thn (ho Ga s σ H _ I h) λv s1=>x5e λx H1 I1 r1 zz1=>?_);obtain ⟨l,ex,⟨xs,hx⟩,q1⟩:=zz1;subst ex;obtain ⟨h1,h2⟩:=zdm (T:="list") I1 r1 (.inl ⟨rfl,xs,SqL.of hx⟩);refine ⟨"list","list.extend",gM,PySem.F.slot_list_extend,PySem.F.type_list_extend,h1,h2,?_⟩;rw [hs];refine Calls.callWith_builtin rfl (Calls.evalArgs_plain ?_);refine Calls.spliced_cons (thn (he Ga s1 σ H1 _ I1 q1) λu s2=>x5e λy H2 I2 r2 zz2=>Calls.spliced_nil ?_);obtain ⟨b,ey,xs',zs,hl,hb,hz,q⟩:=zz2;subst ey;exact zuy Ga s2 σ H2 (.ref l) [.ref b] v [u] Q I2 r1 (.cons r2 .nil) ⟨l,b,xs',zs,rfl,rfl,hl,hb,hz,q⟩
end
section
variable {K:ag}{g:TG}{tb:TS}{D:zaG}{σ:St}{H:Hp}{tl:TE}{R:It->Hp->Prop}{tt:TT}{te:TE}{Q:VK}{a:Addr}{o:Obj}{kvs:List (Key×V)}
end
end L2
namespace L2
open PySem PySem.Spec PyProof.Rows
variable{m:Str}{kvs:List (Str×V)}{H:Hp}{Q:VK}{X:Cx}
section
variable {X:Cx}
end
section
variable {α β:Type}
def look(t:List (Str×α))(n:Str):Option α:=(t.find? λp=>decide (p.1=n)).map (·.2)
def zaL(t:List (Str×α))(n:Str)(a:α):List (Str×α):=if (look t n).isSome then t.map λp=>if p.1=n then (p.1,a) else p else t++[(n,a)]
def zaj(t:List (Str×α))(n:Str):List (Str×α):=t.filter λp=>!decide (p.1=n)
def names(t:List (Str×α)):List Str:=t.map (·.1)
theorem zlC{n:Str}:look ([]:List (Str×α)) n=none:=rfl
theorem zbd{p:Str×α}{t:List (Str×α)}{n:Str}:look (p::t) n=if p.1=n then some p.2 else look t n:=by
 unfold look;by_cases h:p.1=n
 .rw [List.find?_cons_of_pos (by simpa using h),if_pos h];rfl
 .rw [List.find?_cons_of_neg (by simpa using h),if_neg h]
theorem zd6{t:List (Str×α)}{n:Str}:look t n=none↔n∉names t:=by
 induction t with
 | nil=>simp [look,names]
 | cons p t ih =>
  rw [zbd];by_cases e:p.1=n
  .rw [if_pos e];simp [names,e]
  .rw [if_neg e,ih];simp [names];exact λ_=>λh=>e h.symm
theorem zuN{t:List (Str×α)}{n:Str}{a:α}:names (zaL t n a)=if (look t n).isSome then names t else names t++[n]:=by
 unfold zaL names;by_cases h:(look t n).isSome
 .rw [if_pos h,if_pos h,bU];refine dX λp _=>?_;show (if p.1=n then (p.1,a) else p).1=p.1;split<;>rfl
 .rw [if_neg h,if_neg h,cr];rfl
theorem zgj{t:List (Str×α)}{n:Str}{a:α}(nd:(names t).Nodup):(names (zaL t n a)).Nodup:=by
 rw [zuN];by_cases h:(look t n).isSome
 .rw [if_pos h];exact nd
 .rw [if_neg h];have:look t n=none:=by simpa using h
  rw [zd6] at this;rw [fQ];refine ⟨nd,by simp,λx hx y hy e=>?_⟩;have:y=n:=by simpa using hy
  subst this;subst e;contradiction
theorem zpA{t:List (Str×α)}{n:Str}(nd:(names t).Nodup):(names (zaj t n)).Nodup:=by
 unfold names zaj;exact nd.sublist (Sublist.map _ List.filter_sublist)
theorem zvH{t:List (Str×α)}{n:Str}{a:α}:look (t.map λp=>if p.1=n then (p.1,a) else p) m=if m=n then (if (look t n).isSome then some a else none) else look t m:=by
 induction t with
 | nil=>by_cases h:m=n<;>simp [look,h]
 | cons p t ih =>
  rw [bQ,zbd,ih,zbd,zbd];by_cases e:p.1=n
  .rw [if_pos e,if_pos e];show (if p.1=m then some a else _)=_;by_cases h:m=n
   .rw [if_pos (by rw [e,h]),if_pos h];rfl
   .rw [if_neg (λz=>h (by rw [<- z,e])),if_neg h,if_neg h,if_neg (λz=>h (by rw [<- z,e]))]
  .rw [if_neg e,if_neg e];by_cases h:m=n
   .rw [if_pos h,if_pos h,if_neg (λz=>e (by rw [z,h]))]
   .rw [if_neg h,if_neg h]
theorem zvh{t u:List (Str×α)}:look (t++u) m=(look t m).or (look u m):=by
 induction t with
 | nil=>simp [zlC]
 | cons p t ih =>
  rw [cons_append,zbd,zbd,ih];by_cases h:p.1=m
  .rw [if_pos h,if_pos h];rfl
  .rw [if_neg h,if_neg h]
theorem zoH{t:List (Str×α)}{n:Str}{a:α}:look (zaL t n a) m=if m=n then some a else look t m:=by
 unfold zaL;by_cases h:(look t n).isSome
 .rw [if_pos h,zvH,if_pos h]
 .rw [if_neg h,zvh,zbd];have hn:look t n=none:=by simpa using h
  by_cases e:m=n
  .rw [if_pos e,e,hn,if_pos rfl];rfl
  .rw [if_neg e,if_neg (λz=>e z.symm),zlC,Option.or_none]
theorem zjE{t:List (Str×α)}{n:Str}:look (zaj t n) m=if m=n then none else look t m:=by
 induction t with
 | nil=>by_cases h:m=n<;>simp [look,zaj,h]
 | cons p t ih =>
  by_cases e:p.1=n
  .have:zaj (p::t) n=zaj t n:=by unfold zaj;rw [eA (by simpa using e)]
   rw [this,ih,zbd];by_cases h:m=n
   .rw [if_pos h,if_pos h]
   .rw [if_neg h,if_neg h,if_neg (λz=>h (by rw [<- z,e]))]
  .have:zaj (p::t) n=p::zaj t n:=by unfold zaj;rw [d9 (by simpa using e)]
   rw [this,zbd,zbd,ih];by_cases h:m=n
   .rw [if_pos h,if_pos h,if_neg (λz=>e (by rw [z,h]))]
   .rw [if_neg h,if_neg h]
def zdT(t u:List (Str×α)):Prop:=∀n,look t n=look u n
theorem zdT.drop{t u:List (Str×α)}(h:zdT t u)(n:Str):zdT (zaj t n) (zaj u n):=λm=>by rw [zjE,zjE,h m]
theorem zdT.names{t u:List (Str×α)}(h:zdT t u)(ht:(names t).Nodup)(hu:(L2.names u).Nodup):(L2.names t).Perm (L2.names u):=by
 refine (List.perm_ext_iff_of_nodup ht hu).mpr λn=>?_;have h1:=h n;constructor
 .intro hn;refine dN λz=>?_;rw [zd6.mpr z] at h1;exact zd6.mp h1 hn
 .intro hn;refine dN λz=>?_;rw [zd6.mpr z] at h1;exact zd6.mp h1.symm hn
def Dct(R:V->α->Prop):List (Str×V)->List (Str×α)->Prop:=Paired λp q=>p.1=q.1/\R p.2 q.2
theorem Dct.names{R:V->α->Prop}{t:List (Str×α)}(h:Dct R kvs t):kvs.map (·.1)=L2.names t:=by
 induction h with
 | nil=>rfl
 | @cons p q l m r _ ih=>show p.1::l.map (·.1)=q.1::m.map (·.1);rw [r.1,ih];rfl
theorem Dct.length{R:V->α->Prop}{t:List (Str×α)}(h:Dct R kvs t):kvs.length=t.length:=Paired.length h
theorem Dct.imp{R S:V->α->Prop}{t:List (Str×α)}(h:Dct R kvs t)(f:∀v a,R v a->S v a):Dct S kvs t:=Paired.mapP h λp q z=>⟨z.1,f _ _ z.2⟩
theorem Dct.look{R:V->α->Prop}{t:List (Str×α)}(h:Dct R kvs t)(n:Str):(∃v a,L2.look kvs n=some v/\L2.look t n=some a/\R v a)\/(L2.look kvs n=none/\L2.look t n=none):=by
 induction h with
 | nil=>exact .inr ⟨rfl,rfl⟩
 | cons r _ ih =>
  rw [zbd,zbd,<- r.1];split
  .exact .inl ⟨_,_,rfl,rfl,r.2⟩
  .exact ih
theorem Dct.put{R:V->α->Prop}{t:List (Str×α)}(h:Dct R kvs t)(n:Str){v:V}{a:α}(r:R v a):Dct R (zaL kvs n v) (zaL t n a):=by
 have hs:(L2.look kvs n).isSome=(L2.look t n).isSome:=by
  rcases h.look n with ⟨v,a,e1,e2,_⟩|⟨e1,e2⟩<;>rw [e1,e2]<;>rfl
 have hm:Dct R (kvs.map λp=>if p.1=n then (p.1,v) else p) (t.map λp=>if p.1=n then (p.1,a) else p):=by
  clear hs
  induction h with
  | nil=>exact .nil
  | @cons p q _ _ r' _ ih =>
   refine .cons ?_ ih;show (if p.1=n then (p.1,v) else p).1=(if q.1=n then (q.1,a) else q).1/\R (if p.1=n then (p.1,v) else p).2 (if q.1=n then (q.1,a) else q).2;by_cases e:p.1=n
   .rw [if_pos e,if_pos (by rw [<- r'.1];exact e)];exact ⟨r'.1,r⟩
   .rw [if_neg e,if_neg (by rw [<- r'.1];exact e)];exact r'
 have ha:Dct R (kvs++[(n,v)]) (t++[(n,a)]):=by
  clear hs hm
  induction h with
  | nil=>exact .cons ⟨rfl,r⟩ .nil
  | cons r' _ ih=>exact .cons r' ih
 unfold zaL;rw [hs];split
 .exact hm
 .exact ha
theorem Dct.drop{R:V->α->Prop}{t:List (Str×α)}(h:Dct R kvs t)(n:Str):Dct R (zaj kvs n) (zaj t n):=by
 induction h with
 | nil=>exact .nil
 | @cons p q _ _ r _ ih =>
  unfold zaj at ih ⊢;by_cases e:p.1=n
  .rw [eA (by simpa using e),eA (by rw [<- r.1];simpa using e)];exact ih
  .rw [d9 (by simpa using e),d9 (by rw [<- r.1];simpa using e)];exact .cons r ih
theorem Dct.at{R:V->α->Prop}{t:List (Str×α)}(h:Dct R kvs t):∀{i:Nat}{p:Str×V},kvs[i]?=some p->∃a,t[i]?=some (p.1,a)/\R p.2 a:=by
 induction h with
 | nil=>intro i p e;simp at e
 | @cons x y _ _ r _ ih =>
  intro i p e;cases i with
  | zero =>
   have e':x=p:=by simpa using e
   subst e';exact ⟨y.2,by rw [r.1];rfl,r.2⟩
  | succ i=>exact ih (by simpa using e)
end
theorem zc5{n:Str}:zU (sk kvs) (.inr n)=look kvs n:=by
 induction kvs with
 | nil=>rfl
 | cons p t ih =>
  rw [zbd];by_cases e:p.1=n
  .rw [if_pos e];exact ze9 (show (Sum.inr p.1:Key)=Sum.inr n by rw [e])
  .rw [if_neg e,<- ih];exact zeR (λz=>e (by injection z))
theorem zg5{n:Str}{v:V}:zan (sk kvs) (.inr n) v=sk (zaL kvs n v):=by
 unfold zan zaL;have hs:((sk kvs).any λkv=>decide (kv.1 = .inr n))=(look kvs n).isSome:=by rw [zge,zc5]
 rw [hs];split
 .unfold sk;rw [bU,bU];refine dX λp _=>?_;by_cases e:p.1=n
  .simp [e]
  .simp [e]
 .simp [sk]
theorem zop{n:Str}:za7 (sk kvs) (.inr n)=sk (zaj kvs n):=by
 induction kvs with
 | nil=>rfl
 | cons p t ih =>
  by_cases e:p.1=n
  .have:zaj (p::t) n=zaj t n:=by unfold zaj;rw [eA (by simpa using e)]
   rw [this,<- ih];exact znl (show (Sum.inr p.1:Key)=Sum.inr n by rw [e])
  .have:zaj (p::t) n=p::zaj t n:=by unfold zaj;rw [d9 (by simpa using e)]
   rw [this];show za7 ((Sum.inr p.1,p.2)::sk t) (Sum.inr n)=(Sum.inr p.1,p.2)::sk (zaj t n);rw [<- ih];exact zsJ (λz=>e (by injection z))
theorem zvw{a:Addr}{z:Str}:zfI (.ref a) (.str z) H Q = ∃kvs,Rd H a (.dK kvs)/\∃v,zU kvs (.inr z)=some v/\Q v H:=by
 apply propext;constructor
 .rintro ⟨a',k,kvs,v,e1,e2,h1,h2,q⟩;cases e1;cases k with
  | inl i=>cases e2
  | inr x=>cases e2;exact ⟨kvs,h1,v,h2,q⟩
 .rintro ⟨kvs,h1,v,h2,q⟩;exact ⟨a,.inr z,kvs,v,rfl,rfl,h1,h2,q⟩
theorem zpN{a b:Addr}:zdK (.ref a) (.ref b) H Q = ∃xs ys,H a=some (.tup xs)/\H b=some (.tup ys)/\xs.length+ys.length<=sizeLine/\∀p H2,ze H H2->H2 p=some (.tup (xs++ys))->Q (.ref p) H2:=by
 apply propext;constructor
 .rintro ⟨a',b',xs,ys,e1,e2,h⟩;cases e1;cases e2;exact ⟨xs,ys,h⟩
 .rintro ⟨xs,ys,h⟩;exact ⟨a,b,xs,ys,rfl,rfl,h⟩
theorem ztu{cm:Bool}{k j:Nat}{x:Str}{C:Addr}{ps:List Str}{sp:Sp}{p pos:Pos}(G:GC X.prog X.w X.K X.mg X.base cm j x C ps sp)(hr:zz cm k X.A)(hg:Gl X x)(hj:j+1<=k:=by decide)(hdb:(x==("__debug__":Str))=false:=by decide) :
  PE X (.Call (.Name x p) [] [] pos) (zfm C sp zaZ):=by
 obtain ⟨f,fd,F,hm,M,hb⟩:=G.ex;intro Ga s σ H Q I h;exact zuM M F (hr.mono hj) hg hm hb .nil zdB hdb Ga s σ H Q I (λy dx hx hd ne=>h y dx _ (.mk' hx hd ne))
theorem zkK{cm:Bool}{k j:Nat}{x:Str}{C:Addr}{ps:List Str}{sp:Sp}{p pos:Pos}(G:GC X.prog X.w X.K X.mg X.base cm j x C ps sp)(hr:zz cm k X.A)(hg:Gl X x)(hj:j+1<=k:=by decide)(hdb:(x==("__debug__":Str))=false:=by decide) :
  W (PE X (.Call (.Name x p) [] [] pos) (zfm C sp zaZ)):=⟨ztu G hr hg hj hdb⟩
def zfH:R2:=λx y H Q=>∃p xs,y = .ref p/\(H p=some (.lst xs)\/H p=some (.tup xs))/\zL x=true/\xs.all zL=true/\Q (.bl (!inV x xs)) H
theorem zpc(hu:X.A.units<cLine):OpR X (bG .NotIn) zfH:=zqL.weak λx y H Q h=>by
 obtain ⟨p,xs,e,h,f1,f2,q⟩:=h;exact ⟨p,xs,e,h.elim (λh=>.inl (SqL.of h)) (λh=>.inr (SqT.of h)),f1,f2,by simpa using q⟩
theorem ztj{x:V}{p:Addr}:zfH x (.ref p) H Q = ∃xs,(H p=some (.lst xs)\/H p=some (.tup xs))/\zL x=true/\xs.all zL=true/\Q (.bl (!inV x xs)) H:=by simp [zfH]
theorem zg9:(sk kvs).length=kvs.length:=by simp [sk]
end L2
namespace Ts
open PySem PyProof.Rows
variable{st:bH}{x:bg}{Q:Option Bool->bH->Prop}{a a₀ xs:Array bg}{i j lo:Nat}{left:Bool}{A B L T out:List bg}{c:Int}{β:Type}{h:Heap}
def gal:Bool->bg->Array bg->Nat->Nat->Nat->StateT bH Sem (Option Nat):=sortPriv% PySem.Builtin.gallop
def mLo:Array bg->Array bg->StateT bH Sem (Array bg):=sortPriv% PySem.Builtin.mergeLo
def mHi:Array bg->Array bg->StateT bH Sem (Array bg):=sortPriv% PySem.Builtin.mergeHi
section
variable {prog:aI}{w:aZ}{A:be}{E:Value->af->Prop}{s:af}
def zaa(x:bg):Prop:=∃n t,x.1 = .int n t
theorem zdX{y:bg}(hk:kindOf st=oneType')(hx:zaa x)(hy:zaa y)(h:Q (some (decide (cV x.1<cV y.1))) st):wpS (aC prog w) A E s (lt' x y) Q st:=by
 obtain ⟨a,t,ea⟩:=hx;obtain ⟨b,u,eb⟩:=hy;rw [lt'_eq];refine aq (gn ?_);rw [hk,keyLt'_oneType,ea,eb];rw [ea,eb] at h;exact aq (gY (dS (oneLt_int ⟨rfl,ay h⟩)))
theorem zaq{p:bg}{Q:bg->bH->Prop}(e:xs[i]?=some p)(h:Q p st):wpS (aC prog w) A E s (elem' xs i) Q st:=by
 rw [elem'_eq,e];exact ay h
def Bey(left:Bool)(k:Int)(x:Int):Bool:=if left then decide (x<k) else decide (x<=k)
theorem zaB{p:bg}(e:xs[i]?=some p):K xs i=cV p.1:=by unfold K;rw [e]
theorem zt3{key:bg}{arr:Array bg}{p:bg}(hk:kindOf st=oneType')(hkey:zaa key)(e:arr[i]?=some p)(hp:zaa p)(h:Q (some (Bey left (cV key.1) (K arr i))) st) :
  wpS (aC prog w) A E s (do
   let x<-elem' arr i
   if left=true then lt' x key else do
    let r<-lt' key x
    pure (Option.map (λx=>!x) r)) Q st:=by
 refine aq (zaq e ?_);rw [zaB e] at h;cases left with
 | true =>
  rw [if_pos rfl];exact zdX hk hp hkey h
 | false =>
  rw [if_neg (by decide)];refine aq (zdX hk hkey hp (ay ?_));have eb:(!decide (cV key.1<cV p.1))=Bey false (cV key.1) (cV p.1):=by
   unfold Bey;rw [if_neg (by decide)];by_cases z:cV p.1<=cV key.1
   .rw [decide_eq_true z,decide_eq_false (by lia)];rfl
   .rw [decide_eq_false z,decide_eq_true (by lia)];rfl
  show Q (some (!decide (cV key.1<cV p.1))) st;rw [eb];exact h
theorem zpt{k x y:Int}(h:x<=y)(hb:Bey left k y=true):Bey left k x=true:=by
 unfold Bey at hb ⊢;cases left with
 | true=>rw [if_pos rfl] at hb ⊢;have:=of_decide_eq_true hb;exact decide_eq_true (by lia)
 | false=>rw [if_neg (by decide)] at hb ⊢;have:=of_decide_eq_true hb;exact decide_eq_true (by lia)
theorem zde{key:bg}{arr:Array bg}{base n hint:Nat}{Q:Option Nat->bH->Prop}(hk:kindOf st=oneType')(hkey:zaa key)(hi:∀i,base<=i->i<base+n->∃p,arr[i]?=some p/\zaa p)
  (so:∀i j,base<=i->i<=j->j<base+n->K arr i<=K arr j) (hh:hint<n)
  (h:∀k,k<=n->(∀i,i<k->Bey left (cV key.1) (K arr (base+i))=true)->(∀i,k<=i->i<n->Bey left (cV key.1) (K arr (base+i))=false)->Q (some k) st) :
  wpS (aC prog w) A E s (gal left key arr base n hint) Q st:=by
 have down:∀i j,i<=j->j<n->Bey left (cV key.1) (K arr (base+j))=true->Bey left (cV key.1) (K arr (base+i))=true:=λi j hij hj hb=>zpt (so _ _ (by lia) (by lia) (by lia)) hb;have up:∀i j,i<=j->j<n->Bey left (cV key.1) (K arr (base+i))=false->Bey left (cV key.1) (K arr (base+j))=false:=λi j hij hj hb=>by
  cases e:Bey left (cV key.1) (K arr (base+j)) with
  | false=>rfl
  | true=>rw [down i j hij hj e] at hb;cases hb
 have ask:∀{Q:Option Bool->bH->Prop}(i:Nat),i<n->Q (some (Bey left (cV key.1) (K arr (base+i)))) st->wpS (aC prog w) A E s (do
   let x<-elem' arr (base+i)
   if left=true then lt' x key else do
    let r<-lt' key x
    pure (Option.map (λx=>!x) r)) Q st:=λ{Q} i hin q=>by
  obtain ⟨p,e,hp⟩:=hi (base+i) (by lia) (by lia);exact zt3 hk hkey e hp q
 unfold gal;refine aq (ask hint hh ?_);dsimp only;have bin:∀lo hi',lo<=hi'->hi'<=n->(∀i,i<lo->Bey left (cV key.1) (K arr (base+i))=true)->(∀i,hi'<=i->i<n->Bey left (cV key.1) (K arr (base+i))=false) ->
   wpS (aC prog w) A E s (forIn [:n] ((none,lo,hi'):Option (Option Nat)×Nat×Nat) λx __s=>if __s.2.1 ≥ __s.2.2 then pure (ForInStep.done (none,__s.2.1,__s.2.2)) else do
    let __x<-(do
     let x<-elem' arr (base+(__s.2.1+(__s.2.2-__s.2.1) / 2))
     if left=true then lt' x key else do
      let r<-lt' key x
      pure (Option.map (λx=>!x) r))
    match __x with
    | some more=>if more=true then pure (ForInStep.yield (none,__s.2.1+(__s.2.2-__s.2.1) / 2+1,__s.2.2)) else pure (ForInStep.yield (none,__s.2.1,__s.2.1+(__s.2.2-__s.2.1) / 2))
    | x=>pure (ForInStep.done (some none,__s.2.1,__s.2.2)))
   (λc st'=>st'=st/\∃k,c=(none,k,k)/\k<=n/\(∀i,i<k->Bey left (cV key.1) (K arr (base+i))=true)/\(∀i,k<=i->i<n->Bey left (cV key.1) (K arr (base+i))=false)) st:=by
  intro lo hi' hlh hhn b1 b2;refine bB (I:=λx c st'=>st'=st/\∃l r,c=(none,l,r)/\l<=r/\r<=n/\r-l<=n-x/\(∀i,i<l->Bey left (cV key.1) (K arr (base+i))=true)/\(∀i,r<=i->i<n->Bey left (cV key.1) (K arr (base+i))=false)) ?_ ?_ ⟨rfl,lo,hi',rfl,hlh,hhn,by lia,b1,b2⟩
  .rintro x c st' _ hx ⟨rfl,l,r,rfl,hlr,hrn,hm,c1,c2⟩;dsimp only;by_cases hge:l ≥ r
   .rw [if_pos hge];have:l=r:=by lia
    subst this;exact ay ⟨rfl,l,rfl,hrn,c1,c2⟩
   .rw [if_neg hge];refine aq (ask _ (by lia) ?_);dsimp only;cases e:Bey left (cV key.1) (K arr (base+(l+(r-l) / 2))) with
    | true =>
     rw [if_pos rfl];exact ay ⟨rfl,_,r,rfl,by lia,hrn,by lia,λi hi=>down i _ (by lia) (by lia) e,c2⟩
    | false =>
     rw [if_neg (by decide)];exact ay ⟨rfl,l,_,rfl,by lia,by lia,by lia,c1,λi h1 h2=>up _ i h1 h2 e⟩
  .rintro c st' ⟨rfl,l,r,rfl,hlr,hrn,hm,c1,c2⟩;have:l=r:=by lia
   subst this;exact ⟨rfl,l,rfl,hrn,c1,c2⟩
 cases e:Bey left (cV key.1) (K arr (base+hint)) with
 | true =>
  rw [if_pos rfl];refine aq (cH (bB (I:=λx c st'=>st'=st/\∃l o,c=(none,l,o)/\l<o/\x+1<=o/\l<n-hint/\Bey left (cV key.1) (K arr (base+(hint+l)))=true)
   (Q:=λc st'=>st'=st/\∃l o,c=(none,l,o)/\l<o/\l<n-hint/\Bey left (cV key.1) (K arr (base+(hint+l)))=true/\(o ≥ n-hint\/Bey left (cV key.1) (K arr (base+(hint+o)))=false)) ?_ ?_ ⟨rfl,0,1,rfl,by lia,by lia,by lia,by simpa using e⟩) ?_)
  .rintro x c st' _ hx ⟨rfl,l,o,rfl,hlo,hxo,hln,hb⟩;dsimp only;by_cases hge:o ≥ n-hint
   .rw [if_pos hge];exact ay ⟨rfl,l,o,rfl,hlo,hln,hb,.inl hge⟩
   .rw [if_neg hge];refine aq (ask _ (by lia) ?_);dsimp only;cases e2:Bey left (cV key.1) (K arr (base+(hint+o))) with
    | false =>
     rw [if_pos (show (!false)=true from rfl)];exact ay ⟨rfl,l,o,rfl,hlo,hln,hb,.inr e2⟩
    | true =>
     rw [if_neg (by decide)];exact ay ⟨rfl,o,_,rfl,by lia,by lia,by lia,e2⟩
  .rintro c st' ⟨rfl,l,o,rfl,hlo,hxo,hln,hb⟩;exact ⟨rfl,l,o,rfl,hlo,hln,hb,.inl (by lia)⟩
  .rintro c st' ⟨rfl,l,o,rfl,hlo,hln,hb,hor⟩;dsimp only;refine aq (cH (bin (hint+l+1) (hint+min o (n-hint)) (by lia) (by lia) (λi hi=>down i (hint+l) (by lia) (by lia) hb) (λi h1 h2=>?_)) λc st' hc=>by obtain ⟨rfl,k,rfl,h1,h2,h3⟩:=hc;exact ay (h k h1 h2 h3));rcases hor with hor|hor
   .lia
   .by_cases z:o ≥ n-hint
    .lia
    .exact up (hint+o) i (by lia) h2 hor
 | false =>
  rw [if_neg (by decide)];refine aq (cH (bB (I:=λx c st'=>st'=st/\∃l o,c=(none,l,o)/\l<o/\x+1<=o/\l<hint+1/\Bey left (cV key.1) (K arr (base+(hint-l)))=false)
   (Q:=λc st'=>st'=st/\∃l o,c=(none,l,o)/\l<o/\l<hint+1/\Bey left (cV key.1) (K arr (base+(hint-l)))=false/\(o ≥ hint+1\/Bey left (cV key.1) (K arr (base+(hint-o)))=true)) ?_ ?_ ⟨rfl,0,1,rfl,by lia,by lia,by lia,by simpa using e⟩) ?_)
  .rintro x c st' _ hx ⟨rfl,l,o,rfl,hlo,hxo,hln,hb⟩;dsimp only;by_cases hge:o ≥ hint+1
   .rw [if_pos hge];exact ay ⟨rfl,l,o,rfl,hlo,hln,hb,.inl hge⟩
   .rw [if_neg hge];refine aq (ask _ (by lia) ?_);dsimp only;cases e2:Bey left (cV key.1) (K arr (base+(hint-o))) with
    | true =>
     rw [if_pos rfl];exact ay ⟨rfl,l,o,rfl,hlo,hln,hb,.inr e2⟩
    | false =>
     rw [if_neg (by decide)];exact ay ⟨rfl,o,_,rfl,by lia,by lia,by lia,e2⟩
  .rintro c st' ⟨rfl,l,o,rfl,hlo,hxo,hln,hb⟩;exact ⟨rfl,l,o,rfl,hlo,hln,hb,.inl (by lia)⟩
  .rintro c st' ⟨rfl,l,o,rfl,hlo,hln,hb,hor⟩;dsimp only;refine aq (cH (bin (hint+1-min o (hint+1)) (hint-l) (by lia) (by lia) (λi hi=>?_) (λi h1 h2=>up (hint-l) i h1 h2 hb)) λc st' hc=>by obtain ⟨rfl,k,rfl,h1,h2,h3⟩:=hc;exact ay (h k h1 h2 h3));rcases hor with hor|hor
   .lia
   .by_cases z:o ≥ hint+1
    .lia
    .exact down i (hint-o) (by lia) (by lia) hor
end
def kv(x:bg):Int:=cV x.1
def Srt(l:List bg):Prop:=l.Pairwise λx y=>kv x<=kv y
structure Mg(L out A B:List bg):Prop where
 perm:(out++(A++B)).Perm L
 so:Srt out
 sA:Srt A
 sB:Srt B
 lA:∀x∈out,∀y∈A,kv x<=kv y
 lB:∀x∈out,∀y∈B,kv x<=kv y
theorem Mg.symm(h:Mg L out A B):Mg L out B A:=⟨((fv.refl out).append eR).trans h.perm,h.so,h.sB,h.sA,h.lB,h.lA⟩
theorem Mg.take{X:List bg}(h:Mg L out (X++A) B)(hx:∀x∈X,∀y∈B,kv x<=kv y):Mg L (out++X) A B:=by
 have s:=bS.mp h.sA;refine ⟨by have:=h.perm;rw [aY X A B,<- aY out X] at this;exact this,bS.mpr ⟨h.so,s.1,λx hx y hy=>h.lA x hx y (bN _ hy)⟩,s.2.1,h.sB,λx hx' y hy=>?_,λx hx' y hy=>?_⟩
 .rcases aS.mp hx' with h'|h'
  .exact h.lA x h' y (aQ _ hy)
  .exact s.2.2 x h' y hy
 .rcases aS.mp hx' with h'|h'
  .exact h.lB x h' y hy
  .exact hx x h' y hy
theorem Mg.fin(h:Mg L out A B)(hx:∀x∈A,∀y∈B,kv x<=kv y):Srt (out++A++B)/\(out++A++B).Perm L:=by
 refine ⟨bS.mpr ⟨bS.mpr ⟨h.so,h.sA,h.lA⟩,h.sB,λx hx' y hy=>?_⟩,by rw [aY];exact h.perm⟩;rcases aS.mp hx' with h'|h'
 .exact h.lB x h' y hy
 .exact hx x h' y hy
theorem Srt.head{p:bg}{l:List bg}(h:Srt (p::l))(hc:c<=kv p):∀x∈p::l,c<=kv x:=λx hx=>by
 rcases au.mp hx with rfl|hx
 .exact hc
 .exact c7 hc ((eP.mp h).1 x hx)
theorem zeC(a:Array bg)(i:Nat):(a.extract i).toList=a.toList.drop i:=by
 rw [eW,dA];exact bo (by rw [cF,bv];exact ae _)
theorem zra(a:Array bg)(i k:Nat):(a.extract i (i+k)).toList=(a.toList.drop i).take k:=by
 rw [eW,dA];congr 1;lia
theorem zcn(h:i<a.size):∃p,a[i]?=some p/\a.toList.drop i=p::a.toList.drop (i+1):=by
 refine ⟨a[i],getElem?_pos a i h,?_⟩;rw [c8 (by rw [bv];exact h),fR]
theorem Srt.K(h:Srt a.toList)(hij:i<=j)(hj:j<a.size):K a i<=K a j:=by
 rw [zaB (getElem?_pos a i (by lia)),zaB (getElem?_pos a j hj)];by_cases e:i=j
 .subst e;exact cc _
 .have:=du.mp h i j (by rw [bv];lia) (by rw [bv];lia) (by lia);rw [fR,fR] at this;exact this
theorem zkg(h:x∈a.toList.drop i):∃j,j<a.size-i/\a[i+j]?=some x:=by
 obtain ⟨j,hj,e⟩:=dw h;rw [cF,bv] at hj;refine ⟨j,hj,?_⟩;rw [List.getElem_drop,fR] at e;rw [<- e];exact getElem?_pos a _ _
theorem zhc{k:Nat}(h:x∈(a.toList.drop i).take k):∃j,j<k/\a[i+j]?=some x:=by
 obtain ⟨j,hj,e⟩:=dw h;have hj':=hj;rw [bI,cF,bv] at hj;refine ⟨j,by lia,?_⟩;rw [ie,List.getElem_drop,fR] at e;rw [<- e];exact getElem?_pos a _ _
theorem zh6{k x:Int}(h:Bey false k x=true):x<=k:=by unfold Bey at h;rw [if_neg (by decide)] at h;exact of_decide_eq_true h
theorem zhN{k x:Int}(h:Bey false k x=false):k<x:=by unfold Bey at h;rw [if_neg (by decide)] at h;have:=of_decide_eq_false h;lia
theorem zgc{k x:Int}(h:Bey true k x=true):x<k:=by unfold Bey at h;rw [if_pos rfl] at h;exact of_decide_eq_true h
theorem zgm{k x:Int}(h:Bey true k x=false):k<=x:=by unfold Bey at h;rw [if_pos rfl] at h;have:=of_decide_eq_false h;lia
theorem Mg.tk{out:Array bg}{k:Nat}(m:Mg L out.toList (a.toList.drop i) B)(h1:∀j,j<k->K a (i+j)<=c)(h2:∀y∈B,c<=kv y):Mg L (out++a.extract i (i+k)).toList (a.toList.drop (i+k)) B:=by
 rw [df,zra];have e:a.toList.drop i=(a.toList.drop i).take k++a.toList.drop (i+k):=by rw [<- List.drop_drop,ck]
 refine Mg.take (by rw [<- e];exact m) λx hx y hy=>?_;obtain ⟨j,hj,ej⟩:=zhc hx;have:=h1 j hj;rw [zaB ej] at this;exact c7 this (h2 y hy)
theorem zjf{k n:Nat}(hn:n=a.size-i)(h:∀j,k<=j->j<n->c<=K a (i+j)):∀x∈a.toList.drop (i+k),c<=kv x:=λx hx=>by
 obtain ⟨j,hj,ej⟩:=zkg hx;have:=h (k+j) (by lia) (by lia);rw [show i+(k+j)=i+k+j by lia,zaB ej] at this;exact this
structure SG(st st':bH):Prop where
 k:kindOf st'=kindOf st
 a:aB st'=aB st
 p:bM st'=bM st
 f:dz st'=dz st
theorem SG.refl:SG st st:=⟨rfl,rfl,rfl,rfl⟩
def zmB:Nat->StateT bH Sem Unit:=sortPriv% PySem.Builtin.setMinGallop
section
variable {prog:aI}{w:aZ}{A:be}{E:Value->af->Prop}{s:af}
theorem zeX{st':bH}{g:Nat}{Q:Unit->bH->Prop}(hs:SG st st')(h:∀st2,SG st st2->Q () st2):wpS (aC prog w) A E s (zmB g) Q st':=by
 unfold zmB;refine fK (h _ ⟨?_,?_,?_,?_⟩)
 .exact hs.k
 .exact hs.a
 .exact hs.p
 .exact hs.f
theorem zaf{c:Prop}{_:Decidable c}{x y:StateT bH Sem β}{Q:β->bH->Prop}(h1:c->wpS (aC prog w) A E s x Q st)(h2 : ¬c->wpS (aC prog w) A E s y Q st):wpS (aC prog w) A E s (if c then x else y) Q st:=by
 split
 .exact h1 ‹_›
 .exact h2 ‹_›
theorem ziC{_:Decidable (true=true)}{x y:StateT bH Sem β}{Q:β->bH->Prop}(h1:wpS (aC prog w) A E s x Q st):wpS (aC prog w) A E s (if true=true then x else y) Q st:=zaf (λ_=>h1) λh=>absurd rfl h
theorem zlr{_:Decidable (false=true)}{x y:StateT bH Sem β}{Q:β->bH->Prop}(h1:wpS (aC prog w) A E s y Q st):wpS (aC prog w) A E s (if false=true then x else y) Q st:=zaf nofun λ_=>h1
theorem zk5{c:Prop}{_:Decidable c}{f:Nat->StateT bH Sem β}{Q:β->bH->Prop}(g1 g2:Nat)(h:∀g,wpS (aC prog w) A E s (f g) Q st):wpS (aC prog w) A E s (if c then f g1 else f g2) Q st:=zaf (λ_=>h _) λ_=>h _
theorem zlW{c d:Prop}{_:Decidable c}{_:Decidable d}{P:StateT bH Sem β}{f:Nat->Array bg->StateT bH Sem β}{Q:β->bH->Prop}(g1:Nat)(o1:Array bg)(g2:Nat)(o2:Array bg)(h1:c->d->wpS (aC prog w) A E s P Q st)(h:∀g o,(c/\¬d/\g=g1/\o=o1)\/(¬c/\g=g2/\o=o2)->wpS (aC prog w) A E s (f g o) Q st):wpS (aC prog w) A E s (if c then if d then P else f g1 o1 else f g2 o2) Q st:=zaf (λhc=>zaf (h1 hc) λhd=>h _ _ (.inl ⟨hc,hd,rfl,rfl⟩)) λhc=>h _ _ (.inr ⟨hc,rfl,rfl⟩)
theorem zle{c d e:Prop}{_:Decidable c}{_:Decidable d}{_:Decidable e}{P R:StateT bH Sem β}{f:Nat->Array bg->StateT bH Sem β}{Q:β->bH->Prop}(g1:Nat)(o1:Array bg)(g2:Nat)(o2:Array bg)(h1:d->wpS (aC prog w) A E s P Q st)(h2:e->wpS (aC prog w) A E s R Q st)(h:∀g o,(¬d/\¬e/\g=g1/\o=o1)\/(¬c/\g=g2/\o=o2)->wpS (aC prog w) A E s (f g o) Q st):wpS (aC prog w) A E s (if c then if d then P else if e then R else f g1 o1 else f g2 o2) Q st:=zaf (λ_=>zaf h1 λhd=>zaf h2 λhe=>h _ _ (.inl ⟨hd,he,rfl,rfl⟩)) λhc=>h _ _ (.inr ⟨hc,rfl,rfl⟩)
theorem zok{b:Array bg}{Q:Array bg->bH->Prop}(hk:kindOf st=oneType')(iA:∀x∈a.toList,zaa x)(iB:∀x∈b.toList,zaa x)(sA:Srt a.toList)(sB:Srt b.toList)(a0:0<a.size)(b0:0<b.size)
  (h0:∀y,b[0]?=some y->∀x∈a.toList,kv y<=kv x) (hl:∀x,a[a.size-1]?=some x->∀y∈b.toList,kv y<=kv x) (h:∀o st',SG st st'->Srt o.toList->o.toList.Perm (a.toList++b.toList)->Q o st') :
  wpS (aC prog w) A E s (mLo a b) Q st:=by
 have iAt:∀{i p},a[i]?=some p->zaa p:=λ{i p} e=>iA p (by rw [<- bT] at e;exact aE e);have iBt:∀{i p},b[i]?=some p->zaa p:=λ{i p} e=>iB p (by rw [<- bT] at e;exact aE e);have dn:∀(out:Array bg)(ia ib:Nat)(st':bH),SG st st'->Mg (a.toList++b.toList) out.toList (a.toList.drop ia) (b.toList.drop ib)->(ia=a.size\/ib=b.size)->SG st st'/\Srt (out++a.extract ia++b.extract ib).toList/\(out++a.extract ia++b.extract ib).toList.Perm (a.toList++b.toList):=λout ia ib st' hs m hor=>by
  refine ⟨hs,?_⟩;rw [df,df,zeC,zeC];refine m.fin λx hx y hy=>?_;rcases hor with e|e
  .rw [e,eU (by rw [bv];exact ae _)] at hx;cases hx
  .rw [e,eU (by rw [bv];exact ae _)] at hy;cases hy
 have la:∀(out:Array bg)(ia ib:Nat)(st':bH),SG st st'->Mg (a.toList++b.toList) out.toList (a.toList.drop ia) (b.toList.drop ib)->ia+1=a.size->SG st st'/\Srt (out++b.extract ib++a.extract ia).toList/\(out++b.extract ib++a.extract ia).toList.Perm (a.toList++b.toList):=λout ia ib st' hs m e=>by
  refine ⟨hs,?_⟩;rw [df,df,zeC,zeC];refine m.symm.fin λy hy x hx=>?_;obtain ⟨j,hj,ej⟩:=zkg hx;have:ia+j=a.size-1:=by lia
  rw [this] at ej;exact hl x ej y (fG hy)
 have mB:∀{out:Array bg}{ia ib:Nat}{p:bg},Mg (a.toList++b.toList) out.toList (a.toList.drop ia) (b.toList.drop ib)->b[ib]?=some p->(∀x∈a.toList.drop ia,kv p<=kv x)->Mg (a.toList++b.toList) (out.push p).toList (a.toList.drop ia) (b.toList.drop (ib+1)):=λ{out ia ib p} m e hx=>by
  obtain ⟨p',e',ed⟩:=zcn (a:=b) (i:=ib) (bA.mp e).1;rw [e] at e';cases e';rw [ed] at m;rw [gA];exact (Mg.take (X:=[p]) m.symm λx hx' y hy=>by rw [ax] at hx';subst hx';exact hx y hy).symm
 have mA:∀{out:Array bg}{ia ib:Nat}{p:bg},Mg (a.toList++b.toList) out.toList (a.toList.drop ia) (b.toList.drop ib)->a[ia]?=some p->(∀x∈b.toList.drop ib,kv p<=kv x)->Mg (a.toList++b.toList) (out.push p).toList (a.toList.drop (ia+1)) (b.toList.drop ib):=λ{out ia ib p} m e hx=>by
  obtain ⟨p',e',ed⟩:=zcn (a:=a) (i:=ia) (bA.mp e).1;rw [e] at e';cases e';rw [ed] at m;rw [gA];exact Mg.take (X:=[p]) m λx hx' y hy=>by rw [ax] at hx';subst hx';exact hx y hy
 have hd:∀{c:Array bg}{i:Nat}{p:bg}{v:Int},Srt (c.toList.drop i)->c[i]?=some p->v<=kv p->∀x∈c.toList.drop i,v<=kv x:=λ{c i p v} sc e hv=>by
  obtain ⟨p',e',ed⟩:=zcn (a:=c) (i:=i) (bA.mp e).1;rw [e] at e';cases e';rw [ed] at sc ⊢;exact sc.head hv
 unfold mLo;refine aq (gY (cB ⟨rfl,?_⟩));obtain ⟨y0,ey0,ed0⟩:=zcn b0;refine aq (zaq ey0 ?_);have m0:Mg (a.toList++b.toList) (#[y0]:Array bg).toList (a.toList.drop 0) (b.toList.drop 1):=by
  have:Mg (a.toList++b.toList) (#[]:Array bg).toList (a.toList.drop 0) (b.toList.drop 0):=⟨by simp,.nil,by simpa using sA,by simpa using sB,λx hx=>by simp at hx,λx hx=>by simp at hx⟩;exact mB this ey0 (by simpa using h0 y0 ey0)
 refine zaf (λhb1=>?_) λhb1=>?_
 .have hb1:1=b.size:=eq_of_beq hb1;obtain ⟨g1,g2,g3⟩:=dn _ 0 1 st .refl m0 (.inr hb1);exact ay (h _ _ g1 g2 g3)
 have hb1 : ¬1=b.size:=λe=>hb1 (beq_iff_eq.mpr e);refine zaf (λha1=>?_) λha1=>?_
 .have ha1:0+1=a.size:=eq_of_beq ha1;obtain ⟨g1,g2,g3⟩:=la _ 0 1 st .refl m0 ha1;exact ay (h _ _ g1 g2 g3)
 have ha1 : ¬0+1=a.size:=λe=>ha1 (beq_iff_eq.mpr e);refine aq (gn ?_);refine aq (cH (bB
  (I:=λx c st'=>SG st st'/\∃out ia ib mg,c=(none,out,ia,ib,mg)/\Mg (a.toList++b.toList) out.toList (a.toList.drop ia) (b.toList.drop ib)/\ia+1<a.size/\ib<b.size/\x+1<=ia+ib)
  (Q:=λc st'=>SG st st'/\∃o,c.1=some o/\Srt o.toList/\o.toList.Perm (a.toList++b.toList)) ?_ ?_ ⟨.refl,_,0,1,_,rfl,m0,by lia,by lia,by lia⟩) ?_)
 .rintro x c st' _ hx ⟨hs,out,ia,ib,mg,rfl,m,hia,hib,hxx⟩;refine aq (cH (bB
   (I:=λy c st'=>SG st st'/\∃out ia' ib' ac bc,c=(none,out,ia',ib',ac,bc)/\Mg (a.toList++b.toList) out.toList (a.toList.drop ia') (b.toList.drop ib')/\ia'+1<a.size/\ib'<b.size/\y+(ia+ib)<=ia'+ib')
   (Q:=λc st'=>SG st st'/\((∃o r,c=(some o,r)/\Srt o.toList/\o.toList.Perm (a.toList++b.toList))\/∃out ia' ib' ac bc,c=(none,out,ia',ib',ac,bc)/\Mg (a.toList++b.toList) out.toList (a.toList.drop ia') (b.toList.drop ib')/\ia'+1<a.size/\ib'<b.size/\ia+ib<ia'+ib')) ?_ ?_ ⟨hs,out,ia,ib,0,0,rfl,m,hia,hib,by lia⟩) ?_)
  .rintro y c st' _ hy ⟨hs,out,ia',ib',ac,bc,rfl,m,hia,hib,hyy⟩;obtain ⟨pb,epb,edb⟩:=zcn hib;obtain ⟨pa,epa,eda⟩:=zcn (show ia'<a.size by lia);refine aq (zaq epb (aq (zaq epa (aq (zdX (by rw [hs.k];exact hk) (iBt epb) (iAt epa) ?_)))));by_cases hlt:cV pb.1<cV pa.1
   .rw [decide_eq_true hlt];refine ziC ?_;refine aq (zaq epb ?_);have m':=mB m epb (hd m.sA epa (ci hlt));refine zaf (λhbz=>?_) λhbz=>?_
    .have hbz:ib'+1=b.size:=eq_of_beq hbz;obtain ⟨g1,g2,g3⟩:=dn _ ia' (ib'+1) st' hs m' (.inr hbz);exact ay ⟨g1,.inl ⟨_,_,rfl,g2,g3⟩⟩
    .have hbz : ¬ib'+1=b.size:=λe=>hbz (beq_iff_eq.mpr e);have y1:ib'+1<b.size:=by lia
     exact zaf (λ_=>ay ⟨hs,.inr ⟨_,_,_,_,_,rfl,m',hia,y1,by lia⟩⟩) λ_=>ay ⟨hs,_,_,_,_,_,rfl,m',hia,y1,by lia⟩
   .rw [decide_eq_false hlt];refine zlr ?_;refine aq (zaq epa ?_);have m':=mA m epa (hd m.sB epb (fM.mp hlt));refine zaf (λhaz=>?_) λhaz=>?_
    .have haz:ia'+1+1=a.size:=eq_of_beq haz;obtain ⟨g1,g2,g3⟩:=la _ (ia'+1) ib' st' hs m' haz;exact ay ⟨g1,.inl ⟨_,_,rfl,g2,g3⟩⟩
    .have haz : ¬ia'+1+1=a.size:=λe=>haz (beq_iff_eq.mpr e);have y1:ia'+1+1<a.size:=by lia
     exact zaf (λ_=>ay ⟨hs,.inr ⟨_,_,_,_,_,rfl,m',y1,hib,by lia⟩⟩) λ_=>ay ⟨hs,_,_,_,_,_,rfl,m',y1,hib,by lia⟩
  .rintro c st' ⟨hs,out,ia',ib',ac,bc,rfl,m,hia,hib,hyy⟩;lia
  .rintro c st' ⟨hs,⟨o,r,rfl,g2,g3⟩|⟨out,ia',ib',ac,bc,rfl,m,hia,hib,hyy⟩⟩
   .exact ay ⟨hs,o,rfl,g2,g3⟩
   refine aq (gY (cB ⟨rfl,?_⟩));refine aq (cH (bB
    (I:=λy c st'=>SG st st'/\∃out ia2 ib2 mg ac bc,c=(none,out,ia2,ib2,mg,ac,bc)/\Mg (a.toList++b.toList) out.toList (a.toList.drop ia2) (b.toList.drop ib2)/\ia2+1<a.size/\ib2<b.size/\y+(ia'+ib')<=ia2+ib2)
    (Q:=λc st'=>SG st st'/\((∃o r,c=(some o,r)/\Srt o.toList/\o.toList.Perm (a.toList++b.toList))\/∃out ia2 ib2 mg ac bc,c=(none,out,ia2,ib2,mg,ac,bc)/\Mg (a.toList++b.toList) out.toList (a.toList.drop ia2) (b.toList.drop ib2)/\ia2+1<a.size/\ib2<b.size/\ia'+ib'<=ia2+ib2)) ?_ ?_ ⟨hs,out,ia',ib',_,_,_,rfl,m,hia,hib,by lia⟩) ?_)
   .rintro y c st' _ hy ⟨hs,out,ia2,ib2,mg2,ac,bc,rfl,m,hia,hib,hyy⟩
    try dsimp only
    obtain ⟨pb,epb,edb⟩:=zcn hib;generalize mg2-1=mg1;apply zk5 mg1 mg2;intro mg2;refine aq (zeX hs λst2 hs2=>?_);refine aq (zaq epb ?_);refine aq (zde (by rw [hs2.k];exact hk) (iBt epb) (λi h1 h2=>⟨_,getElem?_pos a i (by lia),iAt (getElem?_pos a i (by lia))⟩) (λi j _ hij hj=>sA.K hij (by lia)) (by lia) λk hkn f1 f2=>?_)
    try dsimp only
    have hge:∀x∈a.toList.drop (ia2+k),kv pb<=kv x:=zjf rfl λj h1 h2=>ci (zhN (f2 j h1 h2));have m1:=Mg.tk (a:=a) (i:=ia2) (k:=k) m (λj hj=>zh6 (f1 j hj)) (hd m.sB epb (cc _));generalize out++a.extract ia2 (ia2+k)=out1 at m1 ⊢;generalize ei:ia2+k=ia1 at m1 hge ⊢;apply zle ia1 out1 ia2 out
    .intro z1;obtain ⟨g1,g2,g3⟩:=la _ _ _ st2 hs2 m1 (eq_of_beq z1);exact ay ⟨g1,.inl ⟨_,_,rfl,g2,g3⟩⟩
    .intro z2;obtain ⟨g1,g2,g3⟩:=dn _ _ _ st2 hs2 m1 (.inl (eq_of_beq z2));exact ay ⟨g1,.inl ⟨_,_,rfl,g2,g3⟩⟩
    intro ia3 out3 hor;obtain ⟨q1,q2,m1,hge⟩:ia3+1<a.size/\ia2<=ia3/\Mg (a.toList++b.toList) out3.toList (a.toList.drop ia3) (b.toList.drop ib2)/\∀x∈a.toList.drop ia3,kv pb<=kv x:=by
     rcases hor with ⟨z1,z2,rfl,rfl⟩|⟨z1,rfl,rfl⟩
     .have z1 : ¬ia3+1=a.size:=λe=>z1 (beq_iff_eq.mpr e);have z2 : ¬ia3=a.size:=λe=>z2 (beq_iff_eq.mpr e);exact ⟨by lia,by lia,m1,hge⟩
     .have e:ia1=ia3:=by lia
      rw [e] at hge;exact ⟨hia,ae _,m,hge⟩
    clear hor;refine aq (zaq epb ?_)
    try dsimp only
    have m2:=mB m1 epb hge;generalize out3.push pb=out4 at m2 ⊢;refine zaf (λz3=>?_) λz3=>?_
    .obtain ⟨g1,g2,g3⟩:=dn _ _ _ st2 hs2 m2 (.inr (eq_of_beq z3));exact ay ⟨g1,.inl ⟨_,_,rfl,g2,g3⟩⟩
    have z3 : ¬ib2+1=b.size:=λe=>z3 (beq_iff_eq.mpr e);obtain ⟨ib3,eib⟩:∃n,n=ib2+1:=⟨_,rfl⟩;rw [<- eib] at m2 z3 ⊢;obtain ⟨pa,epa,eda⟩:=zcn (show ia3<a.size by lia);refine aq (zaq epa ?_);refine aq (zde (by rw [hs2.k];exact hk) (iAt epa) (λi h1 h2=>⟨_,getElem?_pos b i (by lia),iBt (getElem?_pos b i (by lia))⟩) (λi j _ hij hj=>sB.K hij (by lia)) (by lia) λk2 hk2 f3 f4=>?_)
    try dsimp only
    have hge2:∀x∈b.toList.drop (ib3+k2),kv pa<=kv x:=zjf rfl λj h1 h2=>zgm (f4 j h1 h2);have m3:=(Mg.tk (a:=b) (i:=ib3) (k:=k2) m2.symm (λj hj=>ci (zgc (f3 j hj))) (hd m2.sA epa (cc _))).symm;generalize out4++b.extract ib3 (ib3+k2)=out5 at m3 ⊢;generalize ej:ib3+k2=ib4 at m3 hge2 ⊢;apply zlW ib4 out5 ib3 out4
    .intro _ z4;obtain ⟨g1,g2,g3⟩:=dn _ _ _ st2 hs2 m3 (.inr (eq_of_beq z4));exact ay ⟨g1,.inl ⟨_,_,rfl,g2,g3⟩⟩
    intro ib5 out6 hor;obtain ⟨q3,q4,m3,hge2⟩:ib5<b.size/\ib3<=ib5/\Mg (a.toList++b.toList) out6.toList (a.toList.drop ia3) (b.toList.drop ib5)/\∀x∈b.toList.drop ib5,kv pa<=kv x:=by
     rcases hor with ⟨z1,z2,rfl,rfl⟩|⟨z1,rfl,rfl⟩
     .have z2 : ¬ib5=b.size:=λe=>z2 (beq_iff_eq.mpr e);exact ⟨by lia,by lia,m3,hge2⟩
     .have e:ib4=ib5:=by lia
      rw [e] at hge2;exact ⟨by lia,ae _,m2,hge2⟩
    clear hor;refine aq (zaq epa ?_)
    try dsimp only
    have m4:=mA m3 epa hge2;refine zaf (λz5=>?_) λz5=>?_
    .obtain ⟨g1,g2,g3⟩:=la _ _ _ st2 hs2 m4 (eq_of_beq z5);exact ay ⟨g1,.inl ⟨_,_,rfl,g2,g3⟩⟩
    have z5 : ¬ia3+1+1=a.size:=λe=>z5 (beq_iff_eq.mpr e);have y1:ia3+1+1<a.size:=by lia
    refine zaf (λ_=>ay ⟨hs2,.inr ⟨_,_,_,_,_,_,rfl,m4,y1,q3,by lia⟩⟩) λ_=>ay ⟨hs2,_,_,_,_,_,_,rfl,m4,y1,q3,by lia⟩
   .rintro c st' ⟨hs,out,ia2,ib2,mg2,ac,bc,rfl,m,hia,hib,hyy⟩;lia
   .rintro c st' ⟨hs,⟨o,r,rfl,g2,g3⟩|⟨out,ia2,ib2,mg2,ac,bc,rfl,m,hia,hib,hyy⟩⟩
    .exact ay ⟨hs,o,rfl,g2,g3⟩
    exact aq (zeX hs λst2 hs2=>ay ⟨hs2,_,_,_,_,rfl,m,hia,hib,by lia⟩)
 .rintro c st' ⟨hs,out,ia,ib,mg,rfl,m,hia,hib,hxx⟩;lia
 .rintro ⟨r,rest⟩ st' ⟨hs,o,e,g2,g3⟩;dsimp only at e;subst e;exact ay (h _ _ hs g2 g3)
end
structure Mh(L T A B:List bg):Prop where
 perm:(A++B++T).Perm L
 so:Srt T
 sA:Srt A
 sB:Srt B
 lA:∀x∈A,∀y∈T,kv x<=kv y
 lB:∀x∈B,∀y∈T,kv x<=kv y
theorem Mh.symm(h:Mh L T A B):Mh L T B A:=⟨(eR.append_right T).trans h.perm,h.so,h.sB,h.sA,h.lB,h.lA⟩
theorem Mh.take{X:List bg}(h:Mh L T (A++X) B)(hx:∀x∈X,∀y∈B,kv y<=kv x):Mh L (X++T) A B:=by
 have s:=bS.mp h.sA;refine ⟨?_,bS.mpr ⟨s.2.1,h.so,λx hx y hy=>h.lA x (aQ _ hx) y hy⟩,s.1,h.sB,λx hx' y hy=>?_,λx hx' y hy=>?_⟩
 .refine fv.trans ?_ h.perm;rw [<- aY (A++B) X T,aY A X B,aY A B X];exact (eR.append_left A).append_right T
 .rcases aS.mp hy with h'|h'
  .exact s.2.2 x hx' y h'
  .exact h.lA x (bN _ hx') y h'
 .rcases aS.mp hy with h'|h'
  .exact hx y h' x hx'
  .exact h.lB x hx' y h'
theorem Mh.fin(h:Mh L T A B)(hx:∀x∈A,∀y∈B,kv x<=kv y):Srt (A++B++T)/\(A++B++T).Perm L:=by
 refine ⟨bS.mpr ⟨bS.mpr ⟨h.sA,h.sB,hx⟩,h.so,λx hx' y hy=>?_⟩,h.perm⟩;rcases aS.mp hx' with h'|h'
 .exact h.lA x h' y hy
 .exact h.lB x h' y hy
theorem zeT(a:Array bg)(k:Nat):(a.extract 0 k).toList=a.toList.take k:=by
 rw [eW,dA,drop_zero,Nat.sub_zero]
theorem zfn{n:Nat}{p:bg}(hn:i+1=n)(e:a[i]?=some p):a.toList.take n=a.toList.take i++[p]:=by
 rw [<- hn,di,bT,e];rfl
theorem zmq{k:Nat}(h:x∈a.toList.take k):∃j,j<k/\a[j]?=some x:=by
 have:=zhc (a:=a) (i:=0) (k:=k) (x:=x) (by rw [drop_zero];exact h);obtain ⟨j,hj,e⟩:=this;rw [dD] at e;exact ⟨j,hj,e⟩
theorem zkC{k:Nat}(h:∀j,j<k->K a j<=c):∀x∈a.toList.take k,kv x<=c:=λx hx=>by
 obtain ⟨j,hj,e⟩:=zmq hx;have:=h j hj;rw [zaB e] at this;exact this
theorem Mh.tk{out:Array bg}{k:Nat}(hik:i<=k)(m:Mh L out.toList.reverse (a.toList.take k) B)(h1:∀j,i<=j->j<k->c<=K a j)(h2:∀y∈B,kv y<=c):Mh L (out++(a.extract i k).reverse).toList.reverse (a.toList.take i) B:=by
 have e:a.toList.take k=a.toList.take i++(a.toList.drop i).take (k-i):=by
  rw [show k=i+(k-i) by lia,List.take_add];congr 2;lia
 have e2:(out++(a.extract i k).reverse).toList.reverse=(a.toList.drop i).take (k-i)++out.toList.reverse:=by
  rw [df,gL,gO,List.reverse_reverse,eW,dA]
 rw [e2];refine Mh.take (by rw [<- e];exact m) λx hx y hy=>?_;obtain ⟨j,hj,ej⟩:=zhc hx;have:=h1 (i+j) (by lia) (by lia);rw [zaB ej] at this;exact c7 (h2 y hy) this
section
variable {prog:aI}{w:aZ}{A:be}{E:Value->af->Prop}{s:af}
theorem zpI{b:Array bg}{Q:Array bg->bH->Prop}(hk:kindOf st=oneType')(iA:∀x∈a.toList,zaa x)(iB:∀x∈b.toList,zaa x)(sA:Srt a.toList)(sB:Srt b.toList)(a0:0<a.size)(b0:0<b.size)
  (h0:∀y,b[0]?=some y->∀x∈a.toList,kv y<=kv x) (hl:∀x,a[a.size-1]?=some x->∀y∈b.toList,kv y<=kv x) (h:∀o st',SG st st'->Srt o.toList->o.toList.Perm (a.toList++b.toList)->Q o st') :
  wpS (aC prog w) A E s (mHi a b) Q st:=by
 have iAt:∀{i p},a[i]?=some p->zaa p:=λ{i p} e=>iA p (by rw [<- bT] at e;exact aE e);have iBt:∀{i p},b[i]?=some p->zaa p:=λ{i p} e=>iB p (by rw [<- bT] at e;exact aE e);have dn:∀(out:Array bg)(na nb:Nat)(st':bH),SG st st'->Mh (a.toList++b.toList) out.toList.reverse (a.toList.take na) (b.toList.take nb)->(na=0\/nb=0)->SG st st'/\Srt (a.extract 0 na++b.extract 0 nb++out.reverse).toList/\(a.extract 0 na++b.extract 0 nb++out.reverse).toList.Perm (a.toList++b.toList):=λout na nb st' hs m hor=>by
  refine ⟨hs,?_⟩;rw [df,df,zeT,zeT,gL];refine m.fin λx hx y hy=>?_;rcases hor with e|e
  .rw [e] at hx;cases hx
  .rw [e] at hy;cases hy
 have fb:∀(out:Array bg)(na nb:Nat)(st':bH),SG st st'->Mh (a.toList++b.toList) out.toList.reverse (a.toList.take na) (b.toList.take nb)->nb=1->SG st st'/\Srt (b.extract 0 nb++a.extract 0 na++out.reverse).toList/\(b.extract 0 nb++a.extract 0 na++out.reverse).toList.Perm (a.toList++b.toList):=λout na nb st' hs m e=>by
  refine ⟨hs,?_⟩;rw [df,df,zeT,zeT,gL];refine m.symm.fin λy hy x hx=>?_;obtain ⟨j,hj,ej⟩:=zmq hy;have:j=0:=by lia
  subst this;exact h0 y ej x (gH hx)
 have mB:∀{out:Array bg}{na nb i:Nat}{p:bg},Mh (a.toList++b.toList) out.toList.reverse (a.toList.take na) (b.toList.take nb)->i+1=nb->b[i]?=some p->(∀x∈a.toList.take na,kv x<=kv p)->Mh (a.toList++b.toList) (out.push p).toList.reverse (a.toList.take na) (b.toList.take i):=λ{out na nb i p} m hi e hx=>by
  rw [zfn hi e] at m;rw [gA,gO];exact (Mh.take (X:=[p]) m.symm λx hx' y hy=>by rw [ax] at hx';subst hx';exact hx y hy).symm
 have mA:∀{out:Array bg}{na nb i:Nat}{p:bg},Mh (a.toList++b.toList) out.toList.reverse (a.toList.take na) (b.toList.take nb)->i+1=na->a[i]?=some p->(∀x∈b.toList.take nb,kv x<=kv p)->Mh (a.toList++b.toList) (out.push p).toList.reverse (a.toList.take i) (b.toList.take nb):=λ{out na nb i p} m hi e hx=>by
  rw [zfn hi e] at m;rw [gA,gO];exact Mh.take (X:=[p]) m λx hx' y hy=>by rw [ax] at hx';subst hx';exact hx y hy
 have hd:∀{c:Array bg}{i n:Nat}{p:bg}{v:Int},Srt (c.toList.take n)->i+1=n->c[i]?=some p->kv p<=v->∀x∈c.toList.take n,kv x<=v:=λ{c i n p v} sc hi e hv x hx=>by
  rw [zfn hi e] at sc hx;rcases aS.mp hx with hx|hx
  .exact c7 ((bS.mp sc).2.2 x hx p (by simp)) hv
  .rw [ax] at hx;subst hx;exact hv
 unfold mHi;refine aq (gY (cB ⟨rfl,?_⟩));obtain ⟨y0,ey0⟩:∃p,a[a.size-1]?=some p:=⟨_,getElem?_pos a _ (by lia)⟩;refine aq (zaq ey0 ?_);have m0:Mh (a.toList++b.toList) (#[y0]:Array bg).toList.reverse (a.toList.take (a.size-1)) (b.toList.take b.size):=by
  have ta:a.toList.take a.size=a.toList:=bo (by rw [bv];exact ae _);have tb:b.toList.take b.size=b.toList:=bo (by rw [bv];exact ae _);have:Mh (a.toList++b.toList) (#[]:Array bg).toList.reverse (a.toList.take a.size) (b.toList.take b.size):=by
   rw [ta,tb];exact ⟨by simp,.nil,sA,sB,λx _ y hy=>by simp at hy,λx _ y hy=>by simp at hy⟩
  exact mA this (show a.size-1+1=a.size by lia) ey0 (by rw [tb];exact hl y0 ey0)
 refine zaf (λha1=>?_) λha1=>?_
 .have ha1:a.size-1=0:=eq_of_beq ha1;obtain ⟨g1,g2,g3⟩:=dn _ (a.size-1) b.size st .refl m0 (.inl ha1);exact ay (h _ _ g1 g2 g3)
 have ha1 : ¬a.size-1=0:=λe=>ha1 (beq_iff_eq.mpr e);refine zaf (λhb1=>?_) λhb1=>?_
 .have hb1:b.size=1:=eq_of_beq hb1;obtain ⟨g1,g2,g3⟩:=fb _ (a.size-1) b.size st .refl m0 hb1;exact ay (h _ _ g1 g2 g3)
 have hb1 : ¬b.size=1:=λe=>hb1 (beq_iff_eq.mpr e);refine aq (gn ?_);refine aq (cH (bB
  (I:=λx c st'=>SG st st'/\∃na nb out mg,c=(none,na,nb,out,mg)/\Mh (a.toList++b.toList) out.toList.reverse (a.toList.take na) (b.toList.take nb)/\0<na/\na<a.size/\1<nb/\nb<=b.size/\na+nb+x+1<=a.size+b.size)
  (Q:=λc st'=>SG st st'/\∃o,c.1=some o/\Srt o.toList/\o.toList.Perm (a.toList++b.toList)) ?_ ?_ ⟨.refl,_,_,_,_,rfl,m0,by lia,by lia,by lia,by lia,by lia⟩) ?_)
 .rintro x c st' _ hx ⟨hs,na,nb,out,mg,rfl,m,hna,hna2,hnb,hnb2,hxx⟩;refine aq (cH (bB
   (I:=λy c st'=>SG st st'/\∃na' nb' out ac bc,c=(none,na',nb',out,ac,bc)/\Mh (a.toList++b.toList) out.toList.reverse (a.toList.take na') (b.toList.take nb')/\0<na'/\na'<a.size/\1<nb'/\nb'<=b.size/\na'+nb'+y<=na+nb)
   (Q:=λc st'=>SG st st'/\((∃o r,c=(some o,r)/\Srt o.toList/\o.toList.Perm (a.toList++b.toList))\/∃na' nb' out ac bc,c=(none,na',nb',out,ac,bc)/\Mh (a.toList++b.toList) out.toList.reverse (a.toList.take na') (b.toList.take nb')/\0<na'/\na'<a.size/\1<nb'/\nb'<=b.size/\na'+nb'<na+nb)) ?_ ?_ ⟨hs,na,nb,out,0,0,rfl,m,hna,hna2,hnb,hnb2,by lia⟩) ?_)
  .rintro y c st' _ hy ⟨hs,na',nb',out,ac,bc,rfl,m,hna,hna2,hnb,hnb2,hyy⟩;obtain ⟨pb,epb⟩:∃p,b[nb'-1]?=some p:=⟨_,getElem?_pos b _ (by lia)⟩;obtain ⟨pa,epa⟩:∃p,a[na'-1]?=some p:=⟨_,getElem?_pos a _ (by lia)⟩;refine aq (zaq epb (aq (zaq epa (aq (zdX (by rw [hs.k];exact hk) (iBt epb) (iAt epa) ?_)))));by_cases hlt:cV pb.1<cV pa.1
   .rw [decide_eq_true hlt];refine ziC ?_;refine aq (zaq epa ?_);have m':=mA m (show na'-1+1=na' by lia) epa (hd m.sB (show nb'-1+1=nb' by lia) epb (ci hlt));refine zaf (λhaz=>?_) λhaz=>?_
    .have haz:na'-1=0:=eq_of_beq haz;obtain ⟨g1,g2,g3⟩:=dn _ _ _ st' hs m' (.inl haz);exact ay ⟨g1,.inl ⟨_,_,rfl,g2,g3⟩⟩
    .have haz:0<na'-1:=Nat.pos_of_ne_zero λe=>haz (beq_iff_eq.mpr e);have y1:na'-1<a.size:=by lia
     exact zaf (λ_=>ay ⟨hs,.inr ⟨_,_,_,_,_,rfl,m',haz,y1,hnb,hnb2,by lia⟩⟩) λ_=>ay ⟨hs,_,_,_,_,_,rfl,m',haz,y1,hnb,hnb2,by lia⟩
   .rw [decide_eq_false hlt];refine zlr ?_;refine aq (zaq epb ?_);have m':=mB m (show nb'-1+1=nb' by lia) epb (hd m.sA (show na'-1+1=na' by lia) epa (fM.mp hlt));refine zaf (λhbz=>?_) λhbz=>?_
    .have hbz:nb'-1=1:=eq_of_beq hbz;obtain ⟨g1,g2,g3⟩:=fb _ _ _ st' hs m' hbz;exact ay ⟨g1,.inl ⟨_,_,rfl,g2,g3⟩⟩
    .have hbz : ¬nb'-1=1:=λe=>hbz (beq_iff_eq.mpr e);have y1:1<nb'-1:=by lia
     have y2:nb'-1<=b.size:=by lia
     exact zaf (λ_=>ay ⟨hs,.inr ⟨_,_,_,_,_,rfl,m',hna,hna2,y1,y2,by lia⟩⟩) λ_=>ay ⟨hs,_,_,_,_,_,rfl,m',hna,hna2,y1,y2,by lia⟩
  .rintro c st' ⟨hs,na',nb',out,ac,bc,rfl,m,hna,hna2,hnb,hnb2,hyy⟩;lia
  .rintro c st' ⟨hs,⟨o,r,rfl,g2,g3⟩|⟨na',nb',out,ac,bc,rfl,m,hna,hna2,hnb,hnb2,hyy⟩⟩
   .exact ay ⟨hs,o,rfl,g2,g3⟩
   refine aq (gY (cB ⟨rfl,?_⟩));refine aq (cH (bB
    (I:=λy c st'=>SG st st'/\∃na2 nb2 out mg ac bc,c=(none,na2,nb2,out,mg,ac,bc)/\Mh (a.toList++b.toList) out.toList.reverse (a.toList.take na2) (b.toList.take nb2)/\0<na2/\na2<a.size/\1<nb2/\nb2<=b.size/\na2+nb2+y<=na'+nb')
    (Q:=λc st'=>SG st st'/\((∃o r,c=(some o,r)/\Srt o.toList/\o.toList.Perm (a.toList++b.toList))\/∃na2 nb2 out mg ac bc,c=(none,na2,nb2,out,mg,ac,bc)/\Mh (a.toList++b.toList) out.toList.reverse (a.toList.take na2) (b.toList.take nb2)/\0<na2/\na2<a.size/\1<nb2/\nb2<=b.size/\na2+nb2<=na'+nb')) ?_ ?_ ⟨hs,na',nb',out,_,_,_,rfl,m,hna,hna2,hnb,hnb2,by lia⟩) ?_)
   .rintro y c st' _ hy ⟨hs,na2,nb2,out,mg2,ac,bc,rfl,m,hna,hna2,hnb,hnb2,hyy⟩
    try dsimp only
    obtain ⟨pb,epb⟩:∃p,b[nb2-1]?=some p:=⟨_,getElem?_pos b _ (by lia)⟩;generalize mg2-1=mg1;apply zk5 mg1 mg2;intro mg2;refine aq (zeX hs λst2 hs2=>?_);refine aq (zaq epb ?_);refine aq (zde (by rw [hs2.k];exact hk) (iBt epb) (λi h1 h2=>⟨_,getElem?_pos a i (by lia),iAt (getElem?_pos a i (by lia))⟩) (λi j _ hij hj=>sA.K hij (by lia)) (by lia) λk hkn f1 f2=>?_)
    try dsimp only
    generalize eac:na2-k=ac1;generalize eo1:out++(a.extract k na2).reverse=out1;have m1:=Mh.tk (a:=a) (i:=k) (k:=na2) (by lia) m (λj h1 h2=>by have:=zhN (f2 j h1 h2);rw [dD] at this;exact ci this) (hd m.sB (show nb2-1+1=nb2 by lia) epb (cc _));rw [eo1] at m1;apply zlW k out1 na2 out
    .intro _ z2;obtain ⟨g1,g2,g3⟩:=dn _ _ _ st2 hs2 m1 (.inl (by simpa using z2));exact ay ⟨g1,.inl ⟨_,_,rfl,g2,g3⟩⟩
    intro na1 out1 hor;have hge:∀x∈a.toList.take k,kv x<=kv pb:=zkC λj hj=>by have:=zh6 (f1 j hj);rw [dD] at this;exact this
    obtain ⟨q1,q2,m1,hge⟩:0<na1/\na1<=na2/\Mh (a.toList++b.toList) out1.toList.reverse (a.toList.take na1) (b.toList.take nb2)/\∀x∈a.toList.take na1,kv x<=kv pb:=by
     rcases hor with ⟨z1,z2,rfl,rfl⟩|⟨z1,rfl,rfl⟩
     .exact ⟨Nat.pos_of_ne_zero (by simpa using z2),by lia,m1,hge⟩
     .have e:k=na1:=by lia
      rw [e] at hge;exact ⟨hna,ae _,m,hge⟩
    clear hor;refine aq (zaq epb ?_)
    try dsimp only
    have m2:=mB m1 (show nb2-1+1=nb2 by lia) epb hge;obtain ⟨nb3,enb⟩:∃n,n=nb2-1:=⟨_,rfl⟩;rw [<- enb] at m2 ⊢;generalize out1.push pb=out2 at m2 ⊢;refine zaf (λz3=>?_) λz3=>?_
    .obtain ⟨g1,g2,g3⟩:=fb _ _ _ st2 hs2 m2 (by simpa using z3);exact ay ⟨g1,.inl ⟨_,_,rfl,g2,g3⟩⟩
    have z3:nb3≠1:=by simpa using z3
    obtain ⟨pa,epa⟩:∃p,a[na1-1]?=some p:=⟨_,getElem?_pos a _ (by lia)⟩;refine aq (zaq epa ?_);refine aq (zde (by rw [hs2.k];exact hk) (iAt epa) (λi h1 h2=>⟨_,getElem?_pos b i (by lia),iBt (getElem?_pos b i (by lia))⟩) (λi j _ hij hj=>sB.K hij (by lia)) (by lia) λk2 hk2 f3 f4=>?_)
    try dsimp only
    generalize ebc:nb3-k2=bc1;generalize eo3:out2++(b.extract k2 nb3).reverse=out3;have m3:=(Mh.tk (a:=b) (i:=k2) (k:=nb3) (by lia) m2.symm (λj h1 h2=>by have:=zgm (f4 j h1 h2);rw [dD] at this;exact this) (hd m2.sA (show na1-1+1=na1 by lia) epa (cc _))).symm;rw [eo3] at m3;apply zle k2 out3 nb3 out2
    .intro z4;obtain ⟨g1,g2,g3⟩:=fb _ _ _ st2 hs2 m3 (by simpa using z4);exact ay ⟨g1,.inl ⟨_,_,rfl,g2,g3⟩⟩
    .intro z7;obtain ⟨g1,g2,g3⟩:=dn _ _ _ st2 hs2 m3 (.inr (by simpa using z7));exact ay ⟨g1,.inl ⟨_,_,rfl,g2,g3⟩⟩
    intro nb4 out4 hor;have hge2:∀x∈b.toList.take k2,kv x<=kv pa:=zkC λj hj=>by have:=zgc (f3 j hj);rw [dD] at this;exact ci this
    obtain ⟨q3,q4,m3,hge2⟩:1<nb4/\nb4<=nb3/\Mh (a.toList++b.toList) out4.toList.reverse (a.toList.take na1) (b.toList.take nb4)/\∀x∈b.toList.take nb4,kv x<=kv pa:=by
     rcases hor with ⟨z4,z7,rfl,rfl⟩|⟨z4,rfl,rfl⟩
     .exact ⟨by have : nb4 ≠ 1 := by simpa using z4
                have : nb4 ≠ 0 := by simpa using z7
                lia, by lia, m3, hge2⟩
     .have e:k2=nb4:=by lia
      rw [e] at hge2;exact ⟨by lia,ae _,m2,hge2⟩
    clear hor;refine aq (zaq epa ?_)
    try dsimp only
    have m4:=mA m3 (show na1-1+1=na1 by lia) epa hge2;refine zaf (λz5=>?_) λz5=>?_
    .obtain ⟨g1,g2,g3⟩:=dn _ _ _ st2 hs2 m4 (.inl (by simpa using z5));exact ay ⟨g1,.inl ⟨_,_,rfl,g2,g3⟩⟩
    have z5:na1-1≠0:=by simpa using z5
    have y1:0<na1-1:=by lia
    have y2:na1-1<a.size:=by lia
    have y3:nb4<=b.size:=by lia
    refine zaf (λ_=>ay ⟨hs2,.inr ⟨_,_,_,_,_,_,rfl,m4,y1,y2,q3,y3,by lia⟩⟩) λ_=>ay ⟨hs2,_,_,_,_,_,_,rfl,m4,y1,y2,q3,y3,by lia⟩
   .rintro c st' ⟨hs,na2,nb2,out,mg2,ac,bc,rfl,m,hna,hna2,hnb,hnb2,hyy⟩;lia
   .rintro c st' ⟨hs,⟨o,r,rfl,g2,g3⟩|⟨na2,nb2,out,mg2,ac,bc,rfl,m,hna,hna2,hnb,hnb2,hyy⟩⟩
    .exact ay ⟨hs,o,rfl,g2,g3⟩
    exact aq (zeX hs λst2 hs2=>ay ⟨hs2,_,_,_,_,rfl,m,hna,hna2,hnb,hnb2,by lia⟩)
 .rintro c st' ⟨hs,na,nb,out,mg,rfl,m,hna,hna2,hnb,hnb2,hxx⟩;lia
 .rintro ⟨r,rest⟩ st' ⟨hs,o,e,g2,g3⟩;dsimp only at e;subst e;exact ay (h _ _ hs g2 g3)
end
structure SB(a₀:Array bg)(p0:Array (Nat×Nat×Nat))(lo:Nat)(st:bH):Prop where
 perm:(aB st).Perm a₀
 kind:kindOf st=oneType'
 failed:dz st=none
 pend:bM st=p0
 pre:∀k,k<lo->(aB st)[k]?=a₀[k]?
theorem SB.size{p0:Array (Nat×Nat×Nat)}(h:SB a₀ p0 lo st):(aB st).size=a₀.size:=h.perm.size_eq
def zar(xs:Array bg)(lo m:Nat):Prop:=∀i j,lo<=i->i<=j->j<lo+m->K xs i<=K xs j
def zbe(xs:Array bg)(lo m:Nat):Prop:=∀i j,lo<=i->i<=j->j<lo+m->K xs j<=K xs i
theorem zar.snoc{m:Nat}(h:zar xs lo m)(h1:1<=m)(h2:K xs (lo+m-1)<=K xs (lo+m)):zar xs lo (m+1):=λi j hi hij hj=>by
 by_cases hjx:j<lo+m
 .exact h i j hi hij hjx
 .have hj':j=lo+m:=by lia
  subst hj';by_cases hi':i=lo+m
  .subst hi';exact cc _
  .exact c7 (h i (lo+m-1) hi (by lia) (by lia)) h2
theorem zbe.snoc{m:Nat}(h:zbe xs lo m)(h1:1<=m)(h2:K xs (lo+m)<=K xs (lo+m-1)):zbe xs lo (m+1):=λi j hi hij hj=>by
 by_cases hjx:j<lo+m
 .exact h i j hi hij hjx
 .have hj':j=lo+m:=by lia
  subst hj';by_cases hi':i=lo+m
  .subst hi';exact cc _
  .exact c7 h2 (h i (lo+m-1) hi (by lia) (by lia))
section
variable {prog:aI}{w:aZ}{A:be}{E:Value->af->Prop}{s:af}{a₀:Array bg}{p0:Array (Nat×Nat×Nat)}{lo:Nat}
theorem zbC(hB:SB a₀ p0 lo st)(iK:∀x∈a₀.toList,zaa x)(hi:i<a₀.size)(hj:j<a₀.size)(h:Q (some (decide (K (aB st) i<K (aB st) j))) st):wpS (aC prog w) A E s (ltAt' i j) Q st:=by
 have at_:∀{i},i<a₀.size->∃p,(aB st)[i]?=some p/\zaa p:=λ{i} hi=>by
  have hi':i<(aB st).size:=by rw [hB.size];exact hi
  exact ⟨_,getElem?_pos _ i hi',iK _ ((dM.mp hB.perm).mem_iff.mp (by simp))⟩
 obtain ⟨p,e1,i1⟩:=at_ hi;obtain ⟨q,e2,i2⟩:=at_ hj;rw [zaB e1,zaB e2] at h;rw [ltAt'_eq];exact aq (gn (aq (zaq e1 (aq (zaq e2 (zdX hB.kind i1 i2 h))))))
theorem zb3{Q:Unit->bH->Prop}(hB:SB a₀ p0 lo st)(hi:lo<=i)(hj:j<=a₀.size)(h:∀st1,SB a₀ p0 lo st1->(∀k,K (aB st1) k=if i<=k/\k<j then K (aB st) (i+j-1-k) else K (aB st) k)->Q () st1):wpS (aC prog w) A E s (reverseSlice' i j) Q st:=by
 rw [reverseSlice'_eq];have hj':j<=(aB st).size:=by rw [hB.size];exact hj
 refine fK (h _ ⟨(mirror_perm _ _ _ _).trans hB.perm,hB.kind,hB.failed,hB.pend,λk hk=>?_⟩ (K_mirror hj'));show (mirror (aB st) i j ((j-i) / 2))[k]?=_;rw [getElem?_mirror_all hj',if_neg (by lia)];exact hB.pre k hk
theorem ztz{nrem:Nat}{Q:Option Nat->bH->Prop}(iK:∀x∈a₀.toList,zaa x)(hn:lo+nrem<=a₀.size)(h1:1<=nrem)(hB:SB a₀ p0 lo st)
  (h:∀m st',SB a₀ p0 lo st'->1<=m->m<=nrem->zar (aB st') lo m->Q (some m) st'):wpS (aC prog w) A E s (countRun' lo nrem) Q st:=by
 unfold countRun';refine aq (cH (bB (I:=λx c st'=>st'=st/\c=(none,x)/\zar (aB st) lo x)
  (Q:=λc st'=>st'=st/\∃mm,c=(none,mm)/\1<=mm/\mm<=nrem/\zar (aB st) lo mm/\(mm=nrem\/K (aB st) (lo+mm)<K (aB st) (lo+mm-1))) ?_ ?_ ⟨rfl,rfl,λi j h1 h2 h3=>by rw [show i=j by lia];exact cc _⟩) ?_)
 .rintro x c st' hax hxn ⟨rfl,rfl,hs'⟩
  try dsimp only
  refine aq (zbC hB iK (by lia) (by lia) ?_)
  try dsimp only
  by_cases hless:K (aB st') (lo+x)<K (aB st') (lo+x-1)
  .rw [decide_eq_true hless,if_pos rfl];exact ay ⟨rfl,x,rfl,hax,by lia,hs',.inr hless⟩
  .rw [decide_eq_false hless,if_neg (by decide)];exact ay ⟨rfl,rfl,hs'.snoc (by lia) (fM.mp hless)⟩
 .rintro c st' ⟨rfl,rfl,hs'⟩;rw [show max 1 nrem=nrem by lia] at hs' ⊢;exact ⟨rfl,nrem,rfl,by lia,ae _,hs',.inl rfl⟩
 .rintro c st' ⟨rfl,n,rfl,hn1,hn2,hsn,hor⟩
  try dsimp only
  by_cases hnn:n=nrem
  .rw [if_pos (by simpa using hnn)];exact ay (h n _ hB hn1 hn2 hsn)
  rw [if_neg (by simpa using hnn)];have hlt:=hor.resolve_left hnn;by_cases hgt:n>1
  .rw [if_pos hgt];refine aq (zbC hB iK (by lia) (by lia) ?_)
   try dsimp only
   by_cases hrose:K (aB st') lo<K (aB st') (lo+n-1)
   .rw [decide_eq_true hrose,if_pos rfl];exact ay (h n _ hB hn1 hn2 hsn)
   .rw [decide_eq_false hrose,if_neg (by decide)];have hall:∀k,lo<=k->k<lo+n->K (aB st') k=K (aB st') (lo+n-1):=λk g1 g2=>by
     have a1:=hsn lo k (ae _) g1 g2;have a2:=hsn k (lo+n-1) g1 (by lia) (by lia);lia
    refine aq (zb3 hB (ae _) (show lo+n<=a₀.size by lia) λst1 hB1 hK1=>?_);have hK2:∀k,K (aB st1) k=K (aB st') k:=λk=>by
     rw [hK1];split
     .rw [hall _ (by lia) (by lia),hall k (by lia) (by lia)]
     .rfl
    have hd1:zbe (aB st1) lo (n+1):=by
     refine zbe.snoc (λi j g1 g2 g3=>?_) (by lia) (by rw [hK2,hK2];exact ci hlt);rw [hK2,hK2,hall i g1 (by lia),hall j (by lia) g3];exact cc _
    refine aq (gY (cB ⟨rfl,?_⟩))
    try dsimp only
    refine aq (cH (bB (I:=λx c st'=>∃neq,c=(none,x,neq)/\SB a₀ p0 lo st'/\zbe (aB st') lo x/\neq+1<=x/\∀i,lo+x-(neq+1)<=i->i<lo+x->K (aB st') i=K (aB st') (lo+x-1))
     (Q:=λc st'=>∃m neq,c=(none,m,neq)/\n+1<=m/\m<=nrem/\SB a₀ p0 lo st'/\zbe (aB st') lo m/\neq+1<=m/\∀i,lo+m-(neq+1)<=i->i<lo+m->K (aB st') i=K (aB st') (lo+m-1)) ?_ ?_ ⟨0,rfl,hB1,hd1,by lia,λi h1 h2=>by rw [show i=lo+(n+1)-1 by lia]⟩) ?_)
    .rintro x c st' hax hxn ⟨neq,rfl,hB',hs',hq,he⟩
     try dsimp only
     refine aq (zbC hB' iK (by lia) (by lia) ?_)
     try dsimp only
     by_cases hless:K (aB st') (lo+x)<K (aB st') (lo+x-1)
     .rw [decide_eq_true hless,if_pos rfl];by_cases hneq:neq>0
      .rw [if_pos hneq];refine aq (zb3 hB' (show lo<=lo+x-(neq+1) by lia) (show lo+x<=a₀.size by lia) λst5 hB5 hK5=>ay ⟨0,rfl,hB5,?_,by lia,λi h1 h2=>by rw [show i=lo+(x+1)-1 by lia]⟩);have hK6:∀k,K (aB st5) k=K (aB st') k:=λk=>by
        rw [hK5];split
        .rw [he _ (by lia) (by lia),he k (by lia) (by lia)]
        .rfl
       intro i j h1 h2 h3;rw [hK6,hK6];exact hs'.snoc (by lia) (ci hless) i j h1 h2 h3
      .rw [if_neg hneq];exact ay ⟨0,rfl,hB',hs'.snoc (by lia) (ci hless),by lia,λi h1 h2=>by rw [show i=lo+(x+1)-1 by lia]⟩
     .rw [decide_eq_false hless,if_neg (by decide)];refine aq (zbC hB' iK (by lia) (by lia) ?_)
      try dsimp only
      by_cases hlarger:K (aB st') (lo+x-1)<K (aB st') (lo+x)
      .rw [decide_eq_true hlarger,if_pos rfl];exact ay ⟨x,neq,rfl,hax,by lia,hB',hs',hq,he⟩
      .rw [decide_eq_false hlarger,if_neg (by decide)];have heqx:K (aB st') (lo+x)=K (aB st') (lo+x-1):=by lia
       refine ay ⟨neq+1,rfl,hB',hs'.snoc (by lia) (by lia),by lia,λi h1 h2=>?_⟩;rw [show lo+(x+1)-1=lo+x by lia,heqx];by_cases hix:i=lo+x
       .rw [hix];exact heqx
       .exact he i (by lia) (by lia)
    .rintro c st' ⟨neq,rfl,hB',hs',hq,he⟩;rw [show max (n+1) nrem=nrem by lia] at hs' hq he ⊢;exact ⟨nrem,neq,rfl,by lia,ae _,hB',hs',hq,he⟩
    .rintro c st2 ⟨m,neq,rfl,hm1,hm2,hB2,hs2,hq,he⟩
     try dsimp only
     by_cases hneq:neq>0
     .rw [if_pos hneq];refine aq (zb3 hB2 (show lo<=lo+m-(neq+1) by lia) (show lo+m<=a₀.size by lia) λst3 hB3 hK3=>?_);have hK6:∀k,K (aB st3) k=K (aB st2) k:=λk=>by
       rw [hK3];split
       .rw [he _ (by lia) (by lia),he k (by lia) (by lia)]
       .rfl
      have hs3:zbe (aB st3) lo m:=λi j h1 h2 h3=>by
       rw [hK6,hK6];exact hs2 i j h1 h2 h3
      refine aq (zb3 hB3 (ae _) (show lo+m<=a₀.size by lia) λst4 hB4 hK4=>?_)
      try dsimp only
      have hs4:zar (aB st4) lo m:=λi j h1 h2 h3=>by
       rw [hK4,hK4,if_pos ⟨h1,by lia⟩,if_pos ⟨by lia,h3⟩];exact hs3 _ _ (by lia) (by lia) (by lia)
      refine aq (cH (bB (I:=λx c st'=>st'=st4/\c=(none,x)/\zar (aB st4) lo x)
       (Q:=λc st'=>st'=st4/\∃mm,c=(none,mm)/\m<=mm/\mm<=nrem/\zar (aB st4) lo mm/\(mm=nrem\/K (aB st4) (lo+mm)<K (aB st4) (lo+mm-1))) ?_ ?_ ⟨rfl,rfl,hs4⟩) ?_)
      .rintro x c st' hax hxn ⟨rfl,rfl,hs'⟩
       try dsimp only
       refine aq (zbC hB4 iK (by lia) (by lia) ?_)
       try dsimp only
       by_cases hless:K (aB st') (lo+x)<K (aB st') (lo+x-1)
       .rw [decide_eq_true hless,if_pos rfl];exact ay ⟨rfl,x,rfl,hax,by lia,hs',.inr hless⟩
       .rw [decide_eq_false hless,if_neg (by decide)];exact ay ⟨rfl,rfl,hs'.snoc (by lia) (fM.mp hless)⟩
      .rintro c st' ⟨rfl,rfl,hs'⟩;rw [show max m nrem=nrem by lia] at hs' ⊢;exact ⟨rfl,nrem,rfl,by lia,ae _,hs',.inl rfl⟩
      .rintro c st' ⟨rfl,m',rfl,h1,h2,h3,_⟩;exact ay (h m' _ hB4 (by lia) h2 h3)
     .rw [if_neg hneq];have hs3:=hs2;refine aq (zb3 hB2 (ae _) (show lo+m<=a₀.size by lia) λst4 hB4 hK4=>?_)
      try dsimp only
      have hs4:zar (aB st4) lo m:=λi j h1 h2 h3=>by
       rw [hK4,hK4,if_pos ⟨h1,by lia⟩,if_pos ⟨by lia,h3⟩];exact hs3 _ _ (by lia) (by lia) (by lia)
      refine aq (cH (bB (I:=λx c st'=>st'=st4/\c=(none,x)/\zar (aB st4) lo x)
       (Q:=λc st'=>st'=st4/\∃mm,c=(none,mm)/\m<=mm/\mm<=nrem/\zar (aB st4) lo mm/\(mm=nrem\/K (aB st4) (lo+mm)<K (aB st4) (lo+mm-1))) ?_ ?_ ⟨rfl,rfl,hs4⟩) ?_)
      .rintro x c st' hax hxn ⟨rfl,rfl,hs'⟩
       try dsimp only
       refine aq (zbC hB4 iK (by lia) (by lia) ?_)
       try dsimp only
       by_cases hless:K (aB st') (lo+x)<K (aB st') (lo+x-1)
       .rw [decide_eq_true hless,if_pos rfl];exact ay ⟨rfl,x,rfl,hax,by lia,hs',.inr hless⟩
       .rw [decide_eq_false hless,if_neg (by decide)];exact ay ⟨rfl,rfl,hs'.snoc (by lia) (fM.mp hless)⟩
      .rintro c st' ⟨rfl,rfl,hs'⟩;rw [show max m nrem=nrem by lia] at hs' ⊢;exact ⟨rfl,nrem,rfl,by lia,ae _,hs',.inl rfl⟩
      .rintro c st' ⟨rfl,m',rfl,h1,h2,h3,_⟩;exact ay (h m' _ hB4 (by lia) h2 h3)
  .rw [if_neg hgt];have hn1':n=1:=by lia
   have hB1:=hB;have hd1:zbe (aB st') lo (n+1):=zbe.snoc (λi j g1 g2 g3=>by rw [show i=j by lia];exact cc _) (by lia) (ci hlt);refine aq (gY (cB ⟨rfl,?_⟩))
   try dsimp only
   refine aq (cH (bB (I:=λx c st'=>∃neq,c=(none,x,neq)/\SB a₀ p0 lo st'/\zbe (aB st') lo x/\neq+1<=x/\∀i,lo+x-(neq+1)<=i->i<lo+x->K (aB st') i=K (aB st') (lo+x-1))
    (Q:=λc st'=>∃m neq,c=(none,m,neq)/\n+1<=m/\m<=nrem/\SB a₀ p0 lo st'/\zbe (aB st') lo m/\neq+1<=m/\∀i,lo+m-(neq+1)<=i->i<lo+m->K (aB st') i=K (aB st') (lo+m-1)) ?_ ?_ ⟨0,rfl,hB1,hd1,by lia,λi h1 h2=>by rw [show i=lo+(n+1)-1 by lia]⟩) ?_)
   .rintro x c st' hax hxn ⟨neq,rfl,hB',hs',hq,he⟩
    try dsimp only
    refine aq (zbC hB' iK (by lia) (by lia) ?_)
    try dsimp only
    by_cases hless:K (aB st') (lo+x)<K (aB st') (lo+x-1)
    .rw [decide_eq_true hless,if_pos rfl];by_cases hneq:neq>0
     .rw [if_pos hneq];refine aq (zb3 hB' (show lo<=lo+x-(neq+1) by lia) (show lo+x<=a₀.size by lia) λst5 hB5 hK5=>ay ⟨0,rfl,hB5,?_,by lia,λi h1 h2=>by rw [show i=lo+(x+1)-1 by lia]⟩);have hK6:∀k,K (aB st5) k=K (aB st') k:=λk=>by
       rw [hK5];split
       .rw [he _ (by lia) (by lia),he k (by lia) (by lia)]
       .rfl
      intro i j h1 h2 h3;rw [hK6,hK6];exact hs'.snoc (by lia) (ci hless) i j h1 h2 h3
     .rw [if_neg hneq];exact ay ⟨0,rfl,hB',hs'.snoc (by lia) (ci hless),by lia,λi h1 h2=>by rw [show i=lo+(x+1)-1 by lia]⟩
    .rw [decide_eq_false hless,if_neg (by decide)];refine aq (zbC hB' iK (by lia) (by lia) ?_)
     try dsimp only
     by_cases hlarger:K (aB st') (lo+x-1)<K (aB st') (lo+x)
     .rw [decide_eq_true hlarger,if_pos rfl];exact ay ⟨x,neq,rfl,hax,by lia,hB',hs',hq,he⟩
     .rw [decide_eq_false hlarger,if_neg (by decide)];have heqx:K (aB st') (lo+x)=K (aB st') (lo+x-1):=by lia
      refine ay ⟨neq+1,rfl,hB',hs'.snoc (by lia) (by lia),by lia,λi h1 h2=>?_⟩;rw [show lo+(x+1)-1=lo+x by lia,heqx];by_cases hix:i=lo+x
      .rw [hix];exact heqx
      .exact he i (by lia) (by lia)
   .rintro c st' ⟨neq,rfl,hB',hs',hq,he⟩;rw [show max (n+1) nrem=nrem by lia] at hs' hq he ⊢;exact ⟨nrem,neq,rfl,by lia,ae _,hB',hs',hq,he⟩
   .rintro c st2 ⟨m,neq,rfl,hm1,hm2,hB2,hs2,hq,he⟩
    try dsimp only
    by_cases hneq:neq>0
    .rw [if_pos hneq];refine aq (zb3 hB2 (show lo<=lo+m-(neq+1) by lia) (show lo+m<=a₀.size by lia) λst3 hB3 hK3=>?_);have hK6:∀k,K (aB st3) k=K (aB st2) k:=λk=>by
      rw [hK3];split
      .rw [he _ (by lia) (by lia),he k (by lia) (by lia)]
      .rfl
     have hs3:zbe (aB st3) lo m:=λi j h1 h2 h3=>by
      rw [hK6,hK6];exact hs2 i j h1 h2 h3
     refine aq (zb3 hB3 (ae _) (show lo+m<=a₀.size by lia) λst4 hB4 hK4=>?_)
     try dsimp only
     have hs4:zar (aB st4) lo m:=λi j h1 h2 h3=>by
      rw [hK4,hK4,if_pos ⟨h1,by lia⟩,if_pos ⟨by lia,h3⟩];exact hs3 _ _ (by lia) (by lia) (by lia)
     refine aq (cH (bB (I:=λx c st'=>st'=st4/\c=(none,x)/\zar (aB st4) lo x)
      (Q:=λc st'=>st'=st4/\∃mm,c=(none,mm)/\m<=mm/\mm<=nrem/\zar (aB st4) lo mm/\(mm=nrem\/K (aB st4) (lo+mm)<K (aB st4) (lo+mm-1))) ?_ ?_ ⟨rfl,rfl,hs4⟩) ?_)
     .rintro x c st' hax hxn ⟨rfl,rfl,hs'⟩
      try dsimp only
      refine aq (zbC hB4 iK (by lia) (by lia) ?_)
      try dsimp only
      by_cases hless:K (aB st') (lo+x)<K (aB st') (lo+x-1)
      .rw [decide_eq_true hless,if_pos rfl];exact ay ⟨rfl,x,rfl,hax,by lia,hs',.inr hless⟩
      .rw [decide_eq_false hless,if_neg (by decide)];exact ay ⟨rfl,rfl,hs'.snoc (by lia) (fM.mp hless)⟩
     .rintro c st' ⟨rfl,rfl,hs'⟩;rw [show max m nrem=nrem by lia] at hs' ⊢;exact ⟨rfl,nrem,rfl,by lia,ae _,hs',.inl rfl⟩
     .rintro c st' ⟨rfl,m',rfl,h1,h2,h3,_⟩;exact ay (h m' _ hB4 (by lia) h2 h3)
    .rw [if_neg hneq];have hs3:=hs2;refine aq (zb3 hB2 (ae _) (show lo+m<=a₀.size by lia) λst4 hB4 hK4=>?_)
     try dsimp only
     have hs4:zar (aB st4) lo m:=λi j h1 h2 h3=>by
      rw [hK4,hK4,if_pos ⟨h1,by lia⟩,if_pos ⟨by lia,h3⟩];exact hs3 _ _ (by lia) (by lia) (by lia)
     refine aq (cH (bB (I:=λx c st'=>st'=st4/\c=(none,x)/\zar (aB st4) lo x)
      (Q:=λc st'=>st'=st4/\∃mm,c=(none,mm)/\m<=mm/\mm<=nrem/\zar (aB st4) lo mm/\(mm=nrem\/K (aB st4) (lo+mm)<K (aB st4) (lo+mm-1))) ?_ ?_ ⟨rfl,rfl,hs4⟩) ?_)
     .rintro x c st' hax hxn ⟨rfl,rfl,hs'⟩
      try dsimp only
      refine aq (zbC hB4 iK (by lia) (by lia) ?_)
      try dsimp only
      by_cases hless:K (aB st') (lo+x)<K (aB st') (lo+x-1)
      .rw [decide_eq_true hless,if_pos rfl];exact ay ⟨rfl,x,rfl,hax,by lia,hs',.inr hless⟩
      .rw [decide_eq_false hless,if_neg (by decide)];exact ay ⟨rfl,rfl,hs'.snoc (by lia) (fM.mp hless)⟩
     .rintro c st' ⟨rfl,rfl,hs'⟩;rw [show max m nrem=nrem by lia] at hs' ⊢;exact ⟨rfl,nrem,rfl,by lia,ae _,hs',.inl rfl⟩
     .rintro c st' ⟨rfl,m',rfl,h1,h2,h3,_⟩;exact ay (h m' _ hB4 (by lia) h2 h3)
theorem zsK{n ok:Nat}{Q:Bool->bH->Prop}(iK:∀x∈a₀.toList,zaa x)(hn:lo+n<=a₀.size)(hok:ok<=n)(hB:SB a₀ p0 lo st)(hs:zar (aB st) lo ok)
  (h:∀st',SB a₀ p0 lo st'->zar (aB st') lo n->Q true st'):wpS (aC prog w) A E s (binarySort' lo n ok) Q st:=by
 unfold binarySort';refine aq (cH (bB (I:=λk c st'=>c=(none,())/\SB a₀ p0 lo st'/\zar (aB st') lo (min k n))
  (Q:=λc st'=>c=(none,())/\SB a₀ p0 lo st'/\zar (aB st') lo n) ?_ ?_ ?_) ?_)
 .rintro k c st' hak hkn ⟨rfl,hB',hs'⟩;rw [show min k n=k by lia] at hs'
  try dsimp only
  refine aq (cH (bB (I:=λx c st''=>st''=st'/\∃l r,c=(none,l,r)/\l<=r/\r<=k/\r-l<=k-x /\
    (∀i,i<l->K (aB st') (lo+i)<=K (aB st') (lo+k))/\(∀i,r<=i->i<k->K (aB st') (lo+k)<K (aB st') (lo+i)))
   (Q:=λc st''=>st''=st'/\∃l r,c=(none,l,r)/\l<=k /\
    (∀i,i<l->K (aB st') (lo+i)<=K (aB st') (lo+k))/\(∀i,l<=i->i<k->K (aB st') (lo+k)<K (aB st') (lo+i))) ?_ ?_ ⟨rfl,0,k,rfl,by lia,by lia,by lia,λi hi=>by lia,λi h1 h2=>by lia⟩) ?_)
  .rintro x c st'' _ hxk ⟨rfl,l,r,rfl,hlr,hrk,hm,hlo,hhi⟩
   try dsimp only
   by_cases hge:l ≥ r
   .rw [if_pos hge];have:l=r:=by lia
    subst this;exact ay ⟨rfl,l,l,rfl,hrk,hlo,hhi⟩
   .rw [if_neg hge];refine aq (zbC hB' iK (by lia) (by lia) ?_)
    try dsimp only
    by_cases hless:K (aB st'') (lo+k)<K (aB st'') (lo+(l+r) / 2)
    .rw [decide_eq_true hless,if_pos rfl];exact ay ⟨rfl,l,(l+r) / 2,rfl,by lia,by lia,by lia,hlo,λi h1 h2=>Int.lt_of_lt_of_le hless (hs' _ _ (by lia) (by lia) (by lia))⟩
    .rw [decide_eq_false hless,if_neg (by decide)];exact ay ⟨rfl,(l+r) / 2+1,r,rfl,by lia,by lia,by lia,λi h1=>c7 (hs' (lo+i) (lo+(l+r) / 2) (by lia) (by lia) (by lia)) (fM.mp hless),hhi⟩
  .rintro c st'' ⟨rfl,l,r,rfl,hlr,hrk,hm,hlo,hhi⟩;have:l=r:=by lia
   subst this;exact ⟨rfl,l,l,rfl,hrk,hlo,hhi⟩
  .rintro c st'' ⟨rfl,l,r,rfl,hlk,hlo,hhi⟩;show wpS _ _ _ _ (do moveDown' (lo+k) (lo+l);pure (ForInStep.yield (none,()))) _ _;rw [moveDown'_eq];have hks:lo+k<(aB st'').size:=by rw [hB'.size];lia
   refine aq (fK (ay ⟨rfl,⟨(bubble_perm _ _ _).trans hB'.perm,hB'.kind,hB'.failed,hB'.pend,λj hj=>?_⟩,?_⟩))
   .show (bubble (aB st'') (lo+k) (lo+k-(lo+l)))[j]?=_;rw [getElem?_bubble hks _ (by lia),if_neg (by lia),if_neg (by lia)];exact hB'.pre j hj
   .rw [show min (k+1) n=k+1 by lia];intro i j hi hij hj;show K (bubble (aB st'') (lo+k) (lo+k-(lo+l))) i<=K (bubble (aB st'') (lo+k) (lo+k-(lo+l))) j;rw [K_bubble hks (by lia),K_bubble hks (by lia),show lo+k-(lo+k-(lo+l))=lo+l by lia];have g1:∀i,lo<=i->i<lo+l->K (aB st'') i<=K (aB st'') (lo+k):=λi h1 h2=>by
     have:=hlo (i-lo) (by lia);rwa [show lo+(i-lo)=i by lia] at this
    have g2:∀i,lo+l<=i->i<lo+k->K (aB st'') (lo+k)<K (aB st'') i:=λi h1 h2=>by
     have:=hhi (i-lo) (by lia) (by lia);rwa [show lo+(i-lo)=i by lia] at this
    repeat' split
    all_goals first
     | (exfalso;lia)
     | exact cc _
     | exact g1 _ (by lia) (by lia)
     | exact ci (g2 _ (by lia) (by lia))
     | exact hs' _ _ (by lia) (by lia) (by lia)
 .rintro c st' ⟨hc,hB',hs'⟩;refine ⟨hc,hB',?_⟩;rwa [show min (max (max ok 1) n) n=n by lia] at hs'
 .refine ⟨rfl,hB,λi j hi hij hj=>?_⟩;by_cases h1:ok=0
  .rw [show i=j by lia];exact cc _
  .exact hs i j hi hij (by lia)
 .rintro c st' ⟨rfl,hB',hs'⟩;exact ay (h st' hB' hs')
theorem zo9{st1:bH}{Q:PUnit->bH->Prop}(h:Q ⟨⟩ st1):wpS (aC prog w) A E s (set st1:StateT bH Sem PUnit) Q st:=by
 unfold wpS;show aH _ _ ((MonadStateOf.set st1:StateT bH Sem PUnit).run st) _ _ _;rw [StateT.run_set];exact ar ⟨rfl,h⟩
theorem zlQ(off:Nat):∀(o:List bg)(j:Nat)(arr:Array bg)(P Z S:List bg),arr.toList=P++Z++S->P.length=off+j->Z.length=o.length ->
  (foldl (λ(a:Array bg)(x:bg×Nat)=>match x with|(p,j)=>a.setIfInBounds (off+j) p) arr (o.zipIdx j)).toList=P++o++S
 | [],j,arr,P,Z,S,h,_,hz=>by
  have:Z=[]:=cR.mp hz;subst this;exact h
 | p::o,j,arr,P,[],S,_,_,hz=>by cases hz
 | p::o,j,arr,P,z::Z,S,h,hp,hz=>by
  rw [iE,hJ];have h1:(arr.setIfInBounds (off+j) p).toList=(P++[p])++Z++S:=by
   rw [hX,h,aY,fX _ _ (by lia),hp,fV];simp
  have:=zlQ off o (j+1) _ (P++[p]) Z S h1 (by rw [aG,hp];rfl) (by simpa using hz);rw [show P++p::o=P++[p]++o by simp];exact this
theorem ziv{P R S:List bg}(h:xs.toList=P++R++S){p:bg}(e:R[i]?=some p):xs[P.length+i]?=some p:=by
 rw [<- bT,h,aY,c9 (by lia),show P.length+i-P.length=i by lia,dy (ak.mp e).1];exact e
theorem zsY{P RA RB S:List bg}{pw pw2:Nat}{Q:Bool->bH->Prop}(hk:kindOf st=oneType')(hf:dz st=none)(iK:∀x∈(aB st).toList,zaa x)(hL:(aB st).toList=P++RA++RB++S)
  (e1:(bM st)[i]?=some (P.length,RA.length,pw)) (e2:(bM st)[i+1]?=some (P.length+RA.length,RB.length,pw2)) (nA:RA≠[]) (nB:RB≠[]) (sA:Srt RA) (sB:Srt RB)
  (h:∀st' M,kindOf st'=oneType'->dz st'=none->(aB st').toList=P++M++S->M.Perm (RA++RB)->Srt M->bM st'=((bM st).setIfInBounds i (P.length,RA.length+RB.length,pw)).eraseIdxIfInBounds (i+1)->Q true st') :
  wpS (aC prog w) A E s (mergeAt' i) Q st:=by
 have lA:=eY.mpr nA;have lB:=eY.mpr nB;have hLa:(aB st).toList=P++RA++(RB++S):=by rw [hL,aY]
 have hLb:(aB st).toList=(P++RA)++RB++S:=hL;have atA:∀{i p},RA[i]?=some p->(aB st)[P.length+i]?=some p:=λ{i p} e=>ziv hLa e;have atB:∀{i p},RB[i]?=some p->(aB st)[P.length+RA.length+i]?=some p:=λ{i p} e=>by have:=ziv hLb e;rwa [aG] at this
 have inA:∀x∈RA,zaa x:=λx hx=>iK x (by rw [hL];simp [hx]);have inB:∀x∈RB,zaa x:=λx hx=>iK x (by rw [hL];simp [hx]);have soA:∀i j,i<=j->j<RA.length->K (aB st) (P.length+i)<=K (aB st) (P.length+j):=λi j hij hj=>by
  rw [zaB (atA (ah (show i<RA.length by lia))),zaB (atA (ah hj))];by_cases e:i=j
  .subst e;exact cc _
  .exact du.mp sA i j _ _ (by lia)
 have soB:∀i j,i<=j->j<RB.length->K (aB st) (P.length+RA.length+i)<=K (aB st) (P.length+RA.length+j):=λi j hij hj=>by
  rw [zaB (atB (ah (show i<RB.length by lia))),zaB (atB (ah hj))];by_cases e:i=j
  .subst e;exact cc _
  .exact du.mp sB i j _ _ (by lia)
 obtain ⟨b0,RB',rfl⟩:∃b0 RB',RB=b0::RB':=by
  cases RB with
  | nil=>exact absurd rfl nB
  | cons b0 r=>exact ⟨b0,r,rfl⟩
 have b0le:=sB.head (cc (kv b0));unfold mergeAt';refine aq (gn ?_)
 try dsimp only
 rw [show (bM st)[i]?=some (P.length,RA.length,pw) from e1,show (bM st)[i+1]?=some (P.length+RA.length,(b0::RB').length,pw2) from e2]
 try dsimp only
 refine aq (zo9 ?_);obtain ⟨st1,es1⟩:∃st1,st1=bH.mk' (kindOf st) (aB st) (((bM st).setIfInBounds i (P.length,RA.length+(b0::RB').length,pw)).eraseIdxIfInBounds (i+1)) (gallopOf st) (dz st):=⟨_,rfl⟩;have k1:kindOf st1=oneType':=by rw [es1];exact hk
 have f1:dz st1=none:=by rw [es1];exact hf
 have a1:aB st1=aB st:=by rw [es1]
 have p1:bM st1=((bM st).setIfInBounds i (P.length,RA.length+(b0::RB').length,pw)).eraseIdxIfInBounds (i+1):=by rw [es1]
 show wpS _ _ _ _ _ Q (bH.mk' (kindOf st) (aB st) (((bM st).setIfInBounds i (P.length,RA.length+(b0::RB').length,pw)).eraseIdxIfInBounds (i+1)) (gallopOf st) (dz st));rw [<- es1];have eb0:(aB st)[P.length+RA.length]?=some b0:=by have:=atB (i:=0) (p:=b0) rfl;rwa [Nat.add_zero] at this
 refine aq (zaq eb0 ?_);refine aq (zde k1 (inB b0 (by simp)) (λj h1 h2=>?_) (λj j' h1 h2 h3=>?_) (by lia) λk hkn g1 g2=>?_)
 .obtain ⟨p,ep⟩:∃p,RA[j-P.length]?=some p:=⟨_,ah (by lia)⟩;have:=atA ep;rw [show P.length+(j-P.length)=j by lia] at this;exact ⟨p,this,inA p (aE ep)⟩
 .have:=soA (j-P.length) (j'-P.length) (by lia) (by lia);rwa [show P.length+(j-P.length)=j by lia,show P.length+(j'-P.length)=j' by lia] at this
 have lA1:∀x∈RA.take k,kv x<=kv b0:=λx hx=>by
  obtain ⟨j,hj⟩:=cM hx;have hj2:=(ak.mp hj).1;rw [bI] at hj2;rw [dC (by lia)] at hj;have:=zh6 (g1 j (by lia));rw [zaB (atA hj)] at this;exact this
 have lX:∀x∈RA.drop k,kv b0<=kv x:=λx hx=>by
  obtain ⟨j,hj⟩:=cM hx;have hj2:=(ak.mp hj).1;rw [cF] at hj2;rw [fB] at hj;have:=zhN (g2 (k+j) (by lia) (by lia));rw [zaB (atA hj)] at this;exact ci this
 have plain:(∀x∈RA,∀y∈b0::RB',kv x<=kv y)->Q true st1:=λhle=>h st1 (RA++b0::RB') k1 f1 (by rw [a1,hL];simp) (fv.refl _) (bS.mpr ⟨sA,sB,hle⟩) p1
 try dsimp only
 by_cases hz:RA.length-k=0
 .rw [if_pos (by simpa using hz)];refine ay (plain λx hx y hy=>c7 (lA1 x ?_) (b0le y hy));rw [bo (by lia)];exact hx
 rw [if_neg (by simpa using hz)];obtain ⟨xl,exl⟩:∃xl,RA[RA.length-1]?=some xl:=⟨_,ah (by lia)⟩;have exl':(aB st)[P.length+k+(RA.length-k)-1]?=some xl:=by have:=atA exl;rwa [show P.length+(RA.length-1)=P.length+k+(RA.length-k)-1 by lia] at this
 have xlge:∀x∈RA,kv x<=kv xl:=λx hx=>by
  obtain ⟨j,hj⟩:=cM hx;have hj2:=(ak.mp hj).1;have:=soA j (RA.length-1) (by lia) (by lia);rw [zaB (atA hj),zaB (atA exl)] at this;exact this
 refine aq (zaq exl' ?_);refine aq (zde k1 (inA xl (aE exl)) (λj h1 h2=>?_) (λj j' h1 h2 h3=>?_) (by lia) λnb hnb g3 g4=>?_)
 .obtain ⟨p,ep⟩:∃p,(b0::RB')[j-(P.length+RA.length)]?=some p:=⟨_,ah (by lia)⟩;have:=atB ep;rw [show P.length+RA.length+(j-(P.length+RA.length))=j by lia] at this;exact ⟨p,this,inB p (aE ep)⟩
 .have:=soB (j-(P.length+RA.length)) (j'-(P.length+RA.length)) (by lia) (by lia);rwa [show P.length+RA.length+(j-(P.length+RA.length))=j by lia,show P.length+RA.length+(j'-(P.length+RA.length))=j' by lia] at this
 have lY:∀y∈(b0::RB').take nb,kv y<=kv xl:=λx hx=>by
  obtain ⟨j,hj⟩:=cM hx;have hj2:=(ak.mp hj).1;rw [bI] at hj2;rw [dC (by lia)] at hj;have:=zgc (g3 j (by lia));rw [zaB (atB hj)] at this;exact ci this
 have lB2:∀y∈(b0::RB').drop nb,kv xl<=kv y:=λx hx=>by
  obtain ⟨j,hj⟩:=cM hx;have hj2:=(ak.mp hj).1;rw [cF] at hj2;rw [fB] at hj;have:=zgm (g4 (nb+j) (by lia) (by lia));rw [zaB (atB hj)] at this;exact this
 try dsimp only
 by_cases hz2:nb=0
 .rw [if_pos (by simpa using hz2)];refine ay (plain λx hx y hy=>c7 (xlge x hx) (lB2 y ?_));rw [hz2];exact hy
 rw [if_neg (by simpa using hz2)];have ex:((aB st).extract (P.length+k) (P.length+RA.length)).toList=RA.drop k:=by
  rw [eW,dA,hLa,aY,<- List.drop_drop,List.drop_left,List.drop_append_of_le_length (by lia),gG (by rw [cF];lia),bo (by rw [cF];lia)]
 have ey:((aB st).extract (P.length+RA.length) (P.length+RA.length+nb)).toList=(b0::RB').take nb:=by
  rw [eW,dA,hLb,aY,<- aG,List.drop_left,show (P++RA).length+nb-(P++RA).length=nb by lia,gG (by lia)]
 have szx:((aB st).extract (P.length+k) (P.length+RA.length)).size=RA.length-k:=by rw [<- bv,ex,cF]
 have szy:((aB st).extract (P.length+RA.length) (P.length+RA.length+nb)).size=nb:=by rw [<- bv,ey,bI];lia
 have c1:∀x∈((aB st).extract (P.length+k) (P.length+RA.length)).toList,zaa x:=λx hx=>by rw [ex] at hx;exact inA x (fG hx)
 have c2:∀x∈((aB st).extract (P.length+RA.length) (P.length+RA.length+nb)).toList,zaa x:=λx hx=>by rw [ey] at hx;exact inB x (gH hx)
 have c3:Srt ((aB st).extract (P.length+k) (P.length+RA.length)).toList:=by rw [ex];exact sA.sublist (List.drop_sublist _ _)
 have c4:Srt ((aB st).extract (P.length+RA.length) (P.length+RA.length+nb)).toList:=by rw [ey];exact sB.sublist (List.take_sublist _ _)
 have c5:∀y,((aB st).extract (P.length+RA.length) (P.length+RA.length+nb))[0]?=some y->∀x∈((aB st).extract (P.length+k) (P.length+RA.length)).toList,kv y<=kv x:=λy ey0 x hx=>by
  rw [<- bT,ey,dC (by lia)] at ey0;cases ey0;rw [ex] at hx;exact lX x hx
 have c6:∀x,((aB st).extract (P.length+k) (P.length+RA.length))[((aB st).extract (P.length+k) (P.length+RA.length)).size-1]?=some x->∀y∈((aB st).extract (P.length+RA.length) (P.length+RA.length+nb)).toList,kv y<=kv x:=λx ex0 y hy=>by
  rw [szx,<- bT,ex,fB,show k+(RA.length-k-1)=RA.length-1 by lia,exl] at ex0;cases ex0;rw [ey] at hy;exact lY y hy
 have done_:∀(o:Array bg)(st2:bH),SG st1 st2->Srt o.toList->o.toList.Perm (((aB st).extract (P.length+k) (P.length+RA.length)).toList++((aB st).extract (P.length+RA.length) (P.length+RA.length+nb)).toList) ->
   Q true (bH.mk' (kindOf st2) (foldl (λ(a:Array bg)(x:bg×Nat)=>match x with|(p,j)=>a.setIfInBounds (P.length+k+j) p) (aB st2) o.toList.zipIdx) (bM st2) (gallopOf st2) (dz st2)):=λo st2 sg so pm=>by
  rw [ex,ey] at pm;have lo_:(RA.drop k++(b0::RB').take nb).length=o.toList.length:=pm.length_eq.symm;have e0:(aB st2).toList=(P++RA.take k)++(RA.drop k++(b0::RB').take nb)++((b0::RB').drop nb++S):=by
   rw [sg.a,a1,hL]
   conv=>lhs;rw [<- ck k RA,<- ck nb (b0::RB')]
   simp only [aY]
  have eo:=zlQ (P.length+k) o.toList 0 (aB st2) _ _ _ e0 (by rw [aG,bI];lia) lo_;refine h _ (RA.take k++o.toList++(b0::RB').drop nb) (sg.k.trans k1) (sg.f.trans f1) ?_ ?_ ?_ (sg.p.trans p1)
  .refine eo.trans ?_;simp only [aY]
  .refine fv.trans ((pm.append_left _).append_right _) ?_;rw [show RA.take k++(RA.drop k++(b0::RB').take nb)++(b0::RB').drop nb=(RA.take k++RA.drop k)++((b0::RB').take nb++(b0::RB').drop nb) by simp only [aY],ck,ck]
  .have sA':Srt (RA.take k++RA.drop k):=by rw [ck];exact sA
   have sB':Srt ((b0::RB').take nb++(b0::RB').drop nb):=by rw [ck];exact sB
   have qA:=bS.mp sA';have qB:=bS.mp sB';refine bS.mpr ⟨bS.mpr ⟨qA.1,so,λx hx y hy=>?_⟩,qB.2.1,λx hx y hy=>?_⟩
   .rcases aS.mp (pm.mem_iff.mp hy) with hy|hy
    .exact qA.2.2 x hx y hy
    .exact c7 (lA1 x hx) (b0le y (gH hy))
   .rcases aS.mp hx with hx|hx
    .exact c7 (lA1 x hx) (b0le y (fG hy))
    .rcases aS.mp (pm.mem_iff.mp hx) with hx|hx
     .exact c7 (xlge x (fG hx)) (lB2 y hy)
     .exact qB.2.2 x hx y hy
 try dsimp only
 by_cases hle:RA.length-k<=nb
 all_goals first|rw [if_pos hle]|rw [if_neg hle]
 .refine aq (zok k1 c1 c2 c3 c4 (by rw [szx];lia) (by rw [szy];lia) c5 c6 λo st2 sg so pm=>?_);refine aq (fK ?_);refine aq (gn (ay ?_));have:=done_ o st2 sg so pm;have ef:(dz st2).isNone=true:=by rw [sg.f,f1];rfl
  show Q (dz st2).isNone _;rw [ef];exact this
 .refine aq (zpI k1 c1 c2 c3 c4 (by rw [szx];lia) (by rw [szy];lia) c5 c6 λo st2 sg so pm=>?_);refine aq (fK ?_);refine aq (gn (ay ?_));have:=done_ o st2 sg so pm;have ef:(dz st2).isNone=true:=by rw [sg.f,f1];rfl
  show Q (dz st2).isNone _;rw [ef];exact this
end
def zao:List (Nat×Nat×Nat)->List (List bg)->Nat->Prop
 | [],[],_=>True
 | (o,n,_)::p,r::rs,off=>o=off/\n=r.length/\r≠[]/\Srt r/\zao p rs (off+r.length)
 | _,_,_=>False
theorem zao.len:∀{p:List (Nat×Nat×Nat)}{rs:List (List bg)}{off:Nat},zao p rs off->p.length=rs.length
 | [],[],_,_=>rfl
 | (_,_,_)::p,r::rs,off,h=>by rw [cq,cq,zao.len h.2.2.2.2]
 | [],_::_,_,h=>h.elim
 | _::_,[],_,h=>by cases h
theorem zao.flat:∀{p:List (Nat×Nat×Nat)}{rs:List (List bg)}{off:Nat},zao p rs off->rs.length<=rs.flatten.length
 | [],[],_,_=>ae _
 | (_,_,_)::p,r::rs,off,h=>by
  have h1:=zao.flat h.2.2.2.2;have h2:=eY.mpr h.2.2.1;rw [cq,cN,aG];lia
 | [],_::_,_,h=>h.elim
 | _::_,[],_,h=>by cases h
theorem zao.one:∀{p:List (Nat×Nat×Nat)}{rs:List (List bg)}{off:Nat},zao p rs off->rs.length<=1->Srt rs.flatten
 | [],[],_,_,_=>List.Pairwise.nil
 | (_,_,_)::p,[r],off,h,_=>by rw [cN,List.flatten_nil,cw];exact h.2.2.2.1
 | (_,_,_)::p,_::_::_,off,h,hl=>by simp at hl
 | [],_::_,_,h,_=>h.elim
 | _::_,[],_,h,_=>by cases h
theorem zao.push:∀{p:List (Nat×Nat×Nat)}{rs:List (List bg)}{off:Nat},zao p rs off->∀{r:List bg}{o n pw:Nat},r≠[]->Srt r->o=off+rs.flatten.length->n=r.length->zao (p++[(o,n,pw)]) (rs++[r]) off
 | [],[],_,_,r,o,n,pw,h1,h2,h3,h4=>⟨h3,h4,h1,h2,trivial⟩
 | (_,_,_)::p,r'::rs,off,h,r,o,n,pw,h1,h2,h3,h4=>⟨h.1,h.2.1,h.2.2.1,h.2.2.2.1,zao.push h.2.2.2.2 h1 h2 (by rw [h3,cN,aG];lia) h4⟩
 | [],_::_,_,h,_,_,_,_,_,_,_,_=>h.elim
 | _::_,[],_,h,_,_,_,_,_,_,_,_=>by cases h
theorem zao.mod(pw:Nat):∀{p:List (Nat×Nat×Nat)}{rs:List (List bg)}{off:Nat}(i:Nat),zao p rs off->zao (p.modify i λx=>match x with|(st,len,_)=>(st,len,pw)) rs off
 | [],rs,off,i,h=>by rw [List.modify_nil];exact h
 | (_,_,_)::p,r::rs,off,0,h=>by rw [List.modify_zero_cons];exact h
 | (_,_,_)::p,r::rs,off,i+1,h=>by rw [List.modify_succ_cons];exact ⟨h.1,h.2.1,h.2.2.1,h.2.2.2.1,zao.mod pw i h.2.2.2.2⟩
 | _::_,[],_,_,h=>by cases h
theorem zao.split:∀{p:List (Nat×Nat×Nat)}{rs:List (List bg)}{off:Nat}(i:Nat),zao p rs off->i+1<p.length->∃R1 r1 r2 R2 pw pw2,rs=R1++r1::r2::R2 /\
  p[i]?=some (off+R1.flatten.length,r1.length,pw)/\p[i+1]?=some (off+R1.flatten.length+r1.length,r2.length,pw2)/\r1≠[]/\r2≠[]/\Srt r1/\Srt r2 /\
  ∀M:List bg,M.length=r1.length+r2.length->Srt M->zao ((p.set i (off+R1.flatten.length,r1.length+r2.length,pw)).eraseIdx (i+1)) (R1++M::R2) off
 | (_,_,pw)::(_,_,pw2)::p,r1::r2::rs,off,0,⟨rfl,rfl,h1,h2,rfl,rfl,h3,h4,h5⟩,_=>⟨[],r1,r2,rs,pw,pw2,rfl,rfl,rfl,h1,h3,h2,h4,λM hM sM=>by
   refine ⟨rfl,hM.symm,?_,sM,?_⟩
   .rintro rfl;have:=eY.mpr h1;simp at hM;lia
   .rw [hM,<- im];exact h5⟩
 | (_,_,_)::p,r::rs,off,i+1,⟨rfl,rfl,h1,h2,h3⟩,hi=>by
  obtain ⟨R1,r1,r2,R2,pw,pw2,e,e1,e2,n1,n2,s1,s2,hM⟩:=zao.split i h3 (by simpa using hi);refine ⟨r::R1,r1,r2,R2,pw,pw2,by rw [e];rfl,?_,?_,n1,n2,s1,s2,λM l sM=>?_⟩
  .rw [d6,e1,cN,aG,im]
  .rw [d6,e2,cN,aG,im _ r.length]
  .rw [List.set_cons_succ,List.eraseIdx_cons_succ,cN,aG,<- im];exact ⟨rfl,rfl,h1,h2,hM M l sM⟩
 | [],_,_,_,_,hi=>by simp at hi
 | [_],_,_,0,_,hi=>by simp at hi
 | _::_,[],_,_,h,_=>by cases h
 | (_,_,_)::_::_,[_],_,0,h,_=>by cases h.2.2.2.2
structure SI(a₀:Array bg)(rs:List (List bg))(rest:List bg)(st:bH):Prop where
 kind:kindOf st=oneType'
 failed:dz st=none
 list:(aB st).toList=rs.flatten++rest
 perm:(aB st).Perm a₀
 runs:zao (bM st).toList rs 0
theorem SI.size{rs rest st}(h:SI a₀ rs rest st):rs.flatten.length+rest.length=a₀.size:=by
 have:=congrArg List.length h.list;rw [aG,bv,h.perm.size_eq] at this;exact this.symm
theorem SI.intK{rs rest st}(h:SI a₀ rs rest st)(iK:∀x∈a₀.toList,zaa x):∀x∈(aB st).toList,zaa x:=λx hx=>iK x ((dM.mp h.perm).mem_iff.mp hx)
theorem SI.found{rs rest st st' m}(h:SI a₀ rs rest st)(hB:SB (aB st) (bM st) rs.flatten.length st')(hs:zar (aB st') rs.flatten.length m)(h1:1<=m)(h2:rs.flatten.length+m<=a₀.size) :
  ∃R rest',SI a₀ rs (R++rest') st'/\R.length=m/\R≠[]/\Srt R:=by
 have sz:(aB st').toList.length=a₀.size:=by rw [bv,hB.size,h.perm.size_eq]
 have e1:(aB st').toList.take rs.flatten.length=rs.flatten:=by
  refine List.ext_getElem? λk=>?_;by_cases hk:k<rs.flatten.length
  .rw [dC hk,bT,hB.pre k hk,<- bT,h.list,dy hk]
  .rw [dY (by rw [bI];lia),dY (by lia)]
 have e2:(aB st').toList=rs.flatten++(((aB st').toList.drop rs.flatten.length).take m++((aB st').toList.drop rs.flatten.length).drop m):=by
  rw [ck]
  conv=>lhs;rw [<- ck rs.flatten.length (aB st').toList,e1]
 have lR:(((aB st').toList.drop rs.flatten.length).take m).length=m:=by rw [bI,cF,sz];lia
 refine ⟨_,_,⟨hB.kind,hB.failed,e2,hB.perm.trans h.perm,by rw [hB.pend];exact h.runs⟩,lR,?_,?_⟩
 .rw [<- eY,lR];exact h1
 .refine du.mpr λi j hi hj hij=>?_;rw [lR] at hi hj;have q:=hs (rs.flatten.length+i) (rs.flatten.length+j) (by lia) (by lia) (by lia);have at_:∀i,(hi:i<(((aB st').toList.drop rs.flatten.length).take m).length)->K (aB st') (rs.flatten.length+i)=kv ((((aB st').toList.drop rs.flatten.length).take m)[i]):=λi hi=>by
   refine zaB ?_;rw [<- bT,<- fB,<- dC (show i<m by rw [lR] at hi;exact hi)];exact ah hi
  rw [at_ i (by rw [lR];exact hi),at_ j (by rw [lR];exact hj)] at q;exact q
section
variable {prog:aI}{w:aZ}{A:be}{E:Value->af->Prop}{s:af}{a₀:Array bg}
theorem SI.merge{rs rest st i}{Q:Bool->bH->Prop}(iK:∀x∈a₀.toList,zaa x)(h:SI a₀ rs rest st)(hi:i+1<(bM st).size)
  (hQ:∀st' rs',SI a₀ rs' rest st'->rs'.length+1=rs.length->rs'.flatten.length=rs.flatten.length->Q true st'):wpS (aC prog w) A E s (mergeAt' i) Q st:=by
 obtain ⟨R1,r1,r2,R2,pw,pw2,e,e1,e2,n1,n2,s1,s2,hM⟩:=h.runs.split i (by simpa using hi);rw [dD] at e1 e2 hM;rw [bT] at e1 e2;refine zsY (P:=R1.flatten) (RA:=r1) (RB:=r2) (S:=R2.flatten++rest) h.kind h.failed (h.intK iK) (by rw [h.list,e];simp) e1 e2 n1 n2 s1 s2 λst' M k f l pm sM pd=>hQ st' (R1++M::R2) ⟨k,f,?_,?_,?_⟩ (by rw [e];simp;lia) (by rw [e];have:=pm.length_eq;simp at this ⊢;lia)
 .rw [l];simp
 .refine dM.mpr (fv.trans ?_ (dM.mp h.perm));rw [l,h.list,e];have:=((pm.append_left R1.flatten).append_right (R2.flatten++rest));simpa using this
 .rw [pd,Array.toList_eraseIdxIfInBounds,hX];exact hM M (by rw [pm.length_eq,aG]) sM
theorem zol{Q:Unit->bH->Prop}(iK:∀x∈a₀.toList,zaa x)(h0:kindOf st=oneType')(h1:dz st=none)(h2:bM st = #[])(h3:(aB st)=a₀)
  (h:∀st',(aB st').Perm a₀->dz st'=none->SortedTo (aB st') a₀.size->Q () st'):wpS (aC prog w) A E s sortRuns' Q st:=by
 rw [sortRuns'_eq];refine aq (gn ?_);dsimp only;simp only [h3];refine aq (cH (bB
  (I:=λx c st'=>∃rs rest,SI a₀ rs rest st'/\x<=rs.flatten.length/\c=(none,rs.flatten.length))
  (Q:=λc st'=>∃rs,SI a₀ rs [] st'/\c=(none,rs.flatten.length)) ?_ ?_ ⟨[],a₀.toList,⟨h0,h1,by rw [h3];rfl,by rw [h3],by rw [h2];trivial⟩,ae _,rfl⟩) ?_)
 .rintro x c st' _ hx ⟨rs,rest,hI,hxl,rfl⟩;have hsz:=hI.size
  try dsimp only
  by_cases hge:rs.flatten.length ≥ a₀.size
  .rw [if_pos hge];have:rest=[]:=cR.mp (by lia);subst this;exact ay ⟨rs,hI,rfl⟩
  rw [if_neg hge];have hsa:(aB st').size=a₀.size:=hI.perm.size_eq;have done_:∀(R rest':List bg),R≠[]->Srt R->∀(rs4:List (List bg))(st4:bH),SI a₀ rs4 (R++rest') st4->rs4.flatten.length=rs.flatten.length ->
    ∃rs5 rest5,SI a₀ rs5 rest5 (setPending st4 ((bM st4).push (rs.flatten.length,R.length,0)))/\x+1<=rs5.flatten.length/\((none:Option Unit),rs.flatten.length+R.length)=(none,rs5.flatten.length):=λR rest' nR sR rs4 st4 h4 e4=>by
   have lR:=eY.mpr nR;have e5:(rs4++[R]).flatten=rs4.flatten++R:=by simp
   refine ⟨rs4++[R],rest',⟨h4.kind,h4.failed,?_,h4.perm,?_⟩,?_,?_⟩
   .rw [e5,aY];exact h4.list
   .show zao ((bM st4).push _).toList _ _;rw [gA];exact h4.runs.push nR sR (by rw [e4,dD]) rfl
   .rw [e5,aG,e4];lia
   .rw [e5,aG,e4]
  refine aq (ztz (hI.intK iK) (by lia) (by lia) ⟨Array.Perm.refl _,hI.kind,hI.failed,rfl,λ_ _=>rfl⟩ λm st2 hB2 hm1 hm2 hs2=>?_)
  try dsimp only
  by_cases hlt:m<minRun' a₀.size a₀.size 0;rw [if_pos hlt];refine aq (gY (cB ⟨rfl,?_⟩));refine aq (zsK (hI.intK iK) (by lia) (by lia) hB2 hs2 λst3 hB3 hs3=>?_);simp only [Bool.not_true,dj,if_false];obtain ⟨R,rest',hI3,lR,nR,sR⟩:=hI.found hB3 hs3 (by lia) (by lia);rw [<- lR]
  rotate_left
  rw [if_neg hlt];obtain ⟨R,rest',hI3,lR,nR,sR⟩:=hI.found hB2 hs2 (by lia) (by lia);rw [<- lR]
  all_goals
   refine aq (gn ?_)
   try dsimp only
   split
   .rename_i s1 n1 pw eb;refine aq (cH (bB (I:=λx c st4=>c=(none,())/\∃rs4,SI a₀ rs4 (R++rest') st4/\rs4.flatten.length=rs.flatten.length) (Q:=λc st4=>c=(none,())/\∃rs4,SI a₀ rs4 (R++rest') st4/\rs4.flatten.length=rs.flatten.length) ?_ (λc st4 h=>h) ⟨rfl,rs,hI3,rfl⟩) ?_)
    .rintro y c st4 _ _ ⟨rfl,rs4,h4,e4⟩;refine aq (gn ?_)
     try dsimp only
     split
     .rename_i o1 o2 o3 eo;by_cases ho:o3<=power' a₀.size (2*s1+n1) (2*s1+n1+n1+R.length) a₀.size
      .rw [if_pos ho];exact ay ⟨rfl,rs4,h4,e4⟩
      rw [if_neg ho];have h1:(bM st4).size>1:=by
       by_cases h1:(bM st4).size>1
       .exact h1
       .rw [if_neg h1] at eo;cases eo
      refine aq (h4.merge iK (by lia) λst6 rs6 h6 l6 e6=>?_);simp only [Bool.not_true,dj,if_false];exact ay ⟨rfl,rs6,h6,e6.trans e4⟩
     .exact ay ⟨rfl,rs4,h4,e4⟩
    .rintro c st4 ⟨rfl,rs4,h4,e4⟩
     try dsimp only
     refine aq (fK (aq (fK (ay (done_ R rest' nR sR rs4 _ ⟨h4.kind,h4.failed,h4.list,h4.perm,?_⟩ e4)))));show zao ((bM st4).modify _ _).toList _ _;rw [Array.toList_modify];exact h4.runs.mod _ _
   .exact aq (fK (ay (done_ R rest' nR sR rs _ hI3 rfl)))
 .rintro c st' ⟨rs,rest,hI,hxl,rfl⟩;have hsz:=hI.size;have:rest=[]:=cR.mp (by lia);subst this;exact ⟨rs,hI,rfl⟩
 .rintro c st' ⟨rs,hI,rfl⟩;dsimp only;refine aq (cH (bB (I:=λx c st''=>c=(none,())/\∃rs,SI a₀ rs [] st''/\rs.length+x<=a₀.size) (Q:=λc st''=>c=(none,())/\∃rs,SI a₀ rs [] st''/\rs.length<=1) ?_ ?_ ⟨rfl,rs,hI,?_⟩) ?_)
  .rintro x c st'' _ _ ⟨rfl,rs,hI,hl⟩;refine aq (gn ?_);have lp:(bM st'').size=rs.length:=hI.runs.len;by_cases hle:(bM st'').size<=1
   .rw [if_pos hle];exact ay ⟨rfl,rs,hI,by lia⟩
   rw [if_neg hle]
   try dsimp only
   refine aq (hI.merge iK ?_ λst3 rs3 hI3 l3 f3=>?_)
   .have g:∀(b:Bool),(if b=true then (bM st'').size-2-1 else (bM st'').size-2)+1<(bM st'').size:=λb=>by split<;>lia
    exact g _
   .simp only [Bool.not_true,dj,if_false];exact ay ⟨rfl,rs3,hI3,by lia⟩
  .rintro c st'' ⟨rfl,rs,hI,hl⟩;exact ⟨rfl,rs,hI,by lia⟩
  .have:=hI.runs.flat;have:=hI.size;rw [dJ] at this;lia
  .rintro c st'' ⟨rfl,rs,hI,hl⟩;refine ay (h _ hI.perm hI.failed λi j hij hj=>?_);have:Srt (aB st'').toList:=by
    rw [hI.list,cw];exact hI.runs.one hl
   exact this.K hij (by rw [hI.perm.size_eq];exact hj)
end
section
variable {prog:aI}{w:aZ}{A:be}{E:Value->af->Prop}{s:af}{h₀:Heap}{L:Addr}{m:Str->Option Value}{news:List (Addr×Obj)}{a kS:Addr}{vs:List Value}{kz:List Int}{keys:Array Value}{e e1:Nat}{P:PySem.Fin->af->Prop}
abbrev zaS(news:List (Addr×Obj))(a kS:Addr)(e1:Nat)(keys:Array Value)(e:Nat):List (Addr×Obj):=news++[(kS,dI "list" keys e),(a,dI "list" #[] e1)]
theorem zaS.k(N:News h₀ L h (zaS news a kS e1 keys e)):h.get? kS=some (dI "list" keys e)/\kS≠L/\h₀.get? kS=none:=N (kS,dI "list" keys e) (aQ _ (.head _))
theorem zaS.ao(N:News h₀ L h (zaS news a kS e1 keys e)):h.get? a=some (dI "list" #[] e1)/\a≠L/\h₀.get? a=none:=N (a,dI "list" #[] e1) (aQ _ (.tail _ (.head _)))
theorem zaS.n(N:News h₀ L h (zaS news a kS e1 keys e)):News h₀ L h news:=λp hp=>N p (bN _ hp)
theorem ziT{a:Addr}{c:String}{xs:Array Value}{n:Nat}(ho:h.get? a=some (dI c xs n))(g:Array Value->Array Value):∃n',(h.update a (fz g)).get? a=some (dI c (g xs) n'):=⟨_,get?_update_seq ho g⟩
theorem zo6(F:Fr h₀ L s.heap m)(N:News h₀ L s.heap (zaS news a kS e1 keys e))(ka:kS≠a)(nk:∀p∈news,p.1≠kS)(na:∀p∈news,p.1≠a)(hk:IntsAre keys.toList kz)(hl:kz.length=vs.length)(hz:vs.length<3000)
  (h:∀h' tk out c,Fr h₀ L h' m->News h₀ L h' ((a,dI "list" out c)::news)->KskOut false kz vs out.toList->P (.done (.ret .none)) { s with heap:=h',toks:=tk }):aH (aC prog w) A (ksk_end a false vs.toArray e1 (.ref kS) keys) P E s:=by
 by_cases h64:vs.length<64
 .exact ksk_end_ F N ka nk na hk hl h64 h
 have lk:keys.size=vs.length:=by have:=hk.length;rw [bv] at this;lia
 have lz:(keys.zip vs.toArray).size=vs.length:=by rw [Array.size_zip,lk,aJ,Nat.min_self]
 have h2 : ¬ vs.toArray.size<2:=by rw [aJ];lia
 unfold ksk_end;dsimp only;rw [if_neg aw,if_neg h2,if_neg h2,ksk_kind hk (by lia)];refine aa (ar (aa (bu (zol (a₀:=keys.zip vs.toArray) (st:=bH.mk' oneType' (if false=true then (keys.zip vs.toArray).reverse else keys.zip vs.toArray) #[] 7 none)
  (Q:=λ_ st=>(aB st).Perm (keys.zip vs.toArray)/\dz st=none/\SortedTo (aB st) (keys.zip vs.toArray).size) (λx hx=>ksk_intKeys hk x hx) rfl rfl rfl rfl λ_ b1 b2 b3=>⟨b1,b2,b3⟩) ?_ λ_ _ e=>e)))
 rintro ⟨⟨⟩,st⟩ s ⟨rfl,hp,hf,hs⟩
 replace hp:(aB st).Perm (keys.zip vs.toArray):=hp
 replace hf:dz st=none:=hf
 replace hs:SortedTo (aB st) (keys.zip vs.toArray).size:=hs
 have n1:=zaS.k N;have n2:=zaS.ao N;have ls:(aB st).size=vs.length:=hp.size_eq.trans lz;have s1:=fu.update s.heap kS (fz λ_=>(#[]:Array Value));have na1:=(s1.2 a ka.symm).trans n2.1;have s2:=fu.update (s.heap.update kS (fz λ_=>(#[]:Array Value))) a (fz λ_=>if false=true then ((aB st).map (·.2)).reverse else (aB st).map (·.2));obtain ⟨c2,hc2⟩:=ziT na1 λ_=>if false=true then ((aB st).map (·.2)).reverse else (aB st).map (·.2);unfold ksk_tail;dsimp only;refine aa (ii n1.1 rfl (aa (wpAny_letGo (aa (seqEpoch_at na1 rfl (aa (ii na1 rfl ?_ (cf _) ?_)))))) (by rw [lk,cU];lia) (cf _))
 .rw [hf];simp only [bne_self_eq_false,dj,if_false];refine ar (h _ _ _ c2 (ksk_fr (ksk_fr F s1 n1.2.1 n1.2.2) s2 n2.2.1 n2.2.2) (λp hq=>?_) (ksk_out (b:=false) hk hp (by rw [hp.size_eq];exact hs)));rcases au.mp hq with rfl|hq
  .exact ⟨hc2,n2.2⟩
  .exact ksk_news (ksk_news (zaS.n N) s1 nk) s2 na p hq
 .rw [if_neg aw,Array.size_map,ls,cU];lia
theorem zss{f:Value}{n:Nat}(F:Fr h₀ L s.heap m)(N:News h₀ L s.heap news)(ho:s.heap.get? a=some (dI "list" vs.toArray n))(aL:a≠L)(a0:h₀.get? a=none)(na:∀p∈news,p.1≠a)(hl:kz.length=vs.length)(hz:vs.length<3000)
  (turn:∀(i:Nat)(v:Value)(k:Int),vs[i]?=some v->kz[i]?=some k->∀(h:Heap)(tk:Nat)(own:List (Addr×Obj)),Fr h₀ L h m->News h₀ L h (news++own) ->
   aH (aC prog w) A (call f [v]) (KskEnd h₀ L m (news++own) k { s with heap:=h,toks:=tk }) (λ_ _=>False) { s with heap:=h,toks:=tk })
  (h:∀h' tk out c,Fr h₀ L h' m->News h₀ L h' ((a,dI "list" out c)::news)->KskOut false kz vs out.toList->P (.done (.ret .none)) { s with heap:=h',toks:=tk }):aH (aC prog w) A (ksk_tree a f false) P E s:=by
 by_cases h64:vs.length<64
 .exact ksk_sort F N ho aL a0 na hl h64 turn h
 have la:=aP ho;have s1:=fu.update s.heap a (fz λ_=>(#[]:Array Value));obtain ⟨e1,ho1⟩:∃e1,(s.heap.update a (fz λ_=>(#[]:Array Value))).get? a=some (dI "list" #[] e1):=⟨_,get?_update_seq ho λ_=>#[]⟩;have F1:=ksk_fr F s1 aL a0;obtain ⟨h2,eh2⟩:∃h2,h2=(s.heap.update a (fz λ_=>(#[]:Array Value))).push (dI "tuple" vs.toArray 0):=⟨_,rfl⟩;have z2:h2.objs.size=s.heap.objs.size+1:=by rw [eh2,size_push',Heap.size_update]
 have F2:Fr h₀ L h2 m:=eh2 ▸ F1.push _;have k2:∀{b o},(s.heap.update a (fz λ_=>(#[]:Array Value))).get? b=some o->h2.get? b=some o:=λe=>eh2 ▸ ad _ e;unfold ksk_tree;refine aa (listItems_at ho rfl (aa (ii ho rfl (aa (seqEpoch_at ho1 rfl (aa (wpAny_newTuple (aa (wpAny_newList (bE ?_) (cf _))) (by show vs.length<=_;rw [cU];lia))))) (by rw [aJ,cU];lia) (cf _))));show aH _ _ (ksk_rest a f false vs.toArray e1 (.ref ((s.heap.update a (fz λ_=>(#[]:Array Value))).push (dI "tuple" vs.toArray 0)).objs.size)) _ _ { s with heap:=((s.heap.update a (fz λ_=>(#[]:Array Value))).push (dI "tuple" vs.toArray 0)).push (dI "list" #[] 0) };rw [<- eh2,z2];have ka:s.heap.objs.size+1≠a:=dQ (eQ la);have nk:∀p∈news,p.1≠s.heap.objs.size+1:=λp hp=>bC (eQ (aP (N p hp).1));have N3:News h₀ L (h2.push (dI "list" #[] 0)) (zaS news a (s.heap.objs.size+1) e1 #[] 0):=λp hp=>by
  rcases aS.mp hp with hp|hp
  .exact ⟨ad _ (k2 (ksk_news N s1 na p hp).1),(N p hp).2⟩
  .rcases au.mp hp with rfl|hp
   .have hL:L<s.heap.objs.size+1:=z2 ▸ F2.ns.lt;exact ⟨by rw [<- z2];exact aO _ rfl,dQ hL,gK (aW F.above (dE hL))⟩
   .rw [ax.mp hp];exact ⟨ad _ (k2 ho1),aL,a0⟩
 unfold ksk_rest;refine aa (cB ?_);rw [List.forIn_toArray];refine aa (ksk_fold (λi s'=>∃h' tk kA e,s'={ s with heap:=h',toks:=tk }/\Fr h₀ L h' m/\News h₀ L h' (zaS news a (s.heap.objs.size+1) e1 kA e)/\IntsAre kA.toList (kz.take i)) vs 0 _ ⟨_,s.toks,#[],0,rfl,F2.push _,N3,.nil⟩ ?_ ?_)
 .rintro j x s' hx ⟨h',tk,kA,e,rfl,F',N',hk⟩;rw [dD] at hk ⊢;have hj:=(ak.mp hx).1;obtain ⟨k,hkj⟩:∃k,kz[j]?=some k:=⟨_,ah (by lia)⟩;have lA:kA.size<=3000:=by have:=hk.length;rw [bv,bI] at this;lia
  refine aa (dS (bu (turn j x k hx hkj h' tk _ F' N') (λv s'' he=>?_) λ_ _ z=>z.elim));obtain ⟨g,tk2,t2,rfl,rfl,F3,N4⟩:=he;dsimp only;have n1:=zaS.k N4;have n2:=zaS.ao N4;have sg:=fu.update g (s.heap.objs.size+1) (fz (·.push (.int k t2)));obtain ⟨c2,hc2⟩:=ziT n1.1 (·.push (.int k t2));refine aa (ii n1.1 rfl (ar ⟨rfl,_,_,kA.push (.int k t2),c2,rfl,ksk_fr F3 sg n1.2.1 n1.2.2,λp hp=>?_,?_⟩) (by rw [cU];lia) (aW (gB (Array.size_push ..)) (by rw [cU];lia)))
  .rcases aS.mp hp with hp|hp
   .exact ksk_news (zaS.n N4) sg nk p hp
   .rcases au.mp hp with rfl|hp
    .exact ⟨hc2,n1.2⟩
    .rw [ax.mp hp];exact ⟨(sg.2 a ka.symm).trans n2.1,n2.2⟩
  .rw [gA,di,hkj];exact ksk_snoc hk
 .rintro s' ⟨h',tk,kA,e,rfl,F',N',hk⟩;rw [dD,bo (by lia)] at hk;exact aa (listItems_at (zaS.k N').1 rfl (zo6 F' N' ka nk na hk hl hz h))
theorem key_sorted{l:Addr}{Q:Value->af->Prop}{f:Value}{kw:List (Str×Value)}(F:Fr h₀ L s.heap m)(N:News h₀ L s.heap news)(hl:s.heap.IsList l vs.toArray)(hk:kz.length=vs.length)(hz:vs.length<3000)
  (ha1:argsOk "sorted" ⟨[.ref l],kw⟩) (ha2:∀x,argsOk "list.sort" ⟨[.ref x],kw⟩) (ht:∀x,aN.«list.sort» ⟨[.ref x],kw⟩=ksk_tree x f false)
  (turn:∀(i:Nat)(v:Value)(k:Int),vs[i]?=some v->kz[i]?=some k->∀(h:Heap)(tk:Nat)(own:List (Addr×Obj)),Fr h₀ L h m->News h₀ L h (news++own) ->
   aH (aC prog w) A.in1.in1 (call f [v]) (KskEnd h₀ L m (news++own) k { s with heap:=h,toks:=tk }) (λ_ _=>False) { s with heap:=h,toks:=tk })
  (h:∀D h' tk out c,Fr h₀ L h' m->News h₀ L h' ((D,dI "list" out c)::news)->(∀q∈news,q.1<D)->KskOut false kz vs out.toList->Q (.ref D) { s with heap:=h',toks:=tk }) :
  aH (aC prog w) A (call (.builtin "sorted") [.ref l] kw) Q E s:=by
 obtain ⟨h1,eh1⟩:∃h1,h1=(s.heap.push (dI "list" #[] 0)).update s.heap.objs.size (fz (·++vs.toArray)):=⟨_,rfl⟩;have z1:h1.objs.size=s.heap.objs.size+1:=by rw [eh1,Heap.size_update,size_push']
 have keep:∀b o,s.heap.get? b=some o->(h1.push (dI "list" vs.toArray 0)).get? b=some o:=λb o q=>by
  refine ad _ ?_;rw [eh1,Heap.get?_update_ne _ _ _ _ (bC (aP q))];exact ad _ q
 have at1:(h1.push (dI "list" vs.toArray 0)).get? (s.heap.objs.size+1)=some (dI "list" vs.toArray 0):=by rw [<- z1];exact aO _ rfl
 have hL:L<s.heap.objs.size:=F.ns.lt;refine call_function_entry_kw kind_sorted plain_sorted entry_sorted ha1 ?_;unfold aN.«sorted»
 refine aa (m:=checkCount "sorted" 1 1 _) (ar (aa (collect_list hl ?_ (by rw [cU];lia))));rw [<- eh1];refine aa (wpAny_newList ?_ (by rw [cU];lia));show aH _ _ _ _ _ { s with heap:=h1.push (dI "list" vs.toArray 0) };rw [z1];refine aa (bE (wpAny_call_entry_kw slot_list_sort ⟨_,at1,rfl⟩ entry_list_sort ?_ (ha2 _)));show aH (aC prog w) A.in1.in1 (aN.«list.sort» ⟨[.ref (s.heap.objs.size+1)],kw⟩) _ _ _
 rw [ht];refine zss (s:={ s with heap:=h1.push (dI "list" vs.toArray 0) }) (F.kept keep) (N.grown keep) at1 (dQ (eQ hL)) (gK (aW F.above (Nat.le_succ_of_le (dE hL))))
  (λp hp=>bC (eQ (aP (N p hp).1))) hk hz turn λh' tk out c F' N' k'=>⟨_,rfl,?_⟩
 exact ar ⟨_,rfl,h _ h' tk out c F' N' (λq hq=>eQ (aP (N q hq).1)) k'⟩
end
end Ts
namespace L2
open PySem PySem.Spec PyProof.Rows
variable{p1 p2 p3 p4 p5 pos:Pos}{Q:Value->af->Prop}{w:aZ}{qual x:Str}{j1 j2:Nat}{D P a:Addr}{σ:St}{H:Hp}{params:Arguments}{scope:Scope}{ta te to:TE}{cm:Bool}{tb:(Addr->St->Hp->Prop)->TS}
section
variable {M:Model}{A:be}{E:Value->af->Prop}{s:af}
theorem zq1{id:String}{args:List (Bool×Sem Value)}{keywords:List (Option Str×Sem Value)}(hplain:args.any (·.1)=false)(hkw:keywords.any (·.1.isNone)=false)
  (h:aH M A (evalArgs (.builtin id) true args keywords) (λa s1=>aH M A (call (.builtin id) a.pos a.kw) Q E s1) E s):aH M A (fe pos (.builtin id) [] args keywords) Q E s:=by
 unfold fe;refine aa (bE (bu h (λa s1 h1=>aa (dF ?_)) λ_ _ x=>x));simp only [hplain,hkw,fC];exact aa (ar (aa (bu h1 (λr s2 hr=>aa (bE (wpAny_point (ar hr)))) λ_ _ x=>x)))
end
theorem zrL{prog:aI}{A:be}{E:Value->af->Prop}{s:af}{env:Env}{m:Str->Option Value}{r:Addr}{its ks:Array Value}{k:Int}{t:Tok}
  (hk:env.scope.kind = .function) (hl:env.kindOf x=some .local) (hn:s.heap.Ns env.locals m) (hm:m x=some (.ref a)) (ha:iF s.heap a its) (h0:its[0]?=some (.ref r)) (hr:iF s.heap r ks) (h1:ks[1]?=some (.int k t)) (hd:(x==("__debug__":Str))=false)
  (q:∀tk,Q (.int k t) { s with toks:=tk }):aH (aC prog w) A (bV (.Subscript (.Subscript (.Name x p1) (.Constant (.int 0) j1 p2) p3) (.Constant (.int 1) j2 p4) p5) env) Q E s:=by
 refine iS (iS (wpAny_Name (gz hk hl hn hm ?_) hd));refine gZ ?_;have s0:0<its.size:=(bA.mp h0).1;have s1:1<ks.size:=(bA.mp h1).1;refine eI (x:=.ref r) (T:="tuple") ha.typeIs g6.lookup (getItem_tuple (j:=0) ha (by decide) (by decide) (by simp [iq,s0]) h0 ⟨rfl,?_⟩);refine gZ ?_;exact eI (x:=.int k t) (T:="tuple") hr.typeIs g6.lookup (getItem_tuple (j:=1) hr (by decide) (by decide) (by simp [iq];lia) h1 ⟨rfl,q _⟩)
def zbq(pos:Pos)(qual:Str)(H:Hp)(P:Addr):Prop :=
 H P=some (.tbl #[])\/∃c' oc vs t,H P=some (.tbl #[bZ pos.line,bZ pos.col,.ref c'])/\H c'=some (.frz oc (.own 0))/\oc.data = .fields vs/\vs[1]?=some (.str qual t)
structure zdH(mg:Str->Option Value)(base:Heap)(cdv:Value)(P:Addr):Prop where
 cd:∃c,cdv = .ref c/\PySem.W.CodeHd base c P
 bt:∃bm o,mg "__builtins__"=some (.ref bm)/\bm≠gh/\bm≠az/\base.get? bm=some o/\o.cls = .type "module"/\o.dict=some gh/\o.data = .plain
def zdC(H H':Hp)(P:Addr):Prop:=∀a o,a≠P->H a=some o->H' a=some o
theorem ztx{X:Cx}{Ga:List (Addr×Obj)}{s:af}{E:Value->af->Prop}{body:bw}(LB:zdH X.mg X.base X.env.code P)
  (hdef:defaultsOf params X.env=([],[])) (hcl:gb scope X.env=pure []) (I:Inv X Ga σ H s) (hT:zbq pos (X.env.qual++"<lambda>") H P)
  (h:∀(f c':Addr)(ctv:Value)(h':Heap)(tk:Nat)(H':Hp),f+1=h'.objs.size->s.heap.objs.size<=f->h'.CodeRec (.ref c') (X.env.qual++"<lambda>") ->
   h'.get? f=some (kla_obj "<lambda>" (X.env.qual++"<lambda>") params body scope [] ((X.mg "__name__").getD .none) c' ctv)->zbq pos (X.env.qual++"<lambda>") H' P->zdC H H' P->Inv X Ga σ H' { s with heap:=h',toks:=tk }->Q (.ref f) { s with heap:=h',toks:=tk }) :
  aH (aC X.prog X.w) X.A (bV (.Lambda params body scope pos) X.env) Q E s:=by
 refine PySem.W.kla_eval hdef ?_;obtain ⟨c,hc,C⟩:=LB.cd;obtain ⟨bm,ob,b1,b2,b3,b4,b5,b6,b7⟩:=LB.bt;obtain ⟨og,esg,epg,eg,hdg⟩:=id I.ok.mod.glob;have hgs:s.heap.Ns az X.mg:=I.ok.mod.glob.keeps I.bk;have neP:∀{b:Addr}{o:Obj}{u:HO},X.base.get? b=some o->H P=some u->b≠P:=λe hP z=>by
  have:=(I.bs _ _ e).2;rw [z,hP] at this;cases this
 rcases hT with hP|⟨c',oc,vs,t,hP,hc',hd,hv⟩
 .have hPs:s.heap.get? P=some (tabObj #[]):=I.hok P _ hP;refine PySem.W.kla_makeFunction (mg:=X.mg) hcl I.ok.glob hgs hc (C.keeps I.bk) hPs trivial rfl (neP eg hP) ⟨bm,ob,b1,b2,b3,neP b4 hP,I.bk _ _ b4,b5,b6,b7⟩ λc' ctv h' tk hx hge hlt hrec htb=>?_;obtain ⟨c₂,oc,vs,t,e2,hoc,hd,hv⟩:=hrec;cases e2;have szP:P<s.heap.objs.size:=aP hPs;have cP:c'≠P:=λz=>by rw [z] at hge;exact absurd szP (gi.mpr hge)
  have neC:∀{b:Addr}{u:HO},H b=some u->b≠c':=λe z=>by
   have:=I.hok.lt e;rw [z] at this;exact absurd this (gi.mpr hge)
  have neC2:∀{b:Addr}{u:Obj},s.heap.get? b=some u->b≠c':=λe z=>by
   have:=aP e;rw [z] at this;exact absurd this (gi.mpr hge)
  have kp:∀b o,b≠P->s.heap.get? b=some o->(h'.push (kla_obj "<lambda>" (X.env.qual++"<lambda>") params body scope [] ((X.mg "__name__").getD .none) c' ctv)).get? b=some o:=λb o n e=>ad _ (hx b o n e)
  let H':Hp:=upd (upd H P (.tbl #[bZ pos.line,bZ pos.col,.ref c'])) c' (.frz oc (.own 0))
  have hH':∀b,b≠P->b≠c'->H' b=H b:=λb n1 n2=>by show upd _ c' _ b=H b;rw [zd n2,zd n1]
  have hHP:H' P=some (.tbl #[bZ pos.line,bZ pos.col,.ref c']):=by show upd _ c' _ P=_;rw [zd (aU cP),zu]
  have hHc:H' c'=some (.frz oc (.own 0)):=zu;have nP:∀b,H b=none->b≠P:=λb e z=>by rw [z,hP] at e;cases e
  have ext:∀b u,H b=some u->(∀ps,u≠.tbl ps)->H' b=some u:=λb u e n=>by rw [hH' b (λz=>by rw [z,hP] at e;cases e;exact n _ rfl) (neC e)];exact e
  have un:Un X.fs [] H H' s.heap (h'.push (kla_obj "<lambda>" (X.env.qual++"<lambda>") params body scope [] ((X.mg "__name__").getD .none) c' ctv)):=by
   refine ⟨λb o e n _ _=>kp b o (nP b n) e,λb o e n _ _=>⟨o.slots,kp b o (nP b n) e⟩,λb o e n _=>by rw [hH' b (nP b n) (neC2 e)];exact n,λb o e _=>?_,λb xs e=>ext b _ e λ_=>nofun,λb o u e=>ext b _ e λ_=>nofun,λb ps e=>?_⟩
   .by_cases z:b=P
    .exact ⟨_,by rw [z];exact ad _ htb⟩
    .exact ⟨o,kp b o z e⟩
   .by_cases z:b=P
    .rw [z,hP] at e;cases e;exact ⟨#[bZ pos.line,bZ pos.col,.ref c'],by rw [z,hHP];simp⟩
    .exact ⟨#[],by rw [hH' b z (neC e),e];simp⟩
  have hok:HOk X.prog X.w H' (h'.push (kla_obj "<lambda>" (X.env.qual++"<lambda>") params body scope [] ((X.mg "__name__").getD .none) c' ctv)):=λa o e=>by
   by_cases z1:a=c'
   .rw [z1,hHc] at e;cases e;rw [z1];exact ⟨ad _ hoc,⟨_,ad _ hoc⟩⟩
   .by_cases z2:a=P
    .rw [z2,hHP] at e;cases e;rw [z2];show Heap.get? _ P=_;exact ad _ htb
    .rw [hH' a z2 z1] at e;refine (I.hok a o e).stay (λb u hb q=>kp b u ?_ q) (λb q=>ext b _ q λ_=>nofun) λb xs q=>ext b _ q λ_=>nofun;rcases hb with rfl|hb
     .exact z2
     .intro z;rw [z,hP] at hb;cases hb
  refine h h'.objs.size c' ctv _ tk H' (by rw [size_push']) (dE (dv hge hlt)) ⟨c',oc,vs,t,rfl,ad _ hoc,hd,hv⟩ (aO _ rfl) (.inr ⟨c',oc,vs,t,hHP,hHc,hd,hv⟩) (λa o n e=>by rw [hH' a n (neC e)];exact e) (I.un un hok)
 .have hPs:s.heap.get? P=some (tabObj #[bZ pos.line,bZ pos.col,.ref c']):=I.hok P _ hP;have hcs:s.heap.get? c'=some oc:=(I.hok c' _ hc').1;refine PySem.W.kla_makeFunctionHit (mg:=X.mg) (cv:=.ref c') hcl I.ok.glob hgs hc (C.keeps I.bk) hPs ?_ ?_ ⟨bm,ob,b1,b2,b3,neP b4 hP,I.bk _ _ b4,b5,b6,b7⟩ λctv h' tk hk hsz=>?_
  .exact trivial
  .simp [codeAmong,bZ]
  .exact h h'.objs.size c' ctv _ tk H (by rw [size_push']) hsz ⟨c',oc,vs,t,rfl,ad _ (hk _ _ hcs),hd,hv⟩ (aO _ rfl) (.inr ⟨c',oc,vs,t,hP,hc',hd,hv⟩) (λ_ _ _ e=>e) (I.kept λb o e=>ad _ (hk b o e))
def zhn(H:Hp)(a:Addr)(k:Int):Prop:=∃r rest y ys,H a=some (.tup (.ref r::rest))/\H r=some (.tup (y::.int k::ys))
def zcV(P:Addr)(pos:Pos)(qual:Str)(v:V)(H1:Hp)(Q:VK):Prop:=uR v λl=>∃(as:List Addr)(ks:List Int),H1 l=some (.lst (as.map V.ref))/\zbq pos qual H1 P/\as.length<3000/\Paired (zhn H1) as ks /\
 ∀(D:Addr)(zs:List (Int×Addr))(H2:Hp),zdC H1 H2 P->zbq pos qual H2 P->H1 D=none->D≠P->D≠sysModules->H2 D=some (.lst (zs.map λz=>V.ref z.2))->zs.Perm (ks.zip as)->zs.Pairwise (λp q=>p.1<=q.1)->Q (.ref D) H2
def zf6(P:Addr)(pos:Pos)(qual:Str)(ta:TE):TE:=λσ H Q=>ta σ H λv H1=>zcV P pos qual v H1 Q
theorem zqj{Q:VK}:zf6 P pos qual ta σ H Q=ta σ H λv H1=>zcV P pos qual v H1 Q:=rfl
theorem zrT{l:Addr}{H1:Hp}{Q:VK}:zcV P pos qual (.ref l) H1 Q = ∃(as:List Addr)(ks:List Int),H1 l=some (.lst (as.map V.ref))/\zbq pos qual H1 P/\as.length<3000/\Paired (zhn H1) as ks /\
 ∀(D:Addr)(zs:List (Int×Addr))(H2:Hp),zdC H1 H2 P->zbq pos qual H2 P->H1 D=none->D≠P->D≠sysModules->H2 D=some (.lst (zs.map λz=>V.ref z.2))->zs.Perm (ks.zip as)->zs.Pairwise (λp q=>p.1<=q.1)->Q (.ref D) H2:=zj5
theorem ztQ{as:List Addr}{its:List Value}(h:zk (as.map V.ref) its):its=as.map aA:=by
 induction as generalizing its with
 | nil=>cases h;rfl
 | cons a as ih =>
  cases h with
  | cons r rr=>rw [ih rr,show _=aA a from r];rfl
theorem zu5(as:List Addr):zk (as.map V.ref) (as.map aA):=by
 induction as with
 | nil=>exact .nil
 | cons a as ih=>exact .cons rfl ih
theorem znz{l:List (Int×Addr)}{ps:List (Int×Value)}(h:ps.Perm (l.map λz=>(z.1,aA z.2))):∃zs:List (Int×Addr),zs.Perm l/\ps=zs.map λz=>(z.1,aA z.2):=by
 let g:Int×Value->Int×Addr:=λp=>(p.1,match p.2 with | .ref a=>a|_=>0)
 have e1:(l.map λz=>(z.1,aA z.2)).map g=l:=by
  rw [bU];have:(g∘λz:Int×Addr=>(z.1,aA z.2))=id:=rfl;rw [this,List.map_id]
 refine ⟨ps.map g,by have:=h.map g;rw [e1] at this;exact this,?_⟩;rw [bU];have:∀p∈ps,((λz:Int×Addr=>(z.1,aA z.2))∘g) p=p:=λp hp=>by
  obtain ⟨z,_,rfl⟩:=gs.mp (h.mem_iff.mp hp);rfl
 exact (List.map_id ps).symm.trans (dX λp hp=>(this p hp).symm)
theorem zkh:∀(ks:List Int)(as:List Addr),ks.zip (as.map aA)=(ks.zip as).map λz=>(z.1,aA z.2)
 | [],_=>rfl
 | _::_,[]=>rfl
 | k::ks,a::as=>by rw [bQ,gl,gl,bQ,zkh ks as]
theorem zcj{α β:Type}{R:α->β->Prop}:∀{l:List α}{m:List β},Paired R l m->∀{i:Nat}{a:α}{b:β},l[i]?=some a->m[i]?=some b->R a b
 | _,_,.nil,i,a,b,h,_=>by simp at h
 | _,_,.cons r t,0,a,b,h,h'=>by
  simp at h h';subst h h';exact r
 | _,_,.cons r t,i+1,a,b,h,h'=>zcj t (by simpa using h) (by simpa using h')
theorem zcd{α β:Type}{R:α->β->Prop}{l:List α}{m:List β}(h:Paired R l m):l.length=m.length:=Paired.length h
theorem znQ{X:Cx}{k:Nat}{a:bw}{p lpos kp:Pos}(LB:zdH X.mg X.base X.env.code P)(hr:zz cm k X.A)
  (hg:Gl X "sorted") (hm:X.mg "sorted"=none) (ha:PE X a ta) (hdef:defaultsOf params X.env=([],[])) (hcl:gb scope X.env=pure [])
  (hbind:∀(q:Str)(pm cd ct v:Value),bindArgs (kla_fn "<lambda>" q params (.Subscript (.Subscript (.Name x p1) (.Constant (.int 0) j1 p2) p3) (.Constant (.int 1) j2 p4) p5) scope [] pm cd ct) ⟨[v],[]⟩=pure [(x,v)])
  (hloc:scope.names=[(x,.local)]) (hkind:scope.kind = .function) (hco:scope.isCoroutine=false) (hgen:scope.isGenerator=false) (hp:zX a=true:=by rfl) (hdb:(x==("__debug__":Str))=false:=by decide) :
  PE X (.Call (.Name "sorted" p) [a] [⟨some (aj "key"),.Lambda params (.Subscript (.Subscript (.Name x p1) (.Constant (.int 0) j1 p2) p3) (.Constant (.int 1) j2 p4) p5) scope lpos,kp⟩] pos) (zf6 P lpos (X.env.qual++"<lambda>") ta):=by
 intro Ga s σ H Q I h;have hs:aV [a] X.env=[(false,bV a X.env)]:=zbx hp;have hA:=zb6 ha zbX (hs:=hs) pos Ga s σ H (λys H1=>∃y,ys=[y]/\zcV P lpos (X.env.qual++"<lambda>") y H1 Q) I (by
  show ta σ H λx H1=>∃y,[x]=[y]/\zcV P lpos (X.env.qual++"<lambda>") y H1 Q;have e:(λ(x:V)(H1:Hp)=>∃y,[x]=[y]/\zcV P lpos (X.env.qual++"<lambda>") y H1 Q)=λv H1=>zcV P lpos (X.env.qual++"<lambda>") v H1 Q:=by
   funext x H1;apply propext;constructor
   .rintro ⟨y,e,h⟩;cases e;exact h
   .exact λh=>⟨x,rfl,h⟩
  rw [e];exact h)
 refine cO (zb8 I hg hm boot_sorted (zq1 (by rw [hs];rfl) rfl ?_));rw [hs] at hA ⊢;refine evalArgs_kwB rfl (thn hA λus s1=>x5e λvs H1 I1 r1 q1=>kws_cons ?_);obtain ⟨y,rfl,l,rfl,as,ks,hl,hT,h64,hK,q⟩:=q1
 .cases r1 with
  | cons r rr =>
   cases rr;cases r;refine ztx LB hdef hcl I1 hT λf c' ctv h2 tk H2 hsz hge hcd hf hT2 hL I2=>kws_nil ?_;have hlP:l≠P:=λz=>by
    rcases hT with hP|⟨_,_,_,_,hP,_⟩ <;> · rw [z,hP] at hl;cases hl
   have hl2:=hL _ _ hlP hl;obtain ⟨its,rv,⟨o,n,e1,e2,e3,e4⟩,hz⟩:=I2.list (SqL.of hl2);have hits:=ztQ rv;subst hits;obtain ⟨m,F⟩:=I2.fr;have lks:=zcd hK;have fresh2:∀b o,h2.get? b=some o->b≠X.env.locals->X.base.get? b=none->(b,o)∈zcE X.base h2 X.env.locals:=λb o e n1 n2=>ztd n1 n2 e;refine Ts.key_sorted (kz:=ks) (f:=.ref f) (h₀:=X.base) (L:=X.env.locals) (news:=zcE X.base h2 X.env.locals) F ztr (vs:=as.map aA) (l:=l) ⟨o,e1,e2,n,e4⟩ (by rw [am];exact lks.symm) (by rw [am];exact h64) (PyProof.Rows.ksk_s1 _ _) (λx=>PyProof.Rows.ksk_l1 _ _) (λx=>PyProof.Rows.ksk_t1 _ _) (λi v k' hv hk' h3 tk3 own F3 N3=>?_) λD h3 tk3 out c F3 N3 lt ko=>?_
   .have all3:∀b o,b≠X.env.locals->h2.get? b=some o->h3.get? b=some o:=λb o n e=>by
     cases qb:X.base.get? b with
     | some u =>
      have:=F.keep b u qb;rw [show h2.get? b=some u from this] at e;cases e;exact F3.keep b _ qb
     | none=>exact (N3 (b,o) (bN _ (fresh2 b o e n qb))).1
    rw [bh] at hv;obtain ⟨ai,hai,rfl⟩:=bX.mp hv;obtain ⟨r,rest,y,ys,k1,k2⟩:=zcj hK hai hk';have tt:∀{b xs},H1 b=some (.tup xs)->∃its,zk xs its/\iF h3 b its.toArray:=λ{b xs} e=>by
     have bP:b≠P:=λz=>by
      rcases hT with hP|⟨_,_,_,_,hP,_⟩ <;> · rw [z,hP] at e;cases e
     have e2:=hL _ _ bP e;obtain ⟨_,its,rv,ob,g1,g2⟩:=I2.hok b _ e2;have bL:b≠X.env.locals:=λz=>by rw [z,I2.free] at e2;cases e2
     exact ⟨its,rv,ob,all3 _ _ bL g1,g2⟩
    obtain ⟨it1,rv1,t1⟩:=tt k1;obtain ⟨it2,rv2,t2⟩:=tt k2;cases rv1 with
    | cons ra _ =>
    cases ra;cases rv2 with
    | cons rb rc =>
    cases rc with
    | cons rd _ =>
    obtain ⟨tkk,rfl⟩:=rd;have fL:f≠X.env.locals:=λz=>by
     have:=I1.lt;rw [<- z] at this;exact absurd this (gi.mpr hge)
    have hf3:=all3 _ _ fL hf;have hcd3:h3.CodeRec (.ref c') (X.env.qual++"<lambda>"):=by
     obtain ⟨c2,oc,vs,t,e,g1,g2,g3⟩:=hcd;refine ⟨c2,oc,vs,t,e,all3 _ _ (λz=>?_) g1,g2,g3⟩;obtain ⟨m',⟨ol,es,ep,el,hdl,_⟩,_⟩:=id I2.loc;rw [z] at g1;rw [show h2.get? X.env.locals=some ol from el] at g1;cases g1;rw [g2] at hdl;cases hdl
    refine iH (PySem.W.kla_callFunE (by show X.A.depth<recursionLimit;exact hr.depth) hf3 rfl hco hgen rfl hcd3 ?_);rw [hbind];refine ar (gy (λy hy=>?_) (λy hy=>?_) (λh4 hns hsb=>?_) hkind)
    .rw [hloc,ax] at hy;rw [hy];nofun
    .rw [ax] at hy;rw [hy];show scope.names.lookup x=_;rw [hloc];simp [dR]
    .have k4:∀b o,h3.get? b=some o->h4.get? b=some o:=λb o e=>hsb.extBut b o (bC (aP e)) (ad _ e);refine ⟨(I.ok.mod.nolimit.keeps F3.keep).keeps k4,PySem.W.kla_codeExpr ?_⟩;refine zrL (m:=λy=>([(x,aA ai)]:List (Str×Value)).reverse.lookup y) (a:=ai) (r:=r) (k:=k') (t:=tkk) hkind ?_ hns (by simp [dR]) (its:=(aA r::_).toArray) ⟨t1.choose,k4 _ _ t1.choose_spec.1,t1.choose_spec.2⟩ (by simp) (ks:=(_::fq k' tkk::_).toArray) ⟨t2.choose,k4 _ _ t2.choose_spec.1,t2.choose_spec.2⟩ (by simp) hdb λtk5=>?_
     .show scope.names.lookup x=_;rw [hloc];simp [dR]
     .exact PyProof.Rows.KskEnd.intro (news':=zcE X.base h2 X.env.locals++own) ⟨F3.ns.keeps k4,λb o e=>k4 _ _ (F3.keep b o e),F3.above⟩ (λp hp=>⟨k4 _ _ (N3 p hp).1,(N3 p hp).2⟩) λ_ h=>h
   .obtain ⟨ps,hp1,hp2,hp3⟩:=ko;rw [zkh] at hp1;obtain ⟨zs,hz1,rfl⟩:=znz hp1;have fm:(f,kla_obj "<lambda>" (X.env.qual++"<lambda>") params (.Subscript (.Subscript (.Name x p1) (.Constant (.int 0) j1 p2) p3) (.Constant (.int 1) j2 p4) p5) scope [] ((X.mg "__name__").getD .none) c' ctv)∈zcE X.base h2 X.env.locals:=fresh2 _ _ hf (λz=>by
     have:=I1.lt;rw [<- z] at this;exact absurd this (gi.mpr hge)) (by
     cases qb:X.base.get? f with
     | none=>rfl
     | some u =>
      have:=aP (I1.bk _ _ qb);exact absurd this (gi.mpr hge))
    have Dsz:h2.objs.size<=D:=by have:=lt _ fm;rw [<- hsz];exact this
    have D2:H2 D=none:=I2.hok.fresh Dsz;have DP:D≠P:=λz=>by
     rcases hT2 with hP|⟨_,_,_,_,hP,_⟩ <;> · rw [z,hP] at D2;cases D2
    have D1:H1 D=none:=by
     cases qd:H1 D with
     | none=>rfl
     | some u=>rw [hL _ _ DP qd] at D2;cases D2
    have eo:out=((zs.map (·.2)).map aA).toArray:=by
     apply Array.toList_inj.mp;rw [hp2];simp
    have lz:zs.length<=as.length:=by rw [hz1.length_eq,List.length_zip];lia
    have all3:∀b o,b≠X.env.locals->h2.get? b=some o->h3.get? b=some o:=λb o hb e=>by
     cases qb:X.base.get? b with
     | some u =>
      have:=F.keep b u qb;rw [show h2.get? b=some u from this] at e;cases e;exact F3.keep b _ qb
     | none=>exact (N3 (b,o) (aF _ (fresh2 b o e hb qb))).1
    have neD:∀{b:Addr}{u:HO},H2 b=some u->b≠D:=λe z=>by rw [z,D2] at e;cases e
    have neL:∀{b:Addr}{u:HO},H2 b=some u->b≠X.env.locals:=λe z=>by rw [z,I2.free] at e;cases e
    have hm:(zs.map λz:Int×Addr=>V.ref z.2)=(zs.map (·.2)).map V.ref:=by rw [bU];rfl
    have new:zT X.prog X.w (upd H2 D (.lst (zs.map λz:Int×Addr=>V.ref z.2))) h3 D (.lst (zs.map λz:Int×Addr=>V.ref z.2)):=⟨by rw [am,cU];lia,(zs.map (·.2)).map aA,c,by rw [hm];exact zu5 _,by rw [<- eo];exact (N3 _ (bf ..)).1⟩;refine ⟨.ref D,upd H2 D (.lst (zs.map λz:Int×Addr=>V.ref z.2)),?_,rfl,q D zs _ (λb u n e=>by rw [zd (λz=>by rw [z,D1] at e;cases e)];exact hL _ _ n e) ?_ D1 DP (dQ (aR I2.big Dsz)) zu hz1 ?_⟩
    .refine I2.step (h':=h3) (g':=s1.gens) (d':=s1.drawn) (t':=tk3) (ch:=[]) (λ_ z=>nomatch z) (λb o n _ _ e _=>all3 b o n e) (λb o n _ _ e _=>⟨o.slots,all3 b o n e⟩) (λb o _ e n=>?_) (λb o _ e=>?_) (λb xs e=>by rw [zd (neD e)];exact e) (λb o u e=>by rw [zd (neD e)];exact e) (λb ps e=>⟨#[],by rw [zd (neD e),e];simp⟩) (λm' hm'=>?_) (λb u e=>?_) I2.bare
     .rw [zd (λz=>?_)]
      .exact n
      .have:=aP e;rw [z] at this;exact absurd this (gi.mpr Dsz)
     .by_cases hb:b=X.env.locals
      .obtain ⟨o1,_,_,g1,_⟩:=F3.ns;exact ⟨o1,by rw [hb];exact g1⟩
      .exact ⟨o,all3 b o hb e⟩
     .have e1:=hm'.eq_nsMap;have e2:=F.ns.eq_nsMap;have:m'=m:=e1.trans e2.symm;rw [this];exact F3.ns
     .by_cases z:b=D
      .rw [z,zu] at e;cases e;rw [z];exact new
      .rw [zd z] at e;refine (I2.hok b u e).stay (λc v hc q=>all3 c v ?_ q) (λc q=>by rw [zd (neD q)];exact q) λc xs q=>by rw [zd (neD q)];exact q
       rcases hc with rfl|hc
       .exact neL e
       .exact neL hc
    .rcases hT2 with hP|⟨c1,oc,vs,t,hP,hc,hr⟩
     .exact .inl (by rw [zd (aU DP)];exact hP)
     .exact .inr ⟨c1,oc,vs,t,by rw [zd (aU DP)];exact hP,by rw [zd (λz=>by rw [<- z,hc] at D2;cases D2)];exact hc,hr⟩
    .have:=iJ.mp hp3;exact this.imp λh=>by simpa using h
def zcS(mg:Str->Option Value)(base:Heap):Prop:=∃bm o,mg "__builtins__"=some (.ref bm)/\bm≠gh/\bm≠az/\base.get? bm=some o/\o.cls = .type "module"/\o.dict=some gh/\o.data = .plain
theorem zqY{P:aI}{K:ag}{mg mb:Str->Option Value}{CX:CXT}{k:Nat}{fa:Addr}{fd:cL}{sp:Sp}{s₁:af}{vs:List Value}{ns:List Int}{ts:List Addr}
  (hT:∀T∈ts,s₁.heap.get? T=some (tabObj #[])) (hC:∀T∈ts,K.lookup T=none/\∃c,codeHdIn K c T=true) (hbm:zcS mg s₁.heap)
  (KX:K.In s₁.heap) (hns:s₁.heap.Ns az mg) (hb:s₁.heap.Ns gh mb) (hbb:∀x:Str,x≠"__name__"->mb x=eL x) (hlim:s₁.heap.NoLimit) (hg:s₁.gens = #[])
  (ha:s₁.heap.get? a=some { cls:=.type "list",data:=.seq vs.toArray }) (hi:IntsAre vs ns) (hl:ns.length<=sizeLine) (hr:zz true k callerA)
  (F:∀base:Heap,K.In base->base.Ns az mg->zcS mg base->zo P w K mg base CX true k fa fd [x] sp) (hbind:∀(s:af)(u:Value),BindsTo s fd ⟨[u],[]⟩ [(x,u)])
  (hsp:∀H:Hp,(∀T∈ts,H T=some (.tbl #[]))->SqL K H a (ns.map V.int)->sp [.ref a] H (λv _=>v = .bl true) λ_ _ _=>False)
  (hCX:∀H e s',CX [] H s₁ (λ_ _ _=>False) e s'->False) :
  gS (aC P w) callerA (.call (.ref fa) ⟨[.ref a],[]⟩) (λr s'=>r = .ok (.ret (.bool true))/\OldK s₁.heap s'.heap/\s'.os=s₁.os/\eV s'.gens) s₁:=by
 have rv:=zqu hi;have lenV:=hi.length;have aT:a∉ts:=λh=>by have:=hT a h;rw [ha] at this;cases this
 have core:∀H:Hp,(∀b,H b=none\/(∃o xs,H b=some (.frz o (.lst xs)))\/(b∈ts/\H b=some (.tbl #[])))->(∀T∈ts,H T=some (.tbl #[]))->SqL K H a (ns.map V.int)->HOk P w H s₁.heap->(∀b,H b≠none->b=a\/b∈ts)->(H a≠none->K.lookup a=none) ->
   gS (aC P w) callerA (.call (.ref fa) ⟨[.ref a],[]⟩) (λr s'=>r = .ok (.ret (.bool true))/\OldK s₁.heap s'.heap/\s'.os=s₁.os/\eV s'.gens) s₁:=by
  intro H hO hHT hS hok hA hK;have base_of:∀{b:Addr}{o:Obj},s₁.heap.get? b=some o->H b=none->(zbN s₁.heap H).get? b=some o:=λe n=>zvc e n;have noA:∀{b:Addr}{o:Obj},s₁.heap.get? b=some o->(∀xs n,o.data≠.seq xs n)->(∀ps,o.data≠.fields ps)->H b=none:=λ{b o} e d1 d2=>by
   cases q:H b with
   | none=>rfl
   | some u =>
    rcases hA b (by rw [q];simp) with e'|e'
    .subst e';rw [ha] at e;cases e;exact absurd rfl (d1 _ _)
    .rw [hT b e'] at e;cases e;exact absurd rfl (d2 _)
  have nsK:∀{b:Addr}{m:Str->Option Value},s₁.heap.Ns b m->(zbN s₁.heap H).Ns b m:=λ{b m} ⟨o,es,ep,e,d,r⟩=>⟨o,es,ep,base_of e (noA e (λ_ _=>by rw [d];nofun) (λ_=>by rw [d];nofun)),d,r⟩;have hKb:K.In (zbN s₁.heap H):=λb o e=>base_of (KX b o e) (by
   cases q:H b with
   | none=>rfl
   | some u =>
    rcases hA b (by rw [q];simp) with e'|e'
    .subst e';rw [hK (by rw [q];simp)] at e;cases e
    .rw [(hC b e').1] at e;cases e)
  have hM:Mod K mg (zbN s₁.heap H):=⟨hKb,nsK hns,⟨mb,nsK hb,hbb⟩,let ⟨mc,h1,h2⟩:=hlim;⟨mc,nsK h1,h2⟩⟩;have hB:zcS mg (zbN s₁.heap H):=let ⟨bm,o,b1,b2,b3,b4,b5,b6,b7⟩:=hbm;⟨bm,o,b1,b2,b3,base_of b4 (noA b4 (λ_ _=>by rw [b7];nofun) (λ_=>by rw [b7];nofun)),b5,b6,b7⟩;have e0:zc4 P w K mg (zbN s₁.heap H) callerA [] s₁ H:=⟨rfl,.inl rfl,hM,λb o e=>zsb e,gB (zn1 _ _),trivial,λb hb=>absurd (show b∈([]:List Addr) from hb) (by simp),hok,.of_eq hg⟩;refine fk ((F _ hKb (nsK hns) hB).run callerA [] s₁ H ⟨[.ref a],[]⟩ [.ref a] [.ref a] _ _ hr e0 (hbind s₁ (.ref a)) (.cons rfl .nil) (hsp H hHT hS)) λr s' h=>?_;cases r with
  | error e=>exact (hCX H e s' h).elim
  | ok fl =>
   cases fl with
   | next=>exact False.elim h
   | brk=>exact False.elim h
   | cont=>exact False.elim h
   | ret u =>
    obtain ⟨v,H',os,bare,un,hok',r',q⟩:=h;have q':v = .bl true:=q;subst q';obtain rfl:u=fg true:=r';have grown:∀b,b∈ts->∃more:Array Value,s'.heap.get? b=some (tabObj (#[]++more)):=λb hb=>by
     obtain ⟨more,z⟩:=un.tbls b #[] (hHT b hb);exact ⟨more,hok' b _ z⟩
    refine ⟨rfl,⟨λb o e=>?_,λb o e=>un.there b o e (by simp)⟩,os,bare⟩;cases q:H b with
    | none=>exact .inl (un.keep b o e q (by intro z;exact absurd (show b∈([]:List Addr) from z) (by simp)) (by simp))
    | some u =>
     rcases hO b with z|⟨ob,xs,z⟩|⟨hb,z⟩
     .rw [q] at z;cases z
     .have z2:=un.frzs b ob _ z;obtain ⟨e1,_⟩:=hok b _ z;obtain ⟨e2,_⟩:=hok' b _ z2;rw [e] at e1;cases e1;exact .inl e2
     .obtain ⟨more,g⟩:=grown b hb;have e2:=hT b hb;rw [e] at e2;cases e2;obtain ⟨_,c,hc⟩:=hC b hb;exact .inr (.inl ⟨((PySem.W.codeHd_of_K KX hc).tab (hT b hb)).isCodeTable,rfl,#[],more,rfl,g⟩)
 cases hk:K.lookup a with
 | some o =>
  have e:=KX a o hk;rw [ha] at e;cases e;refine core (λb=>if b∈ts then some (.tbl #[]) else none) (λb=>?_) (λT h=>if_pos h) (.inr ⟨_,vs.toArray,_,hk,rfl,rfl,rfl,by rw [aJ,lenV];exact hl,by simpa using rv⟩) (λb u z=>?_) (λb z=>?_) λz=>absurd (if_neg aT) z
  .by_cases hb:b∈ts
   .exact .inr (.inr ⟨hb,if_pos hb⟩)
   .exact .inl (if_neg hb)
  .by_cases hb:b∈ts
   .have z':=(if_pos hb).symm.trans z;cases z';exact hT b hb
   .have z':=(if_neg hb).symm.trans z;cases z'
  .by_cases hb:b∈ts
   .exact .inr hb
   .exact absurd (if_neg hb) z
 | none =>
  refine core (λb=>if b=a then some (.frz { cls:=.type "list",data:=.seq vs.toArray } (.lst (ns.map V.int))) else if b∈ts then some (.tbl #[]) else none) (λb=>?_) (λT h=>?_) (.inl (.inr ⟨{ cls:=.type "list",data:=.seq vs.toArray },if_pos rfl⟩)) (λb u z=>?_) (λb z=>?_) λ_=>hk
  .by_cases hb:b=a
   .exact .inr (.inl ⟨_,_,if_pos hb⟩)
   .by_cases hb2:b∈ts
    .exact .inr (.inr ⟨hb2,by rw [if_neg hb,if_pos hb2]⟩)
    .exact .inl (by rw [if_neg hb,if_neg hb2])
  .rw [if_neg (λz=>aT (by rw [<- z];exact h)),if_pos h]
  .by_cases hb:b=a
   .have z':=(if_pos hb).symm.trans z;cases z';subst hb;exact ⟨ha,by rw [am];exact hl,vs,_,rv,ha⟩
   .have z1:=(if_neg hb).symm.trans z;by_cases hb2:b∈ts
    .have z2:=(if_pos hb2).symm.trans z1;cases z2;exact hT b hb2
    .have z2:=(if_neg hb2).symm.trans z1;cases z2
  .by_cases hb:b=a
   .exact .inl hb
   .by_cases hb2:b∈ts
    .exact .inr hb2
    .exact absurd (show (if b=a then _ else if b∈ts then _ else none)=none by rw [if_neg hb,if_neg hb2]) z
theorem walk_ofT{l:PySem.W.OpenLaw}{n k:Nat}{q:aI}{loose:List Str}{XP:(Str->Option Value)->Heap->Prop}{YP:aZ->Heap->Prop}{d:DefRec}{K:Params->ag}{CX:aZ->CXT}{sp:aZ->Sp}{ts:List Addr}
  (hn:l.most=some n) (hn2:n<=sizeLine) (hdf:d.params.defaults=[]) (hr:zz true k callerA)
  (hY:∀(w:aZ)(h:Heap),YP w h->(K w.params).In h/\∀T∈ts,h.get? T=some (tabObj #[]))
  (F:∀(w:aZ)(mg:Str->Option Value)(fa:Addr)(h:Heap),(K w.params).In h->h.Ns az mg->mg d.name=some (.ref fa) ->
   ∃fd:cL,(∀(s:af)(u:Value),BindsTo s fd ⟨[u],[]⟩ [(x,u)])/\(∀T∈ts,(K w.params).lookup T=none/\∃c,codeHdIn (K w.params) c T=true) /\
    ∀base:Heap,(K w.params).In base->base.Ns az mg->zcS mg base->zo l.prog w (K w.params) mg base (CX w) true k fa fd [x] (sp w))
  (hsp:∀(w:aZ)(H:Hp)(a:Addr)(ns:List Int),ns.length<=n->(∀T∈ts,H T=some (.tbl #[]))->SqL (K w.params) H a (ns.map V.int)->sp w [.ref a] H (λv _=>v = .bl true) λ_ _ _=>False)
  (hCX:∀(w:aZ)(H:Hp)(s:af)(e:Value)(s':af),CX w [] H s (λ_ _ _=>False) e s'->False) :
  PySem.W.WalkO q loose XP YP l.row.toRowW d [] (λf vs=>PySem.call f vs):=by
 refine Att.attach_call hn hdf λw s₀ s₁ mg mb fa o pm cd doc a vs ns G Y ho hd hcd hmg hobj hints hlen hg=>?_;obtain ⟨KX,hT⟩:=hY w _ Y;obtain ⟨fd,hb,hC,hF⟩:=F w mg fa _ KX G.T.g hmg;have hbm:zcS mg s₁.heap:=by
  obtain ⟨bm,ob,b1,b2,b3,b4,b5,b6⟩:=G.T.bmain;refine ⟨bm,ob,b1,b2,λz=>?_,b3,b4,b5,b6⟩;obtain ⟨og,es,ep,eg,hdg,_⟩:=G.T.g;rw [z,eg] at b3;cases b3;rw [hdg] at b6;cases b6
 exact zqY hT hC hbm KX G.T.g G.T.b G.T.builtins G.T.nolimit hg hobj hints (aW hlen hn2) hr hF hb (λH hO hS=>hsp w H a ns hlen hO hS) λH e s'=>hCX w H s₁ e s'
theorem Fun.okC{P:aI}{K:ag}{mg:Str->Option Value}{base:Heap}{st:Stmt}{f c:Addr}{fd:cL}{N ps:List Str}{k:Nat}{sp:Sp}(F:Fun K x qual st f fd)(hc:fd.code = .ref c)(S:zr N ps (zn st))(len:∀vs H Q E,sp vs H Q E->vs.length=ps.length)
  (hbody:∀(A:be)(outer:List Env)(s:af)(H:Hp)(vs:List V)(Q:VK)(E:XK),zz cm k (A.deeper (e9 qual (zn st) s.heap.objs.size f (.ref c)))->sp vs H Q E ->
   ∃t,PSs (zbt CX0 cm P w K mg base N qual (zn st) f (.ref c) A outer s H E).nox (zb5 st) t/\t { nx:=λ_ H'=>Q .non H',rt:=Q } (start N vs) H):zo P w K mg base CX0 cm (k+1) f fd ps sp:=by
 obtain ⟨oc,od,kV,doc,pm,an,cdv,ct,osl,rfl,lk,hcd⟩:=F.ex;have e:cdv = .ref c:=hc;subst e;refine zfU lk hcd S len λA outer s H vs Q E hr hsp=>?_;obtain ⟨t,h,q⟩:=hbody A outer s H vs Q E hr hsp;exact ⟨t,h.nox,q⟩
section
variable {X:Cx}
theorem zpK{k:Nat}{a:bw}{p lpos kp:Pos}(LB:zdH X.mg X.base X.env.code P)(hr:zz cm k X.A)
  (hg:Gl X "sorted") (hm:X.mg "sorted"=none) (ha:W (PE X a ta)) (hdef:defaultsOf params X.env=([],[])) (hcl:gb scope X.env=pure [])
  (hbind:∀(q:Str)(pm cd ct v:Value),bindArgs (kla_fn "<lambda>" q params (.Subscript (.Subscript (.Name x p1) (.Constant (.int 0) j1 p2) p3) (.Constant (.int 1) j2 p4) p5) scope [] pm cd ct) ⟨[v],[]⟩=pure [(x,v)])
  (hloc:scope.names=[(x,.local)]) (hkind:scope.kind = .function) (hco:scope.isCoroutine=false) (hgen:scope.isGenerator=false) (hp:zX a=true:=by rfl) (hdb:(x==("__debug__":Str))=false:=by decide) :
  W (PE X (.Call (.Name "sorted" p) [a] [⟨some (aj "key"),.Lambda params (.Subscript (.Subscript (.Name x p1) (.Constant (.int 0) j1 p2) p3) (.Constant (.int 1) j2 p4) p5) scope lpos,kp⟩] pos) (zf6 P lpos (X.env.qual++"<lambda>") ta)):=⟨znQ LB hr hg hm ha.h hdef hcl hbind hloc hkind hco hgen hp hdb⟩
def zhk(K:ag)(D:Addr)(tb:(Addr->St->Hp->Prop)->TS)(ts:TS):TS:=λZ σ H =>
 tb (λC σ' H'=>zaU K C/\ij K C (.ref D)=some true/\∀ea oe,H' ea=none->zdN C oe->ts Z σ' (upd H' ea (.frz oe (.own 0)))) Z σ H
theorem zvn{np hpos:Pos}{body:List Stmt}{b₀:Stmt}{suite:List Stmt}{ts:TS}(hc:X.calm=true)(hex:X.ex=[])(hstk:X.stack=X.env::X.outer/\X.env.frame=some X.env.locals)
  (OD:zaU X.K D) (hg:Gl X x) (hm:X.mg x=some (.ref D))
  (hb:∀Ga Ex,PSs (zgl X Ga Ex) body (tb Ex)) (hs:∀Ga ea,PSs (zd4 X Ga ea) (b₀::suite) ts) (hdb:(x==("__debug__":Str))=false:=by decide) :
  PS X (.Try body [.ExceptHandler (some (.Name x np)) none (b₀::suite) hpos] [] [] pos) (zhk X.K D tb ts):=by
 intro Ga s σ H Z I h;have hh:X.A.handled=none:=I.ok.hd hc;refine wpAny_Try_except (bu (hb Ga _ [] s σ H Z (I.p.wish _) h) (λf s1 q=>?_) λe s1 q=>?_)
 .cases f with
  | next =>
   obtain ⟨σ',H',J,q⟩:=q;exact fE ⟨σ',H',Inv.unp I.ok J.unwish,q⟩
  | brk=>obtain ⟨σ',H',J,q⟩:=q;exact ⟨σ',H',Inv.unp I.ok J.unwish,q⟩
  | cont=>obtain ⟨σ',H',J,q⟩:=q;exact ⟨σ',H',Inv.unp I.ok J.unwish,q⟩
  | ret u=>obtain ⟨v,σ',H',J,r,q⟩:=q;exact ⟨v,σ',H',Inv.unp I.ok J.unwish,r,q⟩
 .obtain ⟨ea,C,B,H',fl,σ',sI,rfl,J,y,os,bare,hB,up,OC,sub,want⟩:=q;have fr:X.A.frames=some (X.env::X.outer):=by rw [I.ok.frames,hstk.1]
  rw [hstk.1] at y;refine zmk fr hstk.2 y λh2 y2 u2=>zhs (s:={ s1 with heap:=h2 }) y2 λh3 y3 u3=>?_;have y3':zaH B X.stack ea (.ref C) .none h3:=by rw [hstk.1];exact y3
  have up3:=(up.trans u2).trans u3;obtain ⟨_,oe3,c3,g3,J3⟩:=zlO (s':={ s1 with heap:=h3 }) hex J y3' os bare hB up3;obtain ⟨cdC,cC,eC⟩:=OC.obj J3.kIn;obtain ⟨cdD,cD,eD⟩:=OD.obj J3.kIn;have hsub:cdC.mro.contains (.ref D)=true:=by
   unfold ij at sub;rw [cC] at sub;simp only [gW] at sub;split at sub
   .cases sub
   .exact bK.inj sub
  refine wpAny_handleBy_cons (codeAny_handlers_test (zcB (X:=zd4 X Ga ea) J3 hg hm ?_ hdb)) (by intro q;cases q);refine zs7 (h:=h3) (g:=s1.gens) (d:=s1.drawn) (t:=s1.toks) (os:=s1.os) eC eD g3 c3.1 hsub ?_;refine codeAny_handlers_suite ?_;refine zhs (s:={ s1 with heap:=h3 }) y3 λh4 y4 u4=>?_;have y4':zaH B X.stack ea (.ref C) .none h4:=by rw [hstk.1];exact y4
  obtain ⟨hH4,oe4,c4,g4,J4⟩:=zlO (s':={ s1 with heap:=h4 }) hex J y4' os bare hB (up3.trans u4);refine bu (hs Ga ea [] _ _ _ _ J4 (want ea oe4 hH4 c4)) (λf s6 q6=>?_) λ_ _ z=>z.elim;cases f with
  | next=>obtain ⟨σ7,H7,J7,q7⟩:=q6;exact ⟨_,_,Inv.unsuite I.ok hh J7,q7⟩
  | brk=>obtain ⟨σ7,H7,J7,q7⟩:=q6;exact ⟨_,_,Inv.unsuite I.ok hh J7,q7⟩
  | cont=>obtain ⟨σ7,H7,J7,q7⟩:=q6;exact ⟨_,_,Inv.unsuite I.ok hh J7,q7⟩
  | ret u=>obtain ⟨v,σ7,H7,J7,r7,q7⟩:=q6;exact ⟨v,_,_,Inv.unsuite I.ok hh J7,r7,q7⟩
theorem zje{np hpos:Pos}{body:List Stmt}{b₀:Stmt}{suite:List Stmt}{ts:TS}(hc:X.calm=true)(hex:X.ex=[])(hstk:X.stack=X.env::X.outer/\X.env.frame=some X.env.locals)
  (OD:zaU X.K D) (hg:Gl X x) (hm:X.mg x=some (.ref D))
  (hb:∀Ga Ex,W (PSs (zgl X Ga Ex) body (tb Ex))) (hs:∀Ga ea,W (PSs (zd4 X Ga ea) (b₀::suite) ts)) (hdb:(x==("__debug__":Str))=false:=by decide) :
  W (PS X (.Try body [.ExceptHandler (some (.Name x np)) none (b₀::suite) hpos] [] [] pos) (zhk X.K D tb ts)):=⟨zvn hc hex hstk OD hg hm (λGa Ex=>(hb Ga Ex).h) (λGa ea=>(hs Ga ea).h) hdb⟩
theorem znr{K:ag}{ts:TS}{Z:zaG}:zhk K D tb ts Z σ H=tb (λC σ' H'=>zaU K C/\ij K C (.ref D)=some true/\∀ea oe,H' ea=none->zdN C oe->ts Z σ' (upd H' ea (.frz oe (.own 0)))) Z σ H:=rfl
def zf1(neg:Bool):R2:=λx y H Q=>∃a b xs ys,x = .ref a/\y = .ref b/\H a=some (.lst xs)/\H b=some (.lst ys)/\(xs.length=0\/ys.length=0)/\Q (.bl (if neg then !decide (xs.length=ys.length) else decide (xs.length=ys.length))) H
theorem zkI(hu:X.A.units<cLine):OpR X (bG .Eq) (zf1 false):=by
 intro Ga s σ H x y v u Q I rx ry h;obtain ⟨a,b,xs,ys,rfl,rfl,ha,hb,h0,q⟩:=h;cases rx;cases ry;by_cases hz:xs.length=ys.length
 .have h1:xs=[]:=cR.mp (by lia);have h2:ys=[]:=cR.mp (by lia);subst h1 h2;exact zi7 hu Ga s σ H (.ref a) (.ref b) (.ref a) (.ref b) Q I rfl rfl ⟨a,b,[],[],rfl,rfl,SqL.of ha,SqL.of hb,rfl,rfl,q⟩
 .obtain ⟨is,r1,p1,_⟩:=I.list (SqL.of (K:=X.K) ha);obtain ⟨js,r2,p2,_⟩:=I.list (SqL.of (K:=X.K) hb);have l1:=r1.length;have l2:=r2.length;refine SeqAt.eq_list_lengthsAt p1.isList p2.isList (by simp;lia) hu ⟨.bl false,H,I,rfl,?_⟩;have q':Q (.bl (decide (xs.length=ys.length))) H:=q;rw [decide_eq_false hz] at q';exact q'
theorem zlI(hu:X.A.units<cLine):OpR X (bG .NotEq) (zf1 true):=by
 intro Ga s σ H x y v u Q I rx ry h;obtain ⟨a,b,xs,ys,rfl,rfl,ha,hb,h0,q⟩:=h;cases rx;cases ry;by_cases hz:xs.length=ys.length
 .have h1:xs=[]:=cR.mp (by lia);have h2:ys=[]:=cR.mp (by lia);subst h1 h2;exact zlb hu Ga s σ H (.ref a) (.ref b) (.ref a) (.ref b) Q I rfl rfl ⟨a,b,[],[],rfl,rfl,SqL.of ha,SqL.of hb,rfl,rfl,q⟩
 .obtain ⟨is,r1,p1,_⟩:=I.list (SqL.of (K:=X.K) ha);obtain ⟨js,r2,p2,_⟩:=I.list (SqL.of (K:=X.K) hb);have l1:=r1.length;have l2:=r2.length;refine SeqAt.RcNeAt.lists_lengths p1.isList p2.isList (by simp;lia) hu _ _ _ _ ⟨.bl true,H,I,rfl,?_⟩;have q':Q (.bl (!decide (xs.length=ys.length))) H:=q;rw [decide_eq_false hz] at q';exact q'
theorem zpv{neg:Bool}{b:Addr}{Q:VK}:zf1 neg (.ref a) (.ref b) H Q = ∃xs ys,H a=some (.lst xs)/\H b=some (.lst ys)/\(xs.length=0\/ys.length=0)/\Q (.bl (if neg then !decide (xs.length=ys.length) else decide (xs.length=ys.length))) H:=by
 apply propext;constructor
 .rintro ⟨a',b',xs,ys,e1,e2,h⟩;cases e1;cases e2;exact ⟨xs,ys,h⟩
 .rintro ⟨xs,ys,h⟩;exact ⟨a,b,xs,ys,rfl,rfl,h⟩
end
section
variable {K:ag}{g:TG}{tt:TT}{te:TE}{H:Hp}{Q:VK}
theorem zau.rngS{lo:Int}{n:Nat}{τ:St}(Pv:Nat->St->List V->Hp->Prop)(hz:∀i τ ys H,Pv i τ ys H->ys.length<sizeLine)(h0:Pv 0 τ [] H)
  (hs:∀(N:St->List V->Hp->Prop) i τ ys H,i<n->Pv i τ ys H->(∀τ ys H,Pv (i+1) τ ys H->N τ ys H)->g (.int (lo+i)) τ H λτ1 H4=>tt τ1 H4 λok H5=>zck N ys τ1 te ok H5) (hd:∀τ ys H,Pv n τ ys H->∀D H',New H D (.lst ys) H'->D≠sysModules->Q (.ref D) H'):zau (Itr lo n) g tt te τ H Q:=by
 refine ⟨λi m τ ys H=>m=n-i/\i<=n/\Pv i τ ys H,⟨n,by simp,cf _,h0⟩,?_⟩;rintro i m τ ys H2 ⟨rfl,hi,p⟩;refine ⟨hz i τ ys H2 p,?_⟩;by_cases hlt:i<n
 .refine .inr ⟨hlt,λx H' y=>?_⟩;obtain ⟨rfl,rfl⟩:=y;exact hs (λτ1 ys H=>∃m',m'<n-i/\m'=n-(i+1)/\i+1<=n/\Pv (i+1) τ1 ys H) i τ ys _ hlt p λτ1 zs H q=>⟨n-(i+1),by lia,rfl,hlt,q⟩
 .have e:i=n:=by lia
  subst e;exact .inl ⟨ae _,λD hD hs=>hd τ ys H2 p D _ (.mk' hD) hs⟩
end
theorem zt5{c:Bool}{i:Int}{p:Addr}{Q:VK}:ze3 c (.int i) (.ref p) H Q = ∃kvs,Rd H p (.dK kvs)/\Q (.bl (if c then !(zU kvs (.inl i)).isSome else (zU kvs (.inl i)).isSome)) H:=by
 apply propext;constructor
 .rintro ⟨a,k,kvs,e1,e2,h,q⟩;cases e1;cases k with
  | inl i=>cases e2;exact ⟨kvs,h,q⟩
  | inr x=>cases e2
 .rintro ⟨kvs,h,q⟩;exact ⟨p,.inl i,kvs,rfl,rfl,h,q⟩
section
variable {prog:aI}{w:aZ}{A:be}{E:Value->af->Prop}{s:af}
end
section
variable {X:Cx}
def zgq(to te:TE):TE:=λσ H Q=>to σ H λx H1=>uR x λl=>(∃xs,H1 l=some (.lst xs))/\te σ H1 λy H2=>∃(xs:List V)(k:Nat)(v:V),y = .int k/\H2 l=some (.lst xs)/\xs[k]?=some v/\Q v (upd H2 l (.lst (xs.eraseIdx k)))
theorem zvS{Q:VK}:zgq to te σ H Q=to σ H λx H1=>uR x λl=>(∃xs,H1 l=some (.lst xs))/\te σ H1 λy H2=>∃(xs:List V)(k:Nat)(v:V),y = .int k/\H2 l=some (.lst xs)/\xs[k]?=some v/\Q v (upd H2 l (.lst (xs.eraseIdx k))):=rfl
theorem zp7{o e:bw}{apos cpos:Pos}(ho:PE X o to)(he:PE X e te)
  (hbase:cy o "pop" X.env (bV o X.env)=bV o X.env:=by rfl)
  (hline:(apos.endLine==cpos.line)=true:=by rfl) (hp:zX e=true:=by rfl):PE X (.Call (.Attribute o "pop" apos) [e] [] cpos) (zgq to te):=by
 intro Ga s σ H Q I h;have hs:aV [e] X.env=[(false,bV e X.env)]:=zbx hp;refine cX hbase (by rw [hs];rfl) hline rfl (thn (ho Ga s σ H _ I h) λv s1=>x5e λx H1 I1 r1 zz1=>?_);obtain ⟨l,ex,⟨xs,hx⟩,q1⟩:=zz1;subst ex;obtain ⟨h1,h2⟩:=zdm (T:="list") I1 r1 (.inl ⟨rfl,xs,SqL.of hx⟩);refine ⟨"list","list.pop",gM,PySem.F.slot_list_pop,PySem.F.type_list_pop,h1,h2,?_⟩;rw [hs];refine Calls.callWith_builtin rfl (Calls.evalArgs_plain ?_);have hA:=zb6 he zbX (hs:=hs) cpos Ga s1 σ H1 (λys H2=>za6 (λy=>∃(xs:List V)(k:Nat)(v:V),y = .int k/\H2 l=some (.lst xs)/\xs[k]?=some v/\Q v (upd H2 l (.lst (xs.eraseIdx k)))) ys) I1 q1;rw [hs] at hA;refine thn hA λus s2=>x5e λvs H2 I2 r2 q2=>?_;obtain ⟨_,rfl,xs2,k,y,rfl,hx2,hk,q2⟩:=za6.ex q2;obtain ⟨hz,_⟩:=I2.lstM hx2;have hlt:k<xs2.length:=(ak.mp hk).1;have hkz:k<sizeLine:=aR hlt hz;rw [cU] at hkz;exact zti Ga s2 σ H2 (.ref l) [.int k] v us Q I2 r1 r2 ⟨l,xs2,k,k,y,rfl,rfl,hx2,by lia,by lia,by simp [iq];lia,hk,q2⟩
theorem zvo{o e:bw}{apos cpos:Pos}(ho:W (PE X o to))(he:W (PE X e te))
  (hbase:cy o "pop" X.env (bV o X.env)=bV o X.env:=by rfl)
  (hline:(apos.endLine==cpos.line)=true:=by rfl) (hp:zX e=true:=by rfl):W (PE X (.Call (.Attribute o "pop" apos) [e] [] cpos) (zgq to te)):=⟨zp7 ho.h he.h hbase hline hp⟩
end
end L2
namespace L2
open PySem PySem.Spec PyProof.Rows PySem.W
section
variable {α β:Type}{lt:Nat->Nat->Bool}{N:Nat}
end
end L2
namespace L2
open PySem PySem.Spec PyProof.Rows
theorem zvF{prog:aI}{w:aZ}{A:be}{R:Result->af->Prop}{s:af}{kx vx target iter:bw}{ifs:List bw}{scope:Scope}{pos:Pos}{it:Value}{D:Addr}{env:Env}(I:Nat->af->Prop)
  (turn:∀n s,I n s->aH (aC prog w) A (f8 it) (λr s₁=>match r with
   | none=>R (.ok .next) s₁
   | some v=>aH (aC prog w) A (fH target it v) (λ_ s₁'=>aH (aC prog w) A (assign target env v) (λ_ s₂ =>
     aH (aC prog w) A (forIn ifs true λc r=>if r=true then do let ok<-isTrue c env (bV c env);pure (ForInStep.yield ok) else pure (ForInStep.yield r)) (λok s₃ =>
      if ok=true then aH (aC prog w) A (bV kx env) (λx s₄=>aH (aC prog w) A (bV vx env) (λy s₅ =>
       aH (aC prog w) A (dictSet D x y) (λ_ s₆=>∃m,m<n/\I m s₆) (λ_ _=>False) s₅) (λ_ _=>False) s₄) (λ_ _=>False) s₃
      else ∃m,m<n/\I m s₃) (λ_ _=>False) s₂) (λ_ _=>False) s₁') (λ_ _=>False) s₁) (λ_ _=>False) s)
  (n:Nat) (h:I n s):gS (aC prog w) A (.compLoop (.DictComp kx vx [⟨target,iter,ifs,0⟩] scope pos) 0 it (.ref D) env) R s:=by
 refine codeAny_loop rfl I (λn s hI=>?_) n h;show aH _ A ((compTurn (.DictComp kx vx [⟨target,iter,ifs,0⟩] scope pos) 0 it (.ref D) env).onRaise (λx=>do iu x env;theTreesLotGoes x)) _ _ s;refine wpAny_noted (bu (E:=λ_ _=>False) ?_ (λ_ _ q=>q) λ_ _ z=>z.elim);rw [compTurn_dict];refine aa (dF (aa (bu (turn n s hI) (λr s₁ h₁=>?_) λ_ _ h'=>h')));cases r with
 | none=>exact ar h₁
 | some v =>
  refine aa (bu h₁ (λ_ s₁' h₁'=>?_) λ_ _ h'=>h');refine aa (bu h₁' (λ_ s₂ h₂=>aa (bu h₂ (λok s₃ h₃=>?_) λ_ _ h'=>h')) λ_ _ h'=>h');cases ok with
  | false=>exact ar ⟨rfl,h₃⟩
  | true=>exact aa (aa (bu h₃ (λkv s₄ h₄=>aa (bE (bu h₄ (λvv s₅ h₅=>aa (dF (bE (bu h₅ (λ_ s₆ h₆=>ar ⟨rfl,h₆⟩) λ_ _ z=>z)))) λ_ _ z=>z))) λ_ _ z=>z))
def tDC(ix:List (Option Nat))(wi:TI)(g:TG)(tt:TT)(tk tv:TE):TE:=λσ H Q=>wi σ H λJ H1=>∃W:Nat->Nat->St->List (Key×V)->Hp->Prop,(∃m,W 0 m (za3 ix σ) [] H1)/\∀i m τ ys H2,W i m τ ys H2->ys.length<sizeLine /\
 ((J.stop i H2 ∧ ∀ D, H2 D = none → D ≠ sysModules → Q (.ref D) (upd H2 D (.dK ys))) ∨
  (J.go i H2 ∧ ∀ x H3, J.yld i H2 x H3 → g x τ H3 fun τ1 H4 => tt τ1 H4 fun ok H5 => if ok = true then tk τ1 H5 fun y H6 => tv τ1 H6 fun z H7 => uK y fun k => ∃ m', m' < m ∧ W (i + 1) m' τ1 (zan ys k z) H7 else ∃ m', m' < m ∧ W (i + 1) m' τ1 ys H5))
theorem zuq{c:Bool}{X:Cx}{kx vx tg iter:bw}{ifs:List bw}{sc:Scope}{pos:Pos}{N':List Str}{ix:List (Option Nat)}{wi:TI}{g:TG}{tt:TT}{tk tv:TE}(hc:c=true->X.calm=true)(L:zaz X sc N' ix)(hi:PIc c X tg iter wi)
  (hg:∀Ga C fp s H,PG (zE X sc N' Ga C fp s H) tg g) (ht:∀Ga C fp s H,PTs (zE X sc N' Ga C fp s H) ifs tt) (hk:∀Ga C fp s H,PE (zE X sc N' Ga C fp s H) kx tk) (hv:∀Ga C fp s H,PE (zE X sc N' Ga C fp s H) vx tv)
  (hs:∀x,dB iter X.env x=pure x:=by intro _;rfl):PE X (.DictComp kx vx [⟨tg,iter,ifs,0⟩] sc pos) (tDC ix wi g tt tk tv):=by
 intro Ga s σ H Q I h;rw [arm_eval_DictComp];have hclos:gb sc X.env=pure (zaA X.env.cells sc.names []):=zlA λy hy hk=>I.ok.has y.1 (.inl (L.free y hy hk).1);refine wpAny_comprehension_free (use:=none) rfl hs hclos L.kind L.names (thn (hi Ga s σ H _ I h) λv s1 h1=>thn h1 λitv s2 h2=>?_);obtain ⟨it,fp,tn,J,H2,e,I2,T,st2,f2,W,⟨m0,w0⟩,turn⟩:=h2;subst e;refine cx (gy L.cell (by intro y hy;simp at hy) (λh₁ hns₁ hsb₁=>?_) L.kind);dsimp only at hns₁ hsb₁ ⊢;have hnew:(s2.heap.push { cls:=.type "dict",dict:=none,data:=.dict #[] }).DictOf (zad X.prog X.w) s2.heap.objs.size []:=Heap.DictOf.new s2.heap;generalize hH2:s2.heap.push { cls:=.type "dict",dict:=none,data:=.dict #[] }=G2 at hns₁ hsb₁ hnew ⊢;have hC:G2.objs.size=s2.heap.objs.size+1:=by rw [<- hH2,cj]
 have hDC:s2.heap.objs.size≠G2.objs.size:=by rw [hC];exact bC (gj _)
 have hCle:s2.heap.objs.size<=G2.objs.size:=by rw [hC];exact le_succ _
 have below:∀b,b<s2.heap.objs.size->b≠G2.objs.size/\b≠s2.heap.objs.size:=λb hb=>⟨by rw [hC];exact bC (eQ hb),bC hb⟩;have old:∀b o,s2.heap.get? b=some o->h₁.get? b=some o:=λb o e=>hsb₁.extBut b o (below b (aP e)).1 (ad _ (hH2 ▸ ad _ e));have hacc:h₁.DictOf (zad X.prog X.w) s2.heap.objs.size []:=hnew.at λo e=>hsb₁.extBut _ _ hDC (ad _ e);have fl:∀b∈fp,b<s2.heap.objs.size:=λb hb=>by
  obtain ⟨o,e,_⟩:=T.obj 0 _ st2 b hb;exact aP e
 have hDfp:s2.heap.objs.size∉fp:=λz=>bj _ (fl _ z);generalize hD:s2.heap.objs.size=D at *
 generalize hCe:G2.objs.size=C at *
 have cof:∀x c,(zaA X.env.cells sc.names []).lookup x=some c->X.env.cells.lookup x=some c:=λx c h=>by
  rcases zeq h with h|h
  .cases h
  .exact h.1
 have st1:tn 0 h₁:=T.keep _ _ _ st2 λb _ o e=>old b o e;have I3:Inv (zE X sc N' Ga C fp s2 H2) [] (za3 ix σ) H2 { s2 with heap:=h₁,toks:=s2.toks+([]:List (Str×Value)).length }:=zj9 I2 L f2 (λb hb=>by rw [hD];exact fl b hb) (by rw [hD];exact hCle) hns₁ old;have D0:H2 D=none:=I2.hok.fresh (gB hD);have fD:∀{H':Hp},H' D=none->zbc (zE X sc N' Ga C fp s2 H2) [] H' D:=λ{H'} hn=>by
  refine ⟨hn,hDC,λz=>?_,.inr (gB hD),λx c hx z=>?_,λp hp z=>?_⟩
  .obtain ⟨_,o,ho,_⟩:=I2.stack.mem (show D∈frs X.stack from z);exact absurd (aP ho) (by rw [hD];exact bj _)
  .obtain ⟨v,q⟩:=I2.cell x c (cof x c hx);have:=q.lt;rw [z,hD] at this;exact bj _ this
  .have hp':p∈X.pn++Ga:=by
    have:p∈(X.pn++Ga)++[]:=hp;simpa using this
   have:=aP (I2.pin p hp').1;rw [z,hD] at this;exact bj _ this
 have fF:∀{H':Hp},(∀b∈fp,H' b=none)->∀b∈fp,zbc (zE X sc N' Ga C fp s2 H2) [] H' b:=λ{H'} hn b hb=>by
  obtain ⟨_,g1,g2,g3,g4,g5⟩:=f2 b hb;refine ⟨hn b hb,(below b (fl b hb)).1,λz=>?_,.inl hb,λx c hx=>g4 x c (cof x c hx),λp hp=>g5 p ?_⟩
  .rcases au.mp (I2.stkSub b z) with e|e
   .exact g1 e
   .exact g2 e
  .have:p∈(X.pn++Ga)++[]:=hp;simpa using this
 have loop:∀s₃:af,s₃={ s2 with heap:=h₁,toks:=s2.toks+([]:List (Str×Value)).length } ->
   gS (aC X.prog X.w) X.A (.compLoop (.DictComp kx vx [⟨tg,iter,ifs,0⟩] sc pos) 0 (.ref it) (.ref D) (compEnvC sc (zaA X.env.cells sc.names []) C X.env))
    (compPost (aC X.prog X.w) X.A X.xe none (EP X Ga σ Q) (.ref D) C) s₃:=by
  rintro s₃ rfl;refine zvF (λn s'=>∃i τ ys H',Inv (zE X sc N' Ga C fp s2 H2) [] τ H' s'/\tn i s'.heap/\(∀b∈fp,H' b=none)/\H' D=none/\(∃vs,KV ys vs/\s'.heap.DictOf (zad X.prog X.w) D vs)/\W i n τ ys H')
   ?_ m0 ⟨0,_,[],H2,I3,st1,λb hb=>(f2 b hb).1,D0,⟨[],.nil,hacc⟩,w0⟩
  rintro n s4 ⟨i,τ,ys,H4,I4,st4,fr4,dn4,⟨vs,rv,dd⟩,w4⟩;obtain ⟨hlen,step⟩:=turn i n τ ys H4 w4;obtain ⟨ob,es,ep,dg,dx,ddt,dr⟩:=id dd;have dat:∀{h:Heap},h.get? D=some ob->h.DictOf (zad X.prog X.w) D vs:=λ{h} e=>⟨ob,es,ep,e,dx,ddt,dr⟩;have noc:∀v,ob.data≠.cell v:=λv z=>by rw [ddt] at z;cases z
  rcases step with ⟨stop,fin⟩|⟨go,step⟩
  .refine thn (T.done (zE X sc N' Ga C fp s2 H2) rfl rfl rfl hc i [(D,ob)] s4 τ H4 (λ_ _=>False) (I4.pins_of λp hp=>?_) (λb hb=>?_) st4 stop) λr s5=>x2e λhr I5=>?_
   .have e:p=(D,ob):=by simpa using hp
    subst e;obtain ⟨g0,g1,g2,_⟩:=fD dn4;exact ⟨dg,g0,g1,g2,noc⟩
   .obtain ⟨g0,g1,g2,g3,g4,g5⟩:=fF fr4 b hb;refine ⟨g0,g1,g2,g3,g4,λp hp=>?_⟩;rcases aS.mp hp with z|z
    .exact g5 p (bN _ z)
    .have e:p=(D,ob):=by simpa using z
     subst e;exact λq=>hDfp (by have q':D=b:=q;rw [q'];exact hb)
   .subst hr;have dg5:=(I5.pin (D,_) (aQ _ (ax.mpr rfl))).1;obtain ⟨m5,hn5,_⟩:=id I5.loc;refine ⟨m5,hn5,λh' hsb=>?_⟩;have kb:∀b u,b≠C->s5.heap.get? b=some u->h'.get? b=some u:=λb u hb e=>(hsb.2 b hb).trans e;have hlt:∀b o,s2.heap.get? b=some o->b≠C/\b≠D:=λb o e=>by
     have:=aP e;rw [hD] at this;exact below b this
    have nsm:D≠sysModules:=by have h:az<s2.heap.objs.size:=(I2.mod.glob.keeps I2.bk).lt;rw [hD] at h;exact dQ (lt_trans (by decide) h)
    have U:=I5.base;refine ⟨.ref D,upd H4 D (.dK ys),I2.call' (s':={ s5 with heap:=h' }) (ch:=fp) I5.os ⟨λb o e n hb hx=>kb b o (hlt b o e).1 (U.keep b o e n hb hx),λb o e n hb hx=>?_,λb o e n hx=>?_,λb o e hx=>?_,λb xs e=>?_,λb o u e=>?_,λb ps e=>?_⟩ ?_ I5.bare (λb hb=>?_),rfl,fin D dn4 nsm⟩
    .obtain ⟨sl,q⟩:=U.slot b o e n hb hx;exact ⟨sl,kb b _ (hlt b o e).1 q⟩
    .rw [zd (hlt b o e).2];exact U.free b o e n hx
    .obtain ⟨o',q⟩:=U.there b o e hx;exact ⟨o',kb b _ (hlt b o e).1 q⟩
    .have q:=U.tups b xs e;rw [zd (zp q dn4)];exact q
    .have q:=U.frzs b o u e;rw [zd (zp q dn4)];exact q
    .obtain ⟨more,q⟩:=U.tbls b ps e;exact ⟨more,by rw [zd (zp q dn4)];exact q⟩
    .refine (I5.hok.but I5.free kb).add dn4 ?_;exact ⟨dE hlen,by simpa using nsm,vs,rv,dat (kb _ _ hDC dg5)⟩
    .obtain ⟨_,g1,g2,g3,g4,g5⟩:=f2 b hb;exact ⟨g3,g1,g4,g5⟩
  .refine thn (T.item (zE X sc N' Ga C fp s2 H2) rfl rfl rfl hc i [(D,ob)] s4 τ H4 (λ_ _=>False) (I4.pins_of λp hp=>?_) (λb hb=>?_) st4 go) λr s5=>x3e λu hr h5=>?_
   .have e:p=(D,ob):=by simpa using hp
    subst e;obtain ⟨g0,g1,g2,_⟩:=fD dn4;exact ⟨dg,g0,g1,g2,noc⟩
   .obtain ⟨g0,g1,g2,g3,g4,g5⟩:=fF fr4 b hb;refine ⟨g0,g1,g2,g3,g4,λp hp=>?_⟩;rcases aS.mp hp with z|z
    .exact g5 p (bN _ z)
    .have e:p=(D,ob):=by simpa using z
     subst e;exact λq=>hDfp (by have q':D=b:=q;rw [q'];exact hb)
   .subst hr;refine thn h5 λ_ s6=>x5e λx H6 I6 r6 zz1=>?_;obtain ⟨y6,st6,fr6⟩:=zz1;obtain ⟨dg6,dn6,_⟩:=I6.pin (D,_) (aQ _ (ax.mpr rfl));have dn6':H6 D=none:=dn6;have all6:∀b∈D::fp,zbc (zE X sc N' Ga C fp s2 H2) [] H6 b:=λb hb=>by
     rcases au.mp hb with z|z
     .subst z;exact fD dn6'
     .exact fF fr6 b z
    have obj6:∀b∈D::fp,∃o,s6.heap.get? b=some o/\∀v,o.data≠.cell v:=λb hb=>by
     rcases au.mp hb with z|z
     .subst z;exact ⟨_,dg6,noc⟩
     .exact T.obj _ _ st6 b z
    have I6':=(I6.unpinned (Ga:=[])).pinned all6 obj6;refine thn (hg Ga C fp s2 H2 _ s6 τ H6 x u _ I6' r6 (step x H6 y6)) λ_ s7=>x4e λτ7 H7 I7 q7=>?_;refine thn (ht Ga C fp s2 H2 _ s7 τ7 H7 _ I7 q7) λok s8=>x3e λH8 I8 q8=>?_;have back:∀{s9:af}{H9:Hp},Inv (zE X sc N' Ga C fp s2 H2) ([]++zdd (D::fp) s6.heap) τ7 H9 s9->s9.heap.get? D=some ob/\H9 D=none/\tn (i+1) s9.heap/\∀b∈fp,H9 b=none:=λ{s9 H9} I9=>by
     have pin:∀b o,b∈D::fp->s6.heap.get? b=some o->s9.heap.get? b=some o/\H9 b=none:=λb o hb e=>by
      have q:=I9.pin (b,o) (aQ _ (aQ _ (zfs hb e)));exact ⟨q.1,q.2.1⟩
     refine ⟨(pin D _ bf dg6).1,(pin D _ bf dg6).2,T.keep _ _ _ st6 λb hb o e=>(pin b o (aF _ hb) e).1,λb hb=>?_⟩;obtain ⟨o,e,_⟩:=T.obj _ _ st6 b hb;exact (pin b o (aF _ hb) e).2
    cases ok with
    | false =>
     obtain ⟨b1,b2,b3,b4⟩:=back I8;simp only [dj,if_false] at q8 ⊢;obtain ⟨m',hm,w'⟩:=q8;exact ⟨m',hm,i+1,τ7,ys,H8,I8.unpinned,b3,b4,b2,⟨vs,rv,dat b1⟩,w'⟩
    | true =>
     simp only [if_true] at q8 ⊢;refine thn (hk Ga C fp s2 H2 _ s8 τ7 H8 _ I8 q8) λy s9=>x5e λyv H9 I9 r9 q9=>?_;refine thn (hv Ga C fp s2 H2 _ s9 τ7 H9 _ I9 q9) λz s10=>x5e λzv H10 I10 r10 zz2=>?_;obtain ⟨kk,ek,m',hm,w'⟩:=zz2;subst ek;obtain ⟨b1,b2,b3,b4⟩:=back I10;have lv:vs.length<sizeLine:=by rw [<- rv.length];exact hlen
     refine wpAny_dictSet_pairs (hsz:=dE lv) (zcv r9) (dat b1) λh11 dd11 sb=>?_;obtain ⟨_,g1,_,g3,g4,g5⟩:=fD b2;exact ⟨m',hm,i+1,τ7,zan ys kk zv,H10,(I10.unpinned (Ga:=[])).turned (t':=s10.toks+1) (λb o hb e=>(sb.2 b hb).trans e) b2 g1 g3 g4 g5,T.keep _ _ _ b3 λb hb o e=>(sb.2 b λq=>hDfp (by rw [<- q];exact hb)).trans e,b4,b2,⟨_,rv.put kk r10,dd11⟩,w'⟩
 exact codeAny_compStart_dict (loop _ rfl) (T.self _ 0 _ _ _ st1 (loop _ rfl))
end L2
namespace L2
open PySem PySem.Spec PyProof.Rows PySem.W PySem.Calls
variable{τ:St}
section
variable {prog:aI}{w:aZ}{A:be}{E:Value->af->Prop}{s:af}
end
theorem zfy{α β:Type}{R:α->β->Prop}:∀{l:List α}{m:List β},l.length=m.length->(∀(i:Nat) a b,l[i]?=some a->m[i]?=some b->R a b)->Paired R l m
 | [],[],_,_=>.nil
 | [],_::_,h,_=>absurd h (by simp)
 | _::_,[],h,_=>absurd h (by simp)
 | a::l,b::m,h,f=>.cons (f 0 a b rfl rfl) (zfy (by simpa using h) λi x y hx hy=>f (i+1) x y hx hy)
section
variable {X:Cx}
def ik(kvs:List (Int×V)):List (Key×V):=kvs.map λp=>(.inl p.1,p.2)
end
theorem zrj{c:Bool}{X:Cx}{kx vx tg iter:bw}{ifs:List bw}{sc:Scope}{pos:Pos}{N':List Str}{ix:List (Option Nat)}{wi:TI}{g:TG}{tt:TT}{tk tv:TE}(hc:c=true->X.calm=true)(L:zaz X sc N' ix)(hi:W (PIc c X tg iter wi))(hg:∀Ga C fp s H,W (PG (zE X sc N' Ga C fp s H) tg g))(ht:∀Ga C fp s H,W (PTs (zE X sc N' Ga C fp s H) ifs tt))(hk:∀Ga C fp s H,W (PE (zE X sc N' Ga C fp s H) kx tk))(hv:∀Ga C fp s H,W (PE (zE X sc N' Ga C fp s H) vx tv))(hs:∀x,dB iter X.env x=pure x:=by intro _;rfl):W (PE X (.DictComp kx vx [⟨tg,iter,ifs,0⟩] sc pos) (tDC ix wi g tt tk tv)):=⟨zuq hc L hi.h (λa b c d e=>(hg a b c d e).h) (λa b c d e=>(ht a b c d e).h) (λa b c d e=>(hk a b c d e).h) (λa b c d e=>(hv a b c d e).h) hs⟩
theorem zoO{a:Addr}{i:Int}{H:Hp}{Q:VK}:zfI (.ref a) (.int i) H Q = ∃kvs,Rd H a (.dK kvs)/\∃v,zU kvs (.inl i)=some v/\Q v H:=by
 apply propext;constructor
 .rintro ⟨a',k,kvs,v,e1,e2,h1,h2,q⟩;cases e1;cases k with
  | inl j=>cases e2;exact ⟨kvs,h1,v,h2,q⟩
  | inr x=>cases e2
 .rintro ⟨kvs,h1,v,h2,q⟩;exact ⟨a,.inl i,kvs,v,rfl,rfl,h1,h2,q⟩
section
variable {K:ag}{g:TG}{tt:TT}{te tk tv:TE}{σ:St}{H:Hp}{wi:TI}{ix:List (Option Nat)}{Q:VK}
def zeD(J:It)(g:TG)(tt:TT)(tk tv:TE)(τ:St)(H:Hp)(Q:VK):Prop:=∃W:Nat->Nat->St->List (Key×V)->Hp->Prop,(∃m,W 0 m τ [] H)/\∀i m τ ys H2,W i m τ ys H2->ys.length<sizeLine /\
 ((J.stop i H2 ∧ ∀ D, H2 D = none → D ≠ sysModules → Q (.ref D) (upd H2 D (.dK ys))) ∨
  (J.go i H2 ∧ ∀ x H3, J.yld i H2 x H3 → g x τ H3 fun τ1 H4 => tt τ1 H4 fun ok H5 => if ok = true then tk τ1 H5 fun y H6 => tv τ1 H6 fun z H7 => uK y fun k => ∃ m', m' < m ∧ W (i + 1) m' τ1 (zan ys k z) H7 else ∃ m', m' < m ∧ W (i + 1) m' τ1 ys H5))
theorem zqr:tDC ix wi g tt tk tv σ H Q=wi σ H λJ H1=>zeD J g tt tk tv (za3 ix σ) H1 Q:=rfl
def zgb(N:St->List (Key×V)->Hp->Prop)(ys:List (Key×V))(τ1:St)(tk tv:TE)(ok:Bool)(H5:Hp):Prop:=if ok=true then tk τ1 H5 λy H6=>tv τ1 H6 λz H7=>uK y λk=>N τ1 (zan ys k z) H7 else N τ1 ys H5
theorem znL{N:St->List (Key×V)->Hp->Prop}{ys:List (Key×V)}:zgb N ys τ tk tv true H=tk τ H λy H6=>tv τ H6 λz H7=>uK y λk=>N τ (zan ys k z) H7:=rfl
theorem zqU{N:St->List (Key×V)->Hp->Prop}{ys:List (Key×V)}:zgb N ys τ tk tv false H=N τ ys H:=rfl
theorem zeD.lst{a:Addr}{xs:List V}(Pv:Nat->St->List (Key×V)->Hp->Prop)(hz:∀i τ ys H,Pv i τ ys H->ys.length<sizeLine)(ha:∀i τ ys H,Pv i τ ys H->SqL K H a xs)(h0:Pv 0 τ [] H)
  (hs:∀(N:St->List (Key×V)->Hp->Prop) i x τ ys H,xs[i]?=some x->Pv i τ ys H->(∀τ ys H,Pv (i+1) τ ys H->N τ ys H)->g x τ H λτ1 H4=>tt τ1 H4 λok H5=>zgb N ys τ1 tk tv ok H5) (hd:∀τ ys H,Pv xs.length τ ys H->∀D H',New H D (.dK ys) H'->Q (.ref D) H'):zeD (Itl K a) g tt tk tv τ H Q:=by
 refine ⟨λi m τ ys H=>m=xs.length-i/\i<=xs.length/\Pv i τ ys H,⟨xs.length,by simp,cf _,h0⟩,?_⟩;rintro i m τ ys H2 ⟨rfl,hi,p⟩;refine ⟨hz i τ ys H2 p,?_⟩;have q:=ha i τ ys H2 p;by_cases hlt:i<xs.length
 .refine .inr ⟨⟨xs,xs[i],q,by simp [hlt]⟩,λx H' y=>?_⟩;obtain ⟨e,y⟩:=y;subst e;exact hs (λτ1 ys H=>∃m',m'<xs.length-i/\m'=xs.length-(i+1)/\i+1<=xs.length/\Pv (i+1) τ1 ys H) i x τ ys _ (y xs q) p λτ1 zs H q=>⟨xs.length-(i+1),by lia,rfl,hlt,q⟩
 .have e:i=xs.length:=by lia
  subst e;exact .inl ⟨⟨xs,q,ae _⟩,λD hD _=>hd τ ys H2 p D _ (.mk' hD)⟩
end
end L2
namespace L2
open PySem PySem.Spec PyProof.Rows
def Ris(xs:Array Nat):Prop:=∀i j,i<j->j<xs.size->xs.getD i 0<xs.getD j 0
structure znS(bt:Bool)(t:SetTable):Prop where
 led:t.led = !bt
 dum:t.dummies = #[]
 ris:Ris t.place
def btW(w:aZ):Bool:=w.params.followText "set-order"
def zqK(e:Int×Value):Int:=cV e.2
structure zfM(prog:aI)(w:aZ)(h:Heap)(a:Addr)(ns:List Int):Prop where
 ex:∃o es ep t,h.get? a=some o/\o.ExactSet/\o.data = .set es ep t/\ElemsOf (PySem.intKind prog w) es.toList/\t.fits es.size=true/\znS (btW w) t/\(es.toList.map zqK).Perm ns
 few:ns.length<4000
section
variable {prog:aI}{w:aZ}{A:be}{E:Value->af->Prop}{s:af}
theorem zfM.at{h h':Heap}{a:Addr}{ns:List Int}(x:zfM prog w h a ns)(k:∀o,h.get? a=some o->h'.get? a=some o):zfM prog w h' a ns :=
 let ⟨o,es,ep,t,ho,r⟩:=x.ex;⟨⟨o,es,ep,t,k o ho,r⟩,x.few⟩
end
section
variable {elt t0 i0 t1 i1 t2 i2:bw}{sc:Scope}{pos:Pos}{it acc:Value}{env:Env}
end
def zgn(ns:List Int)(n:Int):List Int:=if n∈ns then ns else ns++[n]
section
variable {X:Cx}{D:Addr}
end
section
variable {prog:aI}{w:aZ}{A:be}{E:Value->af->Prop}{s:af}
structure SIt(h:Heap)(I a:Addr)(n ep:Nat)(first:Value)(i:Nat):Prop where
 ex:∃o,h.get? I=some o/\o.cls = .type "set_iterator"/\o.data = .fields #[first,.int i 0,.ref a,.int n 0,.int ep 0]
theorem SIt.at{h h':Heap}{I a:Addr}{n ep:Nat}{first:Value}{i:Nat}(x:SIt h I a n ep first i)(k:∀o,h.get? I=some o->h'.get? I=some o):SIt h' I a n ep first i:=let ⟨o,ho,r⟩:=x.ex;⟨⟨o,k o ho,r⟩⟩
section
variable {a:Addr}{o:Obj}{es:Array (Int×Value)}{ep:Nat}{t:SetTable}
end
end
section
variable {prog:aI}{w:aZ}{A:be}{E:Value->af->Prop}{s:af}
variable {a I:Addr}{o:Obj}{es:Array (Int×Value)}{ep:Nat}{t:SetTable}{i:Nat}
end
section
variable {prog:aI}{w:aZ}{A:be}{E:Value->af->Prop}{s:af}
end
end L2
namespace L2
open PySem PySem.Spec PyProof.Rows PySem.W PySem.Calls
section
variable {X:Cx}
end
section
variable {prog:aI}{w:aZ}{A:be}{E:Value->af->Prop}{s:af}
theorem zfn{ns:List Int}{i:Nat}(h:i<ns.length):(ns.take (i+1)).foldl zgn []=zgn ((ns.take i).foldl zgn []) ns[i]:=by
 rw [di,ah h,List.foldl_append];rfl
end
section
variable {X:Cx}
end
end L2
namespace L2
open PySem PySem.Spec PyProof.Rows
variable{H:Hp}
section
variable {P:aI}{w:aZ}{K:ag}{ix:List (Option Nat)}{wi:TI}{g:TG}{tb:TB}{te:TE}{σ:St}{ns:List Int}{H:Hp}{Q:St->List Int->Hp->Prop}{R:VK}
end
section
variable {Y:Cx}{sc:Scope}{N':List Str}{Ga:List (Addr×Obj)}{D:Addr}{fp:List Addr}{s:af}{H:Hp}
end
section
variable {K:ag}{g:TG}{tt:TT}{tk tv:TE}{H:Hp}{Q:VK}
end
section
variable {X:Cx}
def zjY:List V->Hp->VK->Prop:=λxs H Q=>∃j:Int,xs=[.int j]/\∀p H2,New H p (.rng 0 j) H2->Q (.ref p) H2
theorem zny{j:Int}{Q:VK}:zjY [.int j] H Q = ∀p H2,New H p (.rng 0 j) H2->Q (.ref p) H2:=by
 apply propext;constructor
 .rintro ⟨j',e,h⟩;cases e;exact h
 .exact λh=>⟨j,rfl,h⟩
theorem zrQ:zK X (.type "range") zjY:=by
 intro Ga s σ H xs us Q I r h;obtain ⟨j,rfl,q⟩:=h;obtain ⟨u,rfl,ru⟩:=zby r;obtain ⟨t,rfl⟩:=ru;refine call_range_1 ?_;exact ⟨.ref s.heap.objs.size,upd H s.heap.objs.size (.rng 0 j),I.laid (a:=s.heap.objs.size) (t':=s.toks+1+1) (λb o e=>ad _ e) (ae _) ⟨_,_,_,aO _ rfl⟩,rfl,q _ _ (.mk' (I.hok.fresh (ae _)))⟩
def zj2:List V->Hp->VK->Prop:=λxs H Q=>uR1 xs λr=>∃n:Nat,H r=some (.rng 0 n)/\n<=1000000/\∀p H2,New H p (.lst ((ic n).map λ(i:Nat)=>V.int i)) H2->Q (.ref p) H2
theorem ztm{r:Addr}{Q:VK}:zj2 [.ref r] H Q = ∃n:Nat,H r=some (.rng 0 n)/\n<=1000000/\∀p H2,New H p (.lst ((ic n).map λ(i:Nat)=>V.int i)) H2->Q (.ref p) H2:=zdV
theorem zuv(hc:X.calm=true):zK X (.type "list") zj2:=by
 intro Ga s σ H xs us Q I r h;obtain ⟨a,rfl,n,ha,hn,q⟩:=h;obtain ⟨u,rfl,ru⟩:=zby r;cases ru;obtain ⟨t,u,v,e⟩:=I.hok a _ ha;refine call_list_range (n:=n) (I.ok.hd hc) e ?_ ?_ (aW hn (by decide)) λh' tk acc' c' hk hS' hacc=>?_
 .exact small_one (by lia) (by lia) (by lia) (by lia)
 .rw [rangeSize_one];split<;>lia
 have hl:acc'.toList.length=n:=by rw [bv];exact hacc.1
 refine ⟨.ref s.heap.objs.size,upd H s.heap.objs.size (.lst ((ic n).map λ(i:Nat)=>V.int i)),I.laid (a:=s.heap.objs.size) (t':=tk) hk (ae _) ⟨by rw [am,gQ];exact aW hn (by decide),acc'.toList,c',zk8 ?_ λj u hu=>?_,by rw [Array.toArray_toList];exact hS'⟩,rfl,q _ _ (.mk' (I.hok.fresh (ae _)))⟩
 .rw [am,gQ,hl]
 .obtain ⟨t',rfl⟩:=hacc.2 j u (by rw [<- bT];exact hu);have hj:j<n:=by rw [<- hl];exact (ak.mp hu).1
  refine ⟨V.int j,by rw [bh,List.getElem?_range hj];rfl,t',?_⟩;congr 1;lia
def EqR(H:Hp)(x y:V)(b:Bool):Prop:=∃p q zs ws,x = .ref p/\y = .ref q/\H p=some (.tup zs)/\H q=some (.tup ws)/\zs.all zL=true/\ws.all zL=true/\b=eqL zs ws
theorem EqR.at{Ga:List (Addr×Obj)}{σ:St}{s:af}{x y:V}{u v:Value}{b:Bool}{A:be}(I:Inv X Ga σ H s)(h:EqR H x y b)(rx:zm x u)(ry:zm y v)(hu:A.units<cLine):SeqAt.EqAt A s u v b:=by
 obtain ⟨p,q,xs,ys,rfl,rfl,ha,hb,fx,fy,rfl⟩:=h;cases rx;cases ry;by_cases hpq:p=q
 .subst hpq;rw [ha] at hb;cases hb;rw [ztK fx λx hx b e=>by have:=bJ.mp fx x hx;rw [e] at this;cases this];exact SeqAt.EqAt.same _
 obtain ⟨is,r1,p1,_⟩:=I.tuple (SqT.of (K:=X.K) ha);obtain ⟨js,r2,p2,_⟩:=I.tuple (SqT.of (K:=X.K) hb);have l1:=r1.length;have l2:=r2.length;have z:=SeqAt.RcAt.tuples (A:=A) (e:=λj=>eqV (xs.getD j .non) (ys.getD j .non)) p1 p2 hu λj h1 h2=>by
  simp only [aJ] at h1 h2;have e1:xs[j]?=some (xs.getD j .non):=by rw [av,ah (by lia)];rfl
  have e2:ys[j]?=some (ys.getD j .non):=by rw [av,ah (by lia)];rfl
  obtain ⟨u,g1,q1⟩:=r1.get e1;obtain ⟨v,g2,q2⟩:=r2.get e2;rw [ah h1] at g1;rw [ah h2] at g2;have w1:is.toArray[j]=u:=by simpa using bK.inj g1
  have w2:js.toArray[j]=v:=by simpa using bK.inj g2
  rw [w1,w2];exact zgv q1 q2 (bJ.mp fx _ (aE e1)) (bJ.mp fy _ (aE e2))
 have e:eqL xs ys=((ic (min is.toArray.size js.toArray.size)).all (λj=>eqV (xs.getD j .non) (ys.getD j .non))&&is.toArray.size==js.toArray.size):=by
  unfold eqL;simp only [aJ];rw [l1,l2];by_cases hz:is.length=js.length
  .rw [hz];simp
  .have z:(is.length==js.length)=false:=by simpa using hz
   rw [z,hW,Bool.and_false]
 rw [e];exact .of_refs hpq z
end
end L2
namespace Ts
open PySem PyProof.Rows
section
variable {prog:aI}{w:aZ}{A:be}{E:Value->af->Prop}{s:af}
end
end Ts
namespace L2
open PySem PySem.Spec PyProof.Rows PySem.W PySem.Calls
end L2
namespace L2
open PySem PySem.Spec PyProof.Rows
variable{tg:bw}{pos:Pos}{α:Type}{v:V}
section
variable {prog:aI}{w:aZ}{A:be}{E:Value->af->Prop}{s:af}
theorem znT{it l:Addr}{i:Nat}{items:Array Value}{Q:Option Value->af->Prop}(hh:Hnd A s.heap)(hit:s.heap.IsListIter it l i)(hl:s.heap.IsList l items)(hx:items[i]?=none)
  (k:∀h',ExtBut it s.heap h'->Q none { s with heap:=h' }):aH (aC prog w) A (f8 (.ref it)) Q E s:=by
 obtain ⟨o,ho,hc,hd⟩:=id hit;obtain ⟨ol,hol,_,nl,hdl⟩:=hl;unfold f8;refine aa (dS (bO (name:=aj "__next__") hit.typeIs slot_listiter_next (cT slot_listiter_next hit.typeIs entry_listiter_next ?_ (args_listiter_next _))));refine aa (m:=hR (.ref it) 0) (bb ho hd (x:=.ref l) rfl ?_);rw [if_neg (show ¬ ((aA l==bx)=true) by simp)];refine aa (m:=hR (.ref it) 1) (bb ho hd (x:=.int i 0) rfl (aa (m:=seqItems? (.ref l)) (dm hol hdl ?_)));simp only [cJ,hx];refine aa (cB (aa (cI ho hd (by simp) ?_)));refine zeH (hh.keeps λb q hq e=>(br _ _ λz=>?_).trans e) λh' e up=>x3e λo' g' c' =>
  aa (fY (T:="StopIteration") (b:=true) ⟨o',g',c'⟩ hG (ar (k h' λb q hb z=>up b q ((br _ _ (aU hb)).trans z))))
 obtain ⟨C,hC⟩:=hq;rw [<- z,ho] at e;cases e;rw [hc] at hC;cases hC
theorem zuK{it:Addr}{x left step:Int}{Q:Option Value->af->Prop}(hh:Hnd A s.heap)(hit:gJ s.heap it x left step)(hleft:left<=0)
  (k:∀h',ExtBut it s.heap h'->Q none { s with heap:=h' }):aH (aC prog w) A (f8 (.ref it)) Q E s:=by
 have hT:s.TypeIs (.ref it) "range_iterator":=⟨_,hit,rfl⟩;unfold f8;refine aa (dS (bO (name:=aj "__next__") hT F.slot_range_iterator_next (cT F.slot_range_iterator_next hT F.entry_range_iterator_next ?_ (F.args_range_iterator_next_1 _))));refine aa (m:=hR (.ref it) 0) (bb hit rfl (x:=bZ x) rfl ?_);refine aa (m:=hR (.ref it) 1) (bb hit rfl (x:=bZ left) rfl ?_);refine aa (m:=hR (.ref it) 2) (bb hit rfl (x:=bZ step) rfl ?_);show aH _ _ (if left<=0 then _ else _) _ _ s;rw [if_pos hleft];refine aa (cB (aa ?_));exact zeH hh λh' e up=>x3e λo' g' c' =>
  aa (fY (T:="StopIteration") (b:=true) ⟨o',g',c'⟩ hG (ar (k h' λb q hb z=>up b q z)))
end
theorem ztt{P:aI}{w:aZ}{K:ag}(a it:Addr):zbV false P w K tg (Itl K a) [it] it (λi h=>h.IsListIter it a i) where
 mem:=by simp
 obj:=(ze4 (P:=P) (w:=w) (K:=K) (tg:=tg) a it).obj
 keep:=(ze4 (P:=P) (w:=w) (K:=K) (tg:=tg) a it).keep
 item:=by
  intro X hP hw hK hc i Ga s σ H E I hf st hg;subst hP hw hK;obtain ⟨xs,x,hq,hx⟩:=hg;obtain ⟨its,rv,p,hz⟩:=I.list hq;obtain ⟨u,hu,ru⟩:=rv.get hx;obtain ⟨f0,f1,f2,f3,f4,f5⟩:=hf it (by simp);refine wpAny_pyNext_list_item st p.isList (x:=u) (by simpa using hu) λh' st' sb=>?_;have I1:Inv X Ga σ H { s with heap:=h' }:=I.turned (t':=s.toks) (λb o hb e=>(sb.2 b hb).trans e) f0 f1 f3 f4 f5;obtain ⟨o,e,c,d⟩:=id st';exact ⟨u,rfl,zdq (s:={ s with heap:=h' }) e c d (by decide) ⟨x,H,I1,ru,⟨rfl,λys hy=>by rw [I.list_inj hy hq];exact hx⟩,st',λb hb=>(hf b hb).1⟩⟩
 done:=by
  intro X hP hw hK hc i Ga s σ H E I hf st hg;subst hP hw hK;obtain ⟨xs,hq,hx⟩:=hg;obtain ⟨its,rv,p,hz⟩:=I.list hq;obtain ⟨f0,f1,f2,f3,f4,f5⟩:=hf it (by simp);have hl:=rv.length;exact znT I.hnd st p.isList (by simp;lia) λh' eb=>⟨rfl,I.turned (t':=s.toks) (λb o hb e=>eb b o hb e) f0 f1 f3 f4 f5⟩
 self:=λ_ _ _ _ _ st h=>wpAny_pyIter_listiter st h
theorem zsF{P:aI}{w:aZ}{K:ag}(it:Addr)(lo:Int)(n:Nat):zbV false P w K tg (Itr lo n) [it] it (λi h=>gJ h it (lo+(i:Nat)*1) ((n:Int)-(i:Nat)) 1) where
 mem:=by simp
 obj:=(zhC (P:=P) (w:=w) (K:=K) (tg:=tg) it lo n).obj
 keep:=(zhC (P:=P) (w:=w) (K:=K) (tg:=tg) it lo n).keep
 item:=by
  intro X hP hw hK hc i Ga s σ H E I hf st hg;subst hP hw hK;obtain ⟨f0,f1,f2,f3,f4,f5⟩:=hf it (by simp);have hg:i<n:=hg;refine wpAny_pyNext_range_item st (by lia) λh' st' sb=>?_;have I1:Inv X Ga σ H { s with heap:=h',toks:=s.toks+1 }:=I.turned (λb o hb e=>(sb.2 b hb).trans e) f0 f1 f3 f4 f5;have st':gJ h' it (lo+((i+1:Nat):Int)*1) ((n:Int)-((i+1:Nat):Int)) 1:=by
   rw [show lo+((i+1:Nat):Int)*1=lo+(i:Int)*1+1 by lia,show (n:Int)-((i+1:Nat):Int)=(n:Int)-(i:Int)-1 by lia];exact st'
  refine ⟨_,rfl,zdq (s:={ s with heap:=h',toks:=s.toks+1 }) (n:="range_iterator") st' rfl rfl (by decide) ⟨.int (lo+i),H,I1,⟨s.toks,?_⟩,⟨rfl,rfl⟩,st',λb hb=>(hf b hb).1⟩⟩;rw [Int.mul_one]
 done:=by
  intro X hP hw hK hc i Ga s σ H E I hf st hg;subst hP hw hK;obtain ⟨f0,f1,f2,f3,f4,f5⟩:=hf it (by simp);exact zuK I.hnd st (by have:n<=i:=hg;lia) λh' eb=>⟨rfl,I.turned (t':=s.toks) (λb o hb e=>eb b o hb e) f0 f1 f3 f4 f5⟩
 self:=λ_ _ _ _ _ st h=>wpAny_pyIter_rangeiter st h
section
variable {X:Cx}{tg:bw}
theorem zs0{l:bw}{tl:TE}(hl:PE X l tl):PIc false X tg l (zdU X.K tl):=by
 intro Ga s σ H R I h;refine thn (hl Ga s σ H _ I h) λv s1=>x5e λx H1 I1 r1 q1=>?_;obtain ⟨a,e,⟨xs,hq⟩,q⟩:=q1;subst e;cases r1;obtain ⟨its,rv,p,hz⟩:=I1.list hq;refine eS p.isList ?_;refine ⟨s1.heap.objs.size,[s1.heap.objs.size],_,_,H1,rfl,I1.kept (t':=s1.toks) λb o e=>ad _ e,ztt a _,⟨_,aO _ rfl,rfl,rfl⟩,λb hb=>?_,q⟩;have e:b=s1.heap.objs.size:=by simpa using hb
 subst e;exact I1.fpOk (ae _) (I1.hok.fresh (ae _))
theorem zrf{a:bw}{ta:TA}{p:Pos}(hg:Gl X "range")(hm:X.mg "range"=none)(ha:PA X [a] ta)(hp:zX a=true:=by rfl):PIc false X tg (.Call (.Name "range" p) [a] [] pos) (zdW ta):=by
 intro Ga s σ H R I h;refine Call_ (zb8 I hg hm boot_range (cW (thn (ha pos Ga s σ H _ I h) λus s1=>x5e λvs H1 I1 r1 q1=>?_) (zbx hp) rfl));obtain ⟨j,e,q1,q2,q⟩:=q1;subst e;cases r1 with
 | cons r rr =>
  cases rr;obtain ⟨t,rfl⟩:=r;refine call_range_1 (wpAny_pyIter_range (IsRange.new ..) (small_one (by lia) (by lia) q1 q2) ?_);have I2:Inv X Ga σ H1 { s1 with heap:=s1.heap.push { cls:=.type "range",data:=.fields #[.int 0 s1.toks,.int j t,.int 1 (s1.toks+1)] },toks:=s1.toks+1+1 }:=I1.kept λb o e=>ad _ e;refine ⟨_,[_],_,_,H1,rfl,I2.kept (t':=s1.toks+1+1) λb o e=>ad _ e,zsF _ 0 j.toNat,?_,λb hb=>?_,q⟩
  .have e2:((j.toNat:Nat):Int)-((0:Nat):Int)=aN.Range.rangeSize 0 j 1:=by rw [rangeSize_one];split<;>lia
   show gJ _ _ (0+((0:Nat):Int)*1) (((j.toNat:Nat):Int)-((0:Nat):Int)) 1;rw [e2];exact aO _ rfl
  .have e:b=_:=ax.mp hb;subst e;exact I2.fpOk (ae _) (I2.hok.fresh (ae _))
theorem zpP{l:bw}{tl:TE}(hl:W (PE X l tl)):W (PIc false X tg l (zdU X.K tl)):=⟨zs0 hl.h⟩
theorem zq3{a:bw}{ta:TA}{p:Pos}(hg:Gl X "range")(hm:X.mg "range"=none)(ha:W (PA X [a] ta))(hp:zX a=true:=by rfl):W (PIc false X tg (.Call (.Name "range" p) [a] [] pos) (zdW ta)):=⟨zrf hg hm ha.h hp⟩
end
def zg0(te:TE):TE:=λσ H Q=>te σ H λx H1=>uR x λa=>∃xs,H1 a=some (.lst xs)/\∀p H2,New H1 p (.lst xs.reverse) H2->Q (.ref p) H2
theorem zmX{X:Cx}{e:bw}{te:TE}{p1 p2 p3:Pos}{j:Nat}(he:PE X e te):PE X (.Subscript e (.Slice none none (some (.UnaryOp .USub (.Constant (.int 1) j p1) p3)) p2) pos) (zg0 te):=by
 intro Ga s σ H Q I h;refine iS (thn (he Ga s σ H _ I h) λv s1=>x5e λx H1 I1 r1 zz1=>?_);obtain ⟨a,ex,xs,hx,q1⟩:=zz1;subst ex;cases r1;refine wpAny_Slice ?_;rw [evalPart_none];refine ar (ar ?_);rw [evalPart_some];refine thn (zlv zhx zeW Ga s1 σ H1 (λv H=>v = .int (-1)/\H=H1) I1 ⟨1,rfl,rfl,rfl⟩) λvs s3=>x5e λy H3 I3 ry zz2=>?_;obtain ⟨ey,eH⟩:=zz2;subst ey eH;obtain ⟨t,rfl⟩:=ry;have I4:Inv X Ga σ H3 { s3 with heap:=s3.heap.push { cls:=.type "slice",data:=.fields #[.none,.none,.int (-1) t] } }:=I3.kept (t':=s3.toks) λb ob q=>ad _ q;obtain ⟨its,r,ht,hz⟩:=I4.list (SqL.of (K:=X.K) hx);refine tail_any (ops:=[.ref a,.ref s3.heap.objs.size]) ht.isList.typeIs h9.lookup ?_ (by with_unfolding_all rfl);refine wpAny_getItem_list_slice ht.isList (Heap.IsSliceOf.new ..) .none .none (.int (-1) t) (by simp) ?_ (by rw [aJ,<- r.length];exact hz);generalize hp:(s3.heap.push { cls:=.type "slice",data:=.fields #[.none,.none,.int (-1) t] })=G at I4 ht ⊢;rw [PySem.W.krv_pick];exact ⟨.ref G.objs.size,_,I4.laid (t':=s3.toks) (o:=.lst xs.reverse) (λb ob q=>ad _ q) (ae _) ⟨by rw [List.length_reverse];exact hz,_,0,r.reverse,aO _ rfl⟩,rfl,q1 _ _ (.mk' (I4.hok.fresh (ae _)))⟩
theorem znN{X:Cx}{e:bw}{te:TE}{p1 p2 p3:Pos}{j:Nat}(he:W (PE X e te)):W (PE X (.Subscript e (.Slice none none (some (.UnaryOp .USub (.Constant (.int 1) j p1) p3)) p2) pos) (zg0 te)):=⟨zmX he.h⟩
section
variable {P:aI}{w:aZ}{K:ag}{mg:Str->Option Value}{base:Heap}{k:Nat}{x:Str}{C:Addr}{ps:List Str}{sp:Sp}
theorem GF.weak(h:GF P w K mg base false k x ps sp):GF P w K mg base true k x ps sp:=let ⟨f,fd,F,r⟩:=h.ex;⟨f,fd,F.calm,r⟩
theorem GM.weak(h:GM P w K mg base false k C x ps sp):GM P w K mg base true k C x ps sp:=let ⟨f,fd,F,r⟩:=h.ex;⟨f,fd,F.calm,r⟩
theorem GC.weak(h:GC P w K mg base false k x C ps sp):GC P w K mg base true k x C ps sp:=let ⟨f,fd,F,r⟩:=h.ex;⟨f,fd,F.calm,r⟩
end
theorem zsy{β:Type}{f:α->β}{a:α}{l:List α}:(a::l).map f=f a::l.map f:=rfl
theorem zrB{β:Type}{f:α->β}:([]:List α).map f=[]:=rfl
theorem zof:(!true)=false:=rfl
theorem zvf:(!false)=true:=rfl
theorem fsc{N P:List Str}{sc:Scope}(a:sc.kind = .function:=by rfl)(b:sc.isCoroutine=false:=by rfl)(c:sc.isGenerator=false:=by rfl)(d:N.Nodup:=by decide +kernel)(e:N.take P.length=P:=by rfl)(f:∀x∈P,sc.names.lookup x=some .local\/sc.names.lookup x=some .cell:=by decide +kernel)(g:∀y∈sc.names,y.2≠.free:=by decide +kernel):zr N P sc:=⟨a,b,c,d,e,f,g⟩
abbrev FnM(K:ag)(x:Str)(st:Stmt):Prop:=∃f fd,dW K az x=some (some (.ref f))/\Fun K x x st f fd
abbrev zah(K:ag)(C:Addr)(m q:Str)(st:Stmt):Prop:=∃f fd,cK K (.ref C) m=some (some (.ref f))/\isFn K (.ref f)=true/\Fun K m q st f fd
theorem u1{p:List α->Prop}(h:∀a,p [a]):∀us,us.length=1->p us
 | [a],_=>h a
theorem u2{p:List α->Prop}(h:∀a b,p [a,b]):∀us,us.length=2->p us
 | [a,b],_=>h a b
theorem u3{p:List α->Prop}(h:∀a b c,p [a,b,c]):∀us,us.length=3->p us
 | [a,b,c],_=>h a b c
theorem u4{p:List α->Prop}(h:∀a b c d,p [a,b,c,d]):∀us,us.length=4->p us
 | [a,b,c,d],_=>h a b c d
theorem u5{p:List α->Prop}(h:∀a b c d e,p [a,b,c,d,e]):∀us,us.length=5->p us
 | [a,b,c,d,e],_=>h a b c d e
section
variable {w:aZ}{K:ag}{mg:Str->Option Value}{h:Heap}{k:Nat}{x q:Str}{C:Addr}{ps:List Str}{sp:Sp}{st:Stmt} (P:aI) (base:Heap) (cm:Bool)
abbrev BdA(x q:Str)(st:Stmt)(ps:List Str):Prop:=∀(kV doc pm:Value)(an:Option Addr)(cdv ct:Value)(us:List Value),us.length=ps.length->bindArgs (fnOf x q (zdu st) (zb5 st) (zn st) .none kV doc pm an cdv ct) ⟨us,[]⟩=pure (ps.zip us)
theorem gf(X:K.In h)(G:h.Ns az mg)(m:FnM K x st)(o:∀f fd,Fun K x x st f fd->zo P w K mg base CX0 cm k f fd ps sp)(b:BdA x x st ps):GF P w K mg base cm k x ps sp:=let ⟨f,fd,a,F⟩:=m;⟨f,fd,o f fd F,dU X G a,F.kp,F.binds b⟩
theorem gx(X:K.In h)(G:h.Ns az mg)(m:FnM K x st)(o:∀f fd,Fun K x x st f fd->zo P w K mg base (CXW P w) cm k f fd ps sp)(b:BdA x x st ps):GX P w K mg base cm k x ps sp:=let ⟨f,fd,a,F⟩:=m;⟨f,fd,o f fd F,dU X G a,F.kp,F.binds b⟩
theorem gm(m:zah K C x q st)(o:∀f fd,Fun K x q st f fd->zo P w K mg base CX0 cm k f fd ps sp)(b:BdA x q st ps):GM P w K mg base cm k C x ps sp:=let ⟨f,fd,a,i,F⟩:=m;⟨f,fd,o f fd F,⟨a,i,F.kp⟩,F.binds b⟩
theorem gmx(m:zah K C x q st)(o:∀f fd,Fun K x q st f fd->zo P w K mg base (CXW P w) cm k f fd ps sp)(b:BdA x q st ps):GMX P w K mg base cm k C x ps sp:=let ⟨f,fd,a,i,F⟩:=m;⟨f,fd,o f fd F,⟨a,i,F.kp⟩,F.binds b⟩
theorem gc(X:K.In h)(G:h.Ns az mg)(c:dW K az x=some (some (.ref C)))(mk:makesIn K C=true)(kc:gN K (.ref C)=true)(m:zah K C "__init__" q st)(o:∀f fd,Fun K "__init__" q st f fd->zo P w K mg base CX0 cm k f fd ps sp)(b:BdA "__init__" q st ps):GC P w K mg base cm k x C ps sp:=let ⟨f,fd,a,i,F⟩:=m;⟨f,fd,o f fd F,dU X G c,⟨mk,a,i,kc⟩,F.binds b⟩
end
def zd3(i:Nat):TE:=λσ H Q=>match σ[i]? with|some (some v)=>Q v H|_=>False
def rID(C:Int->Int->Prop)(g:Int->Int->V):R2:=λx y H Q=>match x,y with | .int i,.int j=>C i j/\Q (g i j) H|_,_=>False
def zld(g:Int->Int->V):R2:=λx y H Q=>match x,y with | .int i,.int j=>Q (g i j) H|_,_=>False
section
variable {X:Cx}{f:Value->Value->Sem Value}{C:Int->Int->Prop}{g:Int->Int->V}
theorem pvD(i:Nat){x:Str}(hN:X.N[i]?=some x:=by rfl)(hv:Vis X.env.scope x:=by first|exact aK rfl|exact iY (aK rfl)|exact iY (iY rfl))(hd:(x==("__debug__":Str))=false:=by decide)(hcd:(x==("__classdict__":Str))=false:=by decide):PE X (.Name x pos) (zd3 i):=λGa s σ H Q I h=>pv i hN hv hd hcd Ga s σ H Q I (by
 unfold zd3 at h;split at h
 .exact ⟨_,by assumption,h⟩
 .exact h.elim)
theorem za(i:Nat){x:Str}(hN:X.N[i]?=some x:=by rfl)(hv:Vis X.env.scope x:=by first|exact aK rfl|exact iY (aK rfl)|exact iY (iY rfl))(hd:(x==("__debug__":Str))=false:=by decide)(hcd:(x==("__classdict__":Str))=false:=by decide):W (PE X (.Name x pos) (zd3 i)):=⟨pvD i hN hv hd hcd⟩
theorem oI(h:OpR X f (rI C g)):OpR X f (rID C g):=h.weak λx y H Q q=>by
 cases x<;>cases y<;>first|exact q.elim|exact ⟨_,_,rfl,rfl,q⟩
theorem oI0(h:OpR X f (rI0 g)):OpR X f (zld g):=h.weak λx y H Q q=>by
 cases x<;>cases y<;>first|exact q.elim|exact ⟨_,_,rfl,rfl,q⟩
end
section
variable {i j:Int}{H:Hp}{Q:VK}{C:Int->Int->Prop}{g:Int->Int->V}
theorem zkA:rID C g (.int i) (.int j) H Q=(C i j/\Q (g i j) H):=rfl
theorem zuT:zld g (.int i) (.int j) H Q=Q (g i j) H:=rfl
end
abbrev clT(t:TE):TE:=λσ H Q=>∃R:VK,t σ H R/\∀v H,R v H->Q v H
abbrev clR(r:R2):R2:=λx y H Q=>∃R:VK,r x y H R/\∀v H,R v H->Q v H
abbrev clA(t:TA):TA:=λσ H Q=>∃R:List V->Hp->Prop,t σ H R/\∀v H,R v H->Q v H
def bD(v:V)(q:Bool->Prop):Prop:=match v with | .bl c=>q c|_=>False
def aD(v:V)(q:Addr->Prop):Prop:=match v with | .ref a=>q a|_=>False
theorem zrF{c:Bool}{q:Bool->Prop}:bD (.bl c) q=q c:=rfl
theorem znM{a:Addr}{q:Addr->Prop}:aD (.ref a) q=q a:=rfl
theorem bD.ex{q:Bool->Prop}(h:bD v q):∃c,v = .bl c/\q c:=by
 cases v<;>first|exact ⟨_,rfl,h⟩|exact h.elim
theorem aD.ex{q:Addr->Prop}(h:aD v q):∃a,v = .ref a/\q a:=by
 cases v<;>first|exact ⟨_,rfl,h⟩|exact h.elim
def zi0(t:TE):TT:=λσ H Q=>t σ H λx H1=>bD x λc=>Q c H1
def zjU(ta tb:TE):TE:=λσ H Q=>ta σ H λx H1=>bD x λc=>if c=true then tb σ H1 Q else Q (.bl false) H1
def zlx(ta:TE):TE:=λσ H Q=>ta σ H λx H1=>bD x λc=>Q (.bl (!c)) H1
def zf3(C:Addr)(m:Str)(sp:Sp)(E:XK)(ta:TE)(t:TA):TE:=λσ H Q=>ta σ H λx H1=>aD x λa=>∃dx fs,H1 a=some (.ins C dx fs)/\fs.lookup m=none/\t σ H1 λvs H2=>sp (.ref a::vs) H2 Q E
def zh2(C:Addr)(m:Str)(sp:Sp)(Ex:Addr->St->Hp->Prop)(ta:TE)(t:TA):TE:=λσ H Q=>ta σ H λx H1=>aD x λa=>∃dx fs,H1 a=some (.ins C dx fs)/\fs.lookup m=none/\t σ H1 λvs H2=>sp (.ref a::vs) H2 Q (XE Ex σ)
def zgH(sp:Sp)(E:XK)(t:TA):TE:=λσ H Q=>t σ H λvs H1=>sp vs H1 Q E
def zks(sp:Sp)(Ex:Addr->St->Hp->Prop)(t:TA):TE:=λσ H Q=>t σ H λvs H1=>sp vs H1 Q (XE Ex σ)
def zjQ(C:Addr)(ta:TE)(f:Str):TE:=λσ H Q=>ta σ H λx H1=>aD x λa=>∃dx fs v,H1 a=some (.ins C dx fs)/\fs.lookup f=some v/\Q v H1
def zlX(C:Addr)(ta tv:TE)(f:Str):TS:=λD σ H=>tv σ H λy H1=>ta σ H1 λx H2=>aD x λa=>∃dx fs,H2 a=some (.ins C dx fs)/\fs.length<1000/\D.nx σ (upd H2 a (.ins C dx (zH f y fs)))
def ziB(K:ag)(tl:TE):TI:=λσ H R=>tl σ H λx H1=>aD x λa=>(∃xs,SqL K H1 a xs)/\R (Itl K a) H1
def zi5(t:TG)(u:TGs):TGs:=λvs σ H Q=>match vs with|v::r=>t v σ H λσ' H'=>u r σ' H' Q|[]=>False
theorem zqa{t:TG}{u:TGs}{r:List V}{σ:St}{H:Hp}{Q:St->Hp->Prop}:zi5 t u (v::r) σ H Q=t v σ H λσ' H'=>u r σ' H' Q:=rfl
def zgo:R2:=λx y H Q=>match x,y with
 | .ref a,.int i=>∃xs,(H a=some (.lst xs)\/H a=some (.tup xs))/\∃v,atI xs i=some v/\Q v H
 | .str x,.int i=>x.length<=sizeLine/\∃c,atI x.cps.toList i=some c/\Q (.str ⟨#[c]⟩) H
 | _,_=>False
def zgJ:List V->Hp->VK->Prop:=λxs H Q=>match xs with
 | [.ref a]=>∃ys,(H a=some (.lst ys)\/H a=some (.tup ys))/\Q (.int ys.length) H
 | [.str x]=>x.length<=sizeLine/\Q (.int x.length) H
 | _=>False
def zd5(c:Bool):R2:=λx y H Q=>match x,y with
 | .int i,.int j=>Q (.bl (if c then !decide (i=j) else decide (i=j))) H
 | .str i,.str j=>Q (.bl (if c then !decide (i=j) else decide (i=j))) H
 | .bl i,.bl j=>Q (.bl (if c then !decide (i=j) else decide (i=j))) H
 | .ref a,.ref b=>∃xs ys,H a=some (.lst xs)/\H b=some (.lst ys)/\xs.all zL=true/\ys.all zL=true/\Q (.bl (if c then !eqL xs ys else eqL xs ys)) H
 | _,_=>False
def zdS:R2:=λx y H Q=>match x,y with
 | .int i,.int j=>Q (.int (i+j)) H
 | .str x,.str y=>x.length+y.length<=sizeLine/\Q (.str (x++y)) H
 | .ref a,.ref b=>∃xs zs,H a=some (.lst xs)/\H b=some (.lst zs)/\xs.length+zs.length<=sizeLine/\∀p H2,New H p (.lst (xs++zs)) H2->Q (.ref p) H2
 | _,_=>False
section
variable {H:Hp}{Q:VK}{i j:Int}{x y:Str}{a b:Addr}{k k' c:Bool}
theorem ziQ:zgo (.ref a) (.int i) H Q = ∃xs,(H a=some (.lst xs)\/H a=some (.tup xs))/\∃v,atI xs i=some v/\Q v H:=rfl
theorem zvC:zgo (.str x) (.int i) H Q=(x.length<=sizeLine/\∃c,atI x.cps.toList i=some c/\Q (.str ⟨#[c]⟩) H):=rfl
theorem zeu:zgJ [.ref a] H Q = ∃ys,(H a=some (.lst ys)\/H a=some (.tup ys))/\Q (.int ys.length) H:=rfl
theorem znC:zgJ [.str x] H Q=(x.length<=sizeLine/\Q (.int x.length) H):=rfl
theorem zt6:zd5 c (.int i) (.int j) H Q=Q (.bl (if c then !decide (i=j) else decide (i=j))) H:=rfl
theorem zrw:zd5 c (.str x) (.str y) H Q=Q (.bl (if c then !decide (x=y) else decide (x=y))) H:=rfl
theorem zrk:zd5 c (.bl k) (.bl k') H Q=Q (.bl (if c then !decide (k=k') else decide (k=k'))) H:=rfl
theorem zul:zd5 c (.ref a) (.ref b) H Q = ∃xs ys,H a=some (.lst xs)/\H b=some (.lst ys)/\xs.all zL=true/\ys.all zL=true/\Q (.bl (if c then !eqL xs ys else eqL xs ys)) H:=rfl
theorem ztI:zdS (.int i) (.int j) H Q=Q (.int (i+j)) H:=rfl
theorem ztJ:zdS (.str x) (.str y) H Q=(x.length+y.length<=sizeLine/\Q (.str (x++y)) H):=rfl
theorem zpj:zdS (.ref a) (.ref b) H Q = ∃xs zs,H a=some (.lst xs)/\H b=some (.lst zs)/\xs.length+zs.length<=sizeLine/\∀p H2,New H p (.lst (xs++zs)) H2->Q (.ref p) H2:=rfl
end
section
variable {X:Cx}{e:bw}{es:List bw}{st:Stmt}{t ta tb tv:TE}{tA:TA}{r:R2}{f:Value->Value->Sem Value}{C:Addr}{m:Str}{sp:Sp}{E:XK}{Ex:Addr->St->Hp->Prop}{c:Bool}
theorem clE(h:W (PE X e t)):W (PE X e (clT t)):=⟨λGa s σ H Q I=>x3e λR q hw=>thn (h.h Ga s σ H R I q) λ_ _=>x5e λv H' a b c=>⟨v,H',a,b,hw _ _ c⟩⟩
theorem clO(h:OpR X f r):OpR X f (clR r):=λGa s σ H x y v u Q I rx ry=>x3e λR q hw=>thn (h Ga s σ H x y v u R I rx ry q) λ_ _=>x5e λv H' a b c=>⟨v,H',a,b,hw _ _ c⟩
theorem clP(h:W (PA X es tA)):W (PA X es (clA tA)):=⟨h.h.any⟩
theorem peD{t':TE}(h:W (PE X e t))(w:∀σ H Q,t' σ H Q->t σ H Q):W (PE X e t'):=⟨λGa s σ H Q I q=>h.h Ga s σ H Q I (w σ H Q q)⟩
theorem tD(h:W (PT X e (zeP (tOp (clR r) (clT ta) (clT tb))))):W (PT X e (zi0 (tOp r ta tb))):=⟨λGa s σ H Q I q=>h.h Ga s σ H Q I ⟨_,q,λx H1 q1=>⟨_,q1,λy H2 q2=>⟨_,q2,λz H3 q3=>q3.ex⟩⟩⟩⟩
theorem anD(h:W (PE X e (zf2 (clT ta) tb))):W (PE X e (zjU ta tb)):=peD h λσ H Q q=>⟨_,q,λx H1 q1=>q1.ex⟩
theorem ntD(h:W (PE X e (zh0 (clT ta)))):W (PE X e (zlx ta)):=peD h λσ H Q q=>⟨_,q,λx H1 q1=>q1.ex⟩
theorem mD(h:W (PE X e (zcm C m sp [] E (clT ta) (clA tA)))):W (PE X e (zf3 C m sp E ta tA)):=peD h λσ H Q q=>⟨_,q,λx H1 q1=>by
 obtain ⟨a,rfl,dx,fs,h1,h2,q2⟩:=q1.ex;exact ⟨a,dx,fs,rfl,h1,h2,_,q2,λvs H2 q3=>by dsimp only;rw [cw];exact q3⟩⟩
theorem m0D(h:W (PE X e (zcm C m sp [] E (clT ta) zaZ))):W (PE X e (zf3 C m sp E ta zaZ)):=peD h λσ H Q q=>⟨_,q,λx H1 q1=>by
 obtain ⟨a,rfl,dx,fs,h1,h2,q2⟩:=q1.ex;exact ⟨a,dx,fs,rfl,h1,h2,q2⟩⟩
theorem mXD(h:W (PE X e (zcs C m sp [] Ex (clT ta) (clA tA)))):W (PE X e (zh2 C m sp Ex ta tA)):=peD h λσ H Q q=>⟨_,q,λx H1 q1=>by
 obtain ⟨a,rfl,dx,fs,h1,h2,q2⟩:=q1.ex;exact ⟨a,dx,fs,rfl,h1,h2,_,q2,λvs H2 q3=>by dsimp only;rw [cw];exact q3⟩⟩
theorem zd9(h:W (PE X e (zcs C m sp [] Ex (clT ta) zaZ))):W (PE X e (zh2 C m sp Ex ta zaZ)):=peD h λσ H Q q=>⟨_,q,λx H1 q1=>by
 obtain ⟨a,rfl,dx,fs,h1,h2,q2⟩:=q1.ex;exact ⟨a,dx,fs,rfl,h1,h2,q2⟩⟩
theorem caD(h:W (PE X e (zep sp [] E (clA tA)))):W (PE X e (zgH sp E tA)):=peD h λσ H Q q=>⟨_,q,λvs H2 q3=>by dsimp only;rw [cw];exact q3⟩
theorem cXD(h:W (PE X e (ze1 sp [] Ex (clA tA)))):W (PE X e (zks sp Ex tA)):=peD h λσ H Q q=>⟨_,q,λvs H2 q3=>by dsimp only;rw [cw];exact q3⟩
theorem fD(h:W (PE X e (ze5 C (clT ta) m))):W (PE X e (zjQ C ta m)):=peD h λσ H Q q=>⟨_,q,λx H1 q1=>by
 obtain ⟨a,rfl,dx,fs,v,q2⟩:=q1.ex;exact ⟨a,dx,fs,v,rfl,q2⟩⟩
theorem sfD(h:W (PS X st (zeE C (clT ta) (clT tv) m))):W (PS X st (zlX C ta tv m)):=⟨λGa s σ H D I q=>h.h Ga s σ H D I ⟨_,q,λy H1 q1=>⟨_,q1,λx H2 q2=>by
 obtain ⟨a,rfl,dx,fs,q3⟩:=q2.ex;exact ⟨a,dx,fs,rfl,q3⟩⟩⟩⟩
theorem liD(h:W (PIc c X tg e (zdU X.K (clT ta)))):W (PIc c X tg e (ziB X.K ta)):=⟨λGa s σ H R I q=>h.h Ga s σ H R I ⟨_,q,λx H1 q1=>q1.ex⟩⟩
theorem gsD{ts:List bw}{g:TG}{u:TGs}(h:W (PGs X ts (zgG g u))):W (PGs X ts (zi5 g u)):=⟨λGa s σ H vs us Q I rr q=>h.h Ga s σ H vs us Q I rr (by cases vs with|nil=>exact q.elim|cons v r=>exact ⟨v,r,rfl,q⟩)⟩
theorem zZ:IxR X zgo:=zqN.weak λx y H Q h=>by
 cases x<;>cases y<;>first|exact h.elim|skip
 .rename_i a i;exact (zjb (x:=a) (i:=i)).mpr h
 .rename_i a i;exact (zkG (a:=a) (i:=i)).mpr h
theorem zak:zK X (.builtin "len") zgJ:=zq4.weak λxs H Q h=>by
 match xs,h with
 | [.ref a],h=>exact (ziy (a:=a)).mpr h
 | [.str x],h=>exact (zlj (x:=x)).mpr h
theorem oE{f:Value->Value->Sem Value}(h:OpR X f (uEq c)):OpR X f (zd5 c):=h.weak λx y H Q h=>by
 cases x<;>cases y<;>first|exact h.elim|exact zmm.mpr h|exact zkX.mpr h|exact zl1.mpr h|exact ziP.mpr h
theorem zR:OpR X (da .Add) zdS:=zka.weak λx y H Q h=>by
 cases x<;>cases y<;>first|exact h.elim|exact zkV.mpr h|exact zio.mpr h|exact zgF.mpr h
end
end L2
namespace K81
open PySem PySem.Spec PyProof.Rows L2
open PySem.W (Frag OpenLaw WalkO codeHd_of_K findIn mroIn tabIn)
variable{X:Cx}{H H':Hp}{v:V}{Q:VK}{P a b c f q sl wl x:Addr}{fd:cL}{i m:Int}{y z:Str}{l:List Int}{cm hot st:Bool}{xs:List V}{F as cells cs:List Addr}{e0 e1 o:Option Nat}{j:Nat}{α β:Type}{kvs:List (Int×V)}{lf:Option Int}
local macro_rules | `(tactic| simp_all only [$ls,*])=>do
 let l<-("zf5 tC zkb tOr zmH tIf zfQ zgi zmf zho zhf zcJ zqX ztY zef zik ipI tOp tUn zaZ zeS zjP zjn zju zep zfm ze1 tCB zfV zkV zio zgF zkQ ztg zkG zjb ziy zlj zpJ znu zvz zmm zkX zl1 ziP zvA zu7 zpi zuz znp znb zqx zuf zoP znK zsN zoD zpX zuo zvL zj5 zq5 zq6 zr5 zrt zj6 zqq zrJ zs1 zpB zrS zug zr9 zqI za3 gW Option.bind_none Option.join_some zhe and_assoc exists_and_left exists_and_right exists_eq_left' exists_eq_left exists_eq exists_eq' exists_eq_right exists_eq_right' and_true true_and and_false false_and or_false false_or exists_false exists_const bK.injEq V.int.injEq V.str.injEq V.ref.injEq V.bl.injEq V.ty.injEq HO.lst.injEq HO.tup.injEq HO.ins.injEq List.cons.injEq reduceCtorEq reduceIte dj List.getElem?_cons_zero d6 List.set_cons_zero List.set_cons_succ nil_append cons_append cw cq dJ L2.start zsy zrB bi Nat.reduceSub Nat.reduceAdd zof zvf zll znW zro zu4 ztn zoW zuR zuZ zmo zmP tSl zji zrV zsn zf9 zmv ztV zj8 zjH zgY zhd zt8 zdV zq7 zuE zvE zqp zn7 zsd znO zm8 znx zn6 zvI zk1 zih zrr zsj zuH zni zlS zix zrc zs4 zsV zom zuS znj zsA zp6 zsO zrH zvw zoz zoa ztR zpx zpg zth zvp zt1 zoS zrg zoc zqn zr1 zpN zuk zmF ztj zqj zrT znr zpv zt5 zvS zoO zqr znL zqU zny ztm zg0 zd3 zkA zuT zi0 zjU zlx zf3 zh2 zgH zks zjQ zlX ziB zrF znM zqa ziQ zvC zeu znC zt6 zrw zrk zul ztI ztJ zpj".splitOn " ").toArray.mapM fun s=>`(Lean.Parser.Tactic.simpLemma|$(Lean.mkIdent s.toName):ident)
 `(tactic| try simp only [$l,*,$ls,*])
def top(i:Nat):Stmt:=PySem.Challenge.pw_cleanrows_k81_room_told.main.body.getD i (.Pass ⟨0,0,0,0⟩)
structure zj where
 CleanError:Addr
 NoRow:Addr
 NoDisk:Addr
 Full:Addr
 Stopped:Addr
 NoFile:Addr
 NoPlace:Addr
 HeldAlready:Addr
 NotHeld:Addr
 Disk:Addr
 Files:Addr
 State:Addr
 t_whole_rows:Addr
 PARTS:Addr
 PARTS_put:Addr
 PARTS_cut:Addr
 PARTS_hold:Addr
 PARTS_free:Addr
 PARTS_carry:Addr
variable{A:zj}
structure Txt(w:aZ)(K:Frag)(mg:Str->Option Value)(A:zj):Prop where
 mg_PARTS:mg "PARTS"=some (.ref A.PARTS)
 d_PARTS:zfb w K A.PARTS [("put",A.PARTS_put),("cut",A.PARTS_cut),("hold",A.PARTS_hold),("free",A.PARTS_free),("carry",A.PARTS_carry)]
 t_PARTS_put:∀H:Hp,SqT K H A.PARTS_put [.str "number",.str "number",.str "end",.str "name",.str "number",.str "word"]
 t_PARTS_cut:∀H:Hp,SqT K H A.PARTS_cut [.str "number",.str "name",.str "number"]
 t_PARTS_hold:∀H:Hp,SqT K H A.PARTS_hold [.str "number",.str "name"]
 t_PARTS_free:∀H:Hp,SqT K H A.PARTS_free [.str "number",.str "name"]
 t_PARTS_carry:∀H:Hp,SqT K H A.PARTS_carry [.str "number",.str "number",.str "word"]
 n_all:mg "all"=none
 n_bool:mg "bool"=none
 n_dict:mg "dict"=none
 n_enumerate:mg "enumerate"=none
 n_int:mg "int"=none
 n_isinstance:mg "isinstance"=none
 n_len:mg "len"=none
 n_list:mg "list"=none
 n_max:mg "max"=none
 n_min:mg "min"=none
 n_ord:mg "ord"=none
 n_range:mg "range"=none
 n_sorted:mg "sorted"=none
 n_str:mg "str"=none
 n_tuple:mg "tuple"=none
 n_zip:mg "zip"=none
 c_FIGURES:∃u,mg "FIGURES"=some u/\zm (.str "0123456789") u
 c_LETTERS:∃u,mg "LETTERS"=some u/\zm (.str "abcdefghijklmnopqrstuvwxyz") u
 c_MOST_FIGURES:∃u,mg "MOST_FIGURES"=some u/\zm (.int 18) u
 c_MOST_LETTERS:∃u,mg "MOST_LETTERS"=some u/\zm (.int 6) u
 c_MOST_SIGNS:∃u,mg "MOST_SIGNS"=some u/\zm (.int 20) u
 c_MODULUS:∃u,mg "MODULUS"=some u/\zm (.int 65521) u
 c_COLD_KIND:∃u,mg "COLD_KIND"=some u/\zm (.str "carry") u
 c_LEAST_STRETCHES:∃u,mg "LEAST_STRETCHES"=some u/\zm (.int 3) u
 c_MOST_STRETCHES:∃u,mg "MOST_STRETCHES"=some u/\zm (.int 16) u
 c_LEAST_PLACES:∃u,mg "LEAST_PLACES"=some u/\zm (.int 2) u
 c_MOST_PLACES:∃u,mg "MOST_PLACES"=some u/\zm (.int 32) u
 mg_CleanError:mg "CleanError"=some (.ref A.CleanError)
 mg_NoRow:mg "NoRow"=some (.ref A.NoRow)
 mg_NoDisk:mg "NoDisk"=some (.ref A.NoDisk)
 mg_Full:mg "Full"=some (.ref A.Full)
 mg_Stopped:mg "Stopped"=some (.ref A.Stopped)
 mg_NoFile:mg "NoFile"=some (.ref A.NoFile)
 mg_NoPlace:mg "NoPlace"=some (.ref A.NoPlace)
 mg_HeldAlready:mg "HeldAlready"=some (.ref A.HeldAlready)
 mg_NotHeld:mg "NotHeld"=some (.ref A.NotHeld)
 mg_Disk:mg "Disk"=some (.ref A.Disk)
 mg_Files:mg "Files"=some (.ref A.Files)
 mg_State:mg "State"=some (.ref A.State)
 ek_CleanError:zaU K A.CleanError
 ek_NoRow:zaU K A.NoRow
 ek_Full:zaU K A.Full
 ek_Stopped:zaU K A.Stopped
 ms_NoRow:mroIn K A.NoRow (.ref A.NoRow)=some true
 ms_Stopped:mroIn K A.Stopped (.ref A.Stopped)=some true
 cl_Disk:Cls K A.Disk
 na_Disk_at_sides:zaD K A.Disk "at_sides"
 na_Disk_counted:zaD K A.Disk "counted"
 na_Disk_has_stopped:zaD K A.Disk "has_stopped"
 na_Disk_left:zaD K A.Disk "left"
 na_Disk_width:zaD K A.Disk "width"
 na_Disk_written:zaD K A.Disk "written"
 cl_Files:Cls K A.Files
 na_Files_births:zaD K A.Files "births"
 na_Files_kept:zaD K A.Files "kept"
 cl_State:Cls K A.State
 na_State_next_mark:zaD K A.State "next_mark"
 na_State_next_row:zaD K A.State "next_row"
 na_State_own_files:zaD K A.State "own_files"
 na_State_spot_of:zaD K A.State "spot_of"
def zbB:Nat->List Nat->Nat
 | _,[]=>0
 | k,c::l=>c*k+zbB (k+1) l
def zbK(z:Str):Int:=((zbB 1 (sg z) % 65521:Nat):Int)
def zcx(z:Str):Str:=z++(toString (zbK z):Str)++";"
def zax(z y:Str)(m:Int):Bool:=decide (1<=(z.length:Int))&&decide ((z.length:Int)<=m)&&(sg z).all λc=>(sg y).contains c
def FIG:Str:="0123456789"
def LET:Str:="abcdefghijklmnopqrstuvwxyz"
def zaX(z:Str):Bool:=zax z FIG 18&&(decide (z="0") || !decide (tx ((sg z).take 1)="0"))
def zbF(z:Str):Bool:=zax z LET 6
def zbR(z:Str):Bool:=zax z (LET++FIG) 20
def zay(k z:Str):Option V :=
 if k="number"/\zaX z=true then some (.int ((fT z).getD 0))
 else if k="end"/\(z="0"\/z="1") then some (.bl (decide (z="1")))
 else if k="name"/\zbF z=true then some (.str z)
 else if k="word"/\zbR z=true then some (.str z)
 else none
def zbH(z:Str):Option (List Str) :=
 if z="put" then some ["number","number","end","name","number","word"]
 else if z="cut" then some ["number","name","number"]
 else if z="hold" then some ["number","name"]
 else if z="free" then some ["number","name"]
 else if z="carry" then some ["number","number","word"]
 else none
def zai:List Str->List Str->Option (List V)
 | k::ks,z::zs=>(zay k z).bind λv=>(zai ks zs).map (v::·)
 | _,_=>some []
def zbg(ws:List Str):Option (List V):=match ws with
 | []=>none
 | w::zs=>(zbH w).bind λks=>if zs.length=ks.length then (zai ks zs).map (.str w::·) else none
def zba(z:Str):Str:=cA z none (some (fJ z (c1 32)+1))
def zcw(z:Str):Option Str:=if z=zcx (zba z) then some (zba z) else none
def zaQ(z:Str):Option (List V):=(zcw z).bind λb=>zbg (bY (cA b none (some (-1))) (c1 32))
def zav:V->Str
 | .bl b=>if b then "1" else "0"
 | .int i=>toString i
 | .str z=>z
 | _=>""
inductive zbm:V->Prop
 | bl (b:Bool):zbm (.bl b)
 | int (i:Int):0<=i->i<10 ^ 18->zbm (.int i)
 | str (z:Str):asc z=true->z.length<=100->zbm (.str z)
def zae(xs:List V):List Nat:=(xs.map λv=>sg (zav v)++[32]).flatten
def zaR(xs:List V):Str:=zcx (tx (zae xs))
def zeV:Sp:=λvs H Q _=>∃z y m,vs=[.str z,.str y,.int m]/\asc z=true/\z.length<=100000/\∀H',ze H H'->Q (.bl (zax z y m)) H'
def zdw(p:Str->Bool):Sp:=λvs H Q _=>∃z,vs=[.str z]/\asc z=true/\z.length<=100000/\∀H',ze H H'->Q (.bl (p z)) H'
def zjd:Sp:=λvs H Q _=>∃z,vs=[.str z]/\asc z=true/\z.length<=100000/\∀H',ze H H'->Q (.int (zbK z)) H'
def zeF:Sp:=λvs H Q _=>∃z,vs=[.str z]/\asc z=true/\z.length<=100000/\∀H',ze H H'->Q (.str (zcx z)) H'
def zgs(o:Option Str):V:=match o with|some b=>.str b|none=>.non
inductive zb9(H:Hp):V->Prop
 | non:zb9 H .non
 | bl (b:Bool):zb9 H (.bl b)
 | int (i:Int):zb9 H (.int i)
 | lst {a:Addr}{xs:List V}:H a=some (.lst xs)->zb9 H (.ref a)
 | tup {a:Addr}{xs:List V}:H a=some (.tup xs)->zb9 H (.ref a)
 | dic {a:Addr}{kvs:List (Key×V)}:H a=some (.dK kvs)->zb9 H (.ref a)
theorem zqF(t:zb9 H v)(q:Q (.bl false) H):zeJ X.K [v,.ty "str"] H Q:=by
 cases t with
 | non=>exact ⟨_,_,_,_,_,rfl,rfl,.of .non,rfl,q⟩
 | bl b=>exact ⟨_,_,_,_,_,rfl,rfl,.of (.bl b),rfl,q⟩
 | int i=>exact ⟨_,_,_,_,_,rfl,rfl,.of (.int i),rfl,q⟩
 | lst h=>exact ⟨_,_,_,_,_,rfl,rfl,.of (.lst h),rfl,q⟩
 | tup h=>exact ⟨_,_,_,_,_,rfl,rfl,.of (.tup h),rfl,q⟩
 | dic h=>exact ⟨_,_,_,_,_,rfl,rfl,.of (.dK h),rfl,q⟩
def zkp:Sp:=λvs H Q _=>(∃z,vs=[.str z]/\asc z=true/\z.length<=100000/\∀H',ze H H'->Q (zgs (zcw z)) H')\/∃v,vs=[v]/\zb9 H v/\Q .non H
def zhL:Sp:=λvs H Q _=>∃v,vs=[v]/\zbm v/\Q (.str (zav v)) H
def zjy:Sp:=λvs H Q _=>∃a xs,vs=[.ref a]/\(H a=some (.lst xs)\/H a=some (.tup xs))/\xs.length<=10/\(∀v∈xs,zbm v)/\∀H',ze H H'->Q (.str (zaR xs)) H'
def zk6(A:zj):Sp:=λvs H Q E=>∃k z,vs=[.str k,.str z]/\asc z=true/\z.length<=100000/\∀H',ze H H'->(∀v,zay k z=some v->Q v H')/\(zay k z=none->E (.ref A.NoRow) none H')
def ziZ(A:zj):Sp:=λvs H Q E=>∃a ws,vs=[.ref a]/\H a=some (.lst (ws.map V.str))/\ws≠[]/\ws.length<=100001/\(∀z∈ws,asc z=true/\z.length<=100000) /\
 (∀xs,zbg ws=some xs->∀p H',ze H H'->H' p=some (.tup xs)->Q (.ref p) H')/\(zbg ws=none->∀H',ze H H'->E (.ref A.NoRow) none H')
def zjc(A:zj):Sp:=λvs H Q E=>(∃v,vs=[v]/\zb9 H v/\E (.ref A.NoRow) none H)\/∃z,vs=[.str z]/\asc z=true/\z.length<=100000 /\
 (∀xs,zaQ z=some xs->∀p H',ze H H'->H' p=some (.tup xs)->Q (.ref p) H')/\(zaQ z=none->∀H',ze H H'->E (.ref A.NoRow) none H')
theorem zbh{n:Nat}(h:n<=1000000):n<=sizeLine:=aW h (by decide)
theorem za5{n:Nat}(h:n<=1000000):n<sizeLine:=dv h (by decide)
abbrev zeQ:Stmt:=top 19
abbrev zfT:Stmt:=top 20
abbrev zhb:Stmt:=top 21
abbrev zie:Stmt:=top 22
section
variable {P:aI}{w:aZ}{K:Frag}{mg:Str->Option Value}{base:Heap}{A:zj}
structure ztw(H:Hp)(z y:Str)(i:Nat)(τ:L2.St)(ys:List V)(H':Hp):Prop where
 ex:∃t,τ=[t,some (V.str y)]
 ys:ys=(((sg z).take i).map λc=>(sg y).contains c).map V.bl
 same:H'=H
theorem zr3:zr ["text","signs","most"] ["text","signs","most"] (zn zeQ):=fsc
theorem zm2:zbk { kind:=.function,names:=[(aj ".0",.local),(aj "sign",.local),(aj "signs",.free)],isGenerator:=false,isCoroutine:=false,more:=[] } (zn zeQ).names ["text","signs","most"] ["sign","signs"] [none,some 1]=true:=by decide +kernel
theorem znh:(["sign","signs"]:List Str).Nodup:=by decide +kernel
theorem zrG(F:Fun K "is_made_of" "is_made_of" zeQ f fd)(T:Txt w K mg A):zo P w K mg base CX0 true 1 f fd ["text","signs","most"] zeV:=by
 refine F.ok zr3 (λvs H Q E h=>?_) (λcdv Ar outer s H vs Q E hr h=>?_)
 .obtain ⟨z,y,m,rfl,_⟩:=h;rfl
 .obtain ⟨z,y,m,rfl,ha,hz,q⟩:=h;have hu:_<cLine:=bz (zab hr);refine ⟨_,(W.h (zh (zw (anD (zdP (clE (zmx (oI0 zeB) (oI0 zeB) zi (zI zak rfl T.n_len aX (zb (za 0) zc)) (za 2))) (zc9 (zI (zp0 rfl) rfl T.n_all boot_all (zb (zci (λ_=>rfl) (zaz.of zm2) (zqS (za 0)) (λ_ _ _ _ _=>(zC (i:=0) znh rfl (aK rfl))) (λ_ _ _ _ _=>zc6) (λ_ _ _ _ _=>(zch (zlB hu) (za 0) (za 1) rfl))) zc)))))))),?_⟩;simp_all only [zbh (aW hz (by decide))];refine zO (λh1=>zO (λh2=>?_) λh2=>?_) λh1=>?_
  .refine ⟨ha,zau.str (ztw H z y) (λi τ ys H' I=>?_) ⟨⟨_,rfl⟩,by simp,rfl⟩ ?_ ?_⟩
   .rw [I.ys,am,am,bI];exact za5 (by rw [zY];lia)
   .intro N i c τ ys H' hc I hN;obtain ⟨t,rfl⟩:=I.ex;simp_all only [];rw [zu8];have hc':(sg z)[i]?=some c:=by simpa [sg] using hc
    exact hN _ _ _ ⟨⟨_,rfl⟩,by rw [I.ys,di,hc'];simp,I.same⟩
   .intro τ ys H' I p H2 n2;simp_all only [];refine ⟨_,by rw [n2.at_,I.ys],?_⟩;have hs:ze H H2:=by have:=n2.same;rw [I.same] at this;exact this
    have e:zax z y m=(((sg z).take z.cps.size).map λc=>(sg y).contains c).all id:=by
     unfold zax;rw [h1,h2,bo (by rw [zY];exact ae _),List.all_map];rfl
    rw [<- e];exact q H2 hs
  .have e:zax z y m=false:=by unfold zax;rw [eJ.mpr h2];simp
   rw [<- e];exact q H (ze.refl _)
  .have e:zax z y m=false:=by unfold zax;rw [eJ.mpr h1];simp
   rw [<- e];exact q H (ze.refl _)
theorem zn5:zr ["text"] ["text"] (zn zhb):=fsc
theorem zsk(F:Fun K "is_name" "is_name" zhb f fd)(T:Txt w K mg A)(Gd:GF P w K mg base true 1 "is_made_of" ["text","signs","most"] zeV):zo P w K mg base CX0 true 2 f fd ["text"] (zdw zbF):=by
 refine F.ok zn5 (λvs H Q E h=>?_) (λcdv Ar outer s H vs Q E hr h=>?_)
 .obtain ⟨z,rfl,_⟩:=h;rfl
 .obtain ⟨z,rfl,ha,hz,q⟩:=h;refine ⟨_,(W.h (zh (zw (caD (zy Gd hr rfl (clP (zb (za 0) (zb (zbj rfl T.c_LETTERS) (zb (zbj rfl T.c_MOST_LETTERS) zc))))))))),?_⟩;simp_all only [];exact ⟨z,_,_,rfl,ha,hz,q⟩
theorem zoZ:zr ["text"] ["text"] (zn zie):=fsc
theorem znR(F:Fun K "is_word" "is_word" zie f fd)(T:Txt w K mg A)(Gd:GF P w K mg base true 1 "is_made_of" ["text","signs","most"] zeV):zo P w K mg base CX0 true 2 f fd ["text"] (zdw zbR):=by
 refine F.ok zoZ (λvs H Q E h=>?_) (λcdv Ar outer s H vs Q E hr h=>?_)
 .obtain ⟨z,rfl,_⟩:=h;rfl
 .obtain ⟨z,rfl,ha,hz,q⟩:=h;refine ⟨_,(W.h (zh (zw (caD (zy Gd hr rfl (clP (zb (za 0) (zb (zl zR (zbj rfl T.c_LETTERS) (zbj rfl T.c_FIGURES)) (zb (zbj rfl T.c_MOST_SIGNS) zc))))))))),?_⟩;simp_all only [];exact ⟨by decide,z,_,_,rfl,ha,hz,q⟩
theorem zps:zr ["text"] ["text"] (zn zfT):=fsc
theorem ztG(F:Fun K "is_number_text" "is_number_text" zfT f fd)(T:Txt w K mg A)(Gd:GF P w K mg base true 1 "is_made_of" ["text","signs","most"] zeV):zo P w K mg base CX0 true 2 f fd ["text"] (zdw zaX):=by
 refine F.ok zps (λvs H Q E h=>?_) (λcdv Ar outer s H vs Q E hr h=>?_)
 .obtain ⟨z,rfl,_⟩:=h;rfl
 .obtain ⟨z,rfl,ha,hz,q⟩:=h;have hu:_<cLine:=bz (zab hr);refine ⟨_,(W.h (zg (zN (zcT (za0 (caD (zy Gd hr rfl (clP (zb (za 0) (zb (zbj rfl T.c_FIGURES) (zb (zbj rfl T.c_MOST_FIGURES) zc))))))))
   (zh (zw zcG))
   zQ)
   (zh (zw (zqM (zch (oE (zaK hu)) (za 0) zM (zD _)) (zc9 (zch (oE (zcP hu)) (zV zZ (za 0) zi (λ_ _=>rfl)) zM (zD _)))))))),?_⟩
  simp_all only [];refine ⟨z,_,_,rfl,ha,hz,λH1 s1=>?_⟩;simp_all only [zbh (aW hz (by decide))];refine zO (λh1=>?_) λh1=>?_
  .have e:zaX z=false:=by
    unfold zaX FIG;rw [show zax z "0123456789" 18=false by simpa using h1];rfl
   rw [<- e];exact q H1 s1
  .have h1:zax z "0123456789" 18=true:=by simpa using h1
   refine zO (λh2=>?_) λh2=>?_
   .have e:zaX z=true:=by
     unfold zaX FIG;rw [h1,h2];rfl
    rw [<- e];exact q H1 s1
   .have hl:0<(sg z).length:=by
     rw [zY];unfold zax at h1;rw [bF,bF,decide_eq_true_eq] at h1;lia
    have e0:(sg z).take 1=[(sg z)[0]]:=by
     generalize sg z=l at hl;cases l with
     | nil=>cases hl
     | cons x l=>rfl
    refine ⟨(sg z)[0],za8 (xs:=sg z) (j:=0) (ah hl),?_⟩;have e:zaX z = !decide (({ cps:=#[(sg z)[0]] }:Str)="0"):=by
     unfold zaX FIG;rw [h1,eJ.mpr h2,e0];rfl
    rw [<- e];exact q H1 s1
end
abbrev zgM:Stmt:=top 30
abbrev zfu:Stmt:=top 29
abbrev zh3:Stmt:=top 26
abbrev zgg:Stmt:=top 27
abbrev zgT:Stmt:=top 28
section
variable {P:aI}{w:aZ}{K:Frag}{mg:Str->Option Value}{base:Heap}{A:zj}
theorem zmO:∀(k:Nat)(a b:List Nat),zbB k (a++b)=zbB k a+zbB (k+a.length) b
 | k,[],b=>by simp [zbB]
 | k,c::a,b=>by
  show c*k+zbB (k+1) (a++b)=c*k+zbB (k+1) a+_;rw [zmO (k+1) a b,cq,show k+1+a.length=k+(a.length+1) by lia];lia
structure zoB(H:Hp)(z:Str)(i:Nat)(σ:L2.St)(H':Hp):Prop where
 ex:∃a b,σ=[some (V.str z),some (.int (zbB 1 ((sg z).take i):Nat)),a,b]
 same:ze H H'
theorem zed:zr ["text","total","place","sign"] ["text"] (zn zh3):=fsc
theorem zoM(F:Fun K "sum_of" "sum_of" zh3 f fd)(T:Txt w K mg A):zo P w K mg base CX0 true 1 f fd ["text"] zjd:=by
 refine F.ok zed (λvs H Q E h=>?_) (λcdv Ar outer s H vs Q E hr h=>?_)
 .obtain ⟨z,rfl,_⟩:=h;rfl
 .obtain ⟨z,rfl,ha,hz,q⟩:=h;refine ⟨_,(W.h (zg (zx (i:=1) zed.nd rfl (aK rfl) zi)
   (zg (zbw dH.never (λ_=>rfl) (zqA rfl T.n_enumerate (za 0)) (zc3 (n:=2) (gsD (zW (zC (i:=2) zed.nd rfl (aK rfl)) (gsD (zW (zC (i:=3) zed.nd rfl (aK rfl)) zbT)))))
   (zh (zqz (i:=1) zed.nd rfl (aK rfl) (zl zaT (zI zrx rfl T.n_ord boot_ord (zb (za 3) zc)) (za 2)) zo4)))
   (zh (zw (zl (oI zS) (za 1) (zbj rfl T.c_MODULUS))))))),?_⟩
  simp_all only [];refine ⟨ha,zat.enumS (zoB H z) ⟨⟨_,_,rfl⟩,ze.refl _⟩ ?_ ?_⟩
  .rintro i c p σ H' hc ⟨⟨a,b,rfl⟩,sm⟩ hp;have hc':(sg z)[i]?=some c:=by simpa [sg] using hc
   simp_all only [];refine ⟨p,_,rfl,SqT.of zu,rfl,?_⟩;simp_all only [];refine ⟨rfl,.inl ⟨by simp;lia,?_⟩,⟨⟨some (.int ((i+1:Nat):Int)),some (.str ⟨#[c]⟩),?_⟩,?_⟩⟩
   .have hc2:c<128:=by
     have h3:=aE hc';rw [za2] at ha;simpa using bJ.mp ha c h3
    simp;lia
   .rw [di,hc',zmO];have hi:i<(sg z).length:=(ak.mp hc').1;rw [bI,Nat.min_eq_left (by lia)];simp [zbB];rw [Int.add_comm 1 (i:Int)]
   .exact sm.trans λb o e=>by rw [zd (zp e hp)];exact e
  .rintro σ H' ⟨⟨a,b,rfl⟩,sm⟩;simp_all only [];refine ⟨by decide,?_⟩;have e:zbK z=((zbB 1 ((sg z).take z.cps.size):Nat):Int) % 65521:=by
    unfold zbK;rw [bo (by rw [zY];exact ae _)];lia
   rw [<- e];exact q H' sm
theorem zkJ:(" ":Str)=c1 32:=by decide +kernel
theorem zkB{n:Nat}(h:n<2 ^ 64):n.log2<1920:=by
 by_cases h0:n=0
 .subst h0;decide
 .exact lt_trans ((Nat.log2_lt h0).mpr h) (by decide)
theorem zcX(z:Str):0<=zbK z/\zbK z<65521:=by unfold zbK;lia
theorem zkk(m:Nat)(h:0<m):∃c r,(iW 10 m).map Char.toNat=c::r/\49<=c:=by
 induction m using Nat.strongRecOn with
 | _ m ih =>
  by_cases h1:m<10
  .rw [Nat.toDigits_of_lt_base h1];refine ⟨_,[],rfl,?_⟩;have:∀d:Nat,d<10->0<d->49<=(Nat.digitChar d).toNat:=by decide
   exact this m h1 h
  .have hm:m % 10<10:=Nat.mod_lt m (by decide);have t:iW 10 (m / 10)++iW 10 (m % 10)=iW 10 (10*(m / 10)+m % 10):=Nat.toDigits_append_toDigits (by decide) (by lia) hm;rw [Nat.div_add_mod] at t;obtain ⟨c,r,e,hc⟩:=ih (m / 10) (by lia) (by lia);rw [<- t,cr,e];exact ⟨c,_,rfl,hc⟩
structure zvb(i:Int):Prop where
 dig:∀c∈sg (toString i:Str),48<=c/\c<=57
 one:1<=(sg (toString i:Str)).length
 most:(sg (toString i:Str)).length<=18
 back:fT (toString i:Str)=some i
 head:(toString i:Str)="0"\/∃c r,sg (toString i:Str)=c::r/\49<=c
theorem zds(h0:0<=i)(h1:i<10 ^ 18):zvb i:=by
 obtain ⟨m,rfl⟩:=Int.eq_ofNat_of_zero_le h0;have hd:∀c∈sg (toString ((m:Nat):Int):Str),48<=c/\c<=57:=by
  intro c hc;rw [zdD] at hc;obtain ⟨ch,hch,e⟩:=gs.mp hc;have r:=Nat.isDigit_of_mem_toDigits (by decide) (by decide) hch;rw [<- e];exact PyProof.Rows.digit_range r
 have hn:1<=(sg (toString ((m:Nat):Int):Str)).length:=by
  rcases Nat.eq_zero_or_pos m with h|h
  .rw [h,zdD];decide
  .obtain ⟨c,r,e,_⟩:=zkk m h;rw [zdD,e];simp
 have hl:(sg (toString ((m:Nat):Int):Str)).length<=18:=by
  have e:(Nat.repr m).length<=18:=(Nat.length_repr_le_iff (by decide)).mpr (by lia);rw [zY];show (aj (toString ((m:Nat):Int))).length<=18;rw [PySem.ofString_length];exact e
 refine ⟨hd,hn,hl,?_,?_⟩
 .have e:=intText_digits (x:=(toString ((m:Nat):Int):Str)) hd (λz=>by rw [show sg (toString ((m:Nat):Int):Str)=[] from z] at hn;cases hn) (by rw [<- zY];lia);have e2:(toString ((m:Nat):Int):Str).cps.toList=(iW 10 m).map Char.toNat:=zdD m;rw [e2,PySem.W.KIN.val_back] at e;exact e
 .rcases Nat.eq_zero_or_pos m with h|h
  .left;rw [h];rfl
  .obtain ⟨c,r,e,hc⟩:=zkk m h;exact .inr ⟨c,r,by rw [zdD,e],hc⟩
theorem zlE(h0:0<=i)(h1:i<10 ^ 18):(toString i:Str).length<=19:=by
 have e:=int_text_length_le10 (a:=i) (k:=18) (by decide) (by lia);show (aj (toString i)).length<=19;rw [PySem.ofString_length];exact e
theorem zqG:zr ["body"] ["body"] (zn zgg):=fsc
theorem zur(F:Fun K "summed" "summed" zgg f fd)(T:Txt w K mg A)(Gn:GF P w K mg base true 1 "sum_of" ["text"] zjd):zo P w K mg base CX0 true 2 f fd ["body"] zeF:=by
 refine F.ok zqG (λvs H Q E h=>?_) (λcdv Ar outer s H vs Q E hr h=>?_)
 .obtain ⟨z,rfl,_⟩:=h;rfl
 .obtain ⟨z,rfl,ha,hz,q⟩:=h;refine ⟨_,(W.h (zh (zw (zus (zgy (ziY (za 0)) (zgy (ziY (caD (zy Gn hr rfl (clP (zb (za 0) zc))))) (zgy zM znE))))))),?_⟩;simp_all only [];have hs:=zcX z;have hn:=zlE hs.1 (by lia);refine ⟨zbh (by lia),by rw [Str.empty_append];exact zbh (by lia),z,rfl,ha,hz,λH' s1=>?_⟩;simp_all only [];rw [Str.empty_append];have l1:(z++(toString (zbK z):Str)).length<=1000000:=by rw [fS];lia
  have l2:(z++(toString (zbK z):Str)++";").length<=1000000:=by
   rw [fS,fS];have:(";":Str).length=1:=by decide
   lia
  exact ⟨zkB (by lia),zbh l1,zbh l2,zbh l2,q H' s1⟩
theorem zgK(l:List Nat):asc (tx l)=l.all (· < 128):=by rw [za2,zbJ]
theorem zhU(h:asc z=true){l:List Nat}(hl:∀c∈l,c∈sg z):asc (tx l)=true:=by
 rw [zgK,bJ];rw [za2,bJ] at h;exact λc hc=>h c (hl c hc)
theorem zmK(c:Nat):∀l:List Nat,c∈l->∃a b,l=a++c::b/\c∉b
 | [],h=>by cases h
 | x::l,h=>by
  by_cases hm:c∈l
  .obtain ⟨a,b,e,hb⟩:=zmK c l hm;exact ⟨x::a,b,by rw [e];rfl,hb⟩
  .rcases au.mp h with e|e
   .exact ⟨[],l,by rw [e];rfl,hm⟩
   .exact absurd e hm
theorem zlR{a b:List Nat}(h:sg z=a++32::b)(hb:32∉b):zba z=tx (a++[32]):=by
 unfold zba;rw [zpL h hb];have e:((a.length:Int)+1)=((a.length+1:Nat):Int):=by lia
 rw [e,zh9 (by rw [h];simp),h];congr 1;rw [show a++32::b=(a++[32])++b by simp,List.take_left' (by simp)]
theorem zpF(h:32∉sg z):zba z=tx []:=by
 unfold zba;rw [zvg h];exact zh9 (j:=0) (cf _)
theorem zkT(h:asc z=true):asc (zba z)=true/\(zba z).length<=z.length:=by
 refine ⟨?_,PySem.Txt.slice_le _ _ _⟩;by_cases hm:32∈sg z
 .obtain ⟨a,b,e,hb⟩:=zmK 32 _ hm;rw [zlR e hb];refine zhU h λc hc=>?_;rw [e,show a++32::b=(a++[32])++b by simp];exact bN _ hc
 .rw [zpF hm,zgK];rfl
theorem zlf:zr ["text","body"] ["text"] (zn zgT):=fsc
theorem znB(F:Fun K "body_of" "body_of" zgT f fd)(T:Txt w K mg A)(Gg:GF P w K mg base true 2 "summed" ["body"] zeF):zo P w K mg base CX0 true 3 f fd ["text"] zkp:=by
 refine F.ok zlf (λvs H Q E h=>?_) (λcdv Ar outer s H vs Q E hr h=>?_)
 .rcases h with ⟨z,rfl,_⟩|⟨v,rfl,_⟩<;>rfl
 .have hu:_<cLine:=bz (zab hr);refine ⟨_,(W.h (zg (zN (zcT (za0 (zI zdt rfl T.n_isinstance eN (zb (za 0) (zb (zdg rfl T.n_str boot_str (v:=.ty "str") rfl) zc)))))
   (zh (zw zaJ))
   zQ)
   (zg (zx (i:=1) zlf.nd rfl (aK rfl) (zbQ zcg (za 0) zbO (zbP (zl zR (znH (za 0) zM) zi))))
   (zh (zw (zfw (tD (zF (clO (oE (zaK hu))) (clE (za 0)) (clE (caD (zy Gg hr rfl (clP (zb (za 1) zc))))) (zD _))) (za 1) zaJ)))))),?_⟩
  rcases h with ⟨z,rfl,ha,hz,q⟩|⟨v,rfl,tv,q⟩
  case inr =>
   simp_all only [];refine zqF tv ?_;simp_all only [];exact q
  simp_all only [];refine ⟨_,_,_,_,_,rfl,rfl,.of (.str z),rfl,?_⟩;simp_all only [zbh (aW hz (by decide)),zkJ];obtain ⟨b1,b2⟩:=zkT ha;refine ⟨zba z,rfl,b1,by lia,λH' s1=>?_⟩;simp_all only [];have q':=q H' s1;refine zO (λh=>?_) λh=>?_
  .have e:zcw z=some (zba z):=if_pos (of_decide_eq_true h);rw [e] at q';exact q'
  .have e:zcw z=none:=if_neg λx=>h (decide_eq_true x);rw [e] at q';exact q'
theorem ziS:∀ys:List Str,sg (d0 "" ys)=(ys.map sg).flatten:=by
 intro ys;have e:d0 "" ys=Str.join "" ys:=StrLaws.glued_eq_join "" ys;rw [e]
 induction ys with
 | nil=>rfl
 | cons y ys ih =>
  cases ys with
  | nil=>show sg y=_;simp
  | cons x ys =>
   have ih:=ih (StrLaws.glued_eq_join "" _);show sg (y++""++Str.join "" (x::ys))=_;rw [zbY,zbY,ih];have:sg ("":Str)=[]:=by decide
   rw [this];simp
theorem zjK(h:zbm v):(zav v).length<=100/\asc (zav v)=true:=by
 cases h with
 | bl b=>cases b<;>exact ⟨by decide,by rw [za2];decide⟩
 | int i h0 h1 =>
  have F:=zds h0 h1;refine ⟨by show (toString i:Str).length<=100;rw [<- zY];have:=F.most;lia,?_⟩;show asc (toString i:Str)=true;rw [za2,bJ];exact λc hc=>decide_eq_true (by have:=F.dig c hc;lia)
 | str z ha hz=>exact ⟨hz,ha⟩
theorem zfG:∀{xs:List V},(∀v∈xs,zbm v)->(zae xs).length<=101*xs.length/\(zae xs).all (· < 128)=true
 | [],_=>⟨by simp [zae],rfl⟩
 | v::xs,h=>by
  obtain ⟨h1,h2⟩:=zfG (xs:=xs) λu hu=>h u (aF _ hu);obtain ⟨p1,p2⟩:=zjK (h v (bf ..));have e:zae (v::xs)=sg (zav v)++[32]++zae xs:=by simp [zae]
  rw [e];rw [<- zY] at p1;rw [za2] at p2;refine ⟨by simp;lia,?_⟩;rw [iR,iR,p2,h2];rfl
theorem zuG:zr ["part"] ["part"] (zn zgM):=fsc
theorem zoX(F:Fun K "part_text" "part_text" zgM f fd)(T:Txt w K mg A):zo P w K mg base CX0 cm 1 f fd ["part"] zhL:=by
 refine F.ok zuG (λvs H Q E h=>?_) (λcdv Ar outer s H vs Q E hr h=>?_)
 .obtain ⟨v,rfl,_⟩:=h;rfl
 .obtain ⟨v,rfl,hv,q⟩:=h;refine ⟨_,(W.h (zg (zN (za0 (zI zdt rfl T.n_isinstance eN (zb (za 0) (zb (zdg rfl T.n_bool boot_bool (v:=.ty "bool") rfl) zc))))
   (zh (zw (zfw (za0 (za 0)) zM zM)))
   zQ)
   (zh (zw (zce zmW rfl T.n_str boot_str (zb (za 0) zc)))))),?_⟩
  simp_all only [];cases hv with
  | bl b =>
   refine ⟨_,_,_,_,_,rfl,rfl,.of (.bl b),rfl,?_⟩;simp_all only [];cases b with
   | true=>exact zft q
   | false=>exact zd7 q
  | int i h0 h1 =>
   refine ⟨_,_,_,_,_,rfl,rfl,.of (.int i),rfl,?_⟩;simp_all only [];exact ⟨zkB (by lia),q⟩
  | str z ha hz =>
   refine ⟨_,_,_,_,_,rfl,rfl,.of (.str z),rfl,?_⟩;simp_all only [];exact q
structure zdx(H:Hp)(xs:List V)(i:Nat)(τ:L2.St)(ys:List V)(H':Hp):Prop where
 ex:∃t,τ=[t]
 ys:ys=((xs.take i).map λv=>zav v++" ").map V.str
 same:H'=H
theorem ztk:zr ["row"] ["row"] (zn zfu):=fsc
theorem zqC:zbk { kind:=.function,names:=[(aj ".0",.local),(aj "part",.local),(aj "part_text",.globalImplicit)],isGenerator:=false,isCoroutine:=false,more:=[] } (zn zfu).names ["row"] ["part"] [none]=true:=by decide +kernel
theorem ztD:(["part"]:List Str).Nodup:=by decide +kernel
theorem ztC(F:Fun K "row_text" "row_text" zfu f fd)(T:Txt w K mg A)(Gg:GF P w K mg base true 2 "summed" ["body"] zeF)(Go:GF P w K mg base true 1 "part_text" ["part"] zhL):zo P w K mg base CX0 true 3 f fd ["row"] zjy:=by
 refine F.ok ztk (λvs H Q E h=>?_) (λcdv Ar outer s H vs Q E hr h=>?_)
 .obtain ⟨a,xs,rfl,_⟩:=h;rfl
 .obtain ⟨a,xs,rfl,hH,hx,hp,q⟩:=h;refine ⟨_,(W.h (zh (zw (caD (zy Gg hr rfl (clP (zb (zkr zM (zci (λ_=>rfl) (zaz.of zqC) (ztA (za 0)) (λ_ _ _ _ _=>(zC (i:=0) ztD rfl (aK rfl))) (λ_ _ _ _ _=>zc6) (λ_ _ _ _ _=>(zl zR (caD (zy Go hr rfl (clP (zb (za 0) zc)))) zM)))) zc))))))),?_⟩;simp_all only [];have sp1:(" ":Str).length=1:=by decide
  have step:∀(N:L2.St->List V->Hp->Prop)(i:Nat)(x:V)(τ:L2.St)(ys:List V)(H':Hp),xs[i]?=some x->zdx H xs i τ ys H'->(∀τ ys H3,zdx H xs (i+1) τ ys H3->N τ ys H3)->zcJ 0 x τ H' λτ1 H4=>zhe τ1 H4 λok H5=>zck N ys τ1 (tOp zdS (zgH zhL E0 (zeS (zd3 0) zaZ)) (tC (V.str " "))) ok H5:=by
   intro N i x τ ys H' hx' I hN;obtain ⟨t,rfl⟩:=I.ex;have hv:=hp x (aE hx');simp_all only [];refine ⟨x,rfl,hv,?_⟩;simp_all only [];refine ⟨?_,hN _ _ _ ⟨⟨_,rfl⟩,by rw [I.ys,di,hx'];simp,I.same⟩⟩;rw [sp1];exact zbh (by have:=(zjK hv).1;lia)
  have done:∀(τ:L2.St)(ys:List V)(H':Hp),zdx H xs xs.length τ ys H'->∀D H2,New H' D (.lst ys) H2->zek (V.str "") [.ref D] H2 λx H1=>zeF [x] H1 Q E0:=by
   intro τ ys H' I D H2 n2;rw [zhd];have hall:xs.take xs.length=xs:=bo (ae _);have e:d0 "" (xs.map λv=>zav v++" ")=tx (zae xs):=by
    refine zhv ?_;rw [ziS,zbJ,bU];unfold zae;congr 1;refine dX λv _=>?_;show sg (zav v++" ")=_;rw [zbY];rfl
   obtain ⟨l1,l2⟩:=zfG hp;refine ⟨xs.map λv=>zav v++" ",by rw [n2.at_,I.ys,hall],?_,tx (zae xs),by rw [e],by rw [zgK];exact l2,by rw [ziE];lia,λH3 s3=>q H3 ?_⟩
   .have es:((xs.map λv=>zav v++" ").map (·.length)).sum=(zae xs).length:=by
     unfold zae;rw [List.length_flatten,bU,bU];congr 1;refine dX λv _=>?_;show (zav v++" ").length=(sg (zav v)++[32]).length;rw [fS,aG,zY];rfl
    rw [es,show ("":Str).length=0 by decide];lia
   .have:=n2.same;rw [I.same] at this;exact this.trans s3
  have sml:∀i τ ys H',zdx H xs i τ ys H'->ys.length<sizeLine:=λi τ ys H' I=>by
   rw [I.ys,am,am,bI];exact za5 (by lia)
  rcases hH with hH|hH
  .exact .inl ⟨⟨_,SqL.of hH⟩,zau.lst (xs:=xs) (zdx H xs) sml (λi τ ys H' I=>SqL.of (by rw [I.same];exact hH)) ⟨⟨_,rfl⟩,by simp,rfl⟩ step done⟩
  .exact .inr ⟨⟨_,SqT.of hH⟩,zau.tup (xs:=xs) (zdx H xs) sml (λi τ ys H' I=>SqT.of (by rw [I.same];exact hH)) ⟨⟨_,rfl⟩,by simp,rfl⟩ step done⟩
end
abbrev zfa:Stmt:=top 33
abbrev zfz:Stmt:=top 32
abbrev zeM:Stmt:=top 31
section
variable {P:aI}{w:aZ}{K:Frag}{mg:Str->Option Value}{base:Heap}{A:zj}
theorem zt7(h:zaX z=true):∃n,fT z=some n/\z.length<=640:=by
 unfold zaX zax at h;rw [bF,bF,bF,decide_eq_true_eq,decide_eq_true_eq] at h;obtain ⟨⟨⟨h1,h2⟩,h3⟩,_⟩:=h;have hl:z.length<=18:=by lia
 have hd:∀c∈sg z,48<=c/\c<=57:=by
  intro c hc;have:=bJ.mp h3 c hc;have hf:sg FIG=[48,49,50,51,52,53,54,55,56,57]:=by decide
  rw [hf] at this;have:=dG.mp this;simp only [au,aM,or_false] at this;omega
 refine ⟨_,intText_digits (x:=z) hd (λe=>?_) (by lia),by lia⟩;have:z.length=0:=by rw [<- zY];rw [show sg z=[] from e];rfl
 lia
theorem zpd:zr ["kind","word"] ["kind","word"] (zn zfa):=fsc
theorem zpR(F:Fun K "read_part" "read_part" zfa f fd)(T:Txt w K mg A)(Gp:GF P w K mg base true 2 "is_number_text" ["text"] (zdw zaX))(Gq:GF P w K mg base true 2 "is_name" ["text"] (zdw zbF))(Gr:GF P w K mg base true 2 "is_word" ["text"] (zdw zbR)) :
  zo P w K mg base (CXW P w) true 3 f fd ["kind","word"] (zk6 A):=by
 refine F.okW zpd (λvs H Q E h=>?_) (λcdv Ar outer s H vs Q E hr h=>?_)
 .obtain ⟨k,z,rfl,_⟩:=h;rfl
 .obtain ⟨k,z,rfl,ha,hz,q⟩:=h;have hu:_<cLine:=bz (zab hr);have Th:=zcL (cm:=true) (P:=P) (w:=w) (K:=K) (mg:=mg) (base:=base) (N:=["kind","word"]) (qual:="read_part") (scope:=zn zfa) (f:=f) (cd:=cdv) (A:=Ar) (outer:=outer) (s:=s) (H:=H) (E:=E);refine ⟨_,(W.h (zg (zdy (zN (zcc (zdb (tD (zF (clO (oE (zaK hu))) (clE (za 0)) (clE zM) (zD _))) (zdn (za0 (caD (zy Gp hr rfl (clP (zb (za 1) zc))))))))
   (zh (zw (zce zq2 rfl T.n_int boot_int (zb (za 1) zc))))
   zQ))
   (zg (zdy (zN (zcc (zdb (tD (zF (clO (oE (zaK hu))) (clE (za 0)) (clE zM) (zD _))) (zdn (tD (zF (clO (zlB hu)) (clE (za 1)) (clE (zaO (zb zM (zb zM zc)))) rfl)))))
   (zh (zw (zch (oE (zaK hu)) (za 1) zM (zD _))))
   zQ))
   (zg (zdy (zN (zcc (zdb (tD (zF (clO (oE (zaK hu))) (clE (za 0)) (clE zM) (zD _))) (zdn (za0 (caD (zy Gq hr rfl (clP (zb (za 1) zc))))))))
   (zh (zw (za 1)))
   zQ))
   (zg (zN (zcc (zdb (tD (zF (clO (oE (zaK hu))) (clE (za 0)) (clE zM) (zD _))) (zdn (za0 (caD (zy Gr hr rfl (clP (zb (za 1) zc))))))))
   (zh (zw (za 1)))
   zQ)
   (zh (zea rfl Th T.ek_NoRow rfl T.mg_NoRow (zb zM zc)))))))),?_⟩
  simp_all only [zdz];refine ⟨λσ' H'=>σ'=[some (.str k),some (.str z)]/\ze H H'/\¬ (k="number"/\zaX z=true),?_,?_⟩
  .refine zO (λh1=>?_) λh1=>⟨rfl,ze.refl _,λx=>h1 (decide_eq_true x.1)⟩;refine ⟨z,rfl,ha,hz,λH1 s1=>?_⟩;simp_all only [];refine zO (λh2=>?_) λh2=>⟨s1,λx=>h2 x.2⟩;obtain ⟨n,hn,hl⟩:=zt7 h2;refine ⟨hl,n,hn,(q H1 s1).1 _ ?_⟩;unfold zay;rw [if_pos ⟨of_decide_eq_true h1,h2⟩,hn];rfl
  rintro σ' H1 ⟨rfl,s1,n1⟩;simp_all only [zdz];refine ⟨λσ' H'=>σ'=[some (.str k),some (.str z)]/\ze H H'/\¬ (k="end"/\(z="0"\/z="1")),?_,?_⟩
  .refine zO (λh1=>?_) λh1=>⟨rfl,s1,λx=>h1 (decide_eq_true x.1)⟩;refine ⟨by decide,λp H2 n2=>⟨_,.inr n2.at_,rfl,rfl,?_⟩⟩;have e:inV (V.str z) [V.str "0",V.str "1"]=true↔(z="0"\/z="1"):=by
    unfold inV;rw [hU,hU,List.any_nil,fC,Bool.or_eq_true];have e3:∀a:Str,eqV (V.str a) (V.str z)=true↔z=a:=λa=>by
     show (a==z)=true↔_;rw [beq_iff_eq];exact eq_comm
    rw [e3,e3]
   refine zO (λh2=>?_) λh2=>⟨rfl,s1.trans n2.same,λx=>h2 (e.mpr x.2)⟩;refine (q H2 (s1.trans n2.same)).1 _ ?_;unfold zay;rw [if_neg n1,if_pos ⟨of_decide_eq_true h1,e.mp h2⟩]
  rintro σ' H2 ⟨rfl,s2,n2⟩;simp_all only [zdz];refine ⟨λσ' H'=>σ'=[some (.str k),some (.str z)]/\ze H H'/\¬ (k="name"/\zbF z=true),?_,?_⟩
  .refine zO (λh1=>?_) λh1=>⟨rfl,s2,λx=>h1 (decide_eq_true x.1)⟩;refine ⟨z,rfl,ha,hz,λH3 s3=>?_⟩;simp_all only [];refine zO (λh2=>?_) λh2=>⟨s2.trans s3,λx=>h2 x.2⟩;refine (q H3 (s2.trans s3)).1 _ ?_;unfold zay;rw [if_neg n1,if_neg n2,if_pos ⟨of_decide_eq_true h1,h2⟩]
  rintro σ' H3 ⟨rfl,s3,n3⟩;simp_all only [];refine zO (λh1=>?_) λh1=>?_
  .refine ⟨z,rfl,ha,hz,λH4 s4=>?_⟩;simp_all only [];refine zO (λh2=>?_) λh2=>?_
   .refine (q H4 (s3.trans s4)).1 _ ?_;unfold zay;rw [if_neg n1,if_neg n2,if_neg n3,if_pos ⟨of_decide_eq_true h1,h2⟩]
   .refine ⟨by decide,(q H4 (s3.trans s4)).2 ?_⟩;unfold zay;rw [if_neg n1,if_neg n2,if_neg n3,if_neg λx=>h2 x.2]
  .refine ⟨by decide,(q H3 s3).2 ?_⟩;unfold zay;rw [if_neg n1,if_neg n2,if_neg n3,if_neg λx=>h1 (decide_eq_true x.1)]
theorem zoq(T:Txt w K mg A)(z:Str):(zbZ [("put",A.PARTS_put),("cut",A.PARTS_cut),("hold",A.PARTS_hold),("free",A.PARTS_free),("carry",A.PARTS_carry)] z = .non/\zbH z=none) \/
  ∃p ks,zbZ [("put",A.PARTS_put),("cut",A.PARTS_cut),("hold",A.PARTS_hold),("free",A.PARTS_free),("carry",A.PARTS_carry)] z = .ref p/\zbH z=some ks/\ks.length<=10/\∀H:Hp,SqT K H p (ks.map V.str):=by
 unfold zbZ zbH;simp only [f9,List.find?_nil];by_cases h1:z="put"
 .rw [if_pos h1,decide_eq_true h1.symm];exact .inr ⟨_,_,rfl,rfl,by decide,T.t_PARTS_put⟩
 rw [if_neg h1,decide_eq_false (aU h1)];by_cases h2:z="cut"
 .rw [if_pos h2,decide_eq_true h2.symm];exact .inr ⟨_,_,rfl,rfl,by decide,T.t_PARTS_cut⟩
 rw [if_neg h2,decide_eq_false (aU h2)];by_cases h3:z="hold"
 .rw [if_pos h3,decide_eq_true h3.symm];exact .inr ⟨_,_,rfl,rfl,by decide,T.t_PARTS_hold⟩
 rw [if_neg h3,decide_eq_false (aU h3)];by_cases h4:z="free"
 .rw [if_pos h4,decide_eq_true h4.symm];exact .inr ⟨_,_,rfl,rfl,by decide,T.t_PARTS_free⟩
 rw [if_neg h4,decide_eq_false (aU h4)];by_cases h5:z="carry"
 .rw [if_pos h5,decide_eq_true h5.symm];exact .inr ⟨_,_,rfl,rfl,by decide,T.t_PARTS_carry⟩
 rw [if_neg h5,decide_eq_false (aU h5)];exact .inl ⟨rfl,rfl⟩
theorem zeO:∀{ks zs:List Str}(ks' zs':List Str),ks.length=zs.length->zai (ks++ks') (zs++zs')=(zai ks zs).bind λvs=>(zai ks' zs').map (vs++·)
 | [],[],ks',zs',_=>by simp [zai]
 | k::ks,z::zs,ks',zs',h=>by
  have ih:=zeO (ks:=ks) (zs:=zs) ks' zs' (by simpa using h);show (zay k z).bind (λv=>(zai (ks++ks') (zs++zs')).map (v::·))=((zay k z).bind λv=>(zai ks zs).map (v::·)).bind _;rw [ih];cases zay k z with
  | none=>rfl
  | some v =>
   cases zai ks zs with
   | none=>rfl
   | some vs =>
    show ((zai ks' zs').map (vs++·)).map (v::·)=(zai ks' zs').map ((v::vs)++·);rw [Option.map_map];rfl
 | [],z::zs,_,_,h=>by cases h
 | k::ks,[],_,_,h=>by cases h
theorem zb4(z:Str)(zs:List Str):zbg (z::zs)=(zbH z).bind λks=>if zs.length=ks.length then (zai ks zs).map (.str z::·) else none:=rfl
theorem zm9{x:V}{l:List V}:zaw (x::l) (some 1) none=l:=by
 have e1:HT.sIx (x::l).length 0 (some 1)=1:=by simp [HT.sIx]
 have e2:HT.sIx (x::l).length (x::l).length none=l.length+1:=by simp [HT.sIx]
 unfold zaw;rw [e1,e2];simp
structure zqH(H:Hp)(a p r b:Addr)(z:Str)(ks zs:List Str)(i:Nat)(σ:L2.St)(H':Hp):Prop where
 ex:∃k' z',σ=[some (V.ref a),some (.ref p),some (.ref r),k',z']
 same:ze H H'
 row:∃vs,H' r=some (.lst (.str z::vs))/\zai (ks.take i) (zs.take i)=some vs/\vs.length=i
 words:H' b=some (.lst (zs.map V.str))
 ne:H r=none/\H b=none/\r≠b
theorem zeg:zr ["words","kinds","row","kind","word"] ["words"] (zn zfz):=fsc
theorem zpw(F:Fun K "row_of" "row_of" zfz f fd)(T:Txt w K mg A)(Gs:GX P w K mg base true 3 "read_part" ["kind","word"] (zk6 A)):zo P w K mg base (CXW P w) true 4 f fd ["words"] (ziZ A):=by
 refine F.okW zeg (λvs H Q E h=>?_) (λcdv Ar outer s H vs Q E hr h=>?_)
 .obtain ⟨a,ws,rfl,_⟩:=h;rfl
 .obtain ⟨a,ws,rfl,hH,hne,hl,hw,q,qn⟩:=h;have hu:_<cLine:=bz (zab hr);have Th:=zcL (cm:=true) (P:=P) (w:=w) (K:=K) (mg:=mg) (base:=base) (N:=["words","kinds","row","kind","word"]) (qual:="row_of") (scope:=zn zfz) (f:=f) (cd:=cdv) (A:=Ar) (outer:=outer) (s:=s) (H:=H) (E:=E);obtain ⟨z,zs,rfl⟩:=List.exists_cons_of_ne_nil hne;have e0:atI (V.str z::fi V.str zs) 0=some (.str z):=za8 (j:=0) rfl;refine ⟨_,(W.h (zg (zx (i:=1) zeg.nd rfl (aK rfl) (zrW rfl T.mg_PARTS T.d_PARTS (zV zZ (za 0) zi (λ_ _=>rfl))))
   (zg (zN (zcc (zg7 (tD (zF (clO zic) (clE (za 1)) (clE zaJ) (zD _))) (zgC (tD (zF (clO (oE (zcP hu))) (clE (zI zak rfl T.n_len aX (zb (za 0) zc))) (clE (zl zR (zI zh1 rfl T.n_len aX (zb (za 1) zc)) zi)) (zD _))))))
   (zh (zea rfl Th T.ek_NoRow rfl T.mg_NoRow (zb zM zc)))
   zQ)
   (zg (zx (i:=2) zeg.nd rfl (aK rfl) (zaC (zb (zV zZ (za 0) zi (λ_ _=>rfl)) zc)))
   (zg (zrN Th (zbw (zqg rfl (λok=>ok.frames) rfl) (by intro h;exact nomatch h) (zsf rfl T.n_zip (zb (za 1) (zb (zbQ zcg (za 0) (zbP zi) zbO) zc))) (zc3 (n:=2) (gsD (zW (zC (i:=3) zeg.nd rfl (aK rfl)) (gsD (zW (zC (i:=4) zeg.nd rfl (aK rfl)) zbT)))))
   (zh (zal (zc1 (za 2) (cXD (zhz zqZ Gs hr rfl (clP (zb (za 3) (zb (za 4) zc))))))))))
   (zh (zw (zce zoA rfl T.n_tuple boot_tuple (zb (za 2) zc))))))))),?_⟩
  simp_all only [hH,e0];rcases zoq T z with ⟨g1,g2⟩|⟨p,ks,g1,g2,g4,g3⟩
  .simp_all only [g1];exact ⟨by decide,qn (by rw [zb4,g2];rfl) H (ze.refl _)⟩
  simp_all only [g1,hH];refine ⟨_,.inr (g3 H),?_⟩;have hl2:(!decide ((((fi V.str zs).length+1:Nat):Int)=((fi V.str ks).length:Int)+1))=true↔zs.length≠ks.length:=by
   rw [am,am];simp;lia
  refine zO (λh=>?_) λh=>?_
  .refine ⟨by decide,qn ?_ H (ze.refl _)⟩;rw [zb4,g2];show (if zs.length=ks.length then _ else _)=_;rw [if_neg (hl2.mp h)]
  have hlen:ks.length=zs.length:=by
   refine dN λhx=>h (hl2.mpr λx=>hx x.symm)
  have hrow:zbg (z::zs)=(zai ks zs).map (.str z::·):=by
   rw [zb4,g2];show (if zs.length=ks.length then _ else _)=_;rw [if_pos hlen.symm]
  refine ⟨_,e0,by decide,λr H1 n1 _=>⟨_,n1.same _ _ hH,λb H2 n2=>?_⟩⟩;have s2:ze H H2:=n1.same.trans n2.same;have er:=n2.same _ _ n1.at_;have eb:=n2.at_;rw [bQ,zm9] at eb;have hrb:r≠b:=λx=>by rw [x] at n1;have:=n1.at_;rw [n2.no] at this;cases this
  refine ⟨⟨_,g3 H2⟩,⟨_,SqL.of eb⟩,zat.zipT (xs:=ks.map V.str) (ys:=zs.map V.str) (by rw [am,am];exact hlen) (zqH H a p r b z ks zs) ⟨⟨_,_,rfl⟩,s2,⟨[],er,by simp [zai],rfl⟩,eb,n1.no,n1.same.free n2.no,hrb⟩ (λi σ H' _ I=>⟨g3 H',SqL.of I.words⟩) ?_ ?_⟩
  .intro i x y t σ H' hx hy I ht;obtain ⟨k',z',rfl⟩:=I.ex;rw [bh] at hx hy;obtain ⟨k,hk,rfl⟩:=bX.mp hx;obtain ⟨u,hu',rfl⟩:=bX.mp hy;obtain ⟨vs,hv,hp,hvl⟩:=I.row;have hm:=hw u (aF _ (aE hu'));simp_all only [];refine ⟨t,_,rfl,SqT.of zu,rfl,?_⟩;have hrt:r≠t:=λx=>by rw [x] at hv;rw [ht] at hv;cases hv
   have hbt:b≠t:=λx=>by have:=I.words;rw [x,ht] at this;cases this
   have hv2:upd H' t (.tup [.str k,.str u]) r=some (.lst (.str z::vs)):=by rw [zd hrt];exact hv
   simp_all only [hv2];have st:ze H (upd H' t (.tup [.str k,.str u])):=λc o e=>by
    have:=I.same c o e;rw [zd (zp this ht)];exact this
   have hi:i<ks.length:=(ak.mp hk).1;have ta:(ks.take i).length=(zs.take i).length:=by rw [bI,bI,hlen]
   have tk:ks.take (i+1)=ks.take i++[k]:=by rw [di,hk];rfl
   have tz:zs.take (i+1)=zs.take i++[u]:=by rw [di,hu'];rfl
   refine ⟨k,u,rfl,hm.1,hm.2,λH3 s3=>⟨λv hr'=>?_,λhr'=>?_⟩⟩
   .have h3r:H3 r=some (.lst (.str z::vs)):=s3 _ _ hv2;have h3b:H3 b=some (.lst (zs.map V.str)):=s3 _ _ (by rw [zd hbt];exact I.words);refine ⟨_,h3r,by simp;exact za5 (by lia),⟨⟨_,_,rfl⟩,λc o e=>?_,⟨vs++[v],by rw [zu];rfl,?_,by simp [hvl]⟩,by rw [zd (aU hrb)];exact h3b,I.ne⟩⟩
    .rw [zd (zp e I.ne.1)];exact s3 _ _ (st c o e)
    .rw [tk,tz,zeO _ _ ta,hp];show (zai [k] [u]).map (vs++·)=_;simp [zai,hr']
   .refine ⟨_,rfl,qn ?_ H3 (st.trans s3)⟩;have e1:zai ks zs=none:=by
     have k1:ks=ks.take (i+1)++ks.drop (i+1):=(ck _ _).symm;have z1:zs=zs.take (i+1)++zs.drop (i+1):=(ck _ _).symm;rw [k1,z1,zeO _ _ (by rw [bI,bI,hlen]),tk,tz,zeO _ _ ta,hp];simp [zai,hr']
    rw [hrow,e1];rfl
  .rintro σ H' I;obtain ⟨k',z',rfl⟩:=I.ex;obtain ⟨vs,hv,hp,hvl⟩:=I.row;simp_all only [hv];intro l H2 n2;rw [am,bo (ae _),bo (by lia)] at hp;exact q _ (by rw [hrow,hp];rfl) l H2 (I.same.trans n2.same) n2.at_
theorem zeG{c:Nat}:∀{l:List Nat}{w:List Nat},w∈zag c l->∀x∈w,x∈l
 | [],w,h,x,hx=>by
  rw [show zag c []=[[]] from rfl,ax] at h;rw [h] at hx;cases hx
 | y::l,w,h,x,hx=>by
  by_cases hc:y=c
  .rw [show zag c (y::l)=[]::zag c l from if_pos hc] at h;rcases au.mp h with e|h
   .rw [e] at hx;cases hx
   .exact aF _ (zeG h x hx)
  .rw [zdF c y l hc] at h;obtain ⟨a,r,e⟩:=zcY c l;rw [e] at h;rcases au.mp h with e2|h
   .rw [e2] at hx;rcases au.mp hx with e3|hx
    .rw [e3];exact bf ..
    .exact aF _ (zeG (l:=l) (w:=a) (by rw [e];exact bf ..) x hx)
   .exact aF _ (zeG (l:=l) (by rw [e];exact aF _ h) x hx)
theorem ziH(c:Nat):∀l:List Nat,(zag c l).length<=l.length+1/\∀w∈zag c l,w.length<=l.length
 | []=>⟨by simp [zag],by simp [zag]⟩
 | y::l=>by
  obtain ⟨h1,h2⟩:=ziH c l;by_cases hc:y=c
  .rw [show zag c (y::l)=[]::zag c l from if_pos hc];refine ⟨by simp;lia,λw hw=>?_⟩;rcases au.mp hw with e|hw
   .rw [e];simp
   .have:=h2 w hw;simp;lia
  .rw [zdF c y l hc];obtain ⟨a,r,e⟩:=zcY c l;rw [e] at h1 h2 ⊢;refine ⟨by simpa [zcr] using Nat.le_succ_of_le h1,λw hw=>?_⟩;rcases au.mp hw with e2|hw
   .have:=h2 a (bf ..);rw [e2];simp;lia
   .have:=h2 w (aF _ hw);simp;lia
theorem zmQ:zr ["text","body"] ["text"] (zn zeM):=fsc
theorem ztE(F:Fun K "read_row" "read_row" zeM f fd)(T:Txt w K mg A)(Gu:GF P w K mg base true 3 "body_of" ["text"] zkp)(Gv:GX P w K mg base true 4 "row_of" ["words"] (ziZ A)):zo P w K mg base (CXW P w) true 5 f fd ["text"] (zjc A):=by
 refine F.okW zmQ (λvs H Q E h=>?_) (λcdv Ar outer s H vs Q E hr h=>?_)
 .rcases h with ⟨v,rfl,_⟩|⟨z,rfl,_⟩<;>rfl
 .have Th:=zcL (cm:=true) (P:=P) (w:=w) (K:=K) (mg:=mg) (base:=base) (N:=["text","body"]) (qual:="read_row") (scope:=zn zeM) (f:=f) (cd:=cdv) (A:=Ar) (outer:=outer) (s:=s) (H:=H) (E:=E);refine ⟨_,(W.h (zg (zx (i:=1) zmQ.nd rfl (aK rfl) (caD (zy Gu hr rfl (clP (zb (za 0) zc)))))
   (zg (zN (tD (zF (clO zic) (clE (za 1)) (clE zaJ) (zD _)))
   (zh (zea rfl Th T.ek_NoRow rfl T.mg_NoRow (zb zM zc)))
   zQ)
   (zh (zw (cXD (zhz Th Gv hr rfl (clP (zb (zst (zbQ zcg (za 1) zbO (zbP (zmp zhx zi))) zM) zc))))))))),?_⟩
  rcases h with ⟨v,rfl,tv,q⟩|⟨z,rfl,ha,hz,q,qn⟩
  case inl =>
   simp_all only [];refine .inr ⟨v,rfl,tv,?_⟩;simp_all only [];exact ⟨by decide,q⟩
  simp_all only [];refine .inl ⟨z,rfl,ha,hz,λH1 s1=>?_⟩;cases hb:zcw z with
  | none =>
   simp_all only [zgs];exact ⟨by decide,qn (by unfold zaQ;rw [hb];rfl) H1 s1⟩
  | some b =>
   have eb:b=zba z:=by
    unfold zcw at hb;split at hb
    .exact (bK.inj hb).symm
    .cases hb
   obtain ⟨b1,b2⟩:=zkT ha;rw [<- eb] at b1 b2;have hs:zaQ z=zbg (bY (cA b none (some (-1))) (c1 32)):=by unfold zaQ;rw [hb];rfl
   have b3:(cA b none (some (-1))).length<=b.length:=PySem.Txt.slice_le _ _ _;simp_all only [zgs,zkJ,zbh (aW (aW b2 hz) (by decide))];generalize hy:cA b none (some (-1))=y at *
   have ya:asc y=true:=by
    by_cases h0:0<(sg b).length
    .rw [zmn h0] at hy;rw [<- hy];exact zhU b1 λc hc=>(List.dropLast_sublist _).subset hc
    .rw [zY] at h0;have:sg y=[]:=gI (by rw [zY];lia);rw [za2,this];rfl
   have es:=zkZ y (c:=32) (by decide);obtain ⟨l1,l2⟩:=ziH 32 (sg y);rw [zY] at l1;refine ⟨by decide,za5 (by lia),by rw [es,am];exact zbh (by lia),λp H2 n2=>?_⟩;refine ⟨p,bY y (c1 32),rfl,n2.at_,?_,by rw [es,am];lia,λu hu=>?_,λxs hx p3 H3 s3 h3=>q xs (by rw [hs];exact hx) p3 H3 ((s1.trans n2.same).trans s3) h3,λhx H3 s3=>⟨_,rfl,qn (by rw [hs];exact hx) H3 ((s1.trans n2.same).trans s3)⟩⟩
   .rw [es];obtain ⟨a,r,e⟩:=zcY 32 (sg y);rw [e];simp
   .rw [es] at hu;obtain ⟨v,hv,rfl⟩:=gs.mp hu;refine ⟨zhU ya (zeG hv),?_⟩;rw [ziE];have:=l2 v hv;rw [zY] at this;lia
end
def zaW(i:Int):Prop:=0<=i/\i<10 ^ 18
inductive zbv:List V->Prop
 | put (n g:Int) (b:Bool) (nm:Str) (pl:Int) (wd:Str):zaW n->zaW g->zaW pl->zbF nm=true->zbR wd=true->zbv [.str "put",.int n,.int g,.bl b,.str nm,.int pl,.str wd]
 | cut (n:Int) (nm:Str) (pl:Int):zaW n->zaW pl->zbF nm=true->zbv [.str "cut",.int n,.str nm,.int pl]
 | hold (n:Int) (nm:Str):zaW n->zbF nm=true->zbv [.str "hold",.int n,.str nm]
 | free (n:Int) (nm:Str):zaW n->zbF nm=true->zbv [.str "free",.int n,.str nm]
 | carry (n g:Int) (wd:Str):zaW n->zaW g->zbR wd=true->zbv [.str "carry",.int n,.int g,.str wd]
theorem zqi(h:∀c∈sg z,c∈sg y)(h1:1<=z.length)(h2:(z.length:Int)<=m):zax z y m=true:=by
 unfold zax;rw [decide_eq_true (show (1:Int)<=z.length by lia),decide_eq_true h2];rw [gv,gv,bJ];exact λc hc=>dG.mpr (h c hc)
theorem zu6{l:List Nat}(hl:∃a,l=a++[32]):zba (zcx (tx l))=tx l:=by
 obtain ⟨a,rfl⟩:=hl;have F:=zds (zcX (tx (a++[32]))).1 (by have:=(zcX (tx (a++[32]))).2;lia);have e:sg (zcx (tx (a++[32])))=a++32::(sg (toString (zbK (tx (a++[32]))):Str)++[59]):=by
  unfold zcx;rw [zbY,zbY,zbJ];simp;decide +kernel
 refine zlR e λh=>?_;rcases aS.mp h with h|h
 .have:=F.dig 32 h;lia
 .simp at h
theorem zlh(h:zax z y m=true)(hy:32∉sg y):32∉sg z:=by
 unfold zax at h;rw [bF] at h;intro hz;exact hy (dG.mp (bJ.mp h.2 32 hz))
theorem zeU(h:zbF z=true):32∉sg z:=zlh h (f!"")
theorem zmD(h:zbR z=true):32∉sg z:=zlh h (f!"")
theorem zb2(h:zaW i):32∉sg (toString i:Str):=λhz=>by
 have:=(zds h.1 h.2).dig 32 hz;lia
theorem zlk(h:zax z y m=true)(hy:∀c∈sg y,c<128)(hm:m<=100):asc z=true/\z.length<=100:=by
 unfold zax at h;rw [bF,bF,decide_eq_true_eq,decide_eq_true_eq] at h;refine ⟨?_,by lia⟩;rw [za2,bJ];exact λc hc=>decide_eq_true (hy c (dG.mp (bJ.mp h.2 c hc)))
theorem zfd(h:zbF z=true):zbm (.str z):=by
 obtain ⟨a,b⟩:=zlk h (f!"") (by decide);exact .str z a b
theorem ziF(h:zbR z=true):zbm (.str z):=by
 obtain ⟨a,b⟩:=zlk h (f!"") (by decide);exact .str z a b
theorem zb0(h:zaW i):zbm (.int i):=.int i h.1 h.2
theorem zoi(h:zaW i):zaX (toString i:Str)=true:=by
 have F:=zds h.1 h.2;unfold zaX;rw [bF];constructor
 .refine zqi (λc hc=>?_) (by rw [<- zY];exact F.one) (by rw [<- zY];have:=F.most;lia);have hf:sg FIG=[48,49,50,51,52,53,54,55,56,57]:=by decide
  rw [hf];have:=F.dig c hc;simp;lia
 .rcases F.head with h|⟨c,r,e,hc⟩
  .rw [decide_eq_true h];rfl
  .rw [e];have : ¬ tx (List.take 1 (c::r))=("0":Str):=λx=>by
    have:=congrArg sg x;rw [zbJ] at this;have h0:sg ("0":Str)=[48]:=by decide
    rw [h0] at this;injection this with h1 _
    lia
   rw [decide_eq_false this];simp
theorem zca(h:zaW i):zay "number" (toString i:Str)=some (.int i):=by
 unfold zay;rw [if_pos ⟨rfl,zoi h⟩,(zds h.1 h.2).back];rfl
theorem zfl(h:zbF z=true):zay "name" z=some (.str z):=by
 unfold zay;rw [if_neg (λx=>absurd x.1 (f!"")),if_neg (λx=>absurd x.1 (f!"")),if_pos ⟨rfl,h⟩]
theorem zkL(h:zbR z=true):zay "word" z=some (.str z):=by
 unfold zay;rw [if_neg (λx=>absurd x.1 (f!"")),if_neg (λx=>absurd x.1 (f!"")),if_neg (λx=>absurd x.1 (f!"")),if_pos ⟨rfl,h⟩]
theorem zoK(b:Bool):zay "end" (zav (.bl b))=some (.bl b):=by cases b<;>decide +kernel
theorem zdR(hn:∀u∈v::xs,32∉sg (zav u)):zaQ (zaR (v::xs))=zbg ((v::xs).map zav):=by
 have flat:∀l:List V,zae l=(l.map λu=>sg (zav u)++[32]).flatten:=λl=>rfl;have ap:∀(u:V)(l:List V),zae (u::l)=sg (zav u)++32::zae l:=λu l=>by simp [zae]
 have key:∀(u:V)(l:List V),zae (u::l)=sg (zav u)++((l.map λt=>sg (zav t)).map (32::·)).flatten++[32]:=by
  intro u l
  induction l generalizing u with
  | nil=>simp [zae]
  | cons t l ih =>
   rw [ap u (t::l),ih t];simp
 have hb:zba (zaR (v::xs))=tx (zae (v::xs)):=zu6 ⟨_,key v xs⟩;have hs:zcw (zaR (v::xs))=some (tx (zae (v::xs))):=by
  unfold zcw;rw [hb];exact if_pos rfl
 unfold zaQ;rw [hs];show zbg (bY (cA (tx (zae (v::xs))) none (some (-1))) (c1 32))=_;rw [zmn (by rw [zbJ,key,aG];exact aR (by decide) (Nat.le_add_left _ _)),zbJ,key,List.dropLast_concat,zkZ _ (by decide),zbJ,zhO]
 .congr 1;rw [bQ,bU,bQ,zee];congr 1
 .intro u hu;rcases au.mp hu with rfl|hu
  .exact hn v (bf ..)
  .obtain ⟨t,ht,rfl⟩:=gs.mp hu;exact hn t (aF _ ht)
theorem zbv.read(h:zbv xs):zaQ (zaR xs)=some xs:=by
 have bno:∀b:Bool,32∉sg (zav (.bl b)):=λb=>by cases b<;>decide
 cases h with
 | put n g b nm pl wd h1 h2 h3 h4 h5 =>
  rw [zdR (by
   simp only [au,aM,or_false];rintro u (rfl|rfl|rfl|rfl|rfl|rfl|rfl)
   .decide +kernel
   .exact zb2 h1
   .exact zb2 h2
   .exact bno b
   .exact zeU h4
   .exact zb2 h3
   .exact zmD h5)]
  have ek:zbH "put"=some (["number","number","end","name","number","word"]:List Str):=by decide +kernel
  show zbg [("put":Str),(toString n:Str),(toString g:Str),zav (.bl b),nm,(toString pl:Str),wd]=_;rw [zb4,ek];simp only [gW,cq,dJ,if_true,zai,zca h1,zca h2,zoK,zfl h4,zca h3,zkL h5,iX]
 | cut n nm pl h1 h2 h3 =>
  rw [zdR (by
   simp only [au,aM,or_false];rintro u (rfl|rfl|rfl|rfl)
   .decide +kernel
   .exact zb2 h1
   .exact zeU h3
   .exact zb2 h2)]
  have ek:zbH "cut"=some (["number","name","number"]:List Str):=by decide +kernel
  show zbg [("cut":Str),(toString n:Str),nm,(toString pl:Str)]=_;rw [zb4,ek];simp only [gW,cq,dJ,if_true,zai,zca h1,zfl h3,zca h2,iX]
 | hold n nm h1 h2 =>
  rw [zdR (by
   simp only [au,aM,or_false];rintro u (rfl|rfl|rfl)
   .decide +kernel
   .exact zb2 h1
   .exact zeU h2)]
  have ek:zbH "hold"=some (["number","name"]:List Str):=by decide +kernel
  show zbg [("hold":Str),(toString n:Str),nm]=_;rw [zb4,ek];simp only [gW,cq,dJ,if_true,zai,zca h1,zfl h2,iX]
 | free n nm h1 h2 =>
  rw [zdR (by
   simp only [au,aM,or_false];rintro u (rfl|rfl|rfl)
   .decide +kernel
   .exact zb2 h1
   .exact zeU h2)]
  have ek:zbH "free"=some (["number","name"]:List Str):=by decide +kernel
  show zbg [("free":Str),(toString n:Str),nm]=_;rw [zb4,ek];simp only [gW,cq,dJ,if_true,zai,zca h1,zfl h2,iX]
 | carry n g wd h1 h2 h3 =>
  rw [zdR (by
   simp only [au,aM,or_false];rintro u (rfl|rfl|rfl|rfl)
   .decide +kernel
   .exact zb2 h1
   .exact zb2 h2
   .exact zmD h3)]
  have ek:zbH "carry"=some (["number","number","word"]:List Str):=by decide +kernel
  show zbg [("carry":Str),(toString n:Str),(toString g:Str),wd]=_;rw [zb4,ek];simp only [gW,cq,dJ,if_true,zai,zca h1,zca h2,zkL h3,iX]
theorem zbv.parts(h:zbv xs):xs.length<=10/\xs.all zL=true/\(∀v∈xs,∀b,v≠.byt b)/\∀v∈xs,zbm v:=by
 have kp:∀z:Str,asc z=true->z.length<=100->zbm (.str z):=λz a b=>.str z a b;cases h with
 | put n g b nm pl wd h1 h2 h3 h4 h5 =>
  refine ⟨by simp,rfl,by simp,?_⟩;simp only [au,aM,or_false];rintro u (rfl|rfl|rfl|rfl|rfl|rfl|rfl)
  .exact kp _ (by rw [za2];decide +kernel) (by decide)
  .exact zb0 h1
  .exact zb0 h2
  .exact .bl b
  .exact zfd h4
  .exact zb0 h3
  .exact ziF h5
 | cut n nm pl h1 h2 h3 =>
  refine ⟨by simp,rfl,by simp,?_⟩;simp only [au,aM,or_false];rintro u (rfl|rfl|rfl|rfl)
  .exact kp _ (by rw [za2];decide +kernel) (by decide)
  .exact zb0 h1
  .exact zfd h3
  .exact zb0 h2
 | hold n nm h1 h2 =>
  refine ⟨by simp,rfl,by simp,?_⟩;simp only [au,aM,or_false];rintro u (rfl|rfl|rfl)
  .exact kp _ (by rw [za2];decide +kernel) (by decide)
  .exact zb0 h1
  .exact zfd h2
 | free n nm h1 h2 =>
  refine ⟨by simp,rfl,by simp,?_⟩;simp only [au,aM,or_false];rintro u (rfl|rfl|rfl)
  .exact kp _ (by rw [za2];decide +kernel) (by decide)
  .exact zb0 h1
  .exact zfd h2
 | carry n g wd h1 h2 h3 =>
  refine ⟨by simp,rfl,by simp,?_⟩;simp only [au,aM,or_false];rintro u (rfl|rfl|rfl|rfl)
  .exact kp _ (by rw [za2];decide +kernel) (by decide)
  .exact zb0 h1
  .exact zb0 h2
  .exact ziF h3
abbrev Tx:=Option Str
variable{rows:List (List Tx)}
def tv:Tx->V|none=>.non|some z=>.str z
def lv:Option Int->V|none=>.non|some i=>.int i
structure DM where
 rows:List (List Tx)
 sides:List Tx
 cnt:Int
 left:Option Int
 st:Bool
variable{d d':DM}
def dn(left:Option Int)(many:Int):Int:=match left with|none=>many|some l=>if l<many then l else many
def DM.spend(d:DM)(many:Int):DM:={ d with cnt:=d.cnt+dn d.left many,left:=d.left.map (· - dn d.left many),st:=decide (dn d.left many<many) }
inductive Res where|val (v:V)|full|stop
def zfB(t:Str)(n:Int):Tx:=some (Txt.slice t none (some n))
def DM.write(m:Int)(d:DM)(k:Nat)(t:Str):Res×DM :=
 if d.st=true then (.stop,d) else if ((d.rows.getD k []).length:Int)=m then (.full,d) else
 if dn d.left t.length=0/\(d.spend t.length).st=true then (.stop,d.spend t.length) else
 ((if (d.spend t.length).st=true then .stop else .val (.int (d.rows.getD k []).length)),{ d.spend t.length with rows:=d.rows.set k (d.rows.getD k []++[zfB t (dn d.left t.length)]) })
def DM.empty(d:DM)(k:Nat):Res×DM :=
 if d.st=true then (.stop,d) else
 if (d.spend (d.rows.getD k []).length).st=true then (.stop,{ d.spend (d.rows.getD k []).length with rows:=d.rows.set k (bi (dn d.left (d.rows.getD k []).length).toNat none++(d.rows.getD k []).drop (dn d.left (d.rows.getD k []).length).toNat) }) else
 (.val .non,{ d.spend (d.rows.getD k []).length with rows:=d.rows.set k [] })
structure Rows(H:Hp)(wl:Addr)(cells:List Addr)(rows:List (List Tx)):Prop where
 w:H wl=some (.lst (cells.map V.ref))
 len:cells.length=rows.length
 at_:∀i c,cells[i]?=some c->H c=some (.lst ((rows.getD i []).map tv))
def zA(m:Int)(wl sl:Addr)(d:DM):List (Str×V):=[("width",.int m),("written",.ref wl),("at_sides",.ref sl),("counted",.int d.cnt),("left",lv d.left),("has_stopped",.bl d.st)]
structure zB(A:zj)(H:Hp)(p wl sl:Addr)(cells:List Addr)(m:Int)(d:DM):Prop where
 ob:∃dx,H p=some (.ins A.Disk dx (zA m wl sl d))
 rows:Rows H wl cells d.rows
 sides:H sl=some (.lst (d.sides.map tv))
 nd:(p::wl::sl::cells).Nodup
def zt(F:List Addr)(H H':Hp):Prop:=∀b o,H b=some o->b∉F->H' b=some o
theorem zt.refl:zt F H H:=λ_ _ h _=>h
theorem zt.trans{H1 H2:Hp}(a:zt F H H1)(b:zt F H1 H2):zt F H H2:=λc o h hc=>b c o (a c o h hc) hc
theorem zt.mono{G:List Addr}(a:zt F H H')(s:∀x∈F,x∈G):zt G H H':=λc o h hc=>a c o h λz=>hc (s c z)
theorem zt.same(a:ze H H'):zt F H H':=λc o h _=>a c o h
theorem zt.upd{o:HO}(hx:x∈F):zt F H (L2.upd H x o):=λc u h hc=>by
 have hne:c≠x:=λz=>hc (by rw [z];exact hx);rw [zd hne];exact h
theorem Rows.keep(r:Rows H wl cells rows)(k:∀b o,H b=some o->b=wl\/b∈cells->H' b=some o):Rows H' wl cells rows :=
 ⟨k _ _ r.w (.inl rfl),r.len,λi c hc=>k _ _ (r.at_ i c hc) (.inr (aE hc))⟩
theorem zB.keep{p:Addr}(D:zB A H p wl sl cells m d)(k:zt F H H')(hF:∀x∈p::wl::sl::cells,x∉F):zB A H' p wl sl cells m d:=by
 obtain ⟨dx,h⟩:=D.ob;refine ⟨⟨dx,k _ _ h (hF _ (by simp))⟩,D.rows.keep λb o e hb=>k b o e (hF b ?_),k _ _ D.sides (hF _ (by simp)),D.nd⟩;rcases hb with rfl|hb
 .simp
 .simp [hb]
theorem zov{l:List Addr}(nd:l.Nodup){i:Nat}(h1:l[i]?=some a)(h2:l[j]?=some a):i=j:=by
 obtain ⟨hi,e1⟩:=ak.mp h1;obtain ⟨hj,e2⟩:=ak.mp h2;exact (List.getElem_inj nd).mp (e1.trans e2.symm)
theorem Rows.set{k:Nat}{r:List Tx}(R:Rows H wl cells rows)(nd:(wl::cells).Nodup)(hc:cells[k]?=some c):Rows (upd H c (.lst (r.map tv))) wl cells (rows.set k r):=by
 have hn:=cg.mp nd;have hk:k<rows.length:=by rw [<- R.len];exact (ak.mp hc).1
 have hwc:wl≠c:=λz=>hn.1 (by rw [z];exact aE hc);refine ⟨by rw [zd hwc];exact R.w,by rw [cu];exact R.len,λi b hb=>?_⟩;by_cases hi:i=k
 .subst hi;rw [hc] at hb;cases hb;rw [zu];simp [av,hk]
 .have hbc:b≠c:=λz=>by
   subst z;exact hi (zov hn.2 hb hc)
  rw [zd hbc,R.at_ i b hb];simp [av,eM (aU hi)]
abbrev zgA:Stmt:=zap (top 50) 1
abbrev zfJ:Stmt:=zap (top 50) 2
abbrev zhq:Stmt:=zap (top 50) 3
abbrev zfL:Stmt:=zap (top 50) 4
abbrev zfY:Stmt:=zap (top 50) 6
abbrev zfp:Stmt:=zap (top 50) 12
abbrev zgd:Stmt:=zap (top 50) 13
abbrev zff:Stmt:=zap (top 50) 14
section
variable {P:aI}{w:aZ}{K:Frag}{mg:Str->Option Value}{base:Heap}{A:zj}
section
variable {m:Int}{wl sl:Addr}{d:DM}
theorem zhh:(zA m wl sl d).lookup ("width":Str)=some (.int m):=by kernel_rfl
theorem zdv:(zA m wl sl d).lookup ("written":Str)=some (.ref wl):=by kernel_rfl
theorem zs8:(zA m wl sl d).lookup ("at_sides":Str)=some (.ref sl):=by kernel_rfl
theorem zew:(zA m wl sl d).lookup ("counted":Str)=some (.int d.cnt):=by kernel_rfl
theorem zj0:(zA m wl sl d).lookup ("left":Str)=some (lv d.left):=by kernel_rfl
theorem zl0:(zA m wl sl d).lookup ("has_stopped":Str)=some (.bl d.st):=by kernel_rfl
theorem zhJ:(zA m wl sl d).lookup ("stretches":Str)=none:=by kernel_rfl
theorem zhY:(zA m wl sl d).lookup ("places":Str)=none:=by kernel_rfl
theorem zet:(zA m wl sl d).lookup ("next_place":Str)=none:=by kernel_rfl
theorem zql:(zA m wl sl d).lookup ("told":Str)=none:=by kernel_rfl
theorem zkE:(zA m wl sl d).lookup ("signs":Str)=none:=by kernel_rfl
theorem zlJ:(zA m wl sl d).lookup ("write":Str)=none:=by kernel_rfl
theorem zl3:(zA m wl sl d).lookup ("empty":Str)=none:=by kernel_rfl
theorem zsQ:(zA m wl sl d).lookup ("stop":Str)=none:=by kernel_rfl
theorem zlp:(zA m wl sl d).lookup ("copied":Str)=none:=by kernel_rfl
theorem zdj:(zA m wl sl d).lookup ("refuse_if_stopped":Str)=none:=by kernel_rfl
theorem zjl:(zA m wl sl d).lookup ("spend":Str)=none:=by kernel_rfl
theorem zuj:(zA m wl sl d).lookup ("first_signs":Str)=none:=by kernel_rfl
theorem zum{x:Option Int}:zH "left" (lv x) (zA m wl sl d)=zA m wl sl { d with left:=x }:=by kernel_rfl
theorem zgW{x:Int}:zH "left" (.int x) (zA m wl sl d)=zA m wl sl { d with left:=some x }:=zum (x:=some x)
theorem zhG{x:Int}:zH "counted" (.int x) (zA m wl sl d)=zA m wl sl { d with cnt:=x }:=by kernel_rfl
theorem zjs{x:Bool}:zH "has_stopped" (.bl x) (zA m wl sl d)=zA m wl sl { d with st:=x }:=by kernel_rfl
theorem zdO:(zA m wl sl d).length<1000:=by show 6<1000;decide
end
def zcb(A:zj)(r:Int->DM->V):Sp:=λvs H Q _=>∃(p wl sl:Addr)(cells:List Addr)(m:Int)(d:DM),vs=[.ref p]/\zB A H p wl sl cells m d/\Q (r m d) H
def zey(A:zj):Sp:=λvs H Q _=>∃(p wl sl:Addr)(cells:List Addr)(m:Int)(d:DM)(k:Nat),vs=[.ref p,.int k]/\zB A H p wl sl cells m d/\k<d.rows.length/\Q (.int (d.rows.getD k []).length) H
def zez(d:DM)(k j:Nat):V:=tv ((d.rows.getD k []).getD j none)
def zjo(A:zj):Sp:=λvs H Q _=>∃(p wl sl:Addr)(cells:List Addr)(m:Int)(d:DM)(k j:Nat),vs=[.ref p,.int k,.int j]/\zB A H p wl sl cells m d/\k<d.rows.length/\Q (zez d k j) H
def zex(A:zj):Sp:=λvs H Q E=>∃(p wl sl:Addr)(cells:List Addr)(m:Int)(d:DM),vs=[.ref p]/\zB A H p wl sl cells m d/\(d.st=true->E (.ref A.Stopped) none H)/\(d.st=false->Q .non H)
def zhT(A:zj):Sp:=λvs H Q _=>∃(p wl sl:Addr)(cells:List Addr)(m:Int)(d:DM)(n:Int),vs=[.ref p,.int n]/\zB A H p wl sl cells m d/\∀H',zB A H' p wl sl cells m (d.spend n)->zt [p] H H'->Q (.int (dn d.left n)) H'
def zmS(A:zj):Sp:=λvs H Q E=>∃(p wl sl:Addr)(cells:List Addr)(m:Int)(d:DM)(t:Str),vs=[.ref p,.str t]/\zB A H p wl sl cells m d/\t.length<=1000 /\
 ∀H',zB A H' p wl sl cells m (d.spend t.length)->zt [p] H H'->((dn d.left t.length=0/\(d.spend t.length).st=true->E (.ref A.Stopped) none H')/\(¬ (dn d.left t.length=0/\(d.spend t.length).st=true)->Q (.str (Txt.slice t none (some (dn d.left t.length)))) H'))
theorem Rows.cell(R:Rows H wl cells rows){k:Nat}(hk:k<rows.length):∃c,cells[k]?=some c/\atI (cells.map V.ref) (k:Int)=some (.ref c)/\H c=some (.lst ((rows.getD k []).map tv)):=by
 have hk':k<cells.length:=by rw [R.len];exact hk
 refine ⟨cells[k],ah hk',za8 (by rw [bh,ah hk'];rfl),R.at_ k _ (ah hk')⟩
theorem zB.obj{p dx:Addr}(D:zB A H p wl sl cells m d)(h1:d'.rows=d.rows)(h2:d'.sides=d.sides):zB A (upd H p (.ins A.Disk dx (zA m wl sl d'))) p wl sl cells m d':=by
 have hn:=cg.mp D.nd;have ne:∀b∈wl::sl::cells,b≠p:=λb hb z=>hn.1 (by rw [<- z];exact hb);refine ⟨⟨dx,zu⟩,?_,?_,D.nd⟩
 .rw [h1];refine D.rows.keep λb o e hb=>?_;rw [zd (ne b (by rcases hb with rfl|hb<;>simp_all))];exact e
 .rw [h2,zd (ne sl (by simp))];exact D.sides
theorem zod:zr ["self"] ["self"] (zn zgA):=fsc
theorem ztL(F:Fun K "stretches" "Disk.stretches" zgA f fd)(T:Txt w K mg A):zo P w K mg base CX0 cm 1 f fd ["self"] (zcb A λ_ d=>.int d.rows.length):=by
 refine F.ok zod (λvs H Q E h=>?_) (λcdv Ar outer s H vs Q E hr h=>?_)
 .obtain ⟨p,wl,sl,cells,m,d,rfl,_⟩:=h;rfl
 .obtain ⟨p,wl,sl,cells,m,d,rfl,D,q⟩:=h;obtain ⟨dx,h1⟩:=D.ob;refine ⟨_,(W.h (zh (zw (zI zak rfl T.n_len aX (zb (fD (zac T.cl_Disk T.na_Disk_written (clE (za 0)))) zc))))),?_⟩;simp_all only [h1,D.rows.w,zdv,am,D.rows.len];exact q
theorem zuY:zr ["self"] ["self"] (zn zfJ):=fsc
theorem ztU(F:Fun K "places" "Disk.places" zfJ f fd)(T:Txt w K mg A):zo P w K mg base CX0 cm 1 f fd ["self"] (zcb A λm _=>.int m):=by
 refine F.ok zuY (λvs H Q E h=>?_) (λcdv Ar outer s H vs Q E hr h=>?_)
 .obtain ⟨p,wl,sl,cells,m,d,rfl,_⟩:=h;rfl
 .obtain ⟨p,wl,sl,cells,m,d,rfl,D,q⟩:=h;obtain ⟨dx,h1⟩:=D.ob;refine ⟨_,(W.h (zh (zw (fD (zac T.cl_Disk T.na_Disk_width (clE (za 0))))))),?_⟩;simp_all only [h1,zhh];exact q
theorem zrI:zr ["self"] ["self"] (zn zfY):=fsc
theorem zsh(F:Fun K "signs" "Disk.signs" zfY f fd)(T:Txt w K mg A):zo P w K mg base CX0 cm 1 f fd ["self"] (zcb A λ_ d=>.int d.cnt):=by
 refine F.ok zrI (λvs H Q E h=>?_) (λcdv Ar outer s H vs Q E hr h=>?_)
 .obtain ⟨p,wl,sl,cells,m,d,rfl,_⟩:=h;rfl
 .obtain ⟨p,wl,sl,cells,m,d,rfl,D,q⟩:=h;obtain ⟨dx,h1⟩:=D.ob;refine ⟨_,(W.h (zh (zw (fD (zac T.cl_Disk T.na_Disk_counted (clE (za 0))))))),?_⟩;simp_all only [h1,zew];exact q
theorem ztM:zr ["self","stretch"] ["self","stretch"] (zn zhq):=fsc
theorem zvy(F:Fun K "next_place" "Disk.next_place" zhq f fd)(T:Txt w K mg A):zo P w K mg base CX0 cm 1 f fd ["self","stretch"] (zey A):=by
 refine F.ok ztM (λvs H Q E h=>?_) (λcdv Ar outer s H vs Q E hr h=>?_)
 .obtain ⟨p,wl,sl,cells,m,d,k,rfl,_⟩:=h;rfl
 .obtain ⟨p,wl,sl,cells,m,d,k,rfl,D,hk,q⟩:=h;obtain ⟨dx,h1⟩:=D.ob;obtain ⟨c,hc,ha,hH⟩:=D.rows.cell hk;refine ⟨_,(W.h (zh (zw (zI zak rfl T.n_len aX (zb (zV zZ (fD (zac T.cl_Disk T.na_Disk_written (clE (za 0)))) (za 1) (λ_ _=>rfl)) zc))))),?_⟩;simp_all only [h1,D.rows.w,zdv,ha,hH,am];exact q
theorem zmh:zr ["self","stretch","place","texts"] ["self","stretch","place"] (zn zfL):=fsc
theorem zsL(F:Fun K "told" "Disk.told" zfL f fd)(T:Txt w K mg A):zo P w K mg base CX0 cm 1 f fd ["self","stretch","place"] (zjo A):=by
 refine F.ok zmh (λvs H Q E h=>?_) (λcdv Ar outer s H vs Q E hr h=>?_)
 .obtain ⟨p,wl,sl,cells,m,d,k,j,rfl,_⟩:=h;rfl
 .obtain ⟨p,wl,sl,cells,m,d,k,j,rfl,D,hk,q⟩:=h;obtain ⟨dx,h1⟩:=D.ob;obtain ⟨c,hc,ha,hH⟩:=D.rows.cell hk;refine ⟨_,(W.h (zg (zx (i:=3) zmh.nd rfl (aK rfl) (zV zZ (fD (zac T.cl_Disk T.na_Disk_written (clE (za 0)))) (za 1) (λ_ _=>rfl)))
   (zh (zw (zfw (tD (zF (clO (oI0 zd0)) (clE (za 2)) (clE (zI zak rfl T.n_len aX (zb (za 3) zc))) (zD _))) (zV zZ (za 3) (za 2) (λ_ _=>rfl)) zaJ))))),?_⟩
  simp_all only [h1,D.rows.w,zdv,ha,hH,am];refine zO (λh=>?_) (λh=>?_)
  .have hj:j<(d.rows.getD k []).length:=by have:=of_decide_eq_true h;lia
   refine ⟨_,za8 (by rw [bh,ah hj];rfl),?_⟩;unfold zez at q;rw [av,ah hj] at q;exact q
  .have hj : ¬ j<(d.rows.getD k []).length:=λz=>h (decide_eq_true (by lia));unfold zez at q;rw [av,dY (by lia)] at q;exact q
theorem zu2:zr ["self"] ["self"] (zn zfp):=fsc
theorem zsl(F:Fun K "refuse_if_stopped" "Disk.refuse_if_stopped" zfp f fd)(T:Txt w K mg A):zo P w K mg base (CXW P w) true 1 f fd ["self"] (zex A):=by
 refine F.okW zu2 (λvs H Q E h=>?_) (λcdv Ar outer s H vs Q E hr h=>?_)
 .obtain ⟨p,wl,sl,cells,m,d,rfl,_⟩:=h;rfl
 .obtain ⟨p,wl,sl,cells,m,d,rfl,D,q1,q2⟩:=h;obtain ⟨dx,h1⟩:=D.ob;have Th:=zcL (cm:=true) (P:=P) (w:=w) (K:=K) (mg:=mg) (base:=base) (N:=["self"]) (qual:="Disk.refuse_if_stopped") (scope:=zn zfp) (f:=f) (cd:=cdv) (A:=Ar) (outer:=outer) (s:=s) (H:=H) (E:=E);refine ⟨_,(W.h (zh (zN (za0 (fD (zac T.cl_Disk T.na_Disk_has_stopped (clE (za 0)))))
   (zh (zea rfl Th T.ek_Stopped rfl T.mg_Stopped (zb zM zc)))
   zQ))),?_⟩
  simp_all only [h1,zl0];refine zO (λh=>⟨by decide,q1 h⟩) (λh=>q2 (eJ.mpr h))
theorem zhy:zr ["self","many","done"] ["self","many"] (zn zgd):=fsc
theorem zp9(F:Fun K "spend" "Disk.spend" zgd f fd)(T:Txt w K mg A):zo P w K mg base CX0 true 1 f fd ["self","many"] (zhT A):=by
 refine F.ok zhy (λvs H Q E h=>?_) (λcdv Ar outer s H vs Q E hr h=>?_)
 .obtain ⟨p,wl,sl,cells,m,d,n,rfl,_⟩:=h;rfl
 .obtain ⟨p,wl,sl,cells,m,d,n,rfl,D,q⟩:=h;obtain ⟨dx,h1⟩:=D.ob;refine ⟨_,(W.h (zg (zx (i:=2) zhy.nd rfl (aK rfl) (za 1))
   (zg (zN (tD (zF (clO zhr) (clE (fD (zac T.cl_Disk T.na_Disk_left (clE (za 0))))) (clE zaJ) (zD _)))
   (zg (zx (i:=2) zhy.nd rfl (aK rfl) (zI (zrb rfl) rfl T.n_min boot_min (zb (za 1) (zb (fD (zac T.cl_Disk T.na_Disk_left (clE (za 0)))) zc))))
   (zh (zkD T.cl_Disk T.na_Disk_left (za 0) (za 2) zvs)))
   zQ)
   (zg (zkD T.cl_Disk T.na_Disk_counted (za 0) (za 2) zte)
   (zg (sfD (zaI T.cl_Disk T.na_Disk_has_stopped (clE (za 0)) (clE (zch (oI0 zd0) (za 2) (za 1) (zD _)))))
   (zh (zw (za 2)))))))),?_⟩
  cases hl:d.left with
  | none =>
   simp_all only [h1,zj0,hl,lv,zu,zew,zhG,zjs,zgW,zdO,zb1];have e:d.spend n={ d with cnt:=d.cnt+n,left:=none,st:=decide (n<n) }:=by unfold DM.spend;rw [hl];rfl
   have e2:dn d.left n=n:=by rw [hl];rfl
   rw [e,e2] at q;exact q _ (D.obj rfl rfl) (zt.upd (by simp))
  | some l =>
   simp_all only [h1,zj0,hl,lv,zu,zew,zhG,zjs,zgW,zdO,zb1];have e2:dn d.left n=if l<n then l else n:=by rw [hl];rfl
   have e:d.spend n={ d with cnt:=d.cnt+(if l<n then l else n),left:=some (l-if l<n then l else n),st:=decide ((if l<n then l else n)<n) }:=by unfold DM.spend;rw [e2,hl];rfl
   rw [e,e2] at q;exact q _ (D.obj rfl rfl) (zt.upd (by simp))
theorem zl9:zr ["self","text","done"] ["self","text"] (zn zff):=fsc
theorem zpu(F:Fun K "first_signs" "Disk.first_signs" zff f fd)(T:Txt w K mg A)(M_Disk_spend:GM P w K mg base true 1 A.Disk "spend" ["self","many"] (zhT A))(M_Disk_refuse_if_stopped:GMX P w K mg base true 1 A.Disk "refuse_if_stopped" ["self"] (zex A)):zo P w K mg base (CXW P w) true 2 f fd ["self","text"] (zmS A):=by
 refine F.okW zl9 (λvs H Q E h=>?_) (λcdv Ar outer s H vs Q E hr h=>?_)
 .obtain ⟨p,wl,sl,cells,m,d,t,rfl,_⟩:=h;rfl
 .obtain ⟨p,wl,sl,cells,m,d,t,rfl,D,ht,q⟩:=h;obtain ⟨dx,h1⟩:=D.ob;have hu:_<cLine:=bz (zab hr);have Th:=zcL (cm:=true) (P:=P) (w:=w) (K:=K) (mg:=mg) (base:=base) (N:=["self","text","done"]) (qual:="Disk.first_signs") (scope:=zn zff) (f:=f) (cd:=cdv) (A:=Ar) (outer:=outer) (s:=s) (H:=H) (E:=E);refine ⟨_,(W.h (zg (zx (i:=2) zl9.nd rfl (aK rfl) (mD (za4 (clE (za 0)) T.cl_Disk M_Disk_spend hr (clP (zb (zI zak rfl T.n_len aX (zb (za 1) zc)) zc)))))
   (zg (zN (tD (zF (clO (oE (zaK hu))) (clE (za 2)) (clE zi) (zD _)))
   (zh (zal (zd9 (zdJ (clE (za 0)) T.cl_Disk Th M_Disk_refuse_if_stopped hr))))
   zQ)
   (zh (zw (zbQ zcg (za 1) zbO (zbP (za 2)))))))),?_⟩
  have ht':t.length<=sizeLine:=aW ht (by decide);simp_all only [h1,zjl,ht'];refine ⟨p,wl,sl,cells,m,d,_,rfl,D,λH1 D1 k1=>?_⟩;obtain ⟨q1,q2⟩:=q H1 D1 k1;obtain ⟨dx1,g1⟩:=D1.ob;simp_all only [g1,zdj,ht'];refine zO (λh=>?_) (λh=>?_)
  .have h0:=of_decide_eq_true h;refine ⟨p,wl,sl,cells,m,_,rfl,D1,λhs=>?_,λhs=>?_⟩
   .exact ⟨_,rfl,q1 ⟨h0,hs⟩⟩
   .simp_all only [ht'];exact q2 λz=>by rw [z.2] at hs;cases hs
  .exact q2 λz=>h (decide_eq_true z.1)
end
abbrev zfe:Stmt:=zap (top 50) 7
abbrev zes:Stmt:=zap (top 50) 9
section
variable {P:aI}{w:aZ}{K:Frag}{mg:Str->Option Value}{base:Heap}{A:zj}
theorem zB.setRow{p:Addr}{k:Nat}{r:List Tx}(D:zB A H p wl sl cells m d)(hc:cells[k]?=some c):zB A (upd H c (.lst (r.map tv))) p wl sl cells m { d with rows:=d.rows.set k r }:=by
 have hm:=aE hc;have nd:=D.nd;simp only [cg,au,not_or] at nd;obtain ⟨⟨n1,n2,n3⟩,⟨n4,n5⟩,n6,n7⟩:=nd;obtain ⟨dx,h⟩:=D.ob;have e1:p≠c:=λz=>n3 (by rw [z];exact hm);have e2:sl≠c:=λz=>n6 (by rw [z];exact hm);exact ⟨⟨dx,by rw [zd e1];exact h⟩,D.rows.set (cg.mpr ⟨n5,n7⟩) hc,by rw [zd e2];exact D.sides,D.nd⟩
def Out(A:zj)(r:Res)(Q:VK)(E:XK)(H:Hp):Prop:=match r with | .val v=>Q v H | .full=>E (.ref A.Full) none H | .stop=>E (.ref A.Stopped) none H
def zgL(d:DM):Prop:=∀k,(d.rows.getD k []).length<=1000
def zlY(A:zj):Sp:=λvs H Q E=>∃(p wl sl:Addr)(cells:List Addr)(m:Int)(d:DM)(k:Nat)(t:Str),vs=[.ref p,.int k,.str t]/\zB A H p wl sl cells m d/\k<d.rows.length/\t.length<=1000/\zgL d /\
 ∀H',zB A H' p wl sl cells m (d.write m k t).2->zt (p::wl::sl::cells) H H'->Out A (d.write m k t).1 Q E H'
def zg1(A:zj):Sp:=λvs H Q E=>∃(p wl sl:Addr)(cells:List Addr)(m:Int)(d:DM)(k:Nat),vs=[.ref p,.int k]/\zB A H p wl sl cells m d/\k<d.rows.length/\zgL d/\(∀l,d.left=some l->0<=l) /\
 ∀H',zB A H' p wl sl cells m (d.empty k).2->zt (p::wl::sl::cells) H H'->Out A (d.empty k).1 Q E H'
theorem ziX{n:Int}:(d.spend n).rows=d.rows:=rfl
theorem zo0{r:List Tx}{t:Str}{n:Int}:r.map tv++[V.str (Txt.slice t none (some n))]=(r++[zfB t n]).map tv:=by rw [cr];rfl
theorem zhK:zr ["self","stretch","text","texts","place"] ["self","stretch","text"] (zn zfe):=fsc
theorem zqm(F:Fun K "write" "Disk.write" zfe f fd)(T:Txt w K mg A)(M_Disk_first_signs:GMX P w K mg base true 2 A.Disk "first_signs" ["self","text"] (zmS A))(M_Disk_refuse_if_stopped:GMX P w K mg base true 1 A.Disk "refuse_if_stopped" ["self"] (zex A)):zo P w K mg base (CXW P w) true 3 f fd ["self","stretch","text"] (zlY A):=by
 refine F.okW zhK (λvs H Q E h=>?_) (λcdv Ar outer s H vs Q E hr h=>?_)
 .obtain ⟨p,wl,sl,cells,m,d,k,t,rfl,_⟩:=h;rfl
 .obtain ⟨p,wl,sl,cells,m,d,k,t,rfl,D,hk,ht,hsm,q⟩:=h;obtain ⟨dx,h1⟩:=D.ob;have hu:_<cLine:=bz (zab hr);obtain ⟨c,hc,ha,hH⟩:=D.rows.cell hk;have Th:=zcL (cm:=true) (P:=P) (w:=w) (K:=K) (mg:=mg) (base:=base) (N:=["self","stretch","text","texts","place"]) (qual:="Disk.write") (scope:=zn zfe) (f:=f) (cd:=cdv) (A:=Ar) (outer:=outer) (s:=s) (H:=H) (E:=E);refine ⟨_,(W.h (zg (zal (zd9 (zdJ (clE (za 0)) T.cl_Disk Th M_Disk_refuse_if_stopped hr)))
   (zg (zx (i:=3) zhK.nd rfl (aK rfl) (zV zZ (fD (zac T.cl_Disk T.na_Disk_written (clE (za 0)))) (za 1) (λ_ _=>rfl)))
   (zg (zx (i:=4) zhK.nd rfl (aK rfl) (zI zak rfl T.n_len aX (zb (za 3) zc)))
   (zg (zN (tD (zF (clO (oE (zaK hu))) (clE (za 4)) (clE (fD (zac T.cl_Disk T.na_Disk_width (clE (za 0))))) (zD _)))
   (zh (zea rfl Th T.ek_Full rfl T.mg_Full (zb zM zc)))
   zQ)
   (zg (zal (zc1 (za 3) (mXD (zdL (clE (za 0)) T.cl_Disk Th M_Disk_first_signs hr (clP (zb (za 2) zc))))))
   (zg (zal (zd9 (zdJ (clE (za 0)) T.cl_Disk Th M_Disk_refuse_if_stopped hr)))
   (zh (zw (za 4)))))))))),?_⟩
  simp_all only [h1,zdj];unfold DM.write at q;refine ⟨p,wl,sl,cells,m,d,rfl,D,λhs=>?_,λhs=>?_⟩
  .rw [if_pos hs] at q;exact ⟨_,rfl,q H D zt.refl⟩
  rw [if_neg (by rw [hs];exact aw)] at q;simp_all only [h1,D.rows.w,zdv,zhh,ha,hH,am];refine zO (λh=>?_) (λh=>?_)
  .rw [if_pos (of_decide_eq_true h)] at q;exact ⟨by decide,q H D zt.refl⟩
  rw [if_neg (λz=>h (decide_eq_true z))] at q;simp_all only [h1,hH,zuj];refine ⟨p,wl,sl,cells,m,d,t,rfl,D,ht,λH1 D1 k1=>⟨λhz=>?_,λhz=>?_⟩⟩
  .rw [if_pos hz] at q;exact ⟨_,rfl,q H1 D1 (k1.mono (by simp))⟩
  rw [if_neg hz] at q;obtain ⟨dx1,g1⟩:=D1.ob;have gc:=D1.rows.at_ k c hc;rw [ziX] at gc;have D2:=D1.setRow (r:=d.rows.getD k []++[zfB t (dn d.left t.length)]) hc;obtain ⟨dx2,g2⟩:=D2.ob;simp_all only [gc,zo0,g2,zdj];refine ⟨by rw [am];exact zd2 (hsm k),p,wl,sl,cells,m,_,rfl,D2,λhs2=>⟨_,rfl,?_⟩,λhs2=>?_⟩
  .have hs2':(d.spend t.length).st=true:=hs2;have q2:=q _ D2 ((k1.mono (by simp)).trans (zt.upd (by simp [aE hc])));rw [if_pos hs2'] at q2;exact q2
  .have hs2':(d.spend t.length).st=false:=hs2;simp_all only [];have q2:=q _ D2 ((k1.mono (by simp)).trans (zt.upd (by simp [aE hc])));rw [if_neg (by rw [hs2'];exact aw)] at q2;exact q2
end
abbrev zhD:Stmt:=top 17
abbrev zhR:Stmt:=top 18
abbrev zeo:Stmt:=zap (top 50) 0
abbrev zfr:Stmt:=zap (top 50) 11
inductive Thg(H:Hp):V->Prop
 | non:Thg H .non
 | bl (b:Bool):Thg H (.bl b)
 | int (i:Int):Thg H (.int i)
 | str (x:Str):Thg H (.str x)
 | lst {a:Addr}{xs:List V}:H a=some (.lst xs)->Thg H (.ref a)
 | tup {a:Addr}{xs:List V}:H a=some (.tup xs)->Thg H (.ref a)
 | dic {a:Addr}{kvs:List (Key×V)}:H a=some (.dK kvs)->Thg H (.ref a)
def zfE:V->Bool | .int _=>true|_=>false
def zdk(v:V)(a b:Int):Bool:=match v with | .int i=>decide (a<=i)&&decide (i<=b)|_=>false
def zjO:Sp:=λvs H Q _=>∃v,vs=[v]/\Thg H v/\Q (.bl (zfE v)) H
def zfk:Sp:=λvs H Q _=>∃v a b,vs=[v,.int a,.int b]/\Thg H v/\Q (.bl (zdk v a b)) H
section
variable {P:aI}{w:aZ}{K:Frag}{mg:Str->Option Value}{base:Heap}{A:zj}
theorem zjI(t:Thg H v)(q:Q (.bl (match v with | .int _=>true | .bl _=>true|_=>false)) H):zeJ X.K [v,.ty "int"] H Q:=by
 cases t with
 | non=>exact ⟨_,_,_,_,_,rfl,rfl,.of .non,rfl,q⟩
 | bl b=>exact ⟨_,_,_,_,_,rfl,rfl,.of (.bl b),rfl,q⟩
 | int i=>exact ⟨_,_,_,_,_,rfl,rfl,.of (.int i),rfl,q⟩
 | str x=>exact ⟨_,_,_,_,_,rfl,rfl,.of (.str x),rfl,q⟩
 | lst h=>exact ⟨_,_,_,_,_,rfl,rfl,.of (.lst h),rfl,q⟩
 | tup h=>exact ⟨_,_,_,_,_,rfl,rfl,.of (.tup h),rfl,q⟩
 | dic h=>exact ⟨_,_,_,_,_,rfl,rfl,.of (.dK h),rfl,q⟩
theorem zgN(t:Thg H v)(q:Q (.bl (match v with | .bl _=>true|_=>false)) H):zeJ X.K [v,.ty "bool"] H Q:=by
 cases t with
 | non=>exact ⟨_,_,_,_,_,rfl,rfl,.of .non,rfl,q⟩
 | bl b=>exact ⟨_,_,_,_,_,rfl,rfl,.of (.bl b),rfl,q⟩
 | int i=>exact ⟨_,_,_,_,_,rfl,rfl,.of (.int i),rfl,q⟩
 | str x=>exact ⟨_,_,_,_,_,rfl,rfl,.of (.str x),rfl,q⟩
 | lst h=>exact ⟨_,_,_,_,_,rfl,rfl,.of (.lst h),rfl,q⟩
 | tup h=>exact ⟨_,_,_,_,_,rfl,rfl,.of (.tup h),rfl,q⟩
 | dic h=>exact ⟨_,_,_,_,_,rfl,rfl,.of (.dK h),rfl,q⟩
theorem zui:zr ["value"] ["value"] (zn zhD):=fsc
theorem zsS(F:Fun K "is_whole" "is_whole" zhD f fd)(T:Txt w K mg A):zo P w K mg base CX0 cm 1 f fd ["value"] zjO:=by
 refine F.ok zui (λvs H Q E h=>?_) (λcdv Ar outer s H vs Q E hr h=>?_)
 .obtain ⟨v,rfl,_⟩:=h;rfl
 .obtain ⟨v,rfl,th,q⟩:=h;refine ⟨_,(W.h (zh (zw (anD (zdP (clE (zI zdt rfl T.n_isinstance eN (zb (za 0) (zb (zdg rfl T.n_int boot_int (v:=.ty "int") rfl) zc)))) (zc9 (ntD (zii (clE (zI zdt rfl T.n_isinstance eN (zb (za 0) (zb (zdg rfl T.n_bool boot_bool (v:=.ty "bool") rfl) zc)))))))))))),?_⟩;simp_all only [];refine zjI th ?_;cases th with
  | int i=>dsimp only [bD];exact zft (zgN (.int i) q)
  | bl i=>dsimp only [bD];exact zft (zgN (.bl i) q)
  | _=>dsimp only [bD];exact zd7 q
theorem zn2:zr ["value","least","most"] ["value","least","most"] (zn zhR):=fsc
theorem ztb(F:Fun K "is_within" "is_within" zhR f fd)(T:Txt w K mg A)(Gw:GF P w K mg base cm 1 "is_whole" ["value"] zjO):zo P w K mg base CX0 cm 2 f fd ["value","least","most"] zfk:=by
 refine F.ok zn2 (λvs H Q E h=>?_) (λcdv Ar outer s H vs Q E hr h=>?_)
 .obtain ⟨v,a,b,rfl,_⟩:=h;rfl
 .obtain ⟨v,a,b,rfl,th,q⟩:=h;refine ⟨_,(W.h (zh (zw (anD (zdP (clE (caD (zy Gw hr rfl (clP (zb (za 0) zc))))) (zc9 (zmx (oI0 zeB) (oI0 zeB) (za 1) (za 0) (za 2)))))))),?_⟩;simp_all only [];refine ⟨_,rfl,th,?_⟩;cases th with
  | int i =>
   dsimp only [bD,zfE];refine zft ?_;simp_all only [];refine zO (λh=>?_) (λh=>?_)
   .have e:zdk (.int i) a b=decide (i<=b):=by show (decide (a<=i)&&_)=_;rw [h];rfl
    rw [<- e];exact q
   .have e:zdk (.int i) a b=false:=by show (decide (a<=i)&&_)=_;rw [eJ.mpr h];rfl
    rw [<- e];exact q
  | _=>dsimp only [bD,zfE];exact zd7 q
def DM.new(n:Nat):DM:=⟨bi n [],[none,none],0,none,false⟩
def zer(A:zj):Sp:=λvs H Q _=>∃(p dx:Addr)(n m:Int),vs=[.ref p,.int n,.int m]/\H p=some (.ins A.Disk dx [])/\3<=n/\n<=16/\2<=m/\m<=32 /\
 ∀(wl sl:Addr)(cells:List Addr)(H':Hp),zB A H' p wl sl cells m (DM.new n.toNat)->(∀b o,H b=some o->b≠p->H' b=some o)->(∀x∈wl::sl::cells,H x=none)->Q .non H'
structure ziM(H:Hp)(i:Nat)(τ:L2.St)(ys:List V)(H':Hp):Prop where
 τ:∃t,τ=[t]
 ex:∃cells:List Addr,ys=cells.map V.ref/\cells.length=i/\(∀c∈cells,H' c=some (.lst [])/\H c=none)/\cells.Nodup
 same:ze H H'
 le:i<=16
theorem znX:zr ["self","stretches","places"] ["self","stretches","places"] (zn zeo):=fsc
theorem zun:zbk { kind:=.function,names:=[(aj ".0",.local),(aj "number",.local)],isGenerator:=false,isCoroutine:=false,more:=[] } (zn zeo).names ["self","stretches","places"] ["number"] [none]=true:=by decide +kernel
theorem znq:(["number"]:List Str).Nodup:=by decide +kernel
theorem zvQ(F:Fun K "__init__" "Disk.__init__" zeo f fd)(T:Txt w K mg A)(Gc:GF P w K mg base cm 2 "is_within" ["value","least","most"] zfk):zo P w K mg base CX0 cm 3 f fd ["self","stretches","places"] (zer A):=by
 refine F.ok znX (λvs H Q E h=>?_) (λcdv Ar outer s H vs Q E hr h=>?_)
 .obtain ⟨p,dx,n,m,rfl,_⟩:=h;rfl
 .obtain ⟨p,dx,n,m,rfl,hp,n0,n1,m0,m1,q⟩:=h;have h1:zdk (.int n) 3 16=true:=by show (decide _&&decide _)=true;rw [decide_eq_true n0,decide_eq_true n1];rfl
  have h2:zdk (.int m) 2 32=true:=by show (decide _&&decide _)=true;rw [decide_eq_true m0,decide_eq_true m1];rfl
  refine ⟨_,(W.h (zg (zN (zcT (za0 (caD (zy Gc hr rfl (clP (zb (za 1) (zb (zbj rfl T.c_LEAST_STRETCHES) (zb (zbj rfl T.c_MOST_STRETCHES) zc))))))))
   (zh zdf)
   zQ)
   (zg (zN (zcT (za0 (caD (zy Gc hr rfl (clP (zb (za 2) (zb (zbj rfl T.c_LEAST_PLACES) (zb (zbj rfl T.c_MOST_PLACES) zc))))))))
   (zh zdf)
   zQ)
   (zg (sfD (zaI T.cl_Disk T.na_Disk_width (clE (za 0)) (clE (za 2))))
   (zg (sfD (zaI T.cl_Disk T.na_Disk_written (clE (za 0)) (clE (zci (by intro h;exact nomatch h) (zaz.of zun) (zq3 rfl T.n_range (zb (za 1) zc)) (λ_ _ _ _ _=>(zC (i:=0) znq rfl (aK rfl))) (λ_ _ _ _ _=>zc6) (λ_ _ _ _ _=>(zaC zc))))))
   (zg (sfD (zaI T.cl_Disk T.na_Disk_at_sides (clE (za 0)) (clE (zaC (zb zaJ (zb zaJ zc))))))
   (zg (sfD (zaI T.cl_Disk T.na_Disk_counted (clE (za 0)) (clE zi)))
   (zg (sfD (zaI T.cl_Disk T.na_Disk_left (clE (za 0)) (clE zaJ)))
   (zh (sfD (zaI T.cl_Disk T.na_Disk_has_stopped (clE (za 0)) (clE zcG)))))))))))),?_⟩
  simp_all only [];refine ⟨.int n,3,16,rfl,.int n,?_⟩;simp_all only [h1];refine ⟨.int m,2,32,rfl,.int m,?_⟩;simp_all only [h2,hp,zu,zH,za3];refine ⟨by decide,by lia,by lia,zau.rng (ziM (upd H p (.ins A.Disk dx [("width",.int m)]))) (λi τ ys H' I=>?_) ⟨⟨_,rfl⟩,⟨[],rfl,rfl,by simp,nodup_nil⟩,ze.refl _,by decide⟩ ?_ ?_⟩
  .obtain ⟨cells,e,l,_⟩:=I.ex;rw [e,am,l];exact zd2 (aW I.le (by decide))
  .intro N i τ ys H' hi I hN;obtain ⟨t,rfl⟩:=I.τ;obtain ⟨cells,e,l,hc,hcn⟩:=I.ex;simp_all only [];refine ⟨by decide,λc H2 n2 _=>hN _ _ _ ⟨⟨_,rfl⟩,⟨cells++[c],by rw [e,cr];rfl,by simp [l],λb hb=>?_,?_⟩,I.same.trans n2.same,by lia⟩⟩
   .rcases aS.mp hb with hb|hb
    .exact ⟨n2.same _ _ (hc b hb).1,(hc b hb).2⟩
    .rw [ax] at hb;subst hb;exact ⟨n2.at_,I.same.free n2.no⟩
   .refine fQ.mpr ⟨hcn,by simp,λa ha b hb=>?_⟩;rw [ax] at hb;subst hb;exact zp (hc a ha).1 n2.no
  .intro τ ys H1 I D H2 nD;obtain ⟨cells,e,l,hc,hcn⟩:=I.ex;have e1:H2 p=some (.ins A.Disk dx [("width",.int m)]):=nD.same _ _ (I.same _ _ zu);have w1:zH "written" (.ref D) [(("width":Str),V.int m)]=[(("width":Str),V.int m),("written",.ref D)]:=by kernel_rfl
   refine ⟨dx,_,e1,by show 1<1000;decide,by decide,λs1 H3 n3 _=>?_⟩;rw [w1] at n3;have e3:H3 p=some (.ins A.Disk dx [("width",.int m),("written",.ref D)]):=n3.same _ _ zu;have w2:zH "at_sides" (.ref s1) [(("width":Str),V.int m),("written",.ref D)]=[(("width":Str),V.int m),("written",.ref D),("at_sides",.ref s1)]:=by kernel_rfl
   have w3:zH "counted" (.int 0) [(("width":Str),V.int m),("written",.ref D),("at_sides",.ref s1)]=[(("width":Str),V.int m),("written",.ref D),("at_sides",.ref s1),("counted",.int 0)]:=by kernel_rfl
   have w4:zH "left" .non [(("width":Str),V.int m),("written",.ref D),("at_sides",.ref s1),("counted",.int 0)]=[(("width":Str),V.int m),("written",.ref D),("at_sides",.ref s1),("counted",.int 0),("left",.non)]:=by kernel_rfl
   have w5:zH "has_stopped" (.bl false) [(("width":Str),V.int m),("written",.ref D),("at_sides",.ref s1),("counted",.int 0),("left",.non)]=zA m D s1 (DM.new n.toNat):=by kernel_rfl
   refine ⟨dx,_,e3,?_⟩;rw [w2,w3,w4,w5,zb1,zb1,zb1];refine ⟨by show 2<1000;decide,by show 3<1000;decide,by show 4<1000;decide,by show 5<1000;decide,?_⟩;have pD:p≠D:=zp (I.same _ _ zu) nD.no;have ps:p≠s1:=zp zu n3.no;have H3of:∀b o,b≠p->H2 b=some o->H3 b=some o:=λb o hb h=>n3.same _ _ (by rw [zd hb];exact h);have hDat:=nD.at_;rw [e] at hDat;have cp:∀c∈cells,c≠p:=λc hcm z=>by have:=(hc c hcm).2;rw [z,zu] at this;cases this
   have cD:∀c∈cells,c≠D:=λc hcm=>zp (hc c hcm).1 nD.no;have cs:∀c∈cells,c≠s1:=λc hcm=>zp (show (upd H2 p (.ins A.Disk dx [("width",.int m),("written",.ref D)])) c=some _ by rw [zd (cp c hcm)];exact nD.same _ _ (hc c hcm).1) n3.no;have Ds:D≠s1:=zp (show (upd H2 p (.ins A.Disk dx [("width",.int m),("written",.ref D)])) D=some _ by rw [zd (aU pD)];exact hDat) n3.no;have Hn:∀b,b≠p->(upd H p (.ins A.Disk dx [("width",V.int m)])) b=none->H b=none:=λb hb h=>by rw [zd hb] at h;exact h
   refine q D s1 cells _ ⟨⟨dx,zu⟩,⟨?_,?_,λi c hi=>?_⟩,?_,?_⟩ (λb o hb hne=>?_) (λx hx=>?_)
   .rw [zd (aU pD)];exact H3of D _ (aU pD) hDat
   .simp [DM.new,l]
   .have hcm:=aE hi;rw [zd (cp c hcm),H3of c _ (cp c hcm) (nD.same _ _ (hc c hcm).1)];have:((DM.new n.toNat).rows.getD i [])=[]:=by
     unfold DM.new;rw [av,cS];split<;>rfl
    rw [this];rfl
   .rw [zd (aU ps)];exact n3.at_
   .simp only [cg,au,not_or];exact ⟨⟨pD,ps,λz=>cp p z rfl⟩,⟨Ds,λz=>cD D z rfl⟩,λz=>cs s1 z rfl,hcn⟩
   .rw [zd hne];exact H3of b _ hne (nD.same _ _ (I.same _ _ (by rw [zd hne];exact hb)))
   .simp only [au] at hx;rcases hx with rfl|rfl|hx
    .exact Hn _ (aU pD) (I.same.free nD.no)
    .have z:=n3.no;rw [zd (aU ps)] at z;exact Hn _ (aU ps) (I.same.free (nD.same.free z))
    .exact Hn _ (cp x hx) (hc x hx).2
theorem zvk{o:HO}(h:H a=some o):upd H a o=H:=by
 funext b;by_cases hb:b=a
 .rw [hb,zu,h]
 .rw [zd hb]
def zcu(i:Nat)(r:List Tx):List Tx:=bi i none++r.drop i
theorem zpY{i:Nat}{r:List Tx}(h:i<=r.length):(zcu i r).length=r.length:=by simp [zcu];lia
theorem zpZ{i:Nat}{r:List Tx}(h:i<r.length):((zcu i r).map tv).set i .non=(zcu (i+1) r).map tv:=by
 have e:V.non=tv none:=rfl;rw [e,<- List.map_set];congr 1;unfold zcu;rw [fX _ _ (by simp)];have h2:r.drop i=r[i]::r.drop (i+1):=c8 h;rw [h2,b8,fV,List.set_cons_zero,List.replicate_succ',aY];rfl
structure zu0(H1:Hp)(p c:Addr)(k:Nat)(n:Int)(r:List Tx)(i:Nat)(σ:L2.St)(H':Hp):Prop where
 ex:∃x,σ=[some (V.ref p),some (.int k),some (.ref c),some (.int n),x]
 at_:H'=upd H1 c (.lst ((zcu i r).map tv))
 le:i<=r.length
theorem zfj:zr ["self","stretch","texts","done","place"] ["self","stretch"] (zn zes):=fsc
theorem zuP(F:Fun K "empty" "Disk.empty" zes f fd)(T:Txt w K mg A)(M_Disk_spend:GM P w K mg base true 1 A.Disk "spend" ["self","many"] (zhT A))(M_Disk_refuse_if_stopped:GMX P w K mg base true 1 A.Disk "refuse_if_stopped" ["self"] (zex A)):zo P w K mg base (CXW P w) true 2 f fd ["self","stretch"] (zg1 A):=by
 refine F.okW zfj (λvs H Q E h=>?_) (λcdv Ar outer s H vs Q E hr h=>?_)
 .obtain ⟨p,wl,sl,cells,m,d,k,rfl,_⟩:=h;rfl
 .obtain ⟨p,wl,sl,cells,m,d,k,rfl,D,hk,hsm,hl,q⟩:=h;obtain ⟨dx,h1⟩:=D.ob;obtain ⟨c,hc,ha,hH⟩:=D.rows.cell hk;have Th:=zcL (cm:=true) (P:=P) (w:=w) (K:=K) (mg:=mg) (base:=base) (N:=["self","stretch","texts","done","place"]) (qual:="Disk.empty") (scope:=zn zes) (f:=f) (cd:=cdv) (A:=Ar) (outer:=outer) (s:=s) (H:=H) (E:=E);refine ⟨_,(W.h (zg (zal (zd9 (zdJ (clE (za 0)) T.cl_Disk Th M_Disk_refuse_if_stopped hr)))
   (zg (zx (i:=2) zfj.nd rfl (aK rfl) (zV zZ (fD (zac T.cl_Disk T.na_Disk_written (clE (za 0)))) (za 1) (λ_ _=>rfl)))
   (zg (zx (i:=3) zfj.nd rfl (aK rfl) (mD (za4 (clE (za 0)) T.cl_Disk M_Disk_spend hr (clP (zb (zI zak rfl T.n_len aX (zb (za 2) zc)) zc)))))
   (zg (zN (za0 (fD (zac T.cl_Disk T.na_Disk_has_stopped (clE (za 0)))))
   (zh (zt9 (zbw dH.never (λ_=>rfl) (zbU rfl T.n_range (zb (za 3) zc)) (zC (i:=4) zfj.nd rfl (aK rfl))
   (zh (zbp zaJ (zcM (za 2) (za 4) zdM))))))
   (zh (zal (zsi (za 2)))))
   (zh (zal (zd9 (zdJ (clE (za 0)) T.cl_Disk Th M_Disk_refuse_if_stopped hr))))))))),?_⟩
  simp_all only [h1,zdj];unfold DM.empty at q;refine ⟨p,wl,sl,cells,m,d,rfl,D,λhs=>?_,λhs=>?_⟩
  .rw [if_pos hs] at q;exact ⟨_,rfl,q H D zt.refl⟩
  rw [if_neg (by rw [hs];exact aw)] at q;simp_all only [h1,D.rows.w,zdv,ha,hH,am,zjl];generalize hr0:d.rows.getD k []=r at q hH ⊢;have hrl:r.length<=1000:=by rw [<- hr0];exact hsm k
  refine ⟨p,wl,sl,cells,m,d,_,rfl,D,λH1 D1 k1=>?_⟩;obtain ⟨dx1,g1⟩:=D1.ob;have gc:=D1.rows.at_ k c hc;rw [ziX,hr0] at gc;have hn0:0<=dn d.left r.length:=by
   unfold dn;split
   .lia
   .rename_i l e;have:=hl l e;split<;>lia
  have hn1:dn d.left r.length<=r.length:=by
   unfold dn;split
   .lia
   .split<;>lia
  have kF:∀o,zt (p::wl::sl::cells) H (upd H1 c o):=λo=>(k1.mono (by simp)).trans (zt.upd (by simp [aE hc]));simp_all only [g1,zl0];refine zO (λhst=>?_) (λhst=>?_)
  .rw [if_pos hst] at q;refine ⟨by lia,by lia,zat.rng (zu0 H1 p c k (dn d.left r.length) r) ⟨⟨_,rfl⟩,(zvk gc).symm,cf _⟩ ?_ ?_⟩
   .rintro i σ H' hi ⟨⟨x,rfl⟩,rfl,hle⟩;have ix:ixN ((zcu i r).map tv).length (0+(i:Int))=some i:=by
     unfold ixN;rw [if_pos (by lia),if_pos (by rw [am,zpY hle];lia)];simp
    simp_all only [zu,ix,zb1,zpZ (show i<r.length by lia)];exact ⟨⟨_,rfl⟩,rfl,by lia⟩
   .rintro σ H' ⟨⟨x,rfl⟩,rfl,hle⟩;have D2:=D1.setRow (r:=zcu (dn d.left r.length).toNat r) hc;obtain ⟨dx2,g2⟩:=D2.ob;simp_all only [g2,zdj];refine ⟨p,wl,sl,cells,m,_,rfl,D2,λhs2=>⟨_,rfl,q _ D2 (kF _)⟩,λhs2=>?_⟩;have hs2':(d.spend r.length).st=false:=hs2;rw [hs2'] at hst;cases hst
  .rw [if_neg hst] at q;have D2:=D1.setRow (r:=[]) hc;obtain ⟨dx2,g2⟩:=D2.ob;have g2':upd H1 c (.lst []) p=some (.ins A.Disk dx2 (zA m wl sl { d.spend r.length with rows:=(d.spend r.length).rows.set k [] })):=g2;simp_all only [gc,g2',zdj];refine ⟨p,wl,sl,cells,m,_,rfl,D2,λhs2=>absurd hs2 hst,λhs2=>?_⟩;simp_all only [];exact q _ D2 (kF _)
def DM.copy(d:DM):DM:={ d with left:=none,st:=false }
def zhW(A:zj):Sp:=λvs H Q _=>∃(p wl sl:Addr)(cells:List Addr)(m:Int)(d:DM),vs=[.ref p]/\zB A H p wl sl cells m d/\3<=d.rows.length/\d.rows.length<=16/\2<=m/\m<=32 /\
 ∀(p' wl' sl':Addr)(cells':List Addr)(H':Hp),zB A H' p' wl' sl' cells' m d.copy->ze H H'->(∀x∈p'::wl'::sl'::cells',H x=none)->Q (.ref p') H'
end
abbrev zg2:Stmt:=top 36
abbrev zgO:Stmt:=top 37
abbrev zcA:Stmt:=top 38
def rdT:Tx->Option (List V)|none=>none|some z=>zaQ z
structure zaY(d:DM):Prop where
 ok:∀r∈d.rows,r.length<=32/\∀t∈r,∀z,t=some z->asc z=true/\z.length<=1000
 len:d.rows.length<=16
abbrev Tri:=List V×Nat×Nat
variable{U ts:List Tri}
def zux:List V->Int|_::.int k::_=>k|_=>0
def one(o:Option (List V))(k j:Nat):List Tri:=match o with|some row=>[(row,k,j)]|none=>[]
theorem zjv(o:Option (List V))(k j:Nat):(one o k j).length<=1:=by cases o<;>simp [one]
def rIn(l:List Tx)(k:Nat):Nat->List Tri
 | 0=>[]
 | j+1=>rIn l k j++one (rdT (l.getD j none)) k j
def wU(rows:List (List Tx)):Nat->List Tri
 | 0=>[]
 | i+1=>wU rows i++rIn (rows.getD i []) i (rows.getD i []).length
def zdA(H:Hp)(a:Addr)(t:Tri):Prop:=∃r,H a=some (.tup [.ref r,.int t.2.1,.int t.2.2])/\H r=some (.tup t.1)
def za1(H:Hp)(as:List Addr)(ts:List Tri):Prop:=Paired (zdA H) as ts
def zG(H H':Hp):Prop:=∀a o,(∀ps,o≠.tbl ps)->H a=some o->H' a=some o
theorem zG.of(s:ze H H'):zG H H':=λa o _ e=>s a o e
theorem zG.trans{H1 H2:Hp}(x:zG H H1)(y:zG H1 H2):zG H H2:=λa o n e=>y a o n (x a o n e)
theorem zG.lams{ps:Array Value}(x:zdC H H' P)(h:H P=some (.tbl ps)):zG H H':=λa o n e=>x a o (λz=>by subst z;rw [h] at e;cases e;exact n _ rfl) e
theorem zG.lam{pos:Pos}{q:Str}(x:zdC H H' P)(h:zbq pos q H P):zG H H':=by
 rcases h with h|⟨_,_,_,_,h,_⟩
 .exact zG.lams x h
 .exact zG.lams x h
theorem zG.list(s:zG H H')(h:H a=some (.lst xs)):H' a=some (.lst xs):=s _ _ (λ_=>nofun) h
theorem zG.tup(s:zG H H')(h:H a=some (.tup xs)):H' a=some (.tup xs):=s _ _ (λ_=>nofun) h
theorem zG.free(s:zG H H')(h:H' a=none):(∃ps,H a=some (.tbl ps))\/H a=none:=by
 cases e:H a with
 | none=>exact .inr rfl
 | some o =>
  cases o with
  | tbl ps=>exact .inl ⟨ps,rfl⟩
  | _=>rw [s a _ (λps z=>by cases z) e] at h;cases h
theorem zB.sameT{p:Addr}(D:zB A H p wl sl cells m d)(s:zG H H'):zB A H' p wl sl cells m d:=by
 obtain ⟨dx,e⟩:=D.ob;exact ⟨⟨dx,s _ _ (λ_=>nofun) e⟩,⟨s.list D.rows.w,D.rows.len,λi c h=>s.list (D.rows.at_ i c h)⟩,s.list D.sides,D.nd⟩
theorem zdA.sameT{t:Tri}(h:zdA H a t)(s:zG H H'):zdA H' a t:=let ⟨r,e1,e2⟩:=h;⟨r,s.tup e1,s.tup e2⟩
theorem za1.sameT(h:za1 H as ts)(s:zG H H'):za1 H' as ts:=Paired.mapP h λ_ _ r=>r.sameT s
theorem za1.same(h:za1 H as ts)(s:ze H H'):za1 H' as ts:=h.sameT (.of s)
theorem zdG{R:α->β->Prop}{l1 l2:List α}{m1 m2:List β}(h1:Paired R l1 m1)(h2:Paired R l2 m2):Paired R (l1++l2) (m1++m2):=by
 induction h1 with
 | nil=>exact h2
 | cons r _ ih=>exact .cons r ih
theorem znF{row:List V}(h:zaQ z=some row):∃y k ys,row = .str y::.int k::ys:=by
 unfold zaQ at h;obtain ⟨b,_,h⟩:=bind_eq_some_iff.mp h;cases e:bY (cA b none (some (-1))) (c1 32) with
 | nil=>rw [e] at h;cases h
 | cons w ws =>
  rw [e,zb4] at h;obtain ⟨ks,hk,h⟩:=bind_eq_some_iff.mp h;split at h
  .obtain ⟨vs,hv,rfl⟩:=bX.mp h;have:∃ks',ks=("number":Str)::ks':=by
    unfold zbH at hk;split at hk
    .cases hk;exact ⟨_,rfl⟩
    .split at hk
     .cases hk;exact ⟨_,rfl⟩
     .split at hk
      .cases hk;exact ⟨_,rfl⟩
      .split at hk
       .cases hk;exact ⟨_,rfl⟩
       .split at hk
        .cases hk;exact ⟨_,rfl⟩
        .cases hk
   obtain ⟨ks',rfl⟩:=this;cases ws with
   | nil=>rename_i hl;cases hl
   | cons z zs =>
    have hv':(zay "number" z).bind (λv=>(zai ks' zs).map (v::·))=some vs:=hv;obtain ⟨v,h1,h2⟩:=bind_eq_some_iff.mp hv';obtain ⟨vs',_,rfl⟩:=bX.mp h2;have:∃k,v = .int k:=by
     unfold zay at h1;by_cases hz:zaX z=true
     .rw [if_pos ⟨rfl,hz⟩] at h1;cases h1;exact ⟨_,rfl⟩
     .rw [if_neg (λq=>hz q.2),if_neg (λq=>absurd q.1 (by decide)),if_neg (λq=>absurd q.1 (by decide)),if_neg (λq=>absurd q.1 (by decide))] at h1;cases h1
    obtain ⟨k,rfl⟩:=this;exact ⟨w,k,vs',rfl⟩
  .cases h
theorem zcp{l:List α}{x:α}(h:j<l.length):l.getD j x∈l:=by
 rw [av,ah h];exact fO h
section
variable {P:aI}{w:aZ}{K:Frag}{mg:Str->Option Value}{base:Heap}{A:zj}
def zjt(A:zj):Sp:=λvs H Q _=>∃(p wl sl:Addr)(cells:List Addr)(m:Int)(d:DM)(k j:Nat),vs=[.ref p,.int k,.int j]/\zB A H p wl sl cells m d/\zaY d/\k<d.rows.length /\
 (∀row,rdT ((d.rows.getD k []).getD j none)=some row->∀r H',ze H H'->H' r=some (.tup row)->Q (.ref r) H')/\(rdT ((d.rows.getD k []).getD j none)=none->∀H',ze H H'->Q .non H')
theorem zry:zr ["disk","stretch","place"] ["disk","stretch","place"] (zn zg2):=fsc
theorem zoE(F:Fun K "row_at" "row_at" zg2 f fd)(T:Txt w K mg A)(M_Disk_told:GM P w K mg base true 1 A.Disk "told" ["self","stretch","place"] (zjo A))(Gx:GX P w K mg base true 5 "read_row" ["text"] (zjc A)):zo P w K mg base CX0 true 7 f fd ["disk","stretch","place"] (zjt A):=by
 refine F.ok zry (λvs H Q E h=>?_) (λcdv Ar outer s H vs Q E hr h=>?_)
 .obtain ⟨p,wl,sl,cells,m,d,k,j,rfl,_⟩:=h;rfl
 .obtain ⟨p,wl,sl,cells,m,d,k,j,rfl,D,tx,hk,q1,q2⟩:=h;refine ⟨_,(W.h (zh (zje rfl rfl ⟨rfl,rfl⟩ T.ek_NoRow rfl T.mg_NoRow (λGa Ex=>(zh (zw (cXD (zhz zi8 Gx hr rfl (clP (zb (mD (za4 (clE (za 0)) T.cl_Disk M_Disk_told hr (clP (zb (za 1) (zb (za 2) zc))))) zc))))))) (λGa ea=>by
   have hr:=hr.mark (v:=some (.ref ea));exact (zh (zw zaJ)))))),?_⟩
  obtain ⟨dx,h1⟩:=D.ob;simp_all only [h1,zql];refine ⟨p,wl,sl,cells,m,d,k,j,rfl,D,hk,?_⟩;unfold zez;have hin:∀z,(d.rows.getD k []).getD j none=some z->asc z=true/\z.length<=1000:=λz e=>by
   have hr:d.rows.getD k []∈d.rows:=zcp hk;by_cases hj:j<(d.rows.getD k []).length
   .exact (tx.ok _ hr).2 _ (zcp hj) z e
   .rw [av,dY (by lia)] at e;cases e
  have exc:∀H1,ze H H1->rdT ((d.rows.getD k []).getD j none)=none->zaU K A.NoRow/\mroIn K A.NoRow (.ref A.NoRow)=some true/\∀(ea:Addr)(oe:Obj),H1 ea=none->zdN A.NoRow oe->Q V.non (upd H1 ea (HO.frz oe (HO.own 0))):=λH1 s1 hn=>⟨T.ek_NoRow,T.ms_NoRow,λea oe he _=>q2 hn _ λa o e=>by rw [zd (zp (s1 _ _ e) he)];exact s1 _ _ e⟩;generalize (d.rows.getD k []).getD j none=t at hin exc q1;cases t with
  | none=>exact .inl ⟨_,rfl,.non,_,rfl,exc H (ze.refl _) rfl⟩
  | some z =>
   obtain ⟨a1,a2⟩:=hin z rfl;exact .inr ⟨z,rfl,a1,by lia,λxs hx p' H' s' h'=>q1 xs hx p' H' s' h',λhn H' s'=>⟨_,rfl,exc H' s' hn⟩⟩
def zjV(A:zj):Sp:=λvs H Q _=>∃(p wl sl:Addr)(cells:List Addr)(m:Int)(d:DM)(k:Nat),vs=[.ref p,.int k]/\zB A H p wl sl cells m d/\zaY d/\k<d.rows.length /\
 ∀l as H',ze H H'->H l=none->H' l=some (.lst (as.map V.ref))->za1 H' as (rIn (d.rows.getD k []) k (d.rows.getD k []).length)->Q (.ref l) H'
structure zse(H:Hp)(p l:Addr)(k:Nat)(r:List Tx)(j:Nat)(σ:L2.St)(H':Hp):Prop where
 ex:∃t1 t2,σ=[some (V.ref p),some (.int k),some (.ref l),t1,t2]
 same:ze H H'
 no:H l=none
 ls:∃as:List Addr,H' l=some (.lst (as.map V.ref))/\za1 H' as (rIn r k j)/\as.length<=j
theorem zfc:zr ["disk","stretch","found","place","row"] ["disk","stretch"] (zn zgO):=fsc
theorem zn3(F:Fun K "rows_in" "rows_in" zgO f fd)(T:Txt w K mg A)(M_Disk_next_place:GM P w K mg base true 1 A.Disk "next_place" ["self","stretch"] (zey A))(Gy:GF P w K mg base true 7 "row_at" ["disk","stretch","place"] (zjt A)):zo P w K mg base CX0 true 8 f fd ["disk","stretch"] (zjV A):=by
 refine F.ok zfc (λvs H Q E h=>?_) (λcdv Ar outer s H vs Q E hr h=>?_)
 .obtain ⟨p,wl,sl,cells,m,d,k,rfl,_⟩:=h;rfl
 .obtain ⟨p,wl,sl,cells,m,d,k,rfl,D,tx,hk,q⟩:=h;refine ⟨_,(W.h (zg (zx (i:=2) zfc.nd rfl (aK rfl) (zaC zc))
   (zg (zbw dH.never (λ_=>rfl) (zbU rfl T.n_range (zb (mD (za4 (clE (za 0)) T.cl_Disk M_Disk_next_place hr (clP (zb (za 1) zc)))) zc)) (zC (i:=3) zfc.nd rfl (aK rfl))
   (zg (zx (i:=4) zfc.nd rfl (aK rfl) (caD (zy Gy hr rfl (clP (zb (za 0) (zb (za 1) (zb (za 3) zc)))))))
   (zh (zN (tD (zF (clO zhr) (clE (za 4)) (clE zaJ) (zD _)))
   (zh (zal (zc1 (za 2) (zaO (zb (za 4) (zb (za 1) (zb (za 3) zc)))))))
   zQ))))
   (zh (zw (za 2)))))),?_⟩
  have hr0:d.rows.getD k []∈d.rows:=by rw [av,ah hk];exact fO hk
  have hl32:=(tx.ok _ hr0).1;simp_all only [];refine ⟨by decide,λl H1 n1 _=>?_⟩;have D1:=D.sameT (.of n1.same);obtain ⟨dx,h1⟩:=D1.ob;simp_all only [h1,zet];refine ⟨p,wl,sl,cells,m,d,k,rfl,D1,hk,?_⟩;simp_all only [];have er:(((d.rows.getD k []).length:Nat):Int).toNat=(d.rows.getD k []).length:=by lia
  rw [er];refine ⟨by lia,by lia,zat.rng (zse H p l k (d.rows.getD k [])) ⟨⟨_,_,rfl⟩,n1.same,n1.no,[],n1.at_,.nil,ae _⟩ ?_ ?_⟩
  .rintro j σ H2 hj ⟨⟨t1,t2,rfl⟩,sm,ln,as,hl,ht,ha⟩;have ej:(0+(j:Int))=((j:Nat):Int):=by lia
   simp_all only [ej];refine ⟨p,wl,sl,cells,m,d,k,j,rfl,D.sameT (.of sm),tx,hk,λrow hrow r H3 s3 h3=>?_,λhn H3 s3=>?_⟩
   .have hl3:=s3 _ _ hl;simp_all only [hl3];refine ⟨by decide,λa H4 n4=>?_⟩;have hl4:=n4.same _ _ hl3;simp_all only [hl4];have al:a≠l:=λz=>by have:=n4.no;rw [z,hl3] at this;cases this
    have rl:r≠l:=λz=>by rw [z,hl3] at h3;cases h3
    refine ⟨by rw [am];exact za5 (by lia),⟨_,_,rfl⟩,λc o e=>?_,ln,as++[a],by rw [zu];simp,?_,by simp;lia⟩
    .rw [zd (zp e ln)];exact n4.same _ _ (s3 _ _ (sm _ _ e))
    .have e1:rIn (d.rows.getD k []) k (j+1)=rIn (d.rows.getD k []) k j++[(row,k,j)]:=by
      show rIn _ k j++_=_;rw [hrow];rfl
     rw [e1];refine zdG (Paired.mapP ht λx t ⟨r',g1,g2⟩=>?_) (.cons ⟨r,?_,?_⟩ .nil)
     .refine ⟨r',?_,?_⟩
      .rw [zd (λz=>by rw [z,hl] at g1;cases g1)];exact n4.same _ _ (s3 _ _ g1)
      .rw [zd (λz=>by rw [z,hl] at g2;cases g2)];exact n4.same _ _ (s3 _ _ g2)
     .rw [zd al];exact n4.at_
     .rw [zd rl];exact n4.same _ _ h3
   .simp_all only [];refine ⟨⟨_,_,rfl⟩,sm.trans s3,ln,as,s3 _ _ hl,?_,by lia⟩;have e1:rIn (d.rows.getD k []) k (j+1)=rIn (d.rows.getD k []) k j:=by
     show rIn _ k j++_=_;rw [hn];exact cw _
    rw [e1];exact za1.same ht s3
  .rintro σ H2 ⟨⟨t1,t2,rfl⟩,sm,ln,as,hl,ht,ha⟩;simp_all only [];exact q l as H2 sm ln hl ht
end
abbrev zg8:Stmt:=top 39
abbrev ze2:Stmt:=top 40
abbrev zhS:Stmt:=top 41
def zq(t:Tri):Int:=zux t.1
theorem znU{f:α->β}{zs m:List β}(h:zs.Perm m):∀{L:List α},m=L.map f->∃L':List α,L'.Perm L/\zs=L'.map f:=by
 induction h with
 | nil=>intro L e;cases L with
  | nil=>exact ⟨[],.nil,rfl⟩
  | cons a L=>cases e
 | cons x _ ih =>
  intro L e;cases L with
  | nil=>cases e
  | cons a L =>
   rw [bQ] at e;injection e with e1 e2
   obtain ⟨L',p,rfl⟩:=ih e2;exact ⟨a::L',p.cons a,by rw [bQ,e1]⟩
 | swap x y l =>
  intro L e;cases L with
  | nil=>cases e
  | cons a L =>
   cases L with
   | nil=>rw [bQ] at e;injection e with _ e2;cases e2
   | cons b L =>
    rw [bQ,bQ] at e;injection e with e1 e2
    injection e2 with e2 e3
    exact ⟨b::a::L,.swap ..,by rw [bQ,bQ,e1,e2,e3]⟩
 | trans _ _ ih1 ih2 =>
  intro L e;obtain ⟨L1,p1,e1⟩:=ih2 e;obtain ⟨L2,p2,e2⟩:=ih1 e1;exact ⟨L2,p2.trans p1,e2⟩
theorem zin:∀{l m:List Tri},l.Perm m->l.Pairwise (λa b=>zq a<zq b)->m.Pairwise (λa b=>zq a<zq b)->l=m
 | [],m,p,_,_=>(fv.nil_eq p)
 | a::l,[],p,_,_=>by have:=p.length_eq;cases this
 | a::l,b::m,p,h1,h2=>by
  obtain ⟨g1,g2⟩:=eP.mp h1;obtain ⟨k1,k2⟩:=eP.mp h2;have e:a=b:=by
   refine dN λne=>?_;have ha:a∈b::m:=p.mem_iff.mp (bf ..);have hb:b∈a::l:=p.mem_iff.mpr (bf ..);rcases au.mp ha with z|ha
   .exact ne z
   .rcases au.mp hb with z|hb
    .exact ne z.symm
    .have:=k1 a ha;have:=g1 b hb;lia
  subst e;rw [zin (fv.cons_inv p) g2 k2]
theorem zlP{l:List Tri}(nd:(l.map zq).Nodup)(h:l.Pairwise (λa b=>zq a<=zq b)):l.Pairwise (λa b=>zq a<zq b) :=
 (h.and (iJ.mp nd)).imp λ⟨h1,h2⟩=>by lia
open Classical in
noncomputable def zas(U:List Tri):List Tri:=if h:∃ts:List Tri,ts.Perm U/\ts.Pairwise (λa b=>zq a<=zq b) then h.choose else U
theorem ztN(nd:(U.map zq).Nodup)(p:ts.Perm U)(h:ts.Pairwise (λa b=>zq a<=zq b)):ts=zas U:=by
 have ex:∃ts:List Tri,ts.Perm U/\ts.Pairwise (λa b=>zq a<=zq b):=⟨ts,p,h⟩;unfold zas;rw [dif_pos ex];have n1:(ts.map zq).Nodup:=(p.map zq).nodup_iff.mpr nd;have n2:(ex.choose.map zq).Nodup:=(ex.choose_spec.1.map zq).nodup_iff.mpr nd;exact zin (p.trans ex.choose_spec.1.symm) (zlP n1 h) (zlP n2 ex.choose_spec.2)
def lpW:Pos:=⟨105,29,105,50⟩
def qW:Str:=(e9 "whole_rows" (zn zcA) 0 0 .none).qual++"<lambda>"
structure TB(A:zj)(H:Hp):Prop where
 w:zbq lpW qW H A.t_whole_rows
theorem zsR{pos:Pos}{q:Str}(h:zbq pos q H P)(k:∀a o,H a=some o->(a=P\/∀ps,o≠.tbl ps)->H' a=some o):zbq pos q H' P:=by
 rcases h with h|⟨c,oc,vs,t,h1,h2,h3⟩
 .exact .inl (k _ _ h (.inl rfl))
 .exact .inr ⟨c,oc,vs,t,k _ _ h1 (.inl rfl),k _ _ h2 (.inr λps z=>by cases z),h3⟩
theorem TB.same(h:TB A H)(s:ze H H'):TB A H':=⟨zsR h.w λa o e _=>s a o e⟩
theorem TB.keep(h:TB A H)(k:zt F H H')(hF:∀x∈F,∀o,H x=some o->(∀ps,o≠.tbl ps)/\∀oc,o≠.frz oc (.own 0)):TB A H':=by
 have go:∀{pos q P},zbq pos q H P->zbq pos q H' P:=λ{pos q P} h=>by
  rcases h with h|⟨c,oc,vs,t,h1,h2,h3⟩
  .exact .inl (k _ _ h λz=>(hF _ z _ h).1 _ rfl)
  .exact .inr ⟨c,oc,vs,t,k _ _ h1 λz=>(hF _ z _ h1).1 _ rfl,k _ _ h2 λz=>(hF _ z _ h2).2 _ rfl,h3⟩
 exact ⟨go h.w⟩
section
variable {P:aI}{w:aZ}{K:Frag}{mg:Str->Option Value}{base:Heap}{A:zj}
def nU(d:DM):List Tri:=wU d.rows d.rows.length
structure zua(H:Hp)(p l:Addr)(d:DM)(i:Nat)(σ:L2.St)(H':Hp):Prop where
 ex:∃t1,σ=[some (V.ref p),some (.ref l),t1]
 same:ze H H'
 no:H l=none
 ls:∃as:List Addr,H' l=some (.lst (as.map V.ref))/\za1 H' as (wU d.rows i)/\as.length<=32*i
theorem zli{l:List Tx}{k:Nat}:∀{j:Nat}{t:Tri},t∈rIn l k j->∃y n ys,t.1 = .str y::.int n::ys
 | 0,t,h=>by cases h
 | j+1,t,h=>by
  rcases aS.mp h with h|h
  .exact zli h
  .cases e:l.getD j none with
   | none=>rw [e] at h;cases h
   | some z =>
    rw [e] at h;cases e2:zaQ z with
    | none=>rw [show rdT (some z)=zaQ z from rfl,e2] at h;cases h
    | some row =>
     rw [show rdT (some z)=zaQ z from rfl,e2] at h;have h:t=(row,k,j):=ax.mp h;rw [h];exact znF e2
theorem zht{rows:List (List Tx)}:∀{i:Nat}{t:Tri},t∈wU rows i->∃y n ys,t.1 = .str y::.int n::ys
 | 0,t,h=>by cases h
 | i+1,t,h=>by
  rcases aS.mp h with h|h
  .exact zht h
  .exact zli h
theorem zvD(h:za1 H as ts)(hk:∀t∈ts,∃y n ys,t.1 = .str y::.int n::ys):Paired (zhn H) as (ts.map zq):=by
 induction h with
 | nil=>exact .nil
 | @cons a t _ _ r _ ih =>
  refine .cons ?_ (ih λt h=>hk t (aF _ h));obtain ⟨y,n,ys,e⟩:=hk t (bf ..);obtain ⟨rr,e1,e2⟩:=r;rw [e] at e2;have ek:zq t=n:=by unfold zq;rw [e];rfl
  rw [ek];exact ⟨rr,_,_,_,e1,e2⟩
theorem zvd{zs:List (Int×Addr)}(h:za1 H as ts)(p:zs.Perm ((ts.map zq).zip as))(hs:zs.Pairwise (λp q=>p.1<=q.1))(nd:(ts.map zq).Nodup):za1 H (zs.map (·.2)) (zas ts):=by
 have hl:=zcd h;have e1:(ts.map zq).zip as=(as.zip ts).map λq=>(zq q.2,q.1):=by
  clear p nd
  induction h with
  | nil=>rfl
  | cons r _ ih=>rw [bQ,gl,gl,bQ,ih (Paired.length ‹_›)]
 obtain ⟨L,pL,rfl⟩:=znU p e1;have e2:(as.zip ts).map (·.2)=ts:=List.map_snd_zip (by lia);have hm:∀q∈as.zip ts,zdA H q.1 q.2:=by
  clear p pL e1 e2 hs nd hl
  induction h with
  | nil=>intro q hq;cases hq
  | cons r _ ih =>
   intro q hq;rw [gl] at hq;rcases au.mp hq with rfl|hq
   .exact r
   .exact ih q hq
 have e3:L.map (·.2)=zas ts:=ztN nd (by have:=pL.map (·.2);rw [e2] at this;exact this) (by
  have:=iJ.mp hs;exact iJ.mpr this)
 rw [<- e3,bU];have:∀M:List (Addr×Tri),(∀q∈M,zdA H q.1 q.2)->za1 H (M.map ((·.2)∘λq=>(zq q.2,q.1))) (M.map (·.2)):=λM=>by
  induction M with
  | nil=>exact λ_=>.nil
  | cons q M ih=>exact λh=>.cons (h q (bf ..)) (ih λr hr=>h r (aF _ hr))
 exact this L λq hq=>hm q (pL.mem_iff.mp hq)
def zgu(A:zj):Sp:=λvs H Q _=>∃(p wl sl:Addr)(cells:List Addr)(m:Int)(d:DM),vs=[.ref p]/\zB A H p wl sl cells m d/\zaY d/\((nU d).map zq).Nodup/\(nU d).length<3000/\TB A H /\
 ∀l as H',zG H H'->TB A H'->H l=none->l≠sysModules->H' l=some (.lst (as.map V.ref))->za1 H' as (zas (nU d))->Q (.ref l) H'
theorem zha:zr ["disk","found","stretch"] ["disk"] (zn zcA):=fsc
theorem zo2(F:Fun K "whole_rows" "whole_rows" zcA f fd)(hc:fd.code = .ref c)(LB:zdH mg base (.ref c) A.t_whole_rows)(T:Txt w K mg A)(M_Disk_stretches:GM P w K mg base true 1 A.Disk "stretches" ["self"] (zcb A λ_ d=>.int d.rows.length))(Gz:GF P w K mg base true 8 "rows_in" ["disk","stretch"] (zjV A)):zo P w K mg base CX0 true 9 f fd ["disk"] (zgu A):=by
 refine F.okC hc zha (λvs H Q E h=>?_) (λAr outer s H vs Q E hr h=>?_)
 .obtain ⟨p,wl,sl,cells,m,d,rfl,_⟩:=h;rfl
 .obtain ⟨p,wl,sl,cells,m,d,rfl,D,tx,nd,h64,tb,q⟩:=h;refine ⟨_,(W.h (zg (zx (i:=1) zha.nd rfl (aK rfl) (zaC zc))
   (zg (zbw dH.never (λ_=>rfl) (zbU rfl T.n_range (zb (m0D (zbn (clE (za 0)) T.cl_Disk M_Disk_stretches hr)) zc)) (zC (i:=2) zha.nd rfl (aK rfl))
   (zh (zal (zo1 (za 1) (caD (zy Gz hr rfl (clP (zb (za 0) (zb (za 2) zc)))))))))
   (zh (zw (zpK LB hr rfl T.n_sorted (za 1) rfl rfl (λ_ _ _ _ _=>rfl) rfl rfl rfl rfl)))))),?_⟩
  have hl16:=tx.len;simp_all only [];refine ⟨by decide,λl H1 n1 _=>?_⟩;have D1:=D.sameT (.of n1.same);obtain ⟨dx,h1⟩:=D1.ob;simp_all only [h1,zhJ];refine ⟨p,wl,sl,cells,m,d,rfl,D1,?_⟩;simp_all only [];have er:((d.rows.length:Nat):Int).toNat=d.rows.length:=by lia
  rw [er];refine ⟨by lia,by lia,zat.rng (zua H p l d) ⟨⟨_,rfl⟩,n1.same,n1.no,[],n1.at_,.nil,ae _⟩ ?_ ?_⟩
  .rintro i σ H2 hi ⟨⟨t1,rfl⟩,sm,ln,as,hl,ht,ha⟩;have ej:(0+(i:Int))=((i:Nat):Int):=by lia
   simp_all only [hl,ej];refine ⟨p,wl,sl,cells,m,d,i,rfl,D.sameT (.of sm),tx,hi,λl2 bs H3 s3 n3 h3 t3=>?_⟩;have hl3:=s3 _ _ hl;have hb:bs.length<=32:=by
    have e1:=zcd t3;have e2:∀(r:List Tx) k j,(rIn r k j).length<=j:=λr k j=>by
     induction j with
     | zero=>exact ae _
     | succ j ih=>show (rIn r k j++_).length<=_;rw [aG];have:=zjv (rdT (r.getD j none)) k j;lia
    have:=e2 (d.rows.getD i []) i (d.rows.getD i []).length;have:=(tx.ok _ (zcp (x:=[]) hi)).1;lia
   simp_all only [hl3,h3];refine ⟨by rw [am,am];exact zbh (by lia),⟨_,rfl⟩,λc o e=>?_,ln,as++bs,by rw [zu];simp,?_,by simp;lia⟩
   .rw [zd (zp e ln)];exact s3 _ _ (sm _ _ e)
   .have up:∀{b xs},H3 b=some (.tup xs)->upd H3 l (.lst (fi V.ref as++fi V.ref bs)) b=some (.tup xs):=λ{b xs} e=>by rw [zd (λz=>by rw [z,hl3] at e;cases e)];exact e
    exact zdG (Paired.mapP ht λx t ⟨r',g1,g2⟩=>⟨r',up (s3 _ _ g1),up (s3 _ _ g2)⟩) (Paired.mapP t3 λx t ⟨r',g1,g2⟩=>⟨r',up g1,up g2⟩)
  .rintro σ H2 ⟨⟨t1,rfl⟩,sm,ln,as,hl,ht,ha⟩;simp_all only [];have hlen:=zcd ht;have tb2:=tb.same sm;refine ⟨as,hl,tb2.w,by rw [hlen];exact h64,(nU d).map zq,zvD ht λt h=>zht h,λD2 zs H3 L3 T3 f3 ne3 ns3 e3 pz sz=>?_⟩;have s3:zG H2 H3:=zG.lam L3 tb2.w;have tb3:TB A H3:=⟨T3⟩;exact q D2 (zs.map (·.2)) H3 ((zG.of sm).trans s3) tb3 (sm.free f3) ns3 (by rw [e3,bU];rfl) ((zvd ht pz sz nd).sameT s3)
end
theorem zei(U:List Tri):(zas U).Perm U:=by
 unfold zas;split
 .rename_i h;exact h.choose_spec.1
 .exact .refl _
def zbr(t:Tri):Bool:=match t.1 with | .str y::_=>!decide (y=("carry":Str))|_=>true
def za9(ts:List Tri)(hot:Bool):Nat->Option Nat
 | 0=>none
 | i+1=>match ts[i]? with|some t=>if zbr t=hot then some t.2.1 else za9 ts hot i|none=>za9 ts hot i
def ov:Option Nat->V|none=>.non|some n=>.int n
noncomputable def zbG(d:DM)(hot:Bool):Option Nat:=za9 (zas (nU d)) hot (zas (nU d)).length
theorem zg4{l:List Tx}{k:Nat}:∀{j:Nat}{t:Tri},t∈rIn l k j->t.2.1=k
 | 0,t,h=>by cases h
 | j+1,t,h=>by
  rcases aS.mp h with h|h
  .exact zg4 h
  .unfold one at h;split at h
   .rw [ax] at h;rw [h]
   .cases h
theorem zfR{rows:List (List Tx)}:∀{i:Nat}{t:Tri},t∈wU rows i->t.2.1<i
 | 0,t,h=>by cases h
 | i+1,t,h=>by
  rcases aS.mp h with h|h
  .have:=zfR h;lia
  .have:=zg4 h;lia
theorem zhV{ts:List Tri}{hot:Bool}:∀{i n:Nat},za9 ts hot i=some n->∃t∈ts,t.2.1=n
 | 0,n,h=>by cases h
 | i+1,n,h=>by
  unfold za9 at h;split at h
  .rename_i t ht;split at h
   .cases h;exact ⟨t,aE ht,rfl⟩
   .exact zhV h
  .exact zhV h
theorem zmc{n:Nat}(h:zbG d hot=some n):n<d.rows.length:=by
 obtain ⟨t,ht,rfl⟩:=zhV h;exact zfR ((zei _).mem_iff.mp ht)
def emp(rows:List (List Tx)):Nat->List Nat
 | 0=>[]
 | i+1=>emp rows i++if (rows.getD i []).length=0 then [i] else []
def iv(n:Nat):V:=.int n
theorem zgt(rows:List (List Tx)):∀i,(emp rows i).length<=i
 | 0=>ae _
 | i+1=>by show (emp rows i++_).length<=_;have:=zgt rows i;rw [aG];split<;>simp<;>lia
def zms(d:DM)(m:Int):Option Nat->Int|none=>0|some k=>m-(d.rows.getD k []).length
section
variable {P:aI}{w:aZ}{K:Frag}{mg:Str->Option Value}{base:Heap}{A:zj}
structure zoR(H1:Hp)(p:Addr)(hot:Bool)(ts:List Tri)(i:Nat)(σ:L2.St)(H':Hp):Prop where
 ex:∃t1 t2 t3,σ=[some (V.ref p),some (.bl hot),some (ov (za9 ts hot i)),t1,t2,t3]
 same:H'=H1
def zj4(A:zj):Sp:=λvs H Q _=>∃(p wl sl:Addr)(cells:List Addr)(m:Int)(d:DM)(hot:Bool),vs=[.ref p,.bl hot]/\zB A H p wl sl cells m d/\zaY d/\((nU d).map zq).Nodup/\(nU d).length<3000/\TB A H /\
 ∀H',zG H H'->TB A H'->Q (ov (zbG d hot)) H'
theorem zdr:zr ["disk","is_hot","end","row","stretch","place"] ["disk","is_hot"] (zn zg8):=fsc
theorem zqy(F:Fun K "end_of" "end_of" zg8 f fd)(T:Txt w K mg A)(GA:GF P w K mg base true 9 "whole_rows" ["disk"] (zgu A)):zo P w K mg base CX0 true 10 f fd ["disk","is_hot"] (zj4 A):=by
 refine F.ok zdr (λvs H Q E h=>?_) (λcdv Ar outer s H vs Q E hr h=>?_)
 .obtain ⟨p,wl,sl,cells,m,d,hot,rfl,_⟩:=h;rfl
 .obtain ⟨p,wl,sl,cells,m,d,hot,rfl,D,tx,nd,h64,tb,q⟩:=h;have hu:_<cLine:=bz (zab hr);refine ⟨_,(W.h (zg (zx (i:=2) zdr.nd rfl (aK rfl) zaJ)
   (zg (zbw dH.never (λ_=>rfl) (liD (zd1 (clE (caD (zy GA hr rfl (clP (zb (za 0) zc))))))) (zc3 (n:=3) (gsD (zW (zC (i:=3) zdr.nd rfl (aK rfl)) (gsD (zW (zC (i:=4) zdr.nd rfl (aK rfl)) (gsD (zW (zC (i:=5) zdr.nd rfl (aK rfl)) zbT)))))))
   (zh (zN (tD (zF (clO (oE (zaK hu))) (clE (zch (oE (zcP hu)) (zV zZ (za 3) zi (λ_ _=>rfl)) (zbj rfl T.c_COLD_KIND) (zD _))) (clE (za 1)) (zD _)))
   (zh (zx (i:=2) zdr.nd rfl (aK rfl) (za 4)))
   zQ)))
   (zh (zw (za 2)))))),?_⟩
  simp_all only [];refine ⟨p,wl,sl,cells,m,d,rfl,D,tx,nd,h64,tb,λl as H1 s1 tb1 ln _ hl ht=>?_⟩;have hlen:=zcd ht;simp_all only [];refine ⟨⟨_,SqL.of hl⟩,zat.lst (xs:=as.map V.ref) (zoR H1 p hot (zas (nU d))) ⟨⟨_,_,_,rfl⟩,rfl⟩ (λi σ H' _ I=>by rw [I.same];exact SqL.of hl) ?_ ?_⟩
  .rintro i x σ H' hx ⟨⟨t1,t2,t3,rfl⟩,rfl⟩;rw [bh] at hx;obtain ⟨a,ha,rfl⟩:=bX.mp hx;have hi:i<(zas (nU d)).length:=by rw [<- hlen];exact (ak.mp ha).1
   have hti:(zas (nU d))[i]?=some (zas (nU d))[i]:=ah hi;generalize (zas (nU d))[i]=t at hti;obtain ⟨r,e1,e2⟩:=zcj ht ha hti;obtain ⟨y,n,ys,et⟩:=zht ((zei _).mem_iff.mp (aE hti));rw [et] at e2;refine ⟨a,_,rfl,SqT.of e1,rfl,?_⟩;have ix:atI (V.str y::V.int n::ys) 0=some (V.str y):=za8 (j:=0) (by simp);have eh:zbr t = !decide (y=("carry":Str)):=by unfold zbr;rw [et]
   simp_all only [e2,ix];have ep:za9 (zas (nU d)) hot (i+1)=if zbr t=hot then some t.2.1 else za9 (zas (nU d)) hot i:=by
    show (match (zas (nU d))[i]? with|some t=>_|none=>_)=_;rw [hti]
   refine zO (λh=>?_) (λh=>?_)
   .exact ⟨⟨_,_,_,by rw [ep,if_pos (by rw [eh];exact of_decide_eq_true h)];rfl⟩,rfl⟩
   .exact ⟨⟨_,_,_,by rw [ep,if_neg (by rw [eh];exact λz=>h (decide_eq_true z))]⟩,rfl⟩
  .rintro σ H' ⟨⟨t1,t2,t3,rfl⟩,rfl⟩;simp_all only [];have:=q _ s1 tb1;unfold zbG at this;rw [am,hlen];exact this
structure znw(H:Hp)(p:Addr)(rows:List (List Tx))(i:Nat)(τ:L2.St)(ys:List V)(H':Hp):Prop where
 ex:∃t,τ=[t,some (V.ref p)]
 ys:ys=(emp rows i).map iv
 same:H'=H
 le:i<=16
def zmi(A:zj):Sp:=λvs H Q _=>∃(p wl sl:Addr)(cells:List Addr)(m:Int)(d:DM),vs=[.ref p]/\zB A H p wl sl cells m d/\d.rows.length<=16 /\
 ∀l H',New H l (.lst ((emp d.rows d.rows.length).map iv)) H'->l≠sysModules->Q (.ref l) H'
theorem zpM:zr ["disk"] ["disk"] (zn ze2):=fsc
theorem zvO:zbk { kind:=.function,names:=[(aj ".0",.local),(aj "stretch",.local),(aj "disk",.free)],isGenerator:=false,isCoroutine:=false,more:=[] } (zn ze2).names ["disk"] ["stretch","disk"] [none,some 0]=true:=by decide +kernel
theorem zqs:(["stretch","disk"]:List Str).Nodup:=by decide +kernel
theorem znY(F:Fun K "empties" "empties" ze2 f fd)(T:Txt w K mg A)(M_Disk_stretches:GM P w K mg base true 1 A.Disk "stretches" ["self"] (zcb A λ_ d=>.int d.rows.length))(M_Disk_next_place:GM P w K mg base true 1 A.Disk "next_place" ["self","stretch"] (zey A)):zo P w K mg base CX0 true 2 f fd ["disk"] (zmi A):=by
 refine F.ok zpM (λvs H Q E h=>?_) (λcdv Ar outer s H vs Q E hr h=>?_)
 .obtain ⟨p,wl,sl,cells,m,d,rfl,_⟩:=h;rfl
 .obtain ⟨p,wl,sl,cells,m,d,rfl,D,hl,q⟩:=h;have hu:_<cLine:=bz (zab hr);refine ⟨_,(W.h (zh (zw (zci (λ_=>rfl) (zaz.of zvO) (zbU rfl T.n_range (zb (m0D (zbn (clE (za 0)) T.cl_Disk M_Disk_stretches hr)) zc)) (λ_ _ _ _ _=>(zC (i:=0) zqs rfl (aK rfl))) (λ_ _ _ _ _=>(zfv (tD (zF (clO (oE (zaK hu))) (clE (mD (za4 (clE (za 1)) T.cl_Disk M_Disk_next_place hr (clP (zb (za 0) zc))))) (clE zi) (zD _))))) (λ_ _ _ _ _=>(za 0)))))),?_⟩;obtain ⟨dx,h1⟩:=D.ob;simp_all only [h1,zhJ];refine ⟨p,wl,sl,cells,m,d,rfl,D,?_⟩;simp_all only [];have er:((d.rows.length:Nat):Int).toNat=d.rows.length:=by lia
  rw [er];refine ⟨by lia,by lia,zau.rngS (znw H p d.rows) (λi τ ys H' I=>?_) ⟨⟨_,rfl⟩,rfl,rfl,by lia⟩ ?_ ?_⟩
  .rw [I.ys,am];exact za5 (by have:=zgt d.rows i;have:=I.le;lia)
  .intro N i τ ys H' hi I hN;obtain ⟨t,rfl⟩:=I.ex;have e:=I.same;subst e;have ej:(0+(i:Int))=((i:Nat):Int):=by lia
   simp_all only [h1,zet,ej];refine ⟨p,wl,sl,cells,m,d,i,rfl,D,hi,?_⟩;simp_all only [];have ee:emp d.rows (i+1)=emp d.rows i++if (d.rows.getD i []).length=0 then [i] else []:=rfl;by_cases h0:(d.rows.getD i []).length=0
   .rw [decide_eq_true (by lia)];simp_all only [];exact hN _ _ _ ⟨⟨_,rfl⟩,by rw [I.ys,ee,if_pos h0,cr];rfl,rfl,by lia⟩
   .rw [decide_eq_false (by lia)];simp_all only [];exact hN _ _ _ ⟨⟨_,rfl⟩,by rw [I.ys,ee,if_neg h0,cw],rfl,by lia⟩
  .intro τ ys H' I D2 H2 n2 ns;have e:=I.same;subst e;rw [I.ys] at n2;exact q D2 H2 n2 ns
def zjT(A:zj):Sp:=λvs H Q _=>∃(p wl sl:Addr)(cells:List Addr)(m:Int)(d:DM)(e:Option Nat),vs=[.ref p,ov e]/\zB A H p wl sl cells m d/\(∀k,e=some k->k<d.rows.length)/\Q (.int (zms d m e)) H
theorem ztp:zr ["disk","end"] ["disk","end"] (zn zhS):=fsc
theorem zqQ(F:Fun K "free_in" "free_in" zhS f fd)(T:Txt w K mg A)(M_Disk_places:GM P w K mg base true 1 A.Disk "places" ["self"] (zcb A λm _=>.int m))(M_Disk_next_place:GM P w K mg base true 1 A.Disk "next_place" ["self","stretch"] (zey A)):zo P w K mg base CX0 true 2 f fd ["disk","end"] (zjT A):=by
 refine F.ok ztp (λvs H Q E h=>?_) (λcdv Ar outer s H vs Q E hr h=>?_)
 .obtain ⟨p,wl,sl,cells,m,d,e,rfl,_⟩:=h;rfl
 .obtain ⟨p,wl,sl,cells,m,d,e,rfl,D,he,q⟩:=h;refine ⟨_,(W.h (zh (zw (zfw (tD (zF (clO zic) (clE (za 1)) (clE zaJ) (zD _))) zi (zl (oI0 zct) (m0D (zbn (clE (za 0)) T.cl_Disk M_Disk_places hr)) (mD (za4 (clE (za 0)) T.cl_Disk M_Disk_next_place hr (clP (zb (za 1) zc))))))))),?_⟩;obtain ⟨dx,h1⟩:=D.ob;cases e with
  | none =>
   show _;unfold ov;simp_all only [];exact q
  | some k =>
   unfold ov;simp_all only [h1,zhY,zet];refine ⟨p,wl,sl,cells,m,d,rfl,D,?_⟩;simp_all only [h1,zhY,zet];refine ⟨p,wl,sl,cells,m,d,k,rfl,D,he k rfl,?_⟩;simp_all only [];exact q
end
abbrev zgU:Stmt:=zap (top 50) 10
section
variable {P:aI}{w:aZ}{K:Frag}{mg:Str->Option Value}{base:Heap}{A:zj}
theorem zsw:zH "written" (.ref x) (zA m wl sl d)=zA m x sl d:=by kernel_rfl
theorem zuD:zH "at_sides" (.ref x) (zA m wl sl d)=zA m wl x d:=by kernel_rfl
structure ztv(H:Hp)(rows:List (List Tx))(i:Nat)(τ:L2.St)(ys:List V)(H':Hp):Prop where
 τ:∃t,τ=[t]
 ex:∃cs:List Addr,ys=cs.map V.ref/\cs.length=i/\(∀j c,cs[j]?=some c->H' c=some (.lst ((rows.getD j []).map tv)))/\(∀c∈cs,H c=none)/\cs.Nodup
 same:ze H H'
 le:i<=16
theorem zo3(h1:d.cnt=d'.cnt)(h2:d.left=d'.left)(h3:d.st=d'.st):zA m wl sl d=zA m wl sl d':=by unfold zA;rw [h1,h2,h3]
theorem zjg:zr ["self","other"] ["self"] (zn zfr):=fsc
theorem zvN:zbk { kind:=.function,names:=[(aj ".0",.local),(aj "texts",.local),(aj "list",.globalImplicit)],isGenerator:=false,isCoroutine:=false,more:=[] } (zn zfr).names ["self","other"] ["texts"] [none]=true:=by decide +kernel
theorem zrs:(["texts"]:List Str).Nodup:=by decide +kernel
theorem ztl(F:Fun K "copied" "Disk.copied" zfr f fd)(T:Txt w K mg A)(M_Disk_stretches:GM P w K mg base cm 1 A.Disk "stretches" ["self"] (zcb A λ_ d=>.int d.rows.length))(Ge:GC P w K mg base cm 3 "Disk" A.Disk ["self","stretches","places"] (zer A)):zo P w K mg base CX0 cm 5 f fd ["self"] (zhW A):=by
 refine F.ok zjg (λvs H Q E h=>?_) (λcdv Ar outer s H vs Q E hr h=>?_)
 .obtain ⟨p,wl,sl,cells,m,d,rfl,_⟩:=h;rfl
 .obtain ⟨p,wl,sl,cells,m,d,rfl,D,r3,r16,m0,m1,q⟩:=h;obtain ⟨dx,h1⟩:=D.ob;refine ⟨_,(W.h (zg (zx (i:=1) zjg.nd rfl (aK rfl) (ze6 Ge hr rfl (zb (m0D (zbn (clE (za 0)) T.cl_Disk M_Disk_stretches hr)) (zb (fD (zac T.cl_Disk T.na_Disk_width (clE (za 0)))) zc))))
   (zg (sfD (zaI T.cl_Disk T.na_Disk_written (clE (za 1)) (clE (zci (by intro h;exact nomatch h) (zaz.of zvN) (liD (zpP (clE (fD (zac T.cl_Disk T.na_Disk_written (clE (za 0))))))) (λ_ _ _ _ _=>(zC (i:=0) zrs rfl (aK rfl))) (λ_ _ _ _ _=>zc6) (λ_ _ _ _ _=>(zce zlV rfl T.n_list boot_list (zb (za 0) zc)))))))
   (zg (sfD (zaI T.cl_Disk T.na_Disk_at_sides (clE (za 1)) (clE (zce zlV rfl T.n_list boot_list (zb (fD (zac T.cl_Disk T.na_Disk_at_sides (clE (za 0)))) zc)))))
   (zg (sfD (zaI T.cl_Disk T.na_Disk_counted (clE (za 1)) (clE (fD (zac T.cl_Disk T.na_Disk_counted (clE (za 0)))))))
   (zh (zw (za 1)))))))),?_⟩
  simp_all only [h1,zhJ];refine ⟨p,wl,sl,cells,m,d,rfl,D,?_⟩;simp_all only [h1,zhh];intro x dx2 H2 n2;refine ⟨x,dx2,d.rows.length,m,rfl,n2.at_,by lia,by lia,m0,m1,λwl0 sl0 cells0 H3 D3 kp fr=>⟨rfl,?_⟩⟩;have s3:ze H H3:=λb o e=>kp b o (n2.same b o e) (zp e n2.no);have Dk:zB A H3 p wl sl cells m d:=D.keep (F:=[]) (zt.same s3) (λx _ z=>nomatch z);obtain ⟨dx3,g3⟩:=D3.ob;obtain ⟨dxk,gk⟩:=Dk.ob;have px:p≠x:=zp h1 n2.no;simp_all only [gk,zdv,za3];refine ⟨⟨_,SqL.of Dk.rows.w⟩,zau.lst (xs:=cells.map V.ref) (ztv H3 d.rows) (λi τ ys H' I=>?_) (λi τ ys H' I=>SqL.of (I.same _ _ Dk.rows.w)) ⟨⟨_,rfl⟩,⟨[],rfl,rfl,by simp,by simp,nodup_nil⟩,ze.refl _,by decide⟩ ?_ ?_⟩
  .obtain ⟨cs,e,l,_⟩:=I.ex;rw [e,am,l];exact zd2 (aW I.le (by decide))
  .intro N i v τ ys H' hi I hN;obtain ⟨t,rfl⟩:=I.τ;obtain ⟨cs,e,l,hc,hf,hcn⟩:=I.ex;rw [bh] at hi;obtain ⟨c,hci,rfl⟩:=bX.mp hi;have hcc:=I.same _ _ (Dk.rows.at_ i c hci);have hil:i<cells.length:=(ak.mp hci).1;simp_all only [hcc];intro c2 H4 n4;refine hN _ _ _ ⟨⟨_,rfl⟩,⟨cs++[c2],by rw [e,cr];rfl,by simp [l],λj b hb=>?_,λb hb=>?_,?_⟩,I.same.trans n4.same,by have:=Dk.rows.len;lia⟩
   .by_cases hj:j<cs.length
    .rw [dy hj] at hb;exact n4.same _ _ (hc j b hb)
    .have hjl:j<(cs++[c2]).length:=(ak.mp hb).1;have hj2:j=cs.length:=by rw [aG] at hjl;simp at hjl;lia
     rw [hj2,c9 (ae _)] at hb;simp at hb;subst hb;rw [hj2,l];exact n4.at_
   .rcases aS.mp hb with hb|hb
    .exact hf b hb
    .rw [ax] at hb;subst hb;exact I.same.free n4.no
   .refine fQ.mpr ⟨hcn,by simp,λa ha b hb=>?_⟩;rw [ax] at hb;subst hb;obtain ⟨j,hj⟩:=cM ha;exact zp (hc j a hj) n4.no
  .intro τ ys H4 I W H5 nW;obtain ⟨cs,e,l,hc,hf,hcn⟩:=I.ex;rw [am] at l;have s35:ze H3 H5:=I.same.trans nW.same;have g5:=s35 _ _ g3;have k5:=s35 _ _ gk;have w5:=nW.at_;rw [e] at w5;have sl5:(upd H5 x (.ins A.Disk dx3 (zA m W sl0 (DM.new d.rows.length)))) sl=some (.lst (d.sides.map tv)):=by
    rw [zd (zp D.sides n2.no)];exact s35 _ _ Dk.sides
   have ob5:(upd H5 x (.ins A.Disk dx3 (zA m W sl0 (DM.new d.rows.length)))) p=some (.ins A.Disk dxk (zA m wl sl d)):=by rw [zd px];exact k5
   have e0:(d.rows.length:Int).toNat=d.rows.length:=by lia
   rw [e0] at g5;simp_all only [g5,zsw,zdO,ob5,zs8,sl5];intro S H6 n6;have x6:H6 x=some (.ins A.Disk dx3 (zA m W sl0 (DM.new d.rows.length))):=n6.same _ _ zu;have p6:=n6.same _ _ ob5;have p7:(upd H6 x (.ins A.Disk dx3 (zA m W S (DM.new d.rows.length)))) p=some (.ins A.Disk dxk (zA m wl sl d)):=by rw [zd px];exact p6
   simp_all only [x6,zuD,zdO,p7,zew,zu,zhG,zb1];have xW:x≠W:=zp (I.same _ _ g3) nW.no;have xS:x≠S:=zp zu n6.no;have WS:W≠S:=zp (show (upd H5 x (.ins A.Disk dx3 (zA m W sl0 (DM.new d.rows.length)))) W=some _ by rw [zd (aU xW)];exact w5) n6.no;have csx:∀c∈cs,c≠x:=λc hcm=>aU (zp g3 (hf c hcm));have csat:∀c∈cs,∃o,H5 c=some o:=λc hcm=>by
    obtain ⟨j,hj⟩:=cM hcm;exact ⟨_,nW.same _ _ (hc j c hj)⟩
   have csW:∀c∈cs,c≠W:=λc hcm=>by
    obtain ⟨j,hj⟩:=cM hcm;exact zp (hc j c hj) nW.no
   have csS:∀c∈cs,c≠S:=λc hcm=>by
    obtain ⟨o,ho⟩:=csat c hcm;exact zp (show (upd H5 x (.ins A.Disk dx3 (zA m W sl0 (DM.new d.rows.length)))) c=some o by rw [zd (csx c hcm)];exact ho) n6.no
   have up:∀b o,b≠x->H5 b=some o->H6 b=some o:=λb o hb h=>n6.same _ _ (by rw [zd hb];exact h);have Sn:H S=none:=s3.free (s35.free (by have z:=n6.no;rw [zd (aU xS)] at z;exact z));refine q x W S cs _ ⟨⟨dx3,?_⟩,⟨?_,?_,λi c hi=>?_⟩,?_,?_⟩ (λb o hb=>?_) (λb hb=>?_)
   .exact zu.trans (congrArg (λl=>some (HO.ins A.Disk dx3 l)) (zo3 (d':=d.copy) rfl rfl rfl))
   .rw [zd (aU xW)];exact up _ _ (aU xW) w5
   .rw [l];exact Dk.rows.len
   .have hcm:=aE hi;rw [zd (csx c hcm)];exact up _ _ (csx c hcm) (nW.same _ _ (hc i c hi))
   .rw [zd (aU xS)];exact n6.at_
   .simp only [cg,au,not_or];exact ⟨⟨xW,xS,λz=>csx x z rfl⟩,⟨WS,λz=>csW W z rfl⟩,λz=>csS S z rfl,hcn⟩
   .have hbx:b≠x:=zp hb n2.no;rw [zd hbx];exact up _ _ hbx (s35 _ _ (s3 _ _ hb))
   .simp only [au] at hb;rcases hb with rfl|rfl|rfl|hb
    .exact n2.no
    .exact s3.free (I.same.free nW.no)
    .exact Sn
    .exact s3.free (hf b hb)
def DM.stop(d:DM)(x:Int):DM:={ d with left:=some x }
def zlM(A:zj):Sp:=λvs H Q _=>∃(p wl sl:Addr)(cells:List Addr)(m:Int)(d:DM)(x:Int),vs=[.ref p,.int x]/\zB A H p wl sl cells m d/\∀H',zB A H' p wl sl cells m (d.stop x)->zt [p] H H'->Q .non H'
theorem znk:zr ["self","many"] ["self","many"] (zn zgU):=fsc
theorem zu1(F:Fun K "stop" "Disk.stop" zgU f fd)(T:Txt w K mg A):zo P w K mg base CX0 cm 1 f fd ["self","many"] (zlM A):=by
 refine F.ok znk (λvs H Q E h=>?_) (λcdv Ar outer s H vs Q E hr h=>?_)
 .obtain ⟨p,wl,sl,cells,m,d,x,rfl,_⟩:=h;rfl
 .obtain ⟨p,wl,sl,cells,m,d,x,rfl,D,q⟩:=h;obtain ⟨dx,h1⟩:=D.ob;refine ⟨_,(W.h (zh (sfD (zaI T.cl_Disk T.na_Disk_left (clE (za 0)) (clE (za 1)))))),?_⟩;simp_all only [h1,zgW];exact ⟨zdO,q _ (D.obj (d':=d.stop x) rfl rfl) (zt.upd (by simp))⟩
end
abbrev zgk:Stmt:=zap (top 52) 0
abbrev zf8:Stmt:=zap (top 52) 2
abbrev zgX:Stmt:=zap (top 52) 14
def But(b:Addr)(H H':Hp):Prop:=∀a o,a≠b->H a=some o->H' a=some o
abbrev Tab:=List (Str×List Int)
variable{ks:List (Str×Tab)}
def zaN(H:Hp)(v:V)(l:List Int):Prop:=∃p,v = .ref p/\H p=some (.tup (l.map V.int))
def zaF(b k:Addr):List (Str×V):=[("births",.ref b),("kept",.ref k)]
structure zbu(H:Hp)(b:Addr)(t:Tab):Prop where
 ex:∃kvs,H b=some (.dK (sk kvs))/\Dct (zaN H) kvs t
 nd:(names t).Nodup
structure zbS(H:Hp)(b:Addr)(t:Tab):Prop where
 ex:∃kvs,Rd H b (.dK (sk kvs))/\Dct (zaN H) kvs t
 nd:(names t).Nodup
theorem zbu.r{t:Tab}(h:zbu H b t):zbS H b t:=let ⟨kvs,e,d⟩:=h.ex;⟨⟨kvs,.inl e,d⟩,h.nd⟩
structure zbE(A:zj)(H:Hp)(q b k:Addr)(t:Tab):Prop where
 ob:∃dx,H q=some (.ins A.Files dx (zaF b k))
 births:zbS H b t
 kept:Rd H k (.dK (sk []))
def zbi(A:zj)(H:Hp)(b k:Addr)(v:V)(t:Tab):Prop:=∃q b' k',v = .ref q/\zbE A H q b' k' t/\b'≠b/\b'≠k/\k'≠b/\k'≠k
structure zJ(A:zj)(H:Hp)(p b k:Addr)(t:Tab)(ks:List (Str×Tab)):Prop where
 ob:∃dx,H p=some (.ins A.Files dx (zaF b k))
 births:zbu H b t
 kept:∃kk,H k=some (.dK (sk kk))/\Dct (zbi A H b k) kk ks
 ndk:(names ks).Nodup
 ne:b≠k
structure zdc(A:zj)(H:Hp)(p b k:Addr)(t:Tab)(ks:List (Str×Tab)):Prop where
 ob:∃dx,H p=some (.ins A.Files dx (zaF b k))
 births:zbS H b t
 kept:∃kk,Rd H k (.dK (sk kk))/\Dct (zbi A H b k) kk ks
 ndk:(names ks).Nodup
theorem zJ.r{p k:Addr}{t:Tab}(h:zJ A H p b k t ks):zdc A H p b k t ks:=let ⟨kk,e,d⟩:=h.kept;⟨h.ob,h.births.r,⟨kk,.inl e,d⟩,h.ndk⟩
structure FS(H H':Hp):Prop where
 oth:∀a o,(∀kvs,o≠.dK kvs)->(∀ob kvs,o≠.frz ob (.dK kvs))->H a=some o->H' a=some o
 dic:∀a kvs,Rd H a (.dK kvs)->Rd H' a (.dK kvs)
theorem FS.of(s:ze H H'):FS H H':=⟨λa o _ _ e=>s a o e,λa kvs r=>r.elim (λe=>.inl (s _ _ e)) (λ⟨o,e⟩=>.inr ⟨o,s _ _ e⟩)⟩
theorem Rd.same{u:HO}(h:Rd H a u)(s:ze H H'):Rd H' a u:=h.elim (λe=>.inl (s _ _ e)) (λ⟨o,e⟩=>.inr ⟨o,s _ _ e⟩)
theorem But.upd{o:HO}:But b H (upd H b o):=λa u n e=>by rw [zd n];exact e
theorem zaN.but(h:zaN H v l)(s:But b H H')(hb:∀xs,H b≠some (.tup xs)):zaN H' v l:=by
 obtain ⟨p,e,hp⟩:=h;exact ⟨p,e,s p _ (λz=>by subst z;exact hb _ hp) hp⟩
theorem zaN.same(h:zaN H v l)(s:ze H H'):zaN H' v l:=let ⟨p,e,hp⟩:=h;⟨p,e,s p _ hp⟩
theorem zbu.but{t:Tab}(h:zbu H b t)(s:But x H H')(hx:∀xs,H x≠some (.tup xs))(n:b≠x):zbu H' b t:=by
 obtain ⟨kvs,e,d⟩:=h.ex;exact ⟨⟨kvs,s _ _ n e,d.imp λv a r=>r.but s hx⟩,h.nd⟩
theorem zbu.same{t:Tab}(h:zbu H b t)(s:ze H H'):zbu H' b t:=by
 obtain ⟨kvs,e,d⟩:=h.ex;exact ⟨⟨kvs,s _ _ e,d.imp λv a r=>r.same s⟩,h.nd⟩
theorem zbS.but{t:Tab}(h:zbS H b t)(s:But x H H')(hx:∀xs,H x≠some (.tup xs))(n:b≠x):zbS H' b t:=by
 obtain ⟨kvs,e,d⟩:=h.ex;exact ⟨⟨kvs,e.elim (λe=>.inl (s _ _ n e)) (λ⟨o,e⟩=>.inr ⟨o,s _ _ n e⟩),d.imp λv a r=>r.but s hx⟩,h.nd⟩
theorem zaN.fs(h:zaN H v l)(s:FS H H'):zaN H' v l:=let ⟨p,e,hp⟩:=h;⟨p,e,s.oth p _ (λ_=>nofun) (λ_ _=>nofun) hp⟩
theorem zbS.fs{t:Tab}(h:zbS H b t)(s:FS H H'):zbS H' b t:=by
 obtain ⟨kvs,e,d⟩:=h.ex;exact ⟨⟨kvs,s.dic _ _ e,d.imp λv a r=>r.fs s⟩,h.nd⟩
theorem zbE.but{k:Addr}{t:Tab}{kvs:List (Key×V)}(h:zbE A H q b k t)(s:But x H H')(hx:H x=some (.dK kvs))(n1:b≠x)(n2:k≠x):zbE A H' q b k t:=by
 obtain ⟨dx,e⟩:=h.ob;exact ⟨⟨dx,s _ _ (λz=>by subst z;rw [e] at hx;cases hx) e⟩,h.births.but s (λxs z=>by rw [z] at hx;cases hx) n1,h.kept.elim (λe=>.inl (s _ _ n2 e)) (λ⟨o,e⟩=>.inr ⟨o,s _ _ n2 e⟩)⟩
theorem zbE.fs{k:Addr}{t:Tab}(h:zbE A H q b k t)(s:FS H H'):zbE A H' q b k t:=let ⟨dx,e⟩:=h.ob;⟨⟨dx,s.oth _ _ (λ_=>nofun) (λ_ _=>nofun) e⟩,h.births.fs s,s.dic _ _ h.kept⟩
theorem zbE.same{k:Addr}{t:Tab}(h:zbE A H q b k t)(s:ze H H'):zbE A H' q b k t:=h.fs (.of s)
theorem zbi.fs{k:Addr}{t:Tab}(h:zbi A H b k v t)(s:FS H H'):zbi A H' b k v t:=let ⟨q,b',k',e,r,n⟩:=h;⟨q,b',k',e,r.fs s,n⟩
theorem zdc.fs{p k:Addr}{t:Tab}(h:zdc A H p b k t ks)(s:FS H H'):zdc A H' p b k t ks:=by
 obtain ⟨dx,e⟩:=h.ob;obtain ⟨kk,e2,d⟩:=h.kept;exact ⟨⟨dx,s.oth _ _ (λ_=>nofun) (λ_ _=>nofun) e⟩,h.births.fs s,⟨kk,s.dic _ _ e2,d.imp λv a r=>r.fs s⟩,h.ndk⟩
theorem zJ.fs{p k d:Addr}{t:Tab}(h:zJ A H p b k t ks)(s:FS H H')(bt:But d H H')(n1:b≠d)(n2:k≠d):zJ A H' p b k t ks:=by
 obtain ⟨dx,e⟩:=h.ob;obtain ⟨kk,e2,d⟩:=h.kept;obtain ⟨kvs,e3,d3⟩:=h.births.ex;exact ⟨⟨dx,s.oth _ _ (λ_=>nofun) (λ_ _=>nofun) e⟩,⟨⟨kvs,bt _ _ n1 e3,d3.imp λv a r=>r.fs s⟩,h.births.nd⟩,⟨kk,bt _ _ n2 e2,d.imp λv a r=>r.fs s⟩,h.ndk,h.ne⟩
theorem zbi.same{k:Addr}{t:Tab}(h:zbi A H b k v t)(s:ze H H'):zbi A H' b k v t:=let ⟨q,b',k',e,r,n⟩:=h;⟨q,b',k',e,r.same s,n⟩
theorem zJ.same{p k:Addr}{t:Tab}(h:zJ A H p b k t ks)(s:ze H H'):zJ A H' p b k t ks:=by
 obtain ⟨dx,e⟩:=h.ob;obtain ⟨kk,e2,d⟩:=h.kept;exact ⟨⟨dx,s _ _ e⟩,h.births.same s,⟨kk,s _ _ e2,d.imp λv a r=>r.same s⟩,h.ndk,h.ne⟩
theorem zJ.setB{p k:Addr}{t t':Tab}{kvs':List (Str×V)}(h:zJ A H p b k t ks)(s:But b H H')(e:H' b=some (.dK (sk kvs')))(d':Dct (zaN H') kvs' t')(nd:(names t').Nodup):zJ A H' p b k t' ks:=by
 obtain ⟨dx,e1⟩:=h.ob;obtain ⟨kk,e2,d⟩:=h.kept;obtain ⟨kvs,e3,_⟩:=h.births.ex;exact ⟨⟨dx,s _ _ (λz=>by subst z;rw [e1] at e3;cases e3) e1⟩,⟨⟨kvs',e,d'⟩,nd⟩,⟨kk,s _ _ (aU h.ne) e2,d.imp λv a ⟨q,b',k',ev,r,n1,n2,n3,n4⟩=>⟨q,b',k',ev,r.but s e3 n1 n3,n1,n2,n3,n4⟩⟩,h.ndk,h.ne⟩
theorem zJ.setK{p k:Addr}{t:Tab}{ks':List (Str×Tab)}{kk':List (Str×V)}(h:zJ A H p b k t ks)(s:But k H H')(e:H' k=some (.dK (sk kk')))(d':Dct (zbi A H' b k) kk' ks')(nd:(names ks').Nodup):zJ A H' p b k t ks':=by
 obtain ⟨dx,e1⟩:=h.ob;obtain ⟨kk,e2,d⟩:=h.kept;exact ⟨⟨dx,s _ _ (λz=>by subst z;rw [e1] at e2;cases e2) e1⟩,h.births.but s (λxs z=>by rw [z] at e2;cases e2) h.ne,⟨kk',e,d'⟩,nd,h.ne⟩
theorem zbi.but{k:Addr}{t:Tab}{kvs:List (Key×V)}(h:zbi A H b k v t)(s:But k H H')(hx:H k=some (.dK kvs)):zbi A H' b k v t:=let ⟨q,b',k',ev,r,n1,n2,n3,n4⟩:=h;⟨q,b',k',ev,r.but s hx n2 n4,n1,n2,n3,n4⟩
section
variable {P:aI}{w:aZ}{K:Frag}{mg:Str->Option Value}{base:Heap}{A:zj}{b k:Addr}
theorem zbI:(zaF b k).lookup ("births":Str)=some (.ref b):=by kernel_rfl
theorem zgQ:(zaF b k).lookup ("kept":Str)=some (.ref k):=by kernel_rfl
theorem zhB:(zaF b k).lookup ("many":Str)=none:=by kernel_rfl
theorem zs3:(zaF b k).lookup ("put":Str)=none:=by kernel_rfl
theorem zty:(zaF b k).lookup ("cut":Str)=none:=by kernel_rfl
theorem zpb:(zaF b k).lookup ("hold":Str)=none:=by kernel_rfl
theorem zkx:(zaF b k).lookup ("bare":Str)=none:=by kernel_rfl
theorem zs5:(zaF b k).lookup ("keep":Str)=none:=by kernel_rfl
theorem zlH:(zaF b k).lookup ("refuse_if_none":Str)=none:=by kernel_rfl
def zgV(A:zj):Sp:=λvs H Q _=>∃(p dx:Addr),vs=[.ref p]/\H p=some (.ins A.Files dx [])/\∀b k H',But p H H'->H b=none->H k=none->H' b=some (.dK (sk []))->H' k=some (.dK (sk []))->b≠k->H' p=some (.ins A.Files dx (zaF b k))->Q .non H'
theorem zt0:zr ["self"] ["self"] (zn zgk):=fsc
theorem zqo(F:Fun K "__init__" "Files.__init__" zgk f fd)(T:Txt w K mg A):zo P w K mg base CX0 true 1 f fd ["self"] (zgV A):=by
 refine F.ok zt0 (λvs H Q E h=>?_) (λcdv Ar outer s H vs Q E hr h=>?_)
 .obtain ⟨p,dx,rfl,_⟩:=h;rfl
 .obtain ⟨p,dx,rfl,hp,q⟩:=h;refine ⟨_,(W.h (zg (sfD (zaI T.cl_Files T.na_Files_births (clE (za 0)) (clE zlU)))
   (zh (sfD (zaI T.cl_Files T.na_Files_kept (clE (za 0)) (clE zlU)))))),?_⟩
  simp_all only [];refine λb H1 n1=>⟨dx,[],n1.same _ _ hp,by decide,λk H2 n2=>⟨dx,_,n2.same _ _ zu,by show 1<1000;decide,?_⟩⟩;have bp:b≠p:=λz=>by have:=n1.no;rw [z,hp] at this;cases this
  have kp:k≠p:=λz=>by have:=n2.no;rw [z,zu] at this;cases this
  have k1:H1 k=none:=by have:=n2.no;rw [zd kp] at this;exact this
  have eF:zH ("kept":Str) (V.ref k) (zH ("births":Str) (V.ref b) [])=zaF b k:=by kernel_rfl
  have e2:H2 b=some (.dK []):=n2.same _ _ (by rw [zd bp];exact n1.at_);rw [eF];refine q b k _ (λa o n e=>?_) n1.no (n1.same.free k1) (by rw [zd bp];exact e2) (by rw [zd kp];exact n2.at_) (λz=>?_) zu
  .rw [zd n];exact n2.same _ _ (by rw [zd n];exact n1.same _ _ e)
  .have:=n2.no;rw [<- z,zd bp,n1.at_] at this;cases this
def lk(t:Tab)(n:Str):List Int:=(look t n).getD []
def zhj(A:zj):Sp:=λvs H Q _=>∃(p b k:Addr)(t:Tab)(ks:List (Str×Tab))(n:Str),vs=[.ref p,.str n]/\zdc A H p b k t ks/\∀H',ze H H'->Q (.int (lk t n).length) H'
theorem zbu.get{t:Tab}{kvs:List (Str×V)}(d:Dct (zaN H) kvs t)(n:Str){p:Addr}(s:ze H H')(hp:H' p=some (.tup [])):∃a,(look kvs n).getD (.ref p) = .ref a/\H' a=some (.tup ((lk t n).map V.int)):=by
 rcases d.look n with ⟨v,l,e1,e2,a,ev,ha⟩|⟨e1,e2⟩
 .exact ⟨a,by rw [e1,ev];rfl,by unfold lk;rw [e2];exact s _ _ ha⟩
 .exact ⟨p,by rw [e1];rfl,by unfold lk;rw [e2];exact hp⟩
theorem zqJ:zr ["self","file"] ["self","file"] (zn zf8):=fsc
theorem zmY(F:Fun K "many" "Files.many" zf8 f fd)(T:Txt w K mg A):zo P w K mg base CX0 true 1 f fd ["self","file"] (zhj A):=by
 refine F.ok zqJ (λvs H Q E h=>?_) (λcdv Ar outer s H vs Q E hr h=>?_)
 .obtain ⟨p,b,k,t,ks,n,rfl,_⟩:=h;rfl
 .obtain ⟨p,b,k,t,ks,n,rfl,hF,q⟩:=h;refine ⟨_,(W.h (zh (zw (zI zak rfl T.n_len aX (zb (zjF (zab hr) (fD (zac T.cl_Files T.na_Files_births (clE (za 0)))) (za 1) (zaO zc)) zc))))),?_⟩;obtain ⟨dx,e1⟩:=hF.ob;obtain ⟨kvs,e2,d⟩:=hF.births.ex;simp_all only [e1,zbI];refine ⟨⟨_,e2⟩,cf _,λp' H2 n2=>⟨_,Rd.same e2 n2.same,?_⟩⟩;obtain ⟨a,ea,ha⟩:=zbu.get d n n2.same n2.at_;rw [zc5,ea,zeu];exact ⟨_,.inr ha,by rw [am];exact q H2 n2.same⟩
theorem Dct.some_iff{R:V->α->Prop}{kvs:List (Str×V)}{t:List (Str×α)}(d:Dct R kvs t)(n:Str):(look kvs n).isSome=(look t n).isSome:=by
 rcases d.look n with ⟨v,l,e1,e2,_⟩|⟨e1,e2⟩<;>rw [e1,e2]<;>rfl
def zmj(A:zj):Sp:=λvs H Q _=>∃(p b k:Addr)(t:Tab)(ks:List (Str×Tab))(n:Str),vs=[.ref p,.str n]/\zdc A H p b k t ks/\(look t n).isSome=true/\Q .non H
theorem zpl:zr ["self","file"] ["self","file"] (zn zgX):=fsc
theorem zsp(F:Fun K "refuse_if_none" "Files.refuse_if_none" zgX f fd)(T:Txt w K mg A):zo P w K mg base CX0 true 1 f fd ["self","file"] (zmj A):=by
 refine F.ok zpl (λvs H Q E h=>?_) (λcdv Ar outer s H vs Q E hr h=>?_)
 .obtain ⟨p,b,k,t,ks,n,rfl,_⟩:=h;rfl
 .obtain ⟨p,b,k,t,ks,n,rfl,hF,hn,q⟩:=h;refine ⟨_,(W.h (zh (zN (tD (zF (clO (zpT (zab hr))) (clE (za 1)) (clE (fD (zac T.cl_Files T.na_Files_births (clE (za 0))))) rfl))
   (zh zdf)
   zQ))),?_⟩
  obtain ⟨dx,e1⟩:=hF.ob;obtain ⟨kvs,e2,d⟩:=hF.births.ex;simp_all only [e1,zbI];refine ⟨_,e2,?_⟩;rw [zc5,Dct.some_iff d n,hn];exact zd7 q
end
abbrev zhu:Stmt:=zap (top 52) 4
abbrev zgh:Stmt:=zap (top 52) 5
section
variable {P:aI}{w:aZ}{K:Frag}{mg:Str->Option Value}{base:Heap}{A:zj}{b k:Addr}
theorem zmU{a b:Int}(h1:a<=i)(h2:i<=b):zdk (.int i) a b=true:=by
 show (decide (a<=i)&&decide (i<=b))=true;rw [decide_eq_true h1,decide_eq_true h2];rfl
theorem zeL(h0:0<=i)(h1:i<=xs.length):zaw xs none (some i)=xs.take i.toNat:=by
 have e1:HT.sIx xs.length 0 none=0:=rfl;have e2:HT.sIx xs.length xs.length (some i)=i.toNat:=by
  unfold HT.sIx;simp only;split<;>lia
 unfold zaw;rw [e1,e2];simp
theorem zij(h0:0<=i)(h1:i<=xs.length+1):zaw xs (some i) none=xs.drop i.toNat:=by
 have e1:HT.sIx xs.length xs.length none=xs.length:=rfl;have e2:HT.sIx xs.length 0 (some i)=min i.toNat xs.length:=by
  unfold HT.sIx;simp only;split<;>lia
 unfold zaw;rw [e1,e2];by_cases h:i.toNat<=xs.length
 .rw [Nat.min_eq_left h,bo (by rw [cF];lia)]
 .rw [Nat.min_eq_right (by lia),eU (ae _),eU (by lia)];simp
def ziw(A:zj):Sp:=λvs H Q _=>∃(p b k:Addr)(t:Tab)(ks:List (Str×Tab))(n:Str)(i x:Int),vs=[.ref p,.str n,.int i,.int x]/\zJ A H p b k t ks/\0<=i/\i<=(lk t n).length/\(lk t n).length<=1000/\t.length<=1000 /\
 ∀H',But b H H'->zJ A H' p b k (zaL t n ((lk t n).take i.toNat++[x]++(lk t n).drop (i.toNat+1))) ks->Q .non H'
theorem zko:zr ["self","file","place","birth","births"] ["self","file","place","birth"] (zn zhu):=fsc
theorem zqV(F:Fun K "put" "Files.put" zhu f fd)(T:Txt w K mg A)(M_Files_many:GM P w K mg base true 1 A.Files "many" ["self","file"] (zhj A))(Gc:GF P w K mg base true 2 "is_within" ["value","least","most"] zfk):zo P w K mg base CX0 true 4 f fd ["self","file","place","birth"] (ziw A):=by
 refine F.ok zko (λvs H Q E h=>?_) (λcdv Ar outer s H vs Q E hr h=>?_)
 .obtain ⟨p,b,k,t,ks,n,i,x,rfl,_⟩:=h;rfl
 .obtain ⟨p,b,k,t,ks,n,i,x,rfl,hF,i0,i1,l1,t1,q⟩:=h;refine ⟨_,(W.h (zg (zN (zcT (za0 (caD (zy Gc hr rfl (clP (zb (za 2) (zb zi (zb (mD (za4 (clE (za 0)) T.cl_Files M_Files_many hr (clP (zb (za 1) zc)))) zc))))))))
   (zh zdf)
   zQ)
   (zg (zx (i:=4) zko.nd rfl (aK rfl) (zjF (zab hr) (fD (zac T.cl_Files T.na_Files_births (clE (za 0)))) (za 1) (zaO zc)))
   (zh (zbp (zl zfD (zl zfD (zbQ zf0 (za 4) zbO (zbP (za 2))) (zaO (zb (za 3) zc))) (zbQ zf0 (za 4) (zbP (zl zfD (za 2) zi)) zbO)) (zcM (fD (zac T.cl_Files T.na_Files_births (clE (za 0)))) (za 1) (zgr (zab hr)))))))),?_⟩
  obtain ⟨dx,e1⟩:=hF.ob;simp_all only [e1,zbI,zhB];refine ⟨p,b,k,t,ks,n,rfl,hF.r,λH1 s1=>?_⟩;have F1:=hF.same s1;obtain ⟨dx',e1'⟩:=F1.ob;obtain ⟨kvs,e2,d⟩:=F1.births.ex;simp_all only [];refine ⟨_,_,_,rfl,.int i,?_⟩;rw [zmU i0 i1];simp_all only [e1',zbI];refine ⟨⟨_,.inl e2⟩,cf _,λp1 H2 n2=>⟨_,.inl (n2.same _ _ e2),?_⟩⟩;obtain ⟨a,ea,ha⟩:=zbu.get d n n2.same n2.at_;rw [zc5,ea];simp_all only [ha];intro p2 H3 s3 e3;refine ⟨by decide,λp3 H4 n4=>?_⟩;rw [zeL i0 (by rw [am];exact i1)] at e3;have big:∀n:Nat,n<=100000->n<=sizeLine:=λn h=>aW h (by decide);refine .inr ⟨_,n4.same _ _ e3,_,n4.at_,big _ (by simp;lia),λp4 H5 s5 e5=>?_⟩;have ha5:=s5 _ _ (n4.same _ _ (s3 _ _ ha));refine .inr ⟨_,ha5,λp6 H6 s6 e6=>?_⟩;rw [zij (by lia) (by rw [am];lia)] at e6;refine .inr ⟨_,s6 _ _ e5,_,e6,big _ (by simp;lia),λp7 H7 s7 e7=>?_⟩;have sB:ze H1 H7:=((((n2.same.trans s3).trans n4.same).trans s5).trans s6).trans s7;have F7:=F1.same sB;obtain ⟨dx7,e17⟩:=F7.ob;simp_all only [e17,zbI];refine ⟨_,sB _ _ e2,by rw [zg9,d.length];exact dv t1 (by decide),?_⟩;rw [zg5];have bt:∀xs,H7 b≠some (.tup xs):=λxs z=>by rw [sB _ _ e2] at z;cases z
  have et:(i+1).toNat=i.toNat+1:=by lia
  have d7:Dct (zaN H7) kvs t:=d.imp λv a r=>r.same sB;have r7:zaN H7 (.ref p7) ((lk t n).take i.toNat++[x]++(lk t n).drop (i.toNat+1)):=⟨p7,rfl,by rw [e7,et];simp [map_take,List.map_drop]⟩;refine q _ (λc o nc e=>by rw [zd nc];exact sB _ _ (s1 _ _ e)) (F7.setB But.upd zu ((d7.put n r7).imp λv a r=>r.but But.upd bt) (zgj hF.births.nd))
def zhE(t:Tab)(n:Str)(m:Int):Tab:=if m=0 then zaj t n else zaL t n ((lk t n).take m.toNat)
def ziL(A:zj):Sp:=λvs H Q _=>∃(p b k:Addr)(t:Tab)(ks:List (Str×Tab))(n:Str)(l:List Int)(m:Int),vs=[.ref p,.str n,.int m]/\zJ A H p b k t ks/\look t n=some l/\0<=m/\m<=l.length/\t.length<=1000/\∀H',But b H H'->zJ A H' p b k (zhE t n m) ks->Q .non H'
theorem zou:zr ["self","file","many"] ["self","file","many"] (zn zgh):=fsc
theorem zsI(F:Fun K "cut" "Files.cut" zgh f fd)(T:Txt w K mg A)(M_Files_refuse_if_none:GM P w K mg base true 1 A.Files "refuse_if_none" ["self","file"] (zmj A))(M_Files_many:GM P w K mg base true 1 A.Files "many" ["self","file"] (zhj A))(Gc:GF P w K mg base true 2 "is_within" ["value","least","most"] zfk):zo P w K mg base CX0 true 4 f fd ["self","file","many"] (ziL A):=by
 refine F.ok zou (λvs H Q E h=>?_) (λcdv Ar outer s H vs Q E hr h=>?_)
 .obtain ⟨p,b,k,t,ks,n,l,m,rfl,_⟩:=h;rfl
 .obtain ⟨p,b,k,t,ks,n,l,m,rfl,hF,hn,m0,m1,t1,q⟩:=h;have hu:_<cLine:=bz (zab hr);refine ⟨_,(W.h (zg (zal (mD (za4 (clE (za 0)) T.cl_Files M_Files_refuse_if_none hr (clP (zb (za 1) zc)))))
   (zg (zN (zcT (za0 (caD (zy Gc hr rfl (clP (zb (za 2) (zb zi (zb (mD (za4 (clE (za 0)) T.cl_Files M_Files_many hr (clP (zb (za 1) zc)))) zc))))))))
   (zh zdf)
   zQ)
   (zh (zN (tD (zF (clO (oE (zaK hu))) (clE (za 2)) (clE zi) (zD _)))
   (zh (zpQ (fD (zac T.cl_Files T.na_Files_births (clE (za 0)))) (za 1)))
   (zh (zbp (zbQ zf0 (zV (zuQ (zab hr)) (fD (zac T.cl_Files T.na_Files_births (clE (za 0)))) (za 1) (λ_ _=>rfl)) zbO (zbP (za 2))) (zcM (fD (zac T.cl_Files T.na_Files_births (clE (za 0)))) (za 1) (zgr (zab hr)))))))))),?_⟩
  obtain ⟨dx,e1⟩:=hF.ob;simp_all only [e1,zbI,zlH,zhB];refine ⟨p,b,k,t,ks,n,rfl,hF.r,by rw [hn];rfl,?_⟩;simp_all only [e1,zbI,zlH,zhB];refine ⟨p,b,k,t,ks,n,rfl,hF.r,λH1 s1=>?_⟩;have F1:=hF.same s1;obtain ⟨dx',e1'⟩:=F1.ob;obtain ⟨kvs,e2,d⟩:=F1.births.ex;have el:lk t n=l:=by unfold lk;rw [hn];rfl
  simp_all only [];refine ⟨_,_,_,rfl,.int m,?_⟩;rw [zmU m0 (by rw [el];lia)];simp_all only [e1',zbI];have bt:∀xs,H1 b≠some (.tup xs):=λxs z=>by rw [e2] at z;cases z
  obtain ⟨v,l',d1,d2,a,ev,ha⟩:∃v l',look kvs n=some v/\look t n=some l'/\zaN H1 v l':=by
   rcases d.look n with ⟨v,l',d1,d2,r⟩|⟨_,d2⟩
   .exact ⟨v,l',d1,d2,r⟩
   .rw [hn] at d2;cases d2
  rw [hn] at d2;cases d2;subst ev;refine zO (λh=>?_) (λh=>?_)
  .have hm:m=0:=of_decide_eq_true h;refine ⟨_,e2,by rw [zc5,d1];rfl,?_⟩;rw [zop];have ec:zhE t n m=zaj t n:=if_pos hm;refine q _ (λc o nc e=>by rw [zd nc];exact s1 _ _ e) ?_;rw [ec];exact F1.setB But.upd zu ((d.drop n).imp λv a r=>r.but But.upd bt) (zpA hF.births.nd)
  .have hm : ¬ m=0:=λz=>h (decide_eq_true z);refine ⟨_,.inl e2,.ref a,by rw [zc5];exact d1,?_⟩;simp_all only [ha];intro p2 H2 s2 ep;rw [zeL m0 (by rw [am];exact m1)] at ep;have F2:=F1.same s2;obtain ⟨dx2,e12⟩:=F2.ob;simp_all only [e12,zbI];refine ⟨_,s2 _ _ e2,by rw [zg9,d.length];exact dv t1 (by decide),?_⟩;rw [zg5];have bt2:∀xs,H2 b≠some (.tup xs):=λxs z=>by rw [s2 _ _ e2] at z;cases z
   have d2:Dct (zaN H2) kvs t:=d.imp λv a r=>r.same s2;have r2:zaN H2 (.ref p2) ((lk t n).take m.toNat):=⟨p2,rfl,by rw [ep,el,map_take]⟩;have ec:zhE t n m=zaL t n ((lk t n).take m.toNat):=if_neg hm;refine q _ (λc o nc e=>by rw [zd nc];exact s2 _ _ (s1 _ _ e)) ?_;rw [ec];exact F2.setB But.upd zu ((d2.put n r2).imp λv a r=>r.but But.upd bt2) (zgj hF.births.nd)
end
abbrev zf4:Stmt:=zap (top 52) 6
abbrev zgD:Stmt:=zap (top 52) 12
abbrev zgw:Stmt:=zap (top 52) 13
section
variable {P:aI}{w:aZ}{K:Frag}{mg:Str->Option Value}{base:Heap}{A:zj}{b k:Addr}
structure Has(A:zj)(H:Hp)(p:Addr)(t:Tab):Prop where
 ob:∃b k dx,H p=some (.ins A.Files dx (zaF b k))/\zbS H b t
theorem zJ.has{p:Addr}{t:Tab}(h:zJ A H p b k t ks):Has A H p t:=let ⟨dx,e⟩:=h.ob;⟨b,k,dx,e,h.births.r⟩
def zgS(A:zj):Sp:=λvs H Q _=>∃(p:Addr)(t:Tab),vs=[.ref p]/\Has A H p t/\∀q b' k' H',ze H H'->H b'=none->H k'=none->H q=none->zbE A H' q b' k' t->Q (.ref q) H'
theorem zki:zr ["self","other"] ["self"] (zn zgD):=fsc
theorem zrn(F:Fun K "bare" "Files.bare" zgD f fd)(T:Txt w K mg A)(Gh:GC P w K mg base true 1 "Files" A.Files ["self"] (zgV A)):zo P w K mg base CX0 true 3 f fd ["self"] (zgS A):=by
 refine F.ok zki (λvs H Q E h=>?_) (λcdv Ar outer s H vs Q E hr h=>?_)
 .obtain ⟨p,t,rfl,_⟩:=h;rfl
 .obtain ⟨p,t,rfl,⟨b,k,dx,e1,hB⟩,q⟩:=h;refine ⟨_,(W.h (zg (zx (i:=1) zki.nd rfl (aK rfl) (zkK Gh hr rfl))
   (zg (sfD (zaI T.cl_Files T.na_Files_births (clE (za 1)) (clE (zce zmN rfl T.n_dict boot_dict (zb (fD (zac T.cl_Files T.na_Files_births (clE (za 0)))) zc)))))
   (zh (zw (za 1)))))),?_⟩
  obtain ⟨kvs,e2,d⟩:=hB.ex;simp_all only [e1,zbI];refine λx dx2 H2 nI=>⟨x,dx2,rfl,nI.at_,λb1 k1 H3 s3 nb nk eb ek nbk ex=>⟨rfl,?_⟩⟩;have px:∀c o,H c=some o->c≠x:=λc o e z=>by have:=nI.no;rw [<- z,e] at this;cases this
  have s03:∀c o,H c=some o->H3 c=some o:=λc o e=>s3 c o (px c o e) (nI.same c o e);have e13:=s03 _ _ e1;simp_all only [e13,zbI];refine ⟨_,Rd.same e2 s03,λb2 H4 n4=>⟨dx2,_,n4.same _ _ ex,by show 2<1000;decide,?_⟩⟩;have eF:zH ("births":Str) (V.ref b2) (zaF b1 k1)=zaF b2 k1:=by kernel_rfl
  rw [eF];have b2x:b2≠x:=λz=>by have:=n4.no;rw [z,ex] at this;cases this
  have k1x:k1≠x:=λz=>by rw [z,ex] at ek;cases ek
  have sF:ze H (upd H4 x (.ins A.Files dx2 (zaF b2 k1))):=λc o e=>by rw [zd (px c o e)];exact n4.same _ _ (s03 c o e)
  have fr:∀c,H3 c=none->H c=none:=λc e=>by
   cases h:H c with
   | none=>rfl
   | some o=>rw [s03 c o h] at e;cases e
  have k0:H k1=none:=nI.same.free nk;refine q x b2 k1 _ sF (fr b2 n4.no) k0 nI.no ⟨⟨dx2,zu⟩,⟨⟨kvs,.inl (by rw [zd b2x];exact n4.at_),d.imp λv a r=>r.same sF⟩,hB.nd⟩,.inl (by rw [zd k1x];exact n4.same _ _ ek)⟩
def zmG(A:zj):Sp:=λvs H Q _=>∃(p b k:Addr)(t:Tab)(ks:List (Str×Tab))(n:Str)(q:Addr)(u:Tab),vs=[.ref p,.str n,.ref q]/\zJ A H p b k t ks/\Has A H q u/\ks.length<=1000/\∀H',But k H H'->zJ A H' p b k t (zaL ks n u)->Q .non H'
theorem ztH:zr ["self","name","files"] ["self","name","files"] (zn zgw):=fsc
theorem ztS(F:Fun K "keep" "Files.keep" zgw f fd)(T:Txt w K mg A)(M_Files_bare:GM P w K mg base true 3 A.Files "bare" ["self"] (zgS A)):zo P w K mg base CX0 true 4 f fd ["self","name","files"] (zmG A):=by
 refine F.ok ztH (λvs H Q E h=>?_) (λcdv Ar outer s H vs Q E hr h=>?_)
 .obtain ⟨p,b,k,t,ks,n,q,u,rfl,_⟩:=h;rfl
 .obtain ⟨p,b,k,t,ks,n,qa,u,rfl,hF,hQ,kl,q⟩:=h;refine ⟨_,(W.h (zh (zbp (m0D (zbn (clE (za 2)) T.cl_Files M_Files_bare hr)) (zcM (fD (zac T.cl_Files T.na_Files_kept (clE (za 0)))) (za 1) (zgr (zab hr)))))),?_⟩;obtain ⟨dx,e1⟩:=hF.ob;obtain ⟨bq,kq,dxq,eq1,_⟩:=hQ.ob;simp_all only [eq1,zkx];refine ⟨qa,u,rfl,hQ,λx b' k' H1 s1 nb nk nx hB=>?_⟩;have F1:=hF.same s1;obtain ⟨dx1,e11⟩:=F1.ob;obtain ⟨kk,e2,d⟩:=F1.kept;obtain ⟨kvb,eb,_⟩:=hF.births.ex;obtain ⟨kk0,ek,_⟩:=hF.kept;simp_all only [e11,zgQ];refine ⟨_,e2,by rw [zg9,d.length];exact dv kl (by decide),?_⟩;rw [zg5];have ne:∀c o,H c=some o->∀e,H e=none->e≠c:=λc o h e he z=>by rw [z,h] at he;cases he
  have r:zbi A H1 b k (.ref x) u:=⟨x,b',k',rfl,hB,ne _ _ eb _ nb,ne _ _ ek _ nb,ne _ _ eb _ nk,ne _ _ ek _ nk⟩;exact q _ (λc o nc e=>by rw [zd nc];exact s1 _ _ e) (F1.setK But.upd zu ((d.put n r).imp λv a r=>r.but But.upd e2) (zgj hF.ndk))
def zmR(A:zj):Sp:=λvs H Q _=>∃(p b k:Addr)(t:Tab)(ks:List (Str×Tab))(n:Str),vs=[.ref p,.str n]/\zJ A H p b k t ks/\look ks n=none/\ks.length<=1000/\∀H',But k H H'->zJ A H' p b k t (zaL ks n t)->Q .non H'
theorem ztc:zr ["self","name"] ["self","name"] (zn zf4):=fsc
theorem ztO(F:Fun K "hold" "Files.hold" zf4 f fd)(T:Txt w K mg A)(M_Files_keep:GM P w K mg base true 4 A.Files "keep" ["self","name","files"] (zmG A)):zo P w K mg base CX0 true 5 f fd ["self","name"] (zmR A):=by
 refine F.ok ztc (λvs H Q E h=>?_) (λcdv Ar outer s H vs Q E hr h=>?_)
 .obtain ⟨p,b,k,t,ks,n,rfl,_⟩:=h;rfl
 .obtain ⟨p,b,k,t,ks,n,rfl,hF,hn,kl,q⟩:=h;refine ⟨_,(W.h (zg (zN (tD (zF (clO (zuU (zab hr))) (clE (za 1)) (clE (fD (zac T.cl_Files T.na_Files_kept (clE (za 0))))) rfl))
   (zh zdf)
   zQ)
   (zh (zal (mD (za4 (clE (za 0)) T.cl_Files M_Files_keep hr (clP (zb (za 1) (zb (za 0) zc))))))))),?_⟩
  obtain ⟨dx,e1⟩:=hF.ob;obtain ⟨kk,e2,d⟩:=hF.kept;simp_all only [e1,zgQ,zs5];refine ⟨_,.inl e2,?_⟩;rw [zc5,Dct.some_iff d n,hn];exact zd7 ⟨p,b,k,t,ks,n,p,t,rfl,hF,hF.has,kl,q⟩
end
abbrev zg6:Stmt:=zap (top 52) 11
abbrev zeN:Stmt:=zap (top 54) 0
def zhX(l:List (Int×α))(n:Int)(a:α):List (Int×α):=if n∈l.map (·.1) then l.map (λp=>if p.1=n then (p.1,a) else p) else l++[(n,a)]
theorem zmA{n:Int}:((ik kvs).any λkv=>decide (kv.1=(.inl n:Key)))=true↔n∈kvs.map (·.1):=by
 unfold ik;rw [List.any_map,List.any_eq_true];constructor
 .rintro ⟨p,hp,h⟩;have h:(Sum.inl p.1:Key) = .inl n:=of_decide_eq_true h;cases h;exact gs.mpr ⟨p,hp,rfl⟩
 .intro h;obtain ⟨p,hp,rfl⟩:=gs.mp h;exact ⟨p,hp,by simp⟩
theorem zuh{n:Int}:zan (ik kvs) (.inl n) v=ik (zhX kvs n v):=by
 unfold zan zhX;by_cases h:n∈kvs.map (·.1)
 .rw [if_pos (zmA.mpr h),if_pos h];unfold ik;rw [bU,bU];refine dX λp _=>?_;show (if (Sum.inl p.1:Key) = .inl n then _ else _)=_;by_cases e:p.1=n
  .rw [if_pos (by rw [e])];show _=(Sum.inl (if p.1=n then (p.1,v) else p).1,(if p.1=n then (p.1,v) else p).2);rw [if_pos e]
  .rw [if_neg (λz=>e (by cases z;rfl))];show _=(Sum.inl (if p.1=n then (p.1,v) else p).1,(if p.1=n then (p.1,v) else p).2);rw [if_neg e]
 .rw [if_neg (λz=>h (zmA.mp z)),if_neg h];unfold ik;rw [cr];rfl
theorem zvr:(ik kvs).length=kvs.length:=by simp [ik]
abbrev T3:=Int×Int×Int
def zdh(H:Hp)(p:Int×V)(t:T3):Prop:=p.1=t.1/\∃a,p.2 = .ref a/\H a=some (.tup [.int t.2.1,.int t.2.2])
def zcR(H:Hp)(a:Addr)(t:T3):Prop:=H a=some (.tup [.int t.1,.int t.2.1,.int t.2.2])
structure zj7(ts:List T3):Prop where
 nd:(ts.map (·.1)).Nodup
 few:ts.length<1000
 num:∀t∈ts,0<=t.1/\t.1<10 ^ 18
def ziG(f d:Addr)(n m:Int):List (Str×V):=[("own_files",.ref f),("spot_of",.ref d),("next_row",.int n),("next_mark",.int m)]
structure zs2(A:zj)(H:Hp)(x:Addr)(ts:List T3):Prop where
 ex:∃dx f d n m kvs,H x=some (.ins A.State dx (ziG f d n m))/\H d=some (.dK (ik kvs))/\Paired (zdh H) kvs ts
 ok:zj7 ts
theorem zdh.keep{p:Int×V}{t:T3}(h:zdh H p t)(k:∀r xs,H r=some (.tup xs)->H' r=some (.tup xs)):zdh H' p t:=let ⟨e,a,e2,e3⟩:=h;⟨e,a,e2,k _ _ e3⟩
theorem zsE{ts:List T3}(h:Paired (zdh H) kvs ts):kvs.map (·.1)=ts.map (·.1):=by
 induction h with
 | nil=>rfl
 | cons r _ ih=>rw [bQ,bQ,ih,r.1]
section
variable {P:aI}{w:aZ}{K:Frag}{mg:Str->Option Value}{base:Heap}{A:zj}{b k f d:Addr}{n m:Int}
theorem zne:(zaF b k).lookup ("copied":Str)=none:=by kernel_rfl
def zku(A:zj):Sp:=λvs H Q _=>∃(p b k:Addr)(t:Tab)(ks:List (Str×Tab)),vs=[.ref p]/\zJ A H p b k t ks/\∀q H',ze H H'->Q (.ref q) H'
theorem zmL:zr ["self","other"] ["self"] (zn zg6):=fsc
theorem zrh(F:Fun K "copied" "Files.copied" zg6 f fd)(T:Txt w K mg A)(M_Files_bare:GM P w K mg base true 3 A.Files "bare" ["self"] (zgS A)):zo P w K mg base CX0 true 4 f fd ["self"] (zku A):=by
 refine F.ok zmL (λvs H Q E h=>?_) (λcdv Ar outer s H vs Q E hr h=>?_)
 .obtain ⟨p,b,k,t,ks,rfl,_⟩:=h;rfl
 .obtain ⟨p,b,k,t,ks,rfl,hF,q⟩:=h;refine ⟨_,(W.h (zg (zx (i:=1) zmL.nd rfl (aK rfl) (m0D (zbn (clE (za 0)) T.cl_Files M_Files_bare hr)))
   (zg (sfD (zaI T.cl_Files T.na_Files_kept (clE (za 1)) (clE (zce zmN rfl T.n_dict boot_dict (zb (fD (zac T.cl_Files T.na_Files_kept (clE (za 0)))) zc)))))
   (zh (zw (za 1)))))),?_⟩
  obtain ⟨dx,e1⟩:=hF.ob;simp_all only [e1,zkx];refine ⟨p,t,rfl,hF.has,λx b' k' H1 s1 nb nk nx hB=>?_⟩;obtain ⟨dx1,ex1⟩:=hB.ob;have F1:=hF.same s1;obtain ⟨dx',e1'⟩:=F1.ob;obtain ⟨kk,e2,_⟩:=F1.kept;simp_all only [e1',zgQ];refine ⟨_,.inl e2,λkd H2 n2=>⟨dx1,_,n2.same _ _ ex1,by show 2<1000;decide,?_⟩⟩;exact q x _ λa o e=>by rw [zd (zp e nx)];exact n2.same _ _ (s1 _ _ e)
structure DcI(H:Hp)(ts:List T3)(i:Nat)(τ:L2.St)(ys:List (Key×V))(H':Hp):Prop where
 ex:∃t1 t2 t3,τ=[t1,t2,t3]
 ys:∃kvs,ys=ik kvs/\Paired (zdh H') kvs (ts.take i)
 same:ze H H'
def zmw(A:zj):Sp:=λvs H Q _=>∃(x p b k sl dx:Addr)(n m:Int)(t:Tab)(ks:List (Str×Tab))(as:List Addr)(ts:List T3),vs=[.ref x,.ref p,.ref sl,.int n,.int m]/\H x=some (.ins A.State dx [])/\zJ A H p b k t ks/\H sl=some (.lst (as.map V.ref))/\Paired (zcR H) as ts/\zj7 ts /\
 ∀H',But x H H'->zs2 A H' x ts->Q .non H'
theorem zm7:zr ["self","files","spots","next_number","mark_number"] ["self","files","spots","next_number","mark_number"] (zn zeN):=fsc
theorem zs9:zbk { kind:=.function,names:=[(aj ".0",.local),(aj "birth",.local),(aj "stretch",.local),(aj "place",.local)],isGenerator:=false,isCoroutine:=false,more:=[] } (zn zeN).names ["self","files","spots","next_number","mark_number"] ["birth","stretch","place"] [none,none,none]=true:=by decide +kernel
theorem zhA:(["birth","stretch","place"]:List Str).Nodup:=by decide +kernel
theorem zoL(F:Fun K "__init__" "State.__init__" zeN f fd)(T:Txt w K mg A)(M_Files_copied:GM P w K mg base true 4 A.Files "copied" ["self"] (zku A)):zo P w K mg base CX0 true 5 f fd ["self","files","spots","next_number","mark_number"] (zmw A):=by
 refine F.ok zm7 (λvs H Q E h=>?_) (λcdv Ar outer s H vs Q E hr h=>?_)
 .obtain ⟨x,p,b,k,sl,dx,n,m,t,ks,as,ts,rfl,_⟩:=h;rfl
 .obtain ⟨x,p,b,k,sl,dx,n,m,t,ks,as,ts,rfl,hx,hF,hs,hp,ok,q⟩:=h;refine ⟨_,(W.h (zg (sfD (zaI T.cl_State T.na_State_own_files (clE (za 0)) (clE (m0D (zbn (clE (za 1)) T.cl_Files M_Files_copied hr)))))
   (zg (sfD (zaI T.cl_State T.na_State_spot_of (clE (za 0)) (clE (zrj (λ_=>rfl) (zaz.of zs9) (liD (zd1 (clE (za 2)))) (λ_ _ _ _ _=>(zsB (n:=3) (gsD (zW (zC (i:=0) zhA rfl (aK rfl)) (gsD (zW (zC (i:=1) zhA rfl (aK rfl)) (gsD (zW (zC (i:=2) zhA rfl (aK rfl)) zbT)))))))) (λ_ _ _ _ _=>zc6) (λ_ _ _ _ _=>(za 0)) (λ_ _ _ _ _=>(zaO (zb (za 1) (zb (za 2) zc))))))))
   (zg (sfD (zaI T.cl_State T.na_State_next_row (clE (za 0)) (clE (za 3))))
   (zh (sfD (zaI T.cl_State T.na_State_next_mark (clE (za 0)) (clE (za 4))))))))),?_⟩
  obtain ⟨dxf,e1⟩:=hF.ob;simp_all only [e1,zne];refine ⟨p,b,k,t,ks,rfl,hF,λqf H1 s1=>⟨dx,[],s1 _ _ hx,by decide,?_⟩⟩;have tne:∀{o:HO}{r:Addr}{xs:List V},H1 r=some (.tup xs)->upd H1 x o r=some (.tup xs):=λ{o r xs} e=>by rw [zd (λz=>by rw [z,s1 _ _ hx] at e;cases e)];exact e
  have sx:sl≠x:=λz=>by rw [z,hx] at hs;cases hs
  have hs2:∀o,upd H1 x o sl=some (.lst (as.map V.ref)):=λo=>by rw [zd sx];exact s1 _ _ hs
  have hlen:=zcd hp;refine ⟨⟨_,SqL.of (hs2 _)⟩,zeD.lst (xs:=as.map V.ref) (DcI (upd H1 x _) ts) (λi τ ys H' I=>?_) (λi τ ys H' I=>SqL.of (I.same _ _ (hs2 _))) ⟨⟨_,_,_,rfl⟩,⟨[],rfl,.nil⟩,ze.refl _⟩ ?_ ?_⟩
  .obtain ⟨kvs,e,pr⟩:=I.ys;have:=zcd pr;have h2:=List.length_take_le' i ts;have:=ok.few;rw [e,zvr];exact za5 (by lia)
  .intro N i v τ ys H' hv I hN;obtain ⟨t1,t2,t3,rfl⟩:=I.ex;obtain ⟨kvs,e,pr⟩:=I.ys;rw [bh] at hv;obtain ⟨a,ha,rfl⟩:=bX.mp hv;have hi:i<ts.length:=by rw [<- hlen];exact (ak.mp ha).1
   have hti:ts[i]?=some ts[i]:=ah hi;have ht:=I.same _ _ (tne (o:=_) (s1 _ _ (zcj hp ha hti)));refine ⟨a,_,rfl,SqT.of ht,rfl,?_⟩;simp_all only [];refine ⟨by decide,λa2 H2 n2=>hN _ _ _ ⟨⟨_,_,_,rfl⟩,⟨kvs++[(ts[i].1,.ref a2)],?_,?_⟩,I.same.trans n2.same⟩⟩
   .have nin:ts[i].1∉kvs.map (·.1):=by
     rw [zsE pr];intro z;obtain ⟨u,hu,eu⟩:=gs.mp z;obtain ⟨j,hj,ej⟩:=dw hu;have hj':j<i:=by rw [bI] at hj;lia
     rw [ie] at ej;have hj2:j<(ts.map (·.1)).length:=by rw [am];lia
     have:=(gR hj2 ok.nd).mp (show (ts.map (·.1))[j]?=(ts.map (·.1))[i]? by rw [bh,bh,hti,ah (show j<ts.length by lia),ej];show some u.1=some ts[i].1;rw [eu]);lia
    rw [e,zuh];unfold zhX;rw [if_neg nin]
   .rw [di,hti];exact zdG (Paired.mapP pr λp t r=>r.keep λr xs e=>n2.same _ _ e) (.cons ⟨rfl,a2,rfl,n2.at_⟩ .nil)
  .intro τ ys H3 I D H4 n4;obtain ⟨kvs,e,pr⟩:=I.ys;rw [am,hlen,bo (ae _)] at pr;rw [e] at n4;have x4:=n4.same _ _ (I.same _ _ zu);refine ⟨dx,_,x4,by show 1<1000;decide,dx,_,zu,(dv (gB (show _=2 by kernel_rfl)) (by decide)),dx,_,zu,(dv (gB (show _=3 by kernel_rfl)) (by decide)),?_⟩;rw [zb1,zb1];have eF:zH ("next_mark":Str) (V.int m) (zH "next_row" (V.int n) (zH "spot_of" (V.ref D) (zH "own_files" (V.ref qf) [])))=ziG qf D n m:=by kernel_rfl
   rw [eF];have Dx:D≠x:=λz=>by have:=n4.no;rw [z,I.same _ _ zu] at this;cases this
   refine q _ (λa o na ea=>?_) ⟨⟨dx,qf,D,n,m,kvs,zu,by rw [zd Dx];exact n4.at_,Paired.mapP pr λp t r=>r.keep λr xs e=>?_⟩,ok⟩
   .rw [zd na];exact n4.same _ _ (I.same _ _ (by rw [zd na];exact s1 _ _ ea))
   .rw [zd (λz=>by rw [z,I.same _ _ zu] at e;cases e)];exact n4.same _ _ e
end
abbrev zgB:Stmt:=top 44
abbrev zia:Stmt:=top 43
section
variable {P:aI}{w:aZ}{K:Frag}{mg:Str->Option Value}{base:Heap}{A:zj}
def zdI(d:DM)(m:Int)(e:Option Nat)(n:Int):Int:=zms d m e+m*(if 0>n-1 then 0 else n-1)
def zjx(A:zj):Sp:=λvs H Q _=>∃(p wl sl:Addr)(cells:List Addr)(m:Int)(d:DM)(n:Nat),vs=[.ref p,.int n]/\zB A H p wl sl cells m d/\zaY d/\((nU d).map zq).Nodup/\(nU d).length<3000/\TB A H/\0<=m/\m<=1000/\n<=1000 /\
 ∀H',zG H H'->TB A H'->Q (.int (zdI d m (zbG d true) n)) H'
theorem zuO:zr ["disk","many"] ["disk","many"] (zn zgB):=fsc
theorem zna(F:Fun K "room_with" "room_with" zgB f fd)(T:Txt w K mg A)(GB:GF P w K mg base true 2 "free_in" ["disk","end"] (zjT A))(GD:GF P w K mg base true 10 "end_of" ["disk","is_hot"] (zj4 A))(M_Disk_places:GM P w K mg base true 1 A.Disk "places" ["self"] (zcb A λm _=>.int m)):zo P w K mg base CX0 true 11 f fd ["disk","many"] (zjx A):=by
 refine F.ok zuO (λvs H Q E h=>?_) (λcdv Ar outer s H vs Q E hr h=>?_)
 .obtain ⟨p,wl,sl,cells,m,d,n,rfl,_⟩:=h;rfl
 .obtain ⟨p,wl,sl,cells,m,d,n,rfl,D,tx,nd,h64,tb,m0,m1,n1,q⟩:=h;refine ⟨_,(W.h (zh (zw (zl zR (caD (zy GB hr rfl (clP (zb (za 0) (zb (caD (zy GD hr rfl (clP (zb (za 0) (zb zcG zc))))) zc))))) (zl zaT (m0D (zbn (clE (za 0)) T.cl_Disk M_Disk_places hr)) (zI (zkw rfl) rfl T.n_max boot_max (zb (zl (oI0 zct) (za 1) zi) (zb zi zc)))))))),?_⟩;simp_all only [];refine ⟨p,wl,sl,cells,m,d,true,rfl,D,tx,nd,h64,tb,λH1 s1 tb1=>?_⟩;have D1:=D.sameT s1;obtain ⟨dx,h1⟩:=D1.ob;refine ⟨p,wl,sl,cells,m,d,zbG d true,rfl,D1,λk e=>zmc e,?_⟩;simp_all only [h1,zhY];refine ⟨p,wl,sl,cells,m,d,rfl,D1,?_⟩;simp_all only [];refine ⟨.inl ⟨by lia,by lia⟩,?_⟩;exact q H1 s1 tb1
def zgE(A:zj):Sp:=λvs H Q _=>∃(p wl sl:Addr)(cells:List Addr)(m:Int)(d:DM),vs=[.ref p]/\zB A H p wl sl cells m d/\zaY d/\((nU d).map zq).Nodup/\(nU d).length<3000/\TB A H/\0<=m/\m<=1000/\d.rows.length<=16 /\
 ∀H',zG H H'->TB A H'->Q (.int (zdI d m (zbG d true) (emp d.rows d.rows.length).length)) H'
theorem zot:zr ["disk"] ["disk"] (zn zia):=fsc
theorem zp3(F:Fun K "room" "room" zia f fd)(T:Txt w K mg A)(GE:GF P w K mg base true 11 "room_with" ["disk","many"] (zjx A))(GG:GF P w K mg base true 2 "empties" ["disk"] (zmi A)):zo P w K mg base CX0 true 12 f fd ["disk"] (zgE A):=by
 refine F.ok zot (λvs H Q E h=>?_) (λcdv Ar outer s H vs Q E hr h=>?_)
 .obtain ⟨p,wl,sl,cells,m,d,rfl,_⟩:=h;rfl
 .obtain ⟨p,wl,sl,cells,m,d,rfl,D,tx,nd,h64,tb,m0,m1,r1,q⟩:=h;refine ⟨_,(W.h (zh (zw (caD (zy GE hr rfl (clP (zb (za 0) (zb (zI zak rfl T.n_len aX (zb (caD (zy GG hr rfl (clP (zb (za 0) zc)))) zc)) zc)))))))),?_⟩;simp_all only [];refine ⟨p,wl,sl,cells,m,d,rfl,D,r1,λl H1 n1 _=>?_⟩
  try simp_all only []
  refine ⟨_,.inl n1.at_,?_⟩;rw [am];have le:(emp d.rows d.rows.length).length<=1000:=by
   have:=zgt d.rows d.rows.length;lia
  exact ⟨p,wl,sl,cells,m,d,_,rfl,D.sameT (.of n1.same),tx,nd,h64,tb.same n1.same,m0,m1,le,λH2 s2 tb2=>q H2 ((zG.of n1.same).trans s2) tb2⟩
end
abbrev zhP:Stmt:=top 56
abbrev zgI:Stmt:=top 57
abbrev zga:Stmt:=top 58
section
variable {P:aI}{w:aZ}{K:Frag}{mg:Str->Option Value}{base:Heap}{A:zj}
def atD(ns:List Int)(k:Int):Int:=if k<ns.length then ns.getD k.toNat 0 else 0
def zfq(K:Frag):Sp:=λvs H Q _=>∃(a:Addr)(ns:List Int)(k:Int),vs=[.ref a,.int k]/\SqL K H a (ns.map V.int)/\0<=k/\Q (.int (atD ns k)) H
def zlq:Sp:=λvs H Q _=>∃(n k:Int),vs=[.int n,.int k]/\∀r:Int,1<=r->r<=2147483629->Q (.int r) H
def zeK(K:Frag):Sp:=λvs H Q _=>∃(a:Addr)(ns:List Int)(k m b:Int),vs=[.ref a,.int k,.int m,.int b]/\SqL K H a (ns.map V.int)/\0<=k/\0<=m/\m<=1000/\0<b/\b<1073741824 /\
 ∀(l:Addr)(ds:List Int)(H':Hp),ze H H'->H l=none->H' l=some (.lst (ds.map V.int))->ds.length=m.toNat->(∀d∈ds,0<=d/\d<b)->Q (.ref l) H'
theorem zoe:zr ["_law_script","_law_k"] ["_law_script","_law_k"] (zn zhP):=fsc
theorem zpp(F:Fun K "_law_at" "_law_at" zhP f fd)(T:Txt w K mg A):zo P w K mg base CX0 cm 1 f fd ["_law_script","_law_k"] (zfq K):=by
 refine F.ok zoe (λvs H Q E h=>?_) (λcdv Ar outer s H vs Q E hr h=>?_)
 .obtain ⟨a,ns,k,rfl,_⟩:=h;rfl
 .obtain ⟨a,ns,k,rfl,hS,hk,q⟩:=h;refine ⟨_,zlz (zlF (zkW zd0 (pv 1) (zjB zh1 rfl T.n_len aX (zb6 (pv 0) zbX)) (zD _))
   (zgz (zf7 (zma zjr (pv 0) (pv 1) (λ_ _=>rfl)))) zi4) (zgz (zf7 zeW)),?_⟩
  simp_all only [];refine ⟨_,.inl hS,?_⟩;rw [am];refine zO (λh=>?_) (λh=>?_)
  .have h':k<(ns.length:Int):=of_decide_eq_true h;have hn:k.toNat<ns.length:=by lia
   have e:atD ns k=ns[k.toNat]:=by unfold atD;rw [if_pos h',av,ah hn];rfl
   refine ⟨a,ns.map V.int,k,.int (ns[k.toNat]),rfl,rfl,hS,?_,by rw [<- e];exact q⟩;have z:atI (ns.map V.int) ((k.toNat:Nat):Int)=some (.int (ns[k.toNat])):=za8 (by rw [bh,ah hn];rfl);have kz:((k.toNat:Nat):Int)=k:=by lia
   rw [kz] at z;exact z
  .have h' : ¬ k<(ns.length:Int):=λz=>h (decide_eq_true z);have e:atD ns k=0:=by unfold atD;rw [if_neg h']
   rw [<- e];exact q
theorem zkN:zr ["_law_number","_law_k"] ["_law_number","_law_k"] (zn zgI):=fsc
theorem zqf(F:Fun K "_law_mixed" "_law_mixed" zgI f fd)(T:Txt w K mg A):zo P w K mg base CX0 cm 1 f fd ["_law_number","_law_k"] zlq:=by
 refine F.ok zkN (λvs H Q E h=>?_) (λcdv Ar outer s H vs Q E hr h=>?_)
 .obtain ⟨n,k,rfl,_⟩:=h;rfl
 .obtain ⟨n,k,rfl,q⟩:=h;refine ⟨_,(W.h (zg (zx (i:=0) zkN.nd rfl (aK rfl) (zl (oI zS) (zl zR (zl (oI zS) (za 0) zi) (zl zaT zi (zl zR (za 1) zi))) zi))
   (zh (zw (zl zR zi (zl (oI zS) (zl zR (zl zR (zl zaT (za 0) (za 0)) (zl zaT zi (za 0))) (zl zaT zi (za 1))) zi)))))),?_⟩
  simp_all only [];generalize hm:(n % 2147483629+48271*(k+1)) % 2147483629=m;have m0:0<=m:=by lia
  have m1:m<2147483629:=by lia
  refine ⟨by decide,.inl ⟨by decide,by decide⟩,by decide,.inl ⟨by lia,by lia⟩,.inl ⟨by decide,by decide⟩,.inl ⟨by decide,by decide⟩,by decide,q _ ?_ ?_⟩<;>lia
theorem zda:zr ["_law_script","_law_k","_law_many","_law_base","_law_left","_law_found","_law_turn"] ["_law_script","_law_k","_law_many","_law_base"] (zn zga):=fsc
structure zkj(H:Hp)(l a:Addr)(k m b:Int)(i:Nat)(σ:L2.St)(H':Hp):Prop where
 ex:∃(left:Int)(ds:List Int)(tn:Option V),σ=[some (V.ref a),some (.int k),some (.int m),some (.int b),some (.int left),some (.ref l),tn] /\
   ze H H'/\H' l=some (.lst (ds.map V.int))/\ds.length=i/\∀d∈ds,0<=d/\d<b
theorem zsm(F:Fun K "_law_row" "_law_row" zga f fd)(T:Txt w K mg A)(Gb:GF P w K mg base true 1 "_law_at" ["_law_script","_law_k"] (zfq K))(GH:GF P w K mg base true 1 "_law_mixed" ["_law_number","_law_k"] zlq):zo P w K mg base CX0 true 2 f fd ["_law_script","_law_k","_law_many","_law_base"] (zeK K):=by
 refine F.ok zda (λvs H Q E h=>?_) (λcdv Ar outer s H vs Q E hr h=>?_)
 .obtain ⟨a,ns,k,m,b,rfl,_⟩:=h;rfl
 .obtain ⟨a,ns,k,m,b,rfl,hS,hk,hm,hm2,hb,hb2,q⟩:=h;refine ⟨_,(W.h (zg (zx (i:=4) zda.nd rfl (aK rfl) (zl (oI0 zct) (caD (zy Gb hr rfl (clP (zb (za 0) (zb (za 1) zc))))) (zl (oI zpr) zi zi)))
   (zg (zx (i:=5) zda.nd rfl (aK rfl) (zaC zc))
   (zg (zbw dH.never (λ_=>rfl) (zbU rfl T.n_range (zb (za 2) zc)) (zC (i:=6) zda.nd rfl (aK rfl))
   (zg (zN (tD (zF (clO (oI0 zd0)) (clE (za 4)) (clE zi) (zD _)))
   (zh (zx (i:=4) zda.nd rfl (aK rfl) (caD (zy GH hr rfl (clP (zb (zl zR (caD (zy Gb hr rfl (clP (zb (za 0) (zb (za 1) zc))))) (zl zaT zi (caD (zy Gb hr rfl (clP (zb (za 0) (zb (zl zR (za 1) (zl (oI zS) (za 6) zi)) zc))))))) (zb (zl zR (zl zaT zi (za 1)) (za 6)) zc)))))))
   zQ)
   (zg (zal (zc1 (za 5) (zl (oI zS) (za 4) (za 3))))
   (zh (zx (i:=4) zda.nd rfl (aK rfl) (zl (oI zco) (za 4) (za 3)))))))
   (zh (zw (za 5))))))),?_⟩
  simp_all only [];refine ⟨a,ns,k,rfl,hS,hk,?_⟩;simp_all only [];refine ⟨⟨by decide,by decide,by decide⟩,by decide,λl H1 nl _=>?_⟩;have hl:=nl.no;refine ⟨by lia,by lia,?_⟩;have fin:∀(i:Nat)(H':Hp)(x:Int)(ds:List Int),i<m.toNat->ze H H'->H' l=some (.lst (ds.map V.int))->ds.length=i->(∀d∈ds,0<=d/\d<b) ->
    (fi V.int ds).length<sizeLine/\ziz x b/\zkj H l a k m b (i+1) [some (V.ref a),some (.int k),some (.int m),some (.int b),some (.int (x / b)),some (.ref l),some (.int (0+i))] (upd H' l (.lst (ds.map V.int++[.int (x % b)]))):=by
   intro i H' x ds hi sm hl' hlen hds;refine ⟨by rw [am];exact zd2 (by lia),⟨hb,hb2⟩,⟨x / b,ds++[x % b],_,rfl,λc o e=>by rw [zd (zp e hl)];exact sm c o e,by rw [zu,cr];rfl,by simp [hlen],λd hd=>?_⟩⟩;rcases aS.mp hd with hd|hd
   .exact hds d hd
   .rw [ax] at hd;subst hd;exact ⟨gD _ (by lia),fc _ hb⟩
  refine zat.rng (zkj H l a k m b) ⟨⟨_,[],_,rfl,nl.same,nl.at_,rfl,by simp⟩⟩ ?_ ?_
  .rintro i σ H' hi ⟨⟨left,ds,tn,rfl,sm,hl',hlen,hds⟩⟩;simp_all only [hl',hb,hb2];refine zO (λ_=>?_) (λ_=>?_)
   .refine ⟨a,ns,k,rfl,sm.seq hS,hk,?_⟩;simp_all only [hl',hb,hb2];refine ⟨by decide,a,ns,_,rfl,sm.seq hS,by lia,?_⟩;simp_all only [hl',hb,hb2];refine ⟨.inl ⟨by decide,by decide⟩,.inl ⟨by decide,by decide⟩,_,_,rfl,λr _ _=>?_⟩;simp_all only [hl',hb,hb2];exact fin i H' r ds hi sm hl' hlen hds
   .exact fin i H' left ds hi sm hl' hlen hds
  .rintro σ H' ⟨⟨left,ds,tn,rfl,sm,hl',hlen,hds⟩⟩;simp_all only [];exact q l ds H' sm hl hl' hlen hds
theorem zdl{xs:List α}(h0:0<=i)(h1:i<xs.length):∃v,atI xs i=some v/\v∈xs:=by
 have hn:i.toNat<xs.length:=by lia
 have z:atI xs ((i.toNat:Nat):Int)=some xs[i.toNat]:=za8 (ah hn);rw [show ((i.toNat:Nat):Int)=i by lia] at z;exact ⟨_,z,fO hn⟩
end
abbrev zem:Stmt:=top 64
abbrev zid:Stmt:=top 65
def onV:Option Int->V|none=>.non|some n=>.int n
abbrev Mdl:=List (List (Option Int))
variable{ms:Mdl}
structure zbf(H:Hp)(a:Addr)(cs:List Addr)(ms:Mdl):Prop where
 ls:H a=some (.lst (cs.map V.ref))
 rows:Paired (λc r=>H c=some (.lst (r.map onV))) cs ms
theorem zbf.same(h:zbf H a cs ms)(s:ze H H'):zbf H' a cs ms:=⟨s _ _ h.ls,Paired.mapP h.rows λ_ _ e=>s _ _ e⟩
theorem zbf.at(h:zbf H a cs ms){i:Nat}(hi:i<ms.length):∃c,cs[i]?=some c/\H c=some (.lst ((ms.getD i []).map onV)):=by
 have hl:=h.rows.length;have h1:cs[i]?=some cs[i]:=ah (by lia);have h2:ms[i]?=some ms[i]:=ah hi;refine ⟨_,h1,?_⟩;rw [av,h2];exact zcj h.rows h1 h2
def zaV(ms:Mdl):Nat->List Nat
 | 0=>[]
 | i+1=>zaV ms i++if (ms.getD i []).length=0 then [i] else []
theorem zi2(ms:Mdl):∀i,(zaV ms i).length<=i
 | 0=>ae _
 | i+1=>by show (zaV ms i++_).length<=_;have:=zi2 ms i;rw [aG];split<;>simp<;>lia
section
variable {P:aI}{w:aZ}{K:Frag}{mg:Str->Option Value}{base:Heap}{A:zj}
structure EmI(H:Hp)(a:Addr)(ms:Mdl)(i:Nat)(τ:L2.St)(ys:List V)(H':Hp):Prop where
 ex:∃t,τ=[t,some (V.ref a)]
 ys:ys=(zaV ms i).map iv
 same:ze H H'
 le:i<=16
def zl7:Sp:=λvs H Q _=>∃(a:Addr)(cs:List Addr)(ms:Mdl),vs=[.ref a]/\zbf H a cs ms/\ms.length<=16/\∀l H',ze H H'->H l=none->H' l=some (.lst ((zaV ms ms.length).map iv))->Q (.ref l) H'
theorem zsz:zr ["_law_model"] ["_law_model"] (zn zem):=fsc
theorem zqB:zbk { kind:=.function,names:=[(aj ".0",.local),(aj "_law_k",.local),(aj "_law_model",.free)],isGenerator:=false,isCoroutine:=false,more:=[] } (zn zem).names ["_law_model"] ["_law_k","_law_model"] [none,some 0]=true:=by decide +kernel
theorem zpG:(["_law_k","_law_model"]:List Str).Nodup:=by decide +kernel
theorem ztf(F:Fun K "_law_empty" "_law_empty" zem f fd)(T:Txt w K mg A):zo P w K mg base CX0 true 1 f fd ["_law_model"] zl7:=by
 refine F.ok zsz (λvs H Q E h=>?_) (λcdv Ar outer s H vs Q E hr h=>?_)
 .obtain ⟨a,cs,ms,rfl,_⟩:=h;rfl
 .obtain ⟨a,cs,ms,rfl,M,hl,q⟩:=h;have hu:_<cLine:=bz (zab hr);refine ⟨_,(W.h (zh (zw (zci (λ_=>rfl) (zaz.of zqB) (zbU rfl T.n_range (zb (zI zak rfl T.n_len aX (zb (za 0) zc)) zc)) (λ_ _ _ _ _=>(zC (i:=0) zpG rfl (aK rfl))) (λ_ _ _ _ _=>(zfv (tD (zF (clO (zkI hu)) (clE (zV zZ (za 1) (za 0) (λ_ _=>rfl))) (clE (zaC zc)) (zD _))))) (λ_ _ _ _ _=>(za 0)))))),?_⟩;have lc:=M.rows.length;simp_all only [];refine ⟨_,.inl M.ls,?_⟩;rw [am,lc,cJ];refine ⟨by lia,by lia,zau.rngS (EmI H a ms) (λi τ ys H' I=>?_) ⟨⟨_,rfl⟩,rfl,ze.refl _,by lia⟩ ?_ ?_⟩
  .rw [I.ys,am];exact za5 (by have:=zi2 ms i;have:=I.le;lia)
  .intro N i τ ys H' hi I hN;obtain ⟨t,rfl⟩:=I.ex;have M':=M.same I.same;obtain ⟨c,hc,e⟩:=M'.at hi;have ej:(0+(i:Int))=((i:Nat):Int):=by lia
   simp_all only [ej];refine ⟨_,.inl M'.ls,.ref c,za8 (by rw [bh,hc];rfl),cf _,λl2 H2 n2 _=>?_⟩;have e2:=n2.same _ _ e;simp_all only [];refine ⟨_,e2,_,n2.at_,.inr rfl,?_⟩;rw [am,dJ];have ee:zaV ms (i+1)=zaV ms i++if (ms.getD i []).length=0 then [i] else []:=rfl;by_cases h0:(ms.getD i []).length=0
   .rw [decide_eq_true h0];simp_all only [];exact hN _ _ _ ⟨⟨_,rfl⟩,by rw [I.ys,ee,if_pos h0,cr];rfl,I.same.trans n2.same,by lia⟩
   .rw [decide_eq_false h0];simp_all only [];exact hN _ _ _ ⟨⟨_,rfl⟩,by rw [I.ys,ee,if_neg h0,cw],I.same.trans n2.same,by lia⟩
  .intro τ ys H' I D2 H2 n2 ns;rw [I.ys] at n2;exact q D2 H2 (I.same.trans n2.same) (I.same.free n2.no) n2.at_
def zcI(ms:Mdl)(e:Option Nat)(wd:Int):Int:=wd*(if ((zaV ms ms.length).length:Int)-1>0 then ((zaV ms ms.length).length:Int)-1 else (0:Int))+(match e with|none=>0|some k=>wd-(ms.getD k []).length)
def zhi:Sp:=λvs H Q _=>∃(a el:Addr)(cs:List Addr)(ms:Mdl)(e0 e1:Option Nat)(wd:Int),vs=[.ref a,.ref el,.int wd]/\zbf H a cs ms/\ms.length<=16/\H el=some (.lst [ov e0,ov e1])/\(∀k,e0=some k->k<ms.length)/\0<=wd/\wd<=1000/\∀H',ze H H'->Q (.int (zcI ms e0 wd)) H'
theorem zif:zr ["_law_model","_law_ends","_law_wide","_law_found"] ["_law_model","_law_ends","_law_wide"] (zn zid):=fsc
theorem zo8(F:Fun K "_law_room" "_law_room" zid f fd)(T:Txt w K mg A)(GI:GF P w K mg base true 1 "_law_empty" ["_law_model"] zl7):zo P w K mg base CX0 true 2 f fd ["_law_model","_law_ends","_law_wide"] zhi:=by
 refine F.ok zif (λvs H Q E h=>?_) (λcdv Ar outer s H vs Q E hr h=>?_)
 .obtain ⟨a,el,cs,ms,e0,e1,wd,rfl,_⟩:=h;rfl
 .obtain ⟨a,el,cs,ms,e0,e1,wd,rfl,M,hl,he,hk,w0,w1,q⟩:=h;have hu:_<cLine:=bz (zab hr);refine ⟨_,(W.h (zg (zx (i:=3) zif.nd rfl (aK rfl) (zl zaT (za 2) (zI (zkw rfl) rfl T.n_max boot_max (zb zi (zb (zl (oI0 zct) (zI zak rfl T.n_len aX (zb (caD (zy GI hr rfl (clP (zb (za 0) zc)))) zc)) zi) zc)))))
   (zg (zN (tD (zF (clO zhr) (clE (zV zZ (za 1) zi (λ_ _=>rfl))) (clE zaJ) (zD _)))
   (zh (zx (i:=3) zif.nd rfl (aK rfl) (zl (oI0 zct) (zl zR (za 3) (za 2)) (zI zak rfl T.n_len aX (zb (zV zZ (za 0) (zV zZ (za 1) zi (λ_ _=>rfl)) (λ_ _=>rfl)) zc)))))
   zQ)
   (zh (zw (za 3)))))),?_⟩
  simp_all only [];refine ⟨a,cs,ms,rfl,M,hl,λl H1 s1 _ el1=>?_⟩
  try simp_all only []
  refine ⟨_,.inl el1,?_⟩;rw [am]
  try simp_all only []
  refine ⟨.inl ⟨by lia,by lia⟩,_,.inl (s1 _ _ he),ov e0,rfl,?_⟩;cases e0 with
  | none =>
   show zbs true V.non V.non H1 _;simp_all only [];have q:=q H1 s1;unfold zcI at q;rw [Int.add_zero] at q;exact q
  | some k =>
   obtain ⟨c,hc,ec⟩:=(M.same s1).at (hk k rfl);show zbs true (V.int k) V.non H1 _;simp_all only [];refine ⟨_,.inl (s1 _ _ he),.int k,rfl,?_⟩;simp_all only [];refine ⟨_,.inl (s1 _ _ M.ls),.ref c,za8 (by rw [bh,hc];rfl),?_⟩;simp_all only [];refine ⟨_,.inl ec,?_⟩;rw [am]
   try simp_all only []
   have q:=q H1 s1;unfold zcI at q;dsimp only at q;rw [<- Int.add_sub_assoc] at q;exact q
end
abbrev zeZ:Stmt:=top 66
def smM(ms:Mdl)(e0 e1:Option Nat):Nat->List Nat
 | 0=>[]
 | i+1=>smM ms e0 e1 i++if (ms.getD i []).length=0\/e0=some i\/e1=some i then [] else [i]
theorem zfW(ms:Mdl)(e0 e1:Option Nat):∀i,(smM ms e0 e1 i).length<=i
 | 0=>ae _
 | i+1=>by show (smM ms e0 e1 i++_).length<=_;have:=zfW ms e0 e1 i;rw [aG];split<;>simp<;>lia
theorem zmb{e:Option Nat}{i:Nat}:eqV (ov e) (.int i)=decide (e=some i):=by
 cases e with
 | none=>simp [ov,eqV]
 | some k=>simp [ov,eqV,Bool.beq_eq_decide_eq];lia
theorem zq0{i:Nat}:inV (.int i) [ov e0,ov e1]=decide (e0=some i\/e1=some i):=by
 show (eqV (ov e0) (.int i)||(eqV (ov e1) (.int i)||false))=_;rw [zmb,zmb,fC,Bool.decide_or]
theorem zjC{e:Option Nat}:zL (ov e)=true:=by cases e<;>rfl
section
variable {P:aI}{w:aZ}{K:Frag}{mg:Str->Option Value}{base:Heap}{A:zj}
structure SmI(H:Hp)(a el:Addr)(ms:Mdl)(e0 e1:Option Nat)(i:Nat)(τ:L2.St)(ys:List V)(H':Hp):Prop where
 ex:∃t,τ=[t,some (V.ref a),some (.ref el)]
 ys:ys=(smM ms e0 e1 i).map iv
 same:ze H H'
 le:i<=16
def zhI:Sp:=λvs H Q _=>∃(a el:Addr)(cs:List Addr)(ms:Mdl)(e0 e1:Option Nat),vs=[.ref a,.ref el]/\zbf H a cs ms/\ms.length<=16/\H el=some (.lst [ov e0,ov e1])/\∀l H',ze H H'->H l=none->H' l=some (.lst ((smM ms e0 e1 ms.length).map iv))->Q (.ref l) H'
theorem zvM:zr ["_law_model","_law_ends"] ["_law_model","_law_ends"] (zn zeZ):=fsc
theorem zoJ:zbk { kind:=.function,names:=[(aj ".0",.local),(aj "_law_k",.local),(aj "_law_model",.free),(aj "_law_ends",.free)],isGenerator:=false,isCoroutine:=false,more:=[] } (zn zeZ).names ["_law_model","_law_ends"] ["_law_k","_law_model","_law_ends"] [none,some 0,some 1]=true:=by decide +kernel
theorem zsr:(["_law_k","_law_model","_law_ends"]:List Str).Nodup:=by decide +kernel
theorem zq8(F:Fun K "_law_some" "_law_some" zeZ f fd)(T:Txt w K mg A):zo P w K mg base CX0 true 1 f fd ["_law_model","_law_ends"] zhI:=by
 refine F.ok zvM (λvs H Q E h=>?_) (λcdv Ar outer s H vs Q E hr h=>?_)
 .obtain ⟨a,el,cs,ms,e0,e1,rfl,_⟩:=h;rfl
 .obtain ⟨a,el,cs,ms,e0,e1,rfl,M,hl,he,q⟩:=h;have hu:_<cLine:=bz (zab hr);refine ⟨_,(W.h (zh (zw (zci (λ_=>rfl) (zaz.of zoJ) (zbU rfl T.n_range (zb (zI zak rfl T.n_len aX (zb (za 0) zc)) zc)) (λ_ _ _ _ _=>(zC (i:=0) zsr rfl (aK rfl))) (λ_ _ _ _ _=>(zfv (zcc (zdb (tD (zF (clO (zlI hu)) (clE (zV zZ (za 1) (za 0) (λ_ _=>rfl))) (clE (zaC zc)) (zD _))) (zdn (tD (zF (clO (zpc hu)) (clE (za 0)) (clE (za 2)) rfl))))))) (λ_ _ _ _ _=>(za 0)))))),?_⟩;have lc:=M.rows.length;simp_all only [];refine ⟨_,.inl M.ls,?_⟩;rw [am,lc,cJ];refine ⟨by lia,by lia,zau.rngS (SmI H a el ms e0 e1) (λi τ ys H' I=>?_) ⟨⟨_,rfl⟩,rfl,ze.refl _,by lia⟩ ?_ ?_⟩
  .rw [I.ys,am];exact za5 (by have:=zfW ms e0 e1 i;have:=I.le;lia)
  .intro N i τ ys H' hi I hN;obtain ⟨t,rfl⟩:=I.ex;have M':=M.same I.same;obtain ⟨c,hc,e⟩:=M'.at hi;have ej:(0+(i:Int))=((i:Nat):Int):=by lia
   simp_all only [ej];refine ⟨_,.inl M'.ls,.ref c,za8 (by rw [bh,hc];rfl),cf _,λl2 H2 n2 _=>?_⟩;have e2:=n2.same _ _ e;simp_all only [];refine ⟨_,e2,_,n2.at_,.inr rfl,?_⟩;rw [am,dJ];have ee:smM ms e0 e1 (i+1)=smM ms e0 e1 i++if (ms.getD i []).length=0\/e0=some i\/e1=some i then [] else [i]:=rfl;have s2:=I.same.trans n2.same;by_cases h0:(ms.getD i []).length=0
   .rw [decide_eq_true h0,if_neg (by decide)];exact hN _ _ _ ⟨⟨_,rfl⟩,by rw [I.ys,ee,if_pos (.inl h0),cw],s2,by lia⟩
   rw [decide_eq_false h0,if_pos (by decide)];refine ⟨_,.inl (s2 _ _ he),rfl,by show (zL (ov e0)&&(zL (ov e1)&&true))=true;rw [zjC,zjC];rfl,?_⟩;rw [zq0];by_cases h1:e0=some i\/e1=some i
   .rw [decide_eq_true h1];simp_all only [];exact hN _ _ _ ⟨⟨_,rfl⟩,by rw [I.ys,ee,if_pos (.inr h1),cw],s2,by lia⟩
   .rw [decide_eq_false h1];simp_all only [];exact hN _ _ _ ⟨⟨_,rfl⟩,by rw [I.ys,ee,if_neg (not_or.mpr ⟨h0,h1⟩),cr];rfl,s2,by lia⟩
  .intro τ ys H' I D2 H2 n2 ns;rw [I.ys] at n2;exact q D2 H2 (I.same.trans n2.same) (I.same.free n2.no) n2.at_
end
abbrev ze0:Stmt:=top 59
section
variable {P:aI}{w:aZ}{K:Frag}{mg:Str->Option Value}{base:Heap}{A:zj}
structure TxI(l:Addr)(H:Hp)(i:Nat)(τ:L2.St)(ys:List V)(H':Hp):Prop where
 ex:∃t,τ=[t]
 ys:∃cs:List Nat,ys=(cs.map c1).map V.str/\cs.length=i/\∀c∈cs,c∈sg (LET++FIG)
 same:ze H H'
 le:i<=4
def ziK(K:Frag):Sp:=λvs H Q _=>∃(a:Addr)(ns:List Int)(k:Int),vs=[.ref a,.int k]/\SqL K H a (ns.map V.int)/\0<=k/\∀(z:Str) H',ze H H'->zbR z=true->Q (.str z) H'
theorem ziU:zr ["_law_script","_law_k","_law_digits"] ["_law_script","_law_k"] (zn ze0):=fsc
theorem znd:zbk { kind:=.function,names:=[(aj ".0",.local),(aj "_law_digit",.local)],isGenerator:=false,isCoroutine:=false,more:=[] } (zn ze0).names ["_law_script","_law_k","_law_digits"] ["_law_digit"] [none]=true:=by decide +kernel
theorem zsX:(["_law_digit"]:List Str).Nodup:=by decide +kernel
theorem znV(F:Fun K "_law_text" "_law_text" ze0 f fd)(T:Txt w K mg A)(Gf:GF P w K mg base true 2 "_law_row" ["_law_script","_law_k","_law_many","_law_base"] (zeK K)):zo P w K mg base CX0 true 3 f fd ["_law_script","_law_k"] (ziK K):=by
 refine F.ok ziU (λvs H Q E h=>?_) (λcdv Ar outer s H vs Q E hr h=>?_)
 .obtain ⟨a,ns,k,rfl,_⟩:=h;rfl
 .obtain ⟨a,ns,k,rfl,hS,k0,q⟩:=h;have hu:_<cLine:=bz (zab hr);refine ⟨_,(W.h (zg (zx (i:=2) ziU.nd rfl (aK rfl) (caD (zy Gf hr rfl (clP (zb (za 0) (zb (za 1) (zb zi (zb zi zc))))))))
   (zh (zw (zkr zM (zci (λ_=>rfl) (zaz.of znd) (liD (zd1 (clE (za 2)))) (λ_ _ _ _ _=>(zC (i:=0) zsX rfl (aK rfl))) (λ_ _ _ _ _=>zc6) (λ_ _ _ _ _=>(zV zZ zM (za 0) (λ_ _=>rfl))))))))),?_⟩
  simp_all only [];refine ⟨a,ns,k,4,36,rfl,hS,k0,by decide,by decide,by decide,by decide,λl ds H1 s1 _ el dl db=>?_⟩
  try simp_all only []
  have e36:LET++FIG=("abcdefghijklmnopqrstuvwxyz0123456789":Str):=by decide +kernel
  have dl4:ds.length=4:=dl;refine ⟨⟨_,SqL.of el⟩,zau.lst (xs:=ds.map V.int) (λi τ ys H'=>TxI l H1 i τ ys H'/\i<=4) (λi τ ys H' ⟨I,hi⟩=>?_) (λi τ ys H' ⟨I,_⟩=>SqL.of (I.same _ _ el)) ⟨⟨⟨_,rfl⟩,⟨[],rfl,rfl,nofun⟩,ze.refl _,by lia⟩,by lia⟩ ?_ ?_⟩
  .obtain ⟨cs,rfl,e,_⟩:=I.ys;rw [am,am,e];exact za5 (by lia)
  .rintro N i x τ ys H' hx ⟨I,hi⟩ hN;obtain ⟨t,rfl⟩:=I.ex;obtain ⟨cs,rfl,e,hm⟩:=I.ys;rw [bh] at hx;obtain ⟨n,hn,rfl⟩:=bX.mp hx;have li:=(ak.mp hn).1;have hb:=db n (aE hn);simp_all only [];obtain ⟨c,ec,hc⟩:=zdl (xs:=(Str.cps "abcdefghijklmnopqrstuvwxyz0123456789").toList) (i:=n) hb.1 (by show n<((36:Nat):Int);lia);refine ⟨by decide,c,ec,hN _ _ _ ⟨⟨⟨_,rfl⟩,⟨cs++[c],by simp [c1],by simp [e],λy hy=>?_⟩,I.same,by lia⟩,by lia⟩⟩;rcases aS.mp hy with hy|hy
   .exact hm y hy
   .rw [ax.mp hy,e36];exact hc
  .rintro τ ys H' ⟨I,_⟩ D H3 n3;obtain ⟨cs,rfl,e,hm⟩:=I.ys;rw [am] at e;rw [zhd];have sm:∀l:List Nat,(l.map ((λx:Str=>x.length)∘c1)).sum=l.length:=λl=>by
    induction l with
    | nil=>rfl
    | cons a l ih=>rw [bQ,List.sum_cons,ih];show 1+_=_;simp;lia
   refine ⟨cs.map c1,n3.at_,?_,q _ H3 ((s1.trans I.same).trans n3.same) ?_⟩
   .rw [bU,show ("":Str).length=0 by decide,Nat.mul_zero,Nat.add_zero,sm];lia
   .have ej:sg (d0 "" (cs.map c1))=cs:=by
     rw [ziS,bU];have:∀l:List Nat,(l.map (sg∘c1)).flatten=l:=λl=>by
      induction l with
      | nil=>rfl
      | cons a l ih=>rw [bQ,cN,ih];rfl
     exact this cs
    have el:(d0 "" (cs.map c1)).length=cs.length:=(show (d0 "" (cs.map c1)).length=(sg (d0 "" (cs.map c1))).length from bv.symm).trans (by rw [ej]);unfold zbR zax;rw [el,ej,decide_eq_true (by lia),decide_eq_true (by lia),gv,gv,bJ];exact λc hc=>dG.mpr (hm c hc)
end
abbrev zgp:Stmt:=top 61
structure LR(n:Int)(hot:Bool)(xs:List V):Prop where
 ok:zbv xs
 hd:∃y ys,xs = .str y::.int n::ys/\(hot = !decide (y="carry"))
 len:xs.length<=7
section
variable {P:aI}{w:aZ}{K:Frag}{mg:Str->Option Value}{base:Heap}{A:zj}
def ziq:Sp:=λvs H Q _=>∃(n way:Int),vs=[.int n,.int way]/\0<=n/\n<10 ^ 17/\∀r xs H',ze H H'->LR n true xs->H' r=some (.tup xs)->Q (.ref r) H'
theorem zo7:zr ["_law_number","_law_way"] ["_law_number","_law_way"] (zn zgp):=fsc
theorem zrA(F:Fun K "_law_idle" "_law_idle" zgp f fd)(T:Txt w K mg A):zo P w K mg base CX0 true 1 f fd ["_law_number","_law_way"] ziq:=by
 refine F.ok zo7 (λvs H Q E h=>?_) (λcdv Ar outer s H vs Q E hr h=>?_)
 .obtain ⟨n,way,rfl,_⟩:=h;rfl
 .obtain ⟨n,way,rfl,n0,n1,q⟩:=h;have hu:_<cLine:=bz (zab hr);refine ⟨_,(W.h (zh (zw (zV zZ (zaC (zb (zaO (zb zM (zb (za 0) (zb zM zc)))) (zb (zaO (zb zM (zb (za 0) (zb zM zc)))) (zb (zaO (zb zM (zb (za 0) (zb zM (zb zi zc))))) zc)))) (zl (oI zS) (za 1) zi) (λ_ _=>rfl))))),?_⟩;have hn:zaW n:=⟨by lia,by lia⟩;simp_all only [];refine ⟨by decide,λp1 H1 m1=>⟨by decide,λp2 H2 m2=>⟨by decide,λp3 H3 m3=>⟨by decide,λl H4 m4 _=>?_⟩⟩⟩⟩;have s3:ze H H4:=((m1.same.trans m2.same).trans m3.same).trans m4.same;obtain ⟨v,ev,hv⟩:=zdl (xs:=[V.ref p1,.ref p2,.ref p3]) (i:=way % 3) (by lia) (by show way % 3<((3:Nat):Int);lia);refine ⟨by decide,_,.inl m4.at_,v,ev,?_⟩;simp only [au,aM,or_false] at hv;rcases hv with rfl|rfl|rfl
  .exact q p1 _ H4 s3 ⟨.hold n _ hn (f!""),⟨_,_,rfl,f!""⟩,by simp⟩ (m4.same _ _ (m3.same _ _ (m2.same _ _ m1.at_)))
  .exact q p2 _ H4 s3 ⟨.free n _ hn (f!""),⟨_,_,rfl,f!""⟩,by simp⟩ (m4.same _ _ (m3.same _ _ m2.at_))
  .exact q p3 _ H4 s3 ⟨.cut n _ _ hn ⟨by decide,by decide⟩ (f!""),⟨_,_,rfl,f!""⟩,by simp⟩ (m4.same _ _ m3.at_)
end
abbrev zhm:Stmt:=top 60
theorem zla{α β:Type}(f:α->β):∀(l:List α)(i:Nat),(l.map f).eraseIdx i=(l.eraseIdx i).map f
 | [],_=>rfl
 | _::_,0=>rfl
 | a::l,i+1=>by show f a::(l.map f).eraseIdx i=f a::(l.eraseIdx i).map f;rw [zla f l i]
theorem zls:∀{l:List Nat}{i:Nat}(h:i<l.length),(l[i]::l.eraseIdx i).Perm l
 | _::_,0,_=>.refl _
 | a::l,i+1,h=>by
  have h':i<l.length:=by simpa using h
  show (l[i]::a::l.eraseIdx i).Perm (a::l);exact (fv.swap ..).trans ((zls h').cons a)
section
variable {P:aI}{w:aZ}{K:Frag}{mg:Str->Option Value}{base:Heap}{A:zj}
structure Lay(n:Nat)(wd:Int)(os:List Nat):Prop where
 pm:os.Perm (ic n)
 n3:3<=n
 n16:n<=16
 w2:2<=wd
 w32:wd<=32
structure LyW(H8:Hp)(a l7 p fo:Addr)(n:Nat)(wd d4:Int)(m:Nat)(σ:L2.St)(H':Hp):Prop where
 ex:∃(left os:List Nat)(od:Int),σ=[some (.ref a),some (.int n),some (.int wd),some (.int od),some (.int d4),some (.ref l7),some (.ref p),some (.ref fo)]/\H' p=some (.lst (left.map iv))/\H' fo=some (.lst (os.map iv))/\m=left.length/\(os++left).Perm (ic n)/\0<=od
 same:ze H8 H'
def zir(K:Frag):Sp:=λvs H Q _=>∃(a:Addr)(ns:List Int),vs=[.ref a]/\SqL K H a (ns.map V.int)/\∀r l n wd os H',ze H H'->H l=none->H' r=some (.tup [.int (n:Nat),.int wd,.ref l])->H' l=some (.lst (os.map iv))->Lay n wd os->Q (.ref r) H'
theorem zbz:zr ["_law_script","_law_many","_law_wide","_law_order","_law_far","_law_sizes","_law_left","_law_found"] ["_law_script"] (zn zhm):=fsc
theorem zn0(F:Fun K "_law_layout" "_law_layout" zhm f fd)(T:Txt w K mg A)(Gf:GF P w K mg base true 2 "_law_row" ["_law_script","_law_k","_law_many","_law_base"] (zeK K)):zo P w K mg base CX0 true 3 f fd ["_law_script"] (zir K):=by
 refine F.ok zbz (λvs H Q E h=>?_) (λcdv Ar outer s H vs Q E hr h=>?_)
 .obtain ⟨a,ns,rfl,_⟩:=h;rfl
 .obtain ⟨a,ns,rfl,hS,q⟩:=h;have hu:_<cLine:=bz (zab hr);refine ⟨_,(W.h (zg (zbp (caD (zy Gf hr rfl (clP (zb (za 0) (zb zi (zb zi (zb zi zc))))))) (zlN rfl (n:=4) (gsD (zW (zC (i:=1) zbz.nd rfl (aK rfl)) (gsD (zW (zC (i:=2) zbz.nd rfl (aK rfl)) (gsD (zW (zC (i:=3) zbz.nd rfl (aK rfl)) (gsD (zW (zC (i:=4) zbz.nd rfl (aK rfl)) zbT))))))))))
   (zg (zx (i:=5) zbz.nd rfl (aK rfl) (zl zR (zaC (zb (zaO (zb (zl zR zi (zl (oI zS) (za 1) zi)) (zb (zl zR zi (zl (oI zS) (za 2) zi)) zc))) (zb (zaO (zb (zl zR zi (zl (oI zS) (za 1) zi)) (zb (zl zR zi (zl (oI zS) (za 2) zi)) zc))) zc))) (zl zaT (zaC (zb (zaO (zb (zl zR zi (zl (oI zS) (za 1) zi)) (zb (zl zR zi (zl (oI zS) (za 2) zi)) zc))) zc)) zi)))
   (zg (zbp (zV zZ (za 5) (zl (oI zS) (za 4) zi) (λ_ _=>rfl)) (zc3 (n:=2) (gsD (zW (zC (i:=1) zbz.nd rfl (aK rfl)) (gsD (zW (zC (i:=2) zbz.nd rfl (aK rfl)) zbT))))))
   (zg (zx (i:=6) zbz.nd rfl (aK rfl) (zce (zuv rfl) rfl T.n_list boot_list (zb (zce zrQ rfl T.n_range boot_range (zb (za 1) zc)) zc)))
   (zg (zx (i:=7) zbz.nd rfl (aK rfl) (zaC zc))
   (zg (zpq dH.never (tD (zF (clO (zlI hu)) (clE (za 6)) (clE (zaC zc)) (zD _)))
   (zg (zal (zc1 (za 7) (zvo (za 6) (zl (oI zS) (za 3) (zI zak rfl T.n_len aX (zb (za 6) zc))))))
   (zh (zx (i:=3) zbz.nd rfl (aK rfl) (zl zR (zl (oI zco) (za 3) zi) zi)))))
   (zh (zw (zaO (zb (za 1) (zb (za 2) (zb (za 7) zc))))))))))))),?_⟩
  simp_all only [];refine ⟨a,ns,0,4,720,rfl,hS,by decide,by decide,by decide,by decide,by decide,λl ds H1 s1 _ el dl db=>?_⟩
  match ds,dl,db with
  | [d1,d2,d3,d4],_,db =>
  have b1:=db d1 (by simp);have b2:=db d2 (by simp);have b3:=db d3 (by simp);have b4:=db d4 (by simp);refine ⟨l,_,rfl,SqL.of el,rfl,?_⟩;simp_all only [];refine ⟨by decide,by decide,by decide,λp1 H2 m1=>⟨by decide,by decide,by decide,λp2 H3 m2=>⟨by decide,λl3 H4 m3 _=>⟨by decide,by decide,by decide,λp4 H5 m4=>⟨by decide,λl5 H6 m5 _=>⟨_,m5.at_,by decide,by decide,by show 4<=sizeLine;decide,λl6 H7 m6=>⟨_,m6.same _ _ (m5.same _ _ (m4.same _ _ m3.at_)),_,m6.at_,by show 6<=sizeLine;decide,λl7 H8 m7=>⟨by decide,_,.inl m7.at_,?_⟩⟩⟩⟩⟩⟩⟩⟩;have s8:ze H1 H8:=((((((m1.same.trans m2.same).trans m3.same).trans m4.same).trans m5.same).trans m6.same).trans m7.same);have s58:ze H5 H8:=(m5.same.trans m6.same).trans m7.same;obtain ⟨v,ev,hv⟩:=zdl (xs:=[V.ref p1,.ref p2]++(bi (Int.toNat 4) [V.ref p4]).flatten) (i:=d4 % 6) (by lia) (by show d4 % 6<((6:Nat):Int);lia);obtain ⟨pt,n,wd,rfl,hpt,n3,n16,w2,w32⟩:∃(pt:Addr)(n:Nat)(wd:Int),v = .ref pt/\H8 pt=some (.tup [.int n,.int wd])/\3<=n/\n<=16/\2<=wd/\wd<=32:=by
   have mk:∀{pt:Addr}{x y:Int},H8 pt=some (.tup [.int (3+x),.int (2+y)])->0<=x->x<14->0<=y->y<31->V.ref pt=v->∃(pt:Addr)(n:Nat)(wd:Int),v = .ref pt/\H8 pt=some (.tup [.int n,.int wd])/\3<=n/\n<=16/\2<=wd/\wd<=32:=λ{pt x y} h x0 x1 y0 y1 e=>⟨pt,(3+x).toNat,2+y,e.symm,by rw [h,show (((3+x).toNat:Nat):Int)=3+x by lia],by lia,by lia,by lia,by lia⟩;have hv:v = .ref p1\/v = .ref p2\/v = .ref p4:=by
    simp [bi] at hv;rcases hv with h|h|h<;>simp [h]
   rcases hv with h|h|h
   .exact mk (s58 _ _ (m4.same _ _ (m3.same _ _ (m2.same _ _ m1.at_)))) (by lia) (by lia) (by lia) (by lia) h.symm
   .exact mk (s58 _ _ (m4.same _ _ (m3.same _ _ m2.at_))) (by lia) (by lia) (by lia) (by lia) h.symm
   .exact mk (s58 _ _ m4.at_) (by lia) (by lia) (by lia) (by lia) h.symm
  refine ⟨_,ev,pt,_,rfl,SqT.of hpt,rfl,?_⟩;simp_all only [];refine λpr H9 m9=>⟨n,m9.at_,by lia,λp H10 m10=>⟨cf _,λfo H11 m11 _=>?_⟩⟩;have np:H8 p=none:=m9.same.free m10.no;have nf:H8 fo=none:=(m9.same.trans m10.same).free m11.no;have pf:p≠fo:=λz=>by have:=m11.no;rw [<- z,m10.at_] at this;cases this
  unfold zjk;refine ⟨LyW H8 a l7 p fo n wd d4,⟨n,⟨ic n,[],d3,rfl,m11.same _ _ m10.at_,m11.at_,(gQ).symm,fv.refl _,b3.1⟩,(m9.same.trans m10.same).trans m11.same⟩,?_⟩;rintro m σ H' ⟨⟨left,os,od,rfl,hp,hf,rfl,pm,o0⟩,sm⟩;simp_all only [];refine ⟨cf _,λl12 H12 m12 _=>⟨_,m12.same _ _ hp,_,m12.at_,.inr rfl,?_⟩⟩;rw [am,dJ];by_cases hl:left.length=0
  .rw [decide_eq_true hl,if_neg (by decide)];have e0:left=[]:=cR.mp hl;subst e0;rw [cw] at pm
   try simp_all only []
   refine ⟨by decide,λr H13 m13=>?_⟩;have s13:ze H8 H13:=(sm.trans m12.same).trans m13.same;exact q r fo n wd os H13 ((s1.trans s8).trans s13) ((s1.trans s8).free nf) m13.at_ (m13.same _ _ (m12.same _ _ hf)) ⟨pm,n3,n16,w2,w32⟩
  .rw [decide_eq_false hl,if_pos (by decide)];refine ⟨λσ' H'=>LyW H8 a l7 p fo n wd d4 (left.length-1) σ' H',λσ' H' h=>⟨_,by lia,h⟩,?_⟩;have hp12:=m12.same _ _ hp;have hf12:=m12.same _ _ hf;simp_all only [];obtain ⟨kk,ek⟩:∃kk:Nat,od % (left.length:Int)=kk:=⟨(od % (left.length:Int)).toNat,by have:=gD od (show (left.length:Int)≠0 by lia);lia⟩;have hk:kk<left.length:=by have:=fc od (show 0<(left.length:Int) by lia);lia
   have ln:os.length+left.length=n:=by have:=pm.length_eq;rw [aG,gQ] at this;exact this
   refine ⟨⟨_,hf12⟩,⟨_,hp12⟩,_,.inl hp12,by rw [am];lia,_,kk,by rw [am];exact ek,hp12,iv left[kk],by rw [bh,ah hk];rfl,os.map iv,by rw [zd (aU pf)];exact hf12,by rw [am];exact za5 (by lia),?_,⟨left.eraseIdx kk,os++[left[kk]],_,rfl,?_,?_,?_,?_,?_⟩,λc o e=>?_⟩
   .exact ⟨by decide,by decide⟩
   .rw [zd pf,zu,zla]
   .rw [zu,cr];rfl
   .rw [List.length_eraseIdx_of_lt hk]
   .refine fv.trans ?_ pm;rw [aY];exact (zls hk).append_left os
   .lia
   .rw [zd (zp e nf),zd (zp e np)];exact m12.same _ _ (sm _ _ e)
end
def zbb(U:List Tri)(hot:Bool)(o:Option Nat):Prop:=match o with
 | none=>∀t∈U,zbr t≠hot
 | some e=>∃t∈U,zbr t=hot/\t.2.1=e/\∀t'∈U,zbr t'=hot->zq t'<=zq t
theorem zvm(U:List Tri):∃ts:List Tri,ts.Perm U/\ts.Pairwise (λa b=>zq a<=zq b):=by
 induction U with
 | nil=>exact ⟨[],.refl _,.nil⟩
 | cons x U ih =>
  obtain ⟨ts,p,h⟩:=ih;have ins:∀l:List Tri,l.Pairwise (λa b=>zq a<=zq b)->∃m:List Tri,m.Perm (x::l)/\m.Pairwise (λa b=>zq a<=zq b):=λl=>by
   induction l with
   | nil=>exact λ_=>⟨[x],.refl _,by simp⟩
   | cons y l ih =>
    intro h;obtain ⟨h1,h2⟩:=eP.mp h;by_cases hx:zq x<=zq y
    .refine ⟨x::y::l,.refl _,eP.mpr ⟨λz hz=>?_,h⟩⟩;rcases au.mp hz with rfl|hz
     .exact hx
     .have:=h1 z hz;lia
    .obtain ⟨m,p,hm⟩:=ih h2;refine ⟨y::m,(p.cons y).trans (.swap x y l),eP.mpr ⟨λz hz=>?_,hm⟩⟩;rcases au.mp (p.mem_iff.mp hz) with rfl|hz
     .lia
     .exact h1 z hz
  obtain ⟨m,p2,hm⟩:=ins ts h;exact ⟨m,p2.trans (p.cons x),hm⟩
theorem zoj(U:List Tri):(zas U).Pairwise (λa b=>zq a<=zq b):=by
 have ex:=zvm U;unfold zas;rw [dif_pos ex];exact ex.choose_spec.2
theorem zk3{ts:List Tri}(h:ts.Pairwise (λa b=>zq a<=zq b))(hot:Bool):∀i,i<=ts.length->zbb (ts.take i) hot (za9 ts hot i)
 | 0,_=>λt ht=>by simp at ht
 | i+1,hi=>by
  have hlt:i<ts.length:=by lia
  have e:ts[i]?=some ts[i]:=ah hlt;have ih:=zk3 h hot i (by lia);have et:ts.take (i+1)=ts.take i++[ts[i]]:=by rw [di,e];rfl
  have ep:za9 ts hot (i+1)=if zbr ts[i]=hot then some ts[i].2.1 else za9 ts hot i:=by
   show (match ts[i]? with|some t=>_|none=>_)=_;rw [e]
  rw [ep,et];by_cases hh:zbr ts[i]=hot
  .rw [if_pos hh];refine ⟨ts[i],aQ _ (ax.mpr rfl),hh,rfl,λt' ht' _=>?_⟩;rcases aS.mp ht' with ht'|ht'
   .obtain ⟨j,hj,rfl⟩:=dw ht';rw [bI] at hj;rw [ie];exact du.mp h j i (by lia) hlt (by lia)
   .rw [ax.mp ht'];exact cc _
  .rw [if_neg hh];cases ee:za9 ts hot i with
   | none =>
    rw [ee] at ih;intro t ht;rcases aS.mp ht with ht|ht
    .exact ih t ht
    .rw [ax.mp ht];exact hh
   | some n =>
    rw [ee] at ih;obtain ⟨t,h1,h2,h3,h4⟩:=ih;refine ⟨t,bN _ h1,h2,h3,λt' ht' hh'=>?_⟩;rcases aS.mp ht' with ht'|ht'
    .exact h4 t' ht' hh'
    .rw [ax.mp ht'] at hh';exact absurd hh' hh
theorem znZ(d:DM)(hot:Bool):zbb (nU d) hot (zbG d hot):=by
 have h:=zk3 (zoj (nU d)) hot (zas (nU d)).length (ae _);rw [bo (ae _)] at h;unfold zbG;cases e:za9 (zas (nU d)) hot (zas (nU d)).length with
 | none=>rw [e] at h;exact λt ht=>h t ((zei _).mem_iff.mpr ht)
 | some n =>
  rw [e] at h;obtain ⟨t,h1,h2,h3,h4⟩:=h;exact ⟨t,(zei _).mem_iff.mp h1,h2,h3,λt' ht'=>h4 t' ((zei _).mem_iff.mpr ht')⟩
theorem zvj(nd:(U.map zq).Nodup){s t:Tri}(hs:s∈U)(ht:t∈U)(h:zq s=zq t):s=t:=by
 obtain ⟨i,hi,rfl⟩:=dw hs;obtain ⟨j,hj,rfl⟩:=dw ht;have:i=j:=by
  have h1:(U.map zq)[i]?=(U.map zq)[j]?:=by rw [bh,bh,ah hi,ah hj];simpa using h
  exact (gR (by simpa using hi) nd).mp h1
 subst this;rfl
theorem zpD(nd:(U.map zq).Nodup){o':Option Nat}(h:zbb U hot o)(h':zbb U hot o'):o=o':=by
 cases o with
 | none =>
  cases o' with
  | none=>rfl
  | some e=>obtain ⟨t,h1,h2,_⟩:=h';exact absurd h2 (h t h1)
 | some e =>
  obtain ⟨t,h1,h2,h3,h4⟩:=h;cases o' with
  | none=>exact absurd h2 (h' t h1)
  | some e' =>
   obtain ⟨s,g1,g2,g3,g4⟩:=h';have:=h4 s g1 g2;have:=g4 t h1 h2;have es:=zvj nd h1 g1 (by lia);rw [<- h3,<- g3,es]
theorem zbo{l:List α}{k i:Nat}{x d:α}(hk:k<l.length):(l.set k x).getD i d=if i=k then x else l.getD i d:=by
 rw [av,av];by_cases h:i=k
 .rw [if_pos h,h,eT hk];rfl
 .rw [if_neg h,eM (aU h)]
theorem zaY.set(h:zaY d){k:Nat}{r:List Tx}{c:Int}{sd:List Tx}(hr:r.length<=32/\∀t∈r,∀z,t=some z->asc z=true/\z.length<=1000):zaY ⟨d.rows.set k r,sd,c,lf,st⟩:=by
 refine ⟨λq hq=>?_,by show (d.rows.set k r).length<=16;rw [cu];exact h.len⟩;rcases fw hq with hq|rfl
 .exact h.ok q hq
 .exact hr
def DM.wrote(d:DM)(k:Nat)(t:Str)(c:Int):DM:={ d with rows:=d.rows.set k (d.rows.getD k []++[some t]),cnt:=c }
def DM.cleared(d:DM)(k:Nat)(c:Int):DM:={ d with rows:=d.rows.set k [],cnt:=c }
theorem zjS{k:Nat}{t:Str}(h1:d.left=none)(h2:d.st=false)(hw:((d.rows.getD k []).length:Int)<m):d.write m k t=(.val (.int (d.rows.getD k []).length),d.wrote k t (d.cnt+t.length)):=by
 have edn:dn d.left t.length=t.length:=by rw [h1];rfl
 have es:(d.spend t.length).st=false:=by show decide _=false;rw [edn];exact decide_eq_false (io _)
 unfold DM.write;rw [if_neg (by rw [h2];exact aw),if_neg (by lia),if_neg (by rw [es];exact λz=>aw z.2),if_neg (by rw [es];exact aw),edn];have ec:zfB t t.length=some t:=by
  show some (Txt.slice t none (some (t.length:Int)))=_;rw [zh9 (by rw [zY];exact ae _),<- zY,bo (ae _),zee]
 rw [ec];have e2:d.spend t.length={ d with cnt:=d.cnt+t.length }:=by
  unfold DM.spend;rw [edn,h1,h2,decide_eq_false (io _)];rfl
 rw [e2];rfl
theorem zn8{k:Nat}(h1:d.left=none)(h2:d.st=false):d.empty k=(.val .non,d.cleared k (d.cnt+(d.rows.getD k []).length)):=by
 have edn:dn d.left (d.rows.getD k []).length=(d.rows.getD k []).length:=by rw [h1];rfl
 have es:(d.spend (d.rows.getD k []).length).st=false:=by show decide _=false;rw [edn];exact decide_eq_false (io _)
 unfold DM.empty;rw [if_neg (by rw [h2];exact aw),if_neg (by rw [es];exact aw)];have e2:d.spend (d.rows.getD k []).length={ d with cnt:=d.cnt+(d.rows.getD k []).length }:=by
  unfold DM.spend;rw [edn,h1,h2,decide_eq_false (io _)];rfl
 rw [e2];rfl
def DM.torn(d:DM)(k j:Nat):DM:={ d with rows:=d.rows.set k (bi j none++(d.rows.getD k []).drop j),cnt:=d.cnt+j }
theorem zsc{k:Nat}(h2:d.st=false)(hj:j<(d.rows.getD k []).length):(d.stop j).empty k=(.stop,{ d.torn k j with left:=some 0,st:=true }):=by
 have edn:dn (d.stop j).left (((d.stop j).rows.getD k []).length:Nat)=j:=by
  show (if (j:Int)<((d.rows.getD k []).length:Int) then (j:Int) else _)=j;rw [if_pos (by lia)]
 have e2:(d.stop j).spend (((d.stop j).rows.getD k []).length:Nat)={ d with cnt:=d.cnt+j,left:=some 0,st:=true }:=by
  unfold DM.spend;rw [edn];have e3:(d.stop j).left.map (· - (j:Int))=some 0:=by show some ((j:Int)-j)=some 0;rw [Int.sub_self]
  have e4:decide ((j:Int)<(((d.stop j).rows.getD k []).length:Nat))=true:=decide_eq_true (by show (j:Int)<((d.rows.getD k []).length:Int);lia);rw [e3,e4];rfl
 unfold DM.empty;rw [if_neg (by show ¬ d.st=true;rw [h2];exact aw),if_pos (by rw [e2]),edn,e2,cJ];rfl
theorem zfN{k:Nat}(hj:j<(d.rows.getD k []).length):(bi j (none:Tx)++(d.rows.getD k []).drop j).length=(d.rows.getD k []).length:=by rw [aG,b8,cF];lia
theorem zi1(ok:zbv xs)(hl:xs.length<=7):asc (zaR xs)=true/\(zaR xs).length<=1000:=by
 obtain ⟨_,_,_,hp⟩:=ok.parts;obtain ⟨l1,l2⟩:=zfG hp;have F:=zds (zcX (tx (zae xs))).1 (by have:=(zcX (tx (zae xs))).2;lia);have nl:=zlE (zcX (tx (zae xs))).1 (by have:=(zcX (tx (zae xs))).2;lia);refine ⟨?_,?_⟩
 .unfold zaR zcx;rw [za2,zbY,zbY,zbJ,iR,iR,l2];have:(sg (toString (zbK (tx (zae xs))):Str)).all (λc=>decide (c<128))=true:=bJ.mpr λc hc=>decide_eq_true (by have:=F.dig c hc;lia);rw [this];decide +kernel
 .unfold zaR zcx;rw [<- zY,zbY,zbY,zbJ,aG,aG,zY];have:(sg (";":Str)).length=1:=by decide +kernel
  rw [this];lia
theorem ziJ{l m:List Tx}{k:Nat}:∀j,j<=l.length->rIn (l++m) k j=rIn l k j
 | 0,_=>rfl
 | j+1,h=>by
  show rIn (l++m) k j++_=rIn l k j++_;rw [ziJ j (by lia),av,av,dy (by lia)]
theorem zvG{l:List Tx}{x:Tx}{k:Nat}:rIn (l++[x]) k (l++[x]).length=rIn l k l.length++one (rdT x) k l.length:=by
 rw [aG];show rIn (l++[x]) k l.length++one (rdT ((l++[x]).getD l.length none)) k l.length=_;rw [ziJ _ (ae _),av,c9 (ae _),fV];rfl
theorem zit{l:List Tx}{k j:Nat}:∀i,(rIn (bi j none++l.drop j) k i).Sublist (rIn l k i)
 | 0=>.slnil
 | i+1=>by
  refine (zit i).append ?_;by_cases h:i<j
  .rw [av,dy (by rw [b8];exact h),cS,if_pos h];exact List.nil_sublist _
  .rw [av,c9 (by rw [b8];lia),b8,fB,show j+(i-j)=i by lia,<- av];exact Sublist.refl _
section
variable {rows rows':List (List Tx)}{k:Nat} (h:∀i,i≠k->rows'.getD i []=rows.getD i [])
include h
theorem ziW{x:List Tri}(hx:rIn (rows'.getD k []) k (rows'.getD k []).length=rIn (rows.getD k []) k (rows.getD k []).length++x):∀n,(wU rows' n).Perm (wU rows n++if k<n then x else [])
 | 0=>by rw [if_neg (by lia)];exact .refl _
 | n+1=>by
  show (wU rows' n++_).Perm (wU rows n++rIn (rows.getD n []) n (rows.getD n []).length++_);have ih:=ziW hx n;by_cases e:n=k
  .subst e;rw [if_neg (by lia),cw] at ih;rw [if_pos (by lia),hx,aY];exact ih.append_right _
  .rw [h n e];refine (ih.append_right _).trans ?_;have:(if k<n+1 then x else [])=if k<n then x else []:=by
    by_cases z:k<n
    .rw [if_pos z,if_pos (by lia)]
    .rw [if_neg z,if_neg (by lia)]
   rw [this,aY,aY];exact eR.append_left _
theorem zi6(hx:(rIn (rows'.getD k []) k (rows'.getD k []).length).Sublist (rIn (rows.getD k []) k (rows.getD k []).length)):∀n,(wU rows' n).Sublist (wU rows n)
 | 0=>.slnil
 | n+1=>by
  refine (zi6 hx n).append ?_;by_cases e:n=k
  .subst e;exact hx
  .rw [h n e];exact Sublist.refl _
theorem zjz{t:Tri}(hk:t.2.1≠k):∀n,t∈wU rows n->t∈wU rows' n
 | 0,z=>z
 | n+1,z=>by
  rcases aS.mp z with z|z
  .exact bN _ (zjz hk n z)
  .have:=zg4 z;exact aQ _ (by rw [h n (by lia)];exact z)
end
theorem zk0{d:DM}(h:zaY d):∀n,n<=d.rows.length->(wU d.rows n).length<=32*n
 | 0,_=>ae _
 | n+1,hn=>by
  have e2:∀(r:List Tx) k j,(rIn r k j).length<=j:=λr k j=>by
   induction j with
   | zero=>exact ae _
   | succ j ih=>show (rIn r k j++_).length<=_;rw [aG];have:=zjv (rdT (r.getD j none)) k j;lia
  have:=zk0 h n (by lia);have:=e2 (d.rows.getD n []) n (d.rows.getD n []).length;have:=(h.ok _ (zcp (x:=[]) (show n<d.rows.length by lia))).1;show (wU d.rows n++_).length<=_;rw [aG];lia
theorem zbb.less{U':List Tri}{k:Nat}(h:zbb U hot o)(h1:∀t∈U',t∈U)(h2:∀t∈U,t.2.1≠k->t∈U')(h3:o≠some k):zbb U' hot o:=by
 cases o with
 | none=>exact λt ht=>h t (h1 t ht)
 | some e =>
  obtain ⟨t,g1,g2,g3,g4⟩:=h;exact ⟨t,h2 t g1 λz=>h3 (by rw [<- g3,z]),g2,g3,λt' ht'=>g4 t' (h1 t' ht')⟩
structure DP(d:DM)(n:Int)(e0 e1:Option Nat):Prop where
 tx:zaY d
 nd:((nU d).map zq).Nodup
 lt:∀t∈nU d,zq t<n
 hot:zbb (nU d) true e0
 cold:zbb (nU d) false e1
theorem DP.few{n:Int}(h:DP d n e0 e1):(nU d).length<3000:=by
 have:=zk0 h.tx d.rows.length (ae _);have:=h.tx.len;show (wU d.rows d.rows.length).length<3000;lia
theorem DP.end_{n:Int}(h:DP d n e0 e1):zbG d true=e0:=zpD h.nd (znZ d true) h.hot
theorem DP.less{n:Int}{k:Nat}(h:DP d n e0 e1)(tx:zaY d')(hl:d'.rows.length=d.rows.length)(hi:∀i,i≠k->d'.rows.getD i []=d.rows.getD i [])(hx:(rIn (d'.rows.getD k []) k (d'.rows.getD k []).length).Sublist (rIn (d.rows.getD k []) k (d.rows.getD k []).length))(h0:e0≠some k)(h1:e1≠some k):DP d' n e0 e1:=by
 have sb:(nU d').Sublist (nU d):=by unfold nU;rw [hl];exact zi6 hi hx _
 have kp:∀t∈nU d,t.2.1≠k->t∈nU d':=λt ht hk=>by unfold nU at ht ⊢;rw [hl];exact zjz hi hk _ ht
 exact ⟨tx,(sb.map zq).nodup h.nd,λt ht=>h.lt t (sb.subset ht),h.hot.less (λt ht=>sb.subset ht) kp h0,h.cold.less (λt ht=>sb.subset ht) kp h1⟩
section
variable {d:DM}{n c:Int}{e0 e1:Option Nat}{k:Nat}
theorem DP.clear(h:DP d n e0 e1)(hk:k<d.rows.length)(h0:e0≠some k)(h1:e1≠some k):DP { d.cleared k c with left:=lf,st:=st } n e0 e1:=by
 refine h.less (h.tx.set ⟨by simp,by simp⟩) (cu ..) (λi hi=>?_) ?_ h0 h1
 .show (d.rows.set k []).getD i []=_;rw [zbo hk,if_neg hi]
 .show (rIn ((d.rows.set k []).getD k []) k ((d.rows.set k []).getD k []).length).Sublist _;rw [zbo hk,if_pos rfl];exact List.nil_sublist _
theorem DP.tear(h:DP d n e0 e1)(hk:k<d.rows.length)(hj:j<(d.rows.getD k []).length)(h0:e0≠some k)(h1:e1≠some k):DP { d.torn k j with left:=lf,st:=st } n e0 e1:=by
 refine h.less (h.tx.set ⟨?_,λq hq z hz=>?_⟩) (cu ..) (λi hi=>?_) ?_ h0 h1
 .rw [zfN hj];exact (h.tx.ok _ (zcp hk)).1
 .rcases aS.mp hq with hq|hq
  .rw [(List.mem_replicate.mp hq).2] at hz;cases hz
  .exact (h.tx.ok _ (zcp hk)).2 q (fG hq) z hz
 .show (d.rows.set k _).getD i []=_;rw [zbo hk,if_neg hi]
 .show (rIn ((d.rows.set k _).getD k []) k ((d.rows.set k _).getD k []).length).Sublist _;rw [zbo hk,if_pos rfl,zfN hj];exact zit _
theorem zjM{t:Str}(hk:k<d.rows.length):(nU (d.wrote k t c)).Perm (nU d++one (zaQ t) k (d.rows.getD k []).length):=by
 have:=ziW (rows:=d.rows) (rows':=d.rows.set k (d.rows.getD k []++[some t])) (k:=k) (λi hi=>by rw [zbo hk,if_neg hi]) (x:=one (zaQ t) k (d.rows.getD k []).length) (by rw [zbo hk,if_pos rfl];exact zvG) d.rows.length;rw [if_pos hk] at this;unfold nU;show (wU (d.rows.set k _) (d.rows.set k _).length).Perm _;rw [cu];exact this
theorem DP.txw{t:Str}(h:DP d n e0 e1)(hk:k<d.rows.length)(hw:(d.rows.getD k []).length<32)(ht:asc t=true/\t.length<=1000):zaY (d.wrote k t c):=by
 refine h.tx.set ⟨by rw [aG,List.length_singleton];lia,λq hq z hz=>?_⟩;rcases aS.mp hq with hq|hq
 .exact (h.tx.ok _ (zcp hk)).2 q hq z hz
 .rw [ax.mp hq] at hz;cases hz;exact ht
theorem DP.text{t:Str}(h:DP d n e0 e1)(hk:k<d.rows.length)(hw:(d.rows.getD k []).length<32)(ht:asc t=true/\t.length<=1000)(hr:zaQ t=none):DP (d.wrote k t c) n e0 e1:=by
 have p:=zjM (c:=c) (t:=t) hk;rw [hr] at p;have p:(nU (d.wrote k t c)).Perm (nU d):=by rw [<- cw (nU d)];exact p
 have kp:∀x∈nU d,x.2.1≠d.rows.length->x∈nU (d.wrote k t c):=λx hx _=>p.mem_iff.mpr hx;have lt:∀{o:Option Nat}{hot:Bool},zbb (nU d) hot o->o≠some d.rows.length:=λ{o hot} ho z=>by
  subst z;obtain ⟨x,hx,_,e,_⟩:=ho;have:=zfR hx;lia
 exact ⟨h.txw hk hw ht,(p.map zq).nodup_iff.mpr h.nd,λx hx=>h.lt x (p.mem_iff.mp hx),h.hot.less (λx hx=>p.mem_iff.mp hx) kp (lt h.hot),h.cold.less (λx hx=>p.mem_iff.mp hx) kp (lt h.cold)⟩
theorem zbb.add{U':List Tri}{x:Tri}(h:zbb U hot o)(hm:∀t,t∈U'↔t∈U\/t=x)(hl:∀t∈U,zq t<zq x):zbb U' hot (if zbr x=hot then some x.2.1 else o):=by
 by_cases hx:zbr x=hot
 .rw [if_pos hx];refine ⟨x,(hm x).mpr (.inr rfl),hx,rfl,λt ht _=>?_⟩;rcases (hm t).mp ht with ht|rfl
  .exact ci (hl t ht)
  .exact cc _
 .rw [if_neg hx];cases o with
  | none =>
   intro t ht;rcases (hm t).mp ht with ht|rfl
   .exact h t ht
   .exact hx
  | some e =>
   obtain ⟨t,g1,g2,g3,g4⟩:=h;refine ⟨t,(hm t).mpr (.inl g1),g2,g3,λt' ht' hh=>?_⟩;rcases (hm t').mp ht' with ht'|rfl
   .exact g4 t' ht' hh
   .exact absurd hh hx
theorem DP.row(h:DP d n e0 e1)(hk:k<d.rows.length)(hw:(d.rows.getD k []).length<32)(lr:LR n hot xs):DP (d.wrote k (zaR xs) c) (n+1) (if hot then some k else e0) (if hot then e1 else some k):=by
 have p:=zjM (c:=c) (t:=zaR xs) hk;rw [lr.ok.read] at p;have hm:∀t,t∈nU (d.wrote k (zaR xs) c)↔t∈nU d\/t=(xs,k,(d.rows.getD k []).length):=λt=>by
  rw [p.mem_iff,aS];show _\/t∈[_]↔_;rw [ax]
 obtain ⟨y,ys,rfl,hh⟩:=lr.hd;have hl:∀t∈nU d,zq t<zq (V.str y::V.int n::ys,k,(d.rows.getD k []).length):=h.lt;have hx:zbr (V.str y::V.int n::ys,k,(d.rows.getD k []).length)=hot:=hh.symm;have a0:=h.hot.add hm hl;have a1:=h.cold.add hm hl;rw [hx] at a0 a1;refine ⟨h.txw hk hw (zi1 lr.ok lr.len),(p.map zq).nodup_iff.mpr ?_,λt ht=>?_,?_,?_⟩
 .rw [cr,fQ];refine ⟨h.nd,by show [_].Nodup;simp,λa ha b hb z=>?_⟩;obtain ⟨t,ht,rfl⟩:=gs.mp ha;rw [show fi zq (one (some (V.str y::V.int n::ys)) k (d.rows.getD k []).length)=[n] from rfl,ax] at hb;have:=h.lt t ht;lia
 .rcases (hm t).mp ht with ht|rfl
  .have:=h.lt t ht;lia
  .show n<n+1;lia
 .cases hot<;>exact a0
 .cases hot<;>exact a1
end
theorem DP.new{n:Nat}(hn:n<=16)(m:Int):DP (DM.new n) m none none:=by
 have e:∀i,(DM.new n).rows.getD i []=[]:=λi=>by
  unfold DM.new;rw [av,cS];split<;>rfl
 have u:∀i,wU (DM.new n).rows i=[]:=λi=>by
  induction i with
  | zero=>rfl
  | succ i ih=>show wU _ i++_=_;rw [ih,e i];rfl
 have u:nU (DM.new n)=[]:=u _;exact ⟨⟨λr hr=>by rw [(List.mem_replicate.mp hr).2];simp,by show (bi n _).length<=16;rw [b8];exact hn⟩,by rw [u];exact .nil,by rw [u];nofun,(by rw [u];exact λt ht=>nomatch ht),by rw [u];exact λt ht=>nomatch ht⟩
abbrev zfi:Stmt:=top 63
theorem zfx{ms:Mdl}{e0 e1:Option Nat}{k:Nat}:∀{n:Nat},k∈smM ms e0 e1 n->k<n/\(ms.getD k []).length≠0/\e0≠some k/\e1≠some k
 | 0,h=>by cases h
 | n+1,h=>by
  rcases aS.mp h with h|h
  .have:=zfx h;exact ⟨by lia,this.2⟩
  .split at h
   .cases h
   .rename_i z;rw [ax] at h;subst h;exact ⟨by lia,λe=>z (.inl e),λe=>z (.inr (.inl e)),λe=>z (.inr (.inr e))⟩
theorem zdi:(∀ps,HO.lst xs≠.tbl ps)/\∀oc,HO.lst xs≠.frz oc (.own 0):=⟨λ_ z=>HO.noConfusion z,λ_ z=>HO.noConfusion z⟩
structure zcK(d:DM)(ms:Mdl):Prop where
 len:ms.length=d.rows.length
 at_:∀i,(ms.getD i []).length=(d.rows.getD i []).length
theorem zB.kind{p:Addr}(D:zB A H p wl sl cells m d)(hx:x∈p::wl::sl::cells):(∃dx fs,H x=some (.ins A.Disk dx fs))\/∃xs,H x=some (.lst xs):=by
 simp only [au] at hx;rcases hx with rfl|rfl|rfl|hx
 .obtain ⟨dx,e⟩:=D.ob;exact .inl ⟨_,_,e⟩
 .exact .inr ⟨_,D.rows.w⟩
 .exact .inr ⟨_,D.sides⟩
 .obtain ⟨i,hi⟩:=cM hx;exact .inr ⟨_,D.rows.at_ i x hi⟩
theorem TB.disk{p:Addr}(h:TB A H)(D:zB A H p wl sl cells m d)(k:zt (p::wl::sl::cells) H H'):TB A H':=h.keep k λx hx o ho=>by
 rcases D.kind hx with ⟨dx,fs,e⟩|⟨xs,e⟩
 .rw [ho] at e;cases e;exact ⟨λ_ z=>HO.noConfusion z,λ_ z=>HO.noConfusion z⟩
 .rw [ho] at e;cases e;exact zdi
theorem zbf.keep(h:zbf H a cs ms)(s:∀x∈a::cs,∀o,H x=some o->(∀ps,o≠.tbl ps)->H' x=some o):zbf H' a cs ms:=by
 refine ⟨s _ (bf ..) _ h.ls zdi.1,?_⟩;have:∀c∈cs,∀o,H c=some o->(∀ps,o≠.tbl ps)->H' c=some o:=λc hc=>s c (aF _ hc);have hr:=h.rows;clear h s
 induction hr with
 | nil=>exact .nil
 | cons r _ ih=>exact .cons (this _ (bf ..) _ r zdi.1) (ih λc hc=>this c (aF _ hc))
theorem zaY.wide(h:zaY d)(i:Nat):(d.rows.getD i []).length<=32:=by
 by_cases hi:i<d.rows.length
 .exact (h.ok _ (zcp hi)).1
 .rw [av,dY (by lia)];exact cf _
theorem zqD(r:List (Option Int)):(r.map onV).all zL=true:=by
 rw [List.all_map,bJ];intro o _;cases o<;>rfl
theorem zsD(n:Nat):((bi n [V.non]).flatten).all zL=true:=by
 induction n with
 | zero=>rfl
 | succ n ih=>rw [dq,cN,iR,ih];rfl
section
variable {P:aI}{w:aZ}{K:Frag}{mg:Str->Option Value}{base:Heap}{A:zj}
structure DH(A:zj)(H:Hp)(p wl sl:Addr)(cells:List Addr)(m:Int)(d:DM)(md el:Addr)(mcs:List Addr)(ms:Mdl)(e0 e1:Option Nat):Prop where
 disk:zB A H p wl sl cells m d
 mo:zbf H md mcs ms
 ends:H el=some (.lst [ov e0,ov e1])
 ap:∀x∈md::el::mcs,x∉p::wl::sl::cells
 nd:(md::el::mcs).Nodup
 tb:TB A H
structure DK(A:zj)(H:Hp)(p wl sl:Addr)(cells:List Addr)(m:Int)(d:DM)(md el:Addr)(mcs:List Addr)(ms:Mdl)(e0 e1:Option Nat):Prop where
 dh:DH A H p wl sl cells m d md el mcs ms e0 e1
 dp:∃n,DP d n e0 e1
 ln:zcK d ms
 sz:3<=d.rows.length/\d.rows.length<=16/\2<=m/\m<=32
section
variable {H H':Hp}{p wl sl:Addr}{cells:List Addr}{m:Int}{d d':DM}{md el:Addr}{mcs:List Addr}{ms:Mdl}{e0 e1:Option Nat} (h:DH A H p wl sl cells m d md el mcs ms e0 e1)
include h
theorem DH.keep(k:zt F H H')(h1:∀x∈p::wl::sl::cells,x∉F)(h2:∀x∈md::el::mcs,x∉F)(tb:TB A H'):DH A H' p wl sl cells m d md el mcs ms e0 e1 :=
 ⟨h.disk.keep k h1,h.mo.keep λx hx o e _=>k x o e (h2 x (by simp only [au] at hx ⊢;exact hx.elim .inl λz=>.inr (.inr z))),k _ _ h.ends (h2 el (by simp)),h.ap,h.nd,tb⟩
theorem DH.sameT(s:zG H H')(tb:TB A H'):DH A H' p wl sl cells m d md el mcs ms e0 e1 :=
 ⟨h.disk.sameT s,h.mo.keep λx _ o e n=>s x o n e,s _ _ zdi.1 h.ends,h.ap,h.nd,tb⟩
theorem DH.same(s:ze H H'):DH A H' p wl sl cells m d md el mcs ms e0 e1:=h.sameT (.of s) (h.tb.same s)
theorem DH.diskB(k:zt (p::wl::sl::cells) H H')(D:zB A H' p wl sl cells m d'):DH A H' p wl sl cells m d' md el mcs ms e0 e1 :=
 ⟨D,h.mo.keep λx hx o e _=>k x o e (h.ap x (by simp only [au] at hx ⊢;exact hx.elim .inl λz=>.inr (.inr z))),k _ _ h.ends (h.ap el (by simp)),h.ap,h.nd,h.tb.disk h.disk k⟩
theorem DH.lsts(hx:x∈md::el::mcs):∃xs,H x=some (.lst xs):=by
 simp only [au] at hx;rcases hx with rfl|rfl|hx
 .exact ⟨_,h.mo.ls⟩
 .exact ⟨_,h.ends⟩
 .obtain ⟨i,hi⟩:=cM hx;have hl:=h.mo.rows.length;have hi2:i<ms.length:=by have:=(ak.mp hi).1;lia
  exact ⟨_,zcj h.mo.rows hi (ah hi2)⟩
theorem DH.dict{kvs:List (Key×V)}(s:But b H H')(e:H b=some (.dK kvs)):DH A H' p wl sl cells m d md el mcs ms e0 e1:=by
 refine h.keep (F:=[b]) (λc o hc n=>s c o (λz=>n (ax.mpr z)) hc) (λx hx z=>?_) (λx hx z=>?_) ?_
 .rw [ax.mp z] at hx;rcases h.disk.kind hx with ⟨_,_,e'⟩|⟨_,e'⟩<;>(rw [e] at e';cases e')
 .rw [ax.mp z] at hx;obtain ⟨_,e'⟩:=h.lsts hx;rw [e] at e';cases e'
 .refine h.tb.keep (F:=[b]) (λc o hc n=>s c o (λz=>n (ax.mpr z)) hc) λx hx o ho=>?_;rw [ax.mp hx,e] at ho;cases ho;exact ⟨λ_ z=>HO.noConfusion z,λ_ z=>HO.noConfusion z⟩
theorem DH.tbl{o:HO}(e:H x=some (.lst xs)):TB A (upd H x o):=h.tb.keep (F:=[x]) (zt.upd (by simp)) λy hy u hu=>by
 rw [ax.mp hy,e] at hu;cases hu;exact zdi
theorem DH.mset{i0:Nat}{r:List (Option Int)}(hc:mcs[i0]?=some c):DH A (upd H c (.lst (r.map onV))) p wl sl cells m d md el mcs (ms.set i0 r) e0 e1:=by
 have cm:=aE hc;obtain ⟨n1,n2⟩:=cg.mp h.nd;obtain ⟨n3,n4⟩:=cg.mp n2;obtain ⟨xs,e⟩:=h.lsts (x:=c) (by simp [cm]);have k:zt [c] H (upd H c (.lst (r.map onV))):=zt.upd (by simp);refine ⟨h.disk.keep k λx hx z=>h.ap c (by simp [cm]) (ax.mp z ▸ hx),⟨k _ _ h.mo.ls λz=>n1 (by rw [ax.mp z];simp [cm]),zfy (by rw [cu];exact h.mo.rows.length) λi a b ha hb=>?_⟩,k _ _ h.ends λz=>n3 (by rw [ax.mp z];exact cm),h.ap,h.nd,h.tbl e⟩;by_cases hi:i0=i
 .subst hi;rw [hc] at ha;cases ha;have hl:=h.mo.rows.length;rw [eT (by have:=(ak.mp hc).1;lia)] at hb;cases hb;exact zu
 .rw [eM hi] at hb;rw [zd (λz=>hi (by subst z;exact (gR (ak.mp hc).1 n4).mp (hc.trans ha.symm)))];exact zcj h.mo.rows ha hb
theorem DH.eset{f0 f1:Option Nat}:DH A (upd H el (.lst [ov f0,ov f1])) p wl sl cells m d md el mcs ms f0 f1:=by
 obtain ⟨n1,n2⟩:=cg.mp h.nd;obtain ⟨n3,n4⟩:=cg.mp n2;have k:zt [el] H (upd H el (.lst [ov f0,ov f1])):=zt.upd (by simp);refine ⟨h.disk.keep k λx hx z=>h.ap el (by simp) (ax.mp z ▸ hx),h.mo.keep λx hx o e _=>k x o e λz=>?_,zu,h.ap,h.nd,h.tbl h.ends⟩;rw [ax.mp z] at hx;rcases au.mp hx with z|z
 .exact n1 (z ▸ bf ..)
 .exact n3 z
theorem DH.swap{k:Nat}{r:List (Option Int)}(hk:k<ms.length)(hc:H c=some (.lst (r.map onV)))(hn:c∉md::el::mcs)(hd:c∉p::wl::sl::cells):DH A (upd H md (.lst ((mcs.set k c).map V.ref))) p wl sl cells m d md el (mcs.set k c) (ms.set k r) e0 e1:=by
 obtain ⟨n1,n2⟩:=cg.mp h.nd;obtain ⟨n3,n4⟩:=cg.mp n2;simp only [au,not_or] at hn n1;have hl:=h.mo.rows.length;have kk:zt [md] H (upd H md (.lst ((mcs.set k c).map V.ref))):=zt.upd (by simp);have hm:∀x∈mcs.set k c,x=c\/x∈mcs:=λx hx=>(fw hx).symm;refine ⟨h.disk.keep kk λx hx z=>h.ap md (by simp) (ax.mp z ▸ hx),⟨zu,zfy (by rw [cu,cu];exact hl) λi a b ha hb=>?_⟩,by rw [zd (aU n1.1)];exact h.ends,λx hx=>?_,?_,h.tbl h.mo.ls⟩
 .by_cases hi:k=i
  .subst hi;rw [eT (by lia)] at ha hb;cases ha;cases hb;rw [zd hn.1];exact hc
  .rw [eM hi] at ha hb;rw [zd (λz=>n1.2 (by rw [<- z];exact aE ha))];exact zcj h.mo.rows ha hb
 .simp only [au] at hx;rcases hx with rfl|rfl|hx
  .exact h.ap _ (by simp)
  .exact h.ap _ (by simp)
  .rcases hm x hx with rfl|hx
   .exact hd
   .exact h.ap _ (by simp [hx])
 .refine cg.mpr ⟨λz=>?_,cg.mpr ⟨λz=>?_,?_⟩⟩
  .rcases au.mp z with z|z
   .exact n1.1 z
   .rcases hm _ z with z|z
    .exact hn.1 z.symm
    .exact n1.2 z
  .rcases hm _ z with z|z
   .exact hn.2.1 z.symm
   .exact n3 z
  .refine List.nodup_iff_pairwise_ne.mpr (du.mpr λi j hi hj hij=>?_);rw [cu] at hi hj;rw [List.getElem_set,List.getElem_set];have nij:mcs[i]≠mcs[j]:=λz=>by
    have e1:mcs[i]?=mcs[j]?:=by rw [ah hi,ah hj];exact congrArg some z
    have:=(gR hi n4).mp e1;lia
   split
   .split
    .lia
    .exact λz=>hn.2.2 (by rw [z];exact fO hj)
   .split
    .exact λz=>hn.2.2 (by rw [<- z];exact fO hi)
    .exact nij
end
theorem DK.same{p:Addr}{md el:Addr}{mcs:List Addr}(h:DK A H p wl sl cells m d md el mcs ms e0 e1)(s:ze H H'):DK A H' p wl sl cells m d md el mcs ms e0 e1:=⟨h.dh.same s,h.dp,h.ln,h.sz⟩
structure ToI(H:Hp)(md:Addr)(js:List Nat)(i:Nat)(τ:L2.St)(ys:List V)(H':Hp):Prop where
 ex:∃t,τ=[t,some (V.ref md)]
 ys:∃l:List Nat,ys=l.map iv/\l.length<=i/\∀k∈l,k∈js
 same:ze H H'
 le:i<=js.length
def zkF(A:zj):Sp:=λvs H Q _=>∃(p wl sl:Addr)(cells:List Addr)(m:Int)(d:DM)(md el:Addr)(mcs:List Addr)(ms:Mdl)(e0 e1:Option Nat)(far:Int),vs=[.ref p,.ref md,.ref el,.int far]/\DK A H p wl sl cells m d md el mcs ms e0 e1/\d.left=none/\d.st=false /\
 ∀p' wl' sl' cells' d' H',DK A H' p' wl' sl' cells' m d' md el mcs ms e0 e1->zt (p::wl::sl::cells) H H'->Q (.ref p') H'
theorem zfF:zr ["_law_disk_here","_law_model","_law_ends","_law_far","_law_some_here","_law_stretch"] ["_law_disk_here","_law_model","_law_ends","_law_far"] (zn zfi):=fsc
theorem zpa:zbk { kind:=.function,names:=[(aj ".0",.local),(aj "_law_k",.local),(aj "_law_model",.free),(aj "len",.globalImplicit)],isGenerator:=false,isCoroutine:=false,more:=[] } (zn zfi).names ["_law_disk_here","_law_model","_law_ends","_law_far","_law_some_here","_law_stretch"] ["_law_k","_law_model"] [none,some 1]=true:=by decide +kernel
theorem zoh:(["_law_k","_law_model"]:List Str).Nodup:=by decide +kernel
theorem zo5(F:Fun K "_law_torn" "_law_torn" zfi f fd)(T:Txt w K mg A)(Gi:GF P w K mg base true 1 "_law_some" ["_law_model","_law_ends"] zhI)(M_Disk_stop:GM P w K mg base true 1 A.Disk "stop" ["self","many"] (zlM A))(M_Disk_empty:GMX P w K mg base true 2 A.Disk "empty" ["self","stretch"] (zg1 A))(M_Disk_copied:GM P w K mg base false 5 A.Disk "copied" ["self"] (zhW A)):zo P w K mg base CX0 true 6 f fd ["_law_disk_here","_law_model","_law_ends","_law_far"] (zkF A):=by
 refine F.ok zfF (λvs H Q E h=>?_) (λcdv Ar outer s H vs Q E hr h=>?_)
 .obtain ⟨p,wl,sl,cells,m,d,md,el,mcs,ms,e0,e1,far,rfl,_⟩:=h;rfl
 .obtain ⟨p,wl,sl,cells,m,d,md,el,mcs,ms,e0,e1,far,rfl,Z,lf,st,q⟩:=h;have hu:_<cLine:=bz (zab hr);refine ⟨_,(W.h (zg (zl8 (i0:=4) zfF.nd rfl (aK rfl) (λ_=>rfl) (zaz.of zpa) (liD (zd1 (clE (caD (zy Gi hr rfl (clP (zb (za 1) (zb (za 2) zc)))))))) (λ_ _ _ _ _=>(zC (i:=0) zoh rfl (aK rfl))) (λ_ _ _ _ _=>(zfv (tD (zF (clO (oE (zaK hu))) (clE (zV zZ (za 1) (za 0) (λ_ _=>rfl))) (clE (zl zaT (zaC (zb zaJ zc)) (zI zak rfl T.n_len aX (zb (zV zZ (za 1) (za 0) (λ_ _=>rfl)) zc)))) (zD _))))) (λ_ _ _ _ _=>(za 0)))
   (zg (zN (zcc (zg7 (tD (zF (clO (zkI hu)) (clE (za 4)) (clE (zaC zc)) (zD _))) (zgC (tD (zF (clO (oE (zaK hu))) (clE (zl (oI zS) (za 3) zi)) (clE zi) (zD _))))))
   (zh (zw (za 0)))
   zQ)
   (zg (zx (i:=5) zfF.nd rfl (aK rfl) (zV zZ (za 4) (zl (oI zS) (zl (oI zco) (za 3) zi) (zI zak rfl T.n_len aX (zb (za 4) zc))) (λ_ _=>rfl)))
   (zg (zal (mD (za4 (clE (za 0)) T.cl_Disk M_Disk_stop hr (clP (zb (zl (oI zS) (zl (oI zco) (za 3) zi) (zI zak rfl T.n_len aX (zb (zV zZ (za 1) (za 5) (λ_ _=>rfl)) zc))) zc)))))
   (zg (zje rfl rfl ⟨rfl,rfl⟩ T.ek_Stopped rfl T.mg_Stopped (λGa Ex=>(zh (zal (mXD (zdL (clE (za 0)) T.cl_Disk zi8 M_Disk_empty hr (clP (zb (za 5) zc))))))) (λGa ea=>by
   have hr:=hr.mark (v:=some (.ref ea));exact (zh (zN (tD (zF (clO (oE (zaK hu))) (clE (zl (oI zS) (za 3) zi)) (clE zi) (zD _)))
   (zh (zw (m0D (zbn (clE (za 0)) T.cl_Disk M_Disk_copied hr))))
   zQ))))
   (zh (zw (za 0))))))))),?_⟩
  have h16:ms.length<=16:=by rw [Z.ln.len];exact Z.sz.2.1
  simp_all only [];refine ⟨md,el,mcs,ms,e0,e1,rfl,Z.dh.mo,h16,Z.dh.ends,λl1 H1 s1 _ hl1=>?_⟩;have Z1:=Z.same s1;have jl:=zfW ms e0 e1 ms.length;generalize hjs:smM ms e0 e1 ms.length=js at hl1 jl
  try simp_all only []
  refine ⟨⟨_,SqL.of hl1⟩,zau.lst (xs:=js.map iv) (ToI H1 md js) (λi τ ys H' I=>?_) (λi τ ys H' I=>SqL.of (I.same _ _ hl1)) ⟨⟨_,rfl⟩,⟨[],rfl,ae _,λ_ z=>(nomatch z)⟩,ze.refl _,cf _⟩ ?_ ?_⟩
  .obtain ⟨l,e,hl,_⟩:=I.ys;rw [e,am];exact za5 (by have:=I.le;lia)
  .intro N i x τ ys H' hx I hN;obtain ⟨t1,rfl⟩:=I.ex;obtain ⟨l,e,hl,hm⟩:=I.ys;rw [bh] at hx;obtain ⟨k,hk,rfl⟩:=bX.mp hx;have hi:i<js.length:=(ak.mp hk).1;have kj:=aE hk;obtain ⟨k1,k2,_,_⟩:=zfx (by rw [hjs];exact kj:k∈smM ms e0 e1 ms.length);have M2:=(Z1.same I.same).dh.mo;obtain ⟨c,hc,ec⟩:=M2.at k1;have ea:atI (mcs.map V.ref) (k:Int)=some (.ref c):=za8 (by rw [bh,hc];rfl);have w32:(ms.getD k []).length<=32:=by rw [Z.ln.at_ k];obtain ⟨_,dp⟩:=Z.dp;exact dp.tx.wide k
   unfold iv;simp_all only [];refine ⟨_,.inl M2.ls,_,ea,by decide,λp3 H3 n3 _=>⟨_,.inl (n3.same _ _ M2.ls),_,ea,?_⟩⟩;rw [zeu];refine ⟨_,.inl (n3.same _ _ ec),?_⟩;simp_all only [];rw [am];refine ⟨_,n3.at_,by lia,by lia,zbh (by clear ec;generalize ms.getD k []=r at w32 ⊢;simp;lia),λp4 H4 n4=>⟨_,n4.same _ _ (n3.same _ _ ec),_,n4.at_,zqD _,zsD _,?_⟩⟩;have sm:=(I.same.trans n3.same).trans n4.same;cases eqL ((ms.getD k []).map onV) (bi ((ms.getD k []).length:Int).toNat [V.non]).flatten with
   | false =>
    simp_all only [];exact hN _ _ _ ⟨⟨_,rfl⟩,⟨l,e,by lia,hm⟩,sm,hi⟩
   | true =>
    simp_all only [];refine hN _ _ _ ⟨⟨_,rfl⟩,⟨l++[k],by rw [e,cr];rfl,by simp;lia,λx hx=>?_⟩,sm,hi⟩;rcases aS.mp hx with hx|hx
    .exact hm x hx
    .rw [ax.mp hx];exact kj
  .intro τ ys H' I D2 H2 m2;obtain ⟨l,e,hl,hm⟩:=I.ys;rw [e] at m2;have s2:ze H H2:=(s1.trans I.same).trans m2.same;simp_all only [];refine ⟨cf _,λp3 H3 n3 _=>⟨_,n3.same _ _ m2.at_,_,n3.at_,.inr rfl,?_⟩⟩;have s3:ze H H3:=s2.trans n3.same;have Z3:=Z.same s3;have stay:Q (.ref p) H3:=q p wl sl cells d H3 Z3 (zt.same s3);rw [am,dJ];by_cases hl0:l.length=0
   .rw [if_pos (decide_eq_true hl0)];exact stay
   rw [if_neg (by rw [decide_eq_false hl0];exact aw)];refine ⟨by decide,zO (λ_=>stay) λ_=>?_⟩;obtain ⟨v,ev,hv⟩:=zdl (xs:=l.map iv) (i:=far / 3 % (l.length:Int)) (gD _ (by lia)) (by rw [am];exact fc _ (by lia));obtain ⟨k,hkl,rfl⟩:=gs.mp hv;obtain ⟨k1,k2,k3,k4⟩:=zfx (by rw [hjs];exact hm k hkl:k∈smM ms e0 e1 ms.length);have hk:k<d.rows.length:=by rw [<- Z.ln.len];exact k1
   obtain ⟨c,hc,ec⟩:=Z3.dh.mo.at k1;have ea:atI (mcs.map V.ref) (k:Int)=some (.ref c):=za8 (by rw [bh,hc];rfl);obtain ⟨dx3,ob3⟩:=Z3.dh.disk.ob;have em:=n3.same _ _ m2.at_;refine ⟨⟨by decide,by decide⟩,_,.inl em,by rw [am];lia,_,.inl em,iv k,by rw [am];exact ev,dx3,_,ob3,zsQ,⟨by decide,by decide⟩,?_⟩;unfold iv;rw [ziQ];refine ⟨_,.inl Z3.dh.mo.ls,_,ea,?_⟩;rw [zeu];refine ⟨_,.inl ec,?_⟩;rw [zkA,am,Z.ln.at_ k];have hne:(d.rows.getD k []).length≠0:=by rw [<- Z.ln.at_ k];exact k2
   obtain ⟨j,hj⟩:∃j:Nat,far / 5 % ((d.rows.getD k []).length:Int)=j:=⟨(far / 5 % ((d.rows.getD k []).length:Int)).toNat,by have:=gD (far / 5) (show ((d.rows.getD k []).length:Int)≠0 by lia);lia⟩;have hj1:j<(d.rows.getD k []).length:=by have:=fc (far / 5) (show 0<((d.rows.getD k []).length:Int) by lia);lia
   rw [hj];refine ⟨by lia,p,wl,sl,cells,m,d,j,rfl,Z3.dh.disk,λH4 D4 b4=>?_⟩;obtain ⟨dx4,ob4⟩:=D4.ob;obtain ⟨nn,dp⟩:=Z.dp;refine ⟨dx4,_,ob4,zl3,p,wl,sl,cells,m,d.stop j,k,rfl,D4,hk,λi=>aW (dp.tx.wide i) (by decide),(λl e=>by cases e;lia),λH5 D5 b5=>?_⟩;rw [zsc st hj1] at D5 ⊢;unfold Out;dsimp only;refine ⟨_,rfl,T.ek_Stopped,T.ms_Stopped,λea oe he _=>?_⟩;have s56:ze H5 (upd H5 ea (.frz oe (.own 0))):=λx o e=>by rw [zd (zp e he)];exact e
   generalize upd H5 ea (.frz oe (.own 0))=H6 at s56 ⊢;have b36:zt (p::wl::sl::cells) H3 H6:=((b4.mono (by simp)).trans b5).trans (zt.same s56);have D6:=D5.sameT (.of s56);have rl:(d.torn k j).rows.length=d.rows.length:=cu ..;have ln:∀lf sx,zcK { d.torn k j with left:=lf,st:=sx } ms:=λlf sx=>⟨by rw [Z.ln.len];exact rl.symm,λi=>by
    rw [Z.ln.at_ i];show _=((d.rows.set k _).getD i []).length;rw [zbo hk];split
    .rename_i z;rw [zfN hj1,z]
    .rfl⟩
   have Z6:DK A H6 p wl sl cells m { d.torn k j with left:=some 0,st:=true } md el mcs ms e0 e1:=⟨Z3.dh.diskB b36 D6,⟨nn,dp.tear hk hj1 k3 k4⟩,ln _ _,by rw [show ({ d.torn k j with left:=some 0,st:=true }:DM).rows.length=d.rows.length from rl];exact Z.sz⟩;have k06:zt (p::wl::sl::cells) H H6:=(zt.same s3).trans b36;simp_all only [];refine ⟨by decide,zO (λ_=>?_) λ_=>q p wl sl cells _ H6 Z6 k06⟩;obtain ⟨dx6,ob6⟩:=Z6.dh.disk.ob;refine ⟨dx6,_,ob6,zlp,p,wl,sl,cells,m,_,rfl,Z6.dh.disk,Z6.sz.1,Z6.sz.2.1,Z6.sz.2.2.1,Z6.sz.2.2.2,λp' wl' sl' cells' H7 D7 s7 f7=>?_⟩;have h7:=Z6.dh.same s7;refine q p' wl' sl' cells' _ H7 ⟨⟨D7,h7.mo,h7.ends,λx hx z=>?_,h7.nd,h7.tb⟩,⟨nn,dp.tear hk hj1 k3 k4⟩,ln _ _,Z6.sz⟩ (k06.trans (zt.same s7));obtain ⟨xs,e⟩:=Z6.dh.lsts hx;rw [f7 x z] at e;cases e
end
abbrev zfA:Stmt:=top 62
structure NL(H H':Hp):Prop where
 dic:∀c kvs,H c=some (.dK kvs)->H' c=some (.dK kvs)
 tup:∀c xs,H c=some (.tup xs)->H' c=some (.tup xs)
theorem NL.of(s:ze H H'):NL H H':=⟨λc _ e=>s c _ e,λc _ e=>s c _ e⟩
theorem NL.upd{o:HO}(e:H x=some (.lst xs)):NL H (upd H x o):=⟨λc _ h=>by rw [zd (λz=>by rw [z,e] at h;cases h)];exact h,λc _ h=>by rw [zd (λz=>by rw [z,e] at h;cases h)];exact h⟩
theorem NL.disk{p:Addr}(D:zB A H p wl sl cells m d)(k:zt (p::wl::sl::cells) H H'):NL H H' :=
 ⟨λc _ h=>k c _ h λz=>by rcases D.kind z with ⟨_,_,e⟩|⟨_,e⟩<;>(rw [h] at e;cases e),λc _ h=>k c _ h λz=>by rcases D.kind z with ⟨_,_,e⟩|⟨_,e⟩<;>(rw [h] at e;cases e)⟩
theorem zJ.nl{fp k:Addr}{t:Tab}(h:zJ A H fp b k t [])(n:NL H H')(hf:∀o,H fp=some o->H' fp=some o):zJ A H' fp b k t []:=by
 obtain ⟨dx,e⟩:=h.ob;obtain ⟨kk,e2,d⟩:=h.kept;obtain ⟨kvs,e3,d3⟩:=h.births.ex;cases d;exact ⟨⟨dx,hf _ e⟩,⟨⟨kvs,n.dic _ _ e3,d3.imp λv l ⟨p,ev,hp⟩=>⟨p,ev,n.tup _ _ hp⟩⟩,h.births.nd⟩,⟨[],n.dic _ _ e2,.nil⟩,h.ndk,h.ne⟩
theorem zJ.bd{p k:Addr}{t:Tab}(h:zJ A H p b k t ks):∃kvs,H b=some (.dK kvs):=let ⟨_,e,_⟩:=h.births.ex;⟨_,e⟩
theorem zJ.kd{p k:Addr}{t:Tab}(h:zJ A H p b k t ks):∃kvs,H k=some (.dK kvs):=let ⟨_,e,_⟩:=h.kept;⟨_,e⟩
theorem zvK{t:List (Str×α)}{n:Str}{a:α}:(zaL t n a).length<=t.length+1:=by
 unfold zaL;split<;>simp
theorem zrv{t:Tab}{n m:Str}:lk (zaL t n l) m=if m=n then l else lk t m:=by
 unfold lk;rw [zoH];split<;>rfl
theorem znc{R:α->β->Prop}{l:List α}{m:List β}(h:Paired R l m):Paired R l.reverse m.reverse:=by
 induction h with
 | nil=>exact .nil
 | cons r _ ih=>rw [iI,iI];exact zdG ih (.cons r .nil)
def mt(b sp md el:Addr)(mcs:List Addr)(p wl sl:Addr)(cells:List Addr):List Addr:=b::sp::md::el::(mcs++p::wl::sl::cells)
structure BH(A:zj)(Ha H:Hp)(p wl sl:Addr)(cells:List Addr)(m:Int)(d:DM)(md el:Addr)(mcs:List Addr)(ms:Mdl)(e0 e1:Option Nat)(fp b k:Addr)(t:Tab)(sp:Addr)(as:List Addr)(ts:List T3):Prop where
 dh:DH A H p wl sl cells m d md el mcs ms e0 e1
 files:zJ A H fp b k t []
 spl:H sp=some (.lst (as.map V.ref))
 sps:Paired (zcR H) as ts
 fd:fp∉p::wl::sl::cells
 sd:sp∉p::wl::sl::cells
 sm:sp∉md::el::mcs
 keep:zt (mt b sp md el mcs p wl sl cells) Ha H
section
variable {A:zj}{Ha H H':Hp}{p wl sl:Addr}{cells:List Addr}{m:Int}{d d':DM}{md el:Addr}{mcs:List Addr}{ms ms':Mdl}{e0 e1 f0 f1:Option Nat}{fp b k:Addr}{t t':Tab}{sp:Addr}{as:List Addr}{ts:List T3} (h:BH A Ha H p wl sl cells m d md el mcs ms e0 e1 fp b k t sp as ts)
include h
theorem BH.go(dh:DH A H' p wl sl cells m d' md el mcs ms' f0 f1)(n:NL H H')(hf:∀o,H fp=some o->H' fp=some o)(hs:∀o,H sp=some o->H' sp=some o)(kp:zt (mt b sp md el mcs p wl sl cells) H H'):BH A Ha H' p wl sl cells m d' md el mcs ms' f0 f1 fp b k t sp as ts :=
 ⟨dh,h.files.nl n hf,hs _ h.spl,Paired.mapP h.sps λ_ _ e=>n.tup _ _ e,h.fd,h.sd,h.sm,h.keep.trans kp⟩
theorem BH.same(s:ze H H'):BH A Ha H' p wl sl cells m d md el mcs ms e0 e1 fp b k t sp as ts:=h.go (h.dh.same s) (.of s) (λ_ e=>s _ _ e) (λ_ e=>s _ _ e) (zt.same s)
theorem BH.at(Hb:Hp)(kp:zt (mt b sp md el mcs p wl sl cells) Hb H):BH A Hb H p wl sl cells m d md el mcs ms e0 e1 fp b k t sp as ts:=⟨h.dh,h.files,h.spl,h.sps,h.fd,h.sd,h.sm,kp⟩
theorem BH.live(hx:x∈mt b sp md el mcs p wl sl cells):∃o,H x=some o:=by
 unfold mt at hx;rcases au.mp hx with rfl|hx
 .obtain ⟨_,e⟩:=h.files.bd;exact ⟨_,e⟩
 rcases au.mp hx with rfl|hx
 .exact ⟨_,h.spl⟩
 rw [<- cons_append,<- cons_append] at hx;rcases aS.mp hx with hx|hx
 .obtain ⟨_,e⟩:=h.dh.lsts hx;exact ⟨_,e⟩
 .rcases h.dh.disk.kind hx with ⟨_,_,e⟩|⟨_,e⟩<;>exact ⟨_,e⟩
theorem BH.new(hx:H x=none):x∉mt b sp md el mcs p wl sl cells:=λz=>by
 obtain ⟨o,e⟩:=h.live z;rw [hx] at e;cases e
theorem BH.write(kp:zt (p::wl::sl::cells) H H')(D:zB A H' p wl sl cells m d'):BH A Ha H' p wl sl cells m d' md el mcs ms e0 e1 fp b k t sp as ts :=
 h.go (h.dh.diskB kp D) (.disk h.dh.disk kp) (λ_ e=>kp _ _ e h.fd) (λ_ e=>kp _ _ e h.sd) (kp.mono λx hx=>by unfold mt;simp only [au,aS] at hx ⊢;exact .inr (.inr (.inr (.inr (.inr hx)))))
theorem BH.list{o:HO}(hx:x∈md::el::mcs)(dh:DH A (upd H x o) p wl sl cells m d' md el mcs ms' f0 f1):BH A Ha (upd H x o) p wl sl cells m d' md el mcs ms' f0 f1 fp b k t sp as ts:=by
 obtain ⟨xs,e⟩:=h.dh.lsts hx;refine h.go dh (.upd e) (λu hu=>?_) (λu hu=>?_) (zt.upd ?_)
 .obtain ⟨dx,ef⟩:=h.files.ob;rw [zd (λz=>by rw [z,e] at ef;cases ef)];exact hu
 .rw [zd (λz=>h.sm (by rw [z];exact hx))];exact hu
 .unfold mt;simp only [au,aS] at hx ⊢;exact hx.elim (λz=>.inr (.inr (.inl z))) λz=>z.elim (λz=>.inr (.inr (.inr (.inl z)))) λz=>.inr (.inr (.inr (.inr (.inl z))))
theorem BH.spot{x:T3}(ha:zcR H a x):BH A Ha (upd H sp (.lst ((as++[a]).map V.ref))) p wl sl cells m d md el mcs ms e0 e1 fp b k t sp (as++[a]) (ts++[x]):=by
 have kp:zt [sp] H (upd H sp (.lst ((as++[a]).map V.ref))):=zt.upd (by simp);have n:NL H (upd H sp (.lst ((as++[a]).map V.ref))):=.upd h.spl;refine ⟨h.dh.keep kp (λy hy z=>h.sd (ax.mp z ▸ hy)) (λy hy z=>h.sm (ax.mp z ▸ hy)) (h.dh.tbl h.spl),h.files.nl n λu hu=>?_,zu,zdG (Paired.mapP h.sps λ_ _ e=>n.tup _ _ e) (.cons (n.tup _ _ ha) .nil),h.fd,h.sd,h.sm,h.keep.trans (kp.mono (by simp [mt]))⟩;obtain ⟨dx,ef⟩:=h.files.ob;rw [zd (λz=>by rw [z,h.spl] at ef;cases ef)];exact hu
theorem BH.put(s:But b H H')(F:zJ A H' fp b k t' []):BH A Ha H' p wl sl cells m d md el mcs ms e0 e1 fp b k t' sp as ts:=by
 obtain ⟨kvs,e⟩:=h.files.bd;refine ⟨h.dh.dict s e,F,s _ _ (λz=>by have:=h.spl;rw [z,e] at this;cases this) h.spl,Paired.mapP h.sps λc x hc=>s _ _ (λz=>?_) hc,h.fd,h.sd,h.sm,h.keep.trans λc o hc n=>s c o (λz=>n (by rw [z];simp [mt])) hc⟩;have hc:H c=some (.tup _):=hc;rw [z,e] at hc;cases hc
end
structure BP(d:DM)(ms:Mdl)(e0 e1:Option Nat)(n:Int)(t:Tab)(ts:List T3)(c:Nat):Prop where
 dp:DP d n e0 e1
 lf:d.left=none
 st:d.st=false
 n0:0<=n
 nc:n<=c
 tl:t.length<=ts.length
 al:(lk t "a").length=ts.length
 few:ts.length<=200
 num:∀x∈ts,(0<=x.1/\x.1<n)\/(5000<=x.1/\x.1<5000+n)
 nd:(ts.map (·.1)).Nodup
section
variable {P:aI}{w:aZ}{K:Frag}{mg:Str->Option Value}{base:Heap}{A:zj}
structure OuI(A:zj)(Ha:Hp)(a lo:Addr)(N:Nat)(m:Int)(os:List Nat)(p wl sl:Addr)(cells:List Addr)(md el:Addr)(mcs:List Addr)(fp b k sp:Addr)(i:Nat)(σ:L2.St)(H:Hp):Prop where
 ex:∃(d:DM)(ms:Mdl)(e0 e1:Option Nat)(t:Tab)(as:List Addr)(ts:List T3)(n:Int)(x10 x11 x12 x13 x14 x15 x16 x17 x18 x19 x20:Option V),σ=[some (V.ref a),some (.int N),some (.int m),some (.ref lo),some (.ref p),some (.ref md),some (.ref fp),some (.ref sp),some (.int n),some (.ref el),x10,x11,x12,x13,x14,x15,x16,x17,x18,x19,x20] /\
  BH A Ha H p wl sl cells m d md el mcs ms e0 e1 fp b k t sp as ts/\BP d ms e0 e1 n t ts (32*i)/\zcK d ms/\d.rows.length=N/\∀j k,i<=j->os[j]?=some k->(d.rows.getD k []).length=0
structure InI(A:zj)(Ha:Hp)(a lo:Addr)(N:Nat)(m:Int)(os:List Nat)(p wl sl:Addr)(cells:List Addr)(md el:Addr)(mcs:List Addr)(fp b k sp wy:Addr)(i kk:Nat)(c:Int)(j:Nat)(σ:L2.St)(H:Hp):Prop where
 ex:∃(d:DM)(ms:Mdl)(e0 e1:Option Nat)(t:Tab)(as:List Addr)(ts:List T3)(n:Int)(x14 x15 x16 x17 x18 x19 x20:Option V),σ=[some (V.ref a),some (.int N),some (.int m),some (.ref lo),some (.ref p),some (.ref md),some (.ref fp),some (.ref sp),some (.int n),some (.ref el),some (.int i),some (.int kk),some (.ref wy),some (.int c),x14,x15,x16,x17,x18,x19,x20] /\
  BH A Ha H p wl sl cells m d md el mcs ms e0 e1 fp b k t sp as ts/\BP d ms e0 e1 n t ts (32*i+j)/\zcK d ms/\d.rows.length=N/\(d.rows.getD kk []).length=j/\∀j k,i+1<=j->os[j]?=some k->(d.rows.getD k []).length=0
def zjq(K:Frag)(A:zj):Sp:=λvs H Q _=>∃(a:Addr)(ns:List Int),vs=[.ref a]/\SqL K H a (ns.map V.int)/\TB A H /\
 ∀r p wl sl cells m d md el mcs ms e0 e1 x H',ze H H'->H' r=some (.tup [.ref p,.ref x,.ref md,.ref el,.int m])->DK A H' p wl sl cells m d md el mcs ms e0 e1->H md=none->Q (.ref r) H'
theorem zam:zr ["_law_script","_law_many","_law_wide","_law_order","_law_disk_here","_law_model","_law_files","_law_spots","_law_number","_law_ends","_law_turn","_law_stretch","_law_ways","_law_cold","_law_place","_law_way","_law_other","_law_birth","_law_lives","_law_row_here","_law_state"] ["_law_script"] (zn zfA):=fsc
theorem zqw:zbk { kind:=.function,names:=[(aj ".0",.local),(aj "_law_k",.local)],isGenerator:=false,isCoroutine:=false,more:=[] } (zn zfA).names ["_law_script","_law_many","_law_wide","_law_order","_law_disk_here","_law_model","_law_files","_law_spots","_law_number","_law_ends","_law_turn","_law_stretch","_law_ways","_law_cold","_law_place","_law_way","_law_other","_law_birth","_law_lives","_law_row_here","_law_state"] ["_law_k"] [none]=true:=by decide +kernel
theorem zpW:(["_law_k"]:List Str).Nodup:=by decide +kernel
theorem zuA(F:Fun K "_law_disk" "_law_disk" zfA f fd)(T:Txt w K mg A)(GJ:GF P w K mg base true 3 "_law_layout" ["_law_script"] (zir K))(Ge:GC P w K mg base true 3 "Disk" A.Disk ["self","stretches","places"] (zer A))(Gh:GC P w K mg base true 1 "Files" A.Files ["self"] (zgV A))(Gb:GF P w K mg base true 1 "_law_at" ["_law_script","_law_k"] (zfq K))(Gf:GF P w K mg base true 2 "_law_row" ["_law_script","_law_k","_law_many","_law_base"] (zeK K))(M_Disk_write:GMX P w K mg base true 3 A.Disk "write" ["self","stretch","text"] (zlY A))(Gk:GF P w K mg base true 3 "_law_text" ["_law_script","_law_k"] (ziK K))(GK:GF P w K mg base true 1 "_law_idle" ["_law_number","_law_way"] ziq)(GL:GF P w K mg base true 3 "row_text" ["row"] zjy)(M_Files_put:GM P w K mg base true 4 A.Files "put" ["self","file","place","birth"] (ziw A))(M_Files_hold:GM P w K mg base true 5 A.Files "hold" ["self","name"] (zmR A))(M_Files_cut:GM P w K mg base true 4 A.Files "cut" ["self","file","many"] (ziL A))(GN:GC P w K mg base true 5 "State" A.State ["self","files","spots","next_number","mark_number"] (zmw A))(GO:GF P w K mg base true 6 "_law_torn" ["_law_disk_here","_law_model","_law_ends","_law_far"] (zkF A)):zo P w K mg base CX0 true 7 f fd ["_law_script"] (zjq K A):=by
 refine F.ok zam (λvs H Q E h=>?_) (λcdv Ar outer s H vs Q E hr h=>?_)
 .obtain ⟨a,ns,rfl,_⟩:=h;rfl
 .obtain ⟨a,ns,rfl,hS,tb,q⟩:=h;have hu:_<cLine:=bz (zab hr);refine ⟨_,(W.h (zg (zbp (caD (zy GJ hr rfl (clP (zb (za 0) zc)))) (zc3 (n:=3) (gsD (zW (zC (i:=1) zam.nd rfl (aK rfl)) (gsD (zW (zC (i:=2) zam.nd rfl (aK rfl)) (gsD (zW (zC (i:=3) zam.nd rfl (aK rfl)) zbT))))))))
   (zg (zx (i:=4) zam.nd rfl (aK rfl) (ze6 Ge hr rfl (zb (za 1) (zb (za 2) zc))))
   (zg (zl8 (i0:=5) zam.nd rfl (aK rfl) (λ_=>rfl) (zaz.of zqw) (zbU rfl T.n_range (zb (za 1) zc)) (λ_ _ _ _ _=>(zC (i:=0) zpW rfl (aK rfl))) (λ_ _ _ _ _=>zc6) (λ_ _ _ _ _=>(zaC zc)))
   (zg (zx (i:=6) zam.nd rfl (aK rfl) (zkK Gh hr rfl))
   (zg (zx (i:=7) zam.nd rfl (aK rfl) (zaC zc))
   (zg (zx (i:=8) zam.nd rfl (aK rfl) zi)
   (zg (zx (i:=9) zam.nd rfl (aK rfl) (zaC (zb zaJ (zb zaJ zc))))
   (zg (zbw dH.never (λ_=>rfl) (znP rfl T.n_enumerate (zb (zbQ zcg (za 3) zbO (zbP (zl (oI0 zct) (za 1) (zl (oI zS) (caD (zy Gb hr rfl (clP (zb (za 0) (zb zi zc))))) zi)))) zc)) (zc3 (n:=2) (gsD (zW (zC (i:=10) zam.nd rfl (aK rfl)) (gsD (zW (zC (i:=11) zam.nd rfl (aK rfl)) zbT)))))
   (zg (zx (i:=12) zam.nd rfl (aK rfl) (caD (zy Gf hr rfl (clP (zb (za 0) (zb (zl zR zi (za 10)) (zb (zl zR (zl zaT zi (za 2)) zi) (zb zi zc))))))))
   (zg (zx (i:=13) zam.nd rfl (aK rfl) (zl (oI zco) (zl (oI zS) (zV zZ (za 12) zi (λ_ _=>rfl)) zi) zi))
   (zh (zbw dH.never (λ_=>rfl) (zbU rfl T.n_range (zb (zl zR zi (zV zZ (zaC (zb (zl (oI zS) (zV zZ (za 12) zi (λ_ _=>rfl)) (za 2)) (zb (zl (oI0 zct) (za 2) zi) zc))) (zl (oI zS) (zl (oI zco) (zV zZ (za 12) zi (λ_ _=>rfl)) zi) zi) (λ_ _=>rfl))) zc)) (zC (i:=14) zam.nd rfl (aK rfl))
   (zg (zbp (zbQ zcg (zbQ zcg (za 12) (zbP (zl zR zi (zl zaT zi (za 14)))) zbO) zbO (zbP zi)) (zlN rfl (n:=2) (gsD (zW (zC (i:=15) zam.nd rfl (aK rfl)) (gsD (zW (zC (i:=16) zam.nd rfl (aK rfl)) zbT))))))
   (zg (zal (zc1 (zV zZ (za 5) (za 11) (λ_ _=>rfl)) zaJ))
   (zh (zN (tD (zF (clO (oE (zaK hu))) (clE (zl (oI zS) (za 15) zi)) (clE zi) (zD _)))
   (zh (zal (mXD (zdL (clE (za 4)) T.cl_Disk zh7 M_Disk_write hr (clP (zb (za 11) (zb zM zc)))))))
   (zg (zx (i:=17) zam.nd rfl (aK rfl) (zl zR (za 8) (zl zaT (za 13) zi)))
   (zg (zdy (zx (i:=18) zam.nd rfl (aK rfl) (anD (zdP (clE (zch (oI0 zjJ) (zl (oI zS) (za 16) zi) (zl (oI zS) (za 15) zi) (zD _))) (zc9 (zch (oI0 zd0) (zI zak rfl T.n_len aX (zb (za 7) zc)) zi (zD _)))))))
   (zg (zx (i:=19) zam.nd rfl (aK rfl) (zaO (zb zM (zb (za 8) (zb (za 8) (zb zcG (zb zM (zb (zI zak rfl T.n_len aX (zb (za 7) zc)) (zb (caD (zy Gk hr rfl (clP (zb (za 0) (zb (za 14) zc))))) zc)))))))))
   (zg (zdy (zN (tD (zF (clO (oE (zaK hu))) (clE (za 13)) (clE zi) (zD _)))
   (zh (zx (i:=19) zam.nd rfl (aK rfl) (zaO (zb zM (zb (za 8) (zb (za 17) (zb (caD (zy Gk hr rfl (clP (zb (za 0) (zb (za 14) zc))))) zc)))))))
   (zh (zN (zcc (zdb (zcT (za0 (za 18))) (zdn (tD (zF (clO (oE (zaK hu))) (clE (zl (oI zS) (za 15) zi)) (clE zi) (zD _))))))
   (zh (zx (i:=19) zam.nd rfl (aK rfl) (caD (zy GK hr rfl (clP (zb (za 8) (zb (za 16) zc)))))))
   zQ))))
   (zg (zal (mXD (zdL (clE (za 4)) T.cl_Disk zh7 M_Disk_write hr (clP (zb (za 11) (zb (caD (zy GL hr rfl (clP (zb (za 19) zc)))) zc))))))
   (zg (zbp (za 11) (zcM (za 9) (za 13) zdM))
   (zg (zN (za0 (za 18))
   (zg (zal (mD (za4 (clE (za 6)) T.cl_Files M_Files_put hr (clP (zb zM (zb (zI zak rfl T.n_len aX (zb (za 7) zc)) (zb (za 17) zc)))))))
   (zg (zal (zc1 (za 7) (zaO (zb (za 17) (zb (za 11) (zb (za 14) zc))))))
   (zh (zbp (za 17) (zcM (zV zZ (za 5) (za 11) (λ_ _=>rfl)) (zmp zhx zi) zdM)))))
   zQ)
   (zh (zx (i:=8) zam.nd rfl (aK rfl) (zl zR (za 8) zi)))))))))))))))))))
   (zg (zdy (zN (tD (zF (clO (oE (zaK hu))) (clE (zl (oI zS) (zI zak rfl T.n_len aX (zb (za 7) zc)) zi)) (clE zi) (zD _)))
   (zg (zal (mD (za4 (clE (za 6)) T.cl_Files M_Files_hold hr (clP (zb zM zc)))))
   (zh (zal (mD (za4 (clE (za 6)) T.cl_Files M_Files_cut hr (clP (zb zM (zb (zl (oI zS) (zl (oI zco) (caD (zy Gb hr rfl (clP (zb (za 0) (zb zi zc))))) zi) (zl zR (zI zak rfl T.n_len aX (zb (za 7) zc)) zi)) zc))))))))
   zQ))
   (zg (zx (i:=20) zam.nd rfl (aK rfl) (ze6 GN hr rfl (zb (za 6) (zb (znN (za 7)) (zb (zl zR (za 8) zi) (zb (zl (oI zS) (caD (zy Gb hr rfl (clP (zb (za 0) (zb zi zc))))) zi) zc))))))
   (zh (zw (zaO (zb (caD (zy GO hr rfl (clP (zb (za 4) (zb (za 5) (zb (za 9) (zb (zl (oI zco) (caD (zy Gb hr rfl (clP (zb (za 0) (zb zi zc))))) zi) zc))))))) (zb (za 20) (zb (za 5) (zb (za 9) (zb (za 2) zc))))))))))))))))))),?_⟩
  simp_all only [];refine ⟨a,ns,rfl,hS,λr0 lo N m os H1 s1 _ hr0 hlo ly=>?_⟩;refine ⟨r0,_,rfl,SqT.of hr0,rfl,?_⟩;simp_all only [];refine λp dx H2 n2=>⟨p,dx,N,m,rfl,n2.at_,by have:=ly.n3;lia,by have:=ly.n16;lia,ly.w2,ly.w32,λwl sl cells H3 D3 kp3 f3=>⟨rfl,?_⟩⟩;have s3:ze H1 H3:=λc o e=>kp3 c o (n2.same c o e) (zp e n2.no);have f3:∀x∈p::wl::sl::cells,H1 x=none:=λx hx=>(au.mp hx).elim (λz=>by rw [z];exact n2.no) λz=>n2.same.free (f3 x z);rw [cJ] at D3
  try simp_all only []
  refine ⟨by have:=ly.n3;lia,by have:=ly.n16;lia,zau.rng (ziM H3) (λi τ ys H' I=>?_) ⟨⟨_,rfl⟩,⟨[],rfl,rfl,by simp,nodup_nil⟩,ze.refl _,by decide⟩ ?_ ?_⟩
  .obtain ⟨cs,e,l,_⟩:=I.ex;rw [e,am,l];exact zd2 (aW I.le (by decide))
  .intro N' i τ ys H' hi I hN;obtain ⟨t,rfl⟩:=I.τ;obtain ⟨cs,e,l,hc,hcn⟩:=I.ex;simp_all only [];refine ⟨by decide,λc H4 n4 _=>hN _ _ _ ⟨⟨_,rfl⟩,⟨cs++[c],by rw [e,cr];rfl,by simp [l],λb hb=>?_,?_⟩,I.same.trans n4.same,by have:=ly.n16;lia⟩⟩
   .rcases aS.mp hb with hb|hb
    .exact ⟨n4.same _ _ (hc b hb).1,(hc b hb).2⟩
    .rw [ax] at hb;subst hb;exact ⟨n4.at_,I.same.free n4.no⟩
   .refine fQ.mpr ⟨hcn,by simp,λa ha b hb=>?_⟩;rw [ax] at hb;subst hb;exact zp (hc a ha).1 n4.no
  .intro τ ys H4 I md H5 n5;obtain ⟨mcs,e,l,hc,hcn⟩:=I.ex;rw [e] at n5;rw [cJ] at l
   try simp_all only []
   refine λfp dxf H6 n6=>⟨fp,dxf,rfl,n6.at_,λb k H7 b7 nb nk eb ek nbk ex=>⟨rfl,?_⟩⟩
   try simp_all only []
   refine ⟨cf _,λsp H8 n8 _=>⟨by decide,λel H9 n9 _=>?_⟩⟩;have s35:ze H3 H5:=I.same.trans n5.same;have s57:ze H5 H7:=λc o e=>b7 c o (zp e n6.no) (n6.same _ _ e);have s79:ze H7 H9:=n8.same.trans n9.same;have s19:ze H1 H9:=(s3.trans s35).trans (s57.trans s79);refine ⟨a,ns,1,rfl,(s1.trans s19).seq hS,by decide,?_⟩
   try simp_all only []
   refine ⟨by decide,_,s19 _ _ hlo,λlo2 H10 n10=>?_⟩;have l16:=ly.n16;have l3:=ly.n3;have olen:os.length=N:=by rw [ly.pm.length_eq,gQ]
   obtain ⟨u,hu1,hu2⟩:∃u:Nat,(N:Int)-atD ns 1 % 3=u/\u<=N:=⟨((N:Int)-atD ns 1 % 3).toNat,by lia,by lia⟩;rw [hu1,zeL (by lia) (by rw [am];lia),cJ,<- map_take] at n10;have s9:ze H9 H10:=n10.same;have hmd:H3 md=none:=I.same.free n5.no;have al:∀{x},x∈p::wl::sl::cells->∃o,H3 x=some o:=λ{x} hx=>by rcases D3.kind hx with ⟨_,_,e⟩|⟨_,e⟩<;>exact ⟨_,e⟩
   have no:∀{x},H3 x=none->x∉p::wl::sl::cells:=λ{x} hx z=>by obtain ⟨o,e⟩:=al z;rw [hx] at e;cases e
   have hsp:H5 sp=none:=s57.free n8.no;have hel:H7 el=none:=n8.same.free n9.no;have mc4:∀c∈mcs,H5 c=some (.lst []):=λc hcm=>n5.same _ _ (hc c hcm).1;have M5:zbf H5 md mcs (bi N []):=⟨n5.at_,zfy (by rw [b8];exact l) λi c r hi hr=>by
    rw [cS] at hr;split at hr
    .cases hr;exact mc4 c (aE hi)
    .cases hr⟩
   have s5:ze H5 H9:=s57.trans s79;have nmc:∀{x},H5 x=none->x∉md::mcs:=λ{x} hx z=>by
    rcases au.mp z with rfl|z
    .rw [n5.at_] at hx;cases hx
    .rw [mc4 x z] at hx;cases hx
   have h5e:=s57.free hel;have D:DH A H9 p wl sl cells m (DM.new N) md el mcs (bi N []) none none:=by
    refine ⟨D3.sameT (.of (s35.trans s5)),M5.same s5,n9.at_,λx hx=>?_,?_,(tb.same s1).same s19⟩
    .refine no ?_;simp only [au] at hx;rcases hx with rfl|rfl|hx
     .exact hmd
     .exact s35.free h5e
     .exact (hc x hx).2
    .refine cg.mpr ⟨λz=>?_,cg.mpr ⟨λz=>nmc h5e (aF _ z),hcn⟩⟩;rcases au.mp z with z|z
     .rw [<- z,n5.at_] at h5e;cases h5e
     .have:=n5.no;rw [(hc md z).1] at this;cases this
   have F7:zJ A H7 fp b k [] []:=⟨⟨dxf,ex⟩,⟨⟨[],eb,.nil⟩,by simp [names]⟩,⟨[],ek,.nil⟩,by simp [names],nbk⟩;have B9:BH A H9 H9 p wl sl cells m (DM.new N) md el mcs (bi N []) none none fp b k [] sp [] []:=by
    refine ⟨D,F7.same s79,n9.same _ _ n8.at_,.nil,no (s35.free n6.no),no (s35.free hsp),λz=>?_,zt.refl⟩;rcases au.mp z with z|z
    .exact nmc hsp (z ▸ bf ..)
    .rcases au.mp z with z|z
     .have:=n9.no;rw [<- z,n8.at_] at this;cases this
     .exact nmc hsp (aF _ z)
   have fr:∀x∈mt b sp md el mcs p wl sl cells,H x=none:=λx hx=>by
    refine s1.free ?_;unfold mt at hx;simp only [au,aS] at hx;rcases hx with rfl|rfl|rfl|rfl|hx|hx
    .exact s3.free (s35.free (n6.same.free nb))
    .exact s3.free (s35.free hsp)
    .exact s3.free hmd
    .exact s3.free (s35.free h5e)
    .exact s3.free (hc x hx).2
    .exact f3 x (by simpa only [au] using hx)
   have sS:∀{H'},zt (mt b sp md el mcs p wl sl cells) H10 H'->ze H H':=λ{H'} kp c o e=>kp c o (s9 _ _ (s19 _ _ (s1 _ _ e))) λz=>by rw [fr c z] at e;cases e
   have nlo:lo2∉mt b sp md el mcs p wl sl cells:=B9.new n10.no;have B:=(B9.same s9).at H10 zt.refl;have nr:∀k:Nat,(DM.new N).rows.getD k []=[]:=λk=>by
    unfold DM.new;rw [av,cS];split<;>rfl
   refine ⟨⟨_,SqL.of n10.at_⟩,zat.enum (xs:=(os.take u).map iv) (OuI A H10 a lo N m os p wl sl cells md el mcs fp b k sp) ⟨⟨DM.new N,_,none,none,[],[],[],0,_,_,_,_,_,_,_,_,_,_,_,rfl,B,⟨.new l16 0,rfl,rfl,by decide,by decide,by decide,by simp [lk,look],by decide,(λ_ z=>nomatch z),nodup_nil⟩,?_,?_,?_⟩⟩ (λi σ H' _ I=>?_) ?_ ?_⟩
   .exact ⟨by show (bi N []).length=(bi N []).length;rw [b8,b8],λi=>by rw [nr i,av,cS];split<;>rfl⟩
   .exact b8
   .exact λj k _ _=>by rw [nr k];rfl
   .obtain ⟨_,_,_,_,_,_,_,_,_,_,_,_,_,_,_,_,_,_,_,_,B',_⟩:=I.ex;exact SqL.of (B'.keep _ _ n10.at_ nlo)
   .rintro i x pt σ H11 hx ⟨⟨d,ms,e0,e1,t,as,ts,n,x10,x11,x12,x13,x14,x15,x16,x17,x18,x19,x20,rfl,B1,bp,ln,dl,emp0⟩⟩ hpt;rw [bh] at hx;obtain ⟨kk,hkk,rfl⟩:=bX.mp hx;refine ⟨pt,_,rfl,SqT.of zu,rfl,?_⟩;have nw:New H11 pt (.tup [.int i,iv kk]) (upd H11 pt (.tup [.int i,iv kk])):=.mk' hpt;generalize upd H11 pt (.tup [.int i,iv kk])=H12 at nw ⊢;have B2:=B1.same nw.same;have hi:i<u:=by have:=(ak.mp hkk).1;rw [bI] at this;lia
    have hok:os[i]?=some kk:=by rw [List.getElem?_take] at hkk;split at hkk<;>first|exact hkk|cases hkk
    have hkN:kk<N:=by have:=ly.pm.mem_iff.mp (aE hok);rw [gU] at this;exact this
    unfold iv;simp_all only [];have m2:=ly.w2;have m32:=ly.w32;refine ⟨.inl ⟨by decide,by decide⟩,a,ns,_,_,60,rfl,(sS B2.keep).seq hS,by lia,by lia,by lia,by decide,by decide,λwy ds H13 s13 wn ew dl2 db=>?_⟩;have B3:=B2.same s13;have hwy:wy∉mt b sp md el mcs p wl sl cells:=B2.new wn;have dn:(ds.map V.int).length=(2*m+2).toNat:=by rw [am];exact dl2
    have ix:∀i:Int,0<=i->i<2*m+2->∃v:Int,atI (ds.map V.int) i=some (.int v)/\0<=v/\v<60:=λi h0 h1=>by
     obtain ⟨v,e,hv⟩:=zdl (xs:=ds.map V.int) (i:=i) h0 (by lia);obtain ⟨y,hy,rfl⟩:=gs.mp hv;exact ⟨y,e,db y hy⟩
    obtain ⟨v0,ev0,v00,v01⟩:=ix 0 (by decide) (by lia);obtain ⟨v1,ev1,v10,v11⟩:=ix 1 (by decide) (by lia)
    try simp_all only []
    refine ⟨_,.inl ew,_,ev0,?_⟩;simp_all only [];refine ⟨by decide,⟨by decide,by decide⟩,_,.inl ew,_,ev1,?_⟩;simp_all only [];refine ⟨by lia,by decide,λl14 H14 n14 _=>⟨_,.inl (n14.same _ _ ew),_,ev1,?_⟩⟩;simp_all only [];obtain ⟨v2,ev2,hv2⟩:=zdl (xs:=[V.int (v1 % m),.int (m-1)]) (i:=v1 / 20 % 2) (by lia) (by show v1 / 20 % 2<((2:Nat):Int);lia);obtain ⟨cn,rfl,c0,c1⟩:∃cn:Nat,v2 = .int cn/\(cn:Int)<m/\cn<32:=by
     have g1:=gD v1 (show m≠0 by lia);have g2:=fc v1 (show 0<m by lia);simp only [au,aM,or_false] at hv2;rcases hv2 with rfl|rfl
     .exact ⟨(v1 % m).toNat,by rw [Int.toNat_of_nonneg g1],by lia,by lia⟩
     .exact ⟨(m-1).toNat,by rw [Int.toNat_of_nonneg (by lia)],by lia,by lia⟩
    refine ⟨⟨by decide,by decide⟩,by decide,_,.inl n14.at_,_,ev2,?_⟩;simp_all only [];refine ⟨by lia,by lia,?_⟩;rw [show (1+(cn:Int)).toNat=cn+1 by lia];have B4:=B3.same n14.same;have ew4:=n14.same _ _ ew;have os2:∀j k,i+1<=j->os[j]?=some k->k≠kk:=λj k hj hk z=>by
     subst z;have:=(gR (ak.mp hok).1 (ly.pm.nodup_iff.mpr List.nodup_range)).mp (hok.trans hk.symm);lia
    have kc:v0 % 3 / 2=0\/v0 % 3 / 2=1:=by lia
    generalize v0 % 3 / 2=cold at kc;refine zat.rng (InI A H14 a lo N m os p wl sl cells md el mcs fp b k sp wy i kk cold) ⟨⟨d,ms,e0,e1,t,as,ts,n,_,_,_,_,_,_,_,rfl,B4.at H14 zt.refl,bp,ln,dl,emp0 i kk (ae _) hok,λj k hj hk=>emp0 j k (by lia) hk⟩⟩ ?_ ?_
    .rintro j σ H15 hj ⟨⟨d,ms,e0,e1,t,as,ts,n,x14,x15,x16,x17,x18,x19,x20,rfl,B5,bp,ln,dl,rl,emp0⟩⟩;simp_all only [];have ew5:=B5.keep _ _ ew4 hwy;obtain ⟨w1,w2,ec⟩:∃w1 w2:Int,zaw (zaw (ds.map V.int) (some (2+2*(0+(j:Int)))) none) none (some 2)=[.int w1,.int w2]:=by
      rw [zij (by lia) (by lia),zeL (by decide) (by rw [cF];lia),<- List.map_drop,<- map_take];have hl:2<=(ds.drop (2+2*(0+(j:Int))).toNat).length:=by rw [cF];lia
      generalize ds.drop (2+2*(0+(j:Int))).toNat=l at hl
      match l,hl with
      | x::y::l,_=>exact ⟨x,y,rfl⟩
     refine ⟨.inl ⟨by decide,by decide⟩,_,ew5,λl16 H16 n16=>⟨_,n16.at_,λl17 H17 n17=>?_⟩⟩;rw [ec] at n17;refine ⟨l17,_,rfl,SqL.of n17.at_,rfl,?_⟩;have B6:=B5.same (n16.same.trans n17.same);have hkd:kk<d.rows.length:=by lia
     have hkm:kk<ms.length:=by rw [ln.len];exact hkd
     obtain ⟨c,hc1,hc2⟩:=B6.dh.mo.at hkm;have ac:atI (mcs.map V.ref) (kk:Int)=some (.ref c):=za8 (by rw [bh,hc1];rfl);have jz:(0+(j:Int))=j:=by lia
     have rm:(ms.getD kk []).length=j:=by rw [ln.at_ kk];exact rl
     simp_all only [jz];refine ⟨_,.inl B6.dh.mo.ls,_,ac,?_⟩;simp_all only [];refine ⟨⟨_,hc2⟩,_,hc2,by rw [am];exact za5 (by lia),by decide,?_⟩;have B7:=B6.list (aF _ (aF _ (aE hc1))) (B6.dh.mset (r:=ms.getD kk []++[none]) hc1);rw [cr,show fi onV [none]=[V.non] from rfl] at B7;generalize upd H17 c (.lst (fi onV (ms.getD kk [])++[V.non]))=H18 at B7 ⊢;obtain ⟨dx7,ob7⟩:=B7.dh.disk.ob;have sml:zgL d:=λi=>aW (bp.dp.tx.wide i) (by decide);have hw:((d.rows.getD kk []).length:Int)<m:=by lia
     have gw:∀(z:Str)(c:Int)(y:Option Int),zcK (d.wrote kk z c) (ms.set kk (ms.getD kk []++[y]))/\(d.wrote kk z c).rows.length=N/\((d.wrote kk z c).rows.getD kk []).length=j+1/\∀j' k',i+1<=j'->os[j']?=some k'->((d.wrote kk z c).rows.getD k' []).length=0:=λz c y=>by
      have gr:∀k',(d.wrote kk z c).rows.getD k' []=if k'=kk then d.rows.getD kk []++[some z] else d.rows.getD k' []:=λk'=>by
       show (d.rows.set kk _).getD k' []=_;exact zbo hkd
      refine ⟨⟨by rw [cu,ln.len];exact (cu ..).symm,λi'=>?_⟩,by rw [<- dl];exact cu ..,by rw [gr,if_pos rfl,aG,rl];rfl,λj' k' hj' hk'=>?_⟩
      .rw [gr,zbo hkm];split
       .rw [aG,aG,ln.at_ kk];rfl
       .exact ln.at_ i'
      .rw [gr,if_neg (os2 j' k' hj' hk')];exact emp0 j' k' hj' hk'
     have j32:(d.rows.getD kk []).length<32:=by lia
     refine zO (λh7=>?_) λh7=>?_
     .refine ⟨dx7,_,ob7,zlJ,p,wl,sl,cells,m,d,kk,_,rfl,B7.dh.disk,hkd,f!"",sml,λH19 D19 k19=>?_⟩;rw [zjS bp.lf bp.st hw] at D19 ⊢;obtain ⟨g1,g2,g3,g4⟩:=gw "put 1 1 " (d.cnt+(("put 1 1 ":Str).length:Int)) none;exact ⟨_,_,_,_,_,_,_,_,_,_,_,_,_,_,_,rfl,B7.write k19 D19,⟨bp.dp.text hkd j32 ⟨f!"",f!""⟩ (f!""),bp.lf,bp.st,bp.n0,by have:=bp.nc;lia,bp.tl,bp.al,bp.few,bp.num,bp.nd⟩,g1,g2,g3,g4⟩
     .refine ⟨.inl ⟨by lia,by lia⟩,?_⟩;rw [zdz];have asl:=zcd B7.sps;refine ⟨λσ' H'=>∃lv:Bool,σ'=[some (V.ref a),some (.int N),some (.int m),some (.ref lo),some (.ref p),some (.ref md),some (.ref fp),some (.ref sp),some (.int n),some (.ref el),some (.int i),some (.int kk),some (.ref wy),some (.int cold),some (.int j),some (.int w1),some (.int w2),some (.int (n+cold*5000)),some (.bl lv),x19,x20]/\H'=H18/\(lv=true->ts.length<200),?_,?_⟩
      .simp_all only [];refine ⟨by decide,by decide,zO (λ_=>⟨_,.inl B7.spl,?_⟩) λ_=>?_⟩
       .exact λz=>by have z:=of_decide_eq_true z;rw [am,asl] at z;lia
       .exact λz=>z.elim
      rintro σ' H18 ⟨lv,rfl,rfl,hlv⟩;simp_all only [];refine ⟨_,.inl B7.spl,a,ns,j,rfl,(sS (B4.keep.trans B7.keep)).seq hS,by lia,λz H19 s19' wz=>⟨by decide,λr20 H20 n20=>?_⟩⟩;rw [zdz];have n5:n<5000:=by have:=bp.nc;lia
      have n0:=bp.n0;have hn:zaW n:=⟨by lia,by lia⟩;refine ⟨λσ' H'=>∃r xs,σ'=[some (V.ref a),some (.int N),some (.int m),some (.ref lo),some (.ref p),some (.ref md),some (.ref fp),some (.ref sp),some (.int n),some (.ref el),some (.int i),some (.int kk),some (.ref wy),some (.int cold),some (.int j),some (.int w1),some (.int w2),some (.int (n+cold*5000)),some (.bl lv),some (.ref r),x20]/\ze H18 H'/\LR n (decide (cold=0)) xs/\H' r=some (.tup xs),?_,?_⟩
      .simp_all only [];have s20:ze H18 H20:=s19'.trans n20.same;refine zO (λhc=>?_) λhc=>?_
       .have hc:=of_decide_eq_true hc;refine ⟨a,ns,j,rfl,(sS (B4.keep.trans (B7.same s20).keep)).seq hS,by lia,λz2 H21 s21 wz2=>⟨by decide,λr22 H22 n22=>?_⟩⟩;exact ⟨s20.trans (s21.trans n22.same),_,⟨.carry n _ _ hn ⟨by lia,by lia⟩ wz2,⟨_,_,rfl,by rw [hc];decide +kernel⟩,by simp⟩,n22.at_⟩
       .have hc:cold=0:=by have : ¬ cold=1:=λz=>hc (decide_eq_true z);lia
        have dc:decide (cold=0)=true:=decide_eq_true hc;have pt:∃xs,LR n (decide (cold=0)) xs/\H20 r20=some (.tup xs):=by
         rw [dc];exact ⟨_,⟨.put n n true "a" _ z hn hn ⟨by lia,by rw [am,asl];have:=bp.few;lia⟩ (f!"") wz,⟨_,_,rfl,f!""⟩,by simp⟩,n20.at_⟩
        refine zO (λ_=>⟨by decide,zO (λ_=>⟨n,w2,rfl,n0,by lia,λr xs H21 s21 lr e=>?_⟩) λ_=>⟨s20,pt⟩⟩) λ_=>⟨s20,pt⟩;exact ⟨r,rfl,s20.trans s21,xs,by rw [dc];exact lr,e⟩
      rintro σ' H21 ⟨r,xs,rfl,s21,lr,er⟩;simp_all only [];have B8:=B7.same s21;obtain ⟨hl1,_,_,hpt⟩:=lr.ok.parts;obtain ⟨dx8,ob8⟩:=B8.dh.disk.ob;refine ⟨dx8,_,ob8,zlJ,r,xs,rfl,.inr er,hl1,hpt,λH22 s22=>?_⟩;have B9':=B8.same s22;refine ⟨p,wl,sl,cells,m,d,kk,_,rfl,B9'.dh.disk,hkd,(zi1 lr.ok lr.len).2,sml,λH23 D23 k23=>?_⟩;rw [zjS bp.lf bp.st hw] at D23 ⊢;have B10:=B9'.write k23 D23;unfold Out;dsimp only
      try simp_all only []
      obtain ⟨ix2,hix,hset⟩:∃ix,ixN [ov e0,ov e1].length cold=some ix/\[ov e0,ov e1].set ix (V.int kk)=[ov (if decide (cold=0)=true then some kk else e0),ov (if decide (cold=0)=true then e1 else some kk)]:=by
       rcases kc with rfl|rfl
       .exact ⟨0,rfl,rfl⟩
       .exact ⟨1,rfl,rfl⟩
      refine ⟨_,B10.dh.ends,ix2,hix,?_⟩;rw [hset];have B11:=B10.list (x:=el) (by simp) (B10.dh.eset (f0:=if decide (cold=0)=true then some kk else e0) (f1:=if decide (cold=0)=true then e1 else some kk));have dp':=bp.dp.row (c:=d.cnt+((zaR xs).length:Int)) hkd j32 lr;generalize (if decide (cold=0)=true then some kk else e0)=f0 at B11 dp' ⊢;generalize (if decide (cold=0)=true then e1 else some kk)=f1 at B11 dp' ⊢;generalize upd H23 el (.lst [ov f0,ov f1])=H24 at B11 ⊢;have num':∀x∈ts,(0<=x.1/\x.1<n+1)\/(5000<=x.1/\x.1<5000+(n+1)):=λx hx=>by have:=bp.num x hx;lia
      refine zO (λhv=>?_) λ_=>?_
      .have l200:=hlv hv;obtain ⟨dxf,ef⟩:=B11.files.ob;refine ⟨dxf,_,ef,zs3,_,.inl B11.spl,fp,b,k,t,[],"a",_,_,rfl,B11.files,by lia,?_,?_,?_,λH25 b25 F25=>?_⟩
       .rw [am,asl,bp.al];exact cc _
       .rw [bp.al];lia
       .have:=bp.tl;lia
       rw [am,asl,cJ] at F25;have B12:=B11.put b25 F25;refine ⟨⟨_,B12.spl⟩,by decide,λr26 H26 n26=>?_⟩;have B13:=B12.same n26.same;refine ⟨_,B13.spl,by rw [am,asl];exact za5 (by lia),?_⟩;have B14:=B13.spot (x:=(n+cold*5000,(kk:Int),(j:Int))) n26.at_;rw [cr] at B14;refine ⟨_,.inl B14.dh.mo.ls,_,ac,?_⟩;have hkm':kk<(ms.set kk (ms.getD kk []++[none])).length:=by rw [cu];exact hkm
       obtain ⟨c',hc1',hc2'⟩:=B14.dh.mo.at hkm';rw [hc1] at hc1';cases hc1';rw [zbo hkm,if_pos rfl] at hc2';rw [zf9];refine ⟨_,j,hc2',by rw [am,aG,rm];show ixN (j+1) (-1)=some j;unfold ixN;rw [if_neg (by decide),if_pos (by lia)];congr 1;lia,?_⟩;have eset:(fi onV (ms.getD kk []++[none])).set j (V.int (n+cold*5000))=fi onV (ms.getD kk []++[some (n+cold*5000)]):=by
        rw [cr,cr,fX _ _ (by rw [am,rm];exact ae _),am,rm,fV];rfl
       rw [eset];have B15:=B14.list (aF _ (aF _ (aE hc1))) (B14.dh.mset (r:=ms.getD kk []++[some (n+cold*5000)]) hc1);rw [List.set_set] at B15;obtain ⟨g1,g2,g3,g4⟩:=gw (zaR xs) (d.cnt+((zaR xs).length:Int)) (some (n+cold*5000));refine ⟨_,_,_,_,_,_,_,_,_,_,_,_,_,_,_,rfl,B15,⟨dp',bp.lf,bp.st,by lia,by have:=bp.nc;lia,?_,?_,?_,λx hx=>?_,?_⟩,g1,g2,g3,g4⟩
       .have:=zvK (t:=t) (n:="a") (a:=(lk t "a").take ts.length++[n+cold*5000]++(lk t "a").drop (ts.length+1));have:=bp.tl;rw [aG];show _<=ts.length+1;lia
       .rw [zrv,if_pos rfl];have:=bp.al;simp;lia
       .rw [aG];show ts.length+1<=200;lia
       .rcases aS.mp hx with hx|hx
        .exact num' x hx
        .rw [ax.mp hx];show (0<=n+cold*5000/\n+cold*5000<n+1)\/(5000<=n+cold*5000/\n+cold*5000<5000+(n+1));lia
       .rw [cr,fQ];refine ⟨bp.nd,by simp,λa' ha' b' hb' z=>?_⟩;obtain ⟨y,hy,rfl⟩:=gs.mp ha';rw [show fi (·.1) [(n+cold*5000,(kk:Int),(j:Int))]=[n+cold*5000] from rfl,ax] at hb';have:=bp.num y hy;lia
      .obtain ⟨g1,g2,g3,g4⟩:=gw (zaR xs) (d.cnt+((zaR xs).length:Int)) none;exact ⟨_,_,_,_,_,_,_,_,_,_,_,_,_,_,_,rfl,B11,⟨dp',bp.lf,bp.st,by lia,by have:=bp.nc;lia,bp.tl,bp.al,bp.few,num',bp.nd⟩,g1,g2,g3,g4⟩
    .rintro σ H15 ⟨⟨d,ms,e0,e1,t,as,ts,n,x14,x15,x16,x17,x18,x19,x20,rfl,B5,bp,ln,dl,rl,emp0⟩⟩;refine ⟨d,ms,e0,e1,t,as,ts,n,_,_,_,_,_,_,_,_,_,_,_,rfl,B5.at H10 (B4.keep.trans B5.keep),⟨bp.dp,bp.lf,bp.st,bp.n0,by have:=bp.nc;lia,bp.tl,bp.al,bp.few,bp.num,bp.nd⟩,ln,dl,emp0⟩
   .rintro σ H11 ⟨⟨d,ms,e0,e1,t,as,ts,n,x10,x11,x12,x13,x14,x15,x16,x17,x18,x19,x20,rfl,B1,bp,ln,dl,emp0⟩⟩
    try simp_all only []
    rw [zdz];have asl:=zcd B1.sps;have kn:H k=none:=s1.free (s3.free (s35.free (n6.same.free nk)));have bn:H b=none:=fr b (by simp [mt]);obtain ⟨kb,ekb⟩:=B1.files.kd;have SH:=sS B1.keep;refine ⟨λσ' H'=>σ'=[some (V.ref a),some (.int N),some (.int m),some (.ref lo),some (.ref p),some (.ref md),some (.ref fp),some (.ref sp),some (.int n),some (.ref el),x10,x11,x12,x13,x14,x15,x16,x17,x18,x19,x20]/\ze H H'/\DH A H' p wl sl cells m d md el mcs ms e0 e1/\(∃t ks,zJ A H' fp b k t ks)/\H' sp=some (.lst (as.map V.ref))/\Paired (zcR H') as ts,?_,?_⟩
    .simp_all only [];refine ⟨_,.inl B1.spl,by decide,zO (λho=>?_) λ_=>⟨SH,B1.dh,⟨_,_,B1.files⟩,B1.spl,B1.sps⟩⟩;have ho:=of_decide_eq_true ho;rw [am,asl] at ho;obtain ⟨l,el',ll⟩:∃l,look t "a"=some l/\l.length=ts.length:=by
      have:=bp.al;unfold lk at this;cases e:look t "a" with
      | none=>rw [e] at this;have:0=ts.length:=this;lia
      | some l=>rw [e] at this;exact ⟨l,rfl,this⟩
     obtain ⟨dxf,ef⟩:=B1.files.ob;refine ⟨dxf,_,ef,zpb,fp,b,k,t,[],"h",rfl,B1.files,rfl,by simp,λH12 b12 F12=>?_⟩;have S12:ze H H12:=λc o e=>b12 c o (zp e kn) (SH c o e);have ds:∀{H H':Hp}{x:Addr}{kvs:List (Key×V)},But x H H'->H x=some (.dK kvs)->H sp=some (.lst (as.map V.ref))/\Paired (zcR H) as ts->H' sp=some (.lst (as.map V.ref))/\Paired (zcR H') as ts:=λ{H H' x kvs} bt e h=>⟨bt _ _ (λz=>by have:=h.1;rw [z,e] at this;cases this) h.1,Paired.mapP h.2 λc y hc=>bt _ _ (λz=>by have hc:H c=some (.tup _):=hc;rw [z,e] at hc;cases hc) hc⟩;have sp12:=ds b12 ekb ⟨B1.spl,B1.sps⟩;have dh12:=B1.dh.dict b12 ekb;obtain ⟨dxf2,ef2⟩:=F12.ob;obtain ⟨kb2,ekb2⟩:=F12.bd
     try simp_all only []
     refine ⟨dxf2,_,ef2,zty,a,ns,1,rfl,S12.seq hS,by decide,?_⟩
     try simp_all only []
     refine ⟨⟨by decide,by decide⟩,_,.inl sp12.1,?_⟩
     try simp_all only []
     rw [am,asl];refine ⟨by lia,fp,b,k,t,_,"a",l,_,rfl,F12,el',gD _ (by lia),by rw [ll];have:=fc (atD ns 1 / 3) (show 0<(ts.length:Int)+1 by lia);lia,by have:=bp.tl;have:=bp.few;lia,λH13 b13 F13=>?_⟩;have sp13:=ds b13 ekb2 sp12;exact ⟨λc o e=>b13 c o (zp e bn) (S12 c o e),dh12.dict b13 ekb2,⟨_,_,F13⟩,sp13.1,sp13.2⟩
    rintro σ' H12 ⟨rfl,S12,dh12,⟨t',ks',F12⟩,sl12,ss12⟩;simp_all only [];refine ⟨_,sl12,λsr H13 n13=>?_⟩;rw [<- List.map_reverse] at n13;refine ⟨a,ns,1,rfl,(S12.trans n13.same).seq hS,by decide,?_⟩;simp_all only [];have nn:=bp.nc;rw [am,bI] at nn;have rev:Paired (zcR H13) as.reverse ts.reverse:=znc (Paired.mapP ss12 λc y hc=>n13.same _ _ (show H12 c=some (.tup _) from hc));refine ⟨by decide,λx dx H14 n14=>⟨x,fp,b,k,sr,dx,_,_,t',ks',as.reverse,ts.reverse,rfl,n14.at_,(F12.same n13.same).same n14.same,n14.same _ _ n13.at_,Paired.mapP rev λc y hc=>n14.same _ _ hc,⟨?_,?_,λy hy=>?_⟩,λH15 b15 _=>⟨rfl,?_⟩⟩⟩
    .rw [List.map_reverse];exact (List.reverse_perm _).nodup_iff.mpr bp.nd
    .rw [List.length_reverse];have:=bp.few;lia
    .have:=bp.num y (List.mem_reverse.mp hy);have:=bp.n0;lia
    have s15:ze H12 H15:=λc o e=>b15 c o (zp (n13.same _ _ e) n14.no) (n14.same _ _ (n13.same _ _ e));refine ⟨a,ns,1,rfl,(S12.trans s15).seq hS,by decide,?_⟩
    try simp_all only []
    refine ⟨⟨by decide,by decide⟩,p,wl,sl,cells,m,d,md,el,mcs,ms,e0,e1,_,rfl,⟨dh12.same s15,⟨n,bp.dp⟩,ln,by lia,by lia,ly.w2,ly.w32⟩,bp.lf,bp.st,λp' wl' sl' cells' d' H16 Z16 k16=>⟨by decide,λr17 H17 n17=>?_⟩⟩;refine q r17 p' wl' sl' cells' m d' md el mcs ms e0 e1 x H17 (λc o e=>n17.same _ _ (k16 c o (s15 _ _ (S12 _ _ e)) λz=>?_)) n17.at_ (Z16.same n17.same) (fr md (by simp [mt]));rw [fr c (by unfold mt;simp only [au,aS] at z ⊢;exact .inr (.inr (.inr (.inr (.inr z)))))] at e;cases e
end
abbrev zgR:Stmt:=top 67
theorem zml{d:DM}{ms:Mdl}(h:zcK d ms):∀n,emp d.rows n=zaV ms n
 | 0=>rfl
 | n+1=>by
  show emp d.rows n++_=zaV ms n++_;rw [zml h n,h.at_ n]
theorem zuX{n:Int}(h:DP d n e0 e1)(ln:zcK d ms):zdI d m (zbG d true) (emp d.rows d.rows.length).length=zcI ms e0 m:=by
 rw [h.end_,zml ln,<- ln.len];unfold zdI zcI;have e1:(if 0>((zaV ms ms.length).length:Int)-1 then (0:Int) else ((zaV ms ms.length).length:Int)-1)=if ((zaV ms ms.length).length:Int)-1>0 then ((zaV ms ms.length).length:Int)-1 else 0:=by
  split<;>split<;>lia
 rw [e1,Int.add_comm];congr 1;cases e0 with
 | none=>rfl
 | some k=>show m-((d.rows.getD k []).length:Int)=m-((ms.getD k []).length:Int);rw [ln.at_ k]
theorem zrC{N:Nat}(h3:3<=N)(h16:N<=16):zdI (DM.new N) m (zbG (DM.new N) true) (emp (DM.new N).rows (DM.new N).rows.length).length=((N:Int)-1)*m:=by
 have nr:∀k:Nat,(DM.new N).rows.getD k []=[]:=λk=>by
  unfold DM.new;rw [av,cS];split<;>rfl
 have el:∀n,(emp (DM.new N).rows n).length=n:=λn=>by
  induction n with
  | zero=>rfl
  | succ n ih=>show (emp (DM.new N).rows n++_).length=_;rw [aG,ih,nr n];rfl
 rw [(DP.new h16 0).end_,el,show (DM.new N).rows.length=N from b8];show 0+m*_=_;rw [if_neg (by lia),Int.zero_add,Int.mul_comm]
theorem zG.seq{K:Frag}(s:zG H H')(h:SqL K H a xs):SqL K H' a xs :=
 h.imp (λr=>r.imp (λe=>s _ _ zdi.1 e) λ⟨o,e⟩=>⟨o,s _ _ (λ_ z=>HO.noConfusion z) e⟩) id
section
variable {P:aI}{w:aZ}{K:Frag}{mg:Str->Option Value}{base:Heap}{A:zj}
structure L1I(A:zj)(H:Hp)(a p st md el:Addr)(wl sl:Addr)(cells mcs:List Addr)(m c:Int)(d:DM)(ms:Mdl)(e0 e1:Option Nat)(i:Nat)(σ:L2.St)(H':Hp):Prop where
 ex:∃x7 x8 x9,σ=[some (V.ref a),some (.ref p),some (.ref st),some (.ref md),some (.ref el),some (.int m),some (.int c),x7,x8,x9]
 dk:DK A H' p wl sl cells m d md el mcs ms e0 e1
 same:zG H H'
structure L2I(A:zj)(H:Hp)(a p st md el l2:Addr)(wl sl:Addr)(cells:List Addr)(m c:Int)(e0 e1:Option Nat)(js:List Nat)(i:Nat)(σ:L2.St)(H':Hp):Prop where
 ex:∃x7 x8 x9 d ms mcs,σ=[some (V.ref a),some (.ref p),some (.ref st),some (.ref md),some (.ref el),some (.int m),some (.int c),x7,x8,x9]/\DK A H' p wl sl cells m d md el mcs ms e0 e1/\d.left=none/\d.st=false/\(∀k∈js,k<d.rows.length)/\l2∉mcs
 same:zG H H'
 ls:H' l2=some (.lst (js.map iv))
def zeY(t1:Addr)(K:Frag):Sp:=λvs H Q _=>∃(a:Addr)(ns:List Int),vs=[.ref a]/\SqL K H a (ns.map V.int)/\ns.length<=63/\H t1=some (.tbl #[])/\∀H',Q (.bl true) H'
theorem zbD:zr ["_law_script","_law_disk_here","_law_state","_law_model","_law_ends","_law_wide","_law_before","_law_turn","_law_stretch","_law_told"] ["_law_script"] (zn zgR):=fsc
theorem zvJ(F:Fun K "law" "law" zgR f fd)(T:Txt w K mg A)(GP:GF P w K mg base true 7 "_law_disk" ["_law_script"] (zjq K A))(Gj:GF P w K mg base true 12 "room" ["disk"] (zgE A))(Ge:GC P w K mg base true 3 "Disk" A.Disk ["self","stretches","places"] (zer A))(M_Disk_signs:GM P w K mg base true 1 A.Disk "signs" ["self"] (zcb A λ_ d=>.int d.cnt))(Gm:GF P w K mg base true 2 "_law_room" ["_law_model","_law_ends","_law_wide"] zhi)(M_Disk_copied:GM P w K mg base true 5 A.Disk "copied" ["self"] (zhW A))(Gi:GF P w K mg base true 1 "_law_some" ["_law_model","_law_ends"] zhI)(Gb:GF P w K mg base true 1 "_law_at" ["_law_script","_law_k"] (zfq K))(M_Disk_empty:GMX P w K mg base true 2 A.Disk "empty" ["self","stretch"] (zg1 A)):zo P w K mg base CX0 true 15 f fd ["_law_script"] (zeY A.t_whole_rows K):=by
 refine F.ok zbD (λvs H Q E h=>?_) (λcdv Ar outer s H vs Q E hr h=>?_)
 .obtain ⟨a,ns,rfl,_⟩:=h;rfl
 .obtain ⟨a,ns,rfl,hS,_,ht,q⟩:=h;have hu:_<cLine:=bz (zab hr);refine ⟨_,(W.h (zg (zbp (caD (zy GP hr rfl (clP (zb (za 0) zc)))) (zc3 (n:=5) (gsD (zW (zC (i:=1) zbD.nd rfl (aK rfl)) (gsD (zW (zC (i:=2) zbD.nd rfl (aK rfl)) (gsD (zW (zC (i:=3) zbD.nd rfl (aK rfl)) (gsD (zW (zC (i:=4) zbD.nd rfl (aK rfl)) (gsD (zW (zC (i:=5) zbD.nd rfl (aK rfl)) zbT))))))))))))
   (zg (zN (tD (zF (clO (oE (zcP hu))) (clE (caD (zy Gj hr rfl (clP (zb (ze6 Ge hr rfl (zb (zI zak rfl T.n_len aX (zb (za 3) zc)) (zb (za 5) zc))) zc))))) (clE (zl zaT (zl (oI0 zct) (zI zak rfl T.n_len aX (zb (za 3) zc)) zi) (za 5))) (zD _)))
   (zh (zw zcG))
   zQ)
   (zg (zx (i:=6) zbD.nd rfl (aK rfl) (m0D (zbn (clE (za 1)) T.cl_Disk M_Disk_signs hr)))
   (zg (zbw dH.never (λ_=>rfl) (zbU rfl T.n_range (zb zi zc)) (zC (i:=7) zbD.nd rfl (aK rfl))
   (zh (zN (zcc (zg7 (tD (zF (clO (oE (zcP hu))) (clE (caD (zy Gj hr rfl (clP (zb (za 1) zc))))) (clE (caD (zy Gm hr rfl (clP (zb (za 3) (zb (za 4) (zb (za 5) zc))))))) (zD _))) (zgC (tD (zF (clO (oE (zcP hu))) (clE (m0D (zbn (clE (za 1)) T.cl_Disk M_Disk_signs hr))) (clE (za 6)) (zD _))))))
   (zh (zw zcG))
   zQ)))
   (zg (zx (i:=1) zbD.nd rfl (aK rfl) (m0D (zbn (clE (za 1)) T.cl_Disk M_Disk_copied hr)))
   (zg (zbw dH.never (λ_=>rfl) (liD (zd1 (clE (caD (zy Gi hr rfl (clP (zb (za 3) (zb (za 4) zc)))))))) (zC (i:=8) zbD.nd rfl (aK rfl))
   (zh (zN (tD (zF (clO (oI0 zjJ)) (clE (zl (oI zS) (caD (zy Gb hr rfl (clP (zb (za 0) (zb (zl zR (za 8) zi) zc))))) zi)) (clE zi) (zD _)))
   (zg (zal (mXD (zdL (clE (za 1)) T.cl_Disk zh7 M_Disk_empty hr (clP (zb (za 8) zc)))))
   (zg (zbp (zaC zc) (zcM (za 3) (za 8) zdM))
   (zh (zN (tD (zF (clO (oE (zcP hu))) (clE (caD (zy Gj hr rfl (clP (zb (za 1) zc))))) (clE (caD (zy Gm hr rfl (clP (zb (za 3) (zb (za 4) (zb (za 5) zc))))))) (zD _)))
   (zh (zw zcG))
   zQ))))
   zQ)))
   (zg (zx (i:=9) zbD.nd rfl (aK rfl) (caD (zy Gj hr rfl (clP (zb (za 1) zc)))))
   (zh (zw (anD (zdP (clE (zI zdt rfl T.n_isinstance eN (zb (za 9) (zb (zdg rfl T.n_int boot_int (v:=.ty "int") rfl) zc)))) (zc9 (ntD (zii (clE (zI zdt rfl T.n_isinstance eN (zb (za 9) (zb (zdg rfl T.n_bool boot_bool (v:=.ty "bool") rfl) zc))))))))))))))))))),?_⟩
  simp_all only [];refine ⟨a,ns,rfl,hS,⟨.inl ht⟩,λr p wl sl cells m d md el mcs ms e0 e1 st H1 s1 er Z mn=>?_⟩;refine ⟨r,_,rfl,SqT.of er,rfl,?_⟩;have L:=Z.ln.len;obtain ⟨z3,z16,m2,m32⟩:=Z.sz
  try simp_all only []
  refine ⟨_,.inl Z.dh.mo.ls,?_⟩;rw [am,Z.dh.mo.rows.length];have roomZ:∀{H':Hp}{p wl sl:Addr}{cells:List Addr}{d:DM}{mcs:List Addr}{ms:Mdl}{Q':VK}{E':XK},DK A H' p wl sl cells m d md el mcs ms e0 e1->(∀H2,zG H' H2->DK A H2 p wl sl cells m d md el mcs ms e0 e1->Q' (.int (zcI ms e0 m)) H2)->zgE A [.ref p] H' Q' E':=λ{H' p wl sl cells d mcs ms Q' E'} Z k=>by
   obtain ⟨n,dp⟩:=Z.dp;refine ⟨p,wl,sl,cells,m,d,rfl,Z.dh.disk,dp.tx,dp.nd,dp.few,Z.dh.tb,by lia,by lia,Z.sz.2.1,λH2 s2 tb2=>?_⟩;rw [zuX dp Z.ln];exact k H2 s2 ⟨Z.dh.sameT s2 tb2,Z.dp,Z.ln,Z.sz⟩
  have lroomZ:∀{H':Hp}{p wl sl:Addr}{cells:List Addr}{d:DM}{mcs:List Addr}{ms:Mdl}{Q':VK}{E':XK},DK A H' p wl sl cells m d md el mcs ms e0 e1->(∀H2,ze H' H2->Q' (.int (zcI ms e0 m)) H2)->zhi [.ref md,.ref el,.int m] H' Q' E':=λ{H' p wl sl cells d mcs ms Q' E'} Z k=>by
   obtain ⟨n,dp⟩:=Z.dp;exact ⟨md,el,mcs,ms,e0,e1,m,rfl,Z.dh.mo,by rw [Z.ln.len];exact Z.sz.2.1,Z.dh.ends,λk hk=>by rw [Z.ln.len];exact zmc (dp.end_.trans hk),by lia,by lia,k⟩
  refine λx dx H2 n2=>⟨x,dx,ms.length,m,rfl,n2.at_,by lia,by lia,m2,m32,λwl2 sl2 cells2 H3 D3 kp3 _=>⟨rfl,?_⟩⟩;rw [cJ] at D3;have s3:ze H1 H3:=λc o e=>kp3 c o (n2.same c o e) (zp e n2.no);have Z3:=Z.same s3;have dn:=DP.new (n:=ms.length) (by lia) 0;refine ⟨x,wl2,sl2,cells2,m,_,rfl,D3,dn.tx,dn.nd,dn.few,Z3.dh.tb,by lia,by lia,dn.tx.len,λH4 s4 tb4=>?_⟩;rw [zrC (by lia) (by lia)];have Z4:DK A H4 p wl sl cells m d md el mcs ms e0 e1:=⟨Z3.dh.sameT s4 tb4,Z.dp,Z.ln,Z.sz⟩;have S4:zG H H4:=(zG.of (s1.trans s3)).trans s4;refine ⟨_,.inl Z4.dh.mo.ls,?_⟩;rw [am,Z.dh.mo.rows.length];refine ⟨.inl ⟨by lia,by lia⟩,?_⟩;simp_all only [];rw [if_neg (by simp)];obtain ⟨dx4,ob4⟩:=Z4.dh.disk.ob
  try simp_all only []
  refine ⟨dx4,_,ob4,zkE,p,wl,sl,cells,m,d,rfl,Z4.dh.disk,by decide,by decide,?_⟩;refine zat.rng (L1I A H a p st md el wl sl cells mcs m d.cnt d ms e0 e1) ⟨⟨_,_,_,rfl⟩,Z4,S4⟩ ?_ ?_
  .rintro i σ H5 _ ⟨⟨x7,x8,x9,rfl⟩,Z5,S5⟩;simp_all only [];refine roomZ Z5 λH6 s6 Z6=>lroomZ Z6 λH7 s7=>?_;have Z7:=Z6.same s7;simp_all only [];rw [if_neg (by simp)];obtain ⟨dx7,ob7⟩:=Z7.dh.disk.ob
   try simp_all only []
   refine ⟨dx7,_,ob7,zkE,p,wl,sl,cells,m,d,rfl,Z7.dh.disk,?_⟩
   try simp_all only []
   rw [if_neg (by simp)]
   try simp_all only []
   exact ⟨⟨_,_,_,rfl⟩,Z7,(S5.trans s6).trans (.of s7)⟩
  .rintro σ H5 ⟨⟨x7,x8,x9,rfl⟩,Z5,S5⟩;obtain ⟨dx5,ob5⟩:=Z5.dh.disk.ob;simp_all only [];refine ⟨dx5,_,ob5,zlp,p,wl,sl,cells,m,d,rfl,Z5.dh.disk,z3,z16,m2,m32,λp' wl' sl' cells' H6 D6 s6 f6=>?_⟩
   try simp_all only []
   have h6:=Z5.dh.same s6;have Z6:DK A H6 p' wl' sl' cells' m d.copy md el mcs ms e0 e1:=⟨⟨D6,h6.mo,h6.ends,(λx hx z=>by obtain ⟨xs,e⟩:=Z5.dh.lsts hx;rw [f6 x z] at e;cases e),h6.nd,h6.tb⟩,let ⟨n,dp⟩:=Z5.dp;⟨n,⟨dp.tx.ok,dp.tx.len⟩,dp.nd,dp.lt,dp.hot,dp.cold⟩,⟨Z5.ln.len,Z5.ln.at_⟩,Z5.sz⟩;refine ⟨md,el,mcs,ms,e0,e1,rfl,Z6.dh.mo,by lia,Z6.dh.ends,λl2 H7 s7 nl hl2=>?_⟩;have Z7:=Z6.same s7;have S7:zG H H7:=(S5.trans (.of s6)).trans (.of s7);have nf:∀x∈md::p'::wl'::sl'::cells',∀o,H x=some o->∃ps,o = .tbl ps:=λx hx o ho=>by
    rcases au.mp hx with rfl|hx
    .rw [mn] at ho;cases ho
    .rcases S5.free (f6 x hx) with ⟨ps,e⟩|e
     .rw [e] at ho;cases ho;exact ⟨ps,rfl⟩
     .rw [e] at ho;cases ho
   have hj:∀k∈smM ms e0 e1 ms.length,k<d.rows.length/\e0≠some k/\e1≠some k:=λk hk=>by obtain ⟨h1,_,h2⟩:=zfx hk;exact ⟨by lia,h2⟩
   generalize smM ms e0 e1 ms.length=js at hl2 hj;have l2d:l2∉p'::wl'::sl'::cells':=λz=>by rcases Z6.dh.disk.kind z with ⟨_,_,e⟩|⟨_,e⟩<;>(rw [nl] at e;cases e)
   have l2m:l2∉md::el::mcs:=λz=>by obtain ⟨_,e⟩:=Z6.dh.lsts z;rw [nl] at e;cases e
   simp only [au,not_or] at l2m
   try simp_all only []
   refine ⟨⟨_,SqL.of hl2⟩,zat.lst (xs:=js.map iv) (L2I A H a p' st md el l2 wl' sl' cells' m d.cnt e0 e1 js) ⟨⟨_,_,_,_,ms,mcs,rfl,Z7,rfl,rfl,λk hk=>(hj k hk).1,l2m.2.2⟩,S7,hl2⟩ (λi σ H' _ I=>SqL.of I.ls) ?_ ?_⟩
   .rintro i x σ H8 hx ⟨⟨x7,x8,x9,d8,ms8,mcs8,rfl,Z8,lf,sf,hk8,hm8⟩,S8,hl8⟩;rw [bh] at hx;obtain ⟨k,hk,rfl⟩:=bX.mp hx;have kj:=aE hk;have kd:=hk8 k kj;obtain ⟨_,k0,k1⟩:=hj k kj;unfold iv;simp_all only [];refine ⟨a,ns,_,rfl,S8.seq hS,by lia,?_⟩;simp_all only [];refine ⟨by decide,zO (λ_=>?_) λ_=>⟨⟨_,_,_,d8,ms8,mcs8,rfl,Z8,lf,sf,hk8,hm8⟩,S8,hl8⟩⟩;obtain ⟨dx8,ob8⟩:=Z8.dh.disk.ob;obtain ⟨n8,dp8⟩:=Z8.dp;refine ⟨dx8,_,ob8,zl3,p',wl',sl',cells',m,d8,k,rfl,Z8.dh.disk,kd,λi=>aW (dp8.tx.wide i) (by decide),(λl e=>by rw [lf] at e;cases e),λH9 D9 b9=>?_⟩;rw [zn8 lf sf] at D9 ⊢;unfold Out;dsimp only;refine ⟨cf _,λl10 H10 n10 _=>?_⟩;have dh9:=Z8.dh.diskB b9 D9;have dh10:=dh9.same n10.same;have km:k<ms8.length:=by rw [Z8.ln.len];exact kd
    have lm:=Z8.dh.mo.rows.length;refine ⟨_,dh10.mo.ls,k,by rw [am,lm];unfold ixN;rw [if_pos (by lia),if_pos (by lia)];simp,?_⟩;have dh11:=dh10.swap (r:=[]) km n10.at_ (λz=>by obtain ⟨_,e⟩:=dh9.lsts z;rw [n10.no] at e;cases e) λz=>by rcases dh9.disk.kind z with ⟨_,_,e⟩|⟨_,e⟩<;>(rw [n10.no] at e;cases e)
    rw [List.map_set] at dh11;have Z11:DK A _ p' wl' sl' cells' m _ md el _ _ e0 e1:=⟨dh11,⟨n8,dp8.clear (c:=d8.cnt+((d8.rows.getD k []).length:Int)) (lf:=d8.left) (st:=d8.st) kd k0 k1⟩,⟨by rw [cu,Z8.ln.len];exact (cu ..).symm,λi=>by
     show _=((d8.rows.set k []).getD i []).length;rw [zbo km,zbo kd];split
     .rfl
     .exact Z8.ln.at_ i⟩,by rw [show (d8.cleared k (d8.cnt+((d8.rows.getD k []).length:Int))).rows.length=d8.rows.length from cu ..];exact Z8.sz⟩
    have S11:zG H (upd H10 md (.lst ((mcs8.map V.ref).set k (.ref l10)))):=λc o nt e=>by
     have e8:=S8 c o nt e;rw [zd (zp e mn)];exact n10.same _ _ (b9 _ _ e8 λz=>by obtain ⟨ps,eo⟩:=nf c (aF _ z) o e;exact nt ps eo)
    have h9l:=b9 _ _ hl8 l2d;have hl11:(upd H10 md (.lst ((mcs8.map V.ref).set k (.ref l10)))) l2=some (.lst (js.map iv)):=by rw [zd l2m.1];exact n10.same _ _ h9l
    generalize upd H10 md (.lst ((mcs8.map V.ref).set k (.ref l10)))=H11 at Z11 S11 hl11 ⊢;refine roomZ Z11 λH12 s12 Z12=>lroomZ Z12 λH13 s13=>?_;simp_all only [];rw [if_neg (by simp)];refine ⟨⟨_,_,_,_,_,_,rfl,Z12.same s13,lf,sf,λk' hk'=>?_,λz=>?_⟩,(S11.trans s12).trans (.of s13),s13 _ _ (s12.list hl11)⟩
    .show k'<(d8.rows.set k []).length;rw [cu];exact hk8 k' hk'
    .rcases fw z with z|z
     .exact hm8 z
     .have:=n10.no;rw [<- z,h9l] at this;cases this
   .rintro σ H8 ⟨⟨x7,x8,x9,d8,ms8,mcs8,rfl,Z8,lf,sf,hk8,hm8⟩,S8,hl8⟩;simp_all only [];refine roomZ Z8 λH9 s9 Z9=>zjI (.int _) ?_;simp_all only [];refine zgN (.int _) ?_;simp_all only [];exact q H9
end
theorem all_mk{l:OpenLaw}{w:aZ}{K:Frag}{h:Heap}{mg:Str->Option Value}{fa:Addr}{xh xq yV uw xg yW yp xo yq x3 x5 xa vR yr xb xF xm xn xi xj xc:Addr}{vX vY yX yY yt yu xU:Option Addr}{vZ yZ u0 yw yx xV:Array (Option Value)}{qc qe qg qh qi:Value}{uJ uL xG xH yy uM u6 xr xv xI xX u7 xY xZ y7 y8 y9 yb u8 yc yd ye yz xJ xK yA xL xM yf xB xC xD:Tok}{vD u9 ua yB yC yg:Nat}(X:K.In h)(G:h.Ns az mg)(hfa:mg "law"=some (.ref fa))
  (yD:dW K az "CleanError"=some (some (.ref xh)))
  (vE:dW K az "NoRow"=some (some (.ref xq)))
  (v8:dW K az "NoDisk"=some (some (.ref yV)))
  (vS:dW K az "Full"=some (some (.ref uw)))
  (uN:dW K az "Stopped"=some (some (.ref xg)))
  (v9:dW K az "NoFile"=some (some (.ref yW)))
  (uO:dW K az "NoPlace"=some (some (.ref yp)))
  (yh:dW K az "HeldAlready"=some (some (.ref xo)))
  (uP:dW K az "NotHeld"=some (some (.ref yq)))
  (va:dW K az "Disk"=some (some (.ref x3)))
  (uH:dW K az "Files"=some (some (.ref x5)))
  (uI:dW K az "State"=some (some (.ref xa)))
  (ux:FnM K "is_whole" zhD)
  (ub:FnM K "is_within" zhR)
  (yE:FnM K "is_made_of" zeQ)
  (xw:FnM K "is_number_text" zfT)
  (uQ:FnM K "is_name" zhb)
  (uT:FnM K "is_word" zie)
  (vb:FnM K "sum_of" zh3)
  (vc:FnM K "summed" zgg)
  (uU:FnM K "body_of" zgT)
  (uy:FnM K "row_text" zfu)
  (uc:FnM K "part_text" zgM)
  (uz:FnM K "read_row" zeM)
  (vd:FnM K "row_of" zfz)
  (ud:FnM K "read_part" zfa)
  (ve:FnM K "row_at" zg2)
  (uV:FnM K "rows_in" zgO)
  (qw:dW K az "whole_rows"=some (some (.ref vR)))
  (qx:K.lookup vR=some ⟨qc,vX,.func (fnOf "whole_rows" "whole_rows" (zdu zcA) (zb5 zcA) (zn zcA) .none qe qg qh vY (.ref yr) qi),vZ⟩)
  (qy:codeIn K (.ref yr) "whole_rows"=true)
  (qz:tabIn K "whole_rows"=some (yr,xb))
  (vQ:codeHdIn K yr xb=true)
  (qj:K.lookup xb=none)
  (qk:gN K (.ref vR)=true)
  (vf:FnM K "end_of" zg8)
  (uW:FnM K "empties" ze2)
  (uX:FnM K "free_in" zhS)
  (vT:FnM K "room" zia)
  (ue:FnM K "room_with" zgB)
  (xE:zah K x3 "__init__" "Disk.__init__" zeo)
  (xx:zah K x3 "stretches" "Disk.stretches" zgA)
  (yi:zah K x3 "places" "Disk.places" zfJ)
  (xt:zah K x3 "next_place" "Disk.next_place" zhq)
  (uf:zah K x3 "told" "Disk.told" zfL)
  (yF:zah K x3 "signs" "Disk.signs" zfY)
  (yG:zah K x3 "write" "Disk.write" zfe)
  (yH:zah K x3 "empty" "Disk.empty" zes)
  (ug:zah K x3 "stop" "Disk.stop" zgU)
  (yj:zah K x3 "copied" "Disk.copied" zfr)
  (xf:zah K x3 "refuse_if_stopped" "Disk.refuse_if_stopped" zfp)
  (yI:zah K x3 "spend" "Disk.spend" zgd)
  (xp:zah K x3 "first_signs" "Disk.first_signs" zff)
  (xy:zah K x5 "__init__" "Files.__init__" zgk)
  (yJ:zah K x5 "many" "Files.many" zf8)
  (uh:zah K x5 "put" "Files.put" zhu)
  (ui:zah K x5 "cut" "Files.cut" zgh)
  (yK:zah K x5 "hold" "Files.hold" zf4)
  (xN:zah K x5 "copied" "Files.copied" zg6)
  (yL:zah K x5 "bare" "Files.bare" zgD)
  (yM:zah K x5 "keep" "Files.keep" zgw)
  (xk:zah K x5 "refuse_if_none" "Files.refuse_if_none" zgX)
  (xz:zah K xa "__init__" "State.__init__" zeN)
  (uY:FnM K "_law_at" zhP)
  (yN:FnM K "_law_mixed" zgI)
  (uA:FnM K "_law_row" zga)
  (uj:FnM K "_law_text" ze0)
  (yk:FnM K "_law_layout" zhm)
  (uk:FnM K "_law_idle" zgp)
  (ul:FnM K "_law_disk" zfA)
  (um:FnM K "_law_torn" zfi)
  (yO:FnM K "_law_empty" zem)
  (uo:FnM K "_law_room" zid)
  (uq:FnM K "_law_some" zeZ)
  (ql:FnM K "law" zgR)
  (qm:dW K az "all"=some none)
  (vU:dW K az "bool"=some none)
  (vV:dW K az "dict"=some none)
  (ur:dW K az "enumerate"=some none)
  (qo:dW K az "int"=some none)
  (yP:dW K az "isinstance"=some none)
  (qp:dW K az "len"=some none)
  (vW:dW K az "list"=some none)
  (qq:dW K az "max"=some none)
  (qr:dW K az "min"=some none)
  (qt:dW K az "ord"=some none)
  (vF:dW K az "range"=some none)
  (vg:dW K az "sorted"=some none)
  (qu:dW K az "str"=some none)
  (vG:dW K az "tuple"=some none)
  (qv:dW K az "zip"=some none)
  (uZ:dW K az "FIGURES"=some (some (.str "0123456789" uJ)))
  (v3:dW K az "LETTERS"=some (some (.str "abcdefghijklmnopqrstuvwxyz" uL)))
  (xO:dW K az "MOST_FIGURES"=some (some (.int 18 xG)))
  (xP:dW K az "MOST_LETTERS"=some (some (.int 6 xH)))
  (yQ:dW K az "MOST_SIGNS"=some (some (.int 20 yy)))
  (v4:dW K az "MODULUS"=some (some (.int 65521 uM)))
  (ut:dW K az "COLD_KIND"=some (some (.str "carry" u6)))
  (xu:dW K az "LEAST_STRETCHES"=some (some (.int 3 xr)))
  (xA:dW K az "MOST_STRETCHES"=some (some (.int 16 xv)))
  (xQ:dW K az "LEAST_PLACES"=some (some (.int 2 xI)))
  (yl:dW K az "MOST_PLACES"=some (some (.int 32 xX)))
  (vH:dW K az "PARTS"=some (some (.ref xF)))
  (vh:K.lookup xF=some { cls:=.type "dict",dict:=none,data:=.dict #[{ hash:=fh w.params (aj "put"),key:=.str (aj "put") u7,val:=.ref xm },{ hash:=fh w.params (aj "cut"),key:=.str (aj "cut") u8,val:=.ref xn },{ hash:=fh w.params (aj "hold"),key:=.str (aj "hold") yz,val:=.ref xi },{ hash:=fh w.params (aj "free"),key:=.str (aj "free") yA,val:=.ref xj },{ hash:=fh w.params (aj "carry"),key:=.str (aj "carry") yf,val:=.ref xc }] vD,slots:=#[] })
  (vi:(xF==sysModules)=false)
  (yR:K.lookup xm=some { cls:=.type "tuple",dict:=yX,data:=.seq #[.str (aj "number") xY,.str (aj "number") xZ,.str (aj "end") y7,.str (aj "name") y8,.str (aj "number") y9,.str (aj "word") yb] u9,slots:=yZ })
  (yS:K.lookup xn=some { cls:=.type "tuple",dict:=yY,data:=.seq #[.str (aj "number") yc,.str (aj "name") yd,.str (aj "number") ye] ua,slots:=u0 })
  (ym:K.lookup xi=some { cls:=.type "tuple",dict:=yt,data:=.seq #[.str (aj "number") xJ,.str (aj "name") xK] yB,slots:=yw })
  (yn:K.lookup xj=some { cls:=.type "tuple",dict:=yu,data:=.seq #[.str (aj "number") xL,.str (aj "name") xM] yC,slots:=yx })
  (xR:K.lookup xc=some { cls:=.type "tuple",dict:=xU,data:=.seq #[.str (aj "number") xB,.str (aj "number") xC,.str (aj "word") xD] yg,slots:=xV })
  (yo:excIn K xh [.type "ValueError",.type "Exception",.type "BaseException",.type "object"] "ValueError.__new__"=true)
  (vj:excIn K xq [.type "ValueError",.type "Exception",.type "BaseException",.type "object"] "ValueError.__new__"=true)
  (vI:excIn K uw [.type "ValueError",.type "Exception",.type "BaseException",.type "object"] "ValueError.__new__"=true)
  (uC:excIn K xg [.type "ValueError",.type "Exception",.type "BaseException",.type "object"] "ValueError.__new__"=true)
  (vk:mroIn K xq (.ref xq)=some true)
  (uD:mroIn K xg (.ref xg)=some true)
  (vJ:ir K x3 gX=true)
  (vm:iy K x3=true)
  (vK:plainOver K x3=true)
  (vL:findIn K (.ref x3) "__setattr__"=some (some (.builtin "object.__setattr__")))
  (vM:makesIn K x3=true)
  (vN:gN K (.ref x3)=true)
  (uu:findIn K (.ref x3) "at_sides"=some none)
  (uE:findIn K (.ref x3) "counted"=some none)
  (xT:findIn K (.ref x3) "has_stopped"=some none)
  (vO:findIn K (.ref x3) "left"=some none)
  (vn:findIn K (.ref x3) "width"=some none)
  (uF:findIn K (.ref x3) "written"=some none)
  (vo:ir K x5 gX=true)
  (v5:iy K x5=true)
  (vp:plainOver K x5=true)
  (vq:findIn K (.ref x5) "__setattr__"=some (some (.builtin "object.__setattr__")))
  (vt:makesIn K x5=true)
  (vw:gN K (.ref x5)=true)
  (v6:findIn K (.ref x5) "births"=some none)
  (vP:findIn K (.ref x5) "kept"=some none)
  (vy:ir K xa gX=true)
  (v7:iy K xa=true)
  (vz:plainOver K xa=true)
  (vA:findIn K (.ref xa) "__setattr__"=some (some (.builtin "object.__setattr__")))
  (vB:makesIn K xa=true)
  (vC:gN K (.ref xa)=true)
  (yT:findIn K (.ref xa) "next_mark"=some none)
  (uv:findIn K (.ref xa) "next_row"=some none)
  (yU:findIn K (.ref xa) "own_files"=some none)
  (uG:findIn K (.ref xa) "spot_of"=some none) :
  ∃fd:cL,(∀(s:af)(v:Value),BindsTo s fd ⟨[v],[]⟩ [("_law_script",v)])/\(∀T,T∈[xb]->K.lookup T=none/\∃c,codeHdIn K c T=true)/\∀base:Heap,K.In base->base.Ns az mg->zcS mg base->zo l.prog w K mg base CX0 true 15 fa fd ["_law_script"] (zeY xb K):=by
 obtain ⟨flaw,fdlaw,a_56,Flaw⟩:=ql;have e:=hfa.symm.trans (dU X G a_56);cases e;have hfd:∀(s:af)(v:Value),BindsTo s fdlaw ⟨[v],[]⟩ [("_law_script",v)]:=by obtain ⟨_,_,_,_,_,_,_,_,_,rfl,_⟩:=Flaw.ex;exact λs v=>.of_eq rfl
 have T:Txt w K mg ⟨xh,xq,yV,uw,xg,yW,yp,xo,yq,x3,x5,xa,xb,xF,xm,xn,xi,xj,xc⟩:=⟨dU X G vH,⟨⟨_,_,vh,(.cons (.cons (.cons (.cons (.cons .nil)))))⟩,by show (["put","cut","hold","free","carry"]:List Str).Nodup;decide +kernel,vi⟩,λH=>.inr ⟨_,_,_,yR,rfl,rfl,by show 6<=sizeLine;decide,(.cons ⟨_,rfl⟩ (.cons ⟨_,rfl⟩ (.cons ⟨_,rfl⟩ (.cons ⟨_,rfl⟩ (.cons ⟨_,rfl⟩ (.cons ⟨_,rfl⟩ .nil))))))⟩,λH=>.inr ⟨_,_,_,yS,rfl,rfl,by show 3<=sizeLine;decide,(.cons ⟨_,rfl⟩ (.cons ⟨_,rfl⟩ (.cons ⟨_,rfl⟩ .nil)))⟩,λH=>.inr ⟨_,_,_,ym,rfl,rfl,by show 2<=sizeLine;decide,(.cons ⟨_,rfl⟩ (.cons ⟨_,rfl⟩ .nil))⟩,λH=>.inr ⟨_,_,_,yn,rfl,rfl,by show 2<=sizeLine;decide,(.cons ⟨_,rfl⟩ (.cons ⟨_,rfl⟩ .nil))⟩,λH=>.inr ⟨_,_,_,xR,rfl,rfl,by show 3<=sizeLine;decide,(.cons ⟨_,rfl⟩ (.cons ⟨_,rfl⟩ (.cons ⟨_,rfl⟩ .nil)))⟩,cQ X G qm,cQ X G vU,cQ X G vV,cQ X G ur,cQ X G qo,cQ X G yP,cQ X G qp,cQ X G vW,cQ X G qq,cQ X G qr,cQ X G qt,cQ X G vF,cQ X G vg,cQ X G qu,cQ X G vG,cQ X G qv,⟨_,dU X G uZ,⟨_,rfl⟩⟩,⟨_,dU X G v3,⟨_,rfl⟩⟩,⟨_,dU X G xO,⟨_,rfl⟩⟩,⟨_,dU X G xP,⟨_,rfl⟩⟩,⟨_,dU X G yQ,⟨_,rfl⟩⟩,⟨_,dU X G v4,⟨_,rfl⟩⟩,⟨_,dU X G ut,⟨_,rfl⟩⟩,⟨_,dU X G xu,⟨_,rfl⟩⟩,⟨_,dU X G xA,⟨_,rfl⟩⟩,⟨_,dU X G xQ,⟨_,rfl⟩⟩,⟨_,dU X G yl,⟨_,rfl⟩⟩,dU X G yD,dU X G vE,dU X G v8,dU X G vS,dU X G uN,dU X G v9,dU X G uO,dU X G yh,dU X G uP,dU X G va,dU X G uH,dU X G uI,yo,vj,vI,uC,vk,uD,⟨vJ,vm,vK,vL⟩,uu,uE,xT,vO,vn,uF,⟨vo,v5,vp,vq⟩,v6,vP,⟨vy,v7,vz,vA⟩,yT,uv,yU,uG⟩;have Fwhole_rows:=zqv (st:=zcA) qx qy qk;have bwhole_rows:=Fwhole_rows.binds (ps:=["disk"]) fun|_,_,_,_,_,_,[_],_=>rfl;refine ⟨fdlaw,hfd,λT hT=>?_,λbase KB _ hbt=>?_⟩
 .simp only [au,aM,or_false] at hT;rcases hT with rfl
  .exact ⟨qj,_,vQ⟩
 have LB_whole_rows:zdH mg base (.ref yr) xb:=⟨⟨yr,rfl,codeHd_of_K KB vQ⟩,hbt⟩;have Gd:=gf l.prog base true X G yE (λ_ _ F=>zrG F T) λ_ _ _ _ _ _=>u3 λ_ _ _=>rfl;have Gq:=gf l.prog base true X G uQ (λ_ _ F=>zsk F T Gd) λ_ _ _ _ _ _=>u1 λ_=>rfl;have Gr:=gf l.prog base true X G uT (λ_ _ F=>znR F T Gd) λ_ _ _ _ _ _=>u1 λ_=>rfl;have Gp:=gf l.prog base true X G xw (λ_ _ F=>ztG F T Gd) λ_ _ _ _ _ _=>u1 λ_=>rfl;have Gn:=gf l.prog base true X G vb (λ_ _ F=>zoM F T) λ_ _ _ _ _ _=>u1 λ_=>rfl;have Gg:=gf l.prog base true X G vc (λ_ _ F=>zur F T Gn) λ_ _ _ _ _ _=>u1 λ_=>rfl;have Gu:=gf l.prog base true X G uU (λ_ _ F=>znB F T Gg) λ_ _ _ _ _ _=>u1 λ_=>rfl;have Go:=gf l.prog base true X G uc (λ_ _ F=>zoX F T) λ_ _ _ _ _ _=>u1 λ_=>rfl;have GL:=gf l.prog base true X G uy (λ_ _ F=>ztC F T Gg Go) λ_ _ _ _ _ _=>u1 λ_=>rfl;have Gs:=gx l.prog base true X G ud (λ_ _ F=>zpR F T Gp Gq Gr) λ_ _ _ _ _ _=>u2 λ_ _=>rfl;have Gv:=gx l.prog base true X G vd (λ_ _ F=>zpw F T Gs) λ_ _ _ _ _ _=>u1 λ_=>rfl;have Gx:=gx l.prog base true X G uz (λ_ _ F=>ztE F T Gu Gv) λ_ _ _ _ _ _=>u1 λ_=>rfl;have M_Disk_stretches:=gm l.prog base false xx (λ_ _ F=>ztL F T) λ_ _ _ _ _ _=>u1 λ_=>rfl;have M_Disk_places:=gm l.prog base true yi (λ_ _ F=>ztU F T) λ_ _ _ _ _ _=>u1 λ_=>rfl;have M_Disk_signs:=gm l.prog base true yF (λ_ _ F=>zsh F T) λ_ _ _ _ _ _=>u1 λ_=>rfl;have M_Disk_next_place:=gm l.prog base true xt (λ_ _ F=>zvy F T) λ_ _ _ _ _ _=>u2 λ_ _=>rfl;have M_Disk_told:=gm l.prog base true uf (λ_ _ F=>zsL F T) λ_ _ _ _ _ _=>u3 λ_ _ _=>rfl;have M_Disk_refuse_if_stopped:=gmx l.prog base true xf (λ_ _ F=>zsl F T) λ_ _ _ _ _ _=>u1 λ_=>rfl;have M_Disk_spend:=gm l.prog base true yI (λ_ _ F=>zp9 F T) λ_ _ _ _ _ _=>u2 λ_ _=>rfl;have M_Disk_first_signs:=gmx l.prog base true xp (λ_ _ F=>zpu F T M_Disk_spend M_Disk_refuse_if_stopped) λ_ _ _ _ _ _=>u2 λ_ _=>rfl;have M_Disk_write:=gmx l.prog base true yG (λ_ _ F=>zqm F T M_Disk_first_signs M_Disk_refuse_if_stopped) λ_ _ _ _ _ _=>u3 λ_ _ _=>rfl;have Gw:=gf l.prog base false X G ux (λ_ _ F=>zsS F T) λ_ _ _ _ _ _=>u1 λ_=>rfl;have Gc:=gf l.prog base false X G ub (λ_ _ F=>ztb F T Gw) λ_ _ _ _ _ _=>u3 λ_ _ _=>rfl;have Ge:=gc l.prog base false X G va vM vN xE (λ_ _ F=>zvQ F T Gc) λ_ _ _ _ _ _=>u3 λ_ _ _=>rfl;have M_Disk_empty:=gmx l.prog base true yH (λ_ _ F=>zuP F T M_Disk_spend M_Disk_refuse_if_stopped) λ_ _ _ _ _ _=>u2 λ_ _=>rfl;have Gy:=gf l.prog base true X G ve (λ_ _ F=>zoE F T M_Disk_told Gx) λ_ _ _ _ _ _=>u3 λ_ _ _=>rfl;have Gz:=gf l.prog base true X G uV (λ_ _ F=>zn3 F T M_Disk_next_place Gy) λ_ _ _ _ _ _=>u2 λ_ _=>rfl;have GA:GF l.prog w K mg base true 9 "whole_rows" ["disk"] (zgu _):=⟨_,_,zo2 Fwhole_rows rfl LB_whole_rows T M_Disk_stretches.weak Gz,dU X G qw,qk,bwhole_rows⟩;have GD:=gf l.prog base true X G vf (λ_ _ F=>zqy F T GA) λ_ _ _ _ _ _=>u2 λ_ _=>rfl;have GG:=gf l.prog base true X G uW (λ_ _ F=>znY F T M_Disk_stretches.weak M_Disk_next_place) λ_ _ _ _ _ _=>u1 λ_=>rfl;have GB:=gf l.prog base true X G uX (λ_ _ F=>zqQ F T M_Disk_places M_Disk_next_place) λ_ _ _ _ _ _=>u2 λ_ _=>rfl;have M_Disk_copied:=gm l.prog base false yj (λ_ _ F=>ztl F T M_Disk_stretches Ge) λ_ _ _ _ _ _=>u1 λ_=>rfl;have M_Disk_stop:=gm l.prog base true ug (λ_ _ F=>zu1 F T) λ_ _ _ _ _ _=>u2 λ_ _=>rfl;have Gh:=gc l.prog base true X G uH vt vw xy (λ_ _ F=>zqo F T) λ_ _ _ _ _ _=>u1 λ_=>rfl;have M_Files_many:=gm l.prog base true yJ (λ_ _ F=>zmY F T) λ_ _ _ _ _ _=>u2 λ_ _=>rfl;have M_Files_refuse_if_none:=gm l.prog base true xk (λ_ _ F=>zsp F T) λ_ _ _ _ _ _=>u2 λ_ _=>rfl;have M_Files_put:=gm l.prog base true uh (λ_ _ F=>zqV F T M_Files_many Gc.weak) λ_ _ _ _ _ _=>u4 λ_ _ _ _=>rfl;have M_Files_cut:=gm l.prog base true ui (λ_ _ F=>zsI F T M_Files_refuse_if_none M_Files_many Gc.weak) λ_ _ _ _ _ _=>u3 λ_ _ _=>rfl;have M_Files_bare:=gm l.prog base true yL (λ_ _ F=>zrn F T Gh) λ_ _ _ _ _ _=>u1 λ_=>rfl;have M_Files_keep:=gm l.prog base true yM (λ_ _ F=>ztS F T M_Files_bare) λ_ _ _ _ _ _=>u3 λ_ _ _=>rfl;have M_Files_hold:=gm l.prog base true yK (λ_ _ F=>ztO F T M_Files_keep) λ_ _ _ _ _ _=>u2 λ_ _=>rfl;have M_Files_copied:=gm l.prog base true xN (λ_ _ F=>zrh F T M_Files_bare) λ_ _ _ _ _ _=>u1 λ_=>rfl;have GN:=gc l.prog base true X G uI vB vC xz (λ_ _ F=>zoL F T M_Files_copied) λ_ _ _ _ _ _=>u5 λ_ _ _ _ _=>rfl;have GE:=gf l.prog base true X G ue (λ_ _ F=>zna F T GB GD M_Disk_places) λ_ _ _ _ _ _=>u2 λ_ _=>rfl;have Gj:=gf l.prog base true X G vT (λ_ _ F=>zp3 F T GE GG) λ_ _ _ _ _ _=>u1 λ_=>rfl;have Gb:=gf l.prog base true X G uY (λ_ _ F=>zpp F T) λ_ _ _ _ _ _=>u2 λ_ _=>rfl;have GH:=gf l.prog base true X G yN (λ_ _ F=>zqf F T) λ_ _ _ _ _ _=>u2 λ_ _=>rfl;have Gf:=gf l.prog base true X G uA (λ_ _ F=>zsm F T Gb GH) λ_ _ _ _ _ _=>u4 λ_ _ _ _=>rfl;have GI:=gf l.prog base true X G yO (λ_ _ F=>ztf F T) λ_ _ _ _ _ _=>u1 λ_=>rfl;have Gm:=gf l.prog base true X G uo (λ_ _ F=>zo8 F T GI) λ_ _ _ _ _ _=>u3 λ_ _ _=>rfl;have Gi:=gf l.prog base true X G uq (λ_ _ F=>zq8 F T) λ_ _ _ _ _ _=>u2 λ_ _=>rfl;have Gk:=gf l.prog base true X G uj (λ_ _ F=>znV F T Gf) λ_ _ _ _ _ _=>u2 λ_ _=>rfl;have GK:=gf l.prog base true X G uk (λ_ _ F=>zrA F T) λ_ _ _ _ _ _=>u2 λ_ _=>rfl;have GJ:=gf l.prog base true X G yk (λ_ _ F=>zn0 F T Gf) λ_ _ _ _ _ _=>u1 λ_=>rfl;have GO:=gf l.prog base true X G um (λ_ _ F=>zo5 F T Gi M_Disk_stop M_Disk_empty M_Disk_copied) λ_ _ _ _ _ _=>u4 λ_ _ _ _=>rfl;have GP:=gf l.prog base true X G ul (λ_ _ F=>zuA F T GJ Ge.weak Gh Gb Gf M_Disk_write Gk GK GL M_Files_put M_Files_hold M_Files_cut GN GO) λ_ _ _ _ _ _=>u1 λ_=>rfl;exact zvJ Flaw T GP Gj Ge.weak M_Disk_signs Gm M_Disk_copied.weak Gi Gb M_Disk_empty
theorem walk{l:OpenLaw}{q:aI}{loose:List Str}{XP:(Str->Option Value)->Heap->Prop}{YP:aZ->Heap->Prop}{d:DefRec}{K:Params->Frag}(xb:Addr){ts:List Addr}(hn:l.most=some 63)(hdf:d.params.defaults=[])
  (hY:∀(w:aZ)(h:Heap),YP w h->(K w.params).In h/\∀T∈ts,h.get? T=some (tabObj #[])) (hts:∀T,T∈ts->T∈[xb]) (hts2:∀T,T∈[xb]->T∈ts) (hnd:([xb]:List Addr).Nodup)
  (F:∀(w:aZ)(mg:Str->Option Value)(fa:Addr)(h:Heap),(K w.params).In h->h.Ns az mg->mg d.name=some (.ref fa) ->
   ∃fd:cL,(∀(s:af)(u:Value),BindsTo s fd ⟨[u],[]⟩ [("_law_script",u)])/\(∀T,T∈[xb]->(K w.params).lookup T=none/\∃c,codeHdIn (K w.params) c T=true)/\∀base:Heap,(K w.params).In base->base.Ns az mg->zcS mg base->zo l.prog w (K w.params) mg base CX0 true 15 fa fd ["_law_script"] (zeY xb (K w.params))) :
  WalkO q loose XP YP l.row.toRowW d [] (λf vs=>PySem.call f vs) :=
 L2.walk_ofT (n:=63) (k:=15) (x:="_law_script") (CX:=λ_=>CX0) (sp:=λw=>zeY xb (K w.params)) (ts:=ts) hn (by decide) hdf ⟨λ_=>rfl,by decide,by decide,rfl⟩ hY (λw mg fa h a b c=>let ⟨fd,g1,g2,g3⟩:=F w mg fa h a b c;⟨fd,g1,λT hT=>g2 T (hts T hT),g3⟩) (λ_ H a ns hl hT hS=>⟨a,ns,rfl,hS,hl,hT _ (hts2 _ (by simp)),λ_=>rfl⟩) λ_ _ _ _ _ z=>z
end K81
namespace PySem.W.Fast
def tw8011978159884341369:=0
def tw11871504905674612528:=0
def tw6392563393348062522:=0
def tw4484861659048666410:=0
def tw11651380942426815357:=0
def tw459660689588431482:=0
def tw15570331584890074069:=0
def tw12169092303079069052:=0
def tw14992843570907071963:=0
def tw15541213555395659490:=0
def tw13741996196246404426:=0
def tw4694868082994136216:=0
def tw15910564079863392931:=0
def tw6372777881314091832:=0
def tw1894639501363838022:=0
def tw12025461501628588062:=0
def tw3847645342400957029:=0
def tw10311525768577987844:=0
def tw2468680868777223074:=0
def tw17967797466307502203:=0
def tw14223298468297735787:=0
def tw13255006267299365366:=0
def tw144386899207230290:=0
def tw7457020788250888323:=0
def tw13457001481621367354:=0
def tw4147234051379518921:=0
def tw10438549794270228531:=0
def tw7843050653667737392:=0
def tw1387766340398784900:=0
def tw14961324582906245509:=0
def tw12237160661233314720:=0
def tw9495797400266382571:=0
def tw17269988314122699207:=0
def tw7597822297881455722:=0
def tw15035964556525358035:=0
def tw6060069178497431187:=0
def tw1191852512009866673:=0
def tw5479195721470256009:=0
def tw6008019683171238241:=0
def tw5430053709794958200:=0
def tw7163899642029815092:=0
def tw10887618663567853659:=0
def tw7949350333078824013:=0
def tw2723385521583045566:=0
def tw5492842928637014615:=0
def tw17268544532589585138:=0
def tw18240032569215473098:=0
def tw4063134855920162579:=0
def tw6393387693310123279:=0
def tw11641093849440412934:=0
def tw14458105588440597115:=0
def tw12523572709463778291:=0
def tw1825305804121660078:=0
def tw4358179080102669547:=0
def tw10276562855160895836:=0
def tw12061709411628780562:=0
def tw12790652979485653282:=0
def tw12031722145153293029:=0
def tw9862496193458040584:=0
def tw8216368854890947003:=0
def tw5012083385460015415:=0
def tw14461345898434720308:=0
def tw4958744008335404271:=0
def tw9872972269733556318:=0
def tw8170652737827591982:=0
def tw11310478280926788241:=0
def tw7652171356467090181:=0
def tw10766494052519196953:=0
def tw596813981294752365:=0
def tw6083111321685656399:=0
def tw745822248201758460:=0
def tw12188959855562951493:=0
def tw7902358994754846828:=0
def tw16231148327564556505:=0
def tw8802817512741793472:=0
def tw12969898503075957187:=0
def tw14480355296798156434:=0
def tw12652173613940383939:=0
def tw2938613101948494421:=0
def tw4925418870829242046:=0
def tw15574213421850209592:=0
def tw5075420563716801993:=0
def tw9974267558874600676:=0
def tw1827439851855723332:=0
def tw3401400979875451589:=0
def tw12066346621513398698:=0
def tw4865829262433612727:=0
def tw986008178061984880:=0
def tw6257714636328786637:=0
def tw14439620242081708350:=0
def tw9494628022935944957:=0
def tw5143849780657463527:=0
def tw11640868870111967160:=0
def tw18413654725934248306:=0
def tw9661239604376998701:=0
def tw16746433941599506441:=0
def tw8999964451451005299:=0
def tw6840960378538038897:=0
def tw11058922788853464244:=0
def tw12725105901877462550:=0
def tw3799013265721499370:=0
def tw5966120576295877819:=0
def tw2670685984978499032:=0
def tw2042333168009369244:=0
def tw17131126510807808271:=0
def tw17493529120032167370:=0
def tw16272544916263752900:=0
def tw8931159377209474816:=0
def tw200175235293676194:=0
def tw12352702186230367630:=0
def tw485394966714405299:=0
def tw7175990453412833565:=0
def tw3448796631576472354:=0
def tw5601192392402893504:=0
def tw7291415131466615237:=0
def tw1834135013436334886:=0
def tw114362999713117704:=0
def tw11148741905087755142:=0
def tw5337067320632693175:=0
def tw14078005747038857239:=0
def tw13651714001814717345:=0
def tw13422074329851649441:=0
def tw16027187182325730388:=0
def tw1313501163192535220:=0
def tw9477109357388571400:=0
def tw6162055608674674612:=0
def tw5310414036735125456:=0
def tw4593493297627359705:=0
def tw7213566241463940985:=0
def tw2655435125413097789:=0
def tw14907749709849714995:=0
def tw15434904530792060613:=0
def tw3929283713588357337:=0
def tw14771678165029533202:=0
def tw12795174009864612836:=0
def tw14083534553231196570:=0
def tw12252683754855518645:=0
def tw15018335508257227178:=0
def tw525435413478350457:=0
def tw5922846865268571920:=0
def tw17873467631706813055:=0
def tw17803500807014942727:=0
def tw1023174248288521993:=0
def tw15527477976514058803:=0
def tw7173524286498209072:=0
def tw11207789089724446324:=0
def tw11005372951619707882:=0
def tw12581632150656114367:=0
def tw17386574676230902022:=0
def tw15881207631833392739:=0
def tw390012543864625953:=0
def tw4950898013596108818:=0
def tw11182782227688349356:=0
def tw3466489178468755892:=0
def tw7058677021955398666:=0
def tw10541318380752755811:=0
def tw18177380167980775308:=0
def tw16934822134202658624:=0
def tw2001643157377327536:=0
def tw5802156998032711831:=0
def tw15211801020465676808:=0
def tw17584548091952048439:=0
def tw11630510872393724700:=0
def tw8715314631391825438:=0
def tw6535803924301904208:=0
def tw8721878058113545941:=0
def tw4877567074442597588:=0
def tw4351576341856939935:=0
def tw2185598804192587038:=0
def tw5508153366117122037:=0
def tw5138058647661791366:=0
def tw11404828363968267599:=0
def tw6768761306992673850:=0
def tw11036240115819185944:=0
def tw3038103791908388797:=0
def tw13498665182991266847:=0
def tw9814577179213864506:=0
def tw538854916105751018:=0
def tw18248066797076082784:=0
def tw9484873803017180608:=0
def tw3674799841520832017:=0
def tw6597809343574199970:=0
def tw11156678916647502854:=0
def tw1888304059675624622:=0
def tw17961060276455486393:=0
def tw8488289809978618392:=0
def tw14385249396118277792:=0
def tw3874489432861871999:=0
def tw13416896259411700920:=0
def tw1557539517651988977:=0
def tw6007223217142083348:=0
def tw17618426351849653888:=0
def tw8509641565936416538:=0
def tw7403368186190143248:=0
def tw16596329150416477335:=0
def tw15651394527889798182:=0
def tw17015728023080612894:=0
def tw10297930505568349346:=0
def tw459599828446629500:=0
def tw7102576429153898434:=0
def tw1666918181838574334:=0
def tw7092459418518762726:=0
def tw1153996539891150368:=0
def tw1757599738301521108:=0
def tw11902820921780510635:=0
def tw13778141324813041233:=0
def tw8251121195113241916:=0
def tw109131825160755432:=0
def tw13780080231580397392:=0
def tw3005389359221592111:=0
def tw3974132322347510538:=0
def tw6941201112947425552:=0
def tw17902808912206742316:=0
def tw15386017137690142619:=0
def tw14352405760690165785:=0
def tw18292966956036350010:=0
def tw6297755997501592377:=0
def tw6922019491750901350:=0
def tw16294376526577932821:=0
def tw130449014675496821:=0
def tw14825546185943441760:=0
def tw11873793840290076650:=0
def tw12132042194172081155:=0
def tw4297256105040130886:=0
def tw3394252782993488780:=0
def tw2341327826448414513:=0
def tw2260381602976533358:=0
def tw3105795124064236908:=0
def tw5291704217270725669:=0
def tw12234197514793364758:=0
def tw2829116616942286805:=0
def tw17807661559656084453:=0
def tw9474096200433630409:=0
def tw15071112338747104701:=0
def tw3973731376054489381:=0
def tw15319913976650683533:=0
def tw10012823718626932386:=0
def tw3586280380411273586:=0
def tw18208383588778509578:=0
def tw13593275465888641376:=0
def tw213548852869248203:=0
def tw5040530232567265748:=0
def tw15588963432408466605:=0
def tw4937833320311883846:=0
def tw4696897801308981697:=0
def tw8988943867004744179:=0
def tw8311933253038735792:=0
def tw10244914106006460283:=0
def tw13353957784959182635:=0
def tw16485043650942347565:=0
def tw449640665841622233:=0
def tw16466333909217482456:=0
def tw10550396376043863261:=0
def tw11311949156524651171:=0
def tw2342747042831460545:=0
def tw16397236409686961750:=0
def tw15724602507419236254:=0
def tw14065517429906452188:=0
def tw2851778078908404822:=0
def tw8431935960910807448:=0
def tw2233591977243589531:=0
def tw14275258823343876810:=0
def tw1492127468899200135:=0
def tw85996712217886341:=0
def tw2574284399822260635:=0
def tw12349912897667833307:=0
def tw252542546413942466:=0
def tw7545110152693442956:=0
def tw8086333984866415838:=0
def tw14919225346810322212:=0
def tw11557249965215402018:=0
def tw9693935014703920292:=0
def tw7987712031520289709:=0
def tw14806295836266813085:=0
def tw13482452513187085631:=0
def tw9227958305591872766:=0
def tw11253650773482362580:=0
def tw17283714767752833913:=0
def tw17444178320387085412:=0
def tw2357704889210285956:=0
def tw10316972911016558815:=0
def tw4228036493733526337:=0
def tw17443661625215449437:=0
def tw5649006988081083762:=0
def tw3300271107434367517:=0
def tw5075913088044870920:=0
def tw1550956617446850188:=0
def tw8102401816130038725:=0
def tw5965423729528066026:=0
def tw14130426917214388894:=0
def tw1245379242951630504:=0
def tw9219675599821324830:=0
def tw11397877473222562829:=0
def tw5927300510830421709:=0
def tw14495926931798231779:=0
def tw5781769347433526155:=0
def tw6415079039860193659:=0
def tw17406109184776262235:=0
def tw13342703460302108354:=0
def tw3096493309578473996:=0
def tw17643785590461906693:=0
def tw2810792146172834164:=0
def tw7578402400417927418:=0
def tw5697146385099982855:=0
def tw5917206487853352987:=0
def tw10108947129021414084:=0
def tw11410333857531244798:=0
def tw7275904034958257420:=0
def tw6390853988874035609:=0
def tw5387705019218499075:=0
def tw8291379718694133022:=0
def tw7551863005857375695:=0
def tw14122290898974901617:=0
def tw14303531936325450512:=0
def tw12397410298081446310:=0
def tw2896477335540633738:=0
def tw16140256999896600336:=0
def tw6662357099101332919:=0
def tw6834333944524738624:=0
def tw681304712614469313:=0
def tw296119089165197763:=0
def tw14165956483747137872:=0
def tw15072764924890902247:=0
def tw2246292596801785380:=0
def tw9371711123234040239:=0
def tw15783201632544033131:=0
def tw12228762573573086719:=0
def tw8727344890429557337:=0
def tw15928212606005512403:=0
def tw14633618292283918593:=0
def tw15895051873211335041:=0
def tw15721868396325044280:=0
def tw2375302812628788813:=0
def tw7988449741846354383:=0
def tw9922106793370471106:=0
def tw8986478340940435912:=0
def tw10157002494788926630:=0
def tw14205859076329971739:=0
def tw10654554050056033949:=0
def tw5692532735350097768:=0
def tw16013244237129205338:=0
def tw11238841504739543706:=0
def tw4291977404554741590:=0
def tw6789966314466502718:=0
def tw16499658607364885796:=0
def tw17791541705625375152:=0
def tw8471570860065274590:=0
def tw1842817330170500869:=0
def tw12971745338241162336:=0
def tw15920675791457741695:=0
def tw4846333726921841253:=0
def tw2536706965886698290:=0
def tw2816596790696755211:=0
def tw8584893463572365289:=0
def tw7827796906713811363:=0
def tw2936743846616049957:=0
def tw8631001892816008654:=0
def tw7988894578790899653:=0
def tw5769720256401246580:=0
def tw4236843812457251958:=0
def tw12694749862146167828:=0
def tw13466144774969805219:=0
def tw12340791386666731205:=0
def tw2788266943446411956:=0
def tw7466022339686822767:=0
def tw2665964360263334756:=0
def tw781016677350305497:=0
def tw6744589149128930297:=0
def tw3148126482716745716:=0
def tw7331444521817070863:=0
def tw15978408093897303588:=0
def tw14662080615992362810:=0
def tw9724361896957655993:=0
def tw4323769714089894897:=0
def tw989068458833225060:=0
def tw13135156804605380181:=0
def tw8137778452571116899:=0
def tw1866621668535299211:=0
def tw2742556066004292796:=0
def tw5128142523781570614:=0
def tw2284908572354391736:=0
def tw10619209347490261376:=0
def tw10039832025187924997:=0
def tw9231019932146708291:=0
def tw4054173501965841982:=0
def tw9475970487290036967:=0
def tw5446671060987828412:=0
def tw1115330399096926282:=0
def tw2933739777856939815:=0
def tw17464422881962660296:=0
def tw3592323489425570685:=0
def tw10181847976367242183:=0
def tw17777475473439685415:=0
def tw12445863200417949593:=0
def tw15153673426742069485:=0
def tw8701646894893820701:=0
def tw16764824940506054850:=0
def tw18020285601248732962:=0
def tw2264331999127994803:=0
def tw11463386215557736160:=0
def tw8253754669871836907:=0
def tw9389060828953224917:=0
def tw4836637833295116965:=0
def tw16345894264258100828:=0
def tw14201924027758151239:=0
def tw142887348793878601:=0
def tw12103501252591710576:=0
def tw3173092127160991925:=0
def tw17377978735950880283:=0
def tw7492643178838320024:=0
def tw17865443247673309716:=0
def tw12767812791298892163:=0
def tw735392248477787177:=0
def tw3091137225694349968:=0
def tw7495188689916128953:=0
def tw13485196383172663723:=0
def tw8703655298230891877:=0
def tw6772884404506467776:=0
def tw10903182473476276039:=0
def tw8305434663988639512:=0
def tw14660696380832398292:=0
def tw16038008343822758291:=0
def tw12372134889855775493:=0
def tw11009181418870284476:=0
def tw11627591692481732603:=0
def tw12892767276886537440:=0
def tw5347926020091156296:=0
def tw17869177751895499377:=0
def tw5130131420374422141:=0
def tw6981852697869442277:=0
end PySem.W.Fast
open PySem PySem.W PyProof.Rows
set_option maxRecDepth 100000 in
set_option maxHeartbeats 0 in
theorem PySem.Challenge.cw_cleanrows_k81_room_told_holds : PySem.Challenge.rw_cleanrows_k81_room_told.Holds := by
 w_on;o_law;k_head;(case hw=>w_witness2)
 k_fill
 refine K81.walk 246 (l:=PySem.Challenge.rw_cleanrows_k81_room_told) rfl rfl (λw h Y=>⟨PySem.W.km_in_of Y,PySem.W.km_tabs_of Y⟩) (by decide) (by decide) (by decide) ?F
 case F =>
  intro w mg fa h KX G hmg
  refine' K81.all_mk KX G hmg ..
  all_goals try refine' ⟨_,_,?_,⟨⟨_,_,_,_,_,_,_,_,_,rfl,?_,?_⟩,?_⟩⟩
  all_goals try refine' ⟨_,_,?_,?_,⟨⟨_,_,_,_,_,_,_,_,_,rfl,?_,?_⟩,?_⟩⟩
  all_goals first|k_is|kit_is|k_exc|rfl|decide +kernel|skip
