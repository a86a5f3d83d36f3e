import PyProof.Rows.All
import Wide.All
import OpenK.AllK
import Wide.FinOn
import Lean
import PyProof.EqAt
import PyProof.EqKinds
import PyProof.TupleCall
import KE.KTabLook
import PyProof.StrLawsChain
import PyProof.StrLawsFirst
import PyProof.StrLawsJoin
import PyProof.MeetsStr2
import PyProof.ReprLen
import KE.KIntText
import PySem.Syntax
import PySem.Value
import PyProof.StrOps2
import PyProof.StrLawsIn
import PySem.Eval
import PyProof.SliceStr2
import KE.KSortTup
import PyProof.Rows.SortWalk
import PyProof.Dict
import PyProof.DictKinds
import PyProof.StrOps
import KE.KDictList
import KE.KEqDict
import PyProof.DictItems
import PyProof.FitsInt
import PyProof.ReprRoads
import PyProof.CallFns
import PyProof.MinMaxWalk
import PyProof.MeetsSeq
import PyProof.Rows.SeqMore2
import PyProof.FactsAll.str_0
import PyProof.FactsAll.str_5
import PyProof.FactsAll.str_7
import PyProof.Rows.FactsT2
import PyProof.ZipIter
import PyProof.WalksEnum
import PyProof.EnumMake
import KE.KRevIter
import PyProof.FactsAll.tuple_2
import PyProof.FactsAll.tuple_3
import PyProof.Rows.SetFrom
import PyProof.WalksMore
import PyProof.TupleIter
import PySem.Challenge.RW_pourwright_k87_runs_at_a_desk
open List renaming getElem?_cons_zero->aJ,getElem?_cons_succ->aZ,getElem?_eq_some_iff->cj,length_cons->bA,getElem?_eq_getElem->dw,map_cons->aX,getElem?_set_ne->cW,length_nil->aL,nil_append->aM,length_map->aR,cons_append->bh,set_cons_succ->bY,set_cons_zero->bW,mem_singleton->cG,replicate->bD,map_nil->aV,size_toArray->cF,getElem?_append_left->fQ,mem_cons->bC,getElem?_set_self->eF,range->aY,length_append->gG,mem_cons_of_mem->jU,getElem?_append_right->pX,getElem?_map->jw,mem_append->iG,toArray->dU,lookup_cons->jl,length->dR,mem_of_getElem?->pW,take_of_length_le->tM,range'->fP,map_append->mH,length_eq_zero_iff->zJ,append_assoc->rR,mem_map->jQ,foldl_cons->pR,drop_eq_getElem_cons->Ho,not_mem_nil->tL,mem_filterMap->zF,drop_eq_nil_of_le->Hl,length_take->vY,map_map->oG,append_nil->qZ,mem_cons_self->xZ,pairwise_cons->xY,mem_iff_getElem->CK,mem_of_mem_drop->CJ,set_append_right->Ir,pairwise_append->Ip,eraseIdxIfInBounds_toArray->Xi,map_congr_left->Im,range'_succ->Cu,eq_nil_of_length_eq_zero->Xh,zip_cons_cons->Il,dropLast_concat_getLast->Xg,getElem?_eq_none->O8,mem_filter->Cr,cons_lt_cons_iff->O7,take_append_drop->O6,ext_getElem?->Ij,foldl_append->Ii,range_eq_range'->O5,mem_of_mem_take->O4,set_append_left->O2,pairwise_iff_getElem->Xc,length_drop->Ie,filter_cons->Ia,filter_eq_self->O1,lookup_append->OD,take_succ_eq_append_getElem->ael,drop_of_length_le->W6,eraseIdx_eq_take_drop_succ->aek,mem_range->H7,mem_iff_getElem?->W5,eq_nil_or_concat->W4,concat_eq_append->W3,all_eq_true->Ov,any_toArray->Ou,map_snd_zip->Oq,getElem_mem->Oo,sum_cons->H6,map_take->HX,nodup_cons->Oi,forIn_cons->Oh,length_pos_iff->WX,range_succ->Od,sublist_flatten_of_mem->aei,zip_nil_right->WW,foldl_nil->Ob,getElem?_zip_eq_some->ad6,nodup_append->WD,idxOf_lt_length_iff->ad3,length_range->Wx,flatten_cons->Ww,lookup->HD,getElem?_replicate->adY,filter_cons_of_pos->adX,filter_cons_of_neg->adW,map_drop->N6,flatten_eq_nil_iff->adV,any_eq_true->Wu,perm_middle->Ws,map_fst_zip->Wr,isEmpty_nil->Wo,zipWith_cons_cons->adS,head?_eq_getElem?->adR,of_mem_zip->Wm,dropLast_eq_take->adM,length_replicate->adI,mem_of_mem_erase->adH,length_filter_le->adG,map_set->NQ,nodup_nil->Wd,forIn_nil->Wb,drop_zero->Wa,take_succ_cons->ady,takeWhile_cons->adx,dropWhile_cons->adw,replicate_succ->adv,getElem_of_mem->ado,drop_succ_cons->adk,map_singleton->ac9,getElem_idxOf->ac8,isEmpty_cons->acS,take_add_one->acR,cons_ne_nil->acH,drop_length->acE,take_length->acD,mem_range'->acB,length_set->acv,all_cons->acg,any_cons->acf,zipWith->acd,set->Ve
open PySem.Str renaming ofString->aF,length->eE,ofString_eq_toList->W7,join->Vf
open PySem renaming wpAny_bind->au,Shared->aj,wpAny_pure->aG,mainGlobals->aQ,wpAny->ao,Spec->am7,sizeLine_eq->cY,mem_of_lookup->oM,wpAny_truthy_bool->m7,Around->aP,Program->bN,wpAny_loadPart'->DY,wpAny_newObj_type->wj,starEach->eV,model->aU,wpAny_holding->pQ,codeAny_builtin->vX,argBest->cJ,Heap->aq,FuncData->d8,call_meets->jf,World->aO,wpAny_callSpecial?_slot->Iu,plainId_quiet->o8,wpAny_tryCatch->qX,wpAny_updateSeq->tZ,wpAny_call_entry->xX,wpAny_mono->j6,cellsFrom->je,wpAny_Call_Name_kw->Cz,wpAny_field->nC,NameKind->gJ,compareOp->jy,wpAny_passesOwn->xT,wpAny_seqItems->xO,wpAny_letGo->qW,Operator->jx,getItem->iM,sysModules->qU,typeIs_str->qT,assignEach->qR,tupleKind_room_in1->OJ,intItems->lX,sliceBounds->xK,wpAny_pyIter_list->Ox,foldedSetIterable->Ow,bootBuiltins->Cm,letOwnedTupleGo->Ol,keywordEach->Ci,wpAny_execs_nil->Oe,backTo->jc,codeAny->ni,numAt->dM,wpAny_rule->Cg,wpAny_sequenceKey->WM,seqItems?->xu,swapsWith->xr,wpAny_assign_Name->Wy,wpAny_comprehension_free->ad0,IsRangeIter->HJ,Builtin->qP,behindInMarks->N7,bindArgs->tU,IsPart->j5,noFill_tuple_add->Wv,wpAny_pyIter_rangeiter->adQ,pyNext->lV,rawInt->lU,wpAny_typeOf->NT,wpAny_isTrue_Compare1->adK,wpAny_pyIter_revIter->adB,wpAny_setField->Wh,newFunctionEnv->Wc,subscripted->NP,CmpOp->iK,richCompare->NK,holding->tR,slicePicked->Nz,attributeBase->V9,seq_tuple_add->V8,ExceptHandler->V6,backToKw->BZ,swappedStores->V2,wpAny_pyIter_range->ac7,wpAny_standAt->V1,builtinsNs->Ny,typeLookup->Nx,wpAny_dictEntries->ac2,slot_list_getitem->ac1,list_append->acZ,wpAny_Return_some->acU,wpAny_pyIter_enum->acT,Within->VP,concat_meets->VJ,assign->qN,wpAny_pyHash_str->acQ,wpAny_eqBool_int->acP,wpAny_eqBool_str->acO,wpAny_throw->VD,wpAny_of_eq->VB,Keyword->BW,seqIndex_of->Vz,wpAny_specialOf->acC,tupleKind->Nv,intItems_at->Vv,updateSeq->Nt,notedBy->BR,pushCells_keeps->acz,Result->xq,isTrue->w7,wpAny_Name->Vr,wpAny_call->Vq,closureFor->Vo,binaryOp->Nq,standAt->Hw,setItem->Hv,callWith->Np,relabel->Hs,compEnvC->Nk,seqIndex?->Vn,DictEntry->Vm,lastMarks->Vh,bindL->tO,dictGet->Ni,leaving->Nh,valueAt->Ng,BindsTo->Nf,Meets->Nb,truthy->Hr,stored->Hq,name_of_addr->ab0,call->abY,putAt->wZ
open Bool renaming and_eq_true->bL,false_eq_true->bZ,false_ne_true->fj,not_eq_true'->vZ,not_false->rQ,not_true->pO,true_and->lZ,or_eq_true->xU,false_and->xQ,and_eq_true_iff->W2,eq_iff_iff->Og,or_eq_true_iff->adl,and_self->V7,and_true->V0
open Nat renaming le_refl->aB,lt_of_lt_of_le->jT,ne_of_lt->jk,le_trans->jR,lt_irrefl->mG,zero_le->ju,add_sub_cancel_left->CN,le_succ_of_le->Cy,lt_succ_of_lt->Cw,min_eq_left->xR,ne_of_gt->tY,le_of_not_lt->Ib,le_of_lt->xM,le_succ->xJ,lt_or_ge->Ck,lt_succ_self->Ot,lt_trans->HN,min_eq_right->Wq,le_of_ble_eq_true->adJ,eq_zero_or_pos->ac6,sub_zero->VG,zero_add->VF,succ_le_succ->acL,succ_ne_self->acF,log2_lt->Vy,mul_le_mul->acr,add_mul->ab2
open PySem.Heap renaming get?_push_of_some->eG,get?_push_size->iH,get?_update_other->m8,lt_size->eZ,get?_update_self->Hj,size_push->xP,get?_update_ne->adq,get?_push_ne->acY,SameBut->VR,ExtBut->ab6
open Option.some renaming inj->cP,injEq->pU
open PySem.W renaming nsIn->bG,Frag->bV,findIn->oK,keepIn->oJ,emptyDict->wg,fnOf->m6,mg_of->pP,instObj->o9,kia_one->qY,kas_place->lY,kas_asc->gH,plainGet->Ig,kas_rev->jd,hasDictIn->Oz,codeIn->H8,kas_desc->nq,plainGet_of->WY,makesIn->Oj,kas_count->tX,isFn->HW,lookIn->Oc,plainOver->WQ,kasC_bind->xG,kas_sort->tW,cellsFrom_some->adU,takerIn->Wn,kas_item->BX,kitx_list->acX,kitx_dict->acW,kas_descPart->VH,handedIn->acN,kasC_pure->Nu,kitOne->acp,exmOne->aco,kas_bin->Hu,kas_ask->Ht,kas_tail3->Vl,kas_st->BP,kasC_cons->Vj,OpenLaw->M9
open PySem.Builtin.Str renaming strSliceIndices->lA,occurrences->HF,strKind->adp,strSub->xg,tooLong->Vg
open Option renaming map_some->gF,bind_some->lu,map_eq_some_iff->zH,isSome_iff_exists->Ea,join_some->ud,bind_eq_some_iff->Pb,isNone_iff_eq_none->ad7,isSome_map->WK,isSome_some->adb,getD_none->acM,map->abW
open Ne renaming symm->bK
open List.cons renaming injEq->mJ,inj->N5
open PySem.NameKind renaming free->mF,cell->oH
open PySem.Around renaming under_plainId->zG,frames_deeper->adC,under->VN
open PySem.Value renaming none->iR,bool->gM,ref->o7,int->qQ,str->xH,isStrOf->aci,isInt->ab7,type->abX
open PyProof.Rows renaming slot_tuple_getitem->Le,callWith_type1->Pr,seqObj->d7,SortKind->tV,subscriptTail_builtinR->adT,IntsAre->qO,listUpdate_at->V3,entry_tuple_getitem->ac5,args_tuple_getitem->ac0,callWith_builtin1->ajm,slot_str_getitem->acK,seqEpoch_at->Vw,envOfC->tQ,tupleItemsOf_->acu,Subscript_->Vs,AllBare->Hx,failedOf->Nm,sortRuns'->Vk,pendingOf->Vi,boot_max->ajf,lt_int->ab4
open PySem.F renaming plainAttrs_list->CQ,plain_max_loop->uc,plain_min_loop->xV,plainAttrs_str->O9,args_tuple_add_2->Xb,entry_tuple_add->Xa,slot_list_index->W9,slot_tuple_add->W8,entry_max_loop->Om,slot_dict_contains->W0,slot_range_iterator_next->aeh,args_str_split_2->WR,slot_dict_getitem->Oa,args_list_index_2->ad8,entry_list_index->ad2,slot_list_remove->ad1,entry_str_split->Wz,entry_min_loop->Wt,slot_str_split->NZ,slot_dict_len->adL,args_list_append_2->adE,args_list_extend_2->adD,entry_list_append->adu,entry_list_extend->adt,slot_list_append->V5,slot_list_extend->V4,entry_list_pop->acI,slot_list_pop->Vx,slot_str_startswith->acy,slot_str_partition->acs,slot_list_insert->acj,slot_str_join->ab8
open PySem.Obj renaming mapSeq->gK
open PySem.Builtin.Builtins renaming bindParams->Pq
open PySem.MeetsSeq renaming plain_remove_loop->Pn,entry_remove_loop->ad9
open Array renaming toList_inj->xW,length_toList->Io,getElem?_eq_some_iff->aee,toList->HS,mem_toList_iff->adF,getElem_mem->acV,toList_map->acG
open PySem.Calls renaming spliced_cons->CG,spliced_nil->Ik,Name_function_global->aed,Constant_str->ada,call_function_entry->acq
open PySem.Builtin.Slice renaming slicePlaces->Pk,sliceAdjust->Xe,sliceApplied->aeg,slicePartIndex->ajl,sliceFields->ajj
open PySem.Builtin.Tuple renaming tupleExact->Pj,tupleItemsOf->aef,tupleIsExact->aeb,tupleCompareSizes->ajn
open PySem.Builtin.List renaming listTooLong->Ph,listFitsIndex->aea
open Function renaming comp_def->Cv,comp_apply->adi
open Classical renaming propDecidable->Pg
open PySem.Builtin.Range renaming rangeSize->Pa,rangeFitsLong->aej,small->adn
open PySem.PyData renaming eqv->nA,canLay0->Cp,depth->Cj,canLayAll0->WL,eqvAll->N8,depthAll->Wj
open ForInStep renaming yield->Cq
open Int renaming toNat_natCast->Ih,fdiv_eq_ediv_of_nonneg->Xf,fmod_eq_emod_of_nonneg->aec,eq_ofNat_of_zero_le->adZ,ediv_nonneg->acA,le_refl->Vu
open PySem.StrLaws renaming subAt_one->H9,strSub_toList->Wi,partsFrom->Hy
open Prod.mk renaming injEq->HY
open Sum renaming inr->lW,inl->oZ
open PyProof renaming noPylong_of_log2->ad5
open PySem.AutoSeq1 renaming sub_tuple_tuple->ad4
open PyProof.Rows.SortSt renaming mk'->Ce
open List.Sublist renaming length_le->adP
open PySem.SeqAt renaming compareEq_reads->adO,compareNe_reads->adN,EqAt->BL
open And renaming intro->Cd
open Char renaming toNat->HB
open True renaming intro->Hz
open PySem.W.KIN renaming val_back->adA,call_text->ajg,signs_num->aje
open PySem.Builtin renaming bitAnd->Wg
open PyProof.Rows.KTD renaming datumAt->m9,isSome_datumAt->Vt
open PySem.EntryCells renaming newEntry->adz
open PySem.SeqAt.EqAt renaming int_str->adh,str_int->adg,int_int->adf,str_str->ade
open PySem.Heap.SameBut renaming refl->ac4,update->ajd
open List.Pairwise renaming nil->ac3
open PySem.Code renaming isFrame->VL,frames->ab5
open PySem.IsL renaming update->acJ
open String renaming reduceEq->acw
open PySem.SeqAt.RcNeAt renaming lists_lengths->ajk,lists->aja
open PySem.Builtin.Dict renaming pendingCount->aji,pendingKey?->ajh
open List.Perm renaming refl->acn
open PySem.Walks renaming list->Vp
open Prod renaming ext->Nr,fst->Nj,snd->Vc
open PySem.Paired renaming length->ach
open PySem.Expr renaming ListComp->ace
open PySem.Str.mk renaming injEq->ab9
open PySem.CmpOp renaming NotEq->ab3
open PySem.IsRange renaming new->ab1
open PySem.W.Looks renaming here->ajc
open PySem.SeqAt.Reads renaming unique->ajb
open PySem.Heap.IsSliceOf renaming new->ai9
open PySem.Within renaming cons->ai8
open PySem.W.WShape renaming has->abZ
open PySem.W.WData renaming int->abV
open PySem.Heap.DictOf renaming new->ai7
set_option maxHeartbeats 4000000
set_option linter.all false
set_option maxRecDepth 100000
set_option exponentiation.threshold 1000
set_option Elab.async false
set_option genSizeOf false
set_option bootstrap.genMatcherCode false
set_option backward.eqns.nonrecursive false
local macro_rules|`($m:declModifiers def $x $s:optDeclSig $v:declVal)=>if m.raw.getArgs.all (·.getNumArgs==0) then `(command| noncomputable def $x $s:optDeclSig $v:declVal) else Lean.Macro.throwUnsupported
open Lean in
local macro_rules|`(#version)=>do
 let p:=`PySem.Challenge
 let t:=p.str "cw_pourwright_k87_runs_at_a_desk_holds"
 let l:=[p.str "pw_pourwright_k87_runs_at_a_desk",p.str "rw_pourwright_k87_runs_at_a_desk"]++(aY 1117).map (fun i=>t.str s!"o_{i+43}")++[47,70,85,100,115,130,145,160,175,190,205,227,249,271,319,366,422,502,547,652,735,759,837,915,1002,1012,1070,1152,1159].map (fun i:Nat=>t.str s!"tree_{i}")++[39,46,1160].map (fun i:Nat=>t.str s!"heap_{i}")++[49,71,86,101,116,131,146,161,176,191,206,228,250,272,320,367,423,503,548,739,760,838,916,1003,1015,1071,1153].map (fun i:Nat=>t.str s!"sts_{i}")++[39].map (fun i:Nat=>t.str s!"view_{i}")++[41].map (fun i:Nat=>t.str s!"env_{i}")
 let r <- l.toArray.mapM fun n=>`(command| theorem $(mkIdent (.mkSimple s!"tw{n.hash}")) : True := ⟨⟩)
 return mkNullNode r
namespace PySem.W.Fast
#version
end PySem.W.Fast
namespace L2
open PySem PySem.Spec PyProof.Rows
noncomputable abbrev Key:=Sum Int Str
def Lw:Key->Value->Bool
 | .inl k,v=>ab7 k v| .inr x,v=>aci x v
def amC (w:aO):Key->Int
 | .inl k=>hashInt k| .inr x=>hashStr w x
theorem dX:∀ {k:Key} {v:Value},Lw k v=true->(∃ i t,k=oZ i/\v=qQ i t)∨(∃ x t,k=lW x/\v=xH x t)
 | .inl i,v,h=>by obtain⟨t,e⟩:=Value.isInt_shape (k:=i) (v:=v) h;exact .inl ⟨i,t,rfl,e⟩| .inr x,v,h=>by obtain⟨t,e⟩:=Value.isStrOf_shape (x:=x) (v:=v) h;exact .inr ⟨x,t,rfl,e⟩
theorem aaC (i:Int) (t:Tok):Lw (.inl i) (.int i t)=true:=by simp[Lw,ab7]
theorem aaB (x:Str) (t:Tok):Lw (.inr x) (.str x t)=true:=by simp[Lw,aci]
theorem aj6 (a b:Int):decide ((oZ a:Key)=oZ b)=(a==b):=by
 by_cases e:a=b
 .subst e;simp
 .have h:¬(oZ a:Key)=oZ b:=fun q=>e (Sum.inl.inj q)
  rw[decide_eq_false h];exact(beq_eq_false_iff_ne.mpr e).symm
theorem aj3 (a b:Str):decide ((lW a:Key)=lW b)=decide (a=b):=by
 by_cases e:a=b
 .subst e;simp
 .have h:¬(lW a:Key)=lW b:=fun q=>e (Sum.inr.inj q)
  rw[decide_eq_false h,decide_eq_false e]
theorem aj5 (a:Int) (b:Str):decide ((oZ a:Key)=lW b)=false:=decide_eq_false (fun q=>nomatch q)
theorem aj4 (a:Str) (b:Int):decide ((lW a:Key)=oZ b)=false:=decide_eq_false (fun q=>nomatch q)
def aN (prog:bN) (w:aO):PySem.KeyKind prog w Key where
 is:=Lw
 hash:=amC w
 inj:=fun v a b ha hb=>by
  rcases dX ha with⟨i,t,rfl,rfl⟩|⟨x,t,rfl,rfl⟩
  .rcases dX hb with⟨j,u,rfl,e⟩|⟨y,u,rfl,e⟩
   .injection e with e1 _;rw[e1]
   .exact nomatch e
  .rcases dX hb with⟨j,u,rfl,e⟩|⟨y,u,rfl,e⟩
   .exact nomatch e
   .injection e with e1 _;rw[e1]
 byValue:=fun k v h=>by rcases dX h with⟨i,t,rfl,rfl⟩|⟨x,t,rfl,rfl⟩<;>rfl
 pyHash:=fun hv h=>by
  rcases dX hv with⟨i,t,rfl,rfl⟩|⟨x,t,rfl,rfl⟩
  .exact wpAny_pyHash_int h
  .exact acQ h
 eqBool:=fun hu hv h=>by
  rcases dX hu with⟨i,t,rfl,rfl⟩|⟨x,t,rfl,rfl⟩
  .rcases dX hv with⟨j,u,rfl,rfl⟩|⟨y,u,rfl,rfl⟩
   .rw[aj6]at h;exact acP h
   .rw[aj5]at h;exact adh i t y u _ _ _ _ h
  .rcases dX hv with⟨j,u,rfl,rfl⟩|⟨y,u,rfl,rfl⟩
   .rw[aj4]at h;exact adg x t j u _ _ _ _ h
   .rw[aj3]at h;exact acO h
 «strs»:=fun k x t v h=>by
  rcases dX h with⟨i,u,rfl,e⟩|⟨y,u,rfl,e⟩
  .exact nomatch e
  .injection e with e1 _
   subst e1;cases v<;>rfl
theorem RP (prog:bN) (w:aO) (i:Int) (t:Tok):(aN prog w).is (.inl i) (.int i t)=true:=aaC i t
theorem El (prog:bN) (w:aO) (x:Str) (t:Tok):(aN prog w).is (.inr x) (.str x t)=true:=aaB x t
inductive V where
 |non|bl (b:Bool)|int (i:Int)|str (x:Str)|byt (b:Array UInt8)|flt (b:UInt64)|ref (a:Addr)|ty (n:String)
 deriving DecidableEq
structure Tab where
 q:Str
 ps:Array Value
instance:HAppend Tab (Array Value) Tab:=⟨fun t m=>⟨t.q,t.ps++m⟩⟩
inductive HO where
  |lst (xs:List V)
  |tup (xs:List V)
  |dK (kvs:List (Key×V))|dT (kvs:List (List Key×V))
  |set (S:Int->Bool) (n:Nat)
  |ins (C dx:Addr) (fs:List (Str×V))
  |own (x:Addr)
  |xd (fs:List (Str×V))
  |met (f x:Addr)
  |rng (lo hi:Int)
  |frz (o:Obj) (u:HO)
  |tbl (t:Tab)
  |ext (φ:aq->Prop)
noncomputable abbrev Hp:=Addr->Option HO
section
variable (P:bN) (w:aO)
end
section
variable {P:bN} {w:aO} {H H':Hp} {h h':aq} {a:Addr} {o:HO}
end
section
variable {P:bN} {w:aO} {H:Hp} {h h':aq} {x e:Addr} {o':HO}
end
section
variable {fs fs' ex ex':List Addr} {H H1 H2:Hp} {h h1 h2 h':aq} {a x e:Addr} {o:HO}
end
def sG (A:aP) (h:aq):Prop:=∀ v,A.handled=some v->∃ x o vs,v= .ref x/\h.get? x=some o/\o.data= .fields vs/\vs[2]?=some .none
section
variable {prog:bN} {w:aO} {A:aP} {E:Value->aj->Prop} {s:aj}
theorem KC:entryFor table "proto.unchain"=some qP.«proto.unchain»:=entryFor_of_tree (by kernel_rfl)
theorem abU {α:Type} {a:Addr} {o:Obj} {vs:Array Value} {Q:α->aj->Prop} (hh:sG A s.heap) (ho:s.heap.get? a=some o) (hd:o.data= .fields vs) (hz:2<vs.size)
  (hE:∀ h' o',h'.get? a=some o'->o'.cls=o.cls->VR a s.heap h'->E (.ref a) {s with heap:=h' }):ao (aU prog w) A (raiseNew (.ref a)) Q E s:=by
 obtain⟨oc,od,dt,sl⟩:=o;cases hd;unfold raiseNew;refine au (wpAny_handled ?_);cases q:A.handled with
 |none=>exact VD (hE s.heap _ ho rfl (ac4 ..))|some v=>
  obtain⟨x,ox,ws,rfl,hx,hxd,hx2⟩:=hh v q;show ao _ _ (if(o7 x !=o7 a)=true then _ else _) _ _ s;by_cases e:(o7 x !=o7 a)=true
  .rw[if_pos e]
   refine au (pQ (wpAny_runValue (vX KC ?_)));unfold qP.«proto.unchain»;refine au (nC hx hxd hx2 ?_);refine aG ?_;show ao _ _ (updateField a 2 (.ref x)>>=_) _ _ s;unfold updateField;refine au (au (wpAny_load ho ?_));show ao _ _ (if 2<vs.size then _ else _) _ _ s;rw[if_pos hz];refine wpAny_update ho (VD ?_);exact hE _ _ (Hj _ ho rfl) rfl (ajd ..)
  .rw[if_neg e]
   exact VD (hE s.heap _ ho rfl (ac4 ..))
theorem aac {α:Type} {it:Addr} {Q:α->aj->Prop} (hh:sG A s.heap) (k:∀ h' a o,h'.get? a=some o->o.cls= .type "StopIteration"->ab6 it s.heap h'->E (.ref a) {s with heap:=h' }):
  ao (aU prog w) A (do let e<-newExc (.type "StopIteration") [];raiseNew e) Q E s:=by
 refine au ?_;simp only[newExc,newTuple];refine au (wj (au (m:=firstArgMember _ _) (VB (a:=iR) (by first|rfl|(simp only[firstArgMember];rfl)) (wj ?_ (by size_fits)))) (by size_fits));refine abU (vs:=#[.ref s.heap.objs.size,.none,.none,.none,.bool false,.none]++ownMembersOf (.type "StopIteration") []) (fun v q=>?_) (iH _ rfl) rfl (by simp[ownMembersOf]) fun h' o' e1 e2 sb=>k _ _ _ e1 e2 fun b o hb e=>?_
 .obtain⟨x,o,vs,e,h1,h2,h3⟩:=hh v q
  exact⟨x,o,vs,e,eG _ (eG _ h1),h2,h3⟩
 .refine(sb.2 b ?_).trans (eG _ (eG _ e))
  have h2:(s.heap.push {cls:=.type "tuple",data:=.seq #[]}).objs.size=s.heap.objs.size+1:=by simp[Heap.push]
  have h3:s.heap.objs.size<=(s.heap.push {cls:=.type "tuple",data:=.seq #[]}).objs.size:=by lia
  rintro rfl;exact absurd (jT (eZ e) h3) (mG _)
theorem U9 {it:Addr} {x left c:Int} {Q:Option Value->aj->Prop} (hh:sG A s.heap) (hI:HJ s.heap it x left c) (z:left<=0) (k:∀ h',ab6 it s.heap h'->Q none {s with heap:=h' }):ao (aU prog w) A (lV (.ref it)) Q E s:=by have ty:s.TypeIs (.ref it) "range_iterator":=⟨_,hI,rfl⟩;unfold lV;refine au (wpAny_attempt (Iu (name:=aF "__next__") ty aeh (xX aeh ty F.entry_range_iterator_next ?_ (F.args_range_iterator_next_1 _))));refine(show ao _ _ (do let a<-field (.ref it) 0;_) _ _ s from au (nC hI rfl (x:=lU x) rfl ?_));refine(show ao _ _ (do let a<-field (.ref it) 1;_) _ _ s from au (nC hI rfl (x:=lU left) rfl ?_));refine(show ao _ _ (do let a<-field (.ref it) 2;_) _ _ s from au (nC hI rfl (x:=lU c) rfl ?_));show ao _ _ (ite (left<=0) _ _) _ _ s;rw[if_pos z];refine au (Cg (au (aac (it:=it) hh fun h' a o e1 e2 eb=>?_)));exact au (wpAny_isInstance (T:="StopIteration") (b:=true) ⟨_,e1,e2⟩ isSubtype_stop (aG (k _ eb)))
end
structure Mod (K:bV) (mg:Str->Option Value) (base:aq):Prop where
 kin:K.In base
 glob:base.Ns aQ mg
 blt:∃ mb,base.Ns Ny mb/\∀ x:Str,x≠"__name__"->mb x=Cm x
 nolimit:base.NoLimit
 anM:∃ mm,base.Ns qU mm
structure Cx where
 prog:bN
 w:aO
 K:bV
 mg:Str->Option Value
 base:aq
 A:aP
 N:List Str
 s₀:aj
 H₀:Hp
 env:Env
 outer:List Env
 stack:List Env
 ex:List Addr
 fn:Str->Bool
 calm:Bool
 pn:List (Addr×Obj)
 xe:Value->aj->Prop
def frs (l:List Env):List Addr:=l.filterMap (·.frame)
def vC (sc:Scope) (x:Str):Prop:=sc.names.lookup x=some .local∨sc.names.lookup x=some .cell∨sc.names.lookup x=some .free
def Loc (sc:Scope) (x:Str):Prop:=sc.names.lookup x=some .local∨sc.names.lookup x=some .cell
def Look (env:Env) (h:aq) (m:Str->Option Value) (x:Str) (u:Value):Prop:=
 (env.kindOf x=some .local/\m x=some u)∨((env.kindOf x=some .cell∨env.kindOf x=some .free)/\∃ c,env.cells.lookup x=some c/\h.IsCell c (some u))
section
variable {X:Cx} {pins:List (Addr×Obj)} {σ:List (Option V)} {H H':Hp} {s:aj} {h':aq}
theorem RD {N:List Str} (hN:N.Nodup) {i j:Nat} {x:Str} (a:N[i]?=some x) (b:N[j]?=some x):i=j:=by obtain⟨h1,e1⟩:=cj.mp a;obtain⟨h2,e2⟩:=cj.mp b;exact(List.getElem_inj hN).mp (e1.trans e2.symm)
end
noncomputable abbrev XK:=Value->Option Addr->Hp->Prop
noncomputable abbrev St:=List (Option V)
noncomputable abbrev VK:=V->Hp->Prop
noncomputable abbrev TE:=St->Hp->VK->Prop
noncomputable abbrev TT:=St->Hp->(Bool->Hp->Prop)->Prop
noncomputable abbrev TA:=St->Hp->(List V->Hp->Prop)->Prop
structure Ends where
 nx:St->Hp->Prop
 rt:VK
 bk:St->Hp->Prop:=fun _ _=>False
 ct:St->Hp->Prop:=fun _ _=>False
noncomputable abbrev TS:=Ends->St->Hp->Prop
theorem thn {α:Type} {t:Sem α} {Q Q':α->aj->Prop} {M:Model} {A:aP} {E:Value->aj->Prop} {s:aj} (h:ao M A t Q E s) (hQ:∀ a s,Q a s->Q' a s):ao M A t Q' E s:=j6 h hQ fun _ _ x=>x
section
variable {X:Cx}
variable {a b:Expr} {ta tb:TE} {pos:Pos}
variable {tA tB':TT} {rest:List Expr}
end
section
variable {X:Cx} {pins:List (Addr×Obj)} {σ:St} {H:Hp} {s:aj} {a:Addr} {xs ys:List V}
end
section
variable {X:Cx} {pins:List (Addr×Obj)} {σ:St} {H:Hp} {s:aj} {E:Value->aj->Prop}
end
section
variable {X:Cx} {st:Stmt} {rest:List Stmt} {t u:TS} {e:Expr} {te:TE} {pos:Pos}
end
section
variable {X:Cx} {pos:Pos}
end
section
variable {X:Cx} {pos:Pos}
end
theorem Aj {M:Model} {A:aP} {E:Value->aj->Prop} {s:aj} {tg:Expr} {it:Addr} {u:Value} {o:Obj} {n:String} {vs:Array Value} {Q:Unit->aj->Prop} (ho:s.heap.get? it=some o) (hc:o.cls= .type n) (hd:o.data= .fields vs)
    (hn:["enumerate","zip","dict_itemiterator","dict_reverseitemiterator","odict_iterator","itertools.zip_longest","itertools.pairwise"].contains n=false) (hQ:Q () s):ao M A (Ol tg (.ref it) u) Q E s:=by
  unfold Ol;cases tg<;>first
    |exact aG hQ
    |(cases u<;>first
        |exact aG hQ
        | (refine au (wpAny_load ho ?_)
           rw[hc,hd];show ao M A (if(["enumerate","zip","dict_itemiterator","dict_reverseitemiterator","odict_iterator","itertools.zip_longest","itertools.pairwise"].contains n&&vs[0]?==some (lU _))=true then _ else _) Q E s;rw[if_neg (by intro h;rw[hn,xQ]at h;cases h)];exact aG hQ))
section
variable {X:Cx} {tg:Expr}
end
section
variable {X:Cx} {a b c:Expr} {ta tb tc:TE} {pos:Pos}
end
section
variable {X:Cx} {a b c:Expr} {ta tb tc:TE} {pos:Pos}
end
structure QT (h:aq) (x dx C:Addr) (mA:Str->Option Value):Prop where
 obj:h.get? x=some (o9 C dx)
 ns:h.Ns1 dx mA
 ne:dx≠x
theorem aaA {h:aq} {dx:Addr} {mA:Str->Option Value} (n:h.Ns1 dx mA):∃ od,h.get? dx=some od/\∀ name,Oc name od=some (mA name):=by
 obtain⟨o,es,ep,ho,hd,hk,_,hm⟩:=n;refine⟨o,ho,fun name=>?_⟩;have e:=hm name;unfold nsFind findBy at e;rw[<-Array.find?_toList]at e;unfold Oc;rw[hd];dsimp only;split
 .rename_i y q
  rw[q]at e;exact congrArg some e
 .rename_i q
  rw[q]at e;have a:es.toList.any (·.refKey)=false:=by rw[List.any_eq_false];intro y hy;obtain⟨z,t,hkey⟩:=hk y (adF.mp hy);simp[DictEntry.refKey,hkey]
  have a':¬es.toList.any (·.refKey)=true:=by rw[a];exact fj
  rw[if_neg a'];exact congrArg some e
theorem QT.look {h:aq} {x dx C:Addr} {mA:Str->Option Value} (I:QT h x dx C mA):∃ od,PySem.W.InstAt h x (o9 C dx) C (some od)/\∀ name,Oc name od=some (mA name):=
 let⟨od,ho,hl⟩:=aaA I.ns
 ⟨od,⟨I.obj,rfl,rfl,ho⟩,hl⟩
section
variable {prog:bN} {w:aO} {A:aP} {E:Value->aj->Prop} {s:aj} {K:bV} {x dx C f:Addr} {mA:Str->Option Value} {name:Str} {v:Value}
theorem get_map {expr:Bool} {Q:Value->aj->Prop} (X:K.In s.heap) (I:QT s.heap x dx C mA) (hg:Ig K C name=true) (hh:Oz K C=true)
  (ha:oK K (.ref C) name=some none) (hv:mA name=some v) (hv':acN v=true) (h:Q v {s with toks:=s.toks+1}):
  ao (aU prog w) A (getAttr (.ref x) name expr) Q E s:=by
 obtain⟨od,J,hl⟩:=I.look;exact PySem.W.get_value X J (WY hg).1 (PySem.W.findObj_own hh ha rfl (by rw[hl,hv])) hv' h
theorem afl {pl:Sem Bool} {Q:Value×List Value->aj->Prop} (X:K.In s.heap) (I:QT s.heap x dx C mA) (hg:Ig K C name=true)
  (hf:oK K (.ref C) name=some (some (.ref f))) (ht:HW K (.ref f)=true) (hv:mA name=none) (h:Q (.ref f,[.ref x]) s):
  ao (aU prog w) A (getMethod (.ref x) name pl) Q E s:=by
 obtain⟨od,J,hl⟩:=I.look;exact PySem.W.method_fn X J (WY hg).1 (WY hg).2 hf (beq_iff_eq.mp ht) (by show(Oc name od).map (·.isSome)=some false;rw[hl,hv];rfl) h
theorem agB {ns:List Str} {Q:Unit->aj->Prop} (X:K.In s.heap) (I:QT s.heap x dx C mA)
  (hs:oK K (.ref C) "__setattr__"=some (some (.builtin "object.__setattr__"))) (hp:WQ K C=true) (ht:Wn K C name=some none) (hh:Oz K C=true)
  (hw:VP mA ns) (hsz:ns.length<=sizeLine)
  (h:∀ h',QT h' x dx C (fun y=>if y=name then some v else mA y)->VR dx s.heap h'->Q () {s with heap:=h',toks:=s.toks+2}):
  ao (aU prog w) A (setAttr (.ref x) name v) Q E s:=by
 obtain⟨od,J,hl⟩:=I.look;refine PySem.W.set_plain X J hs (PySem.W.osa_open (s:={s with toks:=s.toks+1}) (r:=none) X J hp ht fun b=>?_);obtain⟨cd,hc,hd'⟩:=PySem.W.any_some hh;have hx:s.heap.get? x=some ⟨.ref C,some dx,.plain,#[]⟩:=I.obj;refine au (aG (au (au (wpAny_loadPart hx (au (ajc (s:={s with toks:=s.toks+1}) (PySem.W.looks_clsIn X hc) ?_))))));rw[hd'];refine aG (a:=some dx) (au (aG (au ?_)));refine wpAny_nsSet1 (s:={s with toks:=s.toks+1}) I.ns fun h' hn2 hs2=>?_;obtain⟨oD,esD,epD,hoD,hdD,hcD⟩:=hn2.count (ai8 name v hw);refine au (wpAny_lookBehind hoD (by rw[hdD];exact pastItsLine_dict (jR hcD (by rw[bA];lia))) ?_);exact aG (h _ ⟨(hs2.2 _ (bK I.ne)).trans I.obj,hn2,I.ne⟩ hs2)
theorem aeV {R:xq->aj->Prop} {vs:List Value} {kw:List (Str×Value)} (X:K.In s.heap) (hm:Oj K C=true)
  (hi:oK K (.ref C) "__init__"=some (some (.ref f))) (hf:PySem.W.typeIn K (.ref f)=some (.type "function"))
  (h:ni (aU prog w) (A.under (.builtin "type.__call__" ⟨.ref C::vs,kw⟩)) (.call (.ref f) ⟨.ref (s.heap.objs.size+1)::vs,kw⟩) (PySem.W.InitBack (s.heap.objs.size+1) R)
   {s with heap:=(s.heap.push wg).push (o9 C s.heap.objs.size)}):
  ni (aU prog w) A (.call (.ref C) ⟨vs,kw⟩) R s:=by
 obtain⟨hh,g,d,t,os⟩:=s;exact PySem.W.make_core (PySem.W.makes_of X hm) (PySem.W.looks_findIn X hi) (fun self=>PySem.W.bind_fn X self hf) (.inl rfl) h
end
section
variable {P:bN} {w:aO} {H H':Hp} {h h':aq} {a C dx:Addr} {fs fs':List (Str×V)}
end
structure Cls (K:bV) (C:Addr):Prop where
 pg:Ig K C Str.empty=true
 hd:Oz K C=true
 po:WQ K C=true
 sa:oK K (.ref C) "__setattr__"=some (some (.builtin "object.__setattr__"))
theorem Cls.get {K:bV} {C:Addr} (c:Cls K C) (f:Str):Ig K C f=true:=c.pg
def iQ (K:bV) (C:Addr) (f:Str):Prop:=oK K (.ref C) f=some none
theorem iQ.taker {K:bV} {C:Addr} {f:Str} (n:iQ K C f):Wn K C f=some none:=by unfold Wn;rw[show oK K (.ref C) f=some none from n];rfl
structure Meth (K:bV) (C:Addr) (m:Str) (f:Addr):Prop where
 at_:oK K (.ref C) m=some (some (.ref f))
 fn:HW K (.ref f)=true
 kp:oJ K (.ref f)=true
section
variable {X:Cx} {pins:List (Addr×Obj)} {σ:St} {H:Hp} {s:aj} {a C dx:Addr} {fs:List (Str×V)} {f:Str} {v:V} {A:aP} {E:Value->aj->Prop}
theorem ahP {prog:bN} {w:aO} {env:Env} {e:Expr} {f:Str} {pos:Pos} {s:aj} {Q:Value->aj->Prop} (hb:V9 e f env (eval e env)=eval e env)
  (h:ao (aU prog w) A (eval e env) (fun o s₁=>ao (aU prog w) A (getAttr o f true) Q E s₁) E s):ao (aU prog w) A (eval (.Attribute e f pos) env) Q E s:=
 Attribute_any_ h (by rw[arm_eval_Attribute,hb])
end
section
variable {X:Cx} {o e value:Expr} {f:Str} {pos pos' tpos:Pos} {ta tv:TE}
end
section
variable {X:Cx} {pins:List (Addr×Obj)} {σ:St} {H:Hp} {s:aj} {A:aP} {E:Value->aj->Prop} {Q:Value->aj->Prop} {c:Value} {b:Bool}
end
structure cT (k:Nat) (A:aP):Prop where
 hd:16<=k->A.handled=none
 dp:A.depth+3*k+5<recursionLimit
 un:A.units+16*k+200<cLine
 gd:A.guards=some []
theorem cT.mono {j k:Nat} {A:aP} (r:cT k A) (h:j<=k):cT j A:=⟨fun z=>r.hd (jR z h),by have:=r.dp;lia,by have:=r.un;lia,r.gd⟩
theorem cT.deeper {k:Nat} {A:aP} (r:cT (k+1) A) (env:Env):cT k (A.deeper env):=
 ⟨fun z=>r.hd (Cy z),by have:=r.dp;show A.depth+1+3*k+5<_;lia,by have:=r.un;show A.units+3+16*k+200<_;lia,r.gd⟩
theorem Xy {A:aP} {C:Addr} {us:List Value} {kw:List (Str×Value)}:(A.under (.builtin "type.__call__" ⟨.ref C::us,kw⟩)).depth=A.depth+1:=by first|rfl|simp[VN,Code.weight,Code.isCreation,Code.isGuard,Code.isCaller,ab5,VL,guardIds]
theorem Xx {A:aP} {C:Addr} {us:List Value} {kw:List (Str×Value)}:(A.under (.builtin "type.__call__" ⟨.ref C::us,kw⟩)).units=A.units+1:=by first|rfl|simp[VN,Code.cUnits,ab5,VL]
theorem cT.make {k:Nat} {A:aP} (r:cT (k+1) A) (C:Addr) (us:List Value) (kw:List (Str×Value)):cT k (A.under (.builtin "type.__call__" ⟨.ref C::us,kw⟩)):=
 ⟨fun z=>r.hd (Cy z),by have:=r.dp;rw[Xy];lia,by have:=r.un;rw[Xx];lia,r.gd⟩
theorem cT.depth {k:Nat} {A:aP} (r:cT k A):A.depth<recursionLimit:=by have:=r.dp;lia
theorem cT.units {k:Nat} {A:aP} (r:cT k A):A.units+64<cLine:=by have:=r.un;lia
section
variable {X:Cx} {e:Expr} {es:List Expr} {te:TE} {t:TA} {pos:Pos}
end
noncomputable abbrev Sp:=List V->Hp->VK->XK->Prop
noncomputable abbrev CXT:=List Env->Hp->aj->XK->Value->aj->Prop
section
variable {X:Cx} {pins:List (Addr×Obj)} {σ:St} {H:Hp} {s s':aj}
end
section
variable {X:Cx} {CX:CXT} {k:Nat} {f C:Addr} {fd:d8} {ps:List Str} {sp:Sp} {dvs:List V} {ds:List Value} {E:XK} {x m:Str} {p pos apos:Pos} {e o:Expr} {es:List Expr} {ta:TE} {t:TA}
structure Mk (K:bV) (C f:Addr):Prop where
 makes:Oj K C=true
 init:oK K (.ref C) "__init__"=some (some (.ref f))
 fn:HW K (.ref f)=true
 kp:oJ K (.ref C)=true
end
section
variable {X:Cx} {CX:CXT} {k:Nat} {f C:Addr} {fd:d8} {ps ks:List Str} {sp:Sp} {E:XK} {x m:Str} {p pos apos kpos:Pos} {e o:Expr} {es:List Expr} {kws:List BW} {te ta:TE} {t tk:TA} {nm:Option Str}
variable {g:List Value->List Value->List Value} {gV:List V->List V->List V}
end
structure dY (N P:List Str) (sc:Scope):Prop where
 kind:sc.kind= .function
 co:sc.isCoroutine=false
 gen:sc.isGenerator=false
 nd:N.Nodup
 pre:N.take P.length=P
 par:∀ x∈P,sc.names.lookup x=some .local∨sc.names.lookup x=some .cell
 ajR:∀ y∈sc.names,y.2≠.free
theorem Ma {kindOf:Str->Option gJ} {x:Str}:∀ {binds:List (Str×Value)} {m:Str->Option Value},(∀ v,(x,v)∉binds)->tO kindOf binds m x=m x
 |[],_,_=>rfl|(n,v)::r,m,h=>by
  unfold tO;rw[Ma fun w hw=>h w (jU _ hw)];split
  .have:x≠n:=by rintro rfl;exact h v xZ
   simp[this]
  .rfl
theorem Mf {kindOf:Str->Option gJ} {x:Str}:∀ {binds:List (Str×Value)} {m:Str->Option Value},(∀ v,(x,v)∉binds)->bindC kindOf binds m x=m x
 |[],_,_=>rfl|(n,v)::r,m,h=>by
  unfold bindC;rw[Mf fun w hw=>h w (jU _ hw)];split
  .rfl
  .have:x≠n:=by rintro rfl;exact h v xZ
   simp[this]
theorem Dw {kindOf:Str->Option gJ} {x:Str} {v:Value}:∀ {P:List Str} {vs:List Value} {i:Nat} {m:Str->Option Value},P.Nodup->P[i]?=some x->vs[i]?=some v->kindOf x=some .local->
  tO kindOf (P.zip vs) m x=some v
 |[],_,_,_,_,h,_,_=>by simp at h|_::_,[],_,_,_,_,h,_=>by simp at h|p::P,w::vs,0,m,nd,h1,h2,hk=>by simp at h1 h2;subst h1;subst h2;show tO kindOf ((p,w)::P.zip vs) m p=_;unfold tO;rw[Ma fun v hv=>(Oi.mp nd).1 (Wm hv).1,if_pos hk];simp|p::P,w::vs,i+1,m,nd,h1,h2,hk=>by show tO kindOf ((p,w)::P.zip vs) m x=_;unfold tO;exact Dw (i:=i) (Oi.mp nd).2 (by simpa using h1) (by simpa using h2) hk
theorem Dy {kindOf:Str->Option gJ} {x:Str} {v:Value}:∀ {P:List Str} {vs:List Value} {i:Nat} {m:Str->Option Value},P.Nodup->P[i]?=some x->vs[i]?=some v->kindOf x≠some .local->
  bindC kindOf (P.zip vs) m x=some v
 |[],_,_,_,_,h,_,_=>by simp at h|_::_,[],_,_,_,_,h,_=>by simp at h|p::P,w::vs,0,m,nd,h1,h2,hk=>by simp at h1 h2;subst h1;subst h2;show bindC kindOf ((p,w)::P.zip vs) m p=_;unfold bindC;rw[Mf fun v hv=>(Oi.mp nd).1 (Wm hv).1,if_neg hk];simp|p::P,w::vs,i+1,m,nd,h1,h2,hk=>by show bindC kindOf ((p,w)::P.zip vs) m x=_;unfold bindC;exact Dy (i:=i) (Oi.mp nd).2 (by simpa using h1) (by simpa using h2) hk
theorem JX {sc:Scope} {n:Nat} {x:Str} (h:sc.names.lookup x=some .cell):∃ c,(je n sc.names []).lookup x=some c:=by have q:=adU sc.names n [] (.inl h);exact Ea.mp q
section
variable {X:Cx} {x:Str} {p pos:Pos} {e:Expr} {es:List Expr} {t:TA} {id T:String} {r:List V->Hp->VK->Prop}
end
end L2
namespace HT
open PySem PyProof.Rows
section
open PySem.SeqAt
open PySem.AutoSeq1 (wpAny_loadPart')
open PySem.MeetsSeq PySem.MeetsSeq2 PySem.MeetsSeq3
end
section
variable {prog:bN} {w:aO} {A:aP} {E:Value->aj->Prop} {s:aj}
def n7 (n d:Nat):Option Int->Nat
 |none=>d|some v=>if v<0 then(v+(n:Int)).toNat else min v.toNat n
theorem ai4 (n d:Nat) (hd:d<=n) (o:Option Int):n7 n d o<=n:=by
 cases o with
 |none=>exact hd|some v=>
  show(if v<0 then(v+(n:Int)).toNat else min v.toNat n)<=n;by_cases hv:v<0
  .rw[if_pos hv];lia
  .rw[if_neg hv];exact Nat.min_le_right _ _
theorem ZP (v:Int) (n d:Nat):(if v<0 then max (v+(n:Int)) 0 else min v (n:Int))=((n7 n d (some v):Nat):Int):=by
 show(if v<0 then max (v+(n:Int)) 0 else min v (n:Int))=(((if v<0 then(v+(n:Int)).toNat else min v.toNat n):Nat):Int);by_cases hv:v<0
 .simp only[if_pos hv];lia
 .simp only[if_neg hv];lia
theorem Yv (lo hi:Option Int) (n:Nat):Xe lo hi 1 (n:Int)=(((n7 n 0 lo:Nat):Int),((n7 n n hi:Nat):Int)):=by
 have h1:¬((1:Int)<0):=by lia
 unfold Xe;simp only[h1,if_false];refine Nr ?_ ?_
 .cases lo with|none=>rfl|some v=>exact ZP v n 0
 .cases hi with|none=>rfl|some v=>exact ZP v n n
theorem Xk (i j:Nat):Pk (i:Int) (j:Int) 1=j -i:=by
 unfold Pk;have h1:(1:Int)>0:=by lia
 simp only[h1,if_true,Int.ediv_one];split<;>lia
theorem G6 {v:Value} {o:Option Int} {Q:Option Int->aj->Prop} (p:j5 v o) (h:Q o s):ao (aU prog w) A (ajl v) Q E s:=by
 cases p with
 |none=>exact slicePart_none h|int i t=>exact slicePart_int h
theorem pL {sl:Addr} {vl vu:Value} {lo hi:Option Int} {n:Nat} {Q:Int×Int×Nat->aj->Prop} (hs:s.heap.IsSliceOf sl vl vu .none) (pl:j5 vl lo) (pu:j5 vu hi)
  (h:Q (((n7 n 0 lo:Nat):Int),1,n7 n n hi -n7 n 0 lo) s):ao (aU prog w) A (aeg (.ref sl) (pure (n:Int))) Q E s:=by
 obtain⟨os,hos,hcs,hds⟩:=id hs;unfold aeg ajj;refine au (au (nC hos hds (x:=vl) rfl (au (nC hos hds (x:=vu) rfl (au (nC hos hds (x:=.none) rfl (aG ?_)))))));refine au (slicePart_none ?_);show ao _ _ (if((1:Int)==0)=true then _ else _) _ _ s;rw[if_neg (by decide)];refine au (G6 pl (au (G6 pu (au (aG ?_)))));show ao _ _ (match Xe lo hi 1 (n:Int)with|(lo,hi)=>pure (lo,(1:Int),Pk lo hi 1)) _ _ s;rw[Yv lo hi n];show ao _ _ (pure (((n7 n 0 lo:Nat):Int),(1:Int),Pk ((n7 n 0 lo:Nat):Int) ((n7 n n hi:Nat):Int) 1)) _ _ s;rw[Xk];exact aG h
theorem aex (xs:Array Value) (i k:Nat):((aY k).filterMap fun(m:Nat)=>xs[((i:Int)+(m:Int)*1).toNat]?).toArray=((xs.toList.drop i).take k).toArray:=by
 have e:(fun(m:Nat)=>xs[((i:Int)+(m:Int)*1).toNat]?)=fun m=>xs[i+m]?:=by
  funext m;have:((i:Int)+(m:Int)*1).toNat=i+m:=by lia
  rw[this]
 rw[e];have:=pick_run xs i k;rw[List.filterMap_map]at this;have e2:((fun x=>xs[x]?) ∘ fun x=>i+x)=fun m=>xs[i+m]?:=rfl;rw[e2]at this;rw[this]
theorem Am {t sl:Addr} {items:Array Value} {vl vu:Value} {lo hi:Option Int} {Q:Value->aj->Prop} (ht:IsTup s.heap t items) (hs:s.heap.IsSliceOf sl vl vu .none) (pl:j5 vl lo) (pu:j5 vu hi)
  (hw:¬(n7 items.size 0 lo=0/\n7 items.size items.size hi=items.size))
  (h:Q (.ref s.heap.objs.size) {s with heap:=s.heap.push {cls:=.type "tuple",data:=.seq ((items.toList.drop (n7 items.size 0 lo)).take (n7 items.size items.size hi -n7 items.size 0 lo)).toArray}})
  (hsz:items.size<=sizeLine):ao (aU prog w) A (iM (.ref t) (.ref sl)) Q E s:=by
 have Zx:sizeOk (.seq ((items.toList.drop (n7 items.size 0 lo)).take (n7 items.size items.size hi -n7 items.size 0 lo)).toArray):=by show((items.toList.drop (n7 items.size 0 lo)).take (n7 items.size items.size hi -n7 items.size 0 lo)).toArray.size<=sizeLine;rw[cF,vY,Ie,Io];lia
 have hj:n7 items.size items.size hi<=items.size:=ai4 _ _ (aB _) hi;obtain⟨os,hos,hcs,hds⟩:=id hs;have hTs:s.TypeIs (.ref sl) "slice":=⟨os,hos,hcs⟩;unfold iM;try with_reducible refine pQ ?_
 first|refine au (aG ?_)|skip
 refine au (WM ht.typeIs (by decide) ?_);refine au (Iu (name:=aF "__getitem__") ht.typeIs Le
  (xX Le ht.typeIs ac5 ?_ (ac0 _ _)))
 show ao _ _ (aef (.ref t)>>=_) _ _ s;refine au (acu ht ?_);refine au (NT hTs ?_);rw[if_pos (by decide)];refine au (pL hs pl pu ?_);have hno:¬((((n7 items.size 0 lo:Nat):Int)==0&&(1:Int)==1&&(n7 items.size items.size hi -n7 items.size 0 lo)==items.size)=true):=by intro q;rw[bL,bL]at q;have q1:((n7 items.size 0 lo:Nat):Int)=0:=eq_of_beq q.1.1;have q2:n7 items.size items.size hi -n7 items.size 0 lo=items.size:=eq_of_beq q.2;exact hw ⟨by lia,by lia⟩
 show ao _ _ (if(((n7 items.size 0 lo:Nat):Int)==0&&(1:Int)==1&&(n7 items.size items.size hi -n7 items.size 0 lo)==items.size)=true then _ else _) _ _ s;rw[if_neg hno,aex];first
  |exact au (m:=Pj _) (wj (aG ⟨_,rfl,aG h⟩) Zx)
  |exact au (m:=Pj _) (wj (au (aG (aG ⟨_,rfl,aG h⟩))) Zx)
  |exact au (au (m:=Pj _) (wj (aG (aG ⟨_,rfl,aG h⟩)) Zx))
  |exact au (au (m:=Pj _) (wj (aG ⟨_,rfl,aG h⟩) Zx))
end
end HT
namespace L2
open PySem PySem.Spec PyProof.Rows
noncomputable abbrev TO:=St->Hp->(Option Int->Hp->Prop)->Prop
section
variable {X:Cx} {e:Expr} {te:TE} {lo hi:Option Expr} {tl th:TO} {pos p2:Pos}
end
def ixN (n:Nat) (i:Int):Option Nat:=if 0<=i then(if i<n then some i.toNat else none)else if -(n:Int)<=i then some (i+n).toNat else none
theorem ahk {n:Nat} {i:Int} {j:Nat} (h:ixN n i=some j):Vn i n=some j/\j<n/\-(n:Int)<=i/\i<n:=by
 unfold ixN at h;by_cases h0:0<=i
 .rw[if_pos h0]at h
  by_cases h1:i<n
  .rw[if_pos h1]at h
   have e:i.toNat=j:=cP h;exact⟨by rw[Vz h0 h1,e],by lia,by lia,h1⟩
  .rw[if_neg h1]at h;cases h
 .rw[if_neg h0]at h
  by_cases h1: -(n:Int)<=i
  .rw[if_pos h1]at h
   have e:(i+n).toNat=j:=cP h;exact⟨by rw[seqIndex_neg (by lia) h1,e],by lia,h1,by lia⟩
  .rw[if_neg h1]at h;cases h
section
variable {X:Cx} {a b:Expr} {ta tb:TE} {pos:Pos}
theorem MP (lo hi:Option Int) (n:Nat):(xK lo hi none n).1=((HT.n7 n 0 lo:Nat):Int)/\(xK lo hi none n).2.1=((HT.n7 n n hi:Nat):Int)/\(xK lo hi none n).2.2=1:=by
 refine⟨?_,?_,rfl⟩
 .cases lo with
  |none=>simp[xK,HT.n7]|some i=>
   simp only[xK,HT.n7,acM,show(1:Int)>0 by decide,if_true];by_cases h:i<0
   .simp only[h,if_true]<;>lia
   .simp only[h,if_false]<;>lia
 .cases hi with
  |none=>simp[xK,HT.n7]|some i=>
   simp only[xK,HT.n7,acM,show(1:Int)>0 by decide,if_true];by_cases h:i<0
   .simp only[h,if_true]<;>lia
   .simp only[h,if_false]<;>lia
theorem Ke (its:List Value) (lo hi:Option Int):slicePick its.toArray lo hi none=((its.drop (HT.n7 its.length 0 lo)).take (HT.n7 its.length its.length hi -HT.n7 its.length 0 lo)).toArray:=by obtain⟨h1,h2,h3⟩:=MP lo hi its.toArray.size;unfold slicePick;rw[h1,h2,h3];simp only[sliceRange_one,pick_run,cF]<;>rfl
variable {o e:Expr} {es:List Expr} {to:TE} {t:TA} {name:Str} {apos cpos:Pos} {T id:String} {r:V->List V->Hp->VK->Prop}
end
theorem X8 {α:Type} (l:List α):l.eraseIdx (l.length -1)=l.dropLast:=by
 induction l with
 |nil=>rfl|cons a r ih=>
  cases r with
  |nil=>rfl|cons b r=>
   have e:(a::b::r).length -1=((b::r).length -1)+1:=by have h1:(a::b::r).length=r.length+2:=rfl;have h2:(b::r).length=r.length+1:=rfl;lia
   rw[e,List.eraseIdx_cons_succ,ih];all_goals rfl
theorem Lr {α:Type}:∀ (l:List α) (i:Nat),(l.eraseIdx i).length<=l.length
 |[],_=>aB _|_::_,0=>xJ _|_::r,i+1=>acL (Lr r i)
section
variable {X:Cx} {pins:List (Addr×Obj)} {σ:St} {H:Hp} {s:aj} {l b:Addr} {xs ys zs:List V}
end
section
variable {X:Cx}
end
section
variable {prog:bN} {w:aO} {A:aP} {E:Value->aj->Prop} {s:aj}
end
section
variable {X:Cx}
end
end L2
namespace Att
open PySem PySem.W PySem.Calls PyProof.Rows
theorem Ft {P:Params} {h:aq}:∀ (ns:List Int) (vs:List Value),WellAll P h vs (ns.map abV)->qO vs ns:=by
 intro ns;induction ns with
 |nil=>intro vs w;rw[aV]at w;cases w;exact .nil
 |cons n ns ih=>
  intro vs w;rw[aX]at w;cases w with
  |cons a b=>cases a;exact .cons _ _ (ih _ b)
theorem aaf {l:M9} {n:Nat} (hn:l.most=some n) {P:Params} {h:aq} {args:List WData} {vals:List Value}
  (hpre:l.row.toRowW.claim.pre args=true) (hwl:WellAll P h vals args):
  ∃ a vs ns,vals=[o7 a]/\args=[WData.list (ns.map abV)]/\h.get? a=some {cls:=.type "list",data:=.seq vs.toArray}/\qO vs ns/\ns.length<=n:=by
 have hsh:WShape.hasAll [] args [.list .int]=true:=(pre_splitW hpre).1;have hc:l.pre.holds [] {args:=args}=true:=(pre_splitW hpre).2;obtain⟨d,r,rfl,h1,h2⟩:=hasAllW_cons hsh;obtain rfl:=hasAllW_nil h2;obtain⟨xs,rfl,h3⟩:=hasW_list h1;obtain⟨ns,rfl⟩:=items_int h3;have hlen:ns.length<=n:=by
  unfold OpenLaw.pre at hc;have h4:(WTm.not (.lt (.lit (.int (n:Int))) (.len (.arg 0)))).holds [] {args:=[.list (ns.map .int)]}=true:=by have h4:=(holds_andW hc).1;rw[hn]at h4;exact h4
  have h5:=condW_of h4 (w_not (w_lt w_lit (w_len_list (w_arg rfl))));rw[aR]at h5;refine Ib fun q=>?_;have q':(n:Int)<((ns.length:Nat):Int):=by lia
  first
   |(rw[decide_eq_true q']at h5;exact absurd h5 (by decide))
   |(simp at h5;lia)
 cases hwl with
 |cons w1 w2=>
  cases w2;cases w1 with
  |list ho hall=>exact⟨_,_,ns,rfl,rfl,ho,Ft ns _ hall,hlen⟩
theorem aaj (l:M9) (args:List WData):l.row.toRowW.claim.post args (.bool true) args=true:=
 postW_of (r:=l.row.toRowW) (X:=(true==true))
  (show abZ [] (.bool true) .bool=true by first|rfl|decide|simp[abZ,WShape.arms,WShape.armsAll])
  (show(WTm.eq .res (.lit (.bool true))).value [] {args:=args,res:=some (.bool true),after:=args}=some (.bool (true==true))from w_eq_bool (w_res rfl) w_lit) rfl
theorem T8 {l:M9} {n:Nat} {q:bN} {loose:List Str} {XP:(Str->Option Value)->aq->Prop} {YP:aO->aq->Prop} {d:DefRec}
  (hn:l.most=some n) (hdf:d.params.defaults=[])
  (call:∀ (w:aO) (s₀ s₁:aj) (mg mb:Str->Option Value) (fa:Addr) (o:Obj) (pm cd doc:Value) (a:Addr) (vs:List Value) (ns:List Int),
   Ground q loose [] XP w s₀ mg mb s₁.heap->YP w s₁.heap->
   s₁.heap.get? fa=some o->o.data= .func (docDef d.name d.params d.body d.scope pm cd doc)->s₁.heap.CodeRec cd d.name->mg d.name=some (.ref fa)->
   s₁.heap.get? a=some {cls:=.type "list",data:=.seq vs.toArray}->qO vs ns->ns.length<=n->s₁.gens= #[]->
   ni (aU l.prog w) callerA (.call (.ref fa) ⟨[.ref a],[]⟩) (fun r s'=>r= .ok (.ret (.bool true))/\OldK s₁.heap s'.heap/\s'.os=s₁.os/\Hx s'.gens) s₁):
  WalkO q loose XP YP l.row.toRowW d [] (fun f vs=>abY f vs):=by
 intro w s₀ s₁ mg mb G Y fa o pm cd doc dV kV ho hd hcd hD hmg hg args vals as hpre hlay hrd hwl hlo;obtain rfl:dV= .none:=Dflts.none hD hdf;obtain rfl:kV= .none:=Dflts.noKw hD;obtain⟨a,vs,ns,rfl,rfl,hobj,hints,hlen⟩:=aaf hn hpre hwl;refine enter_call (codeAny_mono (call w s₀ s₁ mg mb fa o pm cd doc a vs ns G Y ho (fd_plain hd) hcd hmg hobj hints hlen hg) fun r s' hq=>?_);obtain⟨rfl,h2,h3,h4⟩:=hq;exact⟨.inl ⟨.bool true,.bool true,[],rfl,fun _=>rfl,.bool true,aaj l _,fun _=>⟨ac3,fun _ hm=>(nomatch hm)⟩⟩,h2,h3,h4⟩
section
variable {prog:bN} {w:aO} {A:aP} {E:Value->aj->Prop} {s:aj} {K:bV}
end
end Att
namespace L2
open PySem PySem.Spec PyProof.Rows
noncomputable abbrev KOf {K:bV} {h:aq} (_:K.In h):bV:=K
def inClass (s:Stmt) (j:Nat):Stmt:=match s with| .ClassDef _ _ _ body _ _ _ _ _ _ _=>body.getD j (.Pass ⟨0,0,0,0⟩)|_=>.Pass ⟨0,0,0,0⟩
def fL (s:Stmt):Arguments:=match s with| .FunctionDef _ a _ _ _ _ _ _ _ _=>a|_=>{posonlyargs:=[],args:=[],vararg:=none,kwonlyargs:=[],kw_defaults:=[],kwarg:=none,defaults:=[]}
def bR (s:Stmt):List Stmt:=match s with| .FunctionDef _ _ b _ _ _ _ _ _ _=>b|_=>[]
def aH (s:Stmt):Scope:=match s with| .FunctionDef _ _ _ _ _ _ sc _ _ _=>sc|_=>{kind:=.function,names:=[],isGenerator:=false,isCoroutine:=false}
structure Yx (K:bV) (x qual:Str) (st:Stmt) (f:Addr) (fd:d8):Prop where
 ex:∃ (oc:Value) (od:Option Addr) (kV doc pm:Value) (an:Option Addr) (cdv ct:Value) (osl:Array (Option Value)),
  fd=m6 x qual (fL st) (bR st) (aH st) .none kV doc pm an cdv ct/\K.lookup f=some ⟨oc,od,.func fd,osl⟩/\H8 K cdv qual=true
 kp:oJ K (.ref f)=true
section
variable {P:bN} {w:aO} {K:bV} {mg:Str->Option Value} {base:aq}
theorem X5 {x qual:Str} {st:Stmt} {f:Addr} {oc:Value} {od an:Option Addr} {osl:Array (Option Value)} {kV doc pm cdv ct:Value} (l:K.lookup f=some ⟨oc,od,.func (m6 x qual (fL st) (bR st) (aH st) .none kV doc pm an cdv ct),osl⟩)
  (c:H8 K cdv qual=true) (k:oJ K (.ref f)=true):Yx K x qual st f (m6 x qual (fL st) (bR st) (aH st) .none kV doc pm an cdv ct):=⟨⟨oc,od,kV,doc,pm,an,cdv,ct,osl,rfl,l,c⟩,k⟩
end
section
variable {X:Cx}
end
section
variable {κ:Type} [DecidableEq κ]
end
section
variable {P:bN} {w:aO} {H:Hp} {h:aq} {a:Addr}
end
section
variable {X:Cx} {pins:List (Addr×Obj)} {σ:St} {H:Hp} {s:aj} {a:Addr} {y v:V} {u r:Value} {o:Option V} {A:aP} {E:Value->aj->Prop}
end
section
variable {X:Cx} {pins:List (Addr×Obj)} {σ:St} {H:Hp} {s:aj} {a:Addr} {kvs:List (Key×V)} {k:Key} {u:Value} {A:aP} {E:Value->aj->Prop}
end
def amW (i:Expr):Prop:=∀ ov iv,NP i false ov iv=operate [ov,iv] (iM ov iv)
theorem YM {prog:bN} {w:aO} {A:aP} {E:Value->aj->Prop} {s:aj} {env:Env} {value slice:Expr} {pos:Pos} {T id:String} {Q:Value->aj->Prop}
  (hl:Nx (.type T) "__getitem__"=pure (some (.builtin id))) (hs:amW slice)
  (h:ao (aU prog w) A (eval value env) (fun o s₁=>ao (aU prog w) A (eval slice env) (fun i s₂=>s₂.TypeIs o T/\ao (aU prog w) A (iM o i) Q E s₂) E s₁) E s):
  ao (aU prog w) A (eval (.Subscript value slice pos) env) Q E s:=by
 refine Vs (j6 h (fun o s₁ h₁=>j6 h₁ (fun i s₂ h₂=>?_) fun _ _ x=>x) fun _ _ x=>x);obtain⟨hT,h₂⟩:=h₂;unfold subscriptTail;refine au ?_;rw[getitemInPython_of_ne hT.not_modules];refine au (acC hT hl ?_);have fin:ao (aU prog w) A (NP slice false o i) (fun r s₃=>ao (aU prog w) A (letTemporaryGo value o r>>=fun _=>pure r) Q E s₃) E s₂:=by rw[hs o i];exact wpAny_operating (j6 h₂ (fun r s₃ h₃=>au (wpAny_letTemporaryGo (aG h₃))) fun _ _ x=>x)
 first
  |exact aG (au fin)
  |exact au (aG (au fin))
  |exact au fin
section
variable {X:Cx} {o i e value:Expr} {pos pos' tpos:Pos} {td ty tv:TE}
end
section
variable {X:Cx} {pos:Pos}
end
section
variable {X:Cx} {pins:List (Addr×Obj)} {σ:St} {H:Hp} {s:aj} {a:Addr} {y d:V} {u r:Value} {o:Option V} {A:aP} {E:Value->aj->Prop}
end
section
variable {X:Cx} {o e f:Expr} {apos cpos:Pos} {td ty tx:TE}
end
section
variable {X:Cx} {pins:List (Addr×Obj)} {σ:St} {H:Hp} {s:aj} {a:Addr} {kvs:List (Key×V)} {A:aP} {E:Value->aj->Prop}
end
section
variable {X:Cx} {pins:List (Addr×Obj)} {σ:St} {H:Hp} {s:aj} {a:Addr} {y:V} {u:Value} {A:aP} {E:Value->aj->Prop}
end
end L2
namespace DW
open PySem PySem.Spec PyProof.Rows PyProof.Rows.KTD L2
def qx (K:bV) (a:Addr):List (Str×Addr):=match K.lookup a with
 |some o=>(match o.data with
  | .dict es _=>es.toList.filterMap fun e=>(match e.key with| .str x _=>(match e.val with| .ref f=>some (x,f)|_=>none)|_=>none)
  |_=>[])
 |none=>[]
def amv (f:Addr) (v:Value):Bool:=v== .ref f
def JD (K:bV) (a:Addr):Bool:=tabLook amv (fun b=>K.lookup b) a (qx K a)&&(qx K a).all fun p=>oJ K (.ref p.2)
section
variable {prog:bN} {w:aO} {A:aP} {E:Value->aj->Prop} {s:aj} {K:bV} {a:Addr} {k:Str} {tk:Tok}
theorem Gn (h:JD K a=true) (X:K.In s.heap):TabOf (fun f v=>v=o7 f) s.heap a (qx K a):=
 tab_of_look (fun f v e=>eq_of_beq e) X (W2.mp h).1
theorem afE (h:JD K a=true) (hf:m9 k (qx K a)=some f):oJ K (.ref f)=true:=by
 have h2:=Ov.mp (W2.mp h).2;have:∀ {D:List (Str×Addr)},m9 k D=some f->∃ p∈D,p.2=f:=by
  intro D;induction D with
  |nil=>intro e;cases e
  |cons p D ih=>
   intro e;by_cases hx:k=p.1
   .simp[m9,hx]at e;exact⟨p,by simp,e⟩
   .simp[m9,hx]at e
    obtain⟨q,hq,e⟩:=ih e;exact⟨q,by simp[hq],e⟩
 obtain⟨p,hp,rfl⟩:=this hf;exact h2 p hp
theorem GQ (T:TabOf R s.heap a D):s.TypeIs (.ref a) "dict":=by obtain⟨_,o,_,_,ho,hc,_⟩:=T;exact⟨o,ho,hc.1⟩
theorem YL (T:TabOf R s.heap a D) (h1:∀ d v,m9 k D=some d->R d v->Q (some v) {s with toks:=s.toks+1})
  (h2:m9 k D=none->Q none {s with toks:=s.toks+1}):ao (aU prog w) A (Ni a (.str k tk)) Q E s:=by
 obtain⟨_,o,⟨l⟩,ep,ho,hc,hd,hr⟩:=T;unfold Ni;refine pQ (au (acQ (au (kt_dictFind_strs (s:={s with toks:=s.toks+1}) ho hd (by simpa using hr.exact) ?_))));have hq:Q (findBy (fun k v=>v.isStr k) ⟨l⟩ k) {s with toks:=s.toks+1}:=by
  rw[show findBy (fun k v=>v.isStr k) ⟨l⟩ k=(l.find? fun e=>e.key.isStr k).map (·.val) by simp[findBy]]
  cases e:m9 k D with
  |some d=>obtain⟨v,hv,hf⟩:=hr.find_some e;rw[hv];exact h1 d v e hf|none=>rw[hr.find_none e];exact h2 e
 rw[findBy_of_findIdx?]at hq;cases hi:(⟨l⟩:Array Vm).findIdx? fun e=>e.key.isStr k with
 |none=>rw[hi]at hq;exact aG hq|some i=>rw[hi]at hq;exact au (ac2 (s:={s with toks:=s.toks+1}) ho hd (aG hq))
theorem abE (T:TabOf R s.heap a D) (hd:m9 k D=some d) (h:∀ v,R d v->Q v {s with toks:=s.toks+1}):
  ao (aU prog w) A (iM (.ref a) (.str k tk)) Q E s:=by
 have hT:=GQ T;unfold iM;refine pQ (au (WM hT (by decide) (au (Iu (name:=aF "__getitem__") hT Oa (xX Oa hT entry_dict_getitem ?_ (args_dict_getitem _ _))))));show ao _ _ (Ni a (.str k tk)>>=_) _ _ s;refine au (YL T (fun d' v e hv=>aG ⟨v,rfl,aG ?_⟩) fun hn=>absurd (hd.symm.trans hn) (by simp));rw[hd]at e;cases e;exact h v hv
theorem abF (T:TabOf R s.heap a D) (h:Q (.bool (inKeys k D)) {s with toks:=s.toks+1}):
  ao (aU prog w) A (jy .In (.str k tk) (.ref a)) Q E s:=by
 have hT:=GQ T;show ao _ _ (do return .bool (<-contains (.ref a) (.str k tk))) Q E s;unfold contains;refine au (pQ (au (acC hT W0.lookup ?_)));show ao _ _ (if(some (Value.builtin "dict.__contains__")==some iR)=true then _ else _) _ E s;rw[if_neg (by rw[beq_builtin_none];exact fj)];refine au (wpAny_callSpecialUnlessNone?_slot (name:=aF "__contains__") hT W0 (xX W0 hT entry_dict_contains ?_ (args_dict_contains _ _)));show ao _ _ (Ni a (.str k tk)>>=_) _ _ s;refine au (YL T (fun d v e _=>?_) fun hn=>?_)
 .rw[show inKeys k D=true by rw[<-Vt,e];rfl]at h
  exact aG ⟨_,rfl,m7 (aG h)⟩
 .rw[show inKeys k D=false by rw[<-Vt,hn];rfl]at h
  show ao _ _ (ajh a (.str k tk)>>=_) _ _ _;exact au (wpAny_pendingKey_other T.1 (aG ⟨_,rfl,m7 (aG h)⟩))
end
theorem rC:∀ {D:List (Str×Addr)},inKeys k D=(D.map fun p=>p.1.cps.toList).contains k.cps.toList
 |[]=>rfl|p::D=>by
  show(decide (k=p.1)||inKeys k D)=_;rw[rC,aX,List.contains_cons];congr 1;by_cases h:k=p.1
  .subst h;simp
  .have:¬k.cps.toList=p.1.cps.toList:=fun e=>h (by obtain⟨⟨a⟩⟩:=k;obtain⟨⟨b⟩,d⟩:=p;simp at e;subst e;rfl)
   simp[h];exact fun e=>this (by rw[e])
section
variable {X:Cx} {x:Str} {a:Addr} {i:Expr} {p pos:Pos} {ti:TE}
end
end DW
namespace DW
open PySem PySem.Spec PyProof.Rows L2
def TrX (B:aq) (e:Addr) (ob:Obj) (vs:Array Value) (fl:Value) (h:aq):Prop:=
 ∃ T oT ts,h.get? e=some {ob with data:=.fields (vs.setIfInBounds 1 (.ref T))}/\B.get? T=none/\T≠e/\h.get? T=some oT/\oT.data= .fields ts/\ts[3]?=some fl
structure J8 (B:aq) (l:List Env) (e:Addr) (ob:Obj) (vs:Array Value) (fl:Value) (h:aq):Prop where
 stay:B.StaysIn h
 new:B.get? e=none
 akn:h.FunFrames B l
 tr:TrX B e ob vs fl h
 two:2<vs.size
theorem BJ {h:aq} {b e:Addr} {o oe:Obj} {vs:Array Value} (hb:h.get? b=some o) (hn:∀ vs,o.data≠.fields vs) (he:h.get? e=some oe) (hd:oe.data= .fields vs):b≠e:=fun z=>by subst z;rw[hb]at he;cases he;exact hn vs hd
theorem Xl {B:aq} {b e:Addr} {o:Obj} (hb:B.get? b=some o) (he:B.get? e=none):b≠e:=fun z=>by subst z;rw[hb]at he;cases he
section
variable {M:Model} {A:aP} {E:Value->aj->Prop} {s:aj} {B:aq} {env:Env} {outer:List Env} {L e:Addr} {ob:Obj} {ws vs:Array Value} {Q:Unit->aj->Prop}
theorem iV {h:aq} {a:Addr} {f:Obj->Obj}:∀ b,b≠a->(h.update a f).get? b=h.get? b:=fun b hb=>m8 _ _ (bK hb)
theorem ZJ {hd:Value} {hn:Bool} (fr:A.frames=some (env::outer)) (F:s.heap.FunFrames B (env::outer)) (hf:env.frame=some L) (he:s.heap.get? e=some {ob with data:=.fields ws}) (st:B.StaysIn s.heap) (new:B.get? e=none)
  (z:2<ws.size) (k:∀ h',J8 B (env::outer) e ob ws (lU L) h'->s.heap.UpToSlots h'->Q () {s with heap:=h' }):
  ao M A (do let a<-frameOf env;let pl<-entryPlaceOf L hn;let b<-adz hd a .none (lU L) .none pl;setField (.ref e) 1 b) Q E s:=by
 have eo:e∉(env::outer).filterMap (·.frame):=fun m=>let⟨_,o,ho,nf⟩:=F.mem m;by rw[he]at ho;cases ho;exact nf ws rfl
 refine au (wpAny_frameOf_fun fr F hf fun g1 sl1=>au (wpAny_entryPlaceOf fun pl ip=>?_));unfold adz newFields;refine au (wj ?_ (ip.sizeOk5 _ _ _ _ _));have e1:g1.get? e=some {ob with data:=.fields ws}:=by rw[sl1.2.1 e eo];exact he
 have st1:B.StaysIn g1:=fun b o q=>by rw[sl1.2.1 b fun m=>(by rw[(F.mem m).1]at q;cases q)];exact st b o q
 generalize hN:({cls:=.type "traceback",dict:=none,data:=.fields ([hd,.ref L,.none,lU L,.none]++(if pl.isEmpty then bD 6 iR else pl)).toArray}:Obj)=N;have dN:N.data= .fields ([hd,.ref L,.none,lU L,.none]++(if pl.isEmpty then bD 6 iR else pl)).toArray:=by rw[<-hN]
 have nN:N.isFreed=false:=by rw[<-hN];rfl
 have lt:=eZ e1;have Te:g1.objs.size≠e:=tY lt;refine Wh (eG (h:=g1) N e1) rfl (by lia) (k _ ⟨?_,new,?_,?_,z⟩ ?_)
 .intro b o q
  rw[iV b (Xl q new)];exact eG _ (st1 b o q)
 .refine F.of_keeps fun b o hb nf=>?_
  obtain⟨sl,q⟩:=sl1.2.2 b o hb;exact⟨{o with slots:=sl},by rw[iV b (BJ hb nf he rfl)];exact eG _ q,rfl⟩
 .refine⟨g1.objs.size,N,_,Hj _ (eG (h:=g1) N e1) rfl,st1.fresh,Te,?_,dN,?_⟩
  .rw[iV _ Te];exact iH g1 nN
  .rcases ip with rfl|⟨_,_,_,_,_,_,_,rfl⟩<;>simp
 .intro b o hb nf
  obtain⟨sl,q⟩:=sl1.2.2 b o hb;exact⟨sl,by rw[iV b (BJ hb nf he rfl)];exact eG _ q⟩
theorem abN (z:2<ws.size):(ws.setIfInBounds 1 x)[1]?=some x:=by rw[Array.getElem?_setIfInBounds];simp;lia
theorem set_same:(ws.setIfInBounds 1 x).setIfInBounds 1 y=ws.setIfInBounds 1 y:=by simp
theorem ajQ (fr:A.frames=some (env::outer)) (F:s.heap.FunFrames B (env::outer)) (hf:env.frame=some L) (he:s.heap.get? e=some {ob with data:=.fields ws}) (st:B.StaysIn s.heap) (new:B.get? e=none) (z:2<ws.size)
  (h1:ws[1]?=some .none∨∃ T oT ts,ws[1]?=some (.ref T)/\B.get? T=none/\T≠e/\s.heap.get? T=some oT/\oT.data= .fields ts/\ts[3]?=some .none)
  (k:∀ h',J8 B (env::outer) e ob ws (lU L) h'->s.heap.UpToSlots h'->Q () {s with heap:=h' }):ao M A (noteFrame (.ref e) env) Q E s:=by
 unfold noteFrame;simp only[hf];rcases h1 with h1|⟨T,oT,ts,h1,nT,ne,hT,dT,h3⟩
 .refine au (nC he rfl h1 ?_)
  rw[if_neg (by decide)];exact ZJ fr F hf he st new z k
 .refine au (nC he rfl h1 ?_)
  rw[if_pos (by simp:(o7 T !=iR)=true)];refine au (nC hT dT h3 ?_);rw[if_neg (by simp[lU]:¬(iR==lU L)=true)];refine au (Wh hT dT (aee.mp h3).1 ?_);refine ZJ (s:={s with heap:=s.heap.update T _}) fr (F.of_keeps fun b o hb nf=>⟨o,by rw[iV b (BJ hb nf hT dT)];exact hb,rfl⟩) hf (by rw[iV e (bK ne)];exact he) (fun b o q=>by rw[iV b (Xl q nT)];exact st b o q) new z fun h' x u=>k h' x ?_;intro b o hb nf;exact u b o (by rw[iV b (BJ hb nf hT dT)];exact hb) nf
theorem ajZ {l:List Env} {fl:Value} (x:J8 B l e ob vs fl s.heap) (k:∀ h',J8 B l e ob vs .none h'->s.heap.UpToSlots h'->Q () {s with heap:=h' }):ao M A (setFlight (.ref e) none) Q E s:=by obtain⟨st,new,F,⟨T,oT,ts,he,nT,ne,hT,dT,h3⟩,z⟩:=x;unfold setFlight;have z3:=(aee.mp h3).1;refine au (nC he rfl (x:=.ref T) (abN z) ?_);rw[if_pos (by simp:(o7 T !=iR)=true)];obtain⟨c,d,dt,sl⟩:=oT;cases dT;refine Wh hT rfl z3 (k _ ⟨fun b o q=>by rw[iV b (Xl q nT)];exact st b o q,new,F.of_keeps fun b o hb nf=>⟨o,by rw[iV b (BJ hb nf hT rfl)];exact hb,rfl⟩,⟨T,_,_,by rw[iV e (bK ne)];exact he,nT,ne,Hj _ hT rfl,rfl,by simp[z3]⟩,z⟩ fun b o hb nf=>⟨o.slots,by rw[iV b (BJ hb nf hT rfl)];exact hb⟩)
theorem ahb (fr:A.frames=some (env::outer)) (F:s.heap.FunFrames B (env::outer)) (hf:env.frame=some L) (he:s.heap.get? e=some {ob with data:=.fields ws}) (st:B.StaysIn s.heap) (new:B.get? e=none) (z:2<ws.size)
  (h1:ws[1]?=some .none∨∃ T oT ts,ws[1]?=some (.ref T)/\B.get? T=none/\T≠e/\s.heap.get? T=some oT/\oT.data= .fields ts/\ts[3]?=some .none)
  (k:∀ h',J8 B outer e ob ws .none h'->s.heap.UpToSlots h'->Q () {s with heap:=h' }):ao M A (Nh env (.ref e)) Q E s:=by
 unfold Nh;refine au (ajQ fr F hf he st new z h1 fun h' x u=>ajZ (s:={s with heap:=h' }) x fun h2 y v=>k h2 ⟨y.stay,y.new,?_,y.tr,y.two⟩ (u.trans v));obtain⟨_,_,q⟩:=y.akn;exact q
theorem TrX.re (y:TrX B e ob (vs.setIfInBounds 1 x) fl h):TrX B e ob vs fl h:=by obtain⟨T,oT,ts,he,r⟩:=y;rw[set_same]at he;exact⟨T,oT,ts,he,r⟩
theorem J8.re (y:J8 B l e ob (vs.setIfInBounds 1 x) fl h):J8 B l e ob vs fl h:=⟨y.stay,y.new,y.akn,y.tr.re,by have:=y.two;simpa using this⟩
theorem aeY (fr:A.frames=some (env::outer)) (hf:env.frame=some L) (x:J8 B (env::outer) e ob vs .none s.heap) (k:∀ h',J8 B outer e ob vs .none h'->s.heap.UpToSlots h'->Q () {s with heap:=h' }):
  ao M A (Nh env (.ref e)) Q E s:=by
 obtain⟨T,oT,ts,he,r⟩:=x.tr;have z:=x.two;exact ahb fr x.akn hf he x.stay x.new (by simpa using z) (.inr ⟨T,oT,ts,abN z,r⟩) fun h' y u=>k h' y.re u
end
end DW
namespace DW
open PySem PySem.StrLaws PySem.Builtin PySem.Builtin.Str
def cO (c:Nat):List Nat->List (List Nat)
 |[]=>[[]]|x::xs=>if x=c then []::cO c xs else match cO c xs with|p::ps=>(x::p)::ps|[]=>[[x]]
def Kf (c:Nat) (x:List Nat):List Nat:=x.takeWhile (·!=c)
def postC (c:Nat) (x:List Nat):List Nat:=(x.dropWhile (·!=c)).drop 1
def dJ (sep:List Nat):List (List Nat)->List Nat
 |[]=>[]|[x]=>x|x::y::r=>x++sep++dJ sep (y::r)
def QV (x:List Nat) (c:Nat) (l:List Nat):List Nat:=l.filter fun i=>x[i]?==some c
theorem IV (x:Str) (c limit:Nat):∀ (l:List Nat) (st:Array Nat×Nat),l.Pairwise (·<·)->(∀ i∈l,st.2<=i)->st.1.size+l.length<=limit->
  (forIn l st (occBody x ⟨#[c]⟩ x.length limit)).run.fst.toList=st.1.toList++QV x.cps.toList c l
 |[],st,_,_,_=>by simp[QV]|a::l,st,hp,hf,hl=>by
  rw[Oh];unfold occBody;simp only[xY]at hp;have h1:=H9 x c a;by_cases hc:x.cps.toList[a]?=some c
  .have h2:=h1.mpr hc
   have c1:((st.fst.size<limit/\st.snd<=a)/\a+(⟨#[c]⟩:Str).length<=x.length)/\subAt x ⟨#[c]⟩ a=true:=⟨⟨⟨by simp at hl;lia,hf a (by simp)⟩,h2.1⟩,h2.2⟩;rw[if_pos c1];have ih:=IV x c limit l (st.fst.push a,a+(⟨#[c]⟩:Str).length) hp.2 (fun i hi=>by have:=hp.1 i hi;show a+1<=i;lia) (by simp at hl ⊢;lia);refine ih.trans ?_;(have hb:(x.cps.toList[a]?==some c)=true:=by rw[hc];simp);unfold QV;rw[Ia,if_pos hb];simp only[Array.toList_push,rR,bh,aM]
  .have c2:¬(((st.fst.size<limit/\st.snd<=a)/\a+(⟨#[c]⟩:Str).length<=x.length)/\subAt x ⟨#[c]⟩ a=true):=fun h=>hc (h1.mp ⟨h.1.2,h.2⟩)
   rw[if_neg c2];have ih:=IV x c limit l (st.fst,st.snd) hp.2 (fun i hi=>hf i (by simp[hi])) (by simp at hl ⊢;lia);refine ih.trans ?_;have hb:¬(x.cps.toList[a]?==some c)=true:=fun z=>hc (by simpa only[beq_iff_eq]using z);unfold QV;rw[Ia,if_neg hb]
theorem Y9 (x:Str) (c:Nat):HF x ⟨#[c]⟩ 0 x.length (x.length+1)=QV x.cps.toList c (fP 0 (x.length+1)):=by rw[occ_eq];have:=IV x c (x.length+1) (fP 0 (x.length+1 -0)) (#[],0) (List.pairwise_lt_range' (s:=0) (n:=x.length+1 -0)) (fun _ _=>ju _) (by simp);rw[this];simp
theorem wV (x:Str) (i j:Nat):(xg x i j).cps.toList=(x.cps.toList.drop i).take (j -i):=Wi x i j
def FN (s:Str):List Nat:=s.cps.toList
theorem Ec (x:Str) (c:Nat):∀ (n a:Nat),a+n=x.cps.toList.length->(Hy x 1 a (QV x.cps.toList c (fP a (n+1)))).map FN=cO c (x.cps.toList.drop a)
 |0,a,h=>by
  have hd:x.cps.toList.drop a=[]:=Hl (by lia);have hn:x.cps.toList[a]?=none:=O8 (by lia);have e:QV x.cps.toList c (fP a (0+1))=[]:=by unfold QV;rw[Cu,Ia,hn];rfl
  rw[e,hd];simp only[Hy,aX,aV,FN,wV,hd,cO];simp
 |n+1,a,h=>by
  have ha:a<x.cps.toList.length:=by lia
  have hdr:x.cps.toList.drop a=x.cps.toList[a]::x.cps.toList.drop (a+1):=Ho ha;have ih:=Ec x c n (a+1) (by lia);have hg:x.cps.toList[a]?=some x.cps.toList[a]:=dw ha;rw[Cu];by_cases hc:x.cps.toList[a]=c
  .have e:QV x.cps.toList c (a::fP (a+1) (n+1))=a::QV x.cps.toList c (fP (a+1) (n+1)):=by unfold QV;rw[Ia,hg,hc];simp
   rw[e,hdr];simp only[Hy,aX,ih,cO,hc,if_true,FN,wV];simp
  .have e:QV x.cps.toList c (a::fP (a+1) (n+1))=QV x.cps.toList c (fP (a+1) (n+1)):=by unfold QV;rw[Ia,hg,if_neg (by simpa only[beq_iff_eq,pU]using hc)]
   rw[e,hdr];simp only[cO,hc,if_false];have hin:∀ k∈QV x.cps.toList c (fP (a+1) (n+1)),a+1<=k:=fun k hk=>by have:=(Cr.mp hk).1;simp[acB]at this;lia
   generalize QV x.cps.toList c (fP (a+1) (n+1))=cuts at ih hin;have key:∀ j:Nat,a+1<=j->FN (xg x a j)=x.cps.toList[a]::FN (xg x (a+1) j):=fun j hj=>by simp only[FN,wV,hdr];rw[show j -a=(j -(a+1))+1 by lia,ady]
   (have hl:x.length=x.cps.toList.length:=by simp[eE]);cases cuts with
   |nil=>simp only[Hy,aX,aV]at ih ⊢;rw[<-ih,key _ (by lia)]|cons k r=>simp only[Hy,aX]at ih ⊢;rw[<-ih,key _ (hin k (by simp))]
theorem Rk (x:Str) (c:Nat):(partsBetween x (HF x ⟨#[c]⟩ 0 x.length (x.length+1)) (⟨#[c]⟩:Str).length).map FN=cO c (FN x):=by rw[partsBetween_eq,Y9];have:=Ec x c x.length 0 (by simp[eE]);simpa[eE,FN]using this
theorem u5:∀ {x:List Nat},c∉x->cO c x=[x]
 |[],_=>rfl|a::x,h=>by simp only[bC,not_or]at h;unfold cO;rw[if_neg (bK h.1),u5 h.2]
theorem qJ:∀ {x:List Nat},c∉x->cO c (x++c::y)=x::cO c y
 |[],_=>by show(if c=c then _ else _)=_;rw[if_pos rfl]|a::x,h=>by simp only[bC,not_or]at h;have ih:=qJ (y:=y) h.2;show(if a=c then []::cO c (x++c::y)else match cO c (x++c::y)with|p::ps=>(a::p)::ps|[]=>[[a]])=_;rw[if_neg (bK h.1),ih]
theorem GZ:∀ {ws:List (List Nat)},ws≠[]->(∀ w∈ws,c∉w)->cO c (dJ [c] ws)=ws
 |[],h,_=>absurd rfl h|[w],_,h=>u5 (h w (by simp))|w::v::r,_,h=>by show cO c (w++[c]++dJ [c] (v::r))=_;rw[rR];show cO c (w++c::dJ [c] (v::r))=_;rw[qJ (h w (by simp)),GZ (by simp) fun u hu=>h u (by simp[hu])]
theorem G3 (c:Nat):∀ x:List Nat,(cO c x).length<=x.length+1
 |[]=>by simp[cO]|a::x=>by
  have:=G3 c x;unfold cO;split
  .simp;lia
  .cases q:cO c x with|nil=>simp|cons p ps=>rw[q]at this;simp at this ⊢;lia
theorem Y4:∀ {x:List Nat},c∉x->Kf c (x++c::y)=x/\postC c (x++c::y)=y
 |[],_=>by simp[Kf,postC]|a::x,h=>by
  simp only[bC,not_or]at h;have:(a !=c)=true:=by simpa using bK h.1
  obtain⟨h1,h2⟩:=Y4 (y:=y) h.2;unfold Kf postC at*;rw[bh,adx,if_pos this,adw,if_pos this];exact⟨by rw[h1],h2⟩
theorem aev:∀ (x:List Nat) (i:Nat),x[i]?=some c->(∀ k,k<i->x[k]?≠some c)->Kf c x=x.take i/\postC c x=x.drop (i+1)
 |[],i,h,_=>by simp at h|a::x,0,h,_=>by
  have:a=c:=by simpa using h
  subst this;simp[Kf,postC]
 |a::x,i+1,h,hn=>by
  have h0:a≠c:=by have:=hn 0 (by lia);simpa using this
  have:(a !=c)=true:=by simpa using h0
  obtain⟨h1,h2⟩:=aev x i (by simpa using h) (fun k hk=>by have:=hn (k+1) (by lia);simpa using this);unfold Kf postC at*;rw[adx,if_pos this,adw,if_pos this,h1,h2];exact⟨rfl,rfl⟩
theorem Sq (sep:Str):∀ ws:List Str,FN (Vf sep ws)=dJ (FN sep) (ws.map FN)
 |[]=>rfl|[w]=>rfl|w::v::r=>by have ih:=Sq sep (v::r);have:Vf sep (w::v::r)=w++sep++Vf sep (v::r):=rfl;rw[this];simp only[aX,dJ]at ih ⊢;rw[<-ih];simp[FN,show ∀ a b:Str,(a++b).cps=a.cps++b.cps from fun _ _=>rfl]
end DW
namespace DW
open PySem
noncomputable abbrev iU:=Sum Int (List Nat)
inductive D where
 |non|bl (b:Bool)|int (i:Int)|str (x:List Nat)
 |tup (ds:List D)|lst (ds:List D)|ro (ds:List D)|loc (n:Nat)|jN (ks:List iU) (ds:List D)
inductive Cell where
 |lst (ds:List D)|ins (c:String) (fs:List (String×D))|jN (ks:List iU) (ds:List D)|Fx (ks:List (List iU)) (ds:List D)|exc (c:String) (ks:List String) (ds:List D)|gone|tbl
noncomputable abbrev Mem:=List Cell
noncomputable abbrev dD:=List (Option D)
noncomputable abbrev QD:=D->Mem->Prop
noncomputable abbrev dh:=List D->Mem->QD->Prop
noncomputable abbrev QX:=String->List String->List D->Mem->Prop
noncomputable abbrev rH:=List D->Mem->QD->QX->Prop
set_option genInjectivity false
mutual
inductive E where
 |var (i:Nat)|cst (d:D)|gbl (x:Str) (d:D)
 |bin (op:jx) (a b:E)|neg (a:E)|not (a:E)
 |cmp (op:iK) (a b:E)|QC (neg:Bool) (a b:E)|chain (p q:iK) (a b c:E)
 |and (a b:E)|or (a b:E)|ife (c a b:E)
 |call (x:Str) (sp:dh) (as:Es)|blt (x:String) (as:Es)|aaZ (x:String) (a b:E)
 |isin (a:E) (t:String) (ks:Option (List (List Nat)):=none)
 |meth (m:String) (o:E) (as:Es)|Rj (m:String) (o:E) (as:Es)|rmv (o:E) (as:Es)|aaH (as:Es)|dd3 (k1 k2 k3:List Nat) (a b e:E)
 |idx (a b:E)|slc (m:Bool) (a:E) (lo hi:Es)
 |tup (as:Es)|lst (m:Bool) (as:Es)
 |comp (m:Bool) (tg:Nat) (tt:Bool) (cap:List Nat) (elt:E) (it:It) (cond:Es)
 |frz (a:E)
 |aaP (t:Bool)|Yb (o i:E)
 |fld (c f:String) (o:E)|q9 (c m:String) (sp:dh) (o:E) (as:Es)|mk (c:String) (sp:dh) (as:Es)
inductive Es where
 |nil|cons (e:E) (es:Es)
inductive It where
 |seq (e:E)|rng (as:Es)|enum (a:E)|rvd (a:E)
end
set_option genInjectivity true
inductive XC where
 |dsp (x:Str) (ks:List (List Nat)) (sp:rH) (i:E) (as:Es)
set_option genInjectivity false
mutual
inductive S where
 |set (i:Nat) (e:E)|Rt (is:List Nat) (e:E)
 |dput (o i e:E)|Mg (op:jx) (o i e:E)|G9 (o i e:E)
 |exp (e:E)|ret (e:E)
 |ite (c:E) (a b:Ss)|for_ (tg:List Nat) (tt:Bool) (it:It) (b:Ss)|whl (c:E) (b:Ss)
 |pN (c f:String) (o e:E)|aa1 (c f:String) (op:jx) (o e:E)|Xn
 |aai (c:XC)|Z7 (P:String) (tab:List String) (i:Nat) (b h:Ss)
inductive Ss where
 |nil|cons (s:S) (r:Ss)
end
set_option genInjectivity true
def b2i (b:Bool):Int:=if b then 1 else 0
mutual
noncomputable def flat:Nat->D->Bool
 |_,.non=>true|_,.bl _=>true|_,.int _=>true|_,.str x=>x.all (·<1114112)|n+1,.tup ds=>flats n ds|n+1,.lst ds=>flats n ds|_,_=>false
noncomputable def flats:Nat->List D->Bool
 |_,[]=>true|n,d::ds=>flat n d&&flats n ds
end
mutual
noncomputable def lN:D->D->Bool
 | .non,e=>match e with| .non=>true|_=>false
 | .bl a,e=>match e with| .bl b=>a==b| .int j=>b2i a==j|_=>false
 | .int i,e=>match e with| .int j=>i==j| .bl b=>i==b2i b|_=>false
 | .str x,e=>match e with| .str y=>x==y|_=>false
 | .tup ds,e=>match e with| .tup es=>Kz ds es|_=>false
 | .lst ds,e=>match e with| .lst es=>Kz ds es|_=>false
 | .ro ds,_=>false| .loc _,_=>false| .jN ks ds,e=>match e with| .jN ls es=>decide (ks=ls)&&Kz ds es|_=>false
noncomputable def Kz:List D->List D->Bool
 |[],es=>es.isEmpty|d::ds,es=>match es with|[]=>false|e::es=>lN d e&&Kz ds es
end
def dI:List Nat->List Nat->Bool
 |_,[]=>false|[],_::_=>true|x::xs,y::ys=>if x=y then dI xs ys else decide (x<y)
def sc2:D->Bool
 | .int _=>true| .str _=>true|_=>false
mutual
noncomputable def PK:D->D->Option Bool
 | .int i,e=>match e with| .int j=>some (decide (i<j))|_=>none
 | .str x,e=>match e with| .str y=>some (dI x y)|_=>none
 | .tup ds,e=>match e with| .tup es=>if(ds.all sc2&&es.all sc2)=true then vL ds es else none|_=>none
 |_,_=>none
noncomputable def vL:List D->List D->Option Bool
 |[],es=>some (!es.isEmpty)|d::ds,es=>match es with|[]=>some false|e::es=>if lN d e then vL ds es else PK d e
end
noncomputable abbrev Itm:=Int×List Nat
def aK (x:Itm):D:=.tup [.int x.1,.str x.2]
def iY (x y:Itm):Bool:=if x.1=y.1 then dI x.2 y.2 else decide (x.1<y.1)
noncomputable abbrev jL (l:List Itm):Prop:=l.Pairwise fun a b=>iY b a=false
def aC (μ:Mem):D->Option (List D)
 | .lst ds=>some ds| .tup ds=>some ds| .ro ds=>some ds| .loc n=>match μ[n]? with|some (.lst ds)=>some ds|_=>none
 |_=>none
def chars (x:List Nat):List D:=x.map fun c=>D.str [c]
def lenOf (μ:Mem):D->Option Nat
 | .str x=>some x.length|d=>(aC μ d).map (·.length)
def cB (μ:Mem):D->Option (List D)
 | .tup _=>none|d=>aC μ d
def truth (μ:Mem):D->Option Bool
 | .non=>some false| .bl b=>some b| .int i=>some (i !=0)| .jN ks _=>some (ks.length !=0)|d=>(lenOf μ d).map (·!=0)
def Kv (have_ want:String):Bool:=have_==want||(have_=="bool"&&want=="int")
def tyOf (μ:Mem):D->Option String
 | .non=>some "NoneType"| .bl _=>some "bool"| .int _=>some "int"| .str _=>some "str"| .tup _=>some "tuple"| .lst _=>some "list"| .jN _ _=>some "dict"| .ro _=>none| .loc n=>match μ[n]? with|some (.lst _)=>some "list"|some (.jN _ _)=>some "dict"|some (.Fx _ _)=>some "dict"|_=>none
def sH (t:String) (d:D) (μ:Mem) (Q:QD):Prop:=match tyOf μ d with|some h=>Q (.bl (Kv h t)) μ|none=>False
def Uh (ks:List (List Nat)) (d:D) (μ:Mem) (Q:QD):Prop:=match d with| .str t=>Q (.bl (ks.contains t)) μ|_=>False
def isKey (ks:List (List Nat)) (d:D):Prop:=match d with| .str t=>ks.contains t=true|_=>False
def tH (a b c:Int):Int:=if c>0 then(if a<b then(b -a -1)/c+1 else 0)else(if a>b then(a -b -1)/(-c)+1 else 0)
def wY (lo c:Int) (n:Nat):List D:=(aY n).map fun(k:Nat)=>D.int (lo+(k:Int)*c)
def eU (lo:Int) (n:Nat):List D:=(aY n).map fun(k:Nat)=>D.int (lo+(k:Int))
def n6 (n:Nat) (i:Int):Option Nat:=if 0<=i then(if i<n then some i.toNat else none)else if -(n:Int)<=i then some (i+n).toNat else none
def j4 (n d:Nat):Option Int->Nat
 |none=>d|some v=>if v<0 then(v+(n:Int)).toNat else min v.toNat n
def cutD {α:Type} (xs:List α) (lo hi:Option Int):List α:=(xs.drop (j4 xs.length 0 lo)).take (j4 xs.length xs.length hi -j4 xs.length 0 lo)
def lim:Nat:=16777216
def newL (m:Bool) (ds:List D) (μ:Mem) (Q:QD):Prop:=match m with|true=>Q (.loc μ.length) (μ++[.lst ds])|false=>Q (.lst ds) μ
def newR:Option Bool->List D->Mem->QD->Prop
 |some m,ds,μ,Q=>newL m ds μ Q|none,ds,μ,Q=>Q (.tup ds) μ
def af5 (i j:Int):Prop:=(-(2 ^ 64)<i/\i<2 ^ 64)∨(-(2 ^ 64)<j/\j<2 ^ 64)
def Ml (j:Int):Prop:=0<j/\j<2 ^ 500
def ais (i j:Int):Prop:=0<=j/\j<=1000000/\i.natAbs<2 ^ 64
def jq (op:jx) (x y:D) (μ:Mem) (Q:QD):Prop:=
 match x,y with
 | .int i,.int j=>match op with| .Add=>Q (.int (i+j)) μ| .Sub=>Q (.int (i -j)) μ| .Mult=>af5 i j/\Q (.int (i*j)) μ| .FloorDiv=>Ml j/\Q (.int (i/j)) μ| .Mod=>0<j/\Q (.int (i%j)) μ| .Pow=>ais i j/\Q (.int (i ^ j.toNat)) μ| .LShift=>(0<=j/\j<=1000/\i.natAbs<2 ^ 64)/\Q (.int (i*2 ^ j.toNat)) μ| .RShift=>0<=j/\Q (.int (i/2 ^ j.toNat)) μ| .BitAnd=>(0<=i/\j=1)/\Q (.int (i%2)) μ|_=>False
 | .str a,.str b=>match op with| .Add=>a.length+b.length<=lim/\Q (.str (a++b)) μ|_=>False
 | .str a,.int k=>match op with| .Mult=>(0<=k/\k<=1000/\1<=a.length/\a.length<=1000)/\Q (.str (bD k.toNat a).flatten) μ|_=>False
 | .lst a,.lst b=>match op with| .Add=>a.length+b.length<=lim/\Q (.lst (a++b)) μ|_=>False
 | .tup a,.tup b=>match op with| .Add=>a.length+b.length<=lim/\Q (.tup (a++b)) μ|_=>False
 |_,_=>False
def eN (μ:Mem):Nat->D->D
 |0,d=>d|n+1,d=>match d with
  | .tup ds=>.tup (ds.map (eN μ n))| .lst ds=>.lst (ds.map (eN μ n))| .loc k=>match μ[k]? with|some (.lst ds)=>.lst (ds.map (eN μ n))|_=>.loc k
  |d=>d
def Z1 (neg:Bool) (x y:D) (μ:Mem) (Q:QD):Prop:=flat 60 (eN μ 8 x)=true/\flat 60 (eN μ 8 y)=true/\Q (.bl (neg !=lN (eN μ 8 x) (eN μ 8 y))) μ
def oV:D->Bool
 | .non=>true|_=>false
def yu:D->Option iU
 | .int i=>some (.inl i)| .str x=>some (.inr x)|_=>none
def jF:List D->Option (List iU)
 |[]=>some []|d::ds=>match yu d with|some k=>(jF ds).map (k::·)|none=>none
def Tc {κ:Type} [DecidableEq κ] (ks:List κ) (k:κ):Bool:=decide (k∈ks)
def eH {κ:Type} [DecidableEq κ]:List κ->List D->κ->Option D
 |k' ::ks,d::ds,k=>if k'=k then some d else eH ks ds k|_,_,_=>none
def agm (neg:Bool) (x y:D) (μ:Mem) (Q:QD):Prop:=match y with| .loc n=>(match μ[n]? with|some (.jN ks _)=>(match yu x with|some k=>Q (.bl (neg !=Tc ks k)) μ|none=>False)|some (.Fx ks _)=>(match x with| .tup es=>(match jF es with|some k=>Q (.bl (neg !=Tc ks k)) μ|none=>False)|_=>False)|_=>False)|_=>False
def ahX (d:D) (μ:Mem) (Q:QD):Prop:=match d with| .loc n=>(match μ[n]? with|some (.jN ks _)=>Q (.int ks.length) μ|some (.Fx ks _)=>Q (.int ks.length) μ|_=>False)|_=>False
def QW (n:Nat) (y:D) (μ:Mem) (Q:QD):Prop:=match μ[n]? with|some (.lst ds)=>(match y with| .lst []=>Q (.bl (!ds.isEmpty)) μ|_=>False)|_=>False
def cM (op:iK) (x y:D) (μ:Mem) (Q:QD):Prop:=
 match op with
 | .Eq=>flat 60 x=true/\flat 60 y=true/\Q (.bl (lN x y)) μ| .NotEq=>match x with| .loc n=>QW n y μ Q|x=>flat 60 x=true/\flat 60 y=true/\Q (.bl (!lN x y)) μ
 | .Lt=>match PK x y with|some b=>Q (.bl b) μ|none=>False
 | .LtE=>match x,y with| .int i,.int j=>Q (.bl (decide (i<=j))) μ| .str a,.str b=>Q (.bl (!dI b a)) μ|_,_=>False
 | .Gt=>match x,y with| .int i,.int j=>Q (.bl (decide (j<i))) μ|_,_=>False
 | .GtE=>match x,y with| .int i,.int j=>Q (.bl (decide (j<=i))) μ|_,_=>False
 | .Is=>match y with| .non=>Q (.bl (oV x)) μ| .bl b=>(match x with| .bl a=>Q (.bl (a==b)) μ|_=>False)|_=>False
 | .IsNot=>match y with| .non=>Q (.bl (!oV x)) μ| .bl b=>(match x with| .bl a=>Q (.bl (a !=b)) μ|_=>False)|_=>False
 | .In=>match y with| .str t=>(match x with| .str a=>(match a with|[c]=>Q (.bl (t.contains c)) μ|_=>False)|_=>False)|y=>(match aC μ y with|some ds=>flats 60 ds=true/\flat 60 x=true/\Q (.bl (ds.any fun d=>lN d x)) μ|none=>agm false x y μ Q)
 | .NotIn=>match y with| .str t=>(match x with| .str a=>(match a with|[c]=>Q (.bl (!t.contains c)) μ|_=>False)|_=>False)|y=>(match aC μ y with|some ds=>flats 60 ds=true/\flat 60 x=true/\Q (.bl (!ds.any fun d=>lN d x)) μ|none=>agm true x y μ Q)
def allB:List D->Option Bool
 |[]=>some true| .bl b::ds=>(allB ds).map (b&&·)|_::_=>none
def lG:List D->Option (List Int)
 |[]=>some []| .int i::ds=>(lG ds).map (i::·)|_::_=>none
def jo (i:Int):List Nat:=(aF (toString i)).cps.toList
def PX:List String:=["len","all","max","min","list","mlist","divmod","msorted","str","int"]
def wB3 (b:String) (d e f:D) (μ:Mem) (Q:QD):Prop:=match b with|"min3"=>(match d,e,f with| .int i,.int j,.int k=>Q (.int (min (min i j) k)) μ|_,_,_=>False)|_=>False
theorem aix (hb:b≠"min3"):¬wB3 b d e f μ Q:=by
 unfold wB3;split
 .exact absurd rfl hb
 .exact id
def amg (_:D) (_:Mem) (_:QD):Prop:=False
def ltI:List Int->List Int->Bool
 |_,[]=>false|[],_::_=>true|x::xs,y::ys=>if x=y then ltI xs ys else decide (x<y)
def bO (b:String) (ds:List D) (μ:Mem) (Q:QD):Prop:=
 match ds with
 |[d]=>match b with
  |"len"=>match lenOf μ d with|some n=>Q (.int n) μ|none=>ahX d μ Q
  |"all"=>match(cB μ d).bind allB with|some r=>Q (.bl r) μ|none=>False
  |"max"=>match(cB μ d).bind lG with|some (i::is)=>Q (.int (is.foldl max i)) μ|_=>False
  |"min"=>match(cB μ d).bind lG with|some (i::is)=>Q (.int (is.foldl min i)) μ|_=>False
  |"list"=>match aC μ d with|some es=>Q (.lst es) μ|none=>amg d μ Q
  |"mlist"=>match aC μ d with|some es=>newL true es μ Q|none=>False
  |"msorted"=>match cB μ d with|some es=>∃ r:List Itm,es=r.map aK/\r.length<64/\∀ r':List Itm,r'.Perm r->jL r'->newL true (r'.map aK) μ Q|none=>False
  |"str"=>match d with| .int i=>i.natAbs.log2<1920/\Q (.str (jo i)) μ|_=>False
  |"int"=>match d with| .int i=>Q (.int i) μ| .bl b=>Q (.int (if b then 1 else 0)) μ| .str x=>∃ n:Int,(x.length<=640/\intText? ⟨x.toArray⟩=some n)/\Q (.int n) μ|_=>False
  |_=>False
 |[d,e]=>match b with
  |"divmod"=>match d,e with| .int i,.int j=>Ml j/\Q (.tup [.int (i/j),.int (i%j)]) μ|_,_=>False
  |"max"=>match d,e with| .int i,.int j=>Q (.int (if j>i then j else i)) μ|_,_=>False
  |"min"=>match d,e with| .int i,.int j=>Q (.int (if j<i then j else i)) μ|_,_=>False
  |_=>False
 |[d,e,f]=>wB3 b d e f μ Q|_=>False
def K1 (d e:D) (μ:Mem) (Q:QD):Prop:=
 match(cB μ d).bind lG with
 |some []=>Q e μ|some (i::is)=>Q (.int (is.foldl max i)) μ|_=>False
def amm (n:Nat) (d e:D) (μ:Mem) (Q:QD):Prop:=match yu d with|some k=>μ[n]?=some (.jN [] [])/\Q (.loc n) (μ.set n (.jN [k] [e]))|none=>False
def aml (n:Nat) (d e:D) (μ:Mem) (Q:QD):Prop:=match d with| .tup ds=>(match jF ds with|some k=>μ[n]?=some (.Fx [] [])/\Q (.loc n) (μ.set n (.Fx [k] [e]))|none=>False)|_=>False
def amh (d e:D) (μ:Mem) (Q:QD):Prop:=match(cB μ d).bind lG with|some is=>is.length<64/\(∃ i:Nat,μ[i]?=some .tbl)/\(match e with| .loc m=>(match μ[m]? with|some (.jN ks ds)=>∃ g:Int->Int,(∀ z∈is,eH ks ds (.inl z)=some (.int (g z)))/\∀ is':List Int,is'.Perm is->(is'.Pairwise fun a b=>ltI [g b,b] [g a,a]=false)->Q (.lst (is'.map .int)) μ|_=>False)|_=>False)|none=>False
def amk (d:D) (μ:Mem) (Q:QD):Prop:=match cB μ d with|some ds=>Q (.loc μ.length) (μ++[.jN ((aY ds.length).map fun(n:Nat)=>oZ (n:Int)) ds])|none=>False
def akW (b:String) (n:Nat) (d e:D) (μ:Mem) (Q:QD):Prop:=if b="{}" then amm n d e μ Q else if b="{t}" then aml n d e μ Q else if b="ksort" then amh d e μ Q else if b="dicten" then amk d μ Q else K1 d e μ Q
def iI {κ:Type} [DecidableEq κ] (ks:List κ) (k:κ):List κ:=if k∈ks then ks else ks++[k]
def lH {κ:Type} [DecidableEq κ] (ks:List κ) (ds:List D) (k:κ) (d:D):List D:=if k∈ks then acd (fun k' d'=>if k'=k then d else d') ks ds else ds++[d]
def KZ (x y:D) (μ:Mem) (Q:QD):Prop:=match x with
 | .loc n=>match μ[n]? with|some (.jN ks ds)=>(match yu y with|some k=>(match eH ks ds k with|some d=>Q d μ|none=>False)|none=>False)|some (.Fx ks ds)=>(match y with| .tup es=>(match jF es with|some k=>(match eH ks ds k with|some d=>Q d μ|none=>False)|none=>False)|_=>False)|_=>False
 |_=>False
def Gx (x y v:D) (μ:Mem) (k:Mem->Prop):Prop:=match x with
 | .loc n=>match μ[n]? with|some (.jN ks ds)=>(match yu y with|some q=>ks.length<lim/\k (μ.set n (.jN (iI ks q) (lH ks ds q v)))|none=>False)|some (.Fx ks ds)=>(match y with| .tup es=>(match jF es with|some q=>ks.length<lim/\k (μ.set n (.Fx (iI ks q) (lH ks ds q v)))|none=>False)|_=>False)|_=>False
 |_=>False
def agh (μ:Mem):D->Option (List D)
 | .lst ds=>some ds| .loc n=>match μ[n]? with|some (.lst ds)=>some ds|_=>none
 |_=>none
def dB (μ:Mem) (c:String) (d:D):Option (Nat×List (String×D)):=match d with
 | .loc n=>match μ[n]? with|some (.ins c' fs)=>if c'=c then some (n,fs)else none|_=>none
 |_=>none
def bB (f:String):List (String×D)->Option D
 |[]=>none|(g,d)::r=>if g=f then some d else bB f r
def putD (f:String) (d:D):List (String×D)->List (String×D)
 |[]=>[(f,d)]|(g,e)::r=>if g=f then(g,d)::r else(g,e)::putD f d r
def gY (c f:String) (x:D) (μ:Mem) (Q:QD):Prop:=match dB μ c x with
 |some (_,fs)=>match bB f fs with|some d=>Q d μ|none=>False
 |none=>False
def kZ (c f:String) (x v:D) (μ:Mem) (k:Mem->Prop):Prop:=match dB μ c x with|some (n,fs)=>fs.length<1000/\k (μ.set n (.ins c (putD f v fs)))|none=>False
def gP (μ:Mem) (c m:String) (x:D):Prop:=match dB μ c x with|some (_,fs)=>bB m fs=none|none=>False
def DN (op:jx) (p q:D) (k:D->Prop):Prop:=match p,q with
 | .int i,.int j=>match op with| .Add=>k (.int (i+j))| .Sub=>k (.int (i -j))|_=>False
 |_,_=>False
def wlT (μ:Mem):D->Option (List D)
 | .tup ds=>some ds|d=>agh μ d
def isCell (μ:Mem):D->Bool
 | .loc n=>match μ[n]? with|some (.lst _)=>true|_=>false
 |_=>false
def bT (m:String) (n:Nat) (xs:List D) (ds:List D) (μ:Mem) (Q:QD):Prop:=
 match ds with
 |[]=>match m with
  |"pop"=>match xs[xs.length -1]? with|some d=>Q d (μ.set n (.lst xs.dropLast))|none=>False
  |_=>False
 |[d]=>match m with
  |"append"=>xs.length<lim/\Q .non (μ.set n (.lst (xs++[d])))|"extend"=>match wlT μ d with|some es=>xs.length+es.length<=lim/\Q .non (μ.set n (.lst (xs++es)))|none=>False
  |"pop"=>match d with| .int k=>(match n6 xs.length k with|some p=>(match xs[p]? with|some e=>Q e (μ.set n (.lst (xs.eraseIdx p)))|none=>False)|none=>False)|_=>False
  |_=>False
 |[.int k,d]=>match m with|"insert"=>0<=k/\k<=xs.length/\xs.length<lim/\Q .non (μ.set n (.lst (xs.take k.toNat++d::xs.drop k.toNat)))|_=>False
 |_=>False
def dj (m:String) (o:D) (ds:List D) (μ:Mem) (Q:QD):Prop:=
 match o with
 | .loc n=>match μ[n]? with|some (.lst xs)=>bT m n xs ds μ Q|_=>False
 |_=>False
def za:List D->Option (List (List Nat))
 |[]=>some []| .str x::ds=>(za ds).map (x::·)|_::_=>none
def txM (m:String):Bool:=["join","split","partition","startswith"].contains m
def alo:D->Bool
 | .str _=>true|_=>false
def aa8 (m:String) (t:List Nat) (c:Nat) (μ:Mem) (Q:QD):Prop:=match m with|"split"=>(c<256/\t.length<lim)/\∃ m:Bool,newL m ((cO c t).map .str) μ Q|"partition"=>if c∈t then Q (.tup [.str (Kf c t),.str [c],.str (postC c t)]) μ else Q (.tup [.str t,.str [],.str []]) μ|"startswith"=>Q (.bl (t.head?==some c)) μ|_=>False
def Fe (m:String) (x:D) (es:List D) (μ:Mem) (Q:QD):Prop:=match x with| .str t=>(match es with|[.str [c]]=>aa8 m t c μ Q|[d]=>(match(cB μ d).bind za with|some ws=>m="join"/\(ws.map dR).sum+ws.length*t.length<=lim/\Q (.str (dJ t ws)) μ|none=>False)|_=>False)|_=>False
def Sx (μ:Mem):D->Bool
 | .lst _=>true| .loc n=>match μ[n]? with|some (.lst _)=>true|_=>false
 |_=>false
def akU (m:String) (ns:List Int) (k:Int) (μ:Mem) (Q:QD):Prop:=match m with|"index"=>k∈ns/\Q (.int (ns.idxOf k:Nat)) μ|"count"=>Q (.int (ns.count k:Nat)) μ|_=>False
def amD (μ:Mem):D->Bool
 | .loc n=>match μ[n]? with|some (.jN _ _)=>true|some (.Fx _ _)=>true|_=>false
 |_=>false
def Kw (m:String) (μ:Mem) (d:D):Bool:=if m="get"∨m="pop"∨m="clear" then amD μ d else if txM m=true then alo d else Sx μ d
def amj (x:D) (es:List D) (μ:Mem) (Q:QD):Prop:=match x with| .loc n=>(match μ[n]? with|some (.jN ks ds)=>(match es with|[k,z]=>(match yu k with|some q=>Q ((eH ks ds q).getD z) μ|none=>False)|_=>False)|some (.Fx ks ds)=>(match es with|[.tup k]=>(match jF k with|some q=>Q ((eH ks ds q).getD .non) μ|none=>False)|_=>False)|_=>False)|_=>False
def amn (x:D) (es:List D) (μ:Mem) (Q:QD):Prop:=match x with| .loc n=>(match μ[n]? with|some (.Fx _ _)=>es=[]/\Q .non (μ.set n (.Fx [] []))|_=>False)|_=>False
def Yg {κ:Type} [DecidableEq κ]:List κ->κ->List κ
 |k' ::ks,k=>if k'=k then Yg ks k else k' ::Yg ks k|[],_=>[]
def Ye {κ:Type} [DecidableEq κ]:List κ->List D->κ->List D
 |k' ::ks,d::ds,k=>if k'=k then Ye ks ds k else d::Ye ks ds k|_,_,_=>[]
def ami (x:D) (es:List D) (μ:Mem) (Q:QD):Prop:=match x with| .loc n=>(match μ[n]? with|some (.jN ks ds)=>(match es with|[k]=>(match yu k with|some q=>(match eH ks ds q with|some d=>Q d (μ.set n (.jN (Yg ks q) (Ye ks ds q)))|none=>False)|none=>False)|_=>False)|_=>False)|_=>False
def akV (x:D) (es:List D) (μ:Mem) (Q:QD):Prop:=∃ (r:List Itm) (y:Itm) (j:Nat),cB μ x=some (r.map aK)/\es=[aK y]/\r[j]?=some y/\(∀ m,m<j->r[m]?≠some y)/\Q (.int (j:Nat)) μ
def aa9 (m:String) (x:D) (es:List D) (μ:Mem) (Q:QD):Prop:=match(cB μ x).bind lG with|some ns=>(match es with|[.int k]=>akU m ns k μ Q|_=>False)|none=>m="index"/\akV x es μ Q
def vG (m:String) (x:D) (es:List D) (μ:Mem) (Q:QD):Prop:=if m="get" then amj x es μ Q else if m="clear" then amn x es μ Q else if m="pop" then ami x es μ Q else if txM m=true then Fe m x es μ Q else aa9 m x es μ Q
def QZ (xs:List D) (μ:Mem) (Q:QD):Prop:=match xs with|[x]=>(match cB μ x with|some es=>∃ r:List Itm,es=r.map aK/\r≠[]/\∀ y,y∈r->(∀ z∈r,iY z y=false)->Q (aK y) μ|none=>False)|_=>False
def abb (x:D) (ds:List D) (μ:Mem) (Q:QD):Prop:=match x with
 | .loc n=>match μ[n]? with|some (.lst xs)=>∃ (r:List Itm) (y:Itm),xs=r.map aK/\ds=[aK y]/\y∈r/\Q .non (μ.set n (.lst ((r.erase y).map aK)))|_=>False
 |_=>False
def dH (x y:D) (μ:Mem) (Q:QD):Prop:=
 match x,y with
 | .str z,.int i=>match(n6 z.length i).bind (z[·]?)with|some c=>Q (.str [c]) μ|none=>False
 |x,.int i=>match aC μ x with
  |some ds=>match(n6 ds.length i).bind (ds[·]?)with|some d=>Q d μ|none=>False
  |none=>False
 |_,_=>False
def Fg (m:Bool) (x:D) (lo hi:Option Int) (μ:Mem) (Q:QD):Prop:=
 match x with
 | .lst ds=>newL m (cutD ds lo hi) μ Q| .str z=>((∀ i,lo=some i->0<=i)/\(∀ i,hi=some i->0<=i)/\j4 z.length 0 lo<=j4 z.length z.length hi)/\Q (.str (cutD z lo hi)) μ| .tup ds=>Q (.tup (cutD ds lo hi)) μ| .loc n=>match μ[n]? with|some (.lst ds)=>newL m (cutD ds lo hi) μ Q|_=>False
 |_=>False
def Q0 (d:D) (μ:Mem) (Q:QD):Prop:=
 match d with
 | .loc n=>match μ[n]? with|some (.lst ds)=>Q (.lst ds) (μ.set n .gone)|_=>False
 |d=>Q d μ
def fM (d:D) (μ:Mem) (Q:Bool->Mem->Prop):Prop:=match truth μ d with|some b=>Q b μ|none=>False
def fU (d:D) (μ:Mem) (Q:Bool->Mem->Prop):Prop:=match d with| .bl b=>Q b μ|_=>False
def yS (d:D) (μ:Mem) (Q:Int->Mem->Prop):Prop:=match d with| .int i=>Q i μ|_=>False
noncomputable abbrev QI:=List D->(Mem->Prop)->Mem->Prop
def lO (d:D) (μ:Mem) (Q:QI):Prop:=
 match d with
 | .lst ds=>Q ds (fun _=>True) μ| .tup ds=>Q ds (fun _=>True) μ| .ro ds=>Q ds (fun _=>True) μ| .str x=>Q (chars x) (fun _=>True) μ| .loc n=>match μ[n]? with|some (.lst ds)=>Q ds (fun μ'=>μ'[n]?=some (.lst ds)) μ|_=>False
 |_=>False
def Bl (n:Nat) (ds:List D) (μ:Mem) (Q:QI):Prop:=
 match n,ds with
 |1,[.int j]=>j<=lim/\-(2 ^ 62)<=j/\Q (eU 0 j.toNat) (fun _=>True) μ|3,[.int i,.int j,.int c]=>(c≠0/\tH i j c<=lim/\-(2 ^ 30)<i/\i<2 ^ 30/\-(2 ^ 30)<j/\j<2 ^ 30/\-(2 ^ 30)<c/\c<2 ^ 30)/\Q (wY i c (tH i j c).toNat) (fun _=>True) μ|2,[.int i,.int j]=>(j -i<=lim/\-(2 ^ 62)<=i/\i<2 ^ 62/\-(2 ^ 62)<=j/\j<2 ^ 62)/\Q (eU i (j -i).toNat) (fun _=>True) μ|_,_=>False
def nW (k:Nat):List D->List D
 |[]=>[]|d::ds=>.tup [.int (k:Int),d]::nW (k+1) ds
def Q5 (x:D) (μ:Mem) (Q:QI):Prop:=match cB μ x with|some as=>Q (nW 0 as) (fun μ'=>cB μ' x=some as) μ|none=>False
def agl (x:D) (μ:Mem) (Q:QI):Prop:=match cB μ x with|some as=>Q as.reverse (fun μ'=>cB μ' x=some as) μ|none=>False
def eX (is:List Nat) (tt:Bool) (d:D) (ρ:dD) (k:dD->Prop):Prop:=
 match tt with
 |false=>match is with|[i]=>k (ρ.set i (some d))|_=>False
 |true=>match d with| .tup ds=>ds.length=is.length/\k ((is.zip ds).foldl (fun r p=>r.set p.1 (some p.2)) ρ)|_=>False
def bindC (n:Nat) (tt:Bool) (d:D) (r:dD) (k:dD->Prop):Prop:=
 match tt with
 |false=>k (some d::r)|true=>match d with| .tup ds=>ds.length=n/\k (ds.map some++r)|_=>False
def iD (bnd:D->(dD->Prop)->Prop) (cw:dD->Mem->(Bool->Mem->Prop)->Prop) (ew:dD->Mem->QD->Prop) (g:Mem->Prop):List D->List D->Mem->(List D->Mem->Prop)->Prop
 |[],acc,μ,Q=>g μ/\Q acc μ|d::ds,acc,μ,Q=>g μ/\bnd d fun ρ=>cw ρ μ fun b μ1=>if b=true then ew ρ μ1 fun v μ2=>iD bnd cw ew g ds (acc++[v]) μ2 Q else iD bnd cw ew g ds acc μ1 Q
def mK:Es->Nat
 | .nil=>0| .cons _ es=>mK es+1
def amR (k1 k2 k3:List Nat) (x y z:D):Cell:=match k2 with|[]=>.jN [.inr k1,.inr k3] [x,z]|c::k=>.jN [.inr k1,.inr (c::k),.inr k3] [x,y,z]
mutual
@[reducible] noncomputable def wE:E->dD->Mem->QD->Prop
 | .var i,ρ,μ,Q=>match ρ[i]? with|some (some d)=>Q d μ|_=>False
 | .cst d,_,μ,Q=>Q d μ| .gbl _ d,_,μ,Q=>Q d μ| .bin op a b,ρ,μ,Q=>wE a ρ μ fun x μ1=>wE b ρ μ1 fun y μ2=>jq op x y μ2 Q
 | .neg a,ρ,μ,Q=>wE a ρ μ fun x μ1=>match x with| .int i=>Q (.int (-i)) μ1|_=>False
 | .not a,ρ,μ,Q=>wE a ρ μ fun x μ1=>fU x μ1 fun b μ2=>Q (.bl (!b)) μ2
 | .cmp op a b,ρ,μ,Q=>wE a ρ μ fun x μ1=>wE b ρ μ1 fun y μ2=>cM op x y μ2 Q
 | .QC n a b,ρ,μ,Q=>wE a ρ μ fun x μ1=>wE b ρ μ1 fun y μ2=>Z1 n x y μ2 Q
 | .chain p q a b c,ρ,μ,Q=>wE a ρ μ fun x μ1=>wE b ρ μ1 fun y μ2=>cM p x y μ2 fun r μ3=>fU r μ3 fun t μ3=>if t=true then wE c ρ μ3 fun z μ4=>cM q y z μ4 Q else Q (.bl false) μ3
 | .and a b,ρ,μ,Q=>wE a ρ μ fun x μ1=>fU x μ1 fun t μ2=>if t=true then wE b ρ μ2 Q else Q (.bl false) μ2
 | .or a b,ρ,μ,Q=>wE a ρ μ fun x μ1=>fU x μ1 fun t μ2=>if t=true then Q (.bl true) μ2 else wE b ρ μ2 Q
 | .ife c a b,ρ,μ,Q=>wT c ρ μ fun t μ1=>if t=true then wE a ρ μ1 Q else wE b ρ μ1 Q
 | .call _ sp as,ρ,μ,Q=>wEs as ρ μ fun ds μ1=>sp ds μ1 Q
 | .blt x as,ρ,μ,Q=>wEs as ρ μ fun ds μ1=>bO x ds μ1 Q
 | .aaZ _ a b,ρ,μ,Q=>wE a ρ μ fun d μ1=>wE b ρ μ1 fun e μ2=>K1 d e μ2 Q
 | .isin a t,ρ,μ,Q=>wE a ρ μ fun d μ1=>sH t d μ1 Q
 | .isin a _ (some ks),ρ,μ,Q=>wE a ρ μ fun d μ1=>Uh ks d μ1 Q
 | .meth m o as,ρ,μ,Q=>wE o ρ μ fun x μ1=>isCell μ1 x=true/\wEs as ρ μ1 fun ds μ2=>dj m x ds μ2 Q
 | .Rj m o as,ρ,μ,Q=>wE o ρ μ fun x μ1=>Kw m μ1 x=true/\wEs as ρ μ1 fun ds μ2=>vG m x ds μ2 Q
 | .rmv o as,ρ,μ,Q=>wE o ρ μ fun x μ1=>Sx μ1 x=true/\wEs as ρ μ1 fun ds μ2=>abb x ds μ2 Q
 | .aaH as,ρ,μ,Q=>wEs as ρ μ fun ds μ1=>QZ ds μ1 Q
 | .dd3 k1 k2 k3 a b e,ρ,μ,Q=>wE a ρ (μ++[.jN [] []]) fun x μ1=>wE b ρ μ1 fun y μ2=>wE e ρ μ2 fun z μ3=>μ3[μ.length]?=some (.jN [] [])/\Q (.loc μ.length) (μ3.set μ.length (amR k1 k2 k3 x y z))
 | .idx a b,ρ,μ,Q=>wE a ρ μ fun x μ1=>wE b ρ μ1 fun y μ2=>dH x y μ2 Q
 | .slc m a lo hi,ρ,μ,Q=>wE a ρ μ fun x μ1=>wO lo ρ μ1 fun l μ2=>wO hi ρ μ2 fun h μ3=>Fg m x l h μ3 Q
 | .tup as,ρ,μ,Q=>wEs as ρ μ fun ds μ1=>ds.length<=lim/\Q (.tup ds) μ1
 | .lst m as,ρ,μ,Q=>wEs as ρ μ fun ds μ1=>ds.length<=lim/\newL m ds μ1 Q
 | .comp m n tt cap elt it cond,ρ,μ,Q=>wI it ρ μ fun ds g μ1=>iD (fun d k=>bindC n tt d (cap.map fun i=>(ρ[i]?).join) k) (fun ρ' μ' Q'=>wTs cond ρ' μ' Q') (fun ρ' μ' Q'=>wE elt ρ' μ' Q') g ds [] μ1 fun vs μ2=>newL m vs μ2 Q
 | .frz a,ρ,μ,Q=>wE a ρ μ fun d μ1=>Q0 d μ1 Q
 | .aaP t,_,μ,Q=>Q (.loc μ.length) (μ++[if t=true then .Fx [] []else .jN [] []])| .Yb o i,ρ,μ,Q=>wE o ρ μ fun x μ1=>wE i ρ μ1 fun y μ2=>KZ x y μ2 Q
 | .fld c f o,ρ,μ,Q=>wE o ρ μ fun x μ1=>gY c f x μ1 Q
 | .q9 c m sp o as,ρ,μ,Q=>wE o ρ μ fun x μ1=>gP μ1 c m x/\wEs as ρ μ1 fun ds μ2=>sp (x::ds) μ2 Q
 | .mk c sp as,ρ,μ,Q=>wEs as ρ μ fun ds μ1=>sp (.loc μ1.length::ds) (μ1++[.ins c []]) fun v μ2=>v= .non/\Q (.loc μ1.length) μ2
@[reducible] noncomputable def wEs:Es->dD->Mem->(List D->Mem->Prop)->Prop
 | .nil,_,μ,Q=>Q [] μ| .cons e es,ρ,μ,Q=>wE e ρ μ fun d μ1=>wEs es ρ μ1 fun ds μ2=>Q (d::ds) μ2
noncomputable def wO:Es->dD->Mem->(Option Int->Mem->Prop)->Prop
 | .nil,_,μ,Q=>Q none μ| .cons e es,ρ,μ,Q=>wE e ρ μ fun d μ1=>match es with| .nil=>yS d μ1 fun i μ2=>Q (some i) μ2|_=>False
@[reducible] noncomputable def wT:E->dD->Mem->(Bool->Mem->Prop)->Prop
 | .not a,ρ,μ,Q=>wT a ρ μ fun b μ1=>Q (!b) μ1
 | .and a b,ρ,μ,Q=>wT a ρ μ fun t μ1=>if t=true then wT b ρ μ1 Q else Q false μ1
 | .or a b,ρ,μ,Q=>wT a ρ μ fun t μ1=>if t=true then Q true μ1 else wT b ρ μ1 Q
 | .var i,ρ,μ,Q=>match ρ[i]? with|some (some d)=>fM d μ Q|_=>False
 | .cst d,_,μ,Q=>fM d μ Q| .cmp op a b,ρ,μ,Q=>wE a ρ μ fun x μ1=>wE b ρ μ1 fun y μ2=>cM op x y μ2 fun r μ3=>fU r μ3 Q
 | .QC n a b,ρ,μ,Q=>wE a ρ μ fun x μ1=>wE b ρ μ1 fun y μ2=>Z1 n x y μ2 fun r μ3=>fU r μ3 Q
 | .chain p q a b c,ρ,μ,Q=>wE a ρ μ fun x μ1=>wE b ρ μ1 fun y μ2=>cM p x y μ2 fun r μ3=>fU r μ3 fun t μ3=>if t=true then wE c ρ μ3 fun z μ4=>cM q y z μ4 fun r μ5=>fU r μ5 Q else Q false μ3
 | .call _ sp as,ρ,μ,Q=>wEs as ρ μ fun ds μ1=>sp ds μ1 fun d μ2=>fM d μ2 Q
 | .q9 c m sp o as,ρ,μ,Q=>wE o ρ μ fun x μ1=>gP μ1 c m x/\wEs as ρ μ1 fun ds μ2=>sp (x::ds) μ2 fun d μ3=>fM d μ3 Q
 | .fld c f o,ρ,μ,Q=>wE o ρ μ fun x μ1=>gY c f x μ1 fun d μ2=>fM d μ2 Q
 | .idx a b,ρ,μ,Q=>wE a ρ μ fun x μ1=>wE b ρ μ1 fun y μ2=>dH x y μ2 fun d μ3=>fM d μ3 Q
 | .blt x as,ρ,μ,Q=>wEs as ρ μ fun ds μ1=>bO x ds μ1 fun d μ2=>fM d μ2 Q
 | .Rj m o as,ρ,μ,Q=>wE o ρ μ fun x μ1=>Kw m μ1 x=true/\wEs as ρ μ1 fun ds μ2=>vG m x ds μ2 fun d μ3=>fM d μ3 Q
 | .isin a t,ρ,μ,Q=>wE a ρ μ fun d μ1=>sH t d μ1 fun r μ2=>fU r μ2 Q
 | .isin a _ (some ks),ρ,μ,Q=>wE a ρ μ fun d μ1=>Uh ks d μ1 fun r μ2=>fU r μ2 Q
 |_,_,_,_=>False
@[reducible] noncomputable def wTs:Es->dD->Mem->(Bool->Mem->Prop)->Prop
 | .nil,_,μ,Q=>Q true μ| .cons e es,ρ,μ,Q=>wT e ρ μ fun b μ1=>match es with| .nil=>Q b μ1|_=>False
@[reducible] noncomputable def wI:It->dD->Mem->QI->Prop
 | .seq e,ρ,μ,Q=>wE e ρ μ fun d μ1=>lO d μ1 Q
 | .rng as,ρ,μ,Q=>wEs as ρ μ fun ds μ1=>Bl (mK as) ds μ1 Q
 | .enum a,ρ,μ,Q=>wE a ρ μ fun x μ1=>Q5 x μ1 Q
 | .rvd a,ρ,μ,Q=>wE a ρ μ fun x μ1=>agl x μ1 Q
end
structure jM where
 nx:dD->Mem->Prop
 rt:QD
 bk:dD->Mem->Prop:=fun _ _=>False
 ct:dD->Mem->Prop:=fun _ _=>False
 xc:dD->QX:=fun _ _ _ _ _=>False
def DK (bnd:D->dD->(dD->Prop)->Prop) (bw:jM->dD->Mem->Prop) (g:Mem->Prop) (Z:jM):List D->dD->Mem->Prop
 |[],ρ,μ=>g μ/\Z.nx ρ μ|d::ds,ρ,μ=>g μ/\bnd d ρ fun ρ'=>bw {Z with nx:=DK bnd bw g Z ds,ct:=DK bnd bw g Z ds,bk:=Z.nx} ρ' μ
def qG (o i v:D) (μ:Mem) (k:Mem->Prop):Prop:=
 match o,i with
 | .loc n,.int j=>match μ[n]? with
  |some (.lst xs)=>match n6 xs.length j with|some p=>k (μ.set n (.lst (xs.set p v)))|none=>False
  |_=>False
 |_,_=>False
def YG (x y:D) (μ:Mem) (Q:QD):Prop:=match x,y with| .loc n,.int j=>(match μ[n]? with|some (.lst xs)=>0<=j/\(match xs[j.toNat]? with|some d=>Q d μ|none=>False)|_=>False)|_,_=>False
@[reducible] noncomputable def wXC:XC->(dD->QX)->dD->Mem->QD->Prop
 | .dsp _ ks sp i as,X,ρ,μ,Q=>wE i ρ μ fun d μ1=>isKey ks d/\wEs as ρ μ1 fun ds μ2=>sp (d::ds) μ2 Q (X ρ)
mutual
@[reducible] noncomputable def wS:S->jM->dD->Mem->Prop
 | .set i e,Z,ρ,μ=>wE e ρ μ fun d μ1=>Z.nx (ρ.set i (some d)) μ1
 | .Rt is e,Z,ρ,μ=>wE e ρ μ fun d μ1=>eX is true d ρ fun ρ'=>Z.nx ρ' μ1
 | .dput o i e,Z,ρ,μ=>wE e ρ μ fun v μ1=>wE o ρ μ1 fun x μ2=>wE i ρ μ2 fun y μ3=>Gx x y v μ3 fun μ4=>Z.nx ρ μ4
 | .Mg op o i e,Z,ρ,μ=>wE o ρ μ fun x μ1=>wE i ρ μ1 fun y μ2=>YG x y μ2 fun p μ3=>wE e ρ μ3 fun q μ4=>DN op p q fun v=>qG x y v μ4 fun μ5=>Z.nx ρ μ5
 | .G9 o i e,Z,ρ,μ=>wE e ρ μ fun v μ1=>wE o ρ μ1 fun x μ2=>wE i ρ μ2 fun y μ3=>qG x y v μ3 fun μ4=>Z.nx ρ μ4
 | .exp e,Z,ρ,μ=>wE e ρ μ fun _ μ1=>Z.nx ρ μ1
 | .ret e,Z,ρ,μ=>wE e ρ μ Z.rt| .ite c a b,Z,ρ,μ=>wT c ρ μ fun t μ1=>if t=true then wSs a Z ρ μ1 else wSs b Z ρ μ1
 | .for_ tg tt it b,Z,ρ,μ=>wI it ρ μ fun ds g μ1=>DK (fun d r k=>eX tg tt d r k) (fun Z' r m=>wSs b Z' r m) g Z ds ρ μ1
 | .whl c b,Z,ρ,μ=>∃ W:Nat->dD->Mem->Prop,(∃ m,W m ρ μ)/\∀ m ρ μ,W m ρ μ->wT c ρ μ fun t μ1=>if t=true then wSs b {Z with nx:=fun ρ' μ'=>∃ m',m' <m/\W m' ρ' μ',ct:=fun ρ' μ'=>∃ m',m' <m/\W m' ρ' μ',bk:=Z.nx} ρ μ1 else Z.nx ρ μ1
 | .pN c f o e,Z,ρ,μ=>wE e ρ μ fun v μ1=>wE o ρ μ1 fun x μ2=>kZ c f x v μ2 fun μ3=>Z.nx ρ μ3
 | .aa1 c f op o e,Z,ρ,μ=>wE o ρ μ fun x μ1=>gY c f x μ1 fun p μ1'=>wE e ρ μ1' fun q μ2=>DN op p q fun v=>kZ c f x v μ2 fun μ3=>Z.nx ρ μ3
 | .Xn,_,_,_=>False| .aai c,Z,ρ,μ=>wXC c Z.xc ρ μ Z.rt| .Z7 _ _ _ b _,Z,ρ,μ=>wSs b {Z with xc:=fun _ _ _ _ _=>False} ρ μ
@[reducible] noncomputable def wSs:Ss->jM->dD->Mem->Prop
 | .nil,Z,ρ,μ=>Z.nx ρ μ| .cons s r,Z,ρ,μ=>wS s {Z with nx:=fun ρ' μ'=>wSs r Z ρ' μ' } ρ μ
end
end DW
namespace DW
open PySem PySem.Spec PyProof.Rows
open L2 (aN Key frs vC Loc Look Mod sG)
structure Top where
 P:bN
 w:aO
 K:bV
 mg:Str->Option Value
 base:aq
def keyOf:iU->Key
 | .inl i=>.inl i| .inr x=>.inr ⟨x.toArray⟩
def kD:iU->D
 | .inl i=>.int i| .inr x=>.str x
structure Th where
 cs:List (Addr×Addr)
 ex:List Addr
def Th.snoc (θ:Th) (p:Addr×Addr):Th:=⟨θ.cs++[p],θ.ex⟩
def oY (θ:Th) (μ:Mem) (a:Addr):Prop:=∃ (n:Nat) (p:Addr×Addr) (c:Cell),θ.cs[n]?=some p/\μ[n]?=some c/\c≠.gone/\(a=p.1∨a=p.2)
def KY (θ:Th) (μ:Mem) (a:Addr):Prop:=a∈θ.ex∨oY θ μ a
def jP (h:aq):Nat->Addr->List Value->Prop
 |0,a,us=>us.length<=sizeLine/\∃ o n,h.get? a=some o/\o.cls= .type "tuple"/\o.data= .seq us.toArray n/\o.dict=none|1,a,us=>us.length<=sizeLine/\∃ n,h.get? a=some {cls:=.type "list",data:=.seq us.toArray n}|_,a,us=>us.length<=sizeLine/\PlainL h a us.toArray
section
variable (h:aq) (θ:Th) (μ:Mem)
mutual
noncomputable def Rp:D->Value->Prop
 | .non,u=>u= .none| .bl b,u=>u= .bool b| .int i,u=>∃ t,u= .int i t| .str x,u=>(∃ t,u= .str ⟨x.toArray⟩ t)/\x.length<=sizeLine| .tup ds,u=>∃ a us,u= .ref a/\jP h 0 a us/\¬KY θ μ a/\c7 ds us| .lst ds,u=>∃ a us,u= .ref a/\jP h 1 a us/\¬KY θ μ a/\c7 ds us| .ro ds,u=>∃ a us,u= .ref a/\jP h 2 a us/\¬KY θ μ a/\c7 ds us| .loc n,u=>∃ p,u= .ref p.1/\θ.cs[n]?=some p| .jN _ _,_=>False
noncomputable def c7:List D->List Value->Prop
 |[],us=>us=[]|d::ds,us=>∃ u r,us=u::r/\Rp d u/\c7 ds r
end
end
def Fix (o:Obj):Prop:=(∃ xs n,o.data= .seq xs n)∨(o.cls= .type "code"/\∃ vs,o.data= .fields vs)
structure Kp (θ:Th) (μ:Mem) (h:aq) (θ':Th) (μ':Mem) (h':aq):Prop where
 pre:∀ (n:Nat) (p:Addr×Addr),θ.cs[n]?=some p->θ'.cs[n]?=some p
 fix:∀ b o,h.get? b=some o->Fix o->¬KY θ μ b->h'.get? b=some o/\¬KY θ' μ' b
section
variable {h h' h'':aq} {θ θ' θ'':Th} {μ μ' Ug:Mem} {a:Addr} {us vs:List Value} {d:D} {ds es:List D} {u v:Value} {k n:Nat} {p:Addr×Addr} {c:Cell}
theorem jP.fix (x:jP h k a us):us.length<=sizeLine/\∃ o,h.get? a=some o/\Fix o:=by
 match k,x with
 |0,⟨l,o,n,e,_,d,_⟩=>exact⟨l,o,e,.inl ⟨_,_,d⟩⟩|1,⟨l,n,e⟩=>exact⟨l,_,e,.inl ⟨_,_,rfl⟩⟩|_+2,⟨l,o,n,e,_,_,d⟩=>exact⟨l,o,e,.inl ⟨_,_,d⟩⟩
theorem jP.mono (x:jP h k a us) (f:∀ o,h.get? a=some o->Fix o->h'.get? a=some o):jP h' k a us:=by
 match k,x with
 |0,⟨l,o,n,e,c,d,z⟩=>exact⟨l,o,n,f o e (.inl ⟨_,_,d⟩),c,d,z⟩|1,⟨l,n,e⟩=>exact⟨l,n,f _ e (.inl ⟨_,_,rfl⟩)⟩|_+2,⟨l,o,n,e,c,z,d⟩=>exact⟨l,o,n,f o e (.inl ⟨_,_,d⟩),c,z,d⟩
theorem Kp.sq (g:Kp θ μ h θ' μ' h') (x:jP h k a us) (l:¬KY θ μ a):jP h' k a us/\¬KY θ' μ' a:=
 ⟨x.mono fun o e f=>(g.fix a o e f l).1,let⟨_,o,e,f⟩:=x.fix;(g.fix a o e f l).2⟩
mutual
theorem Kp.rp (g:Kp θ μ h θ' μ' h'):∀ {d:D} {u:Value},Rp h θ μ d u->Rp h' θ' μ' d u
 | .non,_,r=>r| .bl _,_,r=>r| .int _,_,r=>r| .str _,_,r=>r| .tup _,_,⟨a,us,e,x,l,r⟩=>⟨a,us,e,(g.sq x l).1,(g.sq x l).2,g.Fi r⟩| .lst _,_,⟨a,us,e,x,l,r⟩=>⟨a,us,e,(g.sq x l).1,(g.sq x l).2,g.Fi r⟩| .ro _,_,⟨a,us,e,x,l,r⟩=>⟨a,us,e,(g.sq x l).1,(g.sq x l).2,g.Fi r⟩| .loc _,_,⟨p,e,x⟩=>⟨p,e,g.pre _ p x⟩| .jN _ _,_,r=>r.elim
theorem Kp.Fi (g:Kp θ μ h θ' μ' h'):∀ {ds:List D} {us:List Value},c7 h θ μ ds us->c7 h' θ' μ' ds us
 |[],_,r=>r|_::_,_,⟨u,r,e,x,y⟩=>⟨u,r,e,g.rp x,g.Fi y⟩
end
theorem c7.nil:c7 h θ μ [] []:=rfl
theorem c7.cons (x:Rp h θ μ d u) (r:c7 h θ μ ds us):c7 h θ μ (d::ds) (u::us):=⟨u,us,rfl,x,r⟩
theorem c7.one (x:Rp h θ μ d u):c7 h θ μ [d] [u]:=c7.cons x c7.nil
theorem c7.length:∀ {ds:List D} {us:List Value},c7 h θ μ ds us->us.length=ds.length
 |[],_,r=>by cases(show _=[]from r);rfl
 |_::_,_,⟨u,r,e,_,y⟩=>by rw[e,bA,y.length,bA]
theorem c7.get:∀ {ds:List D} {us:List Value} {i:Nat} {d:D},c7 h θ μ ds us->ds[i]?=some d->∃ u,us[i]?=some u/\Rp h θ μ d u
 |_::_,_,0,_,⟨u,r,e,x,_⟩,q=>by cases q;exact⟨u,by rw[e];rfl,x⟩
 |_::_,_,i+1,_,⟨u,r,e,_,y⟩,q=>by rw[e];exact y.get (i:=i) q|[],_,_,_,_,q=>by simp at q
theorem c7.append:∀ {ds es:List D} {us vs:List Value},c7 h θ μ ds us->c7 h θ μ es vs->c7 h θ μ (ds++es) (us++vs)
 |[],_,_,_,r,k=>by cases(show _=[]from r);exact k
 |_::_,_,_,_,⟨u,r,e,x,y⟩,k=>by rw[e];exact⟨u,_,rfl,x,y.append k⟩
theorem c7.take:∀ {ds:List D} {us:List Value} (n:Nat),c7 h θ μ ds us->c7 h θ μ (ds.take n) (us.take n)
 |_,_,0,_=>rfl|[],_,_+1,r=>by cases(show _=[]from r);rfl
 |_::_,_,n+1,⟨u,r,e,x,y⟩=>by rw[e];exact⟨u,_,rfl,x,y.take n⟩
theorem c7.drop:∀ {ds:List D} {us:List Value} (n:Nat),c7 h θ μ ds us->c7 h θ μ (ds.drop n) (us.drop n)
 |_,_,0,r=>r|[],_,_+1,r=>by cases(show _=[]from r);rfl
 |_::_,_,n+1,⟨u,r,e,x,y⟩=>by rw[e];exact y.drop n
theorem c7.set (z:Rp h θ μ d v):∀ {ds:List D} {us:List Value} (n:Nat),c7 h θ μ ds us->c7 h θ μ (ds.set n d) (us.set n v)
 |[],_,_,r=>by cases(show _=[]from r);rfl
 |_::_,_,0,⟨u,r,e,_,y⟩=>by rw[e];exact⟨v,r,rfl,z,y⟩|_::_,_,n+1,⟨u,r,e,x,y⟩=>by rw[e];exact⟨u,_,rfl,x,y.set z n⟩
theorem c7.nil_inv (r:c7 h θ μ [] us):us=[]:=r
theorem c7.iW (r:c7 h θ μ [d] us):∃ u,us=[u]/\Rp h θ μ d u:=by obtain⟨u,_,e,x,rfl⟩:=r;exact⟨u,e,x⟩
theorem c7.yV {d':D} (r:c7 h θ μ [d,d'] us):∃ u u',us=[u,u']/\Rp h θ μ d u/\Rp h θ μ d' u':=by obtain⟨u,_,rfl,x,y⟩:=r;obtain⟨v,rfl,z⟩:=y.iW;exact⟨u,v,rfl,x,z⟩
def aa2 (h:aq) (θ:Th) (μ:Mem) (fs:List (String×D)) (dx:Addr):Prop:=
 ∃ mA,h.Ns1 dx mA/\(∀ f d,bB f fs=some d->∃ u,mA (aF f)=some u/\Rp h θ μ d u)/\VP mA (fs.map fun p=>aF p.1)
def J9 (T:Top) (h:aq) (θ:Th) (μ:Mem) (a:Addr) (ks:List (List iU)) (ds:List D):Prop:=
 ∃ xs:List (List Key×Addr×Value),(∃ o es ep,h.get? a=some o/\o.ExactDict/\o.data= .dict es ep/\es.toList=xs.map (entryOfKey (Nv (aN T.P T.w)))/\(xs.map (·.1)).Nodup)/\
  xs.length<=sizeLine/\(a==qU)=false/\c7 h θ μ (ks.map fun k=>.tup (k.map kD)) (xs.map fun x=>.ref x.2.1)/\xs.map (·.1)=ks.map (·.map keyOf)/\c7 h θ μ ds (xs.map (·.2.2))
def Uc (T:Top) (h:aq) (θ:Th) (μ:Mem) (a:Addr) (ks:List iU) (ds:List D):Prop:=
 ∃ kvs:List (Key×Value),h.DictOf (aN T.P T.w) a kvs/\kvs.length<=sizeLine/\(a==qU)=false/\kvs.map (·.1)=ks.map keyOf/\c7 h θ μ ds (kvs.map (·.2))
def aj0:Str:="shortest"
def amA:Str:="shortest"++".<locals>."++"<lambda>"
def pC (T:Top) (h:aq) (θ:Th) (μ:Mem) (p:Addr×Addr):Cell->Prop
 | .lst ds=>∃ us,jP h 1 p.1 us/\c7 h θ μ ds us/\p.2=p.1| .ins c fs=>∃ C,bG T.K aQ (aF c)=some (some (.ref C))/\h.get? p.1=some (o9 C p.2)/\p.2≠p.1/\fs.length<=1000/\aa2 h θ μ fs p.2| .jN ks ds=>Uc T h θ μ p.1 ks ds/\p.2=p.1| .Fx ks ds=>J9 T h θ μ p.1 ks ds/\p.2=p.1| .exc c ks ds=>∃ C o vs,bG T.K aQ (aF c)=some (some (.ref C))/\h.get? p.1=some o/\o.cls= .ref C/\PySem.W.notCls o=true/\o.data= .fields vs/\vs[2]?=some .none/\
   ks.length=ds.length/\((ks=[]/\o.dict=none/\p.2=p.1)∨(ks≠[]/\o.dict=some p.2/\p.2≠p.1/\aa2 h θ μ (ks.zip ds) p.2))
 | .gone=>True| .tbl=>∃ (tc:Addr) (ps:Array Value),PySem.W.tabIn T.K aj0=some (tc,p.1)/\p.2=p.1/\h.get? p.1=some {cls:=.none,data:=.fields ps}/\TriplesOk ps.toList/\
   ∀ pos cv,codeAmong pos ps.toList=some cv->∃ b oc vs tq,cv= .ref b/\h.get? b=some oc/\¬KY θ μ b/\oc.cls= .type "code"/\oc.data= .fields vs/\vs[1]?=some (.str amA tq)
structure pD (T:Top) (θ:Th) (μ:Mem) (h:aq):Prop where
 len:θ.cs.length=μ.length
 exc:∀ a∈θ.ex,¬oY θ μ a
 inj:∀ (m n:Nat) (p q:Addr×Addr) (c d:Cell) (a:Addr),θ.cs[m]?=some p->θ.cs[n]?=some q->μ[m]?=some c->μ[n]?=some d->c≠.gone->d≠.gone->(a=p.1∨a=p.2)->(a=q.1∨a=q.2)->m=n
 bnd:∀ a,KY θ μ a->∃ o,h.get? a=some o
 cell:∀ (n:Nat) (c:Cell) (p:Addr×Addr),μ[n]?=some c->θ.cs[n]?=some p->pC T h θ μ p c
variable {T:Top}
theorem aa2.mono {fs:List (String×D)} (g:Kp θ μ h θ' μ' h') (x:aa2 h θ μ fs a) (e:∀ o,h.get? a=some o->h'.get? a=some o):aa2 h' θ' μ' fs a:=
 let⟨mA,n,f,w⟩:=x
 ⟨mA,n.at e,fun y d q=>let⟨u,r,t⟩:=f y d q;⟨u,r,g.rp t⟩,w⟩
theorem Uc.mono {ks:List iU} (g:Kp θ μ h θ' μ' h') (x:Uc T h θ μ a ks ds) (e:∀ o,h.get? a=some o->h'.get? a=some o):Uc T h' θ' μ' a ks ds:=
 let⟨kvs,⟨o,es,ep,e1,r⟩,l,y,k,z⟩:=x
 ⟨kvs,⟨o,es,ep,e o e1,r⟩,l,y,k,g.Fi z⟩
theorem J9.mono {ks:List (List iU)} (g:Kp θ μ h θ' μ' h') (x:J9 T h θ μ a ks ds) (e:∀ o,h.get? a=some o->h'.get? a=some o):J9 T h' θ' μ' a ks ds:=
 let⟨xs,⟨o,es,ep,e1,r⟩,l,y,t,k,z⟩:=x
 ⟨xs,⟨o,es,ep,e o e1,r⟩,l,y,g.Fi t,k,g.Fi z⟩
theorem pC.mono (g:Kp θ μ h θ' μ' h') (e:∀ b o,(b=p.1∨b=p.2)->h.get? b=some o->h'.get? b=some o) (x:pC T h θ μ p c):pC T h' θ' μ' p c:=by
 have e1:=fun o=>e p.1 o (.inl rfl);have e2:=fun o=>e p.2 o (.inr rfl);cases c with
 |lst ds=>exact let⟨us,y,r,z⟩:=x;⟨us,y.mono fun o q _=>e1 o q,g.Fi r,z⟩|ins c fs=>exact let⟨C,y,q,r,l,f⟩:=x;⟨C,y,e1 _ q,r,l,f.mono g e2⟩|jN ks ds=>exact⟨x.1.mono g e1,x.2⟩|Fx ks ds=>exact⟨x.1.mono g e1,x.2⟩|exc c ks ds=>obtain⟨C,o,vs,y,q,r1,r2,r3,r4,r5,f⟩:=x;exact⟨C,o,vs,y,e1 _ q,r1,r2,r3,r4,r5,f.imp id fun⟨f1,f2,f3,f4⟩=>⟨f1,f2,f3,f4.mono g e2⟩⟩|gone=>trivial|tbl=>obtain⟨tc,ps,y,q,r,t,f⟩:=x;refine⟨tc,ps,y,q,e1 _ r,t,fun pos cv z=>?_⟩;obtain⟨b,oc,vs,tq,f1,f2,f3,f6,f4,f5⟩:=f pos cv z;obtain⟨f2',f3'⟩:=g.fix b oc f2 (.inr ⟨f6,_,f4⟩) f3;exact⟨b,oc,vs,tq,f1,f2',f3',f6,f4,f5⟩
theorem pD.RG (w:pD T θ μ h) (hp:h.objs.size<=a):¬KY θ μ a:=fun l=>let⟨_,q⟩:=w.bnd a l;absurd (jT (eZ q) hp) (mG _)
theorem pD.mono (w:pD T θ μ h) (g:Kp θ μ h θ μ h') (lv:∀ b o,oY θ μ b->h.get? b=some o->h'.get? b=some o) (hx:∀ b∈θ.ex,∃ o,h'.get? b=some o):pD T θ μ h' where
 len:=w.len
 exc:=w.exc
 inj:=w.inj
 bnd:=fun a l=>l.elim (hx a) fun l=>let⟨o,q⟩:=w.bnd a (.inr l);⟨o,lv a o l q⟩
 cell:=fun n c p e k=>by
  by_cases hg:c= .gone
  .subst hg;trivial
  .exact(w.cell n c p e k).mono g fun b o z q=>lv b o ⟨n,p,c,k,e,hg,z⟩ q
theorem jE (k:∀ b o,h.get? b=some o->h'.get? b=some o):Kp θ μ h θ μ h':=⟨fun _ _ e=>e,fun b o e _ l=>⟨k b o e,l⟩⟩
theorem pD.kept (w:pD T θ μ h) (k:∀ b o,h.get? b=some o->h'.get? b=some o):pD T θ μ h':=w.mono (jE k) (fun b o _ q=>k b o q) fun b z=>let⟨o,q⟩:=w.bnd b (.inl z);⟨o,k b o q⟩
theorem jm {α:Type} {l:List α} {x y:α} (h:l[n]?=some y):(l++[x])[n]?=some y:=by rw[fQ (cj.mp h).1];exact h
theorem jH {α:Type} {l:List α} {x y:α} (h:(l++[x])[n]?=some y):l[n]?=some y∨(n=l.length/\x=y):=by
 rcases Ck n l.length with hn|hn
 .exact .inl (by rwa[fQ hn]at h)
 .rw[pX hn]at h
  have z:=(cj.mp h).1;simp only[List.length_singleton]at z;have e:n=l.length:=by lia
  subst e;exact .inr ⟨rfl,by simpa using h⟩
theorem zX (w:pD T θ μ h) (l:¬oY θ μ a) (h1:a≠p.1) (h2:a≠p.2):¬oY (θ.snoc p) (μ++[c]) a:=fun⟨m,q,c',e,k,g,z⟩=>by
 rcases jH e with e|⟨_,rfl⟩
 .rcases jH k with k|⟨k,_⟩
  .exact l ⟨m,q,c',e,k,g,z⟩
  .have:=(cj.mp e).1
   rw[w.len,k]at this;exact absurd this (mG _)
 .exact z.elim h1 h2
theorem ag9 (w:pD T θ μ h) (l:¬KY θ μ a) (h1:a≠p.1) (h2:a≠p.2):¬KY (θ.snoc p) (μ++[c]) a:=fun z=>z.elim (fun z=>l (.inl z)) (zX w (fun z=>l (.inr z)) h1 h2)
theorem ae3 (w:pD T θ μ h) (k:∀ b o,h.get? b=some o->h'.get? b=some o) (h1:h.objs.size<=p.1) (h2:h.objs.size<=p.2):Kp θ μ h (θ.snoc p) (μ++[c]) h' :=
 ⟨fun _ _ e=>jm e,fun b o e _ l=>⟨k b o e,ag9 w l (jk (jT (eZ e) h1)) (jk (jT (eZ e) h2))⟩⟩
theorem pD.add {ex:List Addr} (w:pD T θ μ h) (kp:Kp θ μ h ⟨θ.cs++[p],ex⟩ (μ++[c]) h') (n1:¬oY θ μ p.1) (n2:¬oY θ μ p.2) (k:∀ b o,oY θ μ b->h.get? b=some o->h'.get? b=some o)
  (hx:∀ b∈ex,(∃ o,h'.get? b=some o)/\¬oY θ μ b/\b≠p.1/\b≠p.2) (th:∀ a,(a=p.1∨a=p.2)->∃ o,h'.get? a=some o) (hc:pC T h' ⟨θ.cs++[p],ex⟩ (μ++[c]) p c):pD T ⟨θ.cs++[p],ex⟩ (μ++[c]) h':=by
 have lt:∀ {m:Nat} {q:Addr×Addr} {d:Cell},θ.cs[m]?=some q->(μ++[c])[m]?=some d->μ[m]?=some d:=fun {m q d} e k=>by
  rcases jH k with k|⟨k,_⟩
  .exact k
  .have:=(cj.mp e).1
   rw[w.len,k]at this;exact absurd this (mG _)
 have no:∀ {a:Addr} {m:Nat} {q:Addr×Addr} {d:Cell},θ.cs[m]?=some q->(μ++[c])[m]?=some d->d≠.gone->(a=q.1∨a=q.2)->¬(a=p.1∨a=p.2):=fun {a m q d} e k n z x=>by
  rcases x with rfl|rfl
  .exact n1 ⟨m,q,d,e,lt e k,n,z⟩
  .exact n2 ⟨m,q,d,e,lt e k,n,z⟩
 have old:∀ {a},oY ⟨θ.cs++[p],ex⟩ (μ++[c]) a->oY θ μ a∨a=p.1∨a=p.2:=fun⟨m,q,d,e,f,n,z⟩=>by
  rcases jH e with e|⟨_,rfl⟩
  .exact .inl ⟨m,q,d,e,lt e f,n,z⟩
  .exact .inr z
 refine⟨by simp[w.len],fun a z l=>(old l).elim (hx a z).2.1 fun y=>y.elim (hx a z).2.2.1 (hx a z).2.2.2,fun m n q r c1 c2 a e f k1 k2 n1 n2 z y=>?_,fun a l=>l.elim (fun z=>(hx a z).1) fun l=>(old l).elim (fun l=>let⟨o,x⟩:=w.bnd a (.inr l);⟨o,k a o l x⟩) (th a),fun n c' q e f=>?_⟩
 .rcases jH e with e1|⟨e1,rfl⟩
  .rcases jH f with f1|⟨f1,rfl⟩
   .exact w.inj m n q r c1 c2 a e1 f1 (lt e1 k1) (lt f1 k2) n1 n2 z y
   .exact(no e1 k1 n1 z y).elim
  .rcases jH f with f1|⟨f1,_⟩
   .exact(no f1 k2 n2 y z).elim
   .rw[e1,f1]
 .rcases jH f with f1|⟨f1,rfl⟩
  .have e1:=lt f1 e
   by_cases g:c' = .gone
   .subst g;trivial
   .exact(w.cell n c' q e1 f1).mono kp fun b o z x=>k b o ⟨n,q,c',f1,e1,g,z⟩ x
  .rcases jH e with e1|⟨_,rfl⟩
   .have:=(cj.mp e1).1
    rw[f1,w.len]at this;exact absurd this (mG _)
   .exact hc
theorem pD.new (w:pD T θ μ h) (k:∀ b o,h.get? b=some o->h'.get? b=some o) (h1:h.objs.size<=p.1) (h2:h.objs.size<=p.2) (th:∀ a,(a=p.1∨a=p.2)->∃ o,h'.get? a=some o)
  (hc:pC T h' (θ.snoc p) (μ++[c]) p c):pD T (θ.snoc p) (μ++[c]) h' :=
 w.add (ae3 w k h1 h2) (fun l=>w.RG h1 (.inr l)) (fun l=>w.RG h2 (.inr l)) (fun b o _ e=>k b o e) (fun b z=>⟨let⟨o,x⟩:=w.bnd b (.inl z);⟨o,k b o x⟩,w.exc b z,fun y=>w.RG h1 (.inl (y▸z)),fun y=>w.RG h2 (.inl (y▸z))⟩) th hc
theorem pD.ex {ex:List Addr} (w:pD T θ μ h) (kp:Kp θ μ h ⟨θ.cs,ex⟩ μ h') (k:∀ b o,oY θ μ b->h.get? b=some o->h'.get? b=some o) (hx:∀ b∈ex,(∃ o,h'.get? b=some o)/\¬oY θ μ b):pD T ⟨θ.cs,ex⟩ μ h' where
 len:=w.len
 exc:=fun a z=>(hx a z).2
 inj:=w.inj
 bnd:=fun a l=>l.elim (fun z=>(hx a z).1) fun l=>let⟨o,x⟩:=w.bnd a (.inr l);⟨o,k a o l x⟩
 cell:=fun n c q e f=>by
  by_cases g:c= .gone
  .subst g;trivial
  .exact(w.cell n c q e f).mono kp fun b o z x=>k b o ⟨n,q,c,f,e,g,z⟩ x
theorem PJ {c':Cell} (hn:μ[n]?=some c) (h1:c≠.gone) (x:oY θ (μ.set n c') a):oY θ μ a:=by
 obtain⟨m,q,b,e,k,g,z⟩:=x;by_cases y:m=n
 .subst y;exact⟨m,q,c,e,hn,h1,z⟩
 .rw[cW (bK y)]at k;exact⟨m,q,b,e,k,g,z⟩
theorem Zj {c':Cell} (hn:μ[n]?=some c) (h1:c≠.gone) (x:KY θ (μ.set n c') a):KY θ μ a:=x.imp id (PJ hn h1)
theorem yt {c':Cell} (hn:μ[n]?=some c) (hp:θ.cs[n]?=some p) (h1:c≠.gone) (k:∀ b o,¬(b=p.1∨b=p.2)->h.get? b=some o->h'.get? b=some o):Kp θ μ h θ (μ.set n c') h' :=
 ⟨fun _ _ e=>e,fun b o e _ l=>⟨k b o (fun z=>l (.inr ⟨n,p,c,hp,hn,h1,z⟩)) e,fun z=>l (Zj hn h1 z)⟩⟩
theorem pD.set {c':Cell} (w:pD T θ μ h) (hn:μ[n]?=some c) (hp:θ.cs[n]?=some p) (h1:c≠.gone) (k:∀ b o,¬(b=p.1∨b=p.2)->h.get? b=some o->h'.get? b=some o)
  (th:∀ a,(a=p.1∨a=p.2)->∃ o,h'.get? a=some o) (hc:pC T h' θ (μ.set n c') p c'):pD T θ (μ.set n c') h' where
 len:=by simp[w.len]
 exc:=fun a z l=>w.exc a z (PJ hn h1 l)
 inj:=fun m k q r c1 c2 a e f k1 k2 n1 n2 z y=>by
  have old:∀ {m:Nat} {d:Cell},(μ.set n c')[m]?=some d->d≠.gone->∃ d',μ[m]?=some d'/\d'≠.gone:=fun {m d} e g=>by
   by_cases x:m=n
   .subst x;exact⟨c,hn,h1⟩
   .rw[cW (bK x)]at e;exact⟨d,e,g⟩
  obtain⟨d1,x1,y1⟩:=old k1 n1;obtain⟨d2,x2,y2⟩:=old k2 n2;exact w.inj m k q r d1 d2 a e f x1 x2 y1 y2 z y
 bnd:=fun a l=>by
  by_cases y:a=p.1∨a=p.2
  .exact th a y
  .exact let⟨o,x⟩:=w.bnd a (Zj hn h1 l);⟨o,k a o y x⟩
 cell:=fun m b q e f=>by
  by_cases y:m=n
  .subst y
   rw[hp]at f;cases f;rw[eF (cj.mp hn).1]at e;cases e;exact hc
  .rw[cW (bK y)]at e
   by_cases z:b= .gone
   .subst z;trivial
   .exact(w.cell m b q e f).mono (yt hn hp h1 k) fun b' o z' x=>k b' o (fun y'=>y (w.inj m n q p b c b' f hp e hn z h1 z' y')) x
theorem aaJ (w:pD T θ μ h) (hn:μ[n]?=some c) (h1:c≠.gone) (hp:θ.cs[n]?=some p) (z:a=p.1∨a=p.2):¬KY θ (μ.set n .gone) a:=fun l=>by
 rcases l with l|⟨m,q,b,e,k,g,y⟩
 .exact w.exc a l ⟨n,p,c,hp,hn,h1,z⟩
 by_cases x:m=n
 .subst x
  rw[List.getElem?_set]at k;simp only[if_true]at k;split at k
  .cases k;exact g rfl
  .cases k
 .rw[cW (bK x)]at k
  exact x (w.inj m n q p b c a e hp k hn g h1 y z)
end
end DW
namespace DW
open PySem PySem.Spec PyProof.Rows
open L2 (aN Key frs vC Loc Look Mod sG)
def Cell.fix:Cell->Bool
 | .exc _ _ _=>true| .tbl=>true|_=>false
def Exk (θ:Th) (h:aq) (θ':Th):Prop:=(∀ b∈θ.ex,b∈θ'.ex)/\∀ b∈θ'.ex,b∈θ.ex∨h.get? b=none
theorem Exk.rfl {θ:Th} {h:aq}:Exk θ h θ:=⟨fun _ z=>z,fun _ z=>.inl z⟩
structure G (V:Addr->Prop) (F:List Addr) (θ:Th) (μ:Mem) (s:aj) (θ':Th) (μ':Mem) (s':aj):Prop where
 pre:∀ (n:Nat) (p:Addr×Addr),θ.cs[n]?=some p->θ'.cs[n]?=some p
 keep:∀ b o,s.heap.get? b=some o->¬oY θ μ b->¬V b->¬oY θ' μ' b/\∃ sl,s'.heap.get? b=some {o with slots:=sl}/\(b∉F->sl=o.slots)
 there:∀ b o,s.heap.get? b=some o->∃ o',s'.heap.get? b=some o'
 stay:∀ (n:Nat) (c:Cell),μ[n]?=some c->c.fix=true->μ'[n]?=some c
 os:s'.os=s.os
 ex:Exk θ s.heap θ'
structure E0 (T:Top) (A:aP) (stack:List Env) (θ:Th) (μ:Mem) (s:aj):Prop where
 mod:Mod T.K T.mg T.base
 frames:A.frames=some stack
 bare:Hx s.gens
 bs:∀ b o,T.base.get? b=some o->s.heap.get? b=some o/\¬oY θ μ b
 stk:∀ e∈stack,e.scope.kind≠.module/\∃ L o es ep,e.frame=some L/\T.base.get? L=none/\s.heap.get? L=some o/\o.data= .dict es ep/\¬oY θ μ L
 dG:pD T θ μ s.heap
 hh:∀ v,A.handled=some v->∃ (n:Nat) (p:Addr×Addr) (c:String) (ks:List String) (ds:List D),v= .ref p.1/\θ.cs[n]?=some p/\μ[n]?=some (.exc c ks ds)
structure Cx where
 T:Top
 A:aP
 N:List Str
 env:Env
 stack:List Env
 calm:Bool
 oc:Str->Bool
noncomputable abbrev Cx.M (X:Cx):Model:=aU X.T.P X.T.w
structure Cx.Ok (X:Cx):Prop where
 kind:X.env.scope.kind= .function
 glob:X.env.globals=aQ
 blt:X.env.builtins=Ny
 inj:∀ x y c,X.env.cells.lookup x=some c->X.env.cells.lookup y=some c->x=y
 has:∀ x,(X.env.kindOf x=some .cell∨X.env.kindOf x=some .free)->∃ c,X.env.cells.lookup x=some c
 hd:X.calm=true->X.A.handled=none
 nbL:X.T.base.get? X.env.locals=none
 nbC:∀ x c,X.env.cells.lookup x=some c->X.T.base.get? c=none
structure Iv (X:Cx) (ρ:dD) (θ:Th) (μ:Mem) (s:aj):Prop where
 ok:X.Ok
 e:E0 X.T X.A X.stack θ μ s
 loc:∃ m,s.heap.Ns X.env.locals m/\∀ (i:Nat) (x:Str) (d:D),X.N[i]?=some x->ρ[i]?=some (some d)->vC X.env.scope x->∃ u,Rp s.heap θ μ d u/\Look X.env s.heap m x u
 cell:∀ x c,X.env.cells.lookup x=some c->(∃ v,s.heap.IsCell c v)/\¬oY θ μ c
 nl:¬oY θ μ X.env.locals
 len:ρ.length=X.N.length
def Cx.own (X:Cx) (b:Addr):Prop:=b=X.env.locals∨∃ x,X.oc x=true/\X.env.cells.lookup x=some b
def Sto (X:Cx) (x:Str):Prop:=X.env.scope.names.lookup x=some .local∨(X.env.scope.names.lookup x=some .cell/\X.oc x=true)
noncomputable abbrev G0 (X:Cx):=G (fun _=>False) (frs X.stack)
noncomputable abbrev GS (X:Cx):=G X.own (frs X.stack)
def Fn (X:Cx) (ρ:dD) (θ:Th) (μ:Mem) (s:aj) {α β:Type} (R:aq->Th->Mem->α->β->Prop) (Qd:α->Mem->Prop) (Q:β->aj->Prop):Prop:=
 ∀ {d:α} {u:β} {s':aj} {θ':Th} {μ':Mem},Iv X ρ θ' μ' s'->G0 X θ μ s θ' μ' s'->R s'.heap θ' μ' d u->Qd d μ'->Q u s'
noncomputable abbrev Fin (X:Cx) (ρ:dD) (θ:Th) (μ:Mem) (s:aj):=Fn X ρ θ μ s Rp
def Jg (X:Cx) {α β:Type} (R:aq->Th->Mem->α->β->Prop) (t:Sem β) (w:dD->Mem->(α->Mem->Prop)->Prop):Prop:=
 ∀ {s:aj} {ρ:dD} {θ:Th} {μ:Mem} {Qd:α->Mem->Prop} {Q:β->aj->Prop} {E:Value->aj->Prop},Iv X ρ θ μ s->w ρ μ Qd->Fn X ρ θ μ s R Qd Q->ao X.M X.A t Q E s
def Alike {α:Type}:aq->Th->Mem->α->α->Prop:=fun _ _ _ a b=>a=b
noncomputable abbrev WE:=dD->Mem->QD->Prop
noncomputable abbrev WT:=dD->Mem->(Bool->Mem->Prop)->Prop
noncomputable abbrev WA:=dD->Mem->(List D->Mem->Prop)->Prop
noncomputable abbrev PE (X:Cx) (a:Expr) (w:WE):Prop:=Jg X Rp (eval a X.env) w
noncomputable abbrev PT (X:Cx) (a:Expr) (w:WT):Prop:=Jg X Alike (w7 a X.env (eval a X.env)) w
noncomputable abbrev PA (X:Cx) (as:List Expr) (w:WA):Prop:=∀ pos,Jg X c7 (spliced (jc pos (eV as X.env))) w
section
variable {X:Cx} {V:Addr->Prop} {F:List Addr} {ρ:dD} {θ θ1 θ2:Th} {μ μ1 μ2:Mem} {s s1 s2:aj} {h':aq} {tk:Nat} {T:Top} {A:aP} {stack:List Env} {b:Addr} {o:Obj} {c c':Cell} {p:Addr×Addr} {n:Nat}
theorem G.refl:G V F θ μ s θ μ s:=⟨fun _ _ e=>e,fun _ o e l _=>⟨l,o.slots,e,fun _=>rfl⟩,fun _ o e=>⟨o,e⟩,fun _ _ e _=>e,rfl,.rfl⟩
theorem G.Xm (g:G V F θ μ s θ1 μ1 s1) (hb:s1.heap.get? b=none):s.heap.get? b=none:=by
 cases e:s.heap.get? b with
 |none=>rfl|some o=>obtain⟨o',q⟩:=g.there b o e;rw[hb]at q;cases q
theorem G.trans (g:G V F θ μ s θ1 μ1 s1) (g':G V F θ1 μ1 s1 θ2 μ2 s2):G V F θ μ s θ2 μ2 s2 where
 pre:=fun n p e=>g'.pre n p (g.pre n p e)
 keep:=fun b o e l v=>
  let⟨l1,sl,e1,f1⟩:=g.keep b o e l v;let⟨l2,sl2,e2,f2⟩:=g'.keep b _ e1 l1 v
  ⟨l2,sl2,e2,fun z=>(f2 z).trans (f1 z)⟩
 there:=fun b o e=>let⟨o',e'⟩:=g.there b o e;g'.there b o' e'
 stay:=fun n c e f=>g'.stay n c (g.stay n c e f) f
 os:=g'.os.trans g.os
 ex:=⟨fun b z=>g'.ex.1 b (g.ex.1 b z),fun b z=>(g'.ex.2 b z).elim (g.ex.2 b) fun q=>.inr (g.Xm q)⟩
theorem G.wide {V':Addr->Prop} (g:G V F θ μ s θ1 μ1 s1) (hv:∀ b o,s.heap.get? b=some o->V b->V' b):G V' F θ μ s θ1 μ1 s1:=
 ⟨g.pre,fun b o e l v=>g.keep b o e l fun z=>v (hv b o e z),g.there,g.stay,g.os,g.ex⟩
theorem G.gs (g:G0 X θ μ s θ1 μ1 s1):GS X θ μ s θ1 μ1 s1:=g.wide fun _ _ _ z=>z.elim
theorem G.kp (g:G V F θ μ s θ1 μ1 s1) (hv:∀ b o,s.heap.get? b=some o->Fix o->¬V b/\b∉F):Kp θ μ s.heap θ1 μ1 s1.heap:=
 ⟨g.pre,fun b o e f l=>by obtain⟨l1,sl,e1,f1⟩:=g.keep b o e (fun z=>l (.inr z)) (hv b o e f).1;rw[f1 (hv b o e f).2]at e1;exact⟨e1,fun z=>z.elim (fun z=>l (.inl ((g.ex.2 b z).resolve_right fun q=>by rw[e]at q;cases q))) l1⟩⟩
theorem cV (k:∀ b o,s.heap.get? b=some o->h'.get? b=some o):G V F θ μ s θ μ {s with heap:=h',toks:=tk}:=
 ⟨fun _ _ e=>e,fun b o e l _=>⟨l,o.slots,k b o e,fun _=>rfl⟩,fun b o e=>⟨o,k b o e⟩,fun _ _ e _=>e,rfl,.rfl⟩
theorem alx (w:pD T θ μ s.heap) (k:∀ b o,s.heap.get? b=some o->h'.get? b=some o) (h1:s.heap.objs.size<=p.1) (h2:s.heap.objs.size<=p.2):G V F θ μ s (θ.snoc p) (μ++[c]) {s with heap:=h',toks:=tk}:=
 ⟨fun _ _ e=>jm e,fun b o e l _=>⟨zX w l (jk (jT (eZ e) h1)) (jk (jT (eZ e) h2)),o.slots,k b o e,fun _=>rfl⟩,
  fun b o e=>⟨o,k b o e⟩,fun _ _ e _=>jm e,rfl,.rfl⟩
theorem alw (hn:μ[n]?=some c) (hp:θ.cs[n]?=some p) (h1:c≠.gone) (hf:c.fix=false) (k:∀ b o,¬(b=p.1∨b=p.2)->s.heap.get? b=some o->h'.get? b=some o)
  (th:∀ a,(a=p.1∨a=p.2)->∃ o,h'.get? a=some o):G V F θ μ s θ (μ.set n c') {s with heap:=h',toks:=tk}:=
 ⟨fun _ _ e=>e,fun b o e l _=>⟨fun z=>l (PJ hn h1 z),o.slots,k b o (fun z=>l ⟨n,p,c,hp,hn,h1,z⟩) e,fun _=>rfl⟩,fun b o e=>by
  by_cases z:b=p.1∨b=p.2
  .exact th b z
  .exact⟨o,k b o z e⟩,fun m d e f=>by
  by_cases z:m=n
  .subst z;rw[hn]at e;cases e;rw[hf]at f;cases f
  .rw[cW (bK z)];exact e,rfl,.rfl⟩
theorem E0.fr (e:E0 T A stack θ μ s) (hb:b∈frs stack):T.base.get? b=none/\¬oY θ μ b/\∃ o es ep,s.heap.get? b=some o/\o.data= .dict es ep:=by obtain⟨v,hv,q⟩:=zF.mp hb;obtain⟨_,L,o,es,ep,q',nb,ho,hd,l⟩:=e.stk v hv;rw[q]at q';cases q';exact⟨nb,l,o,es,ep,ho,hd⟩
theorem E0.nfr (e:E0 T A stack θ μ s):s.heap.get? b=some o->Fix o->b∉frs stack:=fun h f hb=>by obtain⟨_,_,o',es,ep,h',d⟩:=e.fr hb;rw[h]at h';cases h';rcases f with⟨_,_,f⟩|⟨_,_,f⟩<;>rw[d]at f<;>cases f
theorem E0.kp (e:E0 T A stack θ μ s) (g:G (fun _=>False) (frs stack) θ μ s θ1 μ1 s1):Kp θ μ s.heap θ1 μ1 s1.heap:=g.kp fun _ _ h f=>⟨id,e.nfr h f⟩
theorem E0.bk (e:E0 T A stack θ μ s):∀ b o,T.base.get? b=some o->s.heap.get? b=some o:=fun b o q=>(e.bs b o q).1
theorem E0.Fq (e:E0 T A stack θ μ s):T.K.In s.heap:=e.mod.kin.keeps e.bk
theorem E0.lim (e:E0 T A stack θ μ s):s.heap.NoLimit:=e.mod.nolimit.keeps e.bk
theorem E0.hds (e:E0 T A stack θ μ s):sG A s.heap:=fun v q=>by obtain⟨n,p,c,ks,ds,z,hp,hn⟩:=e.hh v q;obtain⟨C,o,vs,_,h1,_,_,h4,h5,_⟩:=e.dG.cell n _ p hn hp;exact⟨p.1,o,vs,z,h1,h4,h5⟩
theorem E0.to (e:E0 T A stack θ μ s) (g:G (fun _=>False) (frs stack) θ μ s θ1 μ1 s1) (w:pD T θ1 μ1 s1.heap) (hb:Hx s1.gens):E0 T A stack θ1 μ1 s1 where
 mod:=e.mod
 frames:=e.frames
 bare:=hb
 bs:=fun b o q=>by obtain⟨e1,l1⟩:=e.bs b o q;obtain⟨l2,sl,e2,f⟩:=g.keep b o e1 l1 id;rw[f fun z=>by rw[(e.fr z).1]at q;cases q]at e2;exact⟨e2,l2⟩
 stk:=fun v m=>by obtain⟨k,L,o,es,ep,f,nb,ho,hd,l⟩:=e.stk v m;obtain⟨l2,sl,e2,_⟩:=g.keep L o ho l id;exact⟨k,L,_,es,ep,f,nb,e2,hd,l2⟩
 dG:=w
 hh:=fun v q=>by obtain⟨n,p,c,ks,ds,z,hp,hn⟩:=e.hh v q;exact⟨n,p,c,ks,ds,z,g.pre n p hp,g.stay n _ hn rfl⟩
theorem aeG {h h':aq} {a:Addr} {m:Str->Option Value} (x:h.Ns a m) (f:∀ o,h.get? a=some o->∃ sl,h'.get? a=some {o with slots:=sl}):h'.Ns a m:=
 let⟨o,es,ep,e,r⟩:=x;let⟨_,q⟩:=f o e;⟨_,es,ep,q,r⟩
theorem Yq {h h':aq} {a:Addr} {v:Option Value} (x:h.IsCell a v) (f:∀ o,h.get? a=some o->∃ sl,h'.get? a=some {o with slots:=sl}):h'.IsCell a v:=
 let⟨o,e,r⟩:=x;let⟨_,q⟩:=f o e;⟨_,q,r⟩
theorem Iv.kp (i:Iv X ρ θ μ s) (g:G0 X θ μ s θ1 μ1 s1):Kp θ μ s.heap θ1 μ1 s1.heap:=i.e.kp g
theorem Iv.to (i:Iv X ρ θ μ s) (g:G0 X θ μ s θ1 μ1 s1) (w:pD X.T θ1 μ1 s1.heap) (hb:Hx s1.gens):Iv X ρ θ1 μ1 s1 where
 ok:=i.ok
 e:=i.e.to g w hb
 loc:=by obtain⟨m,hn,hl⟩:=i.loc;refine⟨m,aeG hn fun o q=>let⟨_,sl,z,_⟩:=g.keep _ o q i.nl id;⟨sl,z⟩,fun j x d e1 e2 e3=>?_⟩;obtain⟨u,r,l⟩:=hl j x d e1 e2 e3;refine⟨u,(i.kp g).rp r,l.imp id fun⟨k,c,e,z⟩=>⟨k,c,e,Yq z fun o q=>let⟨_,sl,z,_⟩:=g.keep _ o q (i.cell x c e).2 id;⟨sl,z⟩⟩⟩
 cell:=fun x c e=>by obtain⟨⟨v,z⟩,l⟩:=i.cell x c e;obtain⟨o,q,hd⟩:=id z;obtain⟨l',sl,q',_⟩:=g.keep c o q l id;exact⟨⟨v,_,q',hd⟩,l'⟩
 nl:=by obtain⟨m,⟨o,_,_,q,_⟩,_⟩:=i.loc;exact(g.keep _ o q i.nl id).1
 len:=i.len
theorem Iv.kept (i:Iv X ρ θ μ s) (k:∀ b o,s.heap.get? b=some o->h'.get? b=some o):Iv X ρ θ μ {s with heap:=h',toks:=tk}:=i.to (cV k) (i.e.dG.kept k) i.e.bare
theorem Iv.tok (i:Iv X ρ θ μ s):Iv X ρ θ μ {s with toks:=tk}:=i.kept fun _ _ e=>e
theorem Iv.dG (i:Iv X ρ θ μ s):pD X.T θ μ s.heap:=i.e.dG
theorem Iv.Fq (i:Iv X ρ θ μ s):X.T.K.In s.heap:=i.e.Fq
end
section
variable {X:Cx} {α β:Type} {R:aq->Th->Mem->α->β->Prop} {ρ:dD} {θ θ1:Th} {μ μ1:Mem} {s s1:aj} {h':aq} {tk:Nat} {Qa:α->Mem->Prop} {Qb:β->aj->Prop} {Qd:QD} {Q:Value->aj->Prop} {d:D} {u:Value} {ds:List D} {us:List Value} {a:Addr} {c c':Cell} {p:Addr×Addr} {n:Nat} {j:Nat}
theorem Fn.mono (f:Fn X ρ θ μ s R Qa Qb) (g:G0 X θ μ s θ1 μ1 s1):Fn X ρ θ1 μ1 s1 R Qa Qb:=fun i g' r q=>f i (g.trans g') r q
theorem Fn.at {x:α} {y:β} (f:Fn X ρ θ μ s R Qa Qb) (i:Iv X ρ θ μ s) (r:R s.heap θ μ x y) (q:Qa x μ):Qb y s:=f i .refl r q
theorem Fn.hp {x:α} {y:β} (f:Fn X ρ θ μ s R Qa Qb) (i:Iv X ρ θ μ s) (k:∀ b o,s.heap.get? b=some o->h'.get? b=some o) (r:R h' θ μ x y) (q:Qa x μ):Qb y {s with heap:=h',toks:=tk}:=f (i.kept k) (cV k) r q
theorem Fn.tok {x:α} {y:β} (f:Fn X ρ θ μ s R Qa Qb) (i:Iv X ρ θ μ s) (r:R s.heap θ μ x y) (q:Qa x μ):Qb y {s with toks:=tk}:=f i.tok (cV fun _ _ e=>e) r q
def sqD:Nat->List D->D
 |0,ds=>.tup ds|1,ds=>.lst ds|_,ds=>.ro ds
theorem ak6 {h:aq} (x:jP h j a us) (l:¬KY θ μ a) (r:c7 h θ μ ds us):Rp h θ μ (sqD j ds) (.ref a):=by
 match j,x with
 |0,x=>exact⟨a,us,rfl,x,l,r⟩|1,x=>exact⟨a,us,rfl,x,l,r⟩|_+2,x=>exact⟨a,us,rfl,x,l,r⟩
theorem Fn.sq (f:Fin X ρ θ μ s Qd Q) (i:Iv X ρ θ μ s) (k:∀ b o,s.heap.get? b=some o->h'.get? b=some o) (hp:s.heap.objs.size<=a) (x:jP h' j a us) (r:c7 s.heap θ μ ds us) (q:Qd (sqD j ds) μ):
  Q (.ref a) {s with heap:=h',toks:=tk}:=f.hp i k (ak6 x (i.dG.RG hp) ((jE k).Fi r)) q
theorem Iv.new (i:Iv X ρ θ μ s) (k:∀ b o,s.heap.get? b=some o->h'.get? b=some o) (h1:s.heap.objs.size<=p.1) (h2:s.heap.objs.size<=p.2) (th:∀ a,(a=p.1∨a=p.2)->∃ o,h'.get? a=some o)
  (hc:pC X.T h' (θ.snoc p) (μ++[c]) p c):Iv X ρ (θ.snoc p) (μ++[c]) {s with heap:=h',toks:=tk}/\G0 X θ μ s (θ.snoc p) (μ++[c]) {s with heap:=h',toks:=tk}:=by
 have g:G0 X θ μ s (θ.snoc p) (μ++[c]) {s with heap:=h',toks:=tk}:=alx i.dG k h1 h2;exact⟨i.to g (i.dG.new k h1 h2 th hc) i.e.bare,g⟩
theorem Fn.cell (f:Fin X ρ θ μ s Qd Q) (i:Iv X ρ θ μ s) (k:∀ b o,s.heap.get? b=some o->h'.get? b=some o) (h1:s.heap.objs.size<=p.1) (h2:s.heap.objs.size<=p.2) (th:∀ a,(a=p.1∨a=p.2)->∃ o,h'.get? a=some o)
  (hc:pC X.T h' (θ.snoc p) (μ++[c]) p c) (q:Qd (.loc μ.length) (μ++[c])):Q (.ref p.1) {s with heap:=h',toks:=tk}:=by
 obtain⟨i',g⟩:=i.new (tk:=tk) k h1 h2 th hc;exact f i' g (show Rp _ _ _ (.loc μ.length) _ from⟨p,rfl,by rw[<-i.dG.len];simp[Th.snoc]⟩) q
theorem Fn.newL {m:Bool} (f:Fin X ρ θ μ s Qd Q) (i:Iv X ρ θ μ s) (k:∀ b o,s.heap.get? b=some o->h'.get? b=some o) (hp:s.heap.objs.size<=a) (x:jP h' 1 a us) (r:c7 s.heap θ μ ds us) (q:newL m ds μ Qd):
  Q (.ref a) {s with heap:=h',toks:=tk}:=by
 cases m with
 |false=>exact f.sq i k hp x r q|true=>obtain⟨_,o,e,_⟩:=x.fix;exact f.cell (p:=(a,a)) (c:=.lst ds) i k hp hp (fun b z=>⟨o,by rcases z with rfl|rfl<;>exact e⟩) ⟨us,x,(ae3 i.dG k hp hp).Fi r,rfl⟩ q
theorem Iv.set (i:Iv X ρ θ μ s) (hn:μ[n]?=some c) (hp:θ.cs[n]?=some p) (h1:c≠.gone) (hf:c.fix=false) (k:∀ b o,¬(b=p.1∨b=p.2)->s.heap.get? b=some o->h'.get? b=some o)
  (th:∀ a,(a=p.1∨a=p.2)->∃ o,h'.get? a=some o) (hc:pC X.T h' θ (μ.set n c') p c'):
  Iv X ρ θ (μ.set n c') {s with heap:=h',toks:=tk}/\G0 X θ μ s θ (μ.set n c') {s with heap:=h',toks:=tk}:=by
 have g:G0 X θ μ s θ (μ.set n c') {s with heap:=h',toks:=tk}:=alw hn hp h1 hf k th;exact⟨i.to g (i.dG.set hn hp h1 k th hc) i.e.bare,g⟩
theorem Iv.lst {h:aq} (i:pD X.T θ μ h) (hn:μ[n]?=some (.lst ds)) (r:Rp h θ μ (.loc n) u):∃ p us,u= .ref p.1/\θ.cs[n]?=some p/\p.2=p.1/\jP h 1 p.1 us/\c7 h θ μ ds us:=by obtain⟨p,rfl,e⟩:=r;obtain⟨us,x,y,z⟩:=i.cell n _ p hn e;exact⟨p,us,rfl,e,z,x,y⟩
theorem Iv.aiZ {es:List D} {vs:List Value} (i:Iv X ρ θ μ s) (hn:μ[n]?=some (.lst ds)) (hp:θ.cs[n]?=some p) (h2:p.2=p.1) (k:∀ b o,b≠p.1->s.heap.get? b=some o->h'.get? b=some o) (x:jP h' 1 p.1 vs) (r:c7 s.heap θ μ es vs):
  Iv X ρ θ (μ.set n (.lst es)) {s with heap:=h',toks:=tk}/\G0 X θ μ s θ (μ.set n (.lst es)) {s with heap:=h',toks:=tk}/\Kp θ μ s.heap θ (μ.set n (.lst es)) h':=by
 obtain⟨_,o,e,_⟩:=x.fix;have k':∀ b o,¬(b=p.1∨b=p.2)->s.heap.get? b=some o->h'.get? b=some o:=fun b o z q=>k b o (fun y=>z (.inl y)) q;have kp:Kp θ μ s.heap θ (μ.set n (.lst es)) h':=yt hn hp (by simp) k';obtain⟨i',g⟩:=i.set (tk:=tk) (c':=.lst es) hn hp (by simp) rfl k' (fun a z=>⟨o,by rcases z with rfl|rfl<;>first|exact e|(rw[h2];exact e)⟩) ⟨vs,x,kp.Fi r,h2⟩;exact⟨i',g,kp⟩
def U3:D->Nat
 | .tup _=>0| .ro _=>2|_=>1
theorem vR {h:aq} {ν:Mem} (w:pD X.T θ ν h) (r:Rp h θ ν d u) (e:aC ν d=some ds):∃ a us,u= .ref a/\jP h (U3 d) a us/\c7 h θ ν ds us:=by
 cases d with
 |tup es=>cases e;exact let⟨a,us,q,x,_,y⟩:=r;⟨a,us,q,x,y⟩
 |lst es=>cases e;exact let⟨a,us,q,x,_,y⟩:=r;⟨a,us,q,x,y⟩
 |ro es=>cases e;exact let⟨a,us,q,x,_,y⟩:=r;⟨a,us,q,x,y⟩
 |loc n=>
  simp only[aC]at e;split at e
  .rename_i es hn
   cases e;obtain⟨p,us,q,_,_,x,y⟩:=Iv.lst w hn r;exact⟨p.1,us,q,x,y⟩
  .cases e
 |_=>cases e
end
end DW
namespace DW
open PySem PySem.Spec PyProof.Rows
open L2 (aN Key frs vC Loc Look Mod sG cT)
def Op2 (X:Cx) (t:Value->Value->Sem Value) (w:D->D->Mem->QD->Prop):Prop:=
 ∀ {s:aj} {ρ:dD} {θ:Th} {μ:Mem} {x y:D} {u v:Value} {Qd:QD} {Q:Value->aj->Prop} {E:Value->aj->Prop},Iv X ρ θ μ s->Rp s.heap θ μ x u->Rp s.heap θ μ y v->w x y μ Qd->Fin X ρ θ μ s Qd Q->ao X.M X.A (t u v) Q E s
def ZV (X:Cx) (t:List Value->Sem Value) (w:List D->Mem->QD->Prop):Prop:=
 ∀ {s:aj} {ρ:dD} {θ:Th} {μ:Mem} {ds:List D} {us:List Value} {Qd:QD} {Q:Value->aj->Prop} {E:Value->aj->Prop},Iv X ρ θ μ s->c7 s.heap θ μ ds us->w ds μ Qd->Fin X ρ θ μ s Qd Q->ao X.M X.A (t us) Q E s
theorem yr:lim=sizeLine:=by rw[cY];rfl
theorem PN:(sizeLine:Nat)<2 ^ 63:=by rw[cY];decide
section
variable {h:aq} {θ:Th} {μ:Mem} {t:Tok}
theorem Bv:Rp h θ μ .non .none:=rfl
theorem Rz:Rp h θ μ (.bl b) (.bool b):=rfl
theorem iJ:Rp h θ μ (.int i) (.int i t):=⟨t,rfl⟩
theorem mQ (e:i=j):Rp h θ μ (.int i) (.int j t):=⟨t,by rw[e]⟩
theorem wX (l:x.length<=sizeLine):Rp h θ μ (.str x) (.str ⟨x.toArray⟩ t):=⟨⟨t,rfl⟩,l⟩
end
section
variable {X:Cx} {wa wb wc:WE} {a b c:Expr} {pos:Pos}
theorem ajA {j:Nat} {x:Str} (hN:X.N[j]?=some x) (hv:vC X.env.scope x) (hd:(x==("__debug__":Str))=false) (hcd:(x==("__classdict__":Str))=false):PE X (.Name x pos) (wE (.var j)):=by
 intro s ρ θ μ Qd Q E i h f;unfold wE at h;split at h
 .rename_i d e
  obtain⟨m,hn,hl⟩:=i.loc;obtain⟨u,r,l⟩:=hl j x d hN e hv;have q:=f.at i r h;rcases l with⟨hk,hm⟩|⟨hk,c,hc,hcell⟩
  .exact Vr (wpAny_loadName_local i.ok.kind hk hn hm q) hd
  .rcases hk with hk|hk
   .exact Vr (wpAny_loadName_cell i.ok.kind hk hc hcell q) hd
   .exact Vr (wpAny_loadName_free i.ok.kind hk hc hcell q hcd) hd
 .exact h.elim
def Gl (X:Cx) (x:Str):Prop:=X.env.kindOf x=some .globalImplicit
variable {ρ:dD} {θ:Th} {μ:Mem} {s:aj} {x:Str} {u:Value} {Q:Value->aj->Prop} {E:Value->aj->Prop}
theorem vm (i:Iv X ρ θ μ s) (hg:Gl X x) (hm:X.T.mg x=some u) (hd:(x==("__debug__":Str))=false) (h:Q u s):ao X.M X.A (eval (.Name x pos) X.env) Q E s:=
 aed i.ok.kind hg (Calls.loadGlobal_global (by rw[i.ok.glob];exact i.e.mod.glob.keeps i.e.bk) hm h) hd
theorem uF (i:Iv X ρ θ μ s) (hg:Gl X x) (hm:X.T.mg x=none) (hv:Cm x=some u) (hn:x≠"__name__") (hd:(x==("__debug__":Str))=false) (h:Q u s):ao X.M X.A (eval (.Name x pos) X.env) Q E s:=by obtain⟨mb,h1,h2⟩:=i.e.mod.blt;exact aed i.ok.kind hg (Calls.loadGlobal_builtin (by rw[i.ok.glob];exact i.e.mod.glob.keeps i.e.bk) hm (by rw[i.ok.blt];exact h1.keeps i.e.bk) ((h2 x hn).trans hv) h) hd
theorem ahW {i j:Int} (h:af5 i j):IntMulOk i j:=by
 rcases h with⟨h1,h2⟩|⟨h1,h2⟩
 .exact .of_left (intBits_le_64 h1 h2)
 .exact .of_right (intBits_le_64 h1 h2)
theorem fW {h:aq} {us:List Value} {a:Addr} (x:jP h 0 a us):IsTup h a us.toArray:=let⟨_,o,n,e,c,d,_⟩:=x;⟨o,e,c,n,d⟩
theorem fY {h:aq} {us:List Value} {a:Addr} {k:Nat} (x:jP h k a us) (hk:k≠0):PlainL h a us.toArray:=by
 match k,x,hk with
 |0,_,hk=>exact absurd rfl hk|1,⟨_,n,e⟩,_=>exact⟨_,n,e,rfl,rfl,rfl⟩|_+2,⟨_,z⟩,_=>exact z
theorem agr {A:aP} {t b:Addr} {vs ws:List Value} (ht:jP s.heap 0 t vs) (hb:jP s.heap 0 b ws) (h0:vs=[]->Q (.ref b) s) (h1:vs≠[]->ws=[]->Q (.ref t) s)
  (h2:vs≠[]->ws≠[]->Q (.ref s.heap.objs.size) {s with heap:=s.heap.push {cls:=.type "tuple",data:=.seq (vs++ws).toArray}}) (hsz:vs.length+ws.length<=sizeLine):
  ao X.M A (Nq .Add (.ref t) (.ref b)) Q E s:=by
 obtain⟨_,⟨c1,d1,a1,s1⟩,n1,g1,e1,f1,_⟩:=ht;obtain⟨_,⟨c2,d2,a2,s2⟩,n2,g2,e2,f2,_⟩:=hb;cases e1;cases f1;cases e2;cases f2;by_cases h:vs=[]
 .subst h
  exact VJ ⟨_,g1,rfl⟩ ⟨_,g2,rfl⟩ Wv V8 W8 Xa (Xb _ _) (tuple_addW0 t b _ ws.toArray n1 n2 d1 d2 s1 s2 rfl) ⟨g1,g2,h0 rfl⟩
 .by_cases hw:ws=[]
  .exact VJ ⟨_,g1,rfl⟩ ⟨_,g2,rfl⟩ Wv V8 W8 Xa (Xb _ _)
    (tuple_addW1 t b vs.toArray ws.toArray n1 n2 d1 d2 s1 s2 (by simpa using h) (by simp[hw])) ⟨g1,g2,h1 h hw⟩
  .refine VJ ⟨_,g1,rfl⟩ ⟨_,g2,rfl⟩ Wv V8 W8 Xa (Xb _ _)
    (tuple_addW2 t b vs.toArray ws.toArray n1 n2 d1 d2 s1 s2 (by simpa using h) (by simpa using hw) (by rw[cF,cF];exact hsz)) ⟨g1,g2,?_⟩
   rw[show vs.toArray++ws.toArray=(vs++ws).toArray by simp];exact h2 h hw
theorem qI (h:aq) {us:List Value} (l:us.length<=sizeLine):jP (h.push {cls:=.type "list",data:=.seq us.toArray}) 1 h.objs.size us/\jP (h.push {cls:=.type "tuple",data:=.seq us.toArray}) 0 h.objs.size us:=
 ⟨⟨l,_,iH _ rfl⟩,l,_,_,iH _ rfl,rfl,rfl,rfl⟩
theorem cZ {h:aq} {o:Obj}:∀ b o',h.get? b=some o'->(h.push o).get? b=some o':=fun _ _ e=>eG _ e
theorem agw {A:aP} {x:List Nat} {n:Int} {t t':Tok} (h:0<=n/\n<=1000/\1<=x.length/\x.length<=1000) (q:∀ t k,Q (.str ⟨(bD n.toNat x).flatten.toArray⟩ t) {s with toks:=k}):
  (bD n.toNat x).flatten.length<=sizeLine/\ao X.M A (Nq .Mult (.str ⟨x.toArray⟩ t) (.int n t')) Q E s:=by
 obtain⟨n2,n3,a1,a2⟩:=h;have hal:(⟨x.toArray⟩:Str).length=x.length:=by simp[eE]
 have alq:∀ (m:Nat) (acc:Array Nat),((bD m x.toArray).foldl (·++·) acc).toList=acc.toList++(bD m x).flatten:=by
  intro m;induction m with
  |zero=>intro acc;simp|succ m ih=>intro acc;rw[adv,pR,ih];simp[adv]
 have hle:n.toNat*x.length<=1000*1000:=acr (by lia) a2;have Zy:(bD n.toNat x).flatten.length<=sizeLine:=by rw[show(bD n.toNat x).flatten.length=n.toNat*x.length by simp,cY];lia
 have e:(⟨(bD n.toNat (⟨x.toArray⟩:Str).cps).foldl (·++·) #[]⟩:Str)=⟨(bD n.toNat x).flatten.toArray⟩:=by have:=alq n.toNat #[];congr 1;apply xW.mp;simpa using this
 refine⟨Zy,PySem.P.mul_str (by rw[decide_eq_false (by lia),decide_eq_false (by lia)];rfl) (fun _ _=>?_) (fun _ _=>?_) ?_⟩
 .rw[hal]
  have:(1000:Int)<=(2 ^ 63 -1)/n:=(Int.le_ediv_iff_mul_le (by lia)).mpr (by lia);lia
 .rw[hal]
  have h3:x.length*n.toNat<=1000000:=by rw[Nat.mul_comm];lia
  unfold Vg;exact decide_eq_false (Nat.not_lt.mpr (jR h3 (by rw[cY];decide)))
 .by_cases n0:n=0
  .subst n0
   exact⟨by decide,q _ _⟩
  by_cases n1:n=1
  .subst n1
   have z:=q t s.toks;rw[show(bD (1:Int).toNat x).flatten=x by simp]at z;exact z
  rw[if_neg (by lia),if_neg (by rw[hal];simp only[xU,beq_iff_eq];lia),e];exact⟨by simpa[eE]using Zy,q _ _⟩
theorem ahO {A:aP} {op:jx} {i j:Int} {t t':Tok} {Qd:QD} (hw:jq op (.int i) (.int j) μ Qd) (q:∀ k,Qd (.int k) μ->Q (.int k s.toks) {s with toks:=s.toks+1}):ao X.M A (Nq op (.int i t) (.int j t')) Q E s:=by
 cases op with
 |Add=>exact add_int (q _ hw)|Sub=>exact sub_int (q _ hw)|Mult=>exact mul_int (q _ hw.2) (ahW hw.1)|FloorDiv=>
  obtain⟨⟨h1,h2⟩,hw⟩:=hw;refine floordiv_int (by lia) ?_ (.inl (ad5 ?_))
  .rw[Xf i (by lia)];exact q _ hw
  .have h4:j.natAbs≠0:=by lia
   have:=(Vy h4).mpr (show j.natAbs<2 ^ 500 by lia);lia
 |Mod=>obtain⟨h1,hw⟩:=hw;exact mod_int' (by lia) (by rw[aec i (by lia)];exact q _ hw)|Pow=>exact pow_int_small hw.1.1 hw.1.2.1 hw.1.2.2 (q _ hw.2)|LShift=>obtain⟨h1,hw⟩:=hw;exact lshift_int_small h1.1 (by lia) h1.2.2 (q _ hw)|RShift=>obtain⟨h1,hw⟩:=hw;refine rshift_int h1 ?_;rw[Xf i (Int.le_of_lt (Int.pow_pos (by decide)))];exact q _ hw|BitAnd=>
  obtain⟨⟨h0,rfl⟩,hw⟩:=hw;refine and_int ?_;have e:Wg i 1=i%2:=by obtain⟨n,rfl⟩:=adZ h0;rw[show Wg (n:Int) 1=((n&&&1:Nat):Int) by unfold Wg;simp,Nat.and_one_is_mod];lia
  rw[e];exact q _ hw
 |_=>exact hw.elim
theorem akE (op:jx):Op2 X (Nq op) (jq op):=by
 intro s ρ θ μ x y u v Qd Q E I rx ry hw f
 match x,y,hw with
 | .int i,.int j,hw=>obtain⟨t,rfl⟩:=rx;obtain⟨t',rfl⟩:=ry;exact ahO hw fun k z=>f.tok I iJ z
 | .str a,.str b,hw=>
  obtain⟨⟨t,rfl⟩,hx⟩:=rx;obtain⟨⟨t',rfl⟩,hy⟩:=ry;cases op with
  |Add=>
   (have hl:(a++b).length<=sizeLine:=by rw[gG,<-yr];exact hw.1);refine add_str (fun t' k=>?_) (by rw[<-yr];show a.toArray.size+b.toArray.size<=_;simpa using hw.1);have e:(⟨a.toArray⟩++⟨b.toArray⟩:Str)=⟨(a++b).toArray⟩:=by show Str.mk (a.toArray++b.toArray)=_;simp
   rw[e];exact f.tok I (wX hl) hw.2
  |_=>exact hw.elim
 | .str a,.int n,hw=>
  obtain⟨⟨t,rfl⟩,hx⟩:=rx;obtain⟨t',rfl⟩:=ry;cases op with
  |Mult=>obtain⟨hl,z⟩:=agw (X:=X) (A:=X.A) (Q:=fun v s'=>(∃ t k,v= .str ⟨(bD n.toNat a).flatten.toArray⟩ t/\s'={s with toks:=k})) (E:=E) (t:=t) (t':=t') hw.1 fun t k=>⟨t,k,rfl,rfl⟩;exact j6 z (fun v s' ⟨t,k,e,e'⟩=>by subst e e';exact f.tok I (wX hl) hw.2) fun _ _ z=>z
  |_=>exact hw.elim
 | .lst a,.lst b,hw=>
  obtain⟨p,us,rfl,⟨_,n,e⟩,_,r1⟩:=rx;obtain⟨p',us',rfl,⟨_,n',e'⟩,_,r2⟩:=ry;cases op with
  |Add=>(have l:(us++us').length<=sizeLine:=by rw[gG,r1.length,r2.length,<-yr];exact hw.1);refine PySem.P.add_list e e' ?_ (by simpa using l);rw[show us.toArray++us'.toArray=(us++us').toArray by simp];exact f.sq I cZ (aB _) (qI _ l).1 (r1.append r2) hw.2|_=>exact hw.elim
 | .tup a,.tup b,hw=>
  have rx':=rx;have ry':=ry;obtain⟨p,us,rfl,x1,_,r1⟩:=rx;obtain⟨p',us',rfl,x2,_,r2⟩:=ry;cases op with
  |Add=>
   (have l:us.length+us'.length<=sizeLine:=by rw[r1.length,r2.length,<-yr];exact hw.1);refine agr x1 x2 (fun z=>?_) (fun _ z=>?_) (fun _ _=>f.sq I cZ (aB _) (qI _ (by simpa using l)).2 (r1.append r2) hw.2) l
   .have e:a=[]:=zJ.mp (by rw[<-r1.length,z];rfl)
    subst e;exact f.at I ry' hw.2
   .have e:b=[]:=zJ.mp (by rw[<-r2.length,z];rfl)
    subst e;exact f.at I rx' (by have:=hw.2;rwa[qZ]at this)
  |_=>exact hw.elim
theorem ajO {op:jx} (ha:PE X a wa) (hb:PE X b wb):PE X (.BinOp a op b pos) (fun ρ μ Q=>wa ρ μ fun x μ1=>wb ρ μ1 fun y μ2=>jq op x y μ2 Q):=fun i h f=>wpAny_BinOp (ha i h fun i1 g1 r1 h1=>hb i1 h1 fun i2 g2 r2 h2=>akE op i2 ((i1.kp g2).rp r1) r2 h2 (f.mono (g1.trans g2)))
end
end DW
namespace DW
open PySem PySem.Spec PyProof.Rows
open L2 (aN Key frs vC Loc Look Mod sG cT)
mutual
noncomputable def pd:D->PyData
 | .non=>.none| .bl b=>.bool b| .int i=>.int i| .str x=>.str ⟨x.toArray⟩| .tup ds=>.tuple (Lg ds)| .lst ds=>.list (Lg ds)|_=>.none
noncomputable def Lg:List D->List PyData
 |[]=>[]|d::ds=>pd d::Lg ds
end
mutual
theorem dO:∀ (n:Nat) (d:D),flat n d=true->(pd d).canLay0=true
 |_,.non,_=>by simp[pd,Cp]|_,.bl _,_=>by simp[pd,Cp]|_,.int _,_=>by simp[pd,Cp]|_,.str x,h=>by simp only[pd,Cp,PyData.strOk];simpa[flat]using h|n+1,.tup ds,h=>by simp only[pd,Cp];exact yN n ds (by simpa[flat]using h)|n+1,.lst ds,h=>by simp only[pd,Cp];exact yN n ds (by simpa[flat]using h)|0,.tup _,h=>by simp[flat]at h|0,.lst _,h=>by simp[flat]at h|_,.ro _,h=>by simp[flat]at h|_,.loc _,h=>by simp[flat]at h|_,.jN _ _,h=>by simp[flat]at h
theorem yN:∀ (n:Nat) (ds:List D),flats n ds=true->WL (Lg ds)=true
 |_,[],_=>by simp[Lg,WL]|n,d::ds,h=>by
  have h':flat n d=true/\flats n ds=true:=by simpa[flats]using h
  simp only[Lg,WL,dO n d h'.1,yN n ds h'.2,V7]
end
mutual
theorem Ay:∀ (n:Nat) (d:D),flat n d=true->(pd d).depth<=n
 |_,.non,_=>by simp[pd,Cj]|_,.bl _,_=>by simp[pd,Cj]|_,.int _,_=>by simp[pd,Cj]|_,.str x,h=>by simp[pd,Cj]|n+1,.tup ds,h=>by simp only[pd,Cj];have:=Dp n ds (by simpa[flat]using h);lia|n+1,.lst ds,h=>by simp only[pd,Cj];have:=Dp n ds (by simpa[flat]using h);lia|0,.tup _,h=>by simp[flat]at h|0,.lst _,h=>by simp[flat]at h|_,.ro _,h=>by simp[flat]at h|_,.loc _,h=>by simp[flat]at h|_,.jN _ _,h=>by simp[flat]at h
theorem Dp:∀ (n:Nat) (ds:List D),flats n ds=true->Wj (Lg ds)<=n
 |_,[],_=>by simp[Lg,Wj]|n,d::ds,h=>by
  have h':flat n d=true/\flats n ds=true:=by simpa[flats]using h
  simp only[Lg,Wj];have h1:=Ay n d h'.1;have h2:=Dp n ds h'.2;lia
end
theorem GR (x y:List Nat):((⟨x.toArray⟩:Str)==⟨y.toArray⟩)=(x==y):=by
 by_cases h:x=y
 .subst h;simp
 .have h1:¬(⟨x.toArray⟩:Str)=⟨y.toArray⟩:=fun e=>h (by injection e with e;simpa using congrArg HS e)
  rw[beq_eq_false_iff_ne.mpr h1,beq_eq_false_iff_ne.mpr h]
mutual
theorem yH:∀ (n m:Nat) (d e:D),flat n d=true->flat m e=true->nA (pd d) (pd e)=lN d e
 |_,_,.non,e,_,he=>by cases e<;>simp_all[pd,nA,lN,flat]
 |_,_,.bl a,e,_,he=>by cases e<;>simp_all[pd,nA,lN,flat,b2i]
 |_,_,.int i,e,_,he=>by cases e<;>simp_all[pd,nA,lN,flat,b2i]
 |_,_,.str x,e,_,he=>by cases e<;>simp_all[pd,nA,lN,flat,GR]
 |n+1,m,.tup ds,e,hd,he=>by
  cases e with
  |tup es=>
   cases m with
   |zero=>simp[flat]at he|succ m=>simp only[pd,nA,lN];exact Qt n m ds es (by simpa[flat]using hd) (by simpa[flat]using he)
  |_=>simp_all[pd,nA,lN,flat]
 |n+1,m,.lst ds,e,hd,he=>by
  cases e with
  |lst es=>
   cases m with
   |zero=>simp[flat]at he|succ m=>simp only[pd,nA,lN];exact Qt n m ds es (by simpa[flat]using hd) (by simpa[flat]using he)
  |_=>simp_all[pd,nA,lN,flat]
 |0,_,.tup _,_,h,_=>by simp[flat]at h|0,_,.lst _,_,h,_=>by simp[flat]at h|_,_,.ro _,_,h,_=>by simp[flat]at h|_,_,.loc _,_,h,_=>by simp[flat]at h|_,_,.jN _ _,_,h,_=>by simp[flat]at h
theorem Qt:∀ (n m:Nat) (ds es:List D),flats n ds=true->flats m es=true->N8 (Lg ds) (Lg es)=Kz ds es
 |_,_,[],es,_,_=>by cases es<;>simp[Lg,N8,Kz]
 |n,m,d::ds,es,hd,he=>by
  cases es with
  |nil=>simp[Lg,N8,Kz]|cons e es=>(have hd':flat n d=true/\flats n ds=true:=by simpa[flats]using hd);(have he':flat m e=true/\flats m es=true:=by simpa[flats]using he);simp only[Lg,N8,Kz];rw[yH n m d e hd'.1 he'.1,Qt n m ds es hd'.2 he'.2]
end
section
variable {h:aq} {θ:Th} {μ:Mem}
mutual
theorem eO:∀ (n:Nat) (d:D) (u:Value),Rp h θ μ d u->flat n d=true->∃ as,Reads h u (pd d) as
 |_,.non,_,r,_=>by cases(show _=iR from r);exact⟨_,by unfold pd;exact .none⟩
 |_,.bl b,_,r,_=>by cases(show _=gM b from r);exact⟨_,by unfold pd;exact .bool b⟩
 |_,.int i,_,r,_=>by obtain⟨t,rfl⟩:=r;exact⟨_,by unfold pd;exact .int i t⟩|_,.str x,_,r,_=>by obtain⟨⟨t,rfl⟩,_⟩:=r;exact⟨_,by unfold pd;exact .str _ t⟩|n+1,.tup ds,_,⟨a,us,e,⟨_,o,k,ho,hc,hd,_⟩,_,rs⟩,f=>by obtain⟨as,ra⟩:=tK n ds us rs (by simpa[flat]using f);exact⟨as,by rw[e];unfold pd;exact .tuple ho hc hd (by simpa using ra)⟩|n+1,.lst ds,_,⟨a,us,e,⟨_,k,ho⟩,_,rs⟩,f=>by obtain⟨as,ra⟩:=tK n ds us rs (by simpa[flat]using f);exact⟨a::as,by rw[e];unfold pd;exact .list ho rfl rfl (by simpa using ra)⟩|0,.tup _,_,_,f=>by simp[flat]at f|0,.lst _,_,_,f=>by simp[flat]at f|_,.ro _,_,_,f=>by simp[flat]at f|_,.loc _,_,_,f=>by simp[flat]at f|_,.jN _ _,_,_,f=>by simp[flat]at f
theorem tK:∀ (n:Nat) (ds:List D) (us:List Value),c7 h θ μ ds us->flats n ds=true->∃ as,ReadsAll h us (Lg ds) as
 |_,[],us,r,_=>by cases(show _=[]from r);exact⟨_,by unfold Lg;exact .nil⟩
 |n,d::ds,_,⟨u,r,e,h1,h2⟩,f=>by
  have f':flat n d=true/\flats n ds=true:=by simpa[flats]using f
  obtain⟨as,ra⟩:=eO n d u h1 f'.1;obtain⟨bs,rb⟩:=tK n ds r h2 f'.2;exact⟨as++bs,by rw[e];unfold Lg;exact .cons ra rb⟩
end
end
theorem Gg:∀ (x y:List Nat),dI x y=decide (x<y)
 |[],[]=>by simp[dI]|[],_::_=>by simp[dI]|_::_,[]=>by simp[dI]|a::x,b::y=>by
  unfold dI;by_cases h:a=b
  .subst h
   rw[if_pos rfl,Gg x y];simp[O7]
  .rw[if_neg h]
   simp[O7,h]
def SV (u:Value) (d:D):Prop:=(∃ i t,u= .int i t/\d= .int i)∨∃ x t,u= .str ⟨x.toArray⟩ t/\d= .str x
noncomputable abbrev SVs:List Value->List D->Prop:=Paired SV
theorem ak3 (h:SV u d) (k:SV v e):BL A s u v (lN d e):=by
 rcases h with⟨i,t,rfl,rfl⟩|⟨x,t,rfl,rfl⟩
 .rcases k with⟨j,t',rfl,rfl⟩|⟨y,t',rfl,rfl⟩
  .simp only[lN];exact adf i t j t'
  .simp only[lN];exact adh i t _ t'
 .rcases k with⟨j,t',rfl,rfl⟩|⟨y,t',rfl,rfl⟩
  .simp only[lN];exact adg _ t j t'
  .simp only[lN];rw[<-GR];exact ade _ t _ t'
theorem ak2 (h:SV u d) (k:SV v e) (hb:PK d e=some b) (prog:bN) (w:aO) (E:Value->aj->Prop) (Q:Value->aj->Prop) (q:Q (.bool b) s):
  ao (aU prog w) A (NK .Lt u v) Q E s:=by
 rcases h with⟨i,t,rfl,rfl⟩|⟨x,t,rfl,rfl⟩
 .rcases k with⟨j,t',rfl,rfl⟩|⟨y,t',rfl,rfl⟩
  .simp only[PK,pU]at hb
   subst hb;exact(ab4 q:ao (aU prog w) A (jy .Lt (.int i t) (.int j t')) Q E s)
  .simp[PK]at hb
 .rcases k with⟨j,t',rfl,rfl⟩|⟨y,t',rfl,rfl⟩
  .simp[PK]at hb
  .simp only[PK,pU]at hb
   subst hb;rw[Gg]at q;exact(PySem.P.lt_str (by simpa using q):ao (aU prog w) A (jy .Lt (.str ⟨x.toArray⟩ t) (.str ⟨y.toArray⟩ t')) Q E s)
section
open PySem.SeqAt
open PySem.AutoSeq1 (wpAny_loadPart')
open PySem.MeetsSeq PySem.MeetsSeq2 PySem.MeetsSeq3
theorem aay (d e:D) (ds es:List D):vL (d::ds) (e::es)=if lN d e then vL ds es else PK d e:=by rw[vL]
theorem Rb (l b:Addr) (items items2:Array Value) (n n2:Nat) (dd dd2:Option Addr) (sl sl2:Array (Option Value)) (ns ms:List D) (r:Bool) (hi:SVs items.toList ns) (hj:SVs items2.toList ms) (hr:vL ns ms=some r):
  Nb (qP.«tuple.__lt__» ⟨[.ref l,.ref b],[]⟩)
   (fun _ R s=>s.heap.get? l=some {cls:=.type "tuple",dict:=dd,data:=.seq items n,slots:=sl}/\s.heap.get? b=some {cls:=.type "tuple",dict:=dd2,data:=.seq items2 n2,slots:=sl2}/\
    R (.ok (.ret (.bool r))) s):=
 .of_wp fun prog w A R s h=>by
  obtain⟨hp,g,d,tk,os⟩:=s;obtain⟨hl,hb,h⟩:=h;have f2:=ad4;have z1:items.size=ns.length:=by rw[<-ach hi];simp
  have z2:items2.size=ms.length:=by rw[<-ach hj];simp
  wp_walk using DY hl,DY hb,wpAny_forIn_list _ (fun rest b s'=>b.1=none/\s'=⟨hp,g,d,tk,os⟩/\∃ (vs ws:List Value) (ns' ms':List D),rest=vs.zip ws/\
   SVs vs ns'/\SVs ws ms'/\ns'.length+items2.size=ms'.length+items.size/\vL ns' ms'=some r) _
  case turn=>
   rintro⟨y,x⟩ rest b s' ⟨hb',rfl,vs,ws,ns',ms',hz,hvi,hwi,hlen,hR⟩;cases hvi with
   |nil=>rw[List.zip_nil_left]at hz;cases hz
   | @cons u du vs' anT hu amG=>
    cases hwi with
    |nil=>rw[WW]at hz;cases hz
    | @cons v dv ws' anV hv amF=>
     rw[Il]at hz;injection hz with hyx hrest;injection hyx with hy hx;subst hy hx;rw[aay]at hR;simp only[bA]at hlen;have he:=ak3 (A:=A.in1) (s:=⟨hp,g,d,tk,os⟩) hu hv;refine au (he prog w _ _ ?_);cases e:lN du dv with
     |true=>
      rw[e,if_pos rfl]at hR
      wp_walk
      exact⟨rfl,rfl,_,_,_,_,hrest,amG,amF,by lia,hR⟩
     |false=>
      rw[e,if_neg fj]at hR;have hri:=ak2 (A:=A.in1) (s:=⟨hp,g,d,tk,os⟩) hu hv hR prog w
      wp_walk using hri
      exact⟨_,rfl,by simpa using h⟩
  case fin=>
   rintro⟨b1,b2⟩ s' ⟨hb',rfl,vs,ws,ns',ms',hz,hvi,hwi,hlen,hR⟩;simp only at hb';subst hb';have hv:r=decide (items.size<items2.size):=by
    cases hvi with
    |nil=>
     cases hwi with
     |nil=>simp only[aL]at hlen;simp[vL]at hR;rw[hR];exact(decide_eq_false (by lia)).symm|cons hu hw=>simp only[aL,bA]at hlen;simp[vL]at hR;rw[hR];exact(decide_eq_true (by lia)).symm
    |cons hu hv=>
     cases hwi with
     |nil=>simp only[aL,bA]at hlen;simp[vL]at hR;rw[hR];exact(decide_eq_false (by lia)).symm|cons hu' hw=>rw[Il]at hz;cases hz
   rw[hv]at h
   wp_walk
   exact⟨_,rfl,by simpa[ajn]using h⟩
  case h=>exact⟨rfl,rfl,items.toList,items2.toList,ns,ms,rfl,hi,hj,by lia,hr⟩
end
theorem RT {prog:bN} {w:aO} {A:aP} {E:Value->aj->Prop} {s:aj} {l b:Addr} {items items2:Array Value} {ns ms:List D} {r:Bool} {Q:Value->aj->Prop} (hl:IsTup s.heap l items) (hb:IsTup s.heap b items2) (hi:SVs items.toList ns) (hj:SVs items2.toList ms)
  (hr:vL ns ms=some r) (hu:A.units<cLine) (h:Q (.bool r) s):ao (aU prog w) A (jy .Lt (.ref l) (.ref b)) Q E s:=by
 obtain⟨⟨cls,dd,data,sl⟩,ho,hc,n,hd⟩:=id hl;obtain⟨⟨cls2,dd2,data2,sl2⟩,ho2,hc2,n2,hd2⟩:=id hb;simp only at hc hd hc2 hd2;subst hc hd hc2 hd2;exact richCompare_meets_room (op:=.Lt) ⟨_,ho,rfl⟩ ⟨_,ho2,rfl⟩ PySem.F.slot_tuple_lt PySem.F.entry_tuple_lt (PySem.F.args_tuple_lt_2 _ _) (Rb l b items items2 n n2 dd dd2 sl sl2 ns ms r hi hj hr)
  ⟨ho,ho2,show gM r≠Value.notImplemented/\Q (.bool r) s from⟨(fun x=>nomatch x),h⟩⟩ hu
end DW
namespace DW
open PySem PySem.Spec PyProof.Rows
open L2 (aN Key frs vC Loc Look Mod sG cT)
section
variable {h:aq} {θ:Th} {μ:Mem} {T:Top} {d:D} {ds:List D} {u:Value} {us:List Value} {a:Addr} {k:iU}
theorem mV:∀ {a b:iU},keyOf a=keyOf b->a=b
 | .inl _,.inl _,h=>by simp only[keyOf,Sum.inl.injEq]at h;rw[h]| .inl _,.inr _,h=>by cases h
 | .inr _,.inl _,h=>by cases h
 | .inr _,.inr _,h=>by simp only[keyOf,Sum.inr.injEq,ab9]at h;exact congrArg _ (by simpa using congrArg HS h)
theorem rm {a b:List iU} (h:a.map keyOf=b.map keyOf):a=b:=List.map_inj_right (fun _ _=>mV)|>.mp h
theorem key_is {P:bN} {w:aO} (e:yu d=some k) (r:Rp h θ μ d u):(aN P w).is (keyOf k) u=true:=by
 cases d with
 |int i=>cases e;obtain⟨t,rfl⟩:=r;exact L2.RP P w i t
 |str x=>cases e;obtain⟨⟨t,rfl⟩,_⟩:=r;exact L2.El P w _ t
 |_=>cases e
theorem R0 {P:bN} {w:aO}:∀ {ds:List D} {ks:List iU} {us:List Value},jF ds=some ks->c7 h θ μ ds us->ItemsAre (aN P w) (ks.map keyOf) us
 |[],ks,us,e,r=>by cases e;cases(show us=[]from r);exact .nil
 |d::ds,ks,us,e,⟨u,r,q,x,y⟩=>by
  simp only[jF]at e;split at e
  .rename_i k hk
   cases e':jF ds with
   |none=>rw[e']at e;cases e
   |some ks'=>rw[e']at e;cases e;rw[q];exact .cons (key_is hk x) (R0 e' y)
  .cases e
theorem yW {P:bN} {w:aO} {ks:List iU} (e:jF ds=some ks) (r:Rp h θ μ (.tup ds) (.ref a)):(Nv (aN P w)).is h (ks.map keyOf) a:=by obtain⟨b,us,q,⟨_,o,n,h1,h2,h3,_⟩,_,rs⟩:=r;cases q;exact⟨o,us.toArray,n,h1,h2,h3,by simpa using R0 e rs⟩
theorem Je:∀ ks:List iU,jF (ks.map kD)=some ks
 |[]=>rfl| .inl i::ks=>by simp[jF,yu,kD,Je ks]| .inr x::ks=>by simp[jF,yu,kD,Je ks]
theorem ah3:∀ {ds:List D} {ks:List iU},jF ds=some ks->ds=ks.map kD
 |[],_,e=>by cases e;rfl
 |d::ds,ks,e=>by
  simp only[jF]at e;split at e
  .rename_i k hk
   cases e':jF ds with
   |none=>rw[e']at e;cases e
   |some ks' =>rw[e']at e;cases e;rw[aX,<-ah3 e'];cases d<;>cases hk<;>rfl
  .cases e
theorem J9.of {ks:List (List iU)} (x:J9 T h θ μ a ks ds):∃ xs:List (List Key×Addr×Value),h.DictOfH (Nv (aN T.P T.w)) a xs/\
  xs.length<=sizeLine/\(a==qU)=false/\c7 h θ μ (ks.map fun k=>.tup (k.map kD)) (xs.map fun x=>.ref x.2.1)/\xs.map (·.1)=ks.map (·.map keyOf)/\c7 h θ μ ds (xs.map (·.2.2)):=by
 obtain⟨xs,⟨o,es,ep,h1,h2,h3,h4,h5⟩,l,y,t,k,z⟩:=x;refine⟨xs,⟨o,es,ep,h1,h2,h3,h4,fun x hx=>?_,h5⟩,l,y,t,k,z⟩;obtain⟨j,hj⟩:=List.getElem?_of_mem hx;have e:(ks.map (·.map keyOf))[j]?=some x.1:=by rw[<-k,jw,hj];rfl
 rw[jw]at e;obtain⟨q,hq,e⟩:=zH.mp e;obtain⟨u,hu,r⟩:=t.get (i:=j) (d:=.tup (q.map kD)) (by rw[jw,hq];rfl);rw[jw,hj]at hu;cases hu;rw[<-e];exact yW (Je q) r
theorem Av {β κ κ':Type} [DecidableEq κ] [DecidableEq κ'] (f:κ->κ') (inj:∀ a b,f a=f b->a=b) (key:β->κ') (val:β->Value):∀ (ks:List κ) (ds:List D) (l:List β) (k:κ),l.map key=ks.map f->c7 h θ μ ds (l.map val)->
  (∀ d,eH ks ds k=some d->∃ x,l.find? (fun x=>decide (key x=f k))=some x/\Rp h θ μ d (val x))/\(l.find? fun x=>decide (key x=f k)).isSome=Tc ks k/\(eH ks ds k=none->l.find? (fun x=>decide (key x=f k))=none)
 |[],ds,l,k,e,_=>by cases(show l=[] by simpa using e);exact⟨fun d q=>by simp[eH]at q,by simp[Tc],fun _=>rfl⟩
 |c::ks,[],[],_,e,_=>by simp at e|c::ks,[],x::l,_,_,r=>by simp[c7]at r|c::ks,d::ds,[],_,e,_=>by simp at e|c::ks,d::ds,x::l,k,e,⟨u,r,q,h1,h2⟩=>by
  simp only[aX,mJ]at e q;obtain⟨rfl,rfl⟩:=q;obtain⟨i1,i2,i3⟩:=Av f inj key val ks ds l k e.2 h2;rw[List.find?_cons];by_cases z:c=k
  .subst z
   simp only[e.1,decide_true,eH,if_true,adb];exact⟨fun d' y=>by cases y;exact⟨x,rfl,h1⟩,by simp[Tc],fun y=>by cases y⟩
  .simp only[e.1,decide_eq_false (fun y=>z (inj _ _ y)),eH,if_neg z]
   exact⟨i1,by rw[i2];simp[Tc,bK z],i3⟩
end
section
variable {X:Cx} {ρ:dD} {θ:Th} {μ:Mem} {s:aj} {d e:D} {u v:Value} {ds:List D} {Qd:QD} {Q:Value->aj->Prop} {E:Value->aj->Prop} {a:Addr} {k:Nat} {A:aP}
theorem ak1 {h:aq} (r:Rp h θ μ d u) (e:sc2 d=true):SV u d:=by
 cases d with
 |int i=>obtain⟨t,rfl⟩:=r;exact .inl ⟨i,t,rfl,rfl⟩|str x=>obtain⟨⟨t,rfl⟩,_⟩:=r;exact .inr ⟨x,t,rfl,rfl⟩|_=>cases e
theorem UJ {h:aq}:∀ {ds:List D} {us:List Value},c7 h θ μ ds us->ds.all sc2=true->SVs us ds
 |[],us,r,_=>by cases(show us=[]from r);exact .nil
 |d::ds,_,⟨u,r,q,x,y⟩,e=>by simp only[acg,bL]at e;rw[q];exact .cons (ak1 x e.1) (UJ y e.2)
theorem Sw {h:aq} (r:Rp h θ μ d u):(u==iR)=oV d:=by
 cases d with
 |non=>cases(show u=iR from r);rfl
 |bl b=>cases(show u=gM b from r);rfl
 |int i=>obtain⟨t,rfl⟩:=r;rfl|str x=>obtain⟨⟨t,rfl⟩,_⟩:=r;rfl|tup ds=>obtain⟨a,_,rfl,_⟩:=r;rfl|lst ds=>obtain⟨a,_,rfl,_⟩:=r;rfl|ro ds=>obtain⟨a,_,rfl,_⟩:=r;rfl|loc n=>obtain⟨p,rfl,_⟩:=r;rfl|_=>exact r.elim
def Zo (h:aq) (d:D) (w:Value):Bool:=open Classical in decide (∃ q as,Reads h w q as/\q.canLay0=true/\nA q (pd d)=true)
theorem Sy {h:aq} (r:Rp h θ μ e u) (f1:flat 60 e=true) (f2:flat 60 d=true):Zo h d u=lN e d:=by
 obtain⟨as,ra⟩:=eO 60 e u r f1;have c:=dO _ _ f1;unfold Zo;rw[<-yH 60 60 e d f1 f2];cases z:nA (pd e) (pd d) with
 |true=>exact @decide_eq_true _ (Pg _) ⟨pd e,as,ra,c,z⟩|false=>exact @decide_eq_false _ (Pg _) fun⟨q,as',ra',c',z'⟩=>by rw[ajb q (pd e) _ _ _ c' ra' ra,z]at z';cases z'
theorem SQ {j:Nat} (hu:A.units+64<cLine) (f2:flat 60 d=true) (rd:Rp s.heap θ μ d v):∀ {ds:List D} {us:List Value},c7 s.heap θ μ ds us->flats 60 ds=true->
  (∀ w∈us,BL A.in1 s w v (Zo s.heap d w))/\us.any (Zo s.heap d)=ds.any fun d'=>lN d' d
 |[],us,r,_=>by cases(show us=[]from r);exact⟨fun _ m=>(tL m).elim,rfl⟩
 |e::ds,_,⟨u,r,q,x,y⟩,f1=>by
  have f1':flat 60 e=true/\flats 60 ds=true:=by simpa[flats]using f1
  obtain⟨i1,i2⟩:=SQ (j:=j) hu f2 rd y f1'.2;subst q;refine⟨fun w m=>?_,by rw[acf,acf,i2,Sy x f1'.1 f2]⟩;rcases bC.mp m with rfl|m
  .obtain⟨as,ra⟩:=eO 60 e w x f1'.1
   obtain⟨bs,rb⟩:=eO 60 d v rd f2;rw[Sy x f1'.1 f2,<-yH 60 60 e d f1'.1 f2];have hd:=Ay _ _ f2;exact SeqAt.eqAt_reads (pd e) (pd d) A.in1 s w v as bs ra rb (dO _ _ f1'.1) (dO _ _ f2) (by show A.units+1+_<cLine;lia)
  .exact i1 w m
theorem ah5 (hu:X.A.units+64<cLine) (i:Iv X ρ θ μ s) (rd:Rp s.heap θ μ d u) (re:Rp s.heap θ μ e v) (neg:Bool) (op:iK) (ho:op=if neg=true then .NotIn else .In)
  (hw:(∃ t c,e= .str t/\d= .str [c]/\Qd (.bl (neg !=t.contains c)) μ)∨(∃ ds,aC μ e=some ds/\flats 60 ds=true/\flat 60 d=true/\Qd (.bl (neg !=ds.any fun d'=>lN d' d)) μ)∨agm neg d e μ Qd)
  (bl:∀ {b:Bool},Qd (.bl b) μ->∀ t,Q (.bool b) {s with toks:=t}):ao X.M X.A (jy op u v) Q E s:=by
 rcases hw with⟨t,c,rfl,rfl,q⟩|⟨ds,hq,f1,f2,q⟩|hD
 .obtain⟨⟨t1,rfl⟩,_⟩:=rd
  obtain⟨⟨t2,rfl⟩,_⟩:=re;have q2:=StrLaws.found_one ⟨t.toArray⟩ c;have q2:_=t.contains c:=q2.trans (by simp);rw[<-q2]at q;subst ho;cases neg with
  |false=>exact in_str (bl (by simpa using q) s.toks)|true=>exact notIn_str (bl (by simpa using q) s.toks)
 .obtain⟨a,us,rfl,x,r⟩:=vR i.dG re hq
  obtain⟨i1,i2⟩:=SQ (j:=0) hu f2 rd r f1;rw[<-i2]at q;subst ho;by_cases hk:U3 e=0
  .rw[hk]at x
   cases neg with
   |false=>exact SeqAt.in_tupleAt _ (fW x) (fun y hy=>i1 y (by simpa using hy)) (by rw[Ou];exact bl (by simpa using q) s.toks)|true=>exact SeqAt.notIn_tupleAt _ (fW x) (fun y hy=>i1 y (by simpa using hy)) (by rw[Ou];exact bl (by simpa using q) s.toks)
  .cases neg with|false=>exact SeqAt.in_listAt _ (fY x hk).isList (fun y hy=>i1 y (by simpa using hy)) (by rw[Ou];exact bl (by simpa using q) s.toks)|true=>exact SeqAt.notIn_listAt _ (fY x hk).isList (fun y hy=>i1 y (by simpa using hy)) (by rw[Ou];exact bl (by simpa using q) s.toks)
 .unfold agm at hD
  split at hD
  .rename_i n
   obtain⟨p,rfl,hp⟩:=re;split at hD
   .rename_i ks ds hn
    obtain⟨⟨kvs,hd,l,hs,hk,r⟩,_⟩:=i.dG.cell n _ p hn hp;split at hD
    .rename_i k ek
     have z:=(Av keyOf (fun _ _=>mV) (·.1) (·.2) ks ds kvs k hk r).2.1
     (have z':(Ng kvs (keyOf k)).isSome=Tc ks k:=by rw[<-z];unfold Ng;rw[WK]);rw[<-z']at hD;subst ho;cases neg with
     |false=>exact wpAny_in_of (key_is ek rd) hs hd.mapOf (bl (by simpa using hD) _)|true=>exact wpAny_notIn_of (key_is ek rd) hs hd.mapOf (bl (by simpa using hD) _)
    .exact hD.elim
   .rename_i ks ds hn
    obtain⟨hx,_⟩:=i.dG.cell n _ p hn hp;obtain⟨xs,hd,l,hs,_,hk,r⟩:=hx.of;split at hD
    .rename_i es
     split at hD
     .rename_i k ek
      have z:=(Av (fun k:List iU=>k.map keyOf) (fun _ _=>rm) (·.1) (·.2.2) ks ds xs k hk r).2.1
      (have z':(atKey xs (k.map keyOf)).isSome=Tc ks k:=by rw[<-z];unfold atKey;rw[WK]);rw[<-z']at hD;obtain⟨b,us,rfl,_⟩:=id rd;subst ho;cases neg with
      |false=>exact wpAny_in_heap (OJ (by lia)) (yW ek rd) hs hd (bl (by simpa using hD) _)|true=>exact wpAny_notIn_heap (OJ (by lia)) (yW ek rd) hs hd (bl (by simpa using hD) _)
     .exact hD.elim
    .exact hD.elim
   .exact hD.elim
  .exact hD.elim
theorem Dv (hr:cT k X.A) (op:iK):Op2 X (jy op) (cM op):=by
 intro s ρ θ μ d e u v Qd Q E i rd re hw f;have hu:X.A.units+64<cLine:=hr.units;have bl:∀ {b:Bool},Qd (.bl b) μ->∀ t,Q (.bool b) {s with toks:=t}:=fun q t=>f.tok i Rz q;have eqs:∀ {neg:Bool},(flat 60 d=true/\flat 60 e=true/\Qd (.bl (neg !=lN d e)) μ)->ao X.M X.A (jy (if neg=true then .NotEq else .Eq) u v) Q E s:=fun {neg} ⟨f1,f2,q⟩=>by
  obtain⟨as,ra⟩:=eO 60 d u rd f1;obtain⟨bs,rb⟩:=eO 60 e v re f2;have:=Ay _ _ f1;cases neg with
  |false=>exact adO ra rb (dO _ _ f1) (dO _ _ f2) (by lia) (by rw[yH _ _ _ _ f1 f2];exact bl (by simpa using q) s.toks)|true=>exact adN ra rb (dO _ _ f1) (dO _ _ f2) (by lia) (by rw[yH _ _ _ _ f1 f2];exact bl (by simpa using q) s.toks)
 cases op with
 |Eq=>exact eqs (neg:=false) ⟨hw.1,hw.2.1,by simpa using hw.2.2⟩|NotEq=>
  have hw:(∃ n,d= .loc n/\QW n e μ Qd)∨(flat 60 d=true/\flat 60 e=true/\Qd (.bl (!lN d e)) μ):=by
   cases d with
   |loc n=>exact .inl ⟨n,rfl,show QW n e μ Qd from hw⟩|_=>exact .inr hw
  rcases hw with⟨n,rfl,hw⟩|hw
  .have hw:QW n e μ Qd:=hw
   unfold QW at hw;split at hw
   .rename_i ds hn
    obtain⟨p,us,rfl,_,_,x,r⟩:=Iv.lst i.dG hn rd;split at hw
    .obtain⟨b,vs,rfl,y,_,r2⟩:=re
     cases r2.nil_inv;have pl:=fY x (by decide);have pl2:=fY y (by decide);have l:=r.length;cases ds with
     |nil=>cases r.nil_inv;exact aja (e:=fun _=>true) pl.isList pl2.isList rfl (by lia) (fun j h1 h2=>absurd h1 (by simp)) _ _ _ _ (bl hw s.toks)
     |cons d0 ds=>exact ajk pl.isList pl2.isList (by simp at l ⊢;rw[<-zJ,l];simp) (by lia) _ _ _ _ (bl hw s.toks)
    .exact hw.elim
   .exact hw.elim
  .exact eqs (neg:=true) (by simpa using hw)
 |Lt=>
  simp only[cM]at hw
  match d,e,hw with
  | .int a,.int b,hw=>obtain⟨t,rfl⟩:=rd;obtain⟨t',rfl⟩:=re;exact ab4 (bl hw s.toks)| .str a,.str b,hw=>obtain⟨⟨t,rfl⟩,_⟩:=rd;obtain⟨⟨t',rfl⟩,_⟩:=re;refine lt_str (bl ?_ s.toks);simp only[PK,Gg]at hw;simpa using hw| .tup ds,.tup es,hw=>
   simp only[PK]at hw;split at hw
   .rename_i r hl
    split at hl
    .rename_i hsc
     rw[bL]at hsc;obtain⟨a,us,rfl,x,_,r1⟩:=rd;obtain⟨b,vs,rfl,y,_,r2⟩:=re;exact RT (fW x) (fW y) (by simpa using UJ r1 hsc.1) (by simpa using UJ r2 hsc.2) hl (by lia) (bl hw s.toks)
    .cases hl
   .exact hw.elim
 |LtE=>
  match d,e,hw with
  | .int a,.int b,hw=>obtain⟨t,rfl⟩:=rd;obtain⟨t',rfl⟩:=re;exact le_int (bl hw s.toks)| .str a,.str b,hw=>obtain⟨⟨t,rfl⟩,_⟩:=rd;obtain⟨⟨t',rfl⟩,_⟩:=re;have hw:Qd (.bl (!dI b a)) μ:=hw;refine PySem.P.le_str (bl ?_ s.toks);rw[Gg]at hw;simpa using hw
 |Gt=>
  match d,e,hw with
  | .int a,.int b,hw=>obtain⟨t,rfl⟩:=rd;obtain⟨t',rfl⟩:=re;exact gt_int (bl hw s.toks)
 |GtE=>
  match d,e,hw with
  | .int a,.int b,hw=>obtain⟨t,rfl⟩:=rd;obtain⟨t',rfl⟩:=re;exact ge_int (bl hw s.toks)
 |Is=>
  match e,hw with
  | .non,hw=>cases(show v=iR from re);exact is_none_gen (by rw[Sw rd];exact bl hw s.toks)
  | .bl b,hw=>
   cases d with
   |bl a=>cases(show u=gM a from rd);cases(show v=gM b from re);exact is_bool (bl hw s.toks)
   |_=>exact hw.elim
 |IsNot=>
  match e,hw with
  | .non,hw=>cases(show v=iR from re);exact isnot_none_gen (by rw[Sw rd];exact bl hw s.toks)
  | .bl b,hw=>
   cases d with
   |bl a=>cases(show u=gM a from rd);cases(show v=gM b from re);exact isnot_bool (bl hw s.toks)
   |_=>exact hw.elim
 |In=>
  refine ah5 hu i rd re false _ rfl ?_ bl
  match e,hw with
  | .str t,hw=>
   match d,hw with
   | .str [c],hw=>exact .inl ⟨t,c,rfl,rfl,by have hw:Qd (.bl (t.contains c)) μ:=hw;simpa using hw⟩
  | .non,hw| .bl _,hw| .int _,hw| .tup _,hw| .lst _,hw| .ro _,hw| .loc _,hw| .jN _ _,hw=>
   right;simp only[cM]at hw;split at hw
   .rename_i ds hq;exact .inl ⟨ds,hq,hw.1,hw.2.1,by simpa using hw.2.2⟩
   .exact .inr hw
 |NotIn=>
  refine ah5 hu i rd re true _ rfl ?_ bl
  match e,hw with
  | .str t,hw=>
   match d,hw with
   | .str [c],hw=>exact .inl ⟨t,c,rfl,rfl,by have hw:Qd (.bl (!t.contains c)) μ:=hw;simpa using hw⟩
  | .non,hw| .bl _,hw| .int _,hw| .tup _,hw| .lst _,hw| .ro _,hw| .loc _,hw| .jN _ _,hw=>
   right;simp only[cM]at hw;split at hw
   .rename_i ds hq;exact .inl ⟨ds,hq,hw.1,hw.2.1,by simpa using hw.2.2⟩
   .exact .inr hw
end
end DW
namespace DW
open PySem
structure Ctx where
 N:List Str
 names:List (Str×gJ)
 gW:List Str
 calm:Bool
 rs:Bool
noncomputable abbrev Ctx.in_ (c:Ctx) (N:List Str) (names:List (Str×gJ)):Ctx:=⟨N,names,c.gW,c.calm,true⟩
noncomputable abbrev Ctx.of (N:List Str) (names:List (Str×gJ)) (gW:List Str):Ctx:=⟨N,names,gW,true,true⟩
def Ctx.vis (c:Ctx) (x:Str):Bool:=match c.names.lookup x with|some .local=>true|some .cell=>true|some .free=>true|_=>false
def Ctx.loc (c:Ctx) (x:Str):Bool:=match c.names.lookup x with|some .local=>true|some .cell=>true|_=>false
def Ctx.Ak (c:Ctx) (x:Str):Bool:=match c.names.lookup x with|some .globalImplicit=>true|_=>false
def Ctx.at_ (c:Ctx) (i:Nat) (x:Str):Bool:=match c.N[i]? with|some y=>decide (y=x)|none=>false
def f9 (x:Str):Bool:=(x==("__debug__":Str))||(x==("__classdict__":Str))
def mC:Const->D->Bool
 | .none,.non=>true| .bool a,.bl b=>a==b| .int i,.int j=>i==j| .str s,.str x=>decide (s.cps.toList=x)&&decide (x.length<=16777216)|_,_=>false
def notStar:Expr->Bool
 | .Starred ..=>false|_=>true
def jA:Expr->Bool
 | .Set ..=>false|_=>true
def ig:Expr->Bool
 | .ListComp ..=>false| .SetComp ..=>false| .DictComp ..=>false|_=>true
def dW:Expr->Bool
 | .Name ..=>true| .Constant ..=>true| .BinOp ..=>true| .UnaryOp ..=>true| .Call ..=>true| .Subscript ..=>true| .Attribute ..=>true| .Tuple ..=>true|_=>false
def mL:Expr->Bool
 | .Name ..=>true| .Subscript ..=>true| .Attribute ..=>true| .Constant ..=>true| .Call (.Name ..) (_::_) _ _=>true| .Call (.Attribute ..) _ _ _=>true|_=>false
theorem Yt (h:mL (.Call f as ks p)=true):(∃ x q a r,f= .Name x q/\as=a::r)∨∃ o m q,f= .Attribute o m q:=by
 cases f with
 |Name x q=>cases as with|nil=>exact(fj h).elim|cons a r=>exact .inl ⟨x,q,a,r,rfl,rfl⟩
 |Attribute o m q=>exact .inr ⟨o,m,q,rfl⟩|_=>exact(fj h).elim
def afS (x:String):Str:=if x="mlist" then "list" else if x="msorted" then "sorted" else if x="isorted" then "sorted" else if x="dsorted" then "sorted" else if x="min3" then "min" else if x="tsorted" then "sorted" else if x="mtsorted" then "sorted" else aF x
def cQ (c:Ctx) (x:Str):Bool:=c.Ak x&&c.gW.contains x
def lJ (c:Ctx):List Nat->Option (List Str)
 |[]=>some []|i::is=>match c.N[i]?,lJ c is with|some x,some r=>some (x::r)|_,_=>none
def JW (c:Ctx) (scope:Scope) (Nc:List Str) (cap:List Str):Bool:=
 (scope.kind== .function)&&scope.names.all (fun y=>y.2 != .cell||(scope.names.lookup y.1==some .cell))&&scope.names.all (fun y=>y.2 != .local||(scope.names.lookup y.1==some .local))&&
 decide (Nc.Nodup)&&cap.all (fun y=>scope.names.lookup y==some .free)&&scope.names.all (fun y=>y.2 != .free||(c.names.lookup y.1==some .cell||c.names.lookup y.1==some .free))
def namesOf:List Expr->Option (List Str)
 |[]=>some []| .Name x _::as=>(namesOf as).map (x::·)|_::_=>none
def FT (tt:Bool) (a:Expr):Option (List Str):=match tt with
 |false=>match a with| .Name x _=>some [x]|_=>none
 |true=>match a with| .Tuple ts _ _=>namesOf ts|_=>none
def jC (c:Ctx):List Nat->List Expr->Bool
 |[],[]=>true|i::is,a::as=>(match a with| .Name x _=>c.at_ i x&&c.loc x|_=>false)&&jC c is as|_,_=>false
def mTg (c:Ctx) (is:List Nat) (tt:Bool) (a:Expr):Bool:=
 match tt with
 |false=>jC c is [a]|true=>match a with| .Tuple ts _ _=>jC c is ts|_=>false
def vO (tt:Bool):It->Bool
 | .enum _=>tt|_=>true
def opt {α:Type} (o:Option α) (f:α->Bool):Bool:=match o with|some x=>f x|none=>false
theorem aA (h:opt o f=true):∃ x,o=some x/\f x=true:=by
 cases o with
 |none=>exact(fj h).elim|some x=>exact⟨x,rfl,h⟩
theorem ak {α:Type} {x:α} {P:Prop} (h:none=some x):P:=(Option.some_ne_none x h.symm).elim
def pI:Expr->Option Str
 | .Name x _=>some x|_=>none
theorem mU {a:Expr} {t:Str} (h:pI a=some t):∃ p,a= .Name t p:=by
 cases a with
 |Name x p=>cases cP (show some x=some t from h);exact⟨p,rfl⟩
 |_=>exact ak h
def Uq:Expr->Option Const
 | .Constant k _ _=>some k|_=>none
theorem Uo {a:Expr} {t:Const} (h:Uq a=some t):∃ j p,a= .Constant t j p:=by
 cases a with
 |Constant k j p=>cases cP (show some k=some t from h);exact⟨j,p,rfl⟩
 |_=>exact ak h
def aiD:Expr->Option (Expr×jx×Expr)
 | .BinOp l o r _=>some (l,o,r)|_=>none
theorem abo {a:Expr} {t:(Expr×jx×Expr)} (h:aiD a=some t):∃ p,a= .BinOp t.1 t.2.1 t.2.2 p:=by
 cases a with
 |BinOp l o r p=>cases cP (show some (l,o,r)=some t from h);exact⟨p,rfl⟩
 |_=>exact ak h
def vIf:Expr->Option (Expr×Expr×Expr)
 | .IfExp x y z _=>some (x,y,z)|_=>none
theorem ago {a:Expr} {t:(Expr×Expr×Expr)} (h:vIf a=some t):∃ p,a= .IfExp t.1 t.2.1 t.2.2 p:=by
 cases a with
 |IfExp x y z p=>cases cP (show some (x,y,z)=some t from h);exact⟨p,rfl⟩
 |_=>exact ak h
def Bo:Expr->Option (Expr×Expr)
 | .Subscript x y _=>some (x,y)|_=>none
theorem pH {a:Expr} {t:(Expr×Expr)} (h:Bo a=some t):∃ p,a= .Subscript t.1 t.2 p:=by
 cases a with
 |Subscript x y p=>cases cP (show some (x,y)=some t from h);exact⟨p,rfl⟩
 |_=>exact ak h
def abf:Expr->Option (List Expr)
 | .Tuple x _ _=>some x|_=>none
theorem Q6 {a:Expr} {t:(List Expr)} (h:abf a=some t):∃ k p,a= .Tuple t k p:=by
 cases a with
 |Tuple x k p=>cases cP (show some x=some t from h);exact⟨k,p,rfl⟩
 |_=>exact ak h
def aiC:Expr->Option (List Expr)
 | .List x _=>some x|_=>none
theorem abk {a:Expr} {t:(List Expr)} (h:aiC a=some t):∃ p,a= .List t p:=by
 cases a with
 |List x p=>cases cP (show some x=some t from h);exact⟨p,rfl⟩
 |_=>exact ak h
def Gz:Expr->Option (Expr×Str)
 | .Attribute x y _=>some (x,y)|_=>none
theorem Bp {a:Expr} {t:(Expr×Str)} (h:Gz a=some t):∃ p,a= .Attribute t.1 t.2 p:=by
 cases a with
 |Attribute x y p=>cases cP (show some (x,y)=some t from h);exact⟨p,rfl⟩
 |_=>exact ak h
def aiB:Expr->Option Expr
 | .UnaryOp .USub l _=>some l|_=>none
theorem abj {a:Expr} {t:Expr} (h:aiB a=some t):∃ p,a= .UnaryOp .USub t p:=by
 cases a with
 |UnaryOp o l p=>
  cases o with
  |USub=>cases cP (show some l=some t from h);exact⟨p,rfl⟩
  |_=>exact ak h
 |_=>exact ak h
def aiA:Expr->Option Expr
 | .UnaryOp .Not l _=>some l|_=>none
theorem abh {a:Expr} {t:Expr} (h:aiA a=some t):∃ p,a= .UnaryOp .Not t p:=by
 cases a with
 |UnaryOp o l p=>
  cases o with
  |Not=>cases cP (show some l=some t from h);exact⟨p,rfl⟩
  |_=>exact ak h
 |_=>exact ak h
def Ur:Expr->Option (Expr×iK×Expr)
 | .Compare l [o] [r] _=>some (l,o,r)|_=>none
theorem Gy {a:Expr} {t:(Expr×iK×Expr)} (h:Ur a=some t):∃ p,a= .Compare t.1 [t.2.1] [t.2.2] p:=by
 cases a with
 |Compare l os rs p=>
  match os,rs,h with
  |[o],[r],h=>cases cP (show some (l,o,r)=some t from h);exact⟨p,rfl⟩
  |[],_,h=>exact ak h|_::_::_,_,h=>exact ak h|[_],[],h=>exact ak h|[_],_::_::_,h=>exact ak h
 |_=>exact ak h
def abn:Expr->Option (Expr×iK×iK×Expr×Expr)
 | .Compare l [o,q] [m,r] _=>some (l,o,q,m,r)|_=>none
theorem Z4 {a:Expr} {t:(Expr×iK×iK×Expr×Expr)} (h:abn a=some t):∃ p,a= .Compare t.1 [t.2.1,t.2.2.1] [t.2.2.2.1,t.2.2.2.2] p:=by
 cases a with
 |Compare l os rs p=>
  match os,rs,h with
  |[o,q],[m,r],h=>cases cP (show some (l,o,q,m,r)=some t from h);exact⟨p,rfl⟩
  |[],_,h=>exact ak h|[_],_,h=>exact ak h|_::_::_::_,_,h=>exact ak h|[_,_],[],h=>exact ak h|[_,_],[_],h=>exact ak h|[_,_],_::_::_::_,h=>exact ak h
 |_=>exact ak h
def aiE:Expr->Option (Expr×Expr)
 | .BoolOp .And (v::w::rest) p=>some (v,match rest with|[]=>w|_::_=>.BoolOp .And (w::rest) p)|_=>none
theorem abp {a:Expr} {t:Expr×Expr} (h:aiE a=some t):(∃ p,a= .BoolOp .And [t.1,t.2] p)∨∃ w z rest p,a= .BoolOp .And (t.1::w::z::rest) p/\t.2= .BoolOp .And (w::z::rest) p:=by
 cases a with
 |BoolOp o vs p=>
  cases o with
  |And=>
   match vs,h with
   |[v,w],h=>cases cP (show some (v,w)=some t from h);exact .inl ⟨p,rfl⟩
   |v::w::z::rest,h=>cases cP (show some (v,.BoolOp .And (w::z::rest) p)=some t from h);exact .inr ⟨w,z,rest,p,rfl,rfl⟩
   |[],h=>exact ak h|[_],h=>exact ak h
  |_=>exact ak h
 |_=>exact ak h
def vOr:Expr->Option (Expr×Expr)
 | .BoolOp .Or (v::w::rest) p=>some (v,match rest with|[]=>w|_::_=>.BoolOp .Or (w::rest) p)|_=>none
theorem agn {a:Expr} {t:Expr×Expr} (h:vOr a=some t):(∃ p,a= .BoolOp .Or [t.1,t.2] p)∨∃ w z rest p,a= .BoolOp .Or (t.1::w::z::rest) p/\t.2= .BoolOp .Or (w::z::rest) p:=by
 cases a with
 |BoolOp o vs p=>
  cases o with
  |Or=>
   match vs,h with
   |[v,w],h=>cases cP (show some (v,w)=some t from h);exact .inl ⟨p,rfl⟩
   |v::w::z::rest,h=>cases cP (show some (v,.BoolOp .Or (w::z::rest) p)=some t from h);exact .inr ⟨w,z,rest,p,rfl,rfl⟩
   |[],h=>exact ak h|[_],h=>exact ak h
  |_=>exact ak h
 |_=>exact ak h
def lg:Expr->Option (Str×List Expr)
 | .Call (.Name y _) as [] _=>some (y,as)|_=>none
theorem gZ {a:Expr} {t:(Str×List Expr)} (h:lg a=some t):∃ p q,a= .Call (.Name t.1 p) t.2 [] q:=by
 cases a with
 |Call f as ks q=>
  cases f with
  |Name y p=>
   cases ks with
   |nil=>cases cP (show some (y,as)=some t from h);exact⟨p,q,rfl⟩
   |cons _ _=>exact ak h
  |_=>exact ak h
 |_=>exact ak h
def Uv:Expr->Option (Expr×List Expr)
 | .Call f as [] _=>some (f,as)|_=>none
theorem Uu {a:Expr} {t:Expr×List Expr} (h:Uv a=some t):∃ q,a= .Call t.1 t.2 [] q:=by
 cases a with
 |Call f as ks q=>
  cases ks with
  |nil=>cases cP (show some (f,as)=some t from h);exact⟨q,rfl⟩
  |cons _ _=>exact ak h
 |_=>exact ak h
def Ut:Expr->Option (Str×Expr×BW)
 | .Call (.Name y _) [l] [k] _=>some (y,l,k)|_=>none
theorem Us {a:Expr} {t:(Str×Expr×BW)} (h:Ut a=some t):∃ p q,a= .Call (.Name t.1 p) [t.2.1] [t.2.2] q:=by
 cases a with
 |Call f as ks q=>
  cases f with
  |Name y p=>
   match as,ks,h with
   |[l],[k],h=>cases cP (show some (y,l,k)=some t from h);exact⟨p,q,rfl⟩
   |[],_,h=>exact ak h|[_],[],h=>exact ak h|[_],_::_::_,h=>exact ak h|_::_::_,_,h=>exact ak h
  |_=>exact ak h
 |_=>exact ak h
def yU:Expr->Option (Expr×Str×List Expr×Bool)
 | .Call (.Attribute o m p) as [] q=>some (o,m,as,p.endLine==q.line)|_=>none
theorem uZ {a:Expr} {t:(Expr×Str×List Expr×Bool)} (h:yU a=some t):∃ p q,a= .Call (.Attribute t.1 t.2.1 p) t.2.2.1 [] q/\t.2.2.2=(p.endLine==q.line):=by
 cases a with
 |Call f as ks q=>
  cases f with
  |Attribute o m p=>
   cases ks with
   |nil=>cases cP (show some (o,m,as,p.endLine==q.line)=some t from h);exact⟨p,q,rfl,rfl⟩
   |cons _ _=>exact ak h
  |_=>exact ak h
 |_=>exact ak h
def aiz:Expr->Option (Expr×Option Expr×Option Expr)
 | .Subscript x (.Slice lo hi none _) _=>some (x,lo,hi)|_=>none
theorem abg {a:Expr} {t:(Expr×Option Expr×Option Expr)} (h:aiz a=some t):∃ p q,a= .Subscript t.1 (.Slice t.2.1 t.2.2 none p) q:=by
 cases a with
 |Subscript x y q=>
  cases y with
  |Slice lo hi st p=>
   cases st with
   |none=>cases cP (show some (x,lo,hi)=some t from h);exact⟨p,q,rfl⟩
   |some _=>exact ak h
  |_=>exact ak h
 |_=>exact ak h
def aiy:List Expr->Option (Expr×Expr)
 |[x,y]=>some (x,y)|_=>none
theorem abe {a:List Expr} {t:Expr×Expr} (h:aiy a=some t):a=[t.1,t.2]:=by
 match a,h with
 |[x,y],h=>cases cP (show some (x,y)=some t from h);rfl
 |[],h=>exact ak h|[_],h=>exact ak h|_::_::_::_,h=>exact ak h
def Uj:Option Expr->Option (List Nat)
 |some (.Constant (.str s) _ _)=>some s.cps.toList|_=>none
theorem sJ (h:Uj a=some k):∃ s j p,a=some (.Constant (.str s) j p)/\s.cps.toList=k:=by
 unfold Uj at h;split at h
 .exact⟨_,_,_,rfl,cP h⟩
 .cases h
def vD3:List (Option Expr)->List Expr->Option ((List Nat×List Nat×List Nat)×Expr×Expr×Expr)
 |[a,b,c],[x,y,z]=>(Uj a).bind fun i=>(Uj b).bind fun j=>(Uj c).map fun k=>((i,j,k),x,y,z)
 |_,_=>none
def Mr:Expr->Option ((List Nat×List Nat×List Nat)×Expr×Expr×Expr)
 | .Dict ks vs _=>vD3 ks vs|_=>none
theorem Uk (h:Mr e=some t):∃ s1 j1 p1 s2 j2 p2 s3 j3 p3 p,e= .Dict [some (.Constant (.str s1) j1 p1),some (.Constant (.str s2) j2 p2),some (.Constant (.str s3) j3 p3)] [t.2.1,t.2.2.1,t.2.2.2] p/\s1.cps.toList=t.1.1/\s2.cps.toList=t.1.2.1/\s3.cps.toList=t.1.2.2:=by
 unfold Mr at h;split at h
 .rename_i ks vs p
  unfold vD3 at h;split at h
  .rename_i a b c x y z
   obtain⟨i,hi,h⟩:=Pb.mp h;obtain⟨j,hj,h⟩:=Pb.mp h;obtain⟨k,hk,h⟩:=zH.mp h;subst h;obtain⟨s1,j1,p1,rfl,e1⟩:=sJ hi;obtain⟨s2,j2,p2,rfl,e2⟩:=sJ hj;obtain⟨s3,j3,p3,rfl,e3⟩:=sJ hk;exact⟨s1,j1,p1,s2,j2,p2,s3,j3,p3,p,rfl,e1,e2,e3⟩
  .cases h
 .cases h
def vD2:List (Option Expr)->List Expr->Option ((List Nat×List Nat)×Expr×Expr)
 |[a,b],[x,y]=>(Uj a).bind fun i=>(Uj b).map fun k=>((i,k),x,y)
 |_,_=>none
def Ms:Expr->Option ((List Nat×List Nat)×Expr×Expr)
 | .Dict ks vs _=>vD2 ks vs|_=>none
theorem Ul (h:Ms e=some t):∃ s1 j1 p1 s2 j2 p2 p,e= .Dict [some (.Constant (.str s1) j1 p1),some (.Constant (.str s2) j2 p2)] [t.2.1,t.2.2] p/\s1.cps.toList=t.1.1/\s2.cps.toList=t.1.2:=by
 unfold Ms at h;split at h
 .rename_i ks vs p
  unfold vD2 at h;split at h
  .obtain⟨i,hi,h⟩:=Pb.mp h
   obtain⟨k,hk,h⟩:=zH.mp h;subst h;obtain⟨s1,j1,p1,rfl,e1⟩:=sJ hi;obtain⟨s2,j2,p2,rfl,e2⟩:=sJ hk;exact⟨s1,j1,p1,s2,j2,p2,p,rfl,e1,e2⟩
  .cases h
 .cases h
def ahm:E->Bool
 | .cst .non=>true|_=>false
theorem afd (h:ahm e=true):e= .cst .non:=by
 unfold ahm at h;split at h
 .rfl
 .cases h
def Un:Expr->Bool
 | .Dict [] [] _=>true|_=>false
theorem Um (h:Un a=true):∃ p,a= .Dict [] [] p:=by
 unfold Un at h;split at h
 .exact⟨_,rfl⟩
 .cases h
def abm:Expr->Option (Expr×Expr×Expr×List Expr×Scope)
 | .ListComp e [g] s _=>if g.is_async=0 then some (e,g.target,g.iter,g.ifs,s)else none|_=>none
theorem K3 {a:Expr} {t:Expr×Expr×Expr×List Expr×Scope} (h:abm a=some t):∃ p,a= .ListComp t.1 [⟨t.2.1,t.2.2.1,t.2.2.2.1,0⟩] t.2.2.2.2 p:=by
 cases a with
 |ListComp e gs s p=>
  match gs,h with
  |[⟨tg,it,ifs,k⟩],h=>
   have h:(if k=0 then some (e,tg,it,ifs,s)else none)=some t:=h;by_cases q:k=0
   .rw[if_pos q]at h;cases cP h;exact⟨p,by rw[q]⟩
   .rw[if_neg q]at h;exact ak h
  |[],h=>exact ak h|_::_::_,h=>exact ak h
 |_=>exact ak h
def Hi:It->Bool
 | .rng as=>decide (mK as<=2)|_=>false
mutual
noncomputable def mE (c:Ctx):E->Expr->Bool
 | .var i,a=>opt (pI a) fun x=>c.at_ i x&&c.vis x&& !f9 x
 | .cst d,a=>opt (Uq a) fun k=>mC k d
 | .gbl y d,a=>opt (pI a) fun x=>x==y&&c.Ak x&& !f9 x
 | .bin op l r,a=>opt (aiD a) fun t=>op==t.2.1&&mE c l t.1&&mE c r t.2.2
 | .neg l,a=>opt (aiB a) fun t=>mE c l t
 | .not l,a=>opt (aiA a) fun t=>mE c l t
 | .cmp op l r,a=>opt (Ur a) fun t=>op==t.2.1&&mE c l t.1&&mE c r t.2.2&&jA t.2.2
 | .QC n l r,a=>opt (Ur a) fun t=>(t.2.1==(if n then ab3 else CmpOp.Eq))&&mE c l t.1&&mE c r t.2.2&&jA t.2.2
 | .chain p q l m r,a=>opt (abn a) fun t=>p==t.2.1&&q==t.2.2.1&&mE c l t.1&&mE c m t.2.2.2.1&&mE c r t.2.2.2.2&&jA t.2.2.2.2&&jA t.2.2.2.1
 | .and x y,a=>opt (aiE a) fun t=>mE c x t.1&&mE c y t.2
 | .or x y,a=>opt (vOr a) fun t=>mE c x t.1&&mE c y t.2
 | .ife t x y,a=>opt (vIf a) fun q=>mE c t q.1&&mE c x q.2.1&&mE c y q.2.2
 | .call x _ as,a=>opt (lg a) fun t=>x==t.1&&c.Ak x&& !f9 x&&qd c as t.2
 | .blt x as,a=>opt (lg a) fun t=>c.calm&&PX.contains x&&afS x==t.1&&cQ c t.1&&qd c as t.2&& !t.2.isEmpty
 | .aaZ x l r,a=>opt (Ut a) fun t=>c.calm&&x=="max"&&t.1==aF "max"&&cQ c t.1&&mE c l t.2.1&&notStar t.2.1&&(t.2.2.arg==some (aF "default"))&&mE c r t.2.2.value
 | .isin l t,a=>opt (lg a) fun q=>opt (aiy q.2) fun w=>opt (pI w.2) fun z=>(q.1==aF "isinstance")&&cQ c q.1&&["int","bool","str","tuple","list","dict"].contains t&&(z==aF t)&&cQ c z&&mE c l w.1&&notStar w.1
 | .isin l t (some _),a=>opt (Ur a) fun w=>opt (pI w.2.2) fun z=>(w.2.1== .In)&&(z==aF t)&&c.Ak z&& !f9 z&&mE c l w.1
 | .meth m o as,a=>opt (yU a) fun t=>(if t.2.2.1.isEmpty then ["pop"].contains m else ["append","insert","extend","pop"].contains m)&&t.2.1==aF m&&mL t.1&&t.2.2.2&&mE c o t.1&&qd c as t.2.2.1&&decide (t.2.2.1.length<30)
 | .Rj m o as,a=>opt (yU a) fun t=>["index","join","split","partition","startswith"].contains m&&t.2.1==aF m&&mL t.1&&t.2.2.2&&mE c o t.1&&qd c as t.2.2.1&&decide (t.2.2.1.length<30)&&(t.2.2.1.isEmpty==(m=="clear"))
 | .rmv o as,a=>opt (yU a) fun t=>c.calm&&t.2.1==aF "remove"&&mL t.1&&t.2.2.2&&mE c o t.1&&qd c as t.2.2.1&&decide (t.2.2.1.length<30)&& !t.2.2.1.isEmpty
 | .aaH as,a=>opt (lg a) fun t=>c.calm&&(t.1==aF "min")&&cQ c t.1&&qd c as t.2&& !t.2.isEmpty
 | .dd3 k1 k2 k3 x y z,a=>(match k2 with
  |[]=>opt (Ms a) fun t=>(t.1.1==k1)&&(t.1.2==k3)&& !decide (k1=k3)&&ahm y&&mE c x t.2.1&&mE c z t.2.2
  |u::k=>opt (Mr a) fun t=>(t.1.1==k1)&&(t.1.2.1==u::k)&&(t.1.2.2==k3)&& !decide (k1=u::k)&& !decide (k1=k3)&& !decide (u::k=k3)&&mE c x t.2.1&&mE c y t.2.2.1&&mE c z t.2.2.2)
 | .idx x y,a=>opt (Bo a) fun t=>mE c x t.1&&mE c y t.2&&dW t.2
 | .slc _ x lo hi,a=>opt (aiz a) fun t=>mE c x t.1&&mO c lo t.2.1&&mO c hi t.2.2
 | .tup as,a=>opt (abf a) fun es=>qd c as es&&decide (es.length<=16777216)
 | .lst _ as,a=>opt (aiC a) fun es=>qd c as es&&decide (es.length<=16777216)
 | .comp _ n tt cap elt it cond,a=>opt (abm a) fun t=>(c.calm||(Hi it&& !tt))&&opt (FT tt t.2.1) fun xs=>opt (lJ c cap) fun cs=>n==xs.length&&JW c t.2.2.2.2 (xs++cs) cs&&vO tt it&&mI c it t.2.2.1&&mTg (c.in_ (xs++cs) t.2.2.2.2.names) (aY n) tt t.2.1&&mE (c.in_ (xs++cs) t.2.2.2.2.names) elt t.1&&qd (c.in_ (xs++cs) t.2.2.2.2.names) cond t.2.2.2.1&&decide (t.2.2.2.1.length<=1)
 | .frz x,a=>mE c x a| .aaP _,a=>Un a| .Yb x y,a=>opt (Bo a) fun t=>c.calm&&mE c x t.1&&mE c y t.2&&dW t.2
 | .fld _ f o,a=>opt (Gz a) fun t=>t.2==aF f&&mL t.1&&mE c o t.1
 | .q9 _ m _ o as,a=>opt (yU a) fun t=>t.2.1==aF m&&mL t.1&&t.2.2.2&&mE c o t.1&&qd c as t.2.2.1&&decide (t.2.2.1.length<30)
 | .mk x _ as,a=>opt (lg a) fun t=>aF x==t.1&&c.Ak t.1&& !f9 t.1&&qd c as t.2
noncomputable def qd (c:Ctx):Es->List Expr->Bool
 | .nil,as=>as.isEmpty| .cons e es,as=>match as with|[]=>false|a::as=>mE c e a&&notStar a&&qd c es as
noncomputable def mO (c:Ctx):Es->Option Expr->Bool
 | .nil,a=>a.isNone| .cons e es,a=>match a,es with|some a,.nil=>mE c e a|_,_=>false
noncomputable def mI (c:Ctx):It->Expr->Bool
 | .seq e,a=>mE c e a&&jA a| .rng as,a=>opt (lg a) fun t=>(t.1==aF "range")&&cQ c t.1&&qd c as t.2&&(t.2.length==1||t.2.length==2||t.2.length==3)
 | .enum l,a=>opt (lg a) fun t=>match t.2 with|[l']=>(t.1==aF "enumerate")&&cQ c t.1&&mE c l l' &&notStar l' |_=>false
 | .rvd l,a=>opt (lg a) fun t=>match t.2 with|[l']=>(t.1==aF "reversed")&&cQ c t.1&&mE c l l' &&notStar l' |_=>false
end
def CW:Expr->Bool
 | .Tuple ..=>false| .List ..=>false|_=>true
def isLocal (c:Ctx) (x:Str):Bool:=c.names.lookup x==some .local
def Qk:E->Bool
 | .comp ..=>true|_=>false
def mXC (c:Ctx):XC->Expr->Bool
 | .dsp x _ _ i as,a=>opt (Uv a) fun t=>opt (Bo t.1) fun u=>opt (pI u.1) fun z=>z==x&&c.Ak x&& !f9 x&&mE c i u.2&&dW u.2&&qd c as t.2&& !t.2.isEmpty
def GF:Stmt->Option (Expr×Expr)
 | .Assign [t] v _=>some (t,v)|_=>none
theorem sV {a:Stmt} {t:Expr×Expr} (h:GF a=some t):∃ p,a= .Assign [t.1] t.2 p:=by
 cases a with
 |Assign ts v p=>
  match ts,h with
  |[x],h=>cases cP (show some (x,v)=some t from h);exact⟨p,rfl⟩
  |[],h=>exact ak h|_::_::_,h=>exact ak h
 |_=>exact ak h
def abx:Stmt->Option (Expr×jx×Expr)
 | .AugAssign t o v _=>some (t,o,v)|_=>none
theorem Ra {a:Stmt} {t:Expr×jx×Expr} (h:abx a=some t):∃ p,a= .AugAssign t.1 t.2.1 t.2.2 p:=by
 cases a with
 |AugAssign x o v p=>cases cP (show some (x,o,v)=some t from h);exact⟨p,rfl⟩
 |_=>exact ak h
def aiI:Stmt->Option Expr
 | .Expr v _=>some v|_=>none
theorem abw {a:Stmt} {t:Expr} (h:aiI a=some t):∃ p,a= .Expr t p:=by
 cases a with
 |Expr v p=>cases cP (show some v=some t from h);exact⟨p,rfl⟩
 |_=>exact ak h
def abt:Stmt->Option (Option Expr)
 | .Return v _=>some v|_=>none
theorem Q9 {a:Stmt} {t:Option Expr} (h:abt a=some t):∃ p,a= .Return t p:=by
 cases a with
 |Return v p=>cases cP (show some v=some t from h);exact⟨p,rfl⟩
 |_=>exact ak h
def uIf:Stmt->Option (Expr×List Stmt×List Stmt)
 | .If t x y _=>some (t,x,y)|_=>none
theorem agq {a:Stmt} {t:Expr×List Stmt×List Stmt} (h:uIf a=some t):∃ p,a= .If t.1 t.2.1 t.2.2 p:=by
 cases a with
 |If u x y p=>cases cP (show some (u,x,y)=some t from h);exact⟨p,rfl⟩
 |_=>exact ak h
def aiH:Stmt->Option (Expr×Expr×List Stmt)
 | .For t i b [] _=>some (t,i,b)|_=>none
theorem abu {a:Stmt} {t:Expr×Expr×List Stmt} (h:aiH a=some t):∃ p,a= .For t.1 t.2.1 t.2.2 [] p:=by
 cases a with
 |For u i b e p=>
  cases e with
  |nil=>cases cP (show some (u,i,b)=some t from h);exact⟨p,rfl⟩
  |cons _ _=>exact ak h
 |_=>exact ak h
def aiF:Stmt->Option (Expr×List Stmt)
 | .While t b [] _=>some (t,b)|_=>none
theorem abq {a:Stmt} {t:Expr×List Stmt} (h:aiF a=some t):∃ p,a= .While t.1 t.2 [] p:=by
 cases a with
 |While u b e p=>
  cases e with
  |nil=>cases cP (show some (u,b)=some t from h);exact⟨p,rfl⟩
  |cons _ _=>exact ak h
 |_=>exact ak h
def aiG:Stmt->Option (List Stmt×V6)
 | .Try b [x] [] [] _=>some (b,x)|_=>none
theorem abr {a:Stmt} {t:List Stmt×V6} (h:aiG a=some t):∃ p,a= .Try t.1 [t.2] [] [] p:=by
 cases a with
 |Try b xs o f p=>
  match xs,o,f,h with
  |[x],[],[],h=>cases cP (show some (b,x)=some t from h);exact⟨p,rfl⟩
  |[],_,_,h=>exact ak h|_::_::_,_,_,h=>exact ak h|[_],_::_,_,h=>exact ak h|[_],[],_::_,h=>exact ak h
 |_=>exact ak h
mutual
noncomputable def mS (c:Ctx):S->Stmt->Bool
 | .set i e,a=>opt (GF a) fun t=>opt (pI t.1) fun x=>c.at_ i x&&c.loc x&&mE c e t.2&&(ig t.2||Qk e)
 | .Rt is e,a=>opt (GF a) fun t=>opt (abf t.1) fun ts=>c.calm&&jC c is ts&&mE c e t.2&&ig t.2&&CW t.2
 | .dput o i e,a=>opt (GF a) fun t=>opt (Bo t.1) fun u=>c.calm&&mE c o u.1&&mE c i u.2&&dW u.2&&mE c e t.2&&ig t.2
 | .Mg op o i e,a=>opt (abx a) fun t=>opt (Bo t.1) fun u=>op==t.2.1&&(op== .Add||op== .Sub)&&mE c o u.1&&mE c i u.2&&dW u.2&&mE c e t.2.2
 | .G9 o i e,a=>opt (GF a) fun t=>opt (Bo t.1) fun u=>mE c o u.1&&mE c i u.2&&dW u.2&&mE c e t.2&&ig t.2
 | .exp e,a=>opt (aiI a) fun v=>mE c e v&&ig v
 | .ret e,a=>opt (abt a) fun o=>opt o fun v=>mE c e v
 | .ite t x y,a=>opt (uIf a) fun u=>mE c t u.1&&Dc c x u.2.1&&Dc c y u.2.2
 | .for_ is tt it b,a=>opt (aiH a) fun u=>c.calm&&mTg c is tt u.1&&mI c it u.2.1&&Dc c b u.2.2&&jA u.2.1&&vO tt it
 | .whl t b,a=>opt (aiF a) fun u=>mE c t u.1&&Dc c b u.2
 | .pN cn f o e,a=>opt (GF a) fun t=>opt (Gz t.1) fun u=>u.2==aF f&&mE c o u.1&&mE c e t.2
 | .aa1 cn f op o e,a=>opt (abx a) fun t=>opt (Gz t.1) fun u=>u.2==aF f&&op==t.2.1&&(op== .Add||op== .Sub)&&mE c o u.1&&mE c e t.2.2
 | .aai k,a=>opt (abt a) fun o=>opt o fun v=>mXC c k v
 | .Z7 P tab i b hs,a=>opt (aiG a) fun t=>Dc {c with rs:=false} b t.1
 | .Xn,_=>true
noncomputable def Dc (c:Ctx):Ss->List Stmt->Bool
 | .nil,as=>as.isEmpty| .cons s r,as=>match as with|[]=>false|a::as=>mS c s a&&Dc c r as
end
inductive Rf where
 |fn (x:Str)|q9 (c m:String)|mk (c:String)|fld (c f:String)
 |din (x:Str) (ks:List (List Nat))|dsp (x:Str) (ks:List (List Nat)) (sp:rH)
 |lam
 |fnM (x:Str)|rsi (c:String) (ks:List String)|efl (f:String) (tab:List String)
 |fnX (x:Str) (sp:rH)|alc (c m:String) (sp:rH)|mkX (c:String) (sp:rH)|rse (c:String)|hdl (P:String) (tab:List String)|isx (tt:Bool) (ts:List String) (tab:List (String×Bool))
def YT:dh:=fun _ _ _=>False
mutual
noncomputable def cC (P:Rf->dh->Prop) (G:Str->D->Prop):E->Prop
 | .gbl x d=>G x d| .bin _ a b=>cC P G a/\cC P G b| .neg a=>cC P G a| .not a=>cC P G a| .cmp _ a b=>cC P G a/\cC P G b| .QC _ a b=>cC P G a/\cC P G b| .chain _ _ a b c=>cC P G a/\cC P G b/\cC P G c| .and a b=>cC P G a/\cC P G b| .or a b=>cC P G a/\cC P G b| .ife a b c=>cC P G a/\cC P G b/\cC P G c| .call x sp as=>P (.fn x) sp/\fH P G as| .blt _ as=>fH P G as| .aaZ _ a b=>cC P G a/\cC P G b| .isin a _=>cC P G a| .isin a t (some ks)=>P (.din (aF t) ks) YT/\cC P G a| .meth _ o as=>cC P G o/\fH P G as| .Rj _ o as=>cC P G o/\fH P G as| .rmv o as=>cC P G o/\fH P G as| .aaH as=>fH P G as| .dd3 _ _ _ a b e=>cC P G a/\cC P G b/\cC P G e| .idx a b=>cC P G a/\cC P G b| .slc _ a lo hi=>cC P G a/\fH P G lo/\fH P G hi| .tup as=>fH P G as| .lst _ as=>fH P G as| .comp _ _ _ _ elt it cond=>cC P G elt/\okI P G it/\fH P G cond| .frz a=>cC P G a| .Yb a b=>cC P G a/\cC P G b| .fld c f o=>P (.fld c f) YT/\cC P G o| .q9 c m sp o as=>P (.q9 c m) sp/\cC P G o/\fH P G as| .mk c sp as=>P (.mk c) sp/\fH P G as|_=>True
noncomputable def fH (P:Rf->dh->Prop) (G:Str->D->Prop):Es->Prop
 | .nil=>True| .cons e es=>cC P G e/\fH P G es
noncomputable def okI (P:Rf->dh->Prop) (G:Str->D->Prop):It->Prop
 | .seq e=>cC P G e| .rng as=>fH P G as| .enum a=>cC P G a| .rvd a=>cC P G a
end
def aam (P:Rf->dh->Prop) (G:Str->D->Prop):XC->Prop
 | .dsp x ks sp i as=>P (.dsp x ks sp) YT/\cC P G i/\fH P G as
mutual
noncomputable def okS (P:Rf->dh->Prop) (G:Str->D->Prop):S->Prop
 | .set _ e=>cC P G e| .Rt _ e=>cC P G e| .dput o i e=>cC P G o/\cC P G i/\cC P G e| .Mg _ o i e=>cC P G o/\cC P G i/\cC P G e| .G9 o i e=>cC P G o/\cC P G i/\cC P G e| .exp e=>cC P G e| .ret e=>cC P G e| .ite c a b=>cC P G c/\jz P G a/\jz P G b| .for_ _ _ it b=>okI P G it/\jz P G b| .whl c b=>cC P G c/\jz P G b| .pN c f o e=>P (.fld c f) YT/\cC P G o/\cC P G e| .aa1 c f _ o e=>P (.fld c f) YT/\cC P G o/\cC P G e| .aai k=>aam P G k| .Z7 _ _ _ b _=>jz P G b|_=>True
noncomputable def jz (P:Rf->dh->Prop) (G:Str->D->Prop):Ss->Prop
 | .nil=>True| .cons s r=>okS P G s/\jz P G r
end
open PySem.Spec PyProof.Rows
open L2 (aN Key frs vC Loc Look Mod sG cT)
section
variable {X:Cx} {ρ:dD} {θ:Th} {μ:Mem} {s:aj} {d e x y:D} {u v w:Value} {ds es:List D} {us vs:List Value} {Qd:QD} {Q:Value->aj->Prop} {E:Value->aj->Prop} {a:Addr} {n k j:Nat} {A:aP} {wa wb wc:WE} {pos:Pos}
theorem aiJ {Qa:Bool->Mem->Prop} {Qb:Bool->aj->Prop} (i:Iv X ρ θ μ s) (r:Rp s.heap θ μ d u) (h:fM d μ Qa) (f:Fn X ρ θ μ s Alike Qa Qb):ao X.M X.A (Hr u) Qb E s:=by
 have hs:sizeLine=16777216:=cY;unfold fM at h;split at h
 .rename_i b e
  have sq:∀ {ds:List D},aC μ d=some ds->b=(ds.length !=0)->ao X.M X.A (Hr u) Qb E s:=fun {ds} e eb=>by
   obtain⟨a,us,rfl,x,r⟩:=vR i.dG r e;have l:=x.fix.1;(have z:(!us.toArray.isEmpty)=b:=by rw[eb,<-r.length];cases us<;>simp);by_cases hk:U3 d=0
   .rw[hk]at x
    exact truthy_tuple (fW x) (by simp only[cF];lia) (by rw[z];exact f.tok i rfl h)
   .exact wpAny_truthy_list (fY x hk).isList (by simp only[cF];lia) (by rw[z];exact f.tok i rfl h)
  cases d with
  |non=>cases(show u=iR from r);cases e;exact truthy_none (f.at i rfl h)
  |bl c=>cases(show u=gM c from r);cases e;exact m7 (f.at i rfl h)
  |int c=>obtain⟨t,rfl⟩:=r;cases e;exact PySem.P.truthy_int (f.at i rfl h)
  |str c=>obtain⟨⟨t,rfl⟩,l⟩:=r;cases e;refine PySem.P.truthy_str (by simp only[eE,cF];lia) (f.tok i ?_ h);show(c.length !=0)=_;simp only[eE,cF];cases c<;>simp;lia
  |tup l=>cases e;exact sq rfl rfl
  |lst l=>cases e;exact sq rfl rfl
  |ro l=>cases e;exact sq rfl rfl
  |loc n=>
   simp only[truth,lenOf]at e;cases q:aC μ (.loc n) with
   |none=>rw[q]at e;cases e
   |some ds=>rw[q]at e;cases e;exact sq q rfl
  |_=>exact r.elim
 .exact h.elim
theorem ajp {a:Expr} (ha:PE X a wa) (he:∀ whole,w7 a X.env whole=(do let v<-whole;Hw a.pos;tR [v] (Hr v))):PT X a (fun ρ μ Q=>wa ρ μ fun d μ1=>fM d μ1 Q):=fun i h f=>isTrue_plain (ha i h fun i1 g1 r1 h1=>aiJ i1 r1 h1 (f.mono g1)) (he _)
theorem ahY {t:String} (w:pD X.T θ μ s.heap) (r:Rp s.heap θ μ d u) (h:tyOf μ d=some t):t∈["NoneType","bool","int","str","tuple","list","dict"]/\s.TypeIs u t/\∀ a,u= .ref a->∃ o,s.heap.get? a=some o/\o.dict=none:=by
 cases d with
 |non=>cases(show u=iR from r);cases h;exact⟨by simp,rfl,fun _ e=>nomatch e⟩
 |bl c=>cases(show u=gM c from r);cases h;exact⟨by simp,rfl,fun _ e=>nomatch e⟩
 |int i=>obtain⟨t,rfl⟩:=r;cases h;exact⟨by simp,typeIs_int s i t,fun _ e=>nomatch e⟩
 |str y=>obtain⟨⟨t,rfl⟩,_⟩:=r;cases h;exact⟨by simp,qT s _ t,fun _ e=>nomatch e⟩
 |tup ds=>obtain⟨a,us,rfl,⟨_,o,n,e,c,_,z⟩,_⟩:=r;cases h;exact⟨by simp,⟨o,e,c⟩,fun _ q=>by cases q;exact⟨o,e,z⟩⟩
 |lst ds=>obtain⟨a,us,rfl,⟨_,n,e⟩,_⟩:=r;cases h;exact⟨by simp,⟨_,e,rfl⟩,fun _ q=>by cases q;exact⟨_,e,rfl⟩⟩
 |loc n=>
  obtain⟨p,rfl,hp⟩:=r;simp only[tyOf]at h;split at h
  .rename_i es hn
   obtain⟨us,⟨_,n,e⟩,_⟩:=w.cell _ _ p hn hp;cases h;exact⟨by simp,⟨_,e,rfl⟩,fun _ q=>by cases q;exact⟨_,e,rfl⟩⟩
  .rename_i ks es hn
   obtain⟨⟨_,⟨o,_,_,e,x,_⟩,_⟩,_⟩:=w.cell _ _ p hn hp;cases h;exact⟨by simp,⟨o,e,x.1⟩,fun _ q=>by cases q;exact⟨o,e,x.2.1⟩⟩
  .rename_i ks es hn
   obtain⟨⟨_,⟨o,_,_,e,x,_⟩,_⟩,_⟩:=w.cell _ _ p hn hp;cases h;exact⟨by simp,⟨o,e,x.1⟩,fun _ q=>by cases q;exact⟨o,e,x.2.1⟩⟩
  .cases h
 |ro _=>cases h
 |_=>exact r.elim
theorem Gj {i:Int} (h:n6 n i=some j):Vn i n=some j/\j<n/\-(n:Int)<=i/\i<n:=L2.ahk h
theorem ai6 {h:aq} {i:Int} (r:c7 h θ μ ds us) (q:(n6 ds.length i).bind (ds[·]?)=some d):∃ j u,us[j]?=some u/\Rp h θ μ d u/\Vn i us.length=some j/\-(us.length:Int)<=i/\i<us.length:=by
 rw[<-r.length]at q;cases e:n6 us.length i with
 |none=>rw[e]at q;cases q
 |some j=>rw[e]at q;obtain⟨h1,_,h3,h4⟩:=Gj e;obtain⟨u,hu,ru⟩:=r.get (i:=j) q;exact⟨j,u,hu,ru,h1,h3,h4⟩
theorem ake {value slice:Expr} (i:Iv X ρ θ μ s) (rd:Rp s.heap θ μ x u) (re:Rp s.heap θ μ y v) (hw:dH x y μ Qd) (f:Fin X ρ θ μ s Qd Q) (hs:NP slice false u v=operate [u,v] (iM u v)):
  ao X.M X.A (subscriptTail value slice u v) Q E s:=by
 have hn:=PN;unfold dH at hw;split at hw
 .rename_i z i'
  obtain⟨⟨t,rfl⟩,hz⟩:=rd;obtain⟨t',rfl⟩:=re;split at hw
  .rename_i c hc
   cases e:n6 z.length i' with
   |none=>rw[e]at hc;cases hc
   |some j=>rw[e]at hc;obtain⟨h1,h2,h3,h4⟩:=Gj e;(have hl:(⟨z.toArray⟩:Str).length=z.length:=by simp[eE]);exact tail_any (qT s _ t) acK.lookup (getItem_str (c:=c) (by have e1:decide (i' < -(2 ^ 63:Int))=false:=decide_eq_false (by lia);have e2:decide (i' ≥2 ^ 63)=false:=decide_eq_false (by lia);rw[e1,e2,Bool.or_false]) (by rw[hl,h1];simpa using hc) (f.tok i (wX (x:=[c]) (by simp[cY])) hw)) hs
  .exact hw.elim
 .rename_i x' i' hne
  obtain⟨t',rfl⟩:=re;split at hw
  .rename_i ds hq
   obtain⟨a,us,rfl,z,r⟩:=vR i.dG rd hq;have l:=z.fix.1;split at hw
   .rename_i d' hd
    obtain⟨j,w,ew,rw',h1,h3,h4⟩:=ai6 r hd;have fin:Q w s:=f.at i rw' hw;by_cases hk:U3 x=0
    .rw[hk]at z
     exact adT (x:=w) (fW z).typeIs Le.lookup
      (getItem_tuple (j:=j) (Q:=fun r s'=>r=w/\Q r s') (fW z) (by lia) (by lia) (by rw[cF];exact h1) (by simpa using ew) ⟨rfl,fin⟩) hs
    .have pl:=fY z hk
     by_cases h0:0<=i'
     .have hj:i'.toNat=j:=by rw[Vz h0 h4]at h1;exact cP h1
      exact item_listR pl.isList h0 (by lia) (by rw[hj];simpa using ew) fin hs
     .have hj:(i' +(us.toArray.size:Int)).toNat=j:=by rw[seqIndex_neg (by lia) h3]at h1;rw[cF];exact cP h1
      exact adT (x:=w) pl.isList.typeIs ac1.lookup
       (wpAny_getItem_list_neg (Q:=fun r s'=>r=w/\Q r s') pl.isList (by lia) (by rw[cF]<;>lia) (by lia) (by rw[hj];simpa using ew) ⟨rfl,fin⟩) hs
   .exact hw.elim
  .exact hw.elim
 .exact hw.elim
def Bg (b:Expr):Prop:=∀ o i,NP b false o i=operate [o,i] (iM o i)
theorem ajG {a b:Expr} (ha:PE X a wa) (hb:PE X b wb) (hs:Bg b):PE X (.Subscript a b pos) (fun ρ μ Q=>wa ρ μ fun x μ1=>wb ρ μ1 fun y μ2=>dH x y μ2 Q):=fun i h f=>Vs (ha i h fun i1 g1 r1 h1=>hb i1 h1 fun i2 g2 r2 h2=>ake i2 ((i1.kp g2).rp r1) r2 h2 (f.mono (g1.trans g2)) (hs _ _))
theorem oF (n d:Nat) (o:Option Int):j4 n d o=HT.n7 n d o:=by
 cases o with
 |none=>rfl|some v=>first|rfl|(simp only[j4,HT.n7];done)|(simp only[j4,HT.n7];split<;>lia)
theorem part_of {o:Option Int} (h:j5 v o):∃ l:Option (Int×Tok),partValue l=v/\l.map (·.1)=o:=by
 cases h with
 |none=>exact⟨none,rfl,rfl⟩|int i t=>exact⟨some (i,t),rfl,rfl⟩
theorem Z8 {z:List Nat} {lo hi:Option Int} (h1:∀ i,lo=some i->0<=i) (h2:∀ i,hi=some i->0<=i):
  lA lo hi 1 z.length=lA (some ((j4 z.length 0 lo:Nat):Int)) (some ((j4 z.length z.length hi:Nat):Int)) 1 z.length:=by
 have e1:∀ (d:Nat) (i:Int),0<=i->((j4 z.length d (some i):Nat):Int)=min i z.length:=fun d i a=>by unfold j4;simp only[show¬i<0 by lia,if_false];lia
 have k0:∀ hi,lA none hi 1 z.length=lA (some 0) hi 1 z.length:=fun hi=>by unfold lA;simp[show max (0:Int) (min 0 (z.length:Int))=0 by lia]
 have k1:∀ lo,lA lo none 1 z.length=lA lo (some (z.length:Int)) 1 z.length:=fun lo=>by unfold lA;simp[show¬((z.length:Int)<0) by lia,show max (0:Int) (min (z.length:Int) (z.length:Int))=z.length by lia]
 have k2:∀ (i:Int) hi,0<=i->lA (some i) hi 1 z.length=lA (some (min i z.length)) hi 1 z.length:=fun i hi a=>by unfold lA;simp[show¬(i<0) by lia,show¬(min i (z.length:Int)<0) by lia,show min (min i (z.length:Int)) (z.length:Int)=min i (z.length:Int) by lia]
 have k3:∀ (i:Int) lo,0<=i->lA lo (some i) 1 z.length=lA lo (some (min i z.length)) 1 z.length:=fun i lo a=>by unfold lA;simp[show¬(i<0) by lia,show¬(min i (z.length:Int)<0) by lia,show min (min i (z.length:Int)) (z.length:Int)=min i (z.length:Int) by lia]
 have lo':lA lo hi 1 z.length=lA (some ((j4 z.length 0 lo:Nat):Int)) hi 1 z.length:=by
  cases lo with
  |none=>exact k0 hi|some i=>rw[e1 _ i (h1 i rfl)];exact k2 i hi (h1 i rfl)
 rw[lo'];cases hi with
 |none=>exact k1 _|some j=>rw[e1 _ j (h2 j rfl)];exact k3 j _ (h2 j rfl)
theorem Z6 {prog:bN} {w:aO} {A:aP} {E:Value->aj->Prop} {s:aj} {t sl:Addr} {its:Array Value} {vl vu:Value} {lo hi:Option Int} {Q:Value->aj->Prop}
  (ht:IsTup s.heap t its) (hs:s.heap.IsSliceOf sl vl vu .none) (pl:j5 vl lo) (pu:j5 vu hi) (h0:HT.n7 its.size 0 lo=0) (h1:HT.n7 its.size its.size hi=its.size) (h:Q (.ref t) s):
  ao (aU prog w) A (iM (.ref t) (.ref sl)) Q E s:=by
 have ts:s.TypeIs (.ref sl) "slice":=by obtain⟨os,a,b,_⟩:=id hs;exact⟨os,a,b⟩
 unfold iM
 (try with_reducible refine pQ ?_)
 (first|refine au (aG ?_)|skip)
 refine au
  (WM ht.typeIs (by decide) ?_)
 refine au (Iu
  (name:=aF "__getitem__") ht.typeIs
  Le (xX
   Le ht.typeIs ac5 ?_ (ac0 _ _)))
 show ao _ _ (aef _>>=_) _ _ s;refine au (acu ht
  (au (NT ts ?_)))
 rw[if_pos (by decide)];refine au (HT.pL hs pl pu ?_);rw[h0,h1];show ao _ _ (if((((0:Nat):Int)==0&&(1:Int)==1&&(its.size -0)==its.size)=true)then _ else _) _ _ s;rw[if_pos (by simp)];first
  |exact au (au (m:=aeb _) (au (NT ht.typeIs (aG (au (Cg (au (aG ⟨_,rfl,aG h⟩))))))))
  | exact au (m:=aeb _) (au (NT ht.typeIs (aG (by
    show ao _ _ (if((abX "tuple"==abX "tuple")=true)then _ else _) _ _ s;rw[if_pos (by decide)];first
     |exact au (Cg (aG ⟨_,rfl,aG h⟩))
     |exact au (Cg (au (aG (aG ⟨_,rfl,aG h⟩))))
     |exact au (Cg (au (aG ⟨_,rfl,aG h⟩)))))))
theorem agz {vl vu:Value} {lo hi:Option Int} {sl:Addr} (i:Iv X ρ θ μ s) (rd:Rp s.heap θ μ (.tup ds) v) (hs:s.heap.IsSliceOf sl vl vu .none) (pl:j5 vl lo) (pu:j5 vu hi) (hq:Qd (.tup (cutD ds lo hi)) μ) (f:Fin X ρ θ μ s Qd Q):
  ∃ T id,Nx (.type T) "__getitem__"=pure (some (.builtin id))/\s.TypeIs v T/\ao X.M X.A (iM v (.ref sl)) Q E s:=by
 have rd':=rd;obtain⟨a,us,rfl,x,_,r⟩:=rd;have ht:=fW x;have l:=x.fix.1;have hlen:us.toArray.size=ds.length:=by rw[cF,r.length]
 refine⟨"tuple",_,Le.lookup,ht.typeIs,?_⟩;by_cases hn:j4 ds.length 0 lo=0/\j4 ds.length ds.length hi=ds.length
 .rw[show cutD ds lo hi=ds by unfold cutD;rw[hn.1,hn.2];simp]at hq
  exact Z6 ht hs pl pu (by rw[hlen,<-oF];exact hn.1) (by rw[hlen,<-oF];exact hn.2) (f.at i rd' hq)
 .refine HT.Am ht hs pl pu (by rw[hlen,<-oF,<-oF];exact hn) ?_ (by rw[cF];exact l)
  rw[<-oF,<-oF,hlen];refine f.sq i cZ (aB _) (qI _ ?_).2 ((r.drop _).take _) hq;simp only[vY,Ie];lia
theorem aiY {vl vu:Value} {lo hi:Option Int} {sl:Addr} (m:Bool) (i:Iv X ρ θ μ s) (rd:Rp s.heap θ μ d v) (hs:s.heap.IsSliceOf sl vl vu .none) (pl:j5 vl lo) (pu:j5 vu hi) (hw:Fg m d lo hi μ Qd) (f:Fin X ρ θ μ s Qd Q):
  ∃ T id,Nx (.type T) "__getitem__"=pure (some (.builtin id))/\s.TypeIs v T/\ao X.M X.A (iM v (.ref sl)) Q E s:=by
 have go:∀ {ds:List D} {us:List Value} {a:Addr},v= .ref a->jP s.heap 1 a us->c7 s.heap θ μ ds us->newL m (cutD ds lo hi) μ Qd->∃ T id,Nx (.type T) "__getitem__"=pure (some (.builtin id))/\s.TypeIs v T/\ao X.M X.A (iM v (.ref sl)) Q E s:=fun {ds us a} ev x r hq=>by
  subst ev;have pl':=fY x (by decide);have l:=x.fix.1;refine⟨"list",_,ac1.lookup,pl'.isList.typeIs,wpAny_getItem_list_slice (E:=E) (Q:=Q) pl'.isList hs pl pu .none (by simp) ?_ (by rw[cF]<;>lia)⟩;rw[L2.Ke,<-oF,<-oF];refine f.newL i cZ (aB _) (qI _ ?_).1 ?_ hq
  .rw[vY,Ie];lia
  .rw[r.length];exact(r.drop _).take _
 cases d with
 |lst ds=>obtain⟨a,us,ev,x,_,r⟩:=rd;exact go ev x r hw|loc n=>
  simp only[Fg]at hw;split at hw
  .rename_i ds hn
   obtain⟨p,us,ev,_,_,x,r⟩:=Iv.lst i.dG hn rd;exact go ev x r hw
  .exact hw.elim
 |str z=>
  obtain⟨⟨t,rfl⟩,hz⟩:=rd;obtain⟨⟨h1,h2,h3⟩,hq⟩:=hw;obtain⟨l,rfl,el⟩:=part_of pl;obtain⟨u',rfl,eu⟩:=part_of pu;have hb:j4 z.length z.length hi<=z.length:=by
   cases hi with
   |none=>exact aB _|some j=>unfold j4;simp only[show¬j<0 by have:=h2 j rfl;lia,if_false];lia
  have hpk:Nz ⟨z.toArray⟩ l u' none=lA (some ((j4 z.length 0 lo:Nat):Int)) (some ((j4 z.length z.length hi:Nat):Int)) 1 z.length:=by unfold Nz;rw[el,eu];have:=Z8 (z:=z) h1 h2;simpa[eE]using this
  have hpf:(Nz ⟨z.toArray⟩ l u' none).filterMap ((⟨z.toArray⟩:Str).cps[·]?)=cutD z lo hi:=by rw[hpk];have:=StrLaws.sliced_plain ⟨z.toArray⟩ h3 (by simpa[eE]using hb);simpa[eE,cutD]using this
  refine⟨"str",_,acK.lookup,qT s _ t,wpAny_getItem_str_slice (l:=l) (u:=u') (st:=none) (by obtain⟨o,a,b,c⟩:=hs;exact⟨o,a,b,c⟩) rfl ?_⟩;have hcl:(cutD z lo hi).length<=sizeLine:=by (have:(cutD z lo hi).length<=z.length:=by unfold cutD;simp;lia);lia
  unfold sliceMade;split
  .rename_i hw
   have:cutD z lo hi=z:=by (have hlen:(Nz ⟨z.toArray⟩ l u' none).length=z.length:=by simpa[eE]using hw);rw[hpk,StrLaws.strSliceIndices_plain h3 hb]at hlen;simp at hlen;unfold cutD;rw[show j4 z.length 0 lo=0 by lia,show j4 z.length z.length hi=z.length by lia];simp
   rw[this]at hq;exact f.at i (wX hz) hq
  .rw[hpf]
   exact⟨by simpa[eE]using hcl,f.tok i (wX hcl) hq⟩
 |tup ds=>exact agz i rd hs pl pu hw f|_=>exact hw.elim
noncomputable abbrev WO:=dD->Mem->(Option Int->Mem->Prop)->Prop
noncomputable abbrev PO (X:Cx) (e:Option Expr) (w:WO):Prop:=Jg X (fun _ _ _ o v=>j5 v o) (evalPart e X.env) w
theorem agO:PO X none fun _ μ Q=>Q none μ:=fun i h f=>by rw[evalPart_none];exact aG (f.at i .none h)
theorem agN {a:Expr} (ha:PE X a wa):PO X (some a) fun ρ μ Q=>wa ρ μ fun d μ1=>yS d μ1 fun i μ2=>Q (some i) μ2:=fun i h f=>by
 rw[evalPart_some];refine ha i h fun {d _ _ _ _} i1 g1 r1 h1=>?_;cases d with
 |int k=>obtain⟨t,rfl⟩:=r1;exact f i1 g1 (.int k t) h1|_=>exact h1.elim
theorem ajC {a:Expr} {lo hi:Option Expr} {wl wh:WO} {p2:Pos} (m:Bool) (ha:PE X a wa) (hl:PO X lo wl) (hu:PO X hi wh):
  PE X (.Subscript a (.Slice lo hi none p2) pos) (fun ρ μ Q=>wa ρ μ fun x μ1=>wl ρ μ1 fun l μ2=>wh ρ μ2 fun h μ3=>Fg m x l h μ3 Q):=fun i h f=>by
 refine Vs (ha i h fun i1 g1 r1 h1=>wpAny_Slice (hl i1 h1 fun {_ vl _ _ _} i2 g2 pl h2=>hu i2 h2 fun {_ vu s3 θ3 μ3} i3 g3 pu h3=>?_));rw[evalPart_none];refine aG ?_;have i4:=i3.kept (tk:=s3.toks) (h':=s3.heap.push {cls:=.type "slice",data:=.fields #[vl,vu,.none]}) cZ;have g4:G0 X θ3 μ3 s3 θ3 μ3 _:=cV (tk:=s3.toks) (h':=s3.heap.push {cls:=.type "slice",data:=.fields #[vl,vu,.none]}) cZ;obtain⟨T,id,hT,ht,hg⟩:=aiY m i4 ((jE cZ).rp ((i1.kp (g2.trans g3)).rp r1)) (ai9 ..) pl pu h3 (f.mono (((g1.trans g2).trans g3).trans g4));exact tail_any (ops:=[.ref s3.heap.objs.size,_]) ht hT hg (by with_unfolding_all rfl)
theorem U0 {h:aq} {us vs:List Value} {g:Array Value->Array Value} (x:jP h 1 a us) (hf:g us.toArray=vs.toArray) (l:vs.length<=sizeLine):jP (h.update a (gK g)) 1 a vs/\∀ b o,b≠a->h.get? b=some o->(h.update a (gK g)).get? b=some o:=by obtain⟨_,n,e⟩:=x;have q:=acJ e g;rw[hf]at q;exact⟨⟨l,_,q⟩,fun b o hb z=>(m8 _ _ (bK hb)).trans z⟩
theorem Ru {ov iv u:Value} {z:D} {K:Mem->Prop} {R:Unit->aj->Prop} (i:Iv X ρ θ μ s) (rx:Rp s.heap θ μ x ov) (ry:Rp s.heap θ μ y iv) (rz:Rp s.heap θ μ z u) (hw:qG x y z μ K)
  (f:∀ {s' μ'},Iv X ρ θ μ' s'->G0 X θ μ s θ μ' s'->K μ'->R () s'):ao X.M X.A (Hv ov iv u) R E s:=by
 have hn:=PN;unfold qG at hw;split at hw
 .rename_i n j
  split at hw
  .rename_i xs hn'
   obtain⟨p,us,rfl,hp,h2,q,r⟩:=Iv.lst i.dG hn' rx;obtain⟨t,rfl⟩:=ry;split at hw
   .rename_i k hk
    rw[<-r.length]at hk;obtain⟨h1,_,h3,h4⟩:=Gj hk;have l:=q.fix.1;obtain⟨q',kp⟩:=U0 q (g:=(·.setIfInBounds k u)) (vs:=us.set k u) (by simp) (by simpa using l)
    obtain⟨i',g,_⟩:=i.aiZ (tk:=s.toks) hn' hp h2 kp q' (r.set rz k);have fin:=f i' g hw;obtain⟨_,m,e⟩:=q;by_cases h0:0<=j
    .have hj:j.toNat=k:=by rw[Vz h0 h4]at h1;exact cP h1
     exact PySem.W.ki_setAt e h0 (by lia) (by rw[cF];exact h4) (by rw[hj];exact fin)
    .have hj:(j+(us.toArray.size:Int)).toNat=k:=by rw[seqIndex_neg (by lia) h3]at h1;rw[cF];exact cP h1
     exact PySem.W.ki_setBack e (by lia) (by rw[cF];exact h3) (by lia) (by rw[hj];exact fin)
   .exact hw.elim
  .exact hw.elim
 .exact hw.elim
def Mt (X:Cx) (id:String) (w:D->List D->Mem->QD->Prop):Prop:=
 ∀ {s:aj} {ρ:dD} {θ:Th} {μ:Mem} {x:D} {ds:List D} {u:Value} {us:List Value} {Qd:QD} {Q:Value->aj->Prop} {E:Value->aj->Prop},Iv X ρ θ μ s->Rp s.heap θ μ x u->c7 s.heap θ μ ds us->w x ds μ Qd->Fin X ρ θ μ s Qd Q->
  ao X.M X.A (call (.builtin id) (u::us)) Q E s
theorem ag2 (h:n<=sizeLine):Ph n=false:=by unfold Ph;exact decide_eq_false (by lia)
theorem c7.dropLast (r:c7 s.heap θ μ ds us):c7 s.heap θ μ ds.dropLast us.dropLast:=by rw[adM,adM,r.length];exact r.take _
theorem c7.eraseIdx (r:c7 s.heap θ μ ds us) (k:Nat):c7 s.heap θ μ (ds.eraseIdx k) (us.eraseIdx k):=by rw[aek,aek];exact(r.take k).append (r.drop (k+1))
theorem Gd (i:Iv X ρ θ μ s) (rd:Rp s.heap θ μ x u) (hw:dj m x ds μ Qd) (f:Fin X ρ θ μ s Qd Q):∃ n xs a vs,bT m n xs ds μ Qd/\u= .ref a/\jP s.heap 1 a vs/\c7 s.heap θ μ xs vs/\
  ∀ {g:Array Value->Array Value} {xs':List D} {vs':List Value} {d:D} {u':Value} {t:Nat},g vs.toArray=vs'.toArray->vs'.length<=sizeLine->c7 s.heap θ μ xs' vs'->Rp s.heap θ μ d u'->Qd d (μ.set n (.lst xs'))->Q u' {s with heap:=s.heap.update a (gK g),toks:=t}:=by
 cases x with
 |loc n=>
  simp only[dj]at hw;split at hw
  .rename_i xs hn
   obtain⟨p,vs,rfl,hp,h2,q,r⟩:=Iv.lst i.dG hn rd;refine⟨n,xs,p.1,vs,hw,rfl,q,r,fun {g xs' vs' d u' t} hg l r' rd' hq=>?_⟩;obtain⟨q',kp⟩:=U0 q hg l;obtain⟨i',g',k'⟩:=i.aiZ (tk:=t) hn hp h2 kp q' r';exact f i' g' (k'.rp rd') hq
  .exact hw.elim
 |_=>exact hw.elim
theorem aar:Mt X "list.append" (dj "append"):=fun {s ρ θ μ x ds u us Qd Q E} i rd rs hw f=>by
 obtain⟨n,xs,a,vs,hw,rfl,q,r,fin⟩:=Gd i rd hw f
 match ds,hw with
 |[e],hw=>obtain⟨w,rfl,re⟩:=rs.iW;have hw:xs.length<lim/\Qd .non (μ.set n (.lst (xs++[e]))):=hw;have l:=r.length;rw[yr]at hw;obtain⟨_,m,e1⟩:=q;exact jf V5 ⟨_,e1,rfl⟩ adu (adE _ _) (acZ a vs.toArray m w (by rw[cF];lia)) ⟨e1,fin (vs':=vs++[w]) (by simp) (by simp;lia) (r.append (.one re)) Bv hw.2⟩|[],hw=>simp[bT]at hw|e1::e2::er,hw=>cases e1<;>cases er<;>simp[bT]at hw
theorem Xw (l:Addr) (as:Array Value) (n:Nat) (b:Addr) (bs:Array Value) (m:Nat) (sl:Array (Option Value)) (h0:¬(!as.isEmpty&&Ph (as.size+bs.size))=true) (h1:as.size<=sizeLine) (h2:(as++bs).size<=sizeLine+1):
  Nb (qP.«list.extend» ⟨[.ref l,.ref b],[]⟩) (fun _ R s=>s.heap.get? l=some {cls:=.type "list",data:=.seq as n}/\s.heap.get? b=some {cls:=.type "tuple",dict:=none,data:=.seq bs m,slots:=sl}/\R (.ok (.ret iR)) {s with heap:=s.heap.update l (gK fun x=>x++bs),toks:=s.toks}):=
 .of_wp fun prog w A R s h=>by
  obtain⟨hp,gn,dd,tk,os⟩:=s;obtain⟨hl,hb,h⟩:=h;have z1:=AutoSeq1.sub_tuple_list;have z2:=AutoSeq1.sub_list_tuple;have z3:=ad4;have z4:=AutoSeq1.sub_list_list
  wp_walk using(tZ hl rfl (hz:=h1) (_hz':=h2)),DY hl,DY hb
  exact⟨_,rfl,h⟩
theorem agg (h:wlT μ d=some ds):aC μ d=some ds/\U3 d<=1:=by
 cases d with
 |tup l=>exact⟨h,ju _⟩|lst l=>exact⟨h,aB _⟩|loc n=>exact⟨h,aB _⟩|_=>cases h
theorem aaq:Mt X "list.extend" (dj "extend"):=fun {s ρ θ μ x ds u us Qd Q E} i rd rs hw f=>by
 obtain⟨n,xs,a,vs,hw,rfl,q,r,fin⟩:=Gd i rd hw f
 match ds,hw with
 |[e],hw=>
  obtain⟨w,rfl,re⟩:=rs.iW;simp only[bT]at hw;split at hw
  .rename_i es he
   obtain⟨he,hk⟩:=agg he;obtain⟨b,ws,rfl,q2,r2⟩:=vR i.dG re he;have l:=r.length;have l2:=r2.length;rw[yr]at hw;obtain⟨_,m,e1⟩:=q;have ah7:¬(!vs.toArray.isEmpty&&Ph (vs.toArray.size+ws.toArray.size))=true:=by rw[ag2 (by rw[cF,cF];lia),Bool.and_false];exact fj
   have fin:=fin (g:=fun x=>x++ws.toArray) (t:=s.toks) (vs':=vs++ws) (by simp) (by simp;lia) (r.append r2) Bv hw.2;obtain z|z:U3 e=0∨U3 e=1:=by lia
   .rw[z]at q2
    obtain⟨_,⟨oc,od,oda,osl⟩,m2,e2,c2,d2,nd⟩:=q2;cases c2;cases d2;cases nd;exact jf V4 ⟨_,e1,rfl⟩ adt (adD _ _) (Xw a vs.toArray m b ws.toArray m2 osl ah7 (by rw[cF];lia) (by simp;lia)) ⟨e1,e2,fin⟩
   .rw[z]at q2
    obtain⟨_,m2,e2⟩:=q2;exact jf V4 ⟨_,e1,rfl⟩ adt (adD _ _)
     (AutoSeq1.list_extend_list_list_0 a vs.toArray m b ws.toArray m2 ah7 (by rw[cF];lia) (by rw[cF,cF];lia)) ⟨e1,e2,fin⟩
  .exact hw.elim
 |[],hw=>simp[bT]at hw|e1::e2::er,hw=>cases e1<;>cases er<;>simp[bT]at hw
theorem ajU:Mt X "list.pop" (dj "pop"):=fun {s ρ θ μ x ds u us Qd Q E} i rd rs hw f=>by
 obtain⟨n,xs,a,vs,hw,rfl,q,r,fin⟩:=Gd i rd hw f;have l:=r.length;obtain⟨hl,m,e1⟩:=q
 match ds,hw with
 |[],hw=>
  cases rs.nil_inv;simp only[bT]at hw;split at hw
  .rename_i e he
   obtain⟨w,hw',re⟩:=r.get he;rw[<-l]at hw';refine jf Vx ⟨_,e1,rfl⟩ acI (F.args_list_pop_1 _) (MeetsSeq.list_pop_last a vs.toArray m w (by simpa using hw') (by rw[cF];lia)) ⟨e1,fin (vs':=vs.dropLast) ?_ (by simp;lia) r.dropLast re hw⟩;show vs.toArray.eraseIdxIfInBounds (vs.toArray.size -1)=vs.dropLast.toArray;rw[cF,Xi,L2.X8]
  .exact hw.elim
 |[.int k],hw=>
  obtain⟨w,rfl,t,rfl⟩:=rs.iW;simp only[bT]at hw;split at hw
  .rename_i p hp
   split at hw
   .rename_i e he
    obtain⟨w,hw',re⟩:=r.get he;rw[<-l]at hp;obtain⟨h1,_,h3,h4⟩:=Gj hp;have hn:=PN;refine jf Vx ⟨_,e1,rfl⟩ acI (F.args_list_pop_2 _ _)
     (MeetsSeq.list_pop_at a vs.toArray m k t p w (fitsIndex_both (by lia) (by lia)) (by rw[cF];exact h1) (by simpa using hw') (by rw[cF];lia)) ⟨e1,fin (vs':=vs.eraseIdx p) ?_ (jR (L2.Lr vs p) hl) (r.eraseIdx p) re hw⟩
    show vs.toArray.eraseIdxIfInBounds p=(vs.eraseIdx p).toArray;rw[Xi]
   .exact hw.elim
  .exact hw.elim
 |e1::e2::er,hw=>cases e1<;>cases er<;>simp[bT]at hw
theorem aap:Mt X "list.insert" (dj "insert"):=fun {s ρ θ μ x ds u us Qd Q E} i rd rs hw f=>by
 obtain⟨n,xs,a,vs,hw,rfl,q,r,fin⟩:=Gd i rd hw f;have l:=r.length;obtain⟨hl,m,e1⟩:=q
 match ds,hw with
 |[],hw=>simp[bT]at hw|[e],hw=>simp[bT]at hw|[.int k,e],hw=>
  obtain⟨w,w',rfl,⟨t,rfl⟩,re⟩:=rs.yV;have hw:0<=k/\k<=xs.length/\xs.length<lim/\Qd .non (μ.set n (.lst (xs.take k.toNat++e::xs.drop k.toNat))):=hw;obtain⟨k0,k1,k2,hq⟩:=hw;rw[yr]at k2;refine jf acj ⟨_,e1,rfl⟩ F.entry_list_insert (F.args_list_insert_3 _ _ _) (AutoSeq1.list_insert_list_int_val_1 a vs.toArray m k t w' ?_ (by rw[cF];lia)) ⟨e1,fin (vs':=vs.take k.toNat++w' ::vs.drop k.toNat) ?_ (by simp;lia) ((r.take _).append (.cons re (r.drop _))) Bv hq⟩
  .have:aea k=true:=by have hs:sizeLine=16777216:=cY;unfold aea;simp;lia
   rw[this];simp
  .dsimp only
   have hk:(if k<0 then(k+(vs.toArray.size:Int)).toNat else min k.toNat vs.toArray.size)=k.toNat:=by rw[if_neg (by lia),cF];lia
   rw[hk];apply xW.mp;simp;rw[tM (by simp)]
 |e1::e2::e3::er,hw=>cases e1<;>simp[bT]at hw
end
end DW
namespace DW
open PySem PySem.Spec PyProof.Rows
open L2 (aN Key frs vC Loc Look Mod sG cT Cls iQ Meth Mk QT)
def EY (T:Top) (stack:List Env) (s:aj) (θ:Th) (μ:Mem) (s':aj) (c:String) (ks:List String) (ds:List D) (e:Value):Prop:=
 ∃ (ea C:Addr) (ob:Obj) (vs:Array Value) (B:aq),e= .ref ea/\bG T.K aQ (aF c)=some (some (.ref C))/\ob.cls= .ref C/\J8 B stack ea ob vs .none s'.heap/\vs[2]?=some .none/\
  (∀ b o,s.heap.get? b=some o->b∉frs stack->∃ o',B.get? b=some o')/\pD T θ μ B/\
  ks.length=ds.length/\((ks=[]/\ob.dict=none)∨(ks≠[]/\∃ dx,ob.dict=some dx/\dx≠ea/\(∃ o,B.get? dx=some o)/\¬KY θ μ dx/\aa2 B θ μ (ks.zip ds) dx))
def Yy (X:Cx) (ρ:dD) (θ:Th) (μ:Mem) (s:aj) (Xd:QX) (E:Value->aj->Prop):Prop:=
 ∀ {c:String} {ks:List String} {ds:List D} {e:Value} {s':aj} {θ':Th} {μ':Mem},Iv X ρ θ' μ' s'->G0 X θ μ s θ' μ' s'->EY X.T X.stack s θ' μ' s' c ks ds e->Xd c ks ds μ'->E e s'
def noX:QX:=fun _ _ _ _=>False
def Q7 (sp:dh):rH:=fun ds μ Q _=>sp ds μ Q
structure lM (T:Top) (k:Nat) (f:Addr) (fd:d8) (ps:List Str) (sp:rH):Prop where
 len:∀ {ds μ Q X},sp ds μ Q X->ds.length=ps.length
 run:∀ {A:aP} {stack:List Env} {s:aj} {θ:Th} {μ:Mem} {args:Args} {us:List Value} {ds:List D} {Qd:QD} {Xd:QX} {R:xq->aj->Prop},cT k A->E0 T A stack θ μ s->Nf s fd args (ps.zip us)->c7 s.heap θ μ ds us->sp ds μ Qd Xd->
  (∀ {d:D} {u:Value} {s':aj} {θ':Th} {μ':Mem},E0 T A stack θ' μ' s'->G (fun _=>False) (frs stack) θ μ s θ' μ' s'->Rp s'.heap θ' μ' d u->Qd d μ'->R (.ok (.ret u)) s')->
  (∀ {c:String} {ks:List String} {es:List D} {e:Value} {s':aj} {θ':Th} {μ':Mem},E0 T A stack θ' μ' s'->G (fun _=>False) (frs stack) θ μ s θ' μ' s'->EY T stack s θ' μ' s' c ks es e->Xd c ks es μ'->R (.error e) s')->
  ni (aU T.P T.w) A (.call (.ref f) args) R s
def Binds (K:bV) (fd:d8) (ps:List Str):Prop:=∀ (s:aj) (us:List Value),K.In s.heap->us.length=ps.length->Nf s fd ⟨us,[]⟩ (ps.zip us)
section
variable {X:Cx} {ρ:dD} {θ θ':Th} {μ μ':Mem} {s s1 s':aj} {T:Top} {A:aP} {stack:List Env} {f C:Addr} {fd:d8} {ps:List Str} {sp:rH} {k:Nat} {us first:List Value} {ds:List D} {Qd:QD} {Xd:QX} {Qa:List D->Mem->Prop} {Q XE:Value->aj->Prop} {x:Str} {p pos apos:Pos} {a e o:Expr} {as es:List Expr} {we wo:WE} {ws:WA} {c m fl:String} {d:D} {u v:Value} {n:Nat} {fs:List (String×D)}
theorem EY.mono {c:String} {ks:List String} {es:List D} {e:Value} (th:∀ b o,s.heap.get? b=some o->∃ o',s1.heap.get? b=some o') (x:EY T stack s1 θ' μ' s' c ks es e):EY T stack s θ' μ' s' c ks es e:=by obtain⟨ea,C,ob,vs,B,h1,h2,h3,h4,h5,h6,r⟩:=x;exact⟨ea,C,ob,vs,B,h1,h2,h3,h4,h5,fun b o e n=>let⟨o',e'⟩:=th b o e;h6 b o' e' n,r⟩
theorem Yy.mono (x:Yy X ρ θ μ s Xd XE) (g:G0 X θ μ s θ' μ' s1):Yy X ρ θ' μ' s1 Xd XE:=fun i g' fl q=>x i (g.trans g') (fl.mono g.there) q
theorem ahw:Yy X ρ θ μ s noX XE:=fun _ _ _ q=>q.elim
theorem lM.mono {j:Nat} (F:lM T j f fd ps sp) (h:j<=k):lM T k f fd ps sp:=⟨F.len,fun r e b rs q fx xx=>F.run (r.mono h) e b rs q fx xx⟩
theorem U7 (F:lM X.T k f fd ps sp) (hr:cT k X.A) (hb:Binds X.T.K fd ps) (i:Iv X ρ θ μ s) (r:c7 s.heap θ μ ds us) (h:sp ds μ Qd Xd) (fi:Fin X ρ θ μ s Qd Q) (fx:Yy X ρ θ μ s Xd XE):ao X.M X.A (call (.ref f) us) Q XE s:=
 Vq (F.run hr i.e (hb s us i.Fq (by rw[r.length];exact F.len h)) r h (fun e g r q=>fi (i.to g e.dG e.bare) g r q) fun e g fl q=>fx (i.to g e.dG e.bare) g fl q)
structure Ar (X:Cx) (as:List Expr) (w:WA):Prop where
 pa:PA X as w
 nil:as=[]->∀ {ρ μ Q},w ρ μ Q->Q [] μ
 st:∀ {e es},as=e::es->eV (e::es) X.env=(false,eval e X.env)::eV es X.env
 any:∀ pos,(jc pos (eV as X.env)).any (·.1)=false
theorem akG:Ar X [] (wEs .nil):=⟨fun _ {_ _ _ _ _ _ _} i h f=>Ik (f.at i .nil h),fun _ {_ _ _} h=>h,fun z=>(acH _ _ z.symm).elim,fun _=>rfl⟩
theorem ahR {e':DW.E} {es':Es} (ha:PE X e (wE e')) (hr:Ar X es (wEs es')) (hs:eV (e::es) X.env=(false,eval e X.env)::eV es X.env):Ar X (e::es) (wEs (.cons e' es')) where
 pa:=fun pos {s ρ θ μ Qd Q E} i h f=>by rw[hs];show ao _ _ (spliced ((false,eval e X.env)::jc pos (eV es X.env))) _ _ s;simp only[wEs]at h;exact CG (ha i h fun i1 g1 r1 h1=>hr.pa pos i1 h1 fun i2 g2 r2 h2=>f i2 (g1.trans g2) (.cons ((i1.kp g2).rp r1) r2) h2)
 nil:=fun z=>(acH _ _ z).elim
 st:=fun z=>by cases z;exact hs
 any:=fun pos=>by rw[hs];show(false||(jc pos (eV es X.env)).any (·.1))=false;rw[hr.any];rfl
theorem Ar.akI (h:Ar X (e::es) ws):(jc pos (eV es X.env)).any (·.1)=false:=by have:=h.any pos;rw[h.st rfl]at this;exact this
theorem cw_ok (h:Ar X as ws) (hk:oJ X.T.K v=true) (i:Iv X ρ θ μ s) (q:ws ρ μ Qa)
  (f:∀ {ds us s' θ' μ'},Iv X ρ θ' μ' s'->G0 X θ μ s θ' μ' s'->c7 s'.heap θ' μ' ds us->Qa ds μ'->ao X.M X.A (call v (first++us)) Q XE s'):
  ao X.M X.A (Np pos v first (jc pos (eV as X.env)) []) Q XE s:=by
 cases as with
 |nil=>exact PySem.W.callWith_K0 i.Fq hk (f i .refl .nil (h.nil rfl q))|cons e es=>exact PySem.W.callWith_K (h₀:=X.T.base) i.e.mod.kin hk (h.pa pos i q fun i1 g1 r1 h1=>⟨i1.Fq,f i1 g1 r1 h1⟩) (h.st rfl) h.akI
theorem ail {id:String} (h:Ar X as ws) (i:Iv X ρ θ μ s) (q:ws ρ μ Qa)
  (f:∀ {ds us s' θ' μ'},Iv X ρ θ' μ' s'->G0 X θ μ s θ' μ' s'->c7 s'.heap θ' μ' ds us->Qa ds μ'->ao X.M X.A (call (.builtin id) (first++us)) Q XE s'):
  ao X.M X.A (Np pos (.builtin id) first (jc pos (eV as X.env)) []) Q XE s:=by
 refine Calls.callWith_builtin (h.any pos) ?_;cases as with
 |nil=>exact PySem.evalArgs_none (f i .refl .nil (h.nil rfl q))|cons e es=>have key:ao X.M X.A (spliced (jc pos (eV (e::es) X.env))) (fun us s'=>ao X.M X.A (call (.builtin id) (first++us)) Q XE s') XE s:=h.pa pos i q fun i1 g1 r1 h1=>f i1 g1 r1 h1;rw[h.st rfl]at key ⊢;exact Calls.evalArgs_plain key
def JgX (X:Cx) (t:Sem Value) (w:QX->WE):Prop:=
 ∀ {s:aj} {ρ:dD} {θ:Th} {μ:Mem} {Qd:QD} {Xd:QX} {Q E:Value->aj->Prop},Iv X ρ θ μ s->w Xd ρ μ Qd->Fin X ρ θ μ s Qd Q->Yy X ρ θ μ s Xd E->ao X.M X.A t Q E s
theorem JgX.calm {t:Sem Value} {w:QX->WE} {w':WE} (h:JgX X t w) (q:∀ ρ μ Q,w' ρ μ Q->w noX ρ μ Q):Jg X Rp t w':=fun i z f=>h i (q _ _ _ z) f ahw
theorem agH (F:lM X.T k f fd ps sp) (hr:cT k X.A) (hb:Binds X.T.K fd ps) (hg:Gl X x) (hm:X.T.mg x=some (.ref f)) (hk:oJ X.T.K (.ref f)=true) (ha:Ar X as ws) (hdb:(x==("__debug__":Str))=false):
  JgX X (eval (.Call (.Name x p) as [] pos) X.env) (fun Xd ρ μ Q=>ws ρ μ fun ds μ1=>sp ds μ1 Q Xd):=fun i h fi fx=>
 Cz (vm i hg hm hdb (cw_ok (first:=[]) ha hk i h fun i1 g1 r1 h1=>U7 F hr hb i1 r1 h1 (fi.mono g1) (fx.mono g1)))
end
end DW
namespace DW
open PySem PySem.Spec PyProof.Rows
open L2 (aN Key frs vC Loc Look Mod sG cT Cls iQ Meth Mk QT)
theorem zO {a b:String} (h:aF a=aF b):a=b:=by
 rw[W7,W7]at h;have h1:a.toList.map HB=b.toList.map HB:=by have:=congrArg (fun s:Str=>s.cps.toList) h;simpa using this
 have inj:∀ (x y:List Char),x.map HB=y.map HB->x=y:=by
  intro x;induction x with
  |nil=>intro y e;cases y with|nil=>rfl|cons _ _=>simp at e
  |cons c x ih=>
   intro y e;cases y with
   |nil=>simp at e|cons d y=>simp only[aX,mJ]at e;have:c=d:=Char.ext (UInt32.toNat_inj.mp e.1);rw[this,ih y e.2]
 exact String.ext (inj _ _ h1)
section
variable {h h':aq} {θ:Th} {μ:Mem} {f g c:String} {d:D} {u v:Value} {n:Nat} {fs:List (String×D)} {a:Addr} {T:Top}
theorem Tg:∀ {fs:List (String×D)},bB f fs=none->aF f∉fs.map (fun p=>aF p.1)
 |[],_=>by simp|(g,d)::r,h=>by
  unfold bB at h;split at h
  .cases h
  .rename_i q
   simp only[aX,bC,not_or];exact⟨fun z=>q (zO z).symm,Tg h⟩
theorem Tf:∀ {fs:List (String×D)},bB g (putD f d fs)=if f=g then some d else bB g fs
 |[]=>rfl|(k,e)::r=>by
  unfold putD;by_cases q:k=f
  .subst q
   simp only[if_true,bB];split<;>rfl
  .rw[if_neg q]
   simp only[bB];rw[Tf];by_cases z:k=g
   .subst z;rw[if_pos rfl,if_pos rfl,if_neg fun z=>q z.symm]
   .rw[if_neg z,if_neg z]
theorem Zk:∀ {fs:List (String×D)},(putD f d fs).length<=fs.length+1
 |[]=>aB _|(k,e)::r=>by
  unfold putD;split
  .exact xJ _
  .exact acL Zk
theorem Ge {y:Str}:∀ {fs:List (String×D)},(y=aF f∨y∈fs.map fun p=>aF p.1)->y∈(putD f d fs).map fun p=>aF p.1
 |[],z=>by
  rcases z with rfl|z
  .exact cG.mpr rfl
  .exact absurd z (by simp)
 |(k,e)::r,z=>by
  unfold putD;split
  .rename_i q
   subst q;rcases z with rfl|z
   .exact xZ
   .exact z
  .rcases z with rfl|z
   .exact jU _ (Ge (.inl rfl))
   .rcases bC.mp z with rfl|z
    .exact xZ
    .exact jU _ (Ge (.inr z))
theorem Ld (r:Rp h θ μ d u):acN u=true:=by
 cases d with
 |non=>cases(show u=_ from r);rfl
 |bl b=>cases(show u=_ from r);rfl
 |int i=>obtain⟨t,rfl⟩:=r;rfl|str x=>obtain⟨⟨t,rfl⟩,_⟩:=r;rfl|tup ds=>obtain⟨a,_,rfl,_⟩:=r;rfl|lst ds=>obtain⟨a,_,rfl,_⟩:=r;rfl|ro ds=>obtain⟨a,_,rfl,_⟩:=r;rfl|loc n=>obtain⟨p,rfl,_⟩:=r;rfl|jN _ _=>exact r.elim
theorem Qm (w:pD T θ μ h) (r:Rp h θ μ d u) (e:dB μ c d=some (n,fs)):∃ p C mA,d= .loc n/\u= .ref p.1/\θ.cs[n]?=some p/\μ[n]?=some (.ins c fs)/\bG T.K aQ (aF c)=some (some (.ref C))/\
  QT h p.1 p.2 C mA/\fs.length<=1000/\(∀ f d,bB f fs=some d->∃ u,mA (aF f)=some u/\Rp h θ μ d u)/\(∀ f,bB f fs=none->mA (aF f)=none)/\VP mA (fs.map fun p=>aF p.1):=by
 cases d with
 |loc k=>
  obtain⟨p,rfl,hp⟩:=r;simp only[dB]at e;split at e
  .rename_i c' fs0 hn
   split at e
   .rename_i ec
    subst ec;cases e;obtain⟨C,h0,h1,h2,h3,mA,k1,k2,k3⟩:=w.cell _ _ p hn hp;refine⟨p,C,mA,rfl,rfl,hp,hn,h0,⟨h1,k1,h2⟩,h3,k2,fun f q=>?_,k3⟩;by_cases z:mA (aF f)=none
    .exact z
    .exact absurd (k3 _ z) (Tg q)
   .cases e
  .cases e
 |_=>simp[dB]at e
end
section
variable {X:Cx} {ρ:dD} {θ θ':Th} {μ μ':Mem} {s s1 s':aj} {f C:Addr} {fd:d8} {ps:List Str} {sp:rH} {k n:Nat} {us:List Value} {ds:List D} {Qd:QD} {Xd:QX} {Q XE:Value->aj->Prop} {x:Str} {p pos apos:Pos} {a e o:Expr} {as es:List Expr} {we wo:WE} {ws:WA} {c m:String} {d dv:D} {u v:Value} {K:Mem->Prop}
theorem QS {env:Env} {m:Str} (h:mL o=true):V9 o m env (eval o env)=eval o env:=by
 cases o with
 |Call f as ks p=>rcases Yt h with⟨x,q,a,r,rfl,rfl⟩|⟨o,m',q,rfl⟩<;>rfl|_=>first|rfl|exact(fj h).elim
theorem aav {env:Env} {m:Str} {args:List Expr} (hbase:V9 o m env (eval o env)=eval o env) (hform:methodCallForm (args.length+([]:List BW).length) (jc pos (eV args env)) (BZ pos (Ci [] env))=true) (hline:(apos.endLine==pos.line)=true):
  eval (.Call (.Attribute o m apos) args [] pos) env=(do
   let ov<-eval o env
   Hw apos.atName
   let(f,first)<-tR [ov] (getMethod ov m (do return(<-importBound o env).getD true))
   Np pos f first (jc pos (eV args env)) (BZ pos (Ci [] env))):=by
 have hpos:methodCallPos true o env apos pos=pure pos:=by unfold methodCallPos;simp[hline]
 rw[arm_eval_Call,hbase];unfold methodCall;rw[hform];simp only[calleeOf,if_true,hpos,pure_bind]
theorem Ar.few (h:Ar X as ws) (h30:as.length<30):((jc pos (eV as X.env)).all (fun x=>!x.1)&&(BZ pos (Ci [] X.env)).all (fun x=>x.1.isSome)
   &&decide (as.length+([]:List BW).length+(if([]:List BW).isEmpty then 0 else 1)<30))=true:=by
 have h1:(jc pos (eV as X.env)).all (fun x=>!x.1)=true:=by have:=h.any pos;rw[List.all_eq_not_any_not];simpa using this
 have h2:(BZ pos (Ci [] X.env)).all (fun x=>x.1.isSome)=true:=rfl;rw[h1,h2];simpa using h30
theorem agF (F:lM X.T k f fd ps sp) (hr:cT k X.A) (hb:Binds X.T.K fd ps) (hn:bG X.T.K aQ (aF c)=some (some (.ref C))) (cl:Cls X.T.K C) (hm:Meth X.T.K C (aF m) f)
  (ho:PE X o wo) (hbs:mL o=true) (ha:Ar X as ws) (hline:(apos.endLine==pos.line)=true) (h30:as.length<30):
  JgX X (eval (.Call (.Attribute o (aF m) apos) as [] pos) X.env) (fun Xd ρ μ Q=>wo ρ μ fun x μ1=>gP μ1 c m x/\ws ρ μ1 fun ds μ2=>sp (x::ds) μ2 Q Xd):=fun i h fi fx=>by
 refine PySem.W.methodCall_KW (pl:=do return(<-importBound o X.env).getD true) (ho i h fun i1 g1 r1 h1=>?_) (aav (QS hbs) (ha.few h30) hline);obtain⟨h1,h2⟩:=h1;unfold gP at h1;split at h1
 .rename_i n fs e
  obtain⟨p,C',mA,rfl,rfl,hp,_,h0,O,_,_,k2,_⟩:=Qm i1.dG r1 e;rw[hn]at h0;cases h0;refine L2.afl i1.Fq O (cl.get _) hm.at_ hm.fn (k2 _ h1) ?_;exact cw_ok (first:=[.ref p.1]) ha hm.kp i1 h2 fun i2 g2 r2 h2=>U7 F hr hb i2 (.cons ((i1.kp g2).rp r1) r2) h2 (fi.mono (g1.trans g2)) (fx.mono (g1.trans g2))
 .exact h1.elim
theorem E0.make {T:Top} {A:aP} {stack:List Env} (e:E0 T A stack θ μ s) {C:Addr} {us:List Value} {kw:List (Str×Value)}:E0 T (A.under (.builtin "type.__call__" ⟨.ref C::us,kw⟩)) stack θ μ s:=
 ⟨e.mod,by first|exact e.frames|(simpa[VN,Code.envs,VL,pushEnvs]using e.frames),e.bare,e.bs,e.stk,e.dG,e.hh⟩
theorem abP (M:Mk X.T.K C f) (hn:bG X.T.K aQ (aF c)=some (some (.ref C))) (F:lM X.T k f fd ps sp) (hr:cT (k+1) X.A) (hb:Binds X.T.K fd ps) (i:Iv X ρ θ μ s) (r:c7 s.heap θ μ ds us)
  (h:sp (.loc μ.length::ds) (μ++[.ins c []]) (fun v μ2=>v= .non/\Qd (.loc μ.length) μ2) Xd) (fi:Fin X ρ θ μ s Qd Q) (fx:Yy X ρ θ μ s Xd XE):ao X.M X.A (call (.ref C) us) Q XE s:=by
 have e1:(s.heap.push wg).get? s.heap.objs.size=some wg:=iH s.heap rfl;have e2:((s.heap.push wg).push (o9 C s.heap.objs.size)).get? (s.heap.objs.size+1)=some (o9 C s.heap.objs.size):=by have:=iH (s.heap.push wg) (o:=o9 C s.heap.objs.size) rfl;rwa[xP]at this
 have e1':((s.heap.push wg).push (o9 C s.heap.objs.size)).get? s.heap.objs.size=some wg:=eG _ e1;have e3:((s.heap.push wg).push (o9 C s.heap.objs.size)).Ns s.heap.objs.size (fun _=>none):=⟨wg,#[],_,e1',rfl,(fun e he=>absurd he (by simp)),fun _=>rfl⟩;obtain⟨i2,g2⟩:=i.new (c:=.ins c []) (p:=(s.heap.objs.size+1,s.heap.objs.size)) (tk:=s.toks) (h':=(s.heap.push wg).push (o9 C s.heap.objs.size)) (fun b o q=>eG _ (eG _ q))
  (xJ _) (aB _) (fun a z=>by rcases z with rfl|rfl<;>first|exact⟨_,e2⟩|exact⟨_,e1'⟩) ⟨C,hn,e2,jk (Ot _),ju _,fun _=>none,Heap.Ns1.of_empty e3,fun f d z=>(by cases z),fun y hy=>absurd rfl hy⟩
 have r2:c7 _ (θ.snoc (s.heap.objs.size+1,s.heap.objs.size)) (μ++[.ins c []]) (.loc μ.length::ds) (.ref (s.heap.objs.size+1)::us):=.cons ⟨(s.heap.objs.size+1,s.heap.objs.size),rfl,by rw[<-i.dG.len];simp[Th.snoc]⟩ ((i.kp g2).Fi r);refine Vq (L2.aeV (f:=f) i.Fq M.makes M.init (beq_iff_eq.mp M.fn) ?_);refine F.run (hr.make C us []) i2.e.make (hb _ (.ref (s.heap.objs.size+1)::us) i2.Fq (by rw[r2.length];exact F.len h)) r2 h (fun {d u s' θ' μ'} e g r q=>?_) fun e g fl q=>fx (i2.to g e.dG e.bare) (g2.trans g) (fl.mono g2.there) q;obtain⟨rfl,q⟩:=q;cases(show u=_ from r);exact⟨rfl,fi (d:=.loc μ.length) (i2.to g e.dG e.bare) (g2.trans g) ⟨(s.heap.objs.size+1,s.heap.objs.size),rfl,g.pre _ _ (by rw[<-i.dG.len];simp[Th.snoc])⟩ q⟩
theorem agG (M:Mk X.T.K C f) (hn:bG X.T.K aQ (aF c)=some (some (.ref C))) (F:lM X.T k f fd ps sp) (hr:cT (k+1) X.A) (hb:Binds X.T.K fd ps) (hg:Gl X x) (hm:X.T.mg x=some (.ref C)) (ha:Ar X as ws) (hdb:(x==("__debug__":Str))=false):
  JgX X (eval (.Call (.Name x p) as [] pos) X.env) (fun Xd ρ μ Q=>ws ρ μ fun ds μ1=>sp (.loc μ1.length::ds) (μ1++[.ins c []]) (fun v μ2=>v= .non/\Q (.loc μ1.length) μ2) Xd):=fun i h fi fx=>
 Cz (vm i hg hm hdb (cw_ok (first:=[]) ha M.kp i h fun i1 g1 r1 h1=>abP M hn F hr hb i1 r1 h1 (fi.mono g1) (fx.mono g1)))
theorem ajI (hn:bG X.T.K aQ (aF c)=some (some (.ref C))) (cl:Cls X.T.K C) (na:iQ X.T.K C (aF m)) (ho:PE X o wo) (hbs:mL o=true):PE X (.Attribute o (aF m) pos) (fun ρ μ Q=>wo ρ μ fun x μ1=>gY c m x μ1 Q):=fun i h f=>
 L2.ahP (QS hbs) (ho i h fun {d u s1 θ1 μ1} i1 g1 r1 h1=>by
  unfold gY at h1;split at h1
  .rename_i n fs e
   split at h1
   .rename_i d' ed
    obtain⟨p,C',mA,rfl,rfl,hp,_,h0,O,_,k1,_⟩:=Qm i1.dG r1 e;rw[hn]at h0;cases h0;obtain⟨u,hu,ru⟩:=k1 _ _ ed;exact L2.get_map i1.Fq O (cl.get _) cl.hd na hu (Ld ru) (f i1.tok (g1.trans (cV fun _ _ e=>e)) ru h1)
   .exact h1.elim
  .exact h1.elim)
theorem YX {Q:Unit->aj->Prop} (hn:bG X.T.K aQ (aF c)=some (some (.ref C))) (cl:Cls X.T.K C) (na:iQ X.T.K C (aF m)) (i:Iv X ρ θ μ s) (r:Rp s.heap θ μ d u) (rv:Rp s.heap θ μ dv v) (h:kZ c m d dv μ K)
  (f:∀ {s' μ'},Iv X ρ θ μ' s'->G0 X θ μ s θ μ' s'->K μ'->Q () s'):ao X.M X.A (setAttr u (aF m) v) Q XE s:=by
 unfold kZ at h;split at h
 .rename_i n fs e
  obtain⟨hl,h⟩:=h;obtain⟨p,C',mA,rfl,rfl,hp,hx,h0,O,_,k1,k2,k3⟩:=Qm i.dG r e;rw[hn]at h0;cases h0;refine L2.agB i.Fq O cl.sa cl.po na.taker cl.hd k3 (by rw[aR,cY];lia) fun h' O' sb=>?_;have k':∀ b o,¬(b=p.1∨b=p.2)->s.heap.get? b=some o->h'.get? b=some o:=fun b o z q=>(sb.2 b fun y=>z (.inr y)).trans q;have kp:Kp θ μ s.heap θ (μ.set n (.ins c (putD m dv fs))) h':=yt hx hp (by simp) k';obtain⟨o2,_,_,q2,_⟩:=O'.ns;obtain⟨i',g⟩:=i.set (c':=.ins c (putD m dv fs)) (tk:=s.toks+2) hx hp (by simp) rfl k' (fun a z=>by rcases z with rfl|rfl<;>first|exact⟨_,O'.obj⟩|exact⟨_,q2⟩)
   ⟨C,hn,O'.obj,O.ne,jR Zk hl,_,O'.ns,fun g d q=>by
    rw[Tf]at q;by_cases z:m=g
    .subst z
     rw[if_pos rfl]at q;cases q;exact⟨v,if_pos rfl,kp.rp rv⟩
    .rw[if_neg z]at q
     obtain⟨w,q1,q2⟩:=k1 _ _ q;exact⟨w,by rw[if_neg fun y=>z (zO y).symm];exact q1,kp.rp q2⟩,fun y hy=>by
    by_cases z:y=aF m
    .exact Ge (.inl z)
    .exact Ge (.inr (k3 y (by simpa only[if_neg z]using hy)))⟩
  exact f i' g h
 .exact h.elim
end
end DW
namespace DW
open PySem PySem.W PyProof.Rows
def cH {α:Type} (lt:Nat->Nat->Bool):KasT α->α
 | .ret a=>a| .ask i j k=>cH lt (k (lt i j))
theorem kh (lt:Nat->Nat->Bool) (f:α->KasT β):∀ t:KasT α,cH lt (t.bind f)=cH lt (f (cH lt t))
 | .ret a=>rfl| .ask i j k=>kh lt f (k (lt i j))
noncomputable abbrev at' (p:Array Nat) (k:Nat):Nat:=p.getD k 0
theorem Bc (p:Array Nat) (k:Nat):at' p k=p[k]?.getD 0:=by simp[at']
theorem J2 (hj:j<=p.size) (k:Nat):at' (jd p i j) k=if i<=k/\k<j then at' p (i+j -1 -k)else at' p k:=by rw[Bc,jd,getElem?_mirror_all hj];split<;>rw[Bc]
theorem afW (hs:s<p.size) (hd:d<=s) (k:Nat):at' (bubble p s d) k=if k=s -d then at' p s else if s -d<k/\k<=s then at' p (k -1)else at' p k:=by
 rw[Bc,getElem?_bubble hs d hd,Bc,Bc,Bc];by_cases h1:k=s -d
 .rw[if_pos h1,if_pos h1]
 .rw[if_neg h1,if_neg h1]
  by_cases h2:s -d<k/\k<=s
  .rw[if_pos h2,if_pos h2]
  .rw[if_neg h2,if_neg h2]
theorem zB (p:Array Nat) (i j:Nat):(jd p i j).size=p.size:=mirror_size _ _ _ _
theorem jt (p:Array Nat) (i j:Nat):(jd p i j).Perm p:=mirror_perm _ _ _ _
section
variable {lt:Nat->Nat->Bool} (hA:∀ a b,lt a b=true->lt b a=false) (hT:∀ a b c,lt b a=false->lt c b=false->lt c a=false)
def Up (lt:Nat->Nat->Bool) (p:Array Nat) (m:Nat):Prop:=∀ i,i+1<m->lt (at' p (i+1)) (at' p i)=false
def Down (lt:Nat->Nat->Bool) (p:Array Nat) (m:Nat):Prop:=∀ i,i+1<m->lt (at' p i) (at' p (i+1))=false
def Mh (lt:Nat->Nat->Bool) (a b:Nat):Prop:=lt a b=false/\lt b a=false
include hT in
theorem Up.le (h:Up lt p m) (n8:∀ a,lt a a=false):∀ (d i:Nat),i+d<m->lt (at' p (i+d)) (at' p i)=false
 |0,i,_=>n8 _|d+1,i,hd=>hT _ _ _ (Up.le h n8 d i (by lia)) (h (i+d) (by lia))
include hA in
theorem Ql (a:Nat):lt a a=false:=by
 cases h:lt a a with
 |false=>rfl|true=>rw[<-h];exact hA a a h
include hT in
theorem Mh.trans (h:Mh lt a b) (k:Mh lt b c):Mh lt a c:=⟨hT c b a k.1 h.1,hT a b c h.2 k.2⟩
theorem Mh.symm (h:Mh lt a b):Mh lt b a:=⟨h.2,h.1⟩
theorem QL:∀ (f n:Nat),1<=n->n<=cH lt (gH p f n)/\cH lt (gH p f n)<=n+f/\(∀ i,n<=i->i<cH lt (gH p f n)->lt (at' p i) (at' p (i -1))=false)/\
  (cH lt (gH p f n)<n+f->lt (at' p (cH lt (gH p f n))) (at' p (cH lt (gH p f n) -1))=true)
 |0,n,_=>⟨aB _,aB _,fun i h1 h2=>by simp[gH,cH]at h2;lia,fun h=>by simp[gH,cH]at h⟩|f+1,n,h1=>by
  cases c:lt (at' p n) (at' p (n -1)) with
  |true=>
   have e:cH lt (gH p (f+1) n)=n:=by show cH lt (if lt (at' p n) (at' p (n -1))=true then .ret n else gH p f (n+1))=n;rw[c];rfl
   rw[e];exact⟨aB _,by lia,fun i h1 h2=>by lia,fun _=>c⟩
  |false=>
   have e:cH lt (gH p (f+1) n)=cH lt (gH p f (n+1)):=by show cH lt (if lt (at' p n) (at' p (n -1))=true then .ret n else gH p f (n+1))=_;rw[c];rfl
   rw[e];obtain⟨a1,a2,a3,a4⟩:=QL (p:=p) f (n+1) (by lia);refine⟨by lia,by lia,fun i h2 h3=>?_,fun h=>a4 (by lia)⟩;by_cases q:i=n
   .subst q;exact c
   .exact a3 i (by lia) h3
structure YB (lt:Nat->Nat->Bool) (p0:Array Nat) (top:Nat) (r:Array Nat×Nat×Nat):Prop where
 perm:r.1.Perm p0
 size:r.1.size=p0.size
 le:r.2.1<=top
 pos:r.2.2+1<=r.2.1
 down:Down lt r.1 r.2.1
 tie:∀ i,r.2.1 -(r.2.2+1)<=i->i<r.2.1->Mh lt (at' r.1 i) (at' r.1 (r.2.1 -1))
include hT in
theorem M8 (hn:n<=p.size) (hq:q+1<=n) (ht:∀ i,n -(q+1)<=i->i<n->Mh lt (at' p i) (at' p (n -1))) (n8:∀ a,lt a a=false) (k:Nat):
  Mh lt (at' (jd p (n -(q+1)) n) k) (at' p k):=by
 rw[J2 hn];split
 .rename_i h
  exact Mh.trans hT (ht _ (by lia) (by lia)) (Mh.symm (ht k h.1 h.2))
 .exact⟨n8 _,n8 _⟩
include hT in
theorem Down.like (h:Down lt p n) (k:∀ i,i<n->Mh lt (at' p' i) (at' p i)):Down lt p' n:=fun i hi=>hT _ _ _ (hT _ _ _ (k (i+1) hi).2 (h i hi)) (k i (by lia)).1
include hA hT in
theorem Aw (htop:top<=p0.size):∀ (f:Nat) (p:Array Nat) (n q:Nat),n+f=top->YB lt p0 top (p,n,q)->YB lt p0 top (cH lt (nq f p n q))
 |0,p,n,q,_,h=>h|f+1,p,n,q,hn,h=>by
  have n8:=Ql hA;obtain⟨h1,h2,h3,h4,h5,h6⟩:=h;simp only at h1 h2 h3 h4 h5 h6;have hsz:n<=p.size:=by lia
  cases c:lt (at' p n) (at' p (n -1)) with
  |true=>
   have e:cH lt (nq (f+1) p n q)=cH lt (if q>0 then nq f (jd p (n -(q+1)) n) (n+1) 0 else nq f p (n+1) 0):=by show cH lt (if lt (at' p n) (at' p (n -1))=true then _ else _)=_;rw[c];rfl
   rw[e];have dn:∀ p':Array Nat,p'.Perm p0->p'.size=p0.size->(∀ i,Mh lt (at' p' i) (at' p i))->at' p' n=at' p n->YB lt p0 top (p',n+1,0):=fun p' q1 q2 q3 q4=>by
    refine⟨q1,q2,by simp;lia,by simp,fun i hi=>?_,fun i a1 a2=>?_⟩
    .simp only at hi ⊢
     by_cases z:i+1<n
     .exact Down.like hT h5 (fun i _=>q3 i) i z
     .have z1:i+1=n:=by lia
      (have z2:i=n -1:=by lia);rw[z1,q4,z2];exact hT _ _ _ (hA _ _ c) (q3 (n -1)).1
    .simp only at a1 a2 ⊢
     (have:i=n:=by lia);subst this;exact⟨n8 _,n8 _⟩
   by_cases hq:q>0
   .rw[if_pos hq]
    refine Aw htop f _ (n+1) 0 (by lia) (dn _ ((jt _ _ _).trans h1) (by rw[zB];exact h2) (M8 hT hsz h4 h6 n8) ?_);rw[J2 hsz,if_neg (by lia)]
   .rw[if_neg hq]
    exact Aw htop f _ (n+1) 0 (by lia) (dn _ h1 h2 (fun i=>⟨n8 _,n8 _⟩) rfl)
  |false=>
   cases d:lt (at' p (n -1)) (at' p n) with
   |true=>
    have e:cH lt (nq (f+1) p n q)=(p,n,q):=by show cH lt (if lt (at' p n) (at' p (n -1))=true then _ else _)=_;rw[c];show cH lt (if lt (at' p (n -1)) (at' p n)=true then _ else _)=_;rw[d];rfl
    rw[e];exact⟨h1,h2,h3,h4,h5,h6⟩
   |false=>
    have e:cH lt (nq (f+1) p n q)=cH lt (nq f p (n+1) (q+1)):=by show cH lt (if lt (at' p n) (at' p (n -1))=true then _ else _)=_;rw[c];show cH lt (if lt (at' p (n -1)) (at' p n)=true then _ else _)=_;rw[d];rfl
    rw[e];refine Aw htop f _ (n+1) (q+1) (by lia) ⟨h1,h2,by simp;lia,by simp;lia,fun i hi=>?_,fun i a1 a2=>?_⟩
    .simp only at hi ⊢
     by_cases z:i+1<n
     .exact h5 i z
     .have z1:i+1=n:=by lia
      (have z2:i=n -1:=by lia);rw[z1,z2];exact d
    .simp only at a1 a2 ⊢
     by_cases z:i=n
     .subst z;exact⟨n8 _,n8 _⟩
     .exact Mh.trans hT (h6 i (by lia) (by lia)) ⟨d,c⟩
structure Bh (lt:Nat->Nat->Bool) (p0:Array Nat) (n:Nat) (r:Nat×Array Nat):Prop where
 perm:r.2.Perm p0
 size:r.2.size=p0.size
 le:r.1<=n
 pos:1<=r.1
 up:Up lt r.2 r.1
theorem K5 (h1:1<=n) (hn:n<=nrem) (hz:nrem<=p0.size) (hp:p.Perm p0) (hs:p.size=p0.size) (hd:Down lt p n):Bh lt p0 nrem (cH lt (Vl n nrem p)):=by
 unfold Vl;rw[kh];obtain⟨a1,a2,a3,_⟩:=QL (lt:=lt) (p:=jd p 0 n) (nrem -n) n h1;refine⟨(jt _ _ _).trans hp,by rw[show(cH lt (KasT.ret (cH lt (gH (jd p 0 n) (nrem -n) n),jd p 0 n))).2=jd p 0 n from rfl,zB];exact hs,by show cH lt _<=_;lia,by show 1<=cH lt _;lia,fun i hi=>?_⟩;replace hi:i+1<cH lt (gH (jd p 0 n) (nrem -n) n):=hi;show lt (at' (jd p 0 n) (i+1)) (at' (jd p 0 n) i)=false;by_cases z:n<=i+1
 .exact a3 (i+1) z hi
 .rw[J2 (by lia),J2 (by lia),if_pos (by lia),if_pos (by lia)]
  have:=hd (n -1 -(i+1)) (by lia);have e1:n -1 -(i+1)+1=0+n -1 -i:=by lia
  have e2:n -1 -(i+1)=0+n -1 -(i+1):=by lia
  rw[e1,e2]at this;exact this
include hA hT in
theorem Ax (hn:n+1<=nrem) (hz:nrem<=p0.size) (hp:p.Perm p0) (hs:p.size=p0.size) (hd:Down lt p (n+1)):Bh lt p0 nrem (cH lt (VH n nrem p)):=by
 unfold VH;rw[kh];have n8:=Ql hA;have D:=Aw hA hT hz (nrem -(n+1)) p (n+1) 0 (by lia) ⟨hp,hs,by simp;lia,by simp,hd,fun i a1 a2=>by
  simp only at a1 a2 ⊢;have:i=n:=by lia
  subst this;exact⟨n8 _,n8 _⟩⟩
 generalize cH lt (nq (nrem -(n+1)) p (n+1) 0)=r at D;obtain⟨p2,m,q⟩:=r;obtain⟨h1,h2,h3,h4,h5,h6⟩:=D;simp only at h1 h2 h3 h4 h5 h6 ⊢;have hsz:m<=p2.size:=by lia
 by_cases hq:q>0
 .rw[if_pos hq]
  exact K5 (by lia) h3 hz ((jt _ _ _).trans h1) (by rw[zB];exact h2) (Down.like hT h5 fun i _=>M8 hT hsz h4 h6 n8 i)
 .rw[if_neg hq]
  exact K5 (by lia) h3 hz h1 h2 h5
include hA hT in
theorem aaW (h1:1<=nrem) (hz:nrem<=p0.size):Bh lt p0 nrem (cH lt (tX nrem p0)):=by
 unfold tX;rw[kh];have n8:=Ql hA;obtain⟨a1,a2,a3,a4⟩:=QL (lt:=lt) (p:=p0) (nrem -1) 1 (aB _);generalize cH lt (gH p0 (nrem -1) 1)=n at a1 a2 a3 a4;have up:Up lt p0 n:=fun i hi=>by simpa using a3 (i+1) (by lia) hi
 by_cases e:(n==nrem)=true
 .rw[if_pos e]
  exact⟨.refl _,rfl,by show n<=_;lia,a1,up⟩
 .rw[if_neg e]
  have e':n≠nrem:=by simpa using e
  have ht:=a4 (by lia);by_cases hn:n>1
  .rw[if_pos hn]
   cases c:lt (at' p0 0) (at' p0 (n -1)) with
   |true=>show Bh lt p0 nrem (cH lt (if lt (at' p0 0) (at' p0 (n -1))=true then _ else _));rw[c];exact⟨.refl _,rfl,by show n<=_;lia,a1,up⟩|false=>
    show Bh lt p0 nrem (cH lt (if lt (at' p0 0) (at' p0 (n -1))=true then _ else _));rw[c];(have hsz:n<=p0.size:=by lia);have le:=fun d i h=>Up.le hT up n8 d i h;have tie:∀ i,n -(n -1+1)<=i->i<n->Mh lt (at' p0 i) (at' p0 (n -1)):=fun i _ hi=>by have b1:=le (n -1 -i) i (by lia);have b2:=le i 0 (by lia);rw[show i+(n -1 -i)=n -1 by lia]at b1;rw[show 0+i=i by lia]at b2;exact⟨hT _ _ _ c b2,b1⟩
    have r0:=fun i=>M8 hT hsz (q:=n -1) (by lia) tie n8 i;rw[show n -(n -1+1)=0 by lia]at r0;refine Ax hA hT (by lia) hz (jt _ _ _) (zB _ _ _) fun i hi=>?_;by_cases z:i+1=n
    .have z2:at' (jd p0 0 n) n=at' p0 n:=by rw[J2 hsz,if_neg (by lia)]
     (have z3:i=n -1:=by lia);rw[z,z2,z3];exact hT _ _ _ (hA _ _ ht) (r0 (n -1)).1
    .have t1:=Mh.trans hT (Mh.trans hT (r0 i) (tie i (by lia) (by lia))) (Mh.symm (Mh.trans hT (r0 (i+1)) (tie (i+1) (by lia) (by lia))))
     exact t1.1
  .rw[if_neg hn]
   (have n1:n=1:=by lia);subst n1;refine Ax hA hT (by lia) hz (.refl _) rfl fun i hi=>?_;(have:i=0:=by lia);subst this;exact hA _ _ ht
include hA hT in
theorem CV (up:Up lt p k):∀ (f l r:Nat),l<=r->r<=k->r -l<=f->(∀ i,i<l->lt (at' p k) (at' p i)=false)->(∀ i,r<=i->i<k->lt (at' p k) (at' p i)=true)->
  cH lt (lY p k f l r)<=k/\(∀ i,i<cH lt (lY p k f l r)->lt (at' p k) (at' p i)=false)/\∀ i,cH lt (lY p k f l r)<=i->i<k->lt (at' p k) (at' p i)=true
 |0,l,r,h1,h2,h3,h4,h5=>by
  have:l=r:=by lia
  subst this;exact⟨h2,h4,h5⟩
 |f+1,l,r,h1,h2,h3,h4,h5=>by
  have n8:=Ql hA;have le:=fun d i h=>Up.le hT up n8 d i h;by_cases z:l≥r
  .have:l=r:=by lia
   subst this;unfold lY;rw[if_pos z];exact⟨h2,h4,h5⟩
  .have e:cH lt (lY p k (f+1) l r)=cH lt (if lt (at' p k) (at' p ((l+r)/2))=true then lY p k f l ((l+r)/2)else lY p k f ((l+r)/2+1) r):=by rw[lY,if_neg z];rfl
   rw[e];generalize hm:(l+r)/2=m;(have m1:l<=m:=by lia);(have m2:m<r:=by lia);cases c:lt (at' p k) (at' p m) with
   |true=>
    rw[if_pos rfl];refine CV up f l m m1 (by lia) (by lia) h4 fun i b1 b2=>?_;cases q:lt (at' p k) (at' p i) with
    |true=>rfl|false=>have b3:=le (i -m) m (by lia);rw[show m+(i -m)=i by lia]at b3;have:=hT _ _ _ b3 q;rw[c]at this;cases this
   |false=>rw[if_neg (by simp)];refine CV up f (m+1) r (by lia) h2 (by lia) (fun i b1=>?_) h5;have b3:=le (m -i) i (by lia);rw[show i+(m -i)=m by lia]at b3;exact hT _ _ _ b3 c
include hA hT in
theorem ZR (hn:n<=p0.size):∀ (f:Nat) (p:Array Nat) (k:Nat),k+f=n->p.Perm p0->p.size=p0.size->Up lt p k->(cH lt (Hu f p k)).Perm p0/\Up lt (cH lt (Hu f p k)) n
 |0,p,k,h,h1,h2,h3=>by
  have:k=n:=by lia
  subst this;exact⟨h1,h3⟩
 |f+1,p,k,h,h1,h2,h3=>by
  have e:cH lt (Hu (f+1) p k)=cH lt (Hu f (bubble p k (k -cH lt (lY p k k 0 k))) (k+1)):=by show cH lt (KasT.bind _ _)=_;rw[kh]
  rw[e];obtain⟨b1,b2,b3⟩:=CV hA hT h3 k 0 k (ju _) (aB _) (by lia) (fun i hi=>by lia) (fun i x y=>by lia);generalize cH lt (lY p k k 0 k)=t at b1 b2 b3;refine ZR hn f _ (k+1) (by lia) ((bubble_perm _ _ _).trans h1) ((bubble_size _ _ _).trans h2) fun i hi=>?_;have hk:k<p.size:=by lia
  rw[afW hk (by lia),afW hk (by lia),show k -(k -t)=t by lia];by_cases z1:i+1=t
  .rw[if_pos z1,if_neg (by lia),if_neg (by lia)]
   exact b2 i (by lia)
  .rw[if_neg z1]
   by_cases z2:i=t
   .subst z2
    rw[if_pos rfl,if_pos (by lia)];exact hA _ _ (b3 i (aB _) (by lia))
   .rw[if_neg z2]
    by_cases z3:t<i
    .rw[if_pos (by lia),if_pos (by lia)]
     have:=h3 (i -1) (by lia);rw[show i -1+1=i by lia]at this;exact this
    .rw[if_neg (by lia),if_neg (by lia)]
     exact h3 i (by lia)
include hA hT in
theorem abK (h1:1<=n):(cH lt (tW n)).Perm (dU (aY n))/\Up lt (cH lt (tW n)) n:=by
 unfold tW;rw[kh];have C:=aaW (lt:=lt) hA hT (p0:=dU (aY n)) h1 (by simp);generalize cH lt (tX n (dU (aY n)))=r at C;by_cases z:r.1<n
 .rw[if_pos z]
  have:max r.1 1=r.1:=by have:=C.pos;lia
  rw[this];exact ZR hA hT (by simp) (n -r.1) r.2 r.1 (by lia) C.perm C.size C.up
 .rw[if_neg z]
  have:r.1=n:=by have:=C.le;lia
  exact⟨C.perm,this▸C.up⟩
end
def Asks {α:Type} (n:Nat) (R:α->Prop):KasT α->Prop
 | .ret a=>R a| .ask i j k=>i<n/\j<n/\∀ b,Asks n R (k b)
theorem Asks.bind:∀ {t:KasT α},Asks n R t->(∀ a,R a->Asks n R' (f a))->Asks n R' (t.bind f)
 | .ret a,h,k=>k a h| .ask i j t,h,k=>⟨h.1,h.2.1,fun b=>Asks.bind (h.2.2 b) k⟩
def Ud (n:Nat) (p:Array Nat):Prop:=0<n/\∀ x∈p,x<n
theorem Ud.at (h:Ud n p) (k:Nat):at' p k<n:=by
 rw[Bc];cases e:p[k]? with
 |none=>exact h.1|some x=>exact h.2 x (Array.mem_of_getElem? e)
theorem Ud.perm (h:Ud n p) (k:q.Perm p):Ud n q:=⟨h.1,fun x hx=>h.2 x (k.mem_iff.mp hx)⟩
theorem J3 (h:Ud n p):∀ (f m:Nat),Asks n (fun _=>True) (gH p f m)
 |0,m=>trivial|f+1,m=>⟨h.at _,h.at _,fun b=>by
  cases b with
  |true=>exact trivial|false=>exact J3 h f (m+1)⟩
theorem vp:∀ (f:Nat) (p:Array Nat) (m q:Nat),Ud n p->Asks n (fun r=>Ud n r.1) (nq f p m q)
 |0,p,m,q,h=>h|f+1,p,m,q,h=>⟨h.at _,h.at _,fun b=>by
  cases b with
  |true=>
   show Asks n _ (if q>0 then nq f (jd p (m -(q+1)) m) (m+1) 0 else nq f p (m+1) 0);split
   .exact vp f _ _ _ (h.perm (jt _ _ _))
   .exact vp f _ _ _ h
  | false=>exact⟨h.at _,h.at _,fun d=>by
    cases d with
    |true=>exact h|false=>exact vp f p (m+1) (q+1) h⟩⟩
theorem GP (h:Ud n p):Asks n (fun r=>Ud n r.2) (Vl m nrem p):=
 Asks.bind (J3 (h.perm (jt p 0 m)) _ _) fun _ _=>h.perm (jt p 0 m)
theorem wN (h:Ud n p):Asks n (fun r=>Ud n r.2) (VH m nrem p):=
 Asks.bind (vp _ p _ 0 h) fun r hr=>by
  split
  .exact GP (hr.perm (jt _ _ _))
  .exact GP hr
theorem JT (h:Ud n p):Asks n (fun r=>Ud n r.2) (tX nrem p):=
 Asks.bind (J3 h _ _) fun m _=>by
  split
  .exact h
  .split
   .refine⟨h.at _,h.at _,fun b=>?_⟩
    cases b with
    |true=>exact h|false=>exact wN (h.perm (jt _ _ _))
   .exact wN h
theorem yd (h:Ud n p):∀ (f l r:Nat),Asks n (fun _=>True) (lY p k f l r)
 |0,l,r=>trivial|f+1,l,r=>by
  unfold lY;split
  .trivial
  .refine⟨h.at _,h.at _,fun b=>?_⟩
   cases b with
   |true=>exact yd h f _ _|false=>exact yd h f _ _
theorem T7:∀ (f:Nat) (p:Array Nat) (k:Nat),Ud n p->Asks n (fun _=>True) (Hu f p k)
 |0,p,k,_=>trivial|f+1,p,k,h=>Asks.bind (yd h _ _ _) fun l _=>T7 f _ _ (h.perm (bubble_perm _ _ _))
theorem aae (hn:0<n):Asks n (fun _=>True) (tW n):=
 Asks.bind (JT ⟨hn,fun x hx=>by simpa using hx⟩) fun r hr=>by
  split
  .exact T7 _ _ _ hr
  .trivial
open PySem.Calls
theorem Df (hc:∀ i j (C:Bool->aj->Prop),i<n->j<n->C (lt i j) s->cmp i j C s):
  ∀ (t:KasT α),Asks n R t->Q (cH lt t) s->t.kasWp cmp Q s
 | .ret a,_,h=>h| .ask i j k,a,h=>hc i j _ a.1 a.2.1 (Df hc (k (lt i j)) (a.2.2 _) h)
section
variable {prog:bN} {w:aO} {A:aP} {E:Value->aj->Prop} {s:aj} {vs:List Value} {lt:Nat->Nat->Bool}
def Comp (prog:bN) (w:aO) (A:aP) (h:aq) (vs:List Value) (lt:Nat->Nat->Bool):Prop:=
 2<=vs.length->∀ s':aj,(∀ b o,h.get? b=some o->s'.heap.get? b=some o)->∃ κ,(∀ R:tV->aj->Prop,R κ s'->ao (aU prog w) A (keyKind' vs.toArray) R (fun _ _=>False) s')/\
  ∀ i j (C:Bool->aj->Prop),i<vs.length->j<vs.length->C (lt i j) s'->Ht prog w A κ vs i j C s'
def wz (vs:List Value) (p:Array Nat):List Value:=p.toList.map fun i=>vs.getD i iR
theorem aak (vs:List Value):wz vs (dU (aY vs.length))=vs:=by
 apply Ij;intro i;unfold wz;by_cases h:i<vs.length
 .simp[h]
 .simp[Ib h,h]
def af0 (lt:Nat->Nat->Bool) (n:Nat):Prop:=n<64∨(n<300/\(cH lt (tX n (dU (aY n)))).1=n)
theorem aau:∀ n,n<300->64<=n->minRun' n n 0<=n:=by
 have h:∀ n,n<300->(decide (64<=n)&& !decide (minRun' n n 0<=n))=false:=by decide+kernel
 intro n h1 h2;have:=h n h1;rw[decide_eq_true h2,lZ]at this;simpa using this
theorem ak5 {κ:tV} {it:Array Keyed} {n:Nat} {Q:Unit->SortSt->aj->Prop} {G:Array Nat->aj->Prop} (h2:2<=n) (h3:n<300) (h64:64<=n)
  (hG:∀ p' st' s',p'.size=n->arrOf st'=p'.map (BX it)->Nm st'=none->G p' s'->Q () st' s') (h:(tX n (dU (aY n))).kasWp (kas_cmp prog w A κ it) (fun r s'=>r.1=n/\G r.2 s') s):
  kasC (aU prog w) A E Vk Q (BP κ it (dU (aY n))) s:=by
 obtain⟨r,rfl⟩:∃ r,n=r+2:=⟨n -2,by lia⟩;have hrs:(dU (aY (r+2))).size=r+2:=by simp
 rw[sortRuns'_eq];refine xG (kasC_get ?_);dsimp only;have hsz:(arrOf (BP κ it (dU (aY (r+2))))).size=r+2:=by show((dU (aY (r+2))).map (BX it)).size=_;rw[Array.size_map,hrs]
 have hmr:=aau (r+2) h3 h64;simp only[hsz];refine xG (kasC_range ?_);show kasC _ _ _ (forIn (0::1::fP 2 r) _ _) _ _ _;refine Vj ?_;dsimp only;rw[if_neg (by lia)];simp only[VG,VF];refine xG (kas_count_ (by lia) (by rw[hrs];exact aB _) (fun m p' s' hm1 hm2 hp hg=>?_) h);have hps:p'.size=r+2:=hp.trans hrs;dsimp only;obtain⟨hm,hg'⟩:=hg;have hm:m=r+2:=hm;subst hm;rw[if_neg (by lia)];refine xG (kasC_get ?_);rw[show(Vi (BP κ it p')).back?=none from rfl];dsimp only;refine xG (kasC_modify (Nu ?_));show kasC _ _ _ (forIn (1::fP 2 r) _ _) _ _ _;refine Vj ?_;dsimp only;rw[if_pos (aB _)];refine Nu ?_;dsimp only;refine xG (kasC_range ?_);show kasC _ _ _ (forIn (0::1::fP 2 r) _ _) _ _ _;refine Vj ?_;refine xG (kasC_get ?_);rw[if_pos (show(Vi (setPending (BP κ it p') ((Vi (BP κ it p')).push (0,r+2,0)))).size<=1 from aB 1)];refine Nu ?_;dsimp only;exact Nu (hG p' _ _ hps rfl rfl hg')
theorem ahe {κ:tV} {Q:SortSt->aj->Prop} {G:Array Nat->aj->Prop} (h2:2<=vs.length) (h64:af0 lt vs.length)
  (hG:∀ p st' s',p.size=vs.length->arrOf st'=p.map (BX (vs.toArray.zip vs.toArray))->Nm st'=none->G p s'->Q st' s')
  (hc:∀ i j (C:Bool->aj->Prop),i<vs.length->j<vs.length->C (lt i j) s->Ht prog w A κ vs i j C s) (g:G (cH lt (tW vs.length)) s):
  ao (aU prog w) A ((Vk).run (Ce κ (vs.toArray.zip vs.toArray) #[] 7 none)) (fun r s'=>Q r.2 s') E s:=by
 by_cases h:vs.length<64
 .exact kat_run (ks:=vs) rfl h2 h hG (Df hc _ (aae (by lia)) g)
 .obtain⟨h3,h4⟩:vs.length<300/\(cH lt (tX vs.length (dU (aY vs.length)))).1=vs.length:=by
   rcases h64 with h' |h'
   .exact absurd h' h
   .exact h'
  have eg:cH lt (tW vs.length)=(cH lt (tX vs.length (dU (aY vs.length)))).2:=by unfold tW;rw[kh,h4,if_neg (mG _)];rfl
  rw[eg]at g;have bel:Ud vs.length (dU (aY vs.length)):=⟨by lia,fun x hx=>by simpa using hx⟩;have hd:=Df (Q:=fun r s'=>r.1=vs.length/\G r.2 s') hc _ (JT (nrem:=vs.length) bel) ⟨h4,g⟩;rw[kat_ask_eq (ks:=vs) rfl]at hd;have run:=ak5 (E:=E) (Q:=fun _ st' s'=>Q st' s') h2 h3 (by lia) hG hd;have est:Ce κ (vs.toArray.zip vs.toArray) #[] 7 none=BP κ (vs.toArray.zip vs.toArray) (dU (aY vs.length)):=by have e:=kas_range (vs.toArray.zip vs.toArray);rw[show(vs.toArray.zip vs.toArray).size=vs.length by simp]at e;show Ce κ (vs.toArray.zip vs.toArray) #[] 7 none=Ce κ ((dU (aY vs.length)).map (BX (vs.toArray.zip vs.toArray))) #[] 7 none;rw[e]
  rw[est];exact run
def J6 (vs:List Value) (lt:Nat->Nat->Bool):Prop:=∀ (prog:bN) (w:aO) (A:aP) (E:Value->aj->Prop) (s:aj) (κ:tV),(∀ i j (C:Bool->aj->Prop),i<vs.length->j<vs.length->C (lt i j) s->Ht prog w A κ vs i j C s)->
 ∀ Q:SortSt->aj->Prop,(∀ (p:Array Nat) (st':SortSt),p.Perm (dU (aY vs.length))->Up lt p vs.length->arrOf st'=p.map (BX (vs.toArray.zip vs.toArray))->Nm st'=none->Q st' s)->
 ao (aU prog w) A ((Vk).run (Ce κ (vs.toArray.zip vs.toArray) #[] 7 none)) (fun r s'=>Q r.2 s') E s
theorem Ro (h64:af0 lt vs.length) (hA:∀ a b,lt a b=true->lt b a=false) (hT:∀ a b c,lt b a=false->lt c b=false->lt c a=false) (h2:2<=vs.length):J6 vs lt:=by intro prog w A E s κ hc Q h;obtain⟨r1,r2⟩:=abK hA hT (n:=vs.length) (by lia);exact ahe (vs:=vs) (lt:=lt) (Q:=Q) (G:=fun p s'=>s'=s/\p=cH lt (tW vs.length)) h2 h64 (fun p st' s' a1 a2 a3 a4=>by obtain⟨rfl,rfl⟩:=a4;exact h _ _ r1 r2 a2 a3) hc ⟨rfl,rfl⟩
theorem Km (ob:s.heap.get? a=some (d7 "list" vs.toArray n)) (ahq:vs.length<300) (ho:2<=vs.length->J6 vs lt)
  (hc:2<=vs.length->∀ s':aj,(∀ b o,b≠a->s.heap.get? b=some o->s'.heap.get? b=some o)->∃ κ,(∀ R:tV->aj->Prop,R κ s'->ao (aU prog w) A (keyKind' vs.toArray) R (fun _ _=>False) s')/\
   ∀ i j (C:Bool->aj->Prop),i<vs.length->j<vs.length->C (lt i j) s'->Ht prog w A κ vs i j C s')
  (h:∀ p:Array Nat,p.Perm (dU (aY vs.length))->Up lt p vs.length->P (.done (.ret .none)) {s with heap:=sortedHeap s.heap a vs (dU (wz vs p))}):
  ao (aU prog w) A (qP.«list.sort» ⟨[.ref a],[]⟩) P E s:=by
 have sz:vs.toArray.size=vs.length:=by simp
 have lz:∀ {p:Array Nat},p.size=vs.length->(dU (wz vs p)).size<=sizeLine+1:=fun hp=>by unfold wz;rw[cF,aR,Io,hp,cY];lia
 rw[list_sort_plain];refine au (listItems_at ob rfl ?_);refine au (V3 ob rfl ?_ (by rw[cF,cY];lia) (ju _));obtain⟨ep,ob1⟩:∃ ep,(s.heap.update a (gK fun _=>(#[]:Array Value))).get? a=some (d7 "list" #[] ep):=⟨_,get?_update_seq ob fun _=>#[]⟩;refine au (Vw ob1 rfl ?_);refine au (wpAny_newTuple ?_ (by show vs.length<=_;rw[cY];lia));refine au (wpAny_newList ?_ (ju _));refine pQ ?_;have ob6:(((s.heap.update a (gK fun _=>(#[]:Array Value))).push (d7 "tuple" vs.toArray 0)).push (d7 "list" #[] 0)).get? a=some (d7 "list" #[] ep):=eG _ (eG _ ob1);have kp:∀ b o,b≠a->s.heap.get? b=some o->(((s.heap.update a (gK fun _=>(#[]:Array Value))).push (d7 "tuple" vs.toArray 0)).push (d7 "list" #[] 0)).get? b=some o:=fun b o nb e=>eG _ (eG _ (by rw[adq _ _ _ _ nb];exact e))
 show ao (aU prog w) A _ P E {s with heap:=((s.heap.update a (gK fun _=>(#[]:Array Value))).push (d7 "tuple" vs.toArray 0)).push (d7 "list" #[] 0)};dsimp only;by_cases z:vs.toArray.size<2
 .rw[if_pos z,if_pos z]
  refine au (aG ?_);rw[StateT.run_pure];refine au (aG ?_);dsimp only;have eo:(arrOf (Ce general' (vs.toArray.zip vs.toArray) #[] 7 none)).map (·.2)=dU (wz vs (dU (aY vs.length))):=by
   rw[aak];show(vs.toArray.zip vs.toArray).map (·.2)=vs.toArray
   apply xW.mp;simp[Oq]
  rw[eo];refine au (Vw ob6 rfl ?_);refine au (V3 ob6 rfl ?_ (ju _) (lz (by simp)));simp only[if_false,bne_self_eq_false,bZ];refine aG (h _ (.refl _) fun i hi=>?_);rw[sz]at z;lia
 .rw[if_neg z,if_neg z]
  rw[sz]at z;obtain⟨κ,k1,k2⟩:=hc (by lia) {s with heap:=((s.heap.update a (gK fun _=>(#[]:Array Value))).push (d7 "tuple" vs.toArray 0)).push (d7 "list" #[] 0)} kp;refine au (j6 (k1 (fun κ' s'=>κ'=κ/\s'=_) ⟨rfl,rfl⟩) (fun κ' s0 e0=>?_) fun _ _ x=>x.elim);obtain⟨rfl,rfl⟩:=e0;refine au (j6 (ho (by lia) _ _ _ _ _ _ k2 (fun st' s'=>s'={s with heap:=((s.heap.update a (gK fun _=>(#[]:Array Value))).push (d7 "tuple" vs.toArray 0)).push (d7 "list" #[] 0)}/\∃ p:Array Nat,p.Perm (dU (aY vs.length))/\Up lt p vs.length/\arrOf st'=p.map (BX (vs.toArray.zip vs.toArray))/\Nm st'=none) fun p st' q1 q2 har hf=>⟨rfl,p,q1,q2,har,hf⟩) ?_ fun _ _ e=>e);rintro⟨⟨⟩,st'⟩ s' ⟨rfl,p,q1,q2,har,hf⟩;have hp:p.size=vs.length:=by have:=q1.size_eq;simpa using this
  dsimp only;have hs:=kat_snds (vs:=vs) rfl har;rw[hs];refine au (Vw ob6 rfl ?_);refine au (V3 ob6 rfl ?_ (ju _) (lz hp));rw[hf];simp only[if_false,bne_self_eq_false,bZ];exact aG (h _ q1 q2)
theorem U5 (hl:s.heap.IsList l vs.toArray) (ahq:vs.length<300) (ho:2<=vs.length->J6 vs lt)
  (hc:Comp prog w A.in1.in1 s.heap vs lt)
  (h:∀ p:Array Nat,p.Perm (dU (aY vs.length))->Up lt p vs.length->Q (.ref (s.heap.objs.size+1)) {s with heap:=sortedAll s.heap vs (dU (wz vs p))}):
  ao (aU prog w) A (call (.builtin "sorted") [.ref l]) Q E s:=by
 refine acq kind_sorted plain_sorted entry_sorted (args_sorted1 _) ?_;unfold qP.«sorted»;refine au (m:=checkCount "sorted" 1 1 _) (aG ?_);refine au (collect_list hl ?_ (by rw[cY];lia));refine au (wpAny_newList ?_ (by show vs.length<=_;rw[cY];lia));have zs:((s.heap.push (d7 "list" #[] 0)).update s.heap.objs.size (gK (·++vs.toArray))).objs.size=s.heap.objs.size+1:=by rw[Heap.size_update,size_push']
 have obL:(((s.heap.push (d7 "list" #[] 0)).update s.heap.objs.size (gK (·++vs.toArray))).push (d7 "list" vs.toArray 0)).get? (s.heap.objs.size+1)=some (d7 "list" vs.toArray 0):=by rw[<-zs];exact iH _ rfl
 have kp:∀ b o,s.heap.get? b=some o->(((s.heap.push (d7 "list" #[] 0)).update s.heap.objs.size (gK (·++vs.toArray))).push (d7 "list" vs.toArray 0)).get? b=some o:=fun b o q=>by have hb:b<s.heap.objs.size:=eZ q;rw[acY _ _ _ (by rw[zs];exact jk (Cw hb)),adq _ _ _ _ (jk hb),acY _ _ _ (jk hb)];exact q
 show ao _ _ _ _ _ {s with heap:=((s.heap.push (d7 "list" #[] 0)).update s.heap.objs.size (gK (·++vs.toArray))).push (d7 "list" vs.toArray 0)}
 rw[zs];refine au (pQ (xX slot_list_sort ⟨_,obL,rfl⟩ entry_list_sort (Km (lt:=lt) obL ahq ho (fun h2 s' k=>hc h2 s' fun b o e=>k b o ?_ (kp b o e)) fun p q1 q2=>⟨_,rfl,?_⟩) (args_list_sort _)))
 .exact jk (Cw (eZ e))
 .exact aG ⟨_,rfl,h p q1 q2⟩
end
theorem Gf:∀ (x y:List Nat),dI x y=decide (x<y)
 |[],[]=>by simp[dI]|[],_::_=>by simp[dI]|_::_,[]=>by simp[dI]|a::x,b::y=>by
  unfold dI;by_cases h:a=b
  .subst h
   rw[if_pos rfl,Gf x y];simp[O7]
  .rw[if_neg h]
   simp[O7,h]
def IsItem (h:aq) (v:Value) (x:Itm):Prop:=∃ (a:Addr) (o:Obj) (t u:Tok) (n:Nat),v= .ref a/\h.get? a=some o/\o.cls= .type "tuple"/\o.data= .seq #[.int x.1 t,.str ⟨x.2.toArray⟩ u] n
def ltAt (r:List Itm) (i j:Nat):Bool:=iY (r[i]?.getD (0,[])) (r[j]?.getD (0,[]))
section
variable {prog:bN} {w:aO} {A:aP} {E:Value->aj->Prop}
theorem afX (hv:IsItem s.heap v x) (hu:IsItem s.heap u y) (h:C (iY x y) s):ao (aU prog w) A (keyLt' (tuples' true) v u) C E s:=by
 obtain⟨a,oa,t1,t2,n,rfl,ga,_,da⟩:=hv;obtain⟨b,ob,t3,t4,m,rfl,gb,_,db⟩:=hu;refine kat_lt ga da gb db ?_;refine kat_cons (acP ?_);unfold iY at h;by_cases e:x.1=y.1
 .rw[if_pos e]at h
  have e':(x.1==y.1)=true:=by simp[e]
  rw[e'];refine kat_yes (kat_cons (acO ?_));by_cases e2:x.2=y.2
  .have q:dI x.2 y.2=false:=by rw[e2,Gf];simp
   rw[q]at h;rw[e2,decide_eq_true rfl];exact kat_yes (kat_nil h)
  .have ne:¬(⟨x.2.toArray⟩:Str)=⟨y.2.toArray⟩:=fun z=>e2 (by have:=congrArg (fun q:Str=>q.cps.toList) z;simpa using this)
   rw[decide_eq_false ne];refine kat_no (kat_one _ _ (lt_str ?_));rw[Gf]at h;exact h
 .rw[if_neg e]at h
  have e':(x.1==y.1)=false:=by simp[e]
  rw[e'];exact kat_no (oneLt_int h)
theorem Yp (hl:vs.length=r.length) (hi:∀ (i:Nat) (v:Value) (x:Itm),vs[i]?=some v->r[i]?=some x->IsItem h v x):Comp prog w A h vs (ltAt r):=by
 intro h2 s' keep;have hi':∀ (i:Nat) (v:Value) (x:Itm),vs[i]?=some v->r[i]?=some x->IsItem s'.heap v x:=fun i v x e1 e2=>by obtain⟨a,o,t,u,n,q1,q2,q3⟩:=hi i v x e1 e2;exact⟨a,o,t,u,n,q1,keep _ _ q2,q3⟩
 refine⟨tuples' true,fun R hR=>?_,fun i j C hi1 hj1 hC=>?_⟩
 .have tups:∀ (vs:List Value) (r:List Itm),vs.length=r.length->(∀ (i:Nat) (v:Value) (x:Itm),vs[i]?=some v->r[i]?=some x->IsItem s'.heap v x)->∃ fs:List Value,KatTups s'.heap vs fs/\fs.length=vs.length/\∀ f∈fs,∃ i t,f=qQ i t:=by
   intro vs;induction vs with
   |nil=>intro r _ _;exact⟨[],.nil,rfl,by simp⟩|cons v vs ih=>
    intro r hl hi;cases r with
    |nil=>simp at hl|cons x r=>
     obtain⟨fs,k1,k2,k3⟩:=ih r (by simpa using hl) fun i v' x' e1 e2=>hi (i+1) v' x' (by simpa using e1) (by simpa using e2);obtain⟨a,o,t,u,n,rfl,q2,q3,q4⟩:=hi 0 v x rfl rfl;refine⟨.int x.1 t::fs,.cons q2 q3 q4 rfl k1,by simp[k2],fun f hf=>?_⟩;rcases bC.mp hf with rfl|hf
     .exact⟨_,_,rfl⟩
     .exact k3 f hf
  obtain⟨fs,k1,k2,k3⟩:=tups vs r hl hi';refine kat_kind (T:=.type "int") k1 (by lia) (fun v hv=>?_) rfl hR;obtain⟨i,t,rfl⟩:=k3 v hv;exact Looks.of_pure rfl
 .have hir:i<r.length:=by lia
  have hjr:j<r.length:=by lia
  have ei:vs.getD i iR=vs[i]:=by simp[hi1]
  have ej:vs.getD j iR=vs[j]:=by simp[hj1]
  have el:ltAt r i j=iY r[i] r[j]:=by simp[ltAt,hir,hjr]
  unfold Ht;rw[ei,ej];rw[el]at hC;exact afX (hi' i _ _ (dw hi1) (dw hir)) (hi' j _ _ (dw hj1) (dw hjr)) hC
end
end DW
namespace DW
theorem Jc:∀ x:List Nat,dI x x=false
 |[]=>rfl|a::x=>by simp[dI,Jc x]
theorem Lp:∀ x y:List Nat,dI x y=true->dI y x=false
 |[],[],h=>by simp[dI]at h|[],_::_,_=>rfl|_::_,[],h=>by simp[dI]at h|a::x,b::y,h=>by
  unfold dI at h ⊢;by_cases e:a=b
  .rw[if_pos e]at h
   rw[if_pos e.symm];exact Lp x y h
  .rw[if_neg e]at h
   rw[if_neg (fun z=>e z.symm)];simp at h ⊢;lia
theorem RV:∀ x y:List Nat,dI x y=false->dI y x=false->x=y
 |[],[],_,_=>rfl|[],_::_,h,_=>by simp[dI]at h|_::_,[],_,h=>by simp[dI]at h|a::x,b::y,h,k=>by
  unfold dI at h k;by_cases e:a=b
  .rw[if_pos e]at h
   rw[if_pos e.symm]at k;rw[e,RV x y h k]
  .rw[if_neg e]at h
   rw[if_neg (fun z=>e z.symm)]at k;simp at h k;lia
theorem Jb:∀ x y z:List Nat,dI y x=false->dI z y=false->dI z x=false
 |x,y,[],h,k=>by
  cases x with
  |nil=>rfl|cons a x=>
   cases y with
   |nil=>simp[dI]at h|cons b y=>simp[dI]at k
 |[],y,c::z,h,k=>by simp[dI]|a::x,[],c::z,h,k=>by simp[dI]at h|a::x,b::y,c::z,h,k=>by
  unfold dI at h k ⊢;by_cases e:b=a
  .by_cases f:c=b
   .rw[if_pos e]at h;rw[if_pos f]at k;rw[if_pos (f.trans e)]
    exact Jb x y z h k
   .rw[if_neg f]at k;subst e;rw[if_neg f];exact k
  .rw[if_neg e]at h
   by_cases f:c=b
   .subst f;rw[if_neg e];exact h
   .rw[if_neg f]at k
    simp at h k;rw[if_neg (by lia)];simp;lia
theorem zZ (x y:Itm) (h:iY x y=true):iY y x=false:=by
 unfold iY at h ⊢;by_cases e:x.1=y.1
 .rw[if_pos e]at h;rw[if_pos e.symm];exact Lp _ _ h
 .rw[if_neg e]at h;rw[if_neg (fun z=>e z.symm)];simp at h ⊢;lia
theorem Zi (x y:Itm) (h:iY x y=false) (k:iY y x=false):x=y:=by
 unfold iY at h k;by_cases e:x.1=y.1
 .rw[if_pos e]at h;rw[if_pos e.symm]at k
  exact Nr e (RV _ _ h k)
 .rw[if_neg e]at h;rw[if_neg (fun z=>e z.symm)]at k;simp at h k;lia
theorem j9 (x y z:Itm) (h:iY y x=false) (k:iY z y=false):iY z x=false:=by
 unfold iY at h k ⊢;by_cases e:y.1=x.1
 .by_cases f:z.1=y.1
  .rw[if_pos e]at h;rw[if_pos f]at k;rw[if_pos (f.trans e)];exact Jb _ _ _ h k
  .rw[if_neg f]at k;rw[<-e,if_neg f];exact k
 .rw[if_neg e]at h
  by_cases f:z.1=y.1
  .rw[f,if_neg e];exact h
  .rw[if_neg f]at k
   simp at h k;rw[if_neg (by lia)];simp;lia
theorem zY (x:Itm):iY x x=false:=by simp[iY,Jc]
theorem DX:∀ {a b:List Itm},a.Perm b->jL a->jL b->a=b
 |[],b,p,_,_=>(List.nil_perm.mp p).symm|x::a,[],p,_,_=>by have:=p.length_eq;simp at this|x::a,y::b,p,h,k=>by
  have hx:=xY.mp h;have hy:=xY.mp k;have e:x=y:=by
   have m1:x∈y::b:=p.subset (by simp);have m2:y∈x::a:=p.symm.subset (by simp);simp at m1 m2;rcases m1 with e|m1
   .exact e
   .rcases m2 with e|m2
    .exact e.symm
    .exact Zi x y (hy.1 x m1) (hx.1 y m2)
  subst e;rw[DX ((List.perm_cons x).mp p) hx.2 hy.2]
open PySem PySem.W PyProof.Rows
theorem Lq (r:List Itm):∀ a b,ltAt r a b=true->ltAt r b a=false:=fun a b h=>zZ _ _ h
theorem yq (r:List Itm):∀ a b c,ltAt r b a=false->ltAt r c b=false->ltAt r c a=false:=fun a b c h k=>j9 _ _ _ h k
def outI (r:List Itm) (p:Array Nat):List Itm:=p.toList.map fun i=>r[i]?.getD (0,[])
theorem aal (h:p.Perm (dU (aY r.length))):(outI r p).Perm r:=by
 have h1:p.toList.Perm (aY r.length):=by simpa using Array.perm_iff_toList_perm.mp h
 refine(h1.map fun i=>r[i]?.getD (0,[])).trans (List.Perm.of_eq ?_);apply Ij;intro i;by_cases q:i<r.length
 .simp[q]
 .simp[q,Ib q]
theorem RB (hn:p.size=n) (h:Up (ltAt r) p n):jL (outI r p):=by
 refine Xc.mpr fun i j h1 h2 hij=>?_;have le:=Up.le (yq r) h (fun a=>zY _) (j -i) i (by simp[outI]at h2;lia);rw[show i+(j -i)=j by lia]at le;have e1:i<p.size:=by simpa[outI]using h1
 have e2:j<p.size:=by simpa[outI]using h2
 have f1:at' p i=p[i]:=by simp[Bc,e1]
 have f2:at' p j=p[j]:=by simp[Bc,e2]
 rw[f1,f2]at le;simpa[outI,ltAt]using le
open PySem.Calls
end DW
namespace DW.TS
open PySem PySem.W PySem.Calls PyProof.Rows
section
variable (a b:Array Keyed)
end
section
variable (a b:Array Keyed)
end
section
variable (lo nrem:Nat)
end
section
variable {prog:bN} {w:aO} {A:aP} {E:Value->aj->Prop} {s:aj} {κ:tV} {c:Keyed->Keyed->Bool} {M:Keyed->Prop} {arr akF:Array Keyed} {p:Array (Nat×Nat×Nat)} {g lo nrem:Nat}
end
section
variable {prog:bN} {w:aO} {A:aP} {E:Value->aj->Prop} {s:aj} {κ:tV} {c:Keyed->Keyed->Bool} {M:Keyed->Prop} {arr akF:Array Keyed} {p:Array (Nat×Nat×Nat)} {g lo nrem:Nat}
end
section
variable {c:Keyed->Keyed->Bool} {arr akF:Array Keyed} {g lo nrem:Nat}
end
section
variable {prog:bN} {w:aO} {A:aP} {E:Value->aj->Prop} {s:aj} {κ:tV} {c:Keyed->Keyed->Bool} {M:Keyed->Prop} {arr akF:Array Keyed} {p:Array (Nat×Nat×Nat)} {g lo nrem:Nat}
end
end DW.TS
namespace DW
open PySem PySem.W PySem.Calls PyProof.Rows DW.TS
end DW
namespace DW
open PySem PySem.Spec PyProof.Rows L2
section
variable {prog:bN} {w:aO} {A:aP} {E:Value->aj->Prop} {s:aj} {d it:Addr} {od:Obj} {es:Array Vm} {ep i:Nat}
theorem aha (hs:(d==qU)=false) (ho:s.heap.get? d=some od) (hc:od.ExactDict) (hd:od.data= .dict es ep) (hfit:(es.size:Int)<2 ^ 63)
  (h:Q (.int es.size (s.toks+1)) {s with toks:=s.toks+1+1}):ao (aU prog w) A (call (.builtin "len") [.ref d]) Q E s:=by
 have T0:s.TypeIs (.ref d) "dict":=⟨od,ho,hc.1⟩;refine acq kind_len plain_len entry_len (args_len1 _) ?_;unfold qP.«len»;refine au (m:=oneArg "len" _) (aG ?_);refine au (m:=callSpecial? (.ref d) (aF "__len__")) (Iu (name:=aF "__len__") T0 adL
  (xX adL T0 PySem.F.entry_dict_len ?_ (PySem.F.args_dict_len_1 _)))
 show ao _ _ (dictSize d>>=_) _ _ s;unfold dictSize;refine au (au (ac2 ho hd (aG ?_)));show ao _ _ (aji d>>=_) _ _ s;refine au (wpAny_pendingCount_other hs (wpAny_ret_mkInt ?_));have e0:((es.size:Nat):Int)+((0:Nat):Int)=es.size:=by simp
 rw[e0];refine au (pQ (aG (au (qW ?_))));show ao _ _ (if((es.size:Nat):Int)<0 then _ else _) _ _ _;rw[if_neg (by lia)];show ao _ _ (if((es.size:Nat):Int)≥2 ^ 63 then _ else _) _ _ _;rw[if_neg (by lia)];exact au (wpAny_mkInt (aG ⟨_,rfl,h⟩))
end
section
variable {prog:bN} {w:aO} {K:Type} [DecidableEq K] {knd:HeapKind prog w K} {A:aP} {E:Value->aj->Prop} {s:aj}
end
section
variable {X:Cx} {pins:List (Addr×Obj)} {σ:L2.St} {H:Hp} {s:aj} {a:Addr} {A:aP} {E:Value->aj->Prop} {kvs:List (List Key×V)}
end
end DW
namespace DW
open PySem PySem.Spec PyProof.Rows
open L2 (aN Key frs vC Loc Look Mod sG cT)
theorem kept_iter {h h':aq} {o:Obj} (hk:∀ b ob,b∉[h.objs.size]->(h.push o).get? b=some ob->h'.get? b=some ob):∀ b ob,h.get? b=some ob->h'.get? b=some ob:=fun b ob e=>hk b ob (fun hm=>by have:=cG.mp hm;subst this;exact mG _ (eZ e)) (eG _ e)
theorem ag6 (xs:Array (Int×Tok)) (n:Int) (ns:List Int) (h:xs.toList.map (·.1)=n::ns):dM xs (cJ (fun i j=>decide (dM xs i<dM xs j)) (xs.size -1))=ns.foldl min n:=by
 have key:∀ k,k<(n::ns).length->dM xs (cJ (fun i j=>decide (dM xs i<dM xs j)) k)=(ns.take k).foldl min n:=by
  intro k;have at_:∀ i,dM xs i=((n::ns)[i]?).getD 0:=fun i=>by rw[<-h];simp[dM]
  induction k with
  |zero=>intro _;simp[cJ,at_]|succ k ih=>
   intro hk;have ih':=ih (by lia);(have hk':k<ns.length:=by simpa using hk);(have e:ns.take (k+1)=ns.take k++[ns[k]]:=by rw[ael hk']);rw[e,Ii];simp only[pR,Ob];rw[<-ih'];simp only[cJ];(have a1:dM xs (k+1)=ns[k]:=by rw[at_];simp[hk']);split
   .rename_i hgt
    have hgt:=of_decide_eq_true hgt;rw[a1]at hgt ⊢;lia
   .rename_i hgt
    have hgt:¬(dM xs (k+1)<_):=fun z=>hgt (decide_eq_true z);rw[a1]at hgt;lia
 have hs:xs.size=(n::ns).length:=by rw[<-h];simp
 have:=key (xs.size -1) (by rw[hs];simp);rw[this,hs,tM (by simp)]
theorem Zh (xs:Array (Int×Tok)) (n:Int) (ns:List Int) (h:xs.toList.map (·.1)=n::ns):dM xs (cJ (fun i j=>decide (dM xs i>dM xs j)) (xs.size -1))=ns.foldl max n:=by
 have key:∀ k,k<(n::ns).length->dM xs (cJ (fun i j=>decide (dM xs i>dM xs j)) k)=(ns.take k).foldl max n:=by
  intro k;have at_:∀ i,dM xs i=((n::ns)[i]?).getD 0:=fun i=>by rw[<-h];simp[dM]
  induction k with
  |zero=>intro _;simp[cJ,at_]|succ k ih=>
   intro hk;have ih':=ih (by lia);(have hk':k<ns.length:=by simpa using hk);(have e:ns.take (k+1)=ns.take k++[ns[k]]:=by rw[ael hk']);rw[e,Ii];simp only[pR,Ob];rw[<-ih'];simp only[cJ];(have a1:dM xs (k+1)=ns[k]:=by rw[at_];simp[hk']);split
   .rename_i hgt
    have hgt:=of_decide_eq_true hgt;rw[a1]at hgt ⊢;lia
   .rename_i hgt
    have hgt:¬(dM xs (k+1)>_):=fun z=>hgt (decide_eq_true z);rw[a1]at hgt;lia
 have hs:xs.size=(n::ns).length:=by rw[<-h];simp
 have:=key (xs.size -1) (by rw[hs];simp);rw[this,hs,tM (by simp)]
section
variable {X:Cx} {ρ:dD} {θ:Th} {μ:Mem} {s:aj} {d e x y:D} {u v w:Value} {ds es:List D} {us vs:List Value} {Qd:QD} {Q:Value->aj->Prop} {E:Value->aj->Prop} {a:Addr} {n k j:Nat} {ws:WA}
theorem jD (w:pD X.T θ μ s.heap) (r:Rp s.heap θ μ d u) (e:cB μ d=some ds):∃ a us,u= .ref a/\PlainL s.heap a us.toArray/\us.length<=sizeLine/\c7 s.heap θ μ ds us:=by
 have h:aC μ d=some ds/\U3 d≠0:=by cases d<;>first|(cases e;done)|exact⟨e,fun z=>by cases z⟩
 obtain⟨a,us,q,z,r⟩:=vR w r h.1;exact⟨a,us,q,fY z h.2,z.fix.1,r⟩
theorem T5 {h:aq} {z:Bool->Bool->Bool} {t0:Bool} {g:List D->Option Bool} (h0:g []=some t0) (h1:∀ c ds,g (.bl c::ds)=(g ds).map (z c ·)) (h2:∀ d ds b,g (d::ds)=some b->∃ c,d= .bl c):∀ {ds:List D} {us:List Value} {b:Bool},c7 h θ μ ds us->g ds=some b->
  ∃ bs:List Bool,us=bs.map gM/\bs.foldr z t0=b
 |[],_,_,r,e=>by cases(show _=[]from r);rw[h0]at e;cases e;exact⟨[],rfl,rfl⟩
 |d::ds,_,b,⟨u,r,q,x,y⟩,e=>by obtain⟨c,rfl⟩:=h2 d ds b e;rw[h1]at e;obtain⟨b',e',rfl⟩:=zH.mp e;obtain⟨bs,rfl,rfl⟩:=T5 h0 h1 h2 y e';cases(show u=gM c from x);exact⟨c::bs,q,rfl⟩
theorem ints_of {h:aq}:∀ {ds:List D} {us:List Value} {ns:List Int},c7 h θ μ ds us->lG ds=some ns->∃ xs:Array (Int×Tok),us.toArray=lX xs/\xs.toList.map (·.1)=ns
 |[],_,_,r,e=>by cases(show _=[]from r);cases e;exact⟨#[],by simp[lX],rfl⟩
 |d::ds,_,ns,⟨u,r,q,x,y⟩,e=>by
  cases d with
  |int i=>obtain⟨t,rfl⟩:=x;subst q;simp only[lG,zH]at e;obtain⟨ms,e,rfl⟩:=e;obtain⟨xs,e1,e2⟩:=ints_of y e;refine⟨((i,t)::xs.toList).toArray,?_,by simp[e2]⟩;have e1':=congrArg HS e1;simp only[lX,acG]at e1';apply xW.mp;simp only[lX,acG];simpa using e1'|_=>cases e
theorem ints_map:∀ {ds:List D} {ns:List Int},lG ds=some ns->ds=ns.map D.int
 |[],ns,h=>by cases h;rfl
 | .int i::ds,ns,h=>by simp only[lG,zH]at h;obtain⟨r,e,rfl⟩:=h;rw[ints_map e];rfl
theorem bind_some {α β:Type} {o:Option α} {f:α->Option β} {b:β} (h:o.bind f=some b):∃ a,o=some a/\f a=some b:=Pb.mp h
theorem KR {c:Value} {b:String} (hb:b≠"min3")
  (h1:∀ {s:aj} {ρ:dD} {θ:Th} {μ:Mem} {d:D} {u:Value} {Qd:QD} {Q:Value->aj->Prop} {E:Value->aj->Prop},Iv X ρ θ μ s->Rp s.heap θ μ d u->bO b [d] μ Qd->Fin X ρ θ μ s Qd Q->ao X.M X.A (call c [u]) Q E s)
  (h2:∀ {s:aj} {ρ:dD} {θ:Th} {μ:Mem} {d e:D} {u v:Value} {Qd:QD} {Q:Value->aj->Prop} {E:Value->aj->Prop},Iv X ρ θ μ s->Rp s.heap θ μ d u->Rp s.heap θ μ e v->bO b [d,e] μ Qd->Fin X ρ θ μ s Qd Q->ao X.M X.A (call c [u,v]) Q E s):ZV X (fun us=>call c us) (bO b):=fun {s ρ θ μ ds us Qd Q E} i r hw f=>by
 match ds,hw with
 |[d],hw=>obtain⟨u,rfl,x⟩:=r.iW;exact h1 i x hw f|[d,e],hw=>obtain⟨u,v,rfl,x,y⟩:=r.yV;exact h2 i x y hw f|[d,e,g],hw=>exact(aix hb hw).elim
theorem ahK:ZV X (fun us=>call (.builtin "len") us) (bO "len"):=KR (by decide) (fun {s ρ θ μ d u Qd Q E} i r hw f=>by
 have hs:sizeLine=16777216:=cY;simp only[bO]at hw;split at hw
 .rename_i n hn
  have seq:∀ {ds:List D},aC μ d=some ds->n=ds.length->ao X.M X.A (call (.builtin "len") [u]) Q E s:=fun {ds} hq hl=>by
   obtain⟨a,us,rfl,z,r'⟩:=vR i.dG r hq;have l:=z.fix.1;rw[hl,<-r'.length]at hw;by_cases hk:U3 d=0
   .rw[hk]at z
    exact len_tuple (fW z) (by simp only[cF];lia) (f.tok i (mQ (by simp only[cF])) hw)
   .exact Calls.call_len_list (fY z hk).isList (by simp only[cF];lia) (f.tok i (mQ (by simp only[cF])) hw)
  cases d with
  |str x=>obtain⟨⟨t,rfl⟩,l⟩:=r;cases hn;exact len_str (by simp only[eE,cF];lia) (f.tok i (mQ (by simp[eE])) hw)
  |tup l=>cases hn;exact seq rfl rfl
  |lst l=>cases hn;exact seq rfl rfl
  |ro l=>cases hn;exact seq rfl rfl
  |loc m=>simp only[lenOf]at hn;obtain⟨ds,q,rfl⟩:=zH.mp hn;exact seq q rfl|_=>cases hn
 .unfold ahX at hw
  split at hw
  .rename_i m _
   obtain⟨p,rfl,hp⟩:=r;have len:∀ {o:Obj} {es:Array Vm} {ep n:Nat},s.heap.get? p.1=some o->o.ExactDict->o.data= .dict es ep->es.size=n->(p.1==qU)=false->n<=sizeLine->Qd (.int n) μ->ao X.M X.A (call (.builtin "len") [.ref p.1]) Q E s:=fun ho hx hd hz hs' hl q=>aha hs' ho hx hd (by rw[hz];lia) (f.tok i (mQ (by rw[hz])) q)
   split at hw
   .rename_i ks es hn
    obtain⟨⟨kvs,⟨o,es',ep,ho,hx,hd,_,pr,_⟩,l,hs',hk,_⟩,_⟩:=i.dG.cell m _ p hn hp;(have e1:kvs.length=ks.length:=by have:=congrArg dR hk;simpa using this);rw[<-e1]at hw;exact len ho hx hd (by rw[<-Io];exact pr.length) hs' l hw
   .rename_i ks es hn
    obtain⟨⟨xs,⟨o,es',ep,ho,hx,hd,he,_⟩,l,hs',_,hk,_⟩,_⟩:=i.dG.cell m _ p hn hp;(have e1:xs.length=ks.length:=by have:=congrArg dR hk;simpa using this);rw[<-e1]at hw;exact len ho hx hd (by rw[<-Io,he,aR]) hs' l hw
   .exact hw.elim
  .exact hw.elim) fun i x y hw f=>by simp[bO]at hw
end
end DW
namespace DW
open PySem PySem.Spec PyProof.Rows
open L2 (aN Key frs vC Loc Look Mod sG cT)
section
variable {X:Cx} {ρ:dD} {θ:Th} {μ:Mem} {s:aj} {d e x y:D} {u v w:Value} {ds es:List D} {us vs:List Value} {Qd:QD} {Q:Value->aj->Prop} {E:Value->aj->Prop} {a:Addr} {n k j:Nat} {ws:WA}
theorem bit {bs:List Bool} {v:Value} (i:Nat) (e:((bs.map gM).toArray)[i]?=some v):v= .bool (bs.getD i true):=by simp only[List.getElem?_toArray,jw]at e;obtain⟨b,h1,rfl⟩:=zH.mp e;simp[h1]
theorem Va (bs:List Bool):(aY bs.length).map (fun i=>bs.getD i true)=bs:=by
 apply Ij;intro i;by_cases hi:i<bs.length
 .simp[hi]
 .simp[Ib hi,hi]
theorem afZ (bs:List Bool):((aY bs.length).all fun i=>bs.getD i true)=bs.foldr and true:=by
 have e:∀ l:List Bool,l.all id=l.foldr and true:=fun l=>by induction l with|nil=>rfl|cons b l ih=>simp only[acg,List.foldr_cons,ih];rfl
 have:=congrArg (fun l:List Bool=>l.all id) (Va bs);rw[List.all_map]at this;rw[<-e,<-this];rfl
theorem ahM (hc:X.calm=true):ZV X (fun us=>call (.builtin "all") us) (bO "all"):=KR (by decide) (fun {s ρ θ μ d u Qd Q E} i r hw f=>by
 simp only[bO]at hw;split at hw
 .rename_i b hb
  obtain⟨ds,h1,h2⟩:=bind_some hb;obtain⟨a,us,rfl,pl,l,rs⟩:=jD i.dG r h1;obtain⟨bs,rfl,rfl⟩:=T5 (z:=and) (t0:=true) (g:=allB) rfl (fun _ _=>rfl) (fun d ds b h=>by cases d<;>first|exact⟨_,rfl⟩|cases h) rs h2;refine call_all_walk (Ox pl.isList ?_);refine⟨s.heap.objs.size,_,_,_,_,_,fun i=>bs.getD i true,rfl,Vp (A:=X.A.in1) (i.ok.hd hc) _ a (jk pl.lt) _,⟨⟨_,iH _ rfl,rfl,rfl⟩,pl.isList.push _⟩,fun i v s' Q' E' hP hQ=>?_,fun h' tk hk=>?_⟩
  .rw[bit i hP];exact m7 hQ
  .refine f.hp i (kept_iter hk) ?_ hw
   show gM _=gM _;rw[cF,aR,afZ]
 .exact hw.elim) fun i x y hw f=>by simp[bO]at hw
theorem ahJ (hc:X.calm=true):ZV X (fun us=>call (.builtin "max") us) (bO "max"):=KR (by decide) (fun {s ρ θ μ d u Qd Q E} i r hw f=>by
 simp only[bO]at hw;split at hw
 .rename_i n ns hb
  obtain⟨ds,h1,h2⟩:=bind_some hb;obtain⟨a,us,rfl,pl,l,rs⟩:=jD i.dG r h1;obtain⟨zs,e1,e2⟩:=ints_of rs h2;have hl:=pl.isList;rw[e1]at hl;refine max_intList (i.ok.hd hc) hl (by rw[show zs.size=(n::ns).length by rw[<-e2];simp];simp) fun v h' tk hv hk=>?_;obtain⟨t,rfl⟩:=Vv hv;exact f.hp i hk (mQ (Zh zs n ns e2).symm) hw
 .exact hw.elim) fun {s ρ θ μ d e u v Qd Q E} i x y hw f=>by
 match d,e,hw with
 | .int a,.int b,hw=>
  obtain⟨t,rfl⟩:=x;obtain⟨t',rfl⟩:=y;refine max_two_ints (i.ok.hd hc) fun h' tk k=>f.hp i k ?_ hw;by_cases hj:b>a
  .rw[if_pos hj,if_pos hj];exact iJ
  .rw[if_neg hj,if_neg hj];exact iJ
theorem ahI (hc:X.calm=true):ZV X (fun us=>call (.builtin "min") us) (bO "min"):=KR (by decide) (fun {s ρ θ μ d u Qd Q E} i r hw f=>by
 simp only[bO]at hw;split at hw
 .rename_i n ns hb
  obtain⟨ds,h1,h2⟩:=bind_some hb;obtain⟨a,us,rfl,pl,l,rs⟩:=jD i.dG r h1;obtain⟨zs,e1,e2⟩:=ints_of rs h2;have hl:=pl.isList;rw[e1]at hl;refine min_intList (i.ok.hd hc) hl (by rw[show zs.size=(n::ns).length by rw[<-e2];simp];simp) fun v h' tk hv hk=>?_;obtain⟨t,rfl⟩:=Vv hv;exact f.hp i hk (mQ (ag6 zs n ns e2).symm) hw
 .exact hw.elim) fun {s ρ θ μ d e u v Qd Q E} i x y hw f=>by
 match d,e,hw with
 | .int a,.int b,hw=>
  obtain⟨t,rfl⟩:=x;obtain⟨t',rfl⟩:=y;refine min_two_ints (i.ok.hd hc) fun h' tk k=>f.hp i k ?_ hw;by_cases hj:b<a
  .rw[if_pos hj,if_pos hj];exact iJ
  .rw[if_neg hj,if_neg hj];exact iJ
theorem RW {m:Bool} (i:Iv X ρ θ μ s) (r:Rp s.heap θ μ d u) (h:aC μ d=some ds) (hw:newL m ds μ Qd) (f:Fin X ρ θ μ s Qd Q):ao X.M X.A (call (.type "list") [u]) Q E s:=by
 obtain⟨a,us,rfl,z,rs⟩:=vR i.dG r h;have l:=z.fix.1;have fin:∀ (h':aq) (c':Nat),(∀ b o',s.heap.get? b=some o'->h'.get? b=some o')->h'.get? s.heap.objs.size=some {cls:=.type "list",dict:=none,data:=.seq us.toArray c',slots:=#[]}->Q (.ref s.heap.objs.size) {s with heap:=h' }:=fun h' c' kp e=>f.newL i kp (aB _) ⟨l,c',e⟩ rs hw
 by_cases hk:U3 d=0
 .rw[hk]at z
  obtain⟨o,ho,hc,n,hd⟩:=fW z;exact call_list_seq a (.inr rfl) ho hc hd fin (by simp only[cF]<;>lia)
 .obtain⟨o,ho,hc,n,hd⟩:=(fY z hk).isList
  exact call_list_seq a (.inl rfl) ho hc hd fin (by simp only[cF]<;>lia)
theorem aaY:ZV X (fun us=>call (.type "list") us) (bO "mlist"):=KR (by decide) (fun {s ρ θ μ d u Qd Q E} i r hw f=>by
 simp only[bO]at hw;split at hw
 .rename_i ds hq;exact RW i r hq hw f
 .exact hw.elim) fun i x y hw f=>by simp[bO]at hw
theorem Yr:ZV X (fun us=>call (.builtin "divmod") us) (bO "divmod"):=KR (by decide) (fun i x hw f=>by simp[bO]at hw) fun {s ρ θ μ d e u v Qd Q E} i x y hw f=>by
 match d,e,hw with
 | .int a,.int b,hw=>obtain⟨t,rfl⟩:=x;obtain⟨t',rfl⟩:=y;have hw:Ml b/\Qd (.tup [.int (a/b),.int (a%b)]) μ:=hw;obtain⟨⟨h1,h2⟩,hq⟩:=hw;have h5:=(Vy (show b.natAbs≠0 by lia)).mpr (show b.natAbs<2 ^ 500 by lia);refine divmod_int (by lia) ?_ (.inl (ad5 (by lia)));rw[Xf a (by lia),aec a (by lia)];exact f.sq i (j:=0) (us:=[.int (a/b) s.toks,.int (a%b) (s.toks+1)]) cZ (aB _) ⟨by simp only[bA,aL];rw[cY];decide,_,_,iH s.heap rfl,rfl,rfl,rfl⟩ (.cons iJ (.one iJ)) hq
theorem Gk {h:aq} {x:Itm} (r:Rp h θ μ (aK x) u):IsItem h u x:=by obtain⟨a,us,rfl,⟨_,o,n,e,c,dd,_⟩,_,rs⟩:=r;obtain⟨v,w,rfl,⟨t,rfl⟩,⟨⟨t',rfl⟩,_⟩⟩:=rs.yV;exact⟨a,o,t,t',n,rfl,e,c,dd⟩
theorem Lb {h:aq} {α:Type} {g:α->D} {r:List α} {a0:α} (rs:c7 h θ μ (r.map g) us):∀ l:List Nat,(∀ i∈l,i<r.length)->c7 h θ μ ((l.map fun i=>r[i]?.getD a0).map g) (l.map fun i=>us.getD i iR)
 |[],_=>.nil|i::l,q=>by have hi:i<r.length:=q i (by simp);obtain⟨u,e1,e2⟩:=rs.get (i:=i) (d:=g r[i]) (by simp[hi]);simp only[aX,show us.getD i iR=u by simp[e1],show r[i]?.getD a0=r[i] by simp[hi]];exact .cons e2 (Lb rs l fun j hj=>q j (by simp[hj]))
theorem abL {α:Type} {g:α->D} {r:List α} {a0:α} {p:Array Nat} {m:Bool} (i:Iv X ρ θ μ s) (f:Fin X ρ θ μ s Qd Q) (rs:c7 s.heap θ μ (r.map g) us) (l:us.length<=sizeLine) (q1:p.Perm (dU (aY us.length)))
  (hw:newL m ((p.toList.map fun i=>r[i]?.getD a0).map g) μ Qd):Q (.ref (s.heap.objs.size+1)) {s with heap:=sortedAll s.heap us (dU (wz us p))}:=by
 have len:us.length=r.length:=by have:=rs.length;simpa using this
 have hs:p.size=us.length:=by have:=q1.size_eq;simpa using this
 obtain⟨ep,hat⟩:=sortedAll_at s.heap us (dU (wz us p));exact f.newL i (tk:=s.toks) (fun b o e=>sortedAll_old e) (xJ _) ⟨by unfold wz;rw[aR,Io,hs];exact l,ep,hat⟩ (Lb rs p.toList fun i hi=>by have:=q1.mem_iff.mp (adF.mp hi);rw[<-len];simpa using this) hw
theorem U6 {m:Bool} {r:List Itm} (i:Iv X ρ θ μ s) (rd:Rp s.heap θ μ d u) (h:cB μ d=some (r.map aK)) (ahq:r.length<300) (ho:∀ its:List Value,its.length=r.length->(∀ (i:Nat) (v:Value) (x:Itm),its[i]?=some v->r[i]?=some x->IsItem s.heap v x)->2<=its.length->J6 its (ltAt r))
  (hw:∀ r':List Itm,r'.Perm r->jL r'->newL m (r'.map aK) μ Qd) (f:Fin X ρ θ μ s Qd Q):ao X.M X.A (call (.builtin "sorted") [u]) Q E s:=by
 obtain⟨a,us,rfl,pl,l,rs⟩:=jD i.dG rd h;have len:us.length=r.length:=by have:=rs.length;simpa using this
 have alm:∀ (i:Nat) (v:Value) (x:Itm),us[i]?=some v->r[i]?=some x->IsItem s.heap v x:=fun i v x e1 e2=>by obtain⟨u,g1,g2⟩:=rs.get (i:=i) (d:=aK x) (by rw[jw,e2];rfl);rw[e1]at g1;cases g1;exact Gk g2
 exact U5 (lt:=ltAt r) pl.isList (by rw[len];exact ahq) (ho us len alm) (Yp len alm) fun p q1 q2=>abL i f rs l q1 (hw _ (aal (by rw[<-len];exact q1)) (RB (n:=us.length) (by have:=q1.size_eq;simpa using this) q2))
theorem aht {r:List Itm} (hl:r.length<64) (its:List Value) (e:its.length=r.length) (_:∀ (i:Nat) (v:Value) (x:Itm),its[i]?=some v->r[i]?=some x->IsItem s.heap v x) (h2:2<=its.length):J6 its (ltAt r):=Ro (.inl (by lia)) (Lq r) (yq r) h2
theorem T6:ZV X (fun us=>call (.builtin "sorted") us) (bO "msorted"):=KR (by decide) (fun {s ρ θ μ d u Qd Q E} i r hw f=>by
 simp only[bO]at hw;split at hw
 .rename_i ds hq
  obtain⟨it,rfl,hl,hw⟩:=hw;exact U6 (m:=true) i r hq (by lia) (aht hl) hw f
 .exact hw.elim) fun i x y hw f=>by simp[bO]at hw
theorem ahH:ZV X (fun us=>call (.type "str") us) (bO "str"):=KR (by decide) (fun {s ρ θ μ d u Qd Q E} i r hw f=>by
 simp only[bO]at hw;cases d with
 |int k=>
  obtain⟨t,rfl⟩:=r;refine PySem.P.str_of_int hw.1 ?_;have hl:(jo k).length<=sizeLine:=by have:=int_text_fits hw.1;simpa[jo,eE]using this
  have:=f.tok i (tk:=s.toks+1) (wX (t:=s.toks) hl) hw.2;rwa[show(⟨(jo k).toArray⟩:Str)=aF (toString k) by simp[jo]]at this
 |_=>exact hw.elim) fun i x y hw f=>by simp[bO]at hw
theorem ahL:ZV X (fun us=>call (.type "int") us) (bO "int"):=KR (by decide) (fun {s ρ θ μ d u Qd Q E} i r hw f=>by
 simp only[bO]at hw;cases d with
 |int k=>obtain⟨t,rfl⟩:=r;exact call_int_int (f.at i iJ hw)|bl b=>cases(show u=gM b from r);exact call_int_bool (f.tok i iJ hw)
 |str x=>obtain⟨n,⟨hl,hn⟩,hq⟩:=hw;obtain⟨⟨t,rfl⟩,_⟩:=r;exact ajg hn (by simpa[eE]using hl) (f.tok i iJ hq)|_=>exact hw.elim) fun i x y hw f=>by simp[bO]at hw
end
end DW
namespace DW
open PySem PySem.Spec PyProof.Rows
open L2 (aN Key frs vC Loc Look Mod sG cT)
section
variable {X:Cx} {ρ:dD} {θ θ':Th} {μ μ':Mem} {s s1 s':aj} {k n:Nat} {ds:List D} {Qd:QD} {Q XE:Value->aj->Prop} {x:Str} {p pos apos:Pos} {a b c e o t:Expr} {as es rest:List Expr} {wa wb wc wo:WE} {ta tb:WT} {ws:WA} {d:D} {u v:Value} {R:D->D->Mem->QD->Prop} {R':D->D->Mem->QD->Prop} {Kb:Bool->Mem->Prop}
def PW (X:Cx) (e:Expr) (w:WT):Prop:=∀ whole,Jg X Alike (w7 e X.env whole) w
theorem PW.pt (h:PW X e ta):PT X e ta:=h _
theorem Ey (r:Rp s.heap θ μ d u) (h:fU d μ Kb):∃ b,u= .bool b/\d= .bl b/\Kb b μ:=by
 cases d with
 |bl b=>exact⟨b,r,rfl,h⟩|_=>exact h.elim
theorem ajE (ha:PE X a wa):PE X (.UnaryOp .USub a pos) (fun ρ μ Q=>wa ρ μ fun x μ1=>match x with| .int i=>Q (.int (-i)) μ1|_=>False):=fun i h f=>
 UnaryOp_ (ha i h fun {d u s1 θ1 μ1} i1 g1 r1 h1=>by
  cases d with
  |int j=>obtain⟨t,rfl⟩:=r1;exact neg_int (f (d:=.int (-j)) i1.tok (g1.trans (cV fun _ _ e=>e)) ⟨_,rfl⟩ h1)|_=>exact h1.elim)
theorem ajD (ha:PE X a wa):PE X (.UnaryOp .Not a pos) (fun ρ μ Q=>wa ρ μ fun x μ1=>fU x μ1 fun b μ2=>Q (.bl (!b)) μ2):=fun i h f=>UnaryOp_ (ha i h fun {d u s1 θ1 μ1} i1 g1 r1 h1=>by obtain⟨b,rfl,rfl,q⟩:=Ey r1 h1;exact not_of (m7 (f (d:=.bl (!b)) i1 g1 rfl q)))
theorem ajq (ha:PT X a ta):PT X (.UnaryOp .Not a pos) (fun ρ μ Q=>ta ρ μ fun b μ1=>Q (!b) μ1):=fun i h f=>isTrue_not (ha i h fun i1 g1 r1 h1=>by cases r1;exact f i1 g1 rfl h1)
theorem amT {α:Type} {Q:α->aj->Prop} {f:Value->Value->Sem α} (ha:PE X a wa) (hb:PE X b wb) (i:Iv X ρ θ μ s) (h:wa ρ μ fun x μ1=>wb ρ μ1 fun y μ2=>R x y μ2 Qd)
  (hf:∀ {x y v u s2 θ2 μ2},Iv X ρ θ2 μ2 s2->G0 X θ μ s θ2 μ2 s2->Rp s2.heap θ2 μ2 x v->Rp s2.heap θ2 μ2 y u->R x y μ2 Qd->ao X.M X.A (f v u) Q XE s2):
  ao X.M X.A (eval a X.env) (fun v s₁=>ao X.M X.A (eval b X.env) (fun u s₂=>ao X.M X.A (f v u) Q XE s₂) XE s₁) XE s:=
 ha i h fun i1 g1 r1 h1=>hb i1 h1 fun i2 g2 r2 h2=>hf i2 (g1.trans g2) ((i1.kp g2).rp r1) r2 h2
theorem aeB {op:iK} (ho:Op2 X (jy op) R) (ha:PE X a wa) (hb:PE X b wb) (hm:N7 op b=false):PE X (.Compare a [op] [b] pos) (fun ρ μ Q=>wa ρ μ fun x μ1=>wb ρ μ1 fun y μ2=>R x y μ2 Q):=fun i h f=>wpAny_Compare1 (amT ha hb i h fun i2 g2 r2 r2' h2=>ho i2 r2 r2' h2 (f.mono g2)) hm
theorem aen {op:iK} (ho:Op2 X (jy op) R) (ha:PE X a wa) (hb:PE X b wb) (hm:N7 op b=false):PT X (.Compare a [op] [b] pos) (fun ρ μ Q=>wa ρ μ fun x μ1=>wb ρ μ1 fun y μ2=>R x y μ2 fun r μ3=>fU r μ3 Q):=fun i h f=>adK (ha i h fun i1 g1 r1 h1=>hb i1 h1 fun i2 g2 r2 h2=>ho i2 ((i1.kp g2).rp r1) r2 h2 fun i3 g3 r3 h3=>by obtain⟨b,rfl,rfl,q⟩:=Ey r3 h3;exact m7 (f i3 ((g1.trans g2).trans g3) rfl q)) hm
theorem aeC {op op':iK} (ho:Op2 X (jy op) R) (ho':Op2 X (jy op') R') (ha:PE X a wa) (hb:PE X b wb) (hc:PE X c wc) (hm:Vh [op,op'] [b,c]=false):
  PE X (.Compare a [op,op'] [b,c] pos) (fun ρ μ Q=>wa ρ μ fun x μ1=>wb ρ μ1 fun y μ2=>R x y μ2 fun r μ3=>fU r μ3 fun t μ3=>if t=true then wc ρ μ3 fun z μ4=>R' y z μ4 Q else Q (.bl false) μ3):=fun i h f=>
 Compare_chain (ha i h fun i1 g1 r1 h1=>chain_link (hb i1 h1 fun i2 g2 r2 h2=>ho i2 ((i1.kp g2).rp r1) r2 h2 fun i3 g3 r3 h3=>by
  obtain⟨t,rfl,rfl,q⟩:=Ey r3 h3;refine m7 ?_;cases t with
  |false=>exact ite_ff (f (d:=.bl false) i3 ((g1.trans g2).trans g3) rfl q)|true=>exact ite_tt (chain_last (hc i3 q fun i4 g4 r4 h4=>ho' i4 (((i2.kp (g3.trans g4))).rp r2) r4 h4 (f.mono (((g1.trans g2).trans g3).trans g4)))))) hm
theorem aeo {op op':iK} (ho:Op2 X (jy op) R) (ho':Op2 X (jy op') R') (ha:PE X a wa) (hb:PE X b wb) (hc:PE X c wc) (hm:Vh [op,op'] [b,c]=false):
  PT X (.Compare a [op,op'] [b,c] pos) (fun ρ μ Q=>wa ρ μ fun x μ1=>wb ρ μ1 fun y μ2=>R x y μ2 fun r μ3=>fU r μ3 fun t μ3=>if t=true then wc ρ μ3 fun z μ4=>R' y z μ4 fun r μ5=>fU r μ5 Q else Q false μ3):=fun i h f=>
 isTrue_chain (ha i h fun i1 g1 r1 h1=>test_link (hb i1 h1 fun i2 g2 r2 h2=>ho i2 ((i1.kp g2).rp r1) r2 h2 fun i3 g3 r3 h3=>by
  obtain⟨t,rfl,rfl,q⟩:=Ey r3 h3;refine m7 ?_;cases t with
  |false=>exact ite_ff (f i3 ((g1.trans g2).trans g3) rfl q)|true=>exact ite_tt (test_last (hc i3 q fun i4 g4 r4 h4=>ho' i4 (((i2.kp (g3.trans g4))).rp r2) r4 h4 fun i5 g5 r5 h5=>by obtain⟨t,rfl,rfl,q⟩:=Ey r5 h5;exact m7 (f i5 ((((g1.trans g2).trans g3).trans g4).trans g5) rfl q))))) hm
theorem pw_and1 (ha:PT X a ta):PW X (.BoolOp .And [a] pos) ta:=fun _=>fun i h f=>isTrue_and (ha i h fun {d u s1 θ1 μ1} i1 g1 r1 h1=>by
 cases r1;cases d with
 |true=>exact isTrue_and_nil (f i1 g1 rfl h1)|false=>exact f i1 g1 rfl h1)
theorem pw_or1 (ha:PT X a ta):PW X (.BoolOp .Or [a] pos) ta:=fun _=>fun i h f=>isTrue_or (ha i h fun {d u s1 θ1 μ1} i1 g1 r1 h1=>by
 cases r1;cases d with
 |false=>exact isTrue_or_nil (f i1 g1 rfl h1)|true=>exact f i1 g1 rfl h1)
theorem pw_and (ha:PT X a ta) (hb:PW X (.BoolOp .And (b::rest) pos) tb):PW X (.BoolOp .And (a::b::rest) pos) (fun ρ μ Q=>ta ρ μ fun t μ1=>if t=true then tb ρ μ1 Q else Q false μ1):=fun wh=>fun i h f=>isTrue_and (ha i h fun {d u s1 θ1 μ1} i1 g1 r1 h1=>by
 cases r1;cases d with
 |true=>exact hb wh i1 h1 (f.mono g1)|false=>exact f i1 g1 rfl h1)
theorem pw_or (ha:PT X a ta) (hb:PW X (.BoolOp .Or (b::rest) pos) tb):PW X (.BoolOp .Or (a::b::rest) pos) (fun ρ μ Q=>ta ρ μ fun t μ1=>if t=true then Q true μ1 else tb ρ μ1 Q):=fun wh=>fun i h f=>isTrue_or (ha i h fun {d u s1 θ1 μ1} i1 g1 r1 h1=>by
 cases r1;cases d with
 |true=>exact f i1 g1 rfl h1|false=>exact hb wh i1 h1 (f.mono g1))
theorem aez {op} (h:PE X a wa):PE X (.BoolOp op [a] pos) wa:=fun i q f=>BoolOp_one (h i q f)
theorem aeD (ha:PE X a wa) (hb:PE X (.BoolOp .And (b::rest) pos) wb):PE X (.BoolOp .And (a::b::rest) pos) (fun ρ μ Q=>wa ρ μ fun x μ1=>fU x μ1 fun t μ2=>if t=true then wb ρ μ2 Q else Q (.bl false) μ2):=fun i h f=>
 BoolOp_and (ha i h fun {d u s1 θ1 μ1} i1 g1 r1 h1=>by
  obtain⟨t,rfl,rfl,q⟩:=Ey r1 h1;refine m7 ?_;cases t with
  |true=>exact hb i1 q (f.mono g1)|false=>exact f (d:=.bl false) i1 g1 rfl q)
theorem ah0 (ha:PE X a wa) (hb:PE X (.BoolOp .Or (b::rest) pos) wb):PE X (.BoolOp .Or (a::b::rest) pos) (fun ρ μ Q=>wa ρ μ fun x μ1=>fU x μ1 fun t μ2=>if t=true then Q (.bl true) μ2 else wb ρ μ2 Q):=fun i h f=>
 BoolOp_or (ha i h fun {d u s1 θ1 μ1} i1 g1 r1 h1=>by
  obtain⟨t,rfl,rfl,q⟩:=Ey r1 h1;refine m7 ?_;cases t with
  |true=>exact f (d:=.bl true) i1 g1 rfl q|false=>exact hb i1 q (f.mono g1))
theorem aeA (ht:PT X t ta) (ha:PE X a wa) (hb:PE X b wb):PE X (.IfExp t a b pos) (fun ρ μ Q=>ta ρ μ fun t μ1=>if t=true then wa ρ μ1 Q else wb ρ μ1 Q):=fun i h f=>
 wpAny_IfExp (ht i h fun {d u s1 θ1 μ1} i1 g1 r1 h1=>by
  cases r1;cases d with
  |true=>exact ha i1 h1 (f.mono g1)|false=>exact hb i1 h1 (f.mono g1))
theorem ajM {q:Const} {j} (h:mC q d=true):PE X (.Constant q j pos) (wE (.cst d)):=fun {s ρ θ μ Qd Q E} i w f=>by
 have w:Qd d μ:=by simpa only[wE]using w
 cases q<;>cases d<;>simp only[mC,bZ,bL,beq_iff_eq]at h
 .exact Constant_none (f.at i Bv w)
 .subst h;exact Constant_bool (f.at i Rz w)
 .subst h;exact wpAny_Constant_int (f.tok i iJ w)
 .rename_i x y
  obtain⟨h1,h2⟩:=h;have h1:=of_decide_eq_true h1;have h2:=of_decide_eq_true h2;subst h1;exact ada (f.tok i (show Rp _ _ _ (.str _) _ from⟨⟨_,rfl⟩,by rw[cY];exact h2⟩) w)
theorem ajB {k} (h:Ar X as ws):PE X (.Tuple as k pos) (fun ρ μ Q=>ws ρ μ fun ds μ1=>ds.length<=lim/\Q (.tup ds) μ1):=fun i q f=>by
 refine wpAny_Tuple_spliced (h.pa pos i q fun {d u s1 θ1 μ1} i1 g1 r1 h1=>?_);have l:u.length<=sizeLine:=by rw[r1.length,cY];exact h1.1
 exact⟨l,Fn.sq (j:=0) (f.mono g1) i1 cZ (aB _) (qI _ l).2 r1 h1.2⟩
theorem ajF {m:Bool} (h:Ar X as ws):PE X (.List as pos) (fun ρ μ Q=>ws ρ μ fun ds μ1=>ds.length<=lim/\newL m ds μ1 Q):=fun i q f=>by
 refine wpAny_List_spliced (h.pa pos i q fun {d u s1 θ1 μ1} i1 g1 r1 h1=>?_);have l:u.length<=sizeLine:=by rw[r1.length,cY];exact h1.1
 exact⟨l,Fn.newL (f.mono g1) i1 cZ (aB _) (qI _ l).1 r1 h1.2⟩
end
end DW
namespace DW
open PySem PySem.Spec PyProof.Rows
open L2 (aN Key frs vC Loc Look Mod sG cT)
section
variable {X:Cx} {ρ:dD} {θ θ':Th} {μ μ':Mem} {s s1 s':aj} {k n:Nat} {ds:List D} {Qd:QD} {Q XE:Value->aj->Prop} {x y z:Str} {p p2 pos apos:Pos} {a b c e o t:Expr} {as es rest:List Expr} {wa wb wc wo:WE} {ta tb:WT} {ws:WA} {d:D} {u v:Value} {id T m:String} {w:List D->Mem->QD->Prop}
theorem agW (hg:Gl X x) (hm:X.T.mg x=some u) (r:∀ h θ μ,Rp h θ μ d u) (hdb:(x==("__debug__":Str))=false):PE X (.Name x pos) (wE (.gbl x d)):=fun {s ρ θ μ Qd Q E} i q f=>vm i hg hm hdb (f.at i (r _ _ _) (by simpa only[wE]using q))
theorem nF (hv:Cm x=some (.builtin id)) (hn:x≠"__name__") (hdb:(x==("__debug__":Str))=false) (ho:ZV X (fun us=>call (.builtin id) us) w) (hg:Gl X x) (hm:X.T.mg x=none) (ha:Ar X as ws):
  PE X (.Call (.Name x p) as [] pos) (fun ρ μ Q=>ws ρ μ fun ds μ1=>w ds μ1 Q):=fun i h f=>
 Cz (uF i hg hm hv hn hdb (ail (first:=[]) ha i h fun i1 g1 r1 h1=>ho i1 r1 h1 (f.mono g1)))
theorem zL (hv:Cm x=some (.type T)) (hn:x≠"__name__") (hdb:(x==("__debug__":Str))=false) (ho:ZV X (fun us=>call (.type T) us) w) (hg:Gl X x) (hm:X.T.mg x=none) (ha:Ar X (e::es) ws):
  PE X (.Call (.Name x p) (e::es) [] pos) (fun ρ μ Q=>ws ρ μ fun ds μ1=>w ds μ1 Q):=fun i h f=>
 Cz (uF i hg hm hv hn hdb (Pr (ha.pa pos i h fun i1 g1 r1 h1=>ho i1 r1 h1 (f.mono g1)) (ha.st rfl) ha.akI))
theorem ahd (K:bV):∀ a∈["NoneType","bool","int","str","tuple","list","dict"],∀ b∈["int","bool","str","tuple","list","dict"],acp K (.type a) (.type b)=some (Kv a b):=by intro a ha b hb;simp only[bC,tL,or_false]at ha hb;rcases ha with rfl|rfl|rfl|rfl|rfl|rfl|rfl<;>rcases hb with rfl|rfl|rfl|rfl|rfl|rfl<;>first|rfl|decide
theorem afR:∀ b∈["int","bool","str","tuple","list","dict"],Cm (aF b)=some (.type b)/\aF b≠"__name__"/\(aF b==("__debug__":Str))=false:=by intro b hb;simp only[bC,tL,or_false]at hb;rcases hb with rfl|rfl|rfl|rfl|rfl|rfl<;>exact⟨by decide+kernel,by decide+kernel,by decide+kernel⟩
theorem afb {c:Value} {r:Bool} {A:aP} (i:Iv X ρ θ μ s) (rd:Rp s.heap θ μ d u) (e:tyOf μ d=some T) (hk:acp X.T.K (.type T) c=some r) (h:∀ tk,Q (.bool r) {s with toks:=tk}):ao X.M A (call (.builtin "isinstance") [u,c]) Q XE s:=by
 cases d with
 |non=>cases(show u=iR from rd);cases e;exact qY PySem.W.kitx_none i.Fq Hz hk (fun z=>nomatch z) h
 |bl y=>cases(show u=gM y from rd);cases e;exact qY PySem.W.kitx_bool i.Fq Hz hk (fun z=>nomatch z) h
 |int j=>obtain⟨t,q⟩:=rd;cases q;cases e;exact qY PySem.W.kitx_int i.Fq Hz hk (fun z=>nomatch z) h
 |str y=>obtain⟨⟨t,q⟩,_⟩:=rd;cases q;cases e;exact qY PySem.W.kitx_str i.Fq Hz hk (fun z=>nomatch z) h
 |tup ds=>obtain⟨a,us,rfl,⟨_,o,n,h1,h2,_⟩,_⟩:=rd;cases e;exact qY PySem.W.kitx_tuple i.Fq ⟨o,h1,h2⟩ hk (fun z=>nomatch z) h
 |lst ds=>obtain⟨a,us,rfl,⟨_,n,h1⟩,_⟩:=rd;cases e;exact qY acX i.Fq ⟨_,h1,rfl⟩ hk (fun z=>nomatch z) h
 |loc n=>
  obtain⟨p,rfl,hp⟩:=rd;simp only[tyOf]at e;split at e
  .rename_i es hn
   obtain⟨us,⟨_,n,h1⟩,_⟩:=i.dG.cell _ _ p hn hp;cases e;exact qY acX i.Fq ⟨_,h1,rfl⟩ hk (fun z=>nomatch z) h
  .rename_i ks es hn
   obtain⟨⟨_,⟨o,_,_,h1,x,_⟩,_⟩,_⟩:=i.dG.cell _ _ p hn hp;cases e;exact qY acW i.Fq ⟨o,h1,x.1⟩ hk (fun z=>nomatch z) h
  .rename_i ks es hn
   obtain⟨⟨_,⟨o,_,_,h1,x,_⟩,_⟩,_⟩:=i.dG.cell _ _ p hn hp;cases e;exact qY acW i.Fq ⟨o,h1,x.1⟩ hk (fun z=>nomatch z) h
  .cases e
 |ro _=>cases e
 |_=>exact rd.elim
theorem agV (ha:PE X a wa) (ht:T∈["int","bool","str","tuple","list","dict"]) (g1:Gl X (aF "isinstance")) (g2:Gl X (aF T)) (m1:X.T.mg (aF "isinstance")=none) (m2:X.T.mg (aF T)=none)
  (hs:eV [a,.Name (aF T) p2] X.env=(false,eval a X.env)::eV [.Name (aF T) p2] X.env):PE X (.Call (.Name (aF "isinstance") p) [a,.Name (aF T) p2] [] pos) (fun ρ μ Q=>wa ρ μ fun d μ1=>sH T d μ1 Q):=fun {s ρ θ μ Qd Q E} i h f=>by
 obtain⟨b1,b2,b3⟩:=afR T ht;refine Cz (uF (u:=.builtin "isinstance") i g1 m1 (by decide+kernel) (by decide+kernel) (by decide+kernel) (ajm ?_ hs rfl));rw[hs];refine CG (ha i h fun {d u s1 θ1 μ1} i1 g1 r1 h1=>?_);refine CG (uF i1 g2 m2 b1 b2 b3 (Ik ?_));unfold sH at h1;split at h1
 .rename_i ty e
  have hty:ty∈["NoneType","bool","int","str","tuple","list","dict"]:=(ahY i1.dG r1 e).1;exact afb i1 r1 e (ahd _ _ hty _ ht) fun tk=>f (d:=.bl (Kv ty T)) (Iv.tok i1) (g1.trans (cV fun _ _ e=>e)) rfl h1
 .exact h1.elim
theorem ajJ {dc:Addr} (hg:Gl X x) (hm:X.T.mg x=some (.ref dc)) (hd:JD X.T.K dc=true) (ha:PE X a wa) (hdb:(x==("__debug__":Str))=false):
  PE X (.Compare a [.In] [.Name x p] pos) (fun ρ μ Q=>wa ρ μ fun d μ1=>Uh ((qx X.T.K dc).map fun p=>p.1.cps.toList) d μ1 Q)/\PT X (.Compare a [.In] [.Name x p] pos) (fun ρ μ Q=>wa ρ μ fun d μ1=>Uh ((qx X.T.K dc).map fun p=>p.1.cps.toList) d μ1 fun r μ2=>fU r μ2 Q):=by
 refine⟨fun i h f=>wpAny_Compare1 (ha i h fun {d u s1 θ1 μ1} i1 g1 r1 h1=>vm i1 hg hm hdb ?_) rfl,fun i h f=>adK (ha i h fun {d u s1 θ1 μ1} i1 g1 r1 h1=>vm i1 hg hm hdb ?_) rfl⟩
 .unfold Uh at h1
  split at h1
  .obtain⟨⟨tk,rfl⟩,_⟩:=r1
   refine abF (Gn hd i1.Fq) ?_;rw[rC];exact f (d:=.bl _) (Iv.tok i1) (g1.trans (cV fun _ _ e=>e)) rfl h1
  .exact h1.elim
 .unfold Uh at h1
  split at h1
  .obtain⟨⟨tk,rfl⟩,_⟩:=r1
   refine abF (Gn hd i1.Fq) ?_;rw[rC];exact m7 (f (Iv.tok i1) (g1.trans (cV fun _ _ e=>e)) rfl h1)
  .exact h1.elim
theorem wu {wm:D->List D->Mem->QD->Prop} {W:Mem->D->Prop} (pa:PlainAttrs T) (slot:Slot T (aF m) id) (hty:typeOf (.builtin id)=pure (.type "method_descriptor")) (hm:Mt X id wm) (hW:∀ {μ d},W μ d->tyOf μ d=some T)
  (ho:PE X o wo) (hbs:mL o=true) (ha:Ar X as ws) (hline:(apos.endLine==pos.line)=true) (h30:as.length<30):
  PE X (.Call (.Attribute o (aF m) apos) as [] pos) (fun ρ μ Q=>wo ρ μ fun x μ1=>W μ1 x/\ws ρ μ1 fun ds μ2=>wm x ds μ2 Q):=fun i h f=>by
 refine wpAny_Call_method_late (QS hbs) (ha.few h30) hline rfl (ho i h fun {d u s1 θ1 μ1} i1 g1 r1 h1=>?_);obtain⟨_,k1,k2⟩:=ahY i1.dG r1 (hW h1.1);exact⟨T,id,pa,slot,hty,k1,k2,ail (first:=[u]) ha i1 h1.2 fun i2 g2 r2 h2=>hm i2 ((i1.kp g2).rp r1) r2 h2 (f.mono (g1.trans g2))⟩
theorem ty_cell (h:isCell μ d=true):tyOf μ d=some "list":=by
 cases d with
 |loc n=>
  simp only[isCell]at h;split at h
  .rename_i e;simp only[tyOf,e]
  .cases h
 |_=>cases h
theorem ahZ (h:Sx μ d=true):tyOf μ d=some "list":=by
 cases d with
 |lst _=>rfl|loc n=>
  simp only[Sx]at h;split at h
  .rename_i e;simp only[tyOf,e]
  .cases h
 |_=>cases h
theorem YJ (h:alo d=true):tyOf μ d=some "str":=by
 cases d with
 |str _=>rfl|_=>cases h
theorem agU (hmm:m="append"∨m="insert"∨m="extend"∨m="pop") (ho:PE X o wo) (hbs:mL o=true) (ha:Ar X as ws) (hline:(apos.endLine==pos.line)=true) (h30:as.length<30):
  PE X (.Call (.Attribute o (aF m) apos) as [] pos) (fun ρ μ Q=>wo ρ μ fun x μ1=>isCell μ1 x=true/\ws ρ μ1 fun ds μ2=>dj m x ds μ2 Q):=by
 rcases hmm with rfl|rfl|rfl|rfl
 .exact wu CQ V5 PySem.F.type_list_append aar ty_cell ho hbs ha hline h30
 .exact wu CQ acj PySem.F.type_list_insert aap ty_cell ho hbs ha hline h30
 .exact wu CQ V4 PySem.F.type_list_extend aaq ty_cell ho hbs ha hline h30
 .exact wu CQ Vx PySem.F.type_list_pop ajU ty_cell ho hbs ha hline h30
end
end DW
namespace DW
open PySem PySem.Spec PyProof.Rows
open L2 (aN Key frs vC Loc Look Mod sG cT)
section
variable {h:aq} {θ:Th} {μ:Mem} {d:D} {ds:List D} {v:Value}
theorem Y0 {β κ κ':Type} [DecidableEq κ] [DecidableEq κ'] {f:κ->κ'} (inj:∀ a b,f a=f b->a=b) {key:β->κ'} {val:β->Value} {k:κ} {up:β->β} {new:β} (hk:∀ x,key (up x)=key x) (hv:∀ x,val (up x)=if key x=f k then v else val x) (nk:key new=f k) (nv:val new=v) (rv:Rp h θ μ d v):
  ∀ {ks:List κ} {ds:List D} {l:List β},l.map key=ks.map f->c7 h θ μ ds (l.map val)->(if k∈ks then l.map up else l++[new]).map key=(iI ks k).map f/\c7 h θ μ (lH ks ds k d) ((if k∈ks then l.map up else l++[new]).map val):=by
 intro ks ds l e r;unfold iI lH;by_cases c:k∈ks
 .rw[if_pos c,if_pos c,if_pos c]
  refine⟨by rw[<-e,oG];exact Im fun x _=>hk x,?_⟩;clear c;induction l generalizing ks ds with
  |nil=>cases(show ks=[] by simpa using e);rw[aV,aV,List.zipWith_nil_left];exact .nil
  |cons x l ih=>
   cases ks with
   |nil=>simp at e|cons c ks=>
    simp only[aX,mJ]at e;cases ds with
    |nil=>simp[c7]at r|cons d' ds=>
     obtain⟨u,us,q,r1,r2⟩:=r;simp only[aX,mJ]at q;obtain⟨rfl,rfl⟩:=q;rw[aX,aX,adS];refine .cons ?_ (ih e.2 r2);rw[hv];by_cases z:c=k
     .rw[if_pos z,if_pos (by rw[e.1,z])];exact rv
     .rw[if_neg z,if_neg fun y=>z (inj _ _ (e.1.symm.trans y))];exact r1
 .rw[if_neg c,if_neg c,if_neg c]
  refine⟨by rw[mH,mH,e,ac9,ac9,nk],?_⟩;rw[mH];exact r.append (.one (by rw[nv];exact rv))
theorem QM {β κ κ':Type} [DecidableEq κ] [DecidableEq κ'] {f:κ->κ'} (inj:∀ a b,f a=f b->a=b) {key:β->κ'} {k:κ}:∀ {ks:List κ} {l:List β},l.map key=ks.map f->((l.any fun x=>decide (key x=f k))=true<->k∈ks):=by
 intro ks l e;rw[Wu];have:(∃ x∈l,key x=f k)<->f k∈l.map key:=by rw[jQ]
 simp only[decide_eq_true_eq];rw[this,e,jQ];exact⟨fun⟨a,h1,h2⟩=>inj _ _ h2▸h1,fun z=>⟨k,z,rfl⟩⟩
end
section
variable {κ κ':Type} [DecidableEq κ] [DecidableEq κ'] {f:κ->κ'} {ks:List κ} {k:κ} {w:Value} {b:Addr}
theorem Z9 (inj:∀ a b,f a=f b->a=b) {kvs:List (κ'×Value)} (hk:kvs.map (·.1)=ks.map f):Hq kvs (f k) w=if k∈ks then kvs.map (fun kv=>if kv.1=f k then(kv.1,w)else kv)else kvs++[(f k,w)]:=by
 unfold Hq;by_cases c:k∈ks
 .rw[if_pos c,if_pos ((QM inj hk).mpr c)]
 .rw[if_neg c,if_neg fun y=>c ((QM inj hk).mp y)]
theorem UW (inj:∀ a b,f a=f b->a=b) {xs:List (κ'×Addr×Value)} (hk:xs.map (·.1)=ks.map f):storedH xs (f k) b w=if k∈ks then xs.map (wZ (f k) w)else xs++[(f k,b,w)]:=by
 have c2:(atKey xs (f k)).isSome=true<->k∈ks:=by rw[<-QM inj hk];unfold atKey;rw[WK,List.find?_isSome,Wu]
 unfold storedH;by_cases c:k∈ks
 .rw[if_pos c,if_pos (c2.mpr c)]
 .rw[if_neg c,if_neg fun y=>c (c2.mp y)]
theorem agE {h:aq} {θ:Th} {μ:Mem} {g:κ->D} {xs:List (κ'×Addr×Value)} (ht:c7 h θ μ (ks.map g) (xs.map fun x=>.ref x.2.1)) (hb:Rp h θ μ (g k) (.ref b)):c7 h θ μ ((iI ks k).map g) ((if k∈ks then xs.map (wZ (f k) w)else xs++[(f k,b,w)]).map fun x=>.ref x.2.1):=by
 unfold iI;by_cases c:k∈ks
 .rw[if_pos c,if_pos c,oG,show((fun x:κ'×Addr×Value=>o7 x.2.1) ∘ wZ (f k) w)=fun x=>o7 x.2.1 from funext fun x=>by simp only[Function.comp];unfold wZ;split<;>rfl]
  exact ht
 .rw[if_neg c,if_neg c,mH,mH]
  exact ht.append (.one hb)
theorem RX:(iI ks k).length<=ks.length+1:=by unfold iI;split<;>simp
end
section
variable {X:Cx} {ρ:dD} {θ θ':Th} {μ μ':Mem} {s s1 s':aj} {n:Nat} {ds:List D} {Qd:QD} {Q XE:Value->aj->Prop} {p p2 pos:Pos} {a b o:Expr} {wa wb we wo wi:WE} {d x y z:D} {u v w:Value} {A:aP} {K:Mem->Prop}
theorem Iv.big (i:Iv X ρ θ μ s):qU<s.heap.objs.size:=HN (by decide) (show aQ<s.heap.objs.size from(i.e.mod.glob.keeps i.e.bk).lt)
theorem ZK {t:Bool} (i:Iv X ρ θ μ s):Iv X ρ (θ.snoc (s.heap.objs.size,s.heap.objs.size)) (μ++[if t=true then .Fx [] []else .jN [] []]) {s with heap:=s.heap.push {cls:=.type "dict",data:=.dict #[]}}/\
  G0 X θ μ s (θ.snoc (s.heap.objs.size,s.heap.objs.size)) (μ++[if t=true then .Fx [] []else .jN [] []]) {s with heap:=s.heap.push {cls:=.type "dict",data:=.dict #[]}}:=by
 have e:=iH s.heap (o:={cls:=.type "dict",data:=.dict #[]}) rfl;have hb:(s.heap.objs.size==qU)=false:=beq_eq_false_iff_ne.mpr (bK (jk i.big));refine i.new (p:=(s.heap.objs.size,s.heap.objs.size)) (tk:=s.toks) cZ (aB _) (aB _) (fun a z=>⟨_,by rcases z with rfl|rfl<;>exact e⟩) ?_;cases t with
 |true=>exact⟨⟨[],⟨_,#[],0,e,⟨rfl,rfl,rfl⟩,rfl,rfl,Wd⟩,ju _,hb,.nil,rfl,.nil⟩,rfl⟩|false=>exact⟨⟨[],ai7 s.heap,ju _,hb,rfl,.nil⟩,rfl⟩
theorem agX {t:Bool}:PE X (.Dict [] [] pos) (wE (.aaP t)):=fun {s ρ θ μ Qd Q E} i h f=>by obtain⟨i',g⟩:=ZK (t:=t) i;simp only[wE]at h;exact wpAny_Dict_empty (f (d:=.loc μ.length) i' g ⟨(s.heap.objs.size,s.heap.objs.size),rfl,by rw[<-i.dG.len];simp[Th.snoc]⟩ h)
theorem afG (hu:A.units+1<cLine) (i:Iv X ρ θ μ s) (rx:Rp s.heap θ μ x u) (ry:Rp s.heap θ μ y v) (h:KZ x y μ Qd) (f:Fin X ρ θ μ s Qd Q):s.TypeIs u "dict"/\ao X.M A (iM u v) Q XE s:=by
 have kk:∀ {p ks ds k d},Uc X.T s.heap θ μ p ks ds->yu y=some k->eH ks ds k=some d->Qd d μ->s.TypeIs (.ref p) "dict"/\ao X.M A (iM (.ref p) v) Q XE s:=fun {p ks ds k d} c ek el q=>by
  obtain⟨kvs,hd,_,_,hk,r⟩:=c;obtain⟨x,e,rd⟩:=(Av keyOf (fun _ _=>mV) (·.1) (·.2) ks ds kvs k hk r).1 _ el
  exact⟨hd.typeIs,wpAny_getItem_of (key_is ek ry) hd.mapOf (show Ng kvs (keyOf k)=some x.2 by unfold Ng;rw[e];rfl) (f.tok i rd q)⟩
 have tt:∀ {p ks ds es k d},J9 X.T s.heap θ μ p ks ds->y= .tup es->jF es=some k->eH ks ds k=some d->Qd d μ->s.TypeIs (.ref p) "dict"/\ao X.M A (iM (.ref p) v) Q XE s:=fun {p ks ds es k d} c ey ek el q=>by
  subst ey;obtain⟨b,us,rfl,_⟩:=id ry;obtain⟨xs,hd,_,_,_,hk,r⟩:=c.of;obtain⟨x,e,rd⟩:=(Av (fun k:List iU=>k.map keyOf) (fun _ _=>rm) (·.1) (·.2.2) ks ds xs k hk r).1 _ el
  exact⟨hd.typeIs,wpAny_getItem_heap (p:=x.2) (OJ hu) (yW ek ry) hd (show atKey xs (k.map keyOf)=some x.2 by unfold atKey;rw[e];rfl) (f.tok i rd q)⟩
 unfold KZ at h;split at h
 .rename_i n
  obtain⟨p,rfl,hp⟩:=rx;split at h
  .rename_i ks ds hn
   split at h
   .rename_i k ek
    split at h
    .rename_i d el;exact kk (i.dG.cell n _ p hn hp).1 ek el h
    .exact h.elim
   .exact h.elim
  .rename_i ks ds hn
   split at h
   .split at h
    .rename_i k ek
     split at h
     .rename_i d el;exact tt (i.dG.cell n _ p hn hp).1 rfl ek el h
     .exact h.elim
    .exact h.elim
   .exact h.elim
  .exact h.elim
 .exact h.elim
theorem agY (hu:X.A.units+1<cLine) (ho:PE X o wo) (hi:PE X b wi) (hs:Bg b):PE X (.Subscript o b pos) (fun ρ μ Q=>wo ρ μ fun x μ1=>wi ρ μ1 fun y μ2=>KZ x y μ2 Q):=fun i h f=>L2.YM Oa.lookup hs (ho i h fun i1 g1 r1 h1=>hi i1 h1 fun i2 g2 r2 h2=>afG hu i2 ((i1.kp g2).rp r1) r2 h2 (f.mono (g1.trans g2)))
theorem afC {R:Unit->aj->Prop} (hu:A.units+1<cLine) (i:Iv X ρ θ μ s) (rx:Rp s.heap θ μ x u) (ry:Rp s.heap θ μ y v) (rz:Rp s.heap θ μ z w) (h:Gx x y z μ K)
  (f:∀ {s' μ'},Iv X ρ θ μ' s'->G0 X θ μ s θ μ' s'->K μ'->R () s'):ao X.M A (Hv u v w) R XE s:=by
 unfold Gx at h;split at h
 .rename_i n
  obtain⟨p,rfl,hp⟩:=rx;split at h
  .rename_i ks ds hn
   obtain⟨⟨kvs,hd,l,hs,hk,r⟩,h2⟩:=i.dG.cell n _ p hn hp;split at h
   .rename_i k ek
    (have hl:kvs.length=ks.length:=by simpa using congrArg dR hk);refine wpAny_setItem_pairs (hsz:=l) (key_is ek ry) hd fun h' dd' sb=>?_;have k':∀ b o,¬(b=p.1∨b=p.2)->s.heap.get? b=some o->h'.get? b=some o:=fun b o z q=>(sb.2 b fun y=>z (.inl y)).trans q;have kp:Kp θ μ s.heap θ (μ.set n (.jN (iI ks k) (lH ks ds k z))) h':=yt hn hp (by simp) k';obtain⟨q1,q2⟩:=Y0 (f:=keyOf) (fun _ _=>mV) (key:=fun kv:Key×Value=>kv.1) (val:=fun kv=>kv.2) (k:=k) (v:=w) (up:=fun kv=>if kv.1=keyOf k then(kv.1,w)else kv) (new:=(keyOf k,w)) (fun x=>by split<;>rfl) (fun x=>by split<;>rfl) rfl rfl (kp.rp rz) hk (kp.Fi r);rw[<-Z9 (fun _ _=>mV) hk]at q1 q2;obtain⟨o',_,_,eo,_⟩:=id dd';obtain⟨i',g⟩:=i.set (c':=.jN (iI ks k) (lH ks ds k z)) (tk:=s.toks+1) hn hp (by simp) rfl k' (fun a z=>⟨o',by rcases z with rfl|rfl<;>first|exact eo|(rw[h2];exact eo)⟩)
     ⟨⟨_,dd',by have e:=congrArg dR q1;simp only[aR]at e;rw[e,cY];exact jR RX h.1,hs,q1,q2⟩,h2⟩
    exact f i' g h.2
   .exact h.elim
  .rename_i ks ds hn
   obtain⟨hx,h2⟩:=i.dG.cell n _ p hn hp;obtain⟨xs,hd,l,hs,ht,hk,r⟩:=hx.of;split at h
   .rename_i es
    split at h
    .rename_i k ek
     obtain⟨b,us,rfl,_⟩:=id ry;(have hl:xs.length=ks.length:=by simpa using congrArg dR hk);refine wpAny_setItem_heap (hsz:=l) (OJ hu) (yW ek ry) hd fun h' dd' sb=>?_;have k':∀ b o,¬(b=p.1∨b=p.2)->s.heap.get? b=some o->h'.get? b=some o:=fun b o z q=>(sb.2 b fun y=>z (.inl y)).trans q;have kp:Kp θ μ s.heap θ (μ.set n (.Fx (iI ks k) (lH ks ds k z))) h':=yt hn hp (by simp) k';obtain⟨q1,q2⟩:=Y0 (f:=fun k:List iU=>k.map keyOf) (fun _ _=>rm) (key:=fun x:List Key×Addr×Value=>x.1) (val:=fun x=>x.2.2) (k:=k) (v:=w) (up:=wZ (k.map keyOf) w) (new:=(k.map keyOf,b,w)) (fun x=>by unfold wZ;split<;>rfl) (fun x=>by unfold wZ;split<;>rfl) rfl rfl (kp.rp rz) hk (kp.Fi r);have q3:=agE (k:=k) (w:=w) (f:=fun k:List iU=>k.map keyOf) (kp.Fi ht) (b:=b) (by rw[ah3 ek]at ry;exact kp.rp ry);rw[<-UW (fun _ _=>rm) hk]at q1 q2 q3;obtain⟨o',es2,ep,eo,e1,e2,e3,_,e5⟩:=dd';obtain⟨i',g⟩:=i.set (c':=.Fx (iI ks k) (lH ks ds k z)) (tk:=s.toks+(Nv (aN X.T.P X.T.w)).draws (k.map keyOf)) hn hp (by simp) rfl k' (fun a z=>⟨o',by rcases z with rfl|rfl<;>first|exact eo|(rw[h2];exact eo)⟩)
      ⟨⟨_,⟨o',es2,ep,eo,e1,e2,e3,e5⟩,by have e:=congrArg dR q1;simp only[aR]at e;rw[e,cY];exact jR RX h.1,hs,q3,q1,q2⟩,h2⟩
     exact f i' g h.2
    .exact h.elim
   .exact h.elim
  .exact h.elim
 .exact h.elim
end
end DW
namespace DW
open PySem PySem.Spec PyProof.Rows
open L2 (aN Key frs vC Loc Look Mod sG cT)
section
variable {X:Cx} {ρ:dD} {θ θ':Th} {μ μ':Mem} {s s1 s':aj} {n:Nat} {ds:List D} {Qd:QD} {Q XE:Value->aj->Prop} {p p1 p2 p3 pos:Pos} {a b o x y z k:Expr} {wa wb we:WE} {d:D} {u v w:Value} {ks:List iU} {keys:List (Option Expr)} {values:List Expr} {ws:WA}
def Ky (P:bN) (w:aO):List iU->List Value->Prop
 |[],vs=>vs=[]|k::ks,vs=>∃ v r,vs=v::r/\(aN P w).is (keyOf k) v=true/\Ky P w ks r
def PPs (X:Cx) (pos:Pos) (keys:List (Option Expr)) (values:List Expr) (ks:List iU) (ws:WA):Prop:=
 ∀ {s:aj} {ρ:dD} {θ:Th} {μ:Mem} {Qa:List D->Mem->Prop} {Q:List (Value×Value)->aj->Prop} {E:Value->aj->Prop},Iv X ρ θ μ s->ws ρ μ Qa->
  (∀ {ds vs s' θ' μ'},Iv X ρ θ' μ' s'->G0 X θ μ s θ' μ' s'->Ky X.T.P X.T.w ks (vs.map (·.1))->c7 s'.heap θ' μ' ds (vs.map (·.2))->Qa ds μ'->Q vs s')->ao X.M X.A (evalPairs (pairTrees keys values X.env pos)) Q E s
theorem Y5:PPs X pos [] [] [] (fun _ μ Q=>Q [] μ):=fun i h f=>pairTrees_nil_walk (f i .refl rfl .nil h)
theorem uf {t:Str} {q:List Nat} {j} (e:t.cps.toList=q) (hv:PE X a wa) (hr:PPs X pos keys values ks ws):PPs X pos (some (.Constant (.str t) j p)::keys) (a::values) (.inr q::ks) (fun ρ μ Q=>wa ρ μ fun d μ1=>ws ρ μ1 fun ds μ2=>Q (d::ds) μ2):=fun i h f=>pairTrees_cons_walk (ada (hv (Iv.tok i) h fun i2 g2 r2 h2=>hr i2 h2 fun i3 g3 r3 r4 h3=>f i3 ((cV fun _ _ e=>e).trans (g2.trans g3)) ⟨_,_,rfl,by subst e;exact L2.El _ _ _ _,r3⟩ (.cons ((i2.kp g3).rp r2) r4) h3))
theorem JZ {P:bN} {w:aO}:∀ {ks:List iU} {vs:List (Value×Value)},Ky P w ks (vs.map (·.1))->∃ rs:List (Key×Value),Carries (aN P w) vs rs/\rs.map (·.1)=ks.map keyOf/\rs.map (·.2)=vs.map (·.2)
 |[],[],_=>⟨[],trivial,rfl,rfl⟩|[],v::vs,h=>by cases(show _::_=[]from h)
 |k::ks,[],⟨_,_,e,_⟩=>by cases e
 |k::ks,v::vs,⟨u,r,e,h1,h2⟩=>by simp only[aX,mJ]at e;obtain⟨rfl,rfl⟩:=e;obtain⟨rs,c,q1,q2⟩:=JZ h2;exact⟨(keyOf k,v.2)::rs,⟨h1,rfl,c⟩,by simp[q1],by simp[q2]⟩
theorem zW {κ:Type} [DecidableEq κ]:∀ {rs acc:List (κ×Value)},((acc++rs).map (·.1)).Nodup->merged acc rs=acc++rs
 |[],acc,_=>by simp[merged]|r::rs,acc,h=>by
  have e:Hq acc r.1 r.2=acc++[r]:=by unfold Hq;rw[if_neg];intro z;obtain⟨x,hx,hk⟩:=Wu.mp z;rw[mH,WD]at h;exact h.2.2 x.1 (List.mem_map_of_mem hx) r.1 (by simp) (of_decide_eq_true hk)
  have:=zW (rs:=rs) (acc:=acc++[r]) (by simpa using h);show merged (Hq acc r.1 r.2) rs=_;rw[e,this];simp
theorem Y7 (hp:PPs X pos keys values ks ws) (hnd:ks.Nodup) (hall:keys.all (·.isSome)=true) (hl:keys.length=values.length) (h0:keys≠[]) (h15:keys.length<=15) (hk:ks.length<=15):
  PE X (.Dict keys values pos) (fun ρ μ Q=>ws ρ (μ++[.jN [] []]) fun ds μ1=>μ1[μ.length]?=some (.jN [] [])/\Q (.loc μ.length) (μ1.set μ.length (.jN ks ds))):=fun {s ρ θ μ Qd Q E} i h f=>by
 obtain⟨i0,g0⟩:=ZK (t:=false) i;refine wpAny_Dict_walk (knd:=aN X.T.P X.T.w) hall hl h0 h15 (hp i0 h fun {ds vs s' θ' μ'} i1 g1 r1 r2 h1=>?_);obtain⟨hc,hq⟩:=h1;have hp':(θ.snoc (s.heap.objs.size,s.heap.objs.size)).cs[μ.length]?=some (s.heap.objs.size,s.heap.objs.size):=by rw[<-i.dG.len];simp[Th.snoc]
 have ha:=g1.pre _ _ hp';obtain⟨⟨kvs,dd,_,hs,hk0,_⟩,_⟩:=i1.dG.cell _ _ _ hc ha;cases(show kvs=[] by simpa using hk0);obtain⟨rs,c,q1,q2⟩:=JZ r1;have em:merged [] rs=rs:=zW (acc:=[]) (by rw[aM,q1];rw[List.nodup_iff_pairwise_ne]at hnd ⊢;exact hnd.map keyOf fun a b n e=>n (mV e))
 refine⟨rs,c,dd,fun h' dd' sb=>?_⟩;rw[em]at dd';have k':∀ b o,¬(b=s.heap.objs.size∨b=s.heap.objs.size)->s'.heap.get? b=some o->h'.get? b=some o:=fun b o z q=>(sb.2 b fun y=>z (.inl y)).trans q;have kp:Kp θ' μ' s'.heap θ' (μ'.set μ.length (.jN ks ds)) h':=yt hc ha (by simp) k';obtain⟨o',_,_,eo,_⟩:=id dd';have hlen:rs.length=ks.length:=by simpa using congrArg dR q1
 obtain⟨i2,g2⟩:=i1.set (c':=.jN ks ds) (tk:=s'.toks+vs.length) hc ha (by simp) rfl k' (fun a z=>⟨o',by rcases z with rfl|rfl<;>exact eo⟩) ⟨⟨rs,dd',by rw[hlen,cY];lia,hs,q1,by rw[q2];exact kp.Fi r2⟩,rfl⟩;exact f (d:=.loc μ.length) i2 ((g0.trans g1).trans g2) ⟨_,rfl,ha⟩ hq
theorem ajK {s1 s2 s3:Str} {k1 k2 k3:List Nat} {j1 j2 j3} (e1:s1.cps.toList=k1) (e2:s2.cps.toList=k2) (e3:s3.cps.toList=k3) (n1:k1≠k2) (n2:k1≠k3) (n3:k2≠k3) (hx:PE X x wa) (hy:PE X y wb) (hz:PE X z we):
  PE X (.Dict [some (.Constant (.str s1) j1 p1),some (.Constant (.str s2) j2 p2),some (.Constant (.str s3) j3 p3)] [x,y,z] pos)
   (fun ρ μ Q=>wa ρ (μ++[.jN [] []]) fun x μ1=>wb ρ μ1 fun y μ2=>we ρ μ2 fun z μ3=>μ3[μ.length]?=some (.jN [] [])/\Q (.loc μ.length) (μ3.set μ.length (.jN [.inr k1,.inr k2,.inr k3] [x,y,z]))):=
 Y7 (uf e1 hx (uf e2 hy (uf e3 hz Y5))) (by simp[n1,n2,n3]) rfl rfl (by simp) (by simp) (by simp)
theorem ajL {s1 s2:Str} {k1 k2:List Nat} {j1 j2} (e1:s1.cps.toList=k1) (e2:s2.cps.toList=k2) (n1:k1≠k2) (hx:PE X x wa) (hy:PE X y wb):
  PE X (.Dict [some (.Constant (.str s1) j1 p1),some (.Constant (.str s2) j2 p2)] [x,y] pos)
   (fun ρ μ Q=>wa ρ (μ++[.jN [] []]) fun x μ1=>wb ρ μ1 fun y μ2=>μ2[μ.length]?=some (.jN [] [])/\Q (.loc μ.length) (μ2.set μ.length (.jN [.inr k1,.inr k2] [x,y]))):=
 Y7 (uf e1 hx (uf e2 hy Y5)) (by simp[n1]) rfl rfl (by simp) (by simp) (by simp)
theorem ajH (ha:PE X a wa):PE X a (fun ρ μ Q=>wa ρ μ fun d μ1=>Q0 d μ1 Q):=fun {s ρ θ μ Qd Q E} i h f=>ha i h fun {d u s1 θ1 μ1} i1 g1 r1 h1=>by
 cases d with
 |loc n=>
  obtain⟨p,rfl,hp⟩:=id r1;simp only[Q0]at h1;split at h1
  .rename_i ds hn
   obtain⟨us,x,r,e2⟩:=i1.dG.cell n _ p hn hp;obtain⟨_,o,eo,_⟩:=x.fix;have kp:Kp θ1 μ1 s1.heap θ1 (μ1.set n .gone) s1.heap:=yt hn hp (by simp) fun _ _ _ q=>q;obtain⟨i2,g2⟩:=i1.set (c':=.gone) (h':=s1.heap) (tk:=s1.toks) hn hp (by simp) rfl (fun _ _ _ q=>q) (fun a z=>⟨o,by rcases z with rfl|rfl<;>first|exact eo|(rw[e2];exact eo)⟩) trivial;exact f (d:=.lst ds) i2 (g1.trans g2) ⟨p.1,us,rfl,x,aaJ i1.dG hn (by simp) hp (.inl rfl),kp.Fi r⟩ h1
  .exact h1.elim
 |_=>exact f i1 g1 r1 h1
end
end DW
namespace DW
open PySem PySem.Spec PyProof.Rows PySem.SeqAt
open L2 (aN Key frs vC Loc Look Mod sG cT)
open PySem.AutoSeq1 (wpAny_loadPart')
theorem Js (a:IsItem h v x) (b:IsItem h v y):x=y:=by
 obtain⟨p,o,t,u,n,rfl,g,_,d⟩:=a;obtain⟨p',o',t',u',n',e,g',_,d'⟩:=b;cases e;rw[g]at g';cases g';rw[d]at d';injection d' with e1 e2;have e3:=congrArg HS e1;simp only[mJ,Value.int.injEq,Value.str.injEq,ab9,and_true]at e3;obtain⟨⟨h1,_⟩,h2,_⟩:=e3;have h2':x.2=y.2:=by simpa using congrArg HS h2
 exact Nr h1 h2'
theorem IsItem.keep (k:∀ b o,h.get? b=some o->h'.get? b=some o) (i:IsItem h v x):IsItem h' v x:=by obtain⟨p,o,t,u,n,e,g,r⟩:=i;exact⟨p,o,t,u,n,e,k _ _ g,r⟩
theorem Zn {x:Itm} {t u:Tok}:SVs [qQ x.1 t,xH ⟨x.2.toArray⟩ u] [.int x.1,.str x.2]:=.cons (.inl ⟨_,_,rfl,rfl⟩) (.cons (.inr ⟨_,_,rfl,rfl⟩) .nil)
theorem aeX (x y:Itm):vL [.int x.1,.str x.2] [.int y.1,.str y.2]=some (iY x y):=by
 unfold iY;by_cases e:x.1=y.1
 .rw[if_pos e]
  by_cases e2:x.2=y.2
  .have:dI x.2 y.2=false:=by rw[e2,Gf];simp
   rw[<-e2]at this;simp[vL,lN,e,<-e2,this]
  .simp[vL,lN,e,e2,PK]
 .rw[if_neg e]
  simp[vL,lN,e,PK]
section
variable {prog:bN} {w:aO} {A:aP} {E:Value->aj->Prop}
theorem aah (hv:IsItem s.heap v x) (hu:IsItem s.heap u y) (hun:A.units<cLine) (h:Q (.bool (iY x y)) s):ao (aU prog w) A (NK .Lt v u) Q E s:=by obtain⟨a,oa,t1,t2,n,rfl,ga,ca,da⟩:=hv;obtain⟨b,ob,t3,t4,m,rfl,gb,cb,db⟩:=hu;exact RT (l:=a) (b:=b) ⟨oa,ga,ca,n,da⟩ ⟨ob,gb,cb,m,db⟩ Zn Zn (aeX x y) hun h
theorem aaO (hv:IsItem s.heap v x) (hu:IsItem s.heap u y) (hun:A.units<cLine):BL A s v u (decide (x=y)):=by
 obtain⟨a,oa,t1,t2,n,rfl,ga,ca,da⟩:=id hv;obtain⟨b,ob,t3,t4,m,rfl,gb,cb,db⟩:=id hu;by_cases e:a=b
 .subst e
  have:=Js hv hu;rw[decide_eq_true this];exact EqAt.same _
 .have rc:=RcAt.tuples (A:=A) (s:=s) (l:=a) (b:=b) (e:=fun j=>match j with|0=>x.1==y.1|_=>decide (x.2=y.2)) ⟨oa,ga,ca,n,da⟩ ⟨ob,gb,cb,m,db⟩ hun (fun j h1 h2=>by
   match j,h1,h2 with
   |0,_,_=>exact adf x.1 t1 y.1 t3|1,_,_=>
    have:=ade (A:=A.in1) (s:=s) ⟨x.2.toArray⟩ t2 ⟨y.2.toArray⟩ t4;have q:((⟨x.2.toArray⟩:Str)==⟨y.2.toArray⟩)=decide (x.2=y.2):=by rw[GR];by_cases z:x.2=y.2<;>simp[z]
    rw[q]at this;exact this)
  have eb:((aY (min (#[qQ x.1 t1,xH ⟨x.2.toArray⟩ t2]:Array Value).size (#[qQ y.1 t3,xH ⟨y.2.toArray⟩ t4]:Array Value).size)).all (fun j=>match j with|0=>x.1==y.1|_=>decide (x.2=y.2))&&(#[qQ x.1 t1,xH ⟨x.2.toArray⟩ t2]:Array Value).size==(#[qQ y.1 t3,xH ⟨y.2.toArray⟩ t4]:Array Value).size)=decide (x=y):=by have:x=y<->x.1=y.1/\x.2=y.2:=⟨fun z=>by rw[z];exact⟨rfl,rfl⟩,fun z=>Nr z.1 z.2⟩;by_cases z1:x.1=y.1<;>by_cases z2:x.2=y.2<;>simp[this,z1,z2,aY,List.range.loop]
  rw[eb]at rc;exact EqAt.of_refs e rc
theorem aeS {I S:Addr} {fp wr:List Addr} {n:Nat} {St:Nat->aq->Prop} {R:xq->aj->Prop} {h0:aq} {vs:List Value} {r:List Itm} (W:Walks prog w A.in1 I fp wr n (fun i v=>vs[i]?=some v) St) (hvr:∀ (i:Nat) (v:Value),vs[i]?=some v->∃ x,r[i]?=some x/\IsItem h0 v x)
  (hun:A.in1.units<cLine) (nS:S∉fp) (old:∀ b o,h0.get? b=some o->b∉wr/\b≠S):
  ∀ (k j:Nat) (s:aj) (best:Value) (c:Nat),j+1+k=n->St (j+1) s.heap->(∃ i,i<=j/\vs[i]?=some best/\i=cJ (ltAt r) j)->
   s.heap.get? S=some {cls:=.type "list",dict:=none,data:=.seq #[best,best] c,slots:=#[]}->(∀ b o,h0.get? b=some o->s.heap.get? b=some o)->
   (∀ v h' tk,vs[cJ (ltAt r) (n -1)]?=some v->(∀ b o,b∉wr->b≠S->s.heap.get? b=some o->h'.get? b=some o)->R (.ok (.ret v)) {s with heap:=h',toks:=tk})->
   ni (aU prog w) A (.builtin "min.loop" ⟨[.ref I,.none,.ref S],[]⟩) R s:=by
 have nSw:S∉wr:=fun z=>nS (W.sub _ z);have nm:(toString "min"++toString ".loop":String)="min.loop":=by decide
 intro k;induction k with
 |zero=>rintro j s best c hn st ⟨i,_,hi,ei⟩ gS _ hR;have ej:j+1=n:=hn;refine vX Wt (by rw[zG xV _];show ao _ A.in1 (xu (.ref S)>>=_) _ _ s;refine au (xO gS rfl (?_:ao _ A.in1 (tryCatch (lV (.ref I)) _>>=_) _ _ s));refine au (qX (W.done s _ _ (by rw[<-ej];exact st) fun h1 tk ke=>?_));have gS1:=ke S _ nSw gS;refine au (m:=Nt S (fun _=>#[])) (tZ gS1 rfl (au (qW (aG ?_))));exact hR best _ tk (by rw[<-ej,Nat.add_sub_cancel,<-ei];exact hi) fun b o nb nbS e=>(m8 _ _ (bK nbS)).trans (ke b o nb e))|succ k ih=>
  rintro j s best c hn st ⟨i,il,hi,ei⟩ gS kp hR;refine vX Wt (by
   rw[zG xV _];show ao _ A.in1 (xu (.ref S)>>=_) _ _ s;refine au (xO gS rfl (?_:ao _ A.in1 (tryCatch (lV (.ref I)) _>>=_) _ _ s));refine au (qX (W.item (j+1) s _ _ (by lia) st fun v h1 tk hv st1 ke=>?_));have gS1:=ke S _ nSw gS;have kp1:∀ b o,h0.get? b=some o->h1.get? b=some o:=fun b o e=>ke b o (old b o e).1 (kp b o e);obtain⟨x,hx,ix⟩:=hvr _ _ hv;obtain⟨y,hy,iy⟩:=hvr _ _ hi;(have lb:iY x y=ltAt r (j+1) (cJ (ltAt r) j):=by rw[<-ei];simp[ltAt,hx,hy]);refine au (m:=tryCatch (tR [v,v] (NK .Lt v best>>=_)) _) (qX (pQ (au (aah (ix.keep kp1) (iy.keep kp1) hun ?_))));refine au (pQ (m7 (au (qW (aG ?_)))));rw[lb];cases hb:ltAt r (j+1) (cJ (ltAt r) j) with
   |true=>
    simp only[if_true];refine au (tZ gS1 rfl (au (qW ?_)));rw[nm];refine aG ⟨o8 xV _,ih (j+1) _ v _ (by lia) (W.frame _ _ _ st1 fun b bf o e=>?_) ⟨j+1,aB _,hv,by simp only[cJ,hb,if_true]⟩ (Hj _ gS1 rfl) (fun b o e=>?_) fun v' h2 tk2 q ke2=>?_⟩
    .exact(m8 _ _ (fun z:S=b=>nS (by rw[z];exact bf))).trans e
    .exact(m8 _ _ (bK (old b o e).2)).trans (kp1 b o e)
    .exact hR v' h2 tk2 q fun b o nb nbS e=>ke2 b o nb nbS ((m8 _ _ (bK nbS)).trans (ke b o nb e))
   |false=>simp only[bZ,if_false];refine au (qW ?_);rw[nm];refine aG ⟨o8 xV _,ih (j+1) _ best c (by lia) st1 ⟨i,by lia,hi,by simp only[cJ,hb,bZ,if_false];exact ei⟩ gS1 kp1 fun v' h2 tk2 q ke2=>?_⟩;exact hR v' h2 tk2 q fun b o nb nbS e=>ke2 b o nb nbS (ke b o nb e))
theorem aat {I S:Addr} {fp wr:List Addr} {n:Nat} {St:Nat->aq->Prop} {R:xq->aj->Prop} {h0:aq} {vs:List Value} {r:List Itm} (W:Walks prog w A.in1 I fp wr n (fun i v=>vs[i]?=some v) St) (hvr:∀ (i:Nat) (v:Value),vs[i]?=some v->∃ x,r[i]?=some x/\IsItem h0 v x)
  (hun:A.in1.units<cLine) (nS:S∉fp) (old:∀ b o,h0.get? b=some o->b∉wr/\b≠S) (hn:0<n) {s:aj} {c:Nat} (st:St 0 s.heap) (gS:s.heap.get? S=some {cls:=.type "list",dict:=none,data:=.seq #[] c,slots:=#[]}) (kp:∀ b o,h0.get? b=some o->s.heap.get? b=some o)
  (hR:∀ v h' tk,vs[cJ (ltAt r) (n -1)]?=some v->(∀ b o,b∉wr->b≠S->s.heap.get? b=some o->h'.get? b=some o)->R (.ok (.ret v)) {s with heap:=h',toks:=tk}):
  ni (aU prog w) A (.builtin "min.loop" ⟨[.ref I,.none,.ref S],[]⟩) R s:=by
 have nSw:S∉wr:=fun z=>nS (W.sub _ z);have nm:(toString "min"++toString ".loop":String)="min.loop":=by decide
 refine vX Wt (by
  rw[zG xV _];show ao _ A.in1 (xu (.ref S)>>=_) _ _ s;refine au (xO gS rfl (?_:ao _ A.in1 (tryCatch (lV (.ref I)) _>>=_) _ _ s));refine au (qX (W.item 0 s _ _ hn st fun v h1 tk hv st1 ke=>?_));have gS1:=ke S _ nSw gS;refine au (m:=Nt S (fun _=>#[v,v])) (tZ gS1 rfl ?_);rw[nm];refine aG ⟨o8 xV _,aeS W hvr hun nS old (n -1) 0 _ v _ (by lia) (W.frame _ _ _ st1 fun b bf o e=>?_) ⟨0,aB _,hv,rfl⟩ (Hj _ gS1 rfl) (fun b o e=>?_) fun v' h2 tk2 q ke2=>?_⟩
  .exact(m8 _ _ (fun z:S=b=>nS (by rw[z];exact bf))).trans e
  .exact(m8 _ _ (bK (old b o e).2)).trans (ke b o (old b o e).1 (kp b o e))
  .exact hR v' h2 tk2 q fun b o nb nbS e=>ke2 b o nb nbS ((m8 _ _ (bK nbS)).trans (ke b o nb e)))
theorem aas {l:Addr} {vs:List Value} {r:List Itm} {s:aj} {Q:Value->aj->Prop} (hh:A.handled=none) (hl:s.heap.IsList l vs.toArray) (hvr:∀ (i:Nat) (v:Value),vs[i]?=some v->∃ x,r[i]?=some x/\IsItem s.heap v x) (hn:0<vs.length) (hun:A.in1.units<cLine)
  (h:∀ v h' tk,vs[cJ (ltAt r) (vs.length -1)]?=some v->(∀ b o,s.heap.get? b=some o->h'.get? b=some o)->Q v {s with heap:=h',toks:=tk}):ao (aU prog w) A (call (.builtin "min") [.ref l]) Q E s:=by
 have nm:(toString "min"++toString ".loop":String)="min.loop":=by decide
 have hlt:l<s.heap.objs.size:=by obtain⟨o,e,_⟩:=hl;exact eZ e
 refine call_function_tree F.kind_min F.plain_min F.entry_min (F.args_min1 _) ?_;refine au (m:=Pq "min" ["key","default"] 0 ⟨[],[]⟩) (VB (show Pq "min" ["key","default"] 0 ⟨[],[]⟩=pure [none,none]from rfl) (au (aG ?_)));refine au (Ox hl ?_);have W:=Vp (prog:=prog) (w:=w) (A:=A.in1) hh s.heap.objs.size l (jk hlt) vs.toArray;refine au (wj ?_);rw[nm];have z1:(s.heap.push {cls:=.type "list_iterator",data:=.fields #[.ref l,.int 0 0]}).objs.size=s.heap.objs.size+1:=xP ..;have st0:(s.heap.push {cls:=.type "list_iterator",data:=.fields #[.ref l,.int 0 0]}).IsListIter s.heap.objs.size l 0/\(s.heap.push {cls:=.type "list_iterator",data:=.fields #[.ref l,.int 0 0]}).IsList l vs.toArray:=⟨⟨_,iH _ rfl,rfl,rfl⟩,hl.push _⟩;refine aG ⟨o8 xV _,aat (h0:=s.heap) (vs:=vs) (r:=r) (n:=vs.length) (by simpa using W) hvr hun ?_ ?_ hn (by simpa using W.frame _ _ _ st0 fun b _ o e=>eG _ e) (iH _ rfl) ?_ fun v h' tk q ke=>?_⟩
 .intro z
  rw[z1]at z;rcases bC.mp z with z|z
  .exact absurd z (acF _)
  .have z:=cG.mp z
   exact Nat.not_lt.mpr (xJ s.heap.objs.size) (by rw[<-z]at hlt;exact hlt)
 .intro b o e
  have:=eZ e;rw[z1];exact⟨fun z=>by rw[cG.mp z]at this;exact mG _ this,jk (Cw this)⟩
 .exact fun b o e=>eG _ (eG _ e)
 .refine h v h' tk q fun b o e=>ke b o ?_ ?_ (eG _ (eG _ e))
  .intro z;have q:=eZ e;rw[cG.mp z]at q;exact mG _ q
  .rw[z1];exact jk (Cw (eZ e))
end
theorem abS (l:Addr) (its:Array Value) (n:Nat) (x:Value) (p:Value->Bool) (j:Nat) (hj:j<its.size) (yes:p its[j]=true) (hz:its.size<=sizeLine):
  ∀ k i:Nat,i+k=j->(∀ m (hm:m<its.size),i<=m->m<j->p its[m]=false)->Nb (qP.«list.remove.loop» ⟨[.ref l,x,lU i],[]⟩)
   (fun A R s=>s.heap.get? l=some {cls:=.type "list",dict:=none,data:=.seq its n,slots:=#[]}/\(∀ y,y∈its->BL A.in1 s y x (p y))/\R (.ok (.ret .none)) {s with heap:=s.heap.update l (gK fun xs=>xs.eraseIdxIfInBounds j)}):=by
 intro k;induction k with
 |zero=>
  intro i ij no prog w A R s hs;obtain⟨hq,g5,d5,t5,o5⟩:=s;obtain⟨gl,eq,hR⟩:=hs;obtain rfl:i=j:=by lia
  wp_walk using DY gl
  have ai:its[((i:Nat):Int).toNat]?=some its[i]:=by simp[hj]
  rw[ai];refine au (eq _ (acV hj) prog w _ _ ?_);rw[yes];have z2:(its.eraseIdxIfInBounds i).size<=sizeLine+1:=by have:=MeetsSeq.size_erased its i;lia
  wp_walk using(tZ gl rfl (hz:=hz) (_hz':=z2)),DY gl
  simpa using hR
 |succ k ih=>
  intro i ij no prog w A R s hs;obtain⟨hq,g5,d5,t5,o5⟩:=s;obtain⟨gl,eq,hR⟩:=hs;have li:i<its.size:=by lia
  wp_walk using DY gl
  have ai:its[((i:Nat):Int).toNat]?=some its[i]:=by simp[li]
  have ci:((i:Int)+1)=((i+1:Nat):Int):=by lia
  rw[ai];refine au (eq _ (acV li) prog w _ _ ?_);rw[no i li (aB _) (by lia)]
  wp_walk
  rw[ci];exact⟨o8 Pn _,vX ad9 (by rw[zG Pn _];exact ih (i+1) (by lia) (fun m hm a b=>no m hm (by lia) b) prog w A R _ ⟨gl,eq,hR⟩)⟩
theorem abT (l:Addr) (its:Array Value) (n:Nat) (x:Value) (p:Value->Bool) (j:Nat) (hj:j<its.size) (yes:p its[j]=true) (no:∀ m (hm:m<its.size),m<j->p its[m]=false) (hz:its.size<=sizeLine):
  Nb (qP.«list.remove» ⟨[.ref l,x],[]⟩)
   (fun A R s=>s.heap.get? l=some {cls:=.type "list",dict:=none,data:=.seq its n,slots:=#[]}/\(∀ y,y∈its->BL A.in1 s y x (p y))/\R (.ok (.ret .none)) {s with heap:=s.heap.update l (gK fun xs=>xs.eraseIdxIfInBounds j)}):=by
 intro prog w A R s hs;obtain⟨hq,g5,d5,t5,o5⟩:=s;obtain⟨gl,eq,hR⟩:=hs
 wp_walk using DY gl
 exact⟨o8 Pn _,vX ad9 (by rw[zG Pn _];exact abS l its n x p j hj yes hz j 0 (by lia) (fun m hm _ b=>no m hm b) prog w A R _ ⟨gl,eq,hR⟩)⟩
section
open PySem.SeqAt
theorem aaG {prog:bN} {w:aO} {A:aP} {E:Value->aj->Prop} {s:aj} {l:Addr} {vs:List Value} {ns:List Int} {k:Int} {t:Tok} {Q:Value->aj->Prop} (hl:s.heap.IsList l vs.toArray) (hi:qO vs ns)
  (hb:ns.length<=sizeLine) (hk:k∈ns) (h:Q (.int (ns.idxOf k:Nat) s.toks) {s with toks:=s.toks+1}):
  ao (aU prog w) A (call (.builtin "list.index") [.ref l,.int k t]) Q E s:=by
 obtain⟨⟨cls,dd,data,sl⟩,ho,hc,n,hd⟩:=id hl;simp only at hc hd;subst hc hd;have hlen:=hi.length;have hj:ns.idxOf k<ns.length:=ad3.mpr hk;rw[cY]at hb;refine jf W9 ⟨_,ho,rfl⟩ ad2 (ad8 _ _)
  (list_indexAt l vs.toArray n dd sl (.int k t) (isInt k) (ns.idxOf k) (by simpa[hlen]using hj) (by lia) ?_ ?_) ⟨ho,fun y hy=>(eq_isInt k t hi y (by simpa using hy)).at _ _,h⟩
 .show isInt k vs[ns.idxOf k]=true
  rw[isInt_at k hi _ (by lia) hj];simpa using ac8 hj
 .intro j hjs hlt
  show isInt k vs[j]=false;rw[isInt_at k hi j (by simpa using hjs) (by lia)];exact ne_of_lt_idxOf hlt _
end
theorem argBest_lt (bt:Nat->Nat->Bool):∀ k,cJ bt k<=k
 |0=>aB 0|k+1=>by have:=argBest_lt bt k;simp only[cJ];split<;>lia
theorem pA (r:List Itm):∀ k,∀ i,i<=k->ltAt r i (cJ (ltAt r) k)=false
 |0,i,h=>by
  have:i=0:=by lia
  subst this;exact zY _
 |k+1,i,h=>by
  simp only[cJ];cases hb:ltAt r (k+1) (cJ (ltAt r) k) with
  |true=>
   simp only[if_true];rcases Ck i (k+1)with q|q
   .have h1:=pA r k i (by lia)
    have h2:=Lq r _ _ hb;exact yq r _ _ _ h2 h1
   .have:i=k+1:=by lia
    subst this;exact zY _
  |false=>
   simp only[bZ,if_false];rcases Ck i (k+1)with q|q
   .exact pA r k i (by lia)
   .have:i=k+1:=by lia
    subst this;exact hb
theorem afy {r:List Itm} {y:Itm} (h:y∈r):∃ j:Nat,∃ hj:j<r.length,r[j]=y/\(∀ m (hm:m<r.length),m<j->r[m]≠y)/\r.erase y=r.eraseIdx j:=by
 refine⟨r.idxOf y,ad3.mpr h,ac8 _,fun m hm hlt e=>?_,?_⟩
 .have:=List.not_of_lt_findIdx (p:=(·==y)) hlt
  simp[e]at this
 .rw[List.erase_eq_eraseIdx_of_idxOf rfl]
theorem Ln (f:α->β):∀ (l:List α) (j:Nat),(l.map f).eraseIdx j=(l.eraseIdx j).map f
 |[],j=>by simp|a::l,0=>by simp|a::l,j+1=>by simp[Ln f l j]
section
variable {X:Cx} {ρ:dD} {θ θ':Th} {μ μ':Mem} {s s1 s':aj} {k n:Nat} {ds:List D} {us:List Value} {Qd:QD} {Q XE:Value->aj->Prop} {d:D} {u v:Value} {m:String} {r:List Itm} {y:Itm} {h:aq}
theorem Jq (rs:c7 h θ μ (r.map aK) us) (i:Nat) (v:Value) (q:us[i]?=some v):∃ x,r[i]?=some x/\IsItem h v x:=by
 have hi:i<us.length:=(cj.mp q).1;have l1:=rs.length;have hr:i<r.length:=by simp at l1;lia
 obtain⟨u,e1,e2⟩:=rs.get (i:=i) (d:=aK r[i]) (by simp[hr]);rw[q]at e1;cases e1;exact⟨r[i],dw hr,Gk e2⟩
def isY (h:aq) (y:Itm) (q:Value):Bool:=open Classical in decide (IsItem h q y)
theorem Jr (rs:c7 h θ μ (r.map aK) us) (i:Nat) (hi:i<us.toArray.size):∃ hi':i<r.length,isY h y us.toArray[i]=decide (r[i]=y):=by
 have hi0:i<us.length:=by simpa using hi
 obtain⟨x,e1,e2⟩:=Jq rs i us[i] (dw hi0);have hi':i<r.length:=(cj.mp e1).1;rw[dw hi']at e1;cases e1;refine⟨hi',?_⟩;have e2:IsItem h us.toArray[i] r[i]:=by simpa using e2
 unfold isY;by_cases c:r[i]=y
 .rw[c]at e2
  rw[decide_eq_true c];exact @decide_eq_true _ (Pg _) e2
 .rw[decide_eq_false c]
  exact @decide_eq_false _ (Pg _) fun q=>c (Js e2 q)
theorem afc {A:aP} (rs:c7 s.heap θ μ (r.map aK) us) (iy:IsItem s.heap v y) (hun:A.units+1<cLine):∀ q∈us.toArray,BL A.in1 s q v (isY s.heap y q):=fun q hq=>by obtain⟨i,hi,rfl⟩:=Array.mem_iff_getElem.mp hq;obtain⟨hi',e⟩:=Jr (y:=y) rs i hi;obtain⟨x,e1,e2⟩:=Jq rs i us[i] (dw (by simpa using hi));rw[dw hi']at e1;cases e1;rw[e];exact aaO (by simpa using e2) iy (by show A.units+1<cLine;lia)
theorem afU (hc:X.calm=true) (hu:X.A.in1.units<cLine):ZV X (fun us=>call (.builtin "min") us) QZ:=fun {s ρ θ μ ds us Qd Q E} i rr hw f=>by
 match ds,rr,hw with
 |[d],rr,hw=>
  obtain⟨u,rfl,rx⟩:=rr.iW;simp only[QZ]at hw;split at hw
  .rename_i es hq
   obtain⟨it,rfl,hne,hw⟩:=hw;obtain⟨a,vs,rfl,pl,l,rs⟩:=jD i.dG rx hq;have l1:=rs.length;simp only[aR]at l1;have hn:0<it.length:=WX.mpr hne;refine aas (r:=it) (i.ok.hd hc) pl.isList (Jq rs) (by lia) hu fun w h' tk hw' ke=>?_;(have hk:cJ (ltAt it) (vs.length -1)<it.length:=by have:=argBest_lt (ltAt it) (vs.length -1);lia);obtain⟨u,f1,f2⟩:=rs.get (i:=cJ (ltAt it) (vs.length -1)) (d:=aK it[cJ (ltAt it) (vs.length -1)]) (by simp[hk]);rw[hw']at f1;cases f1;refine f.hp i ke ((jE ke).rp f2) (hw _ (Oo hk) fun z hz'=>?_);obtain⟨i,hi,rfl⟩:=CK.mp hz';have:=pA it (vs.length -1) i (by lia);simpa[ltAt,hi,hk]using this
  .exact hw.elim
theorem aao (hu:X.A.units+64<cLine):Mt X "list.remove" abb:=fun {s ρ θ μ x ds u us Qd Q E} i rd rs hw f=>by
 unfold abb at hw;split at hw
 .rename_i n
  split at hw
  .rename_i xs hn
   obtain⟨it,y,rfl,rfl,hy,hq⟩:=hw;obtain⟨p,vs,rfl,hp,h2,q,rr⟩:=Iv.lst i.dG hn rd;obtain⟨w,rfl,rw'⟩:=rs.iW;have iy:=Gk rw';obtain⟨j,hj,ej,nj,ee⟩:=afy hy;have l1:=rr.length;simp only[aR]at l1;obtain⟨l,m,e⟩:=id q;obtain⟨q',kp⟩:=U0 q (g:=fun xs=>xs.eraseIdxIfInBounds j) (vs:=vs.eraseIdx j) (by rw[Xi]) (by have:=List.length_eraseIdx_le vs j;lia);have r3:=rr.eraseIdx j;rw[Ln,<-ee]at r3;obtain⟨i',g,_⟩:=i.aiZ (tk:=s.toks) hn hp h2 kp q' r3;refine jf ad1 ⟨_,e,rfl⟩ PySem.F.entry_list_remove (PySem.F.args_list_remove_2 _ _)
    (abT p.1 vs.toArray m w (isY s.heap y) j (by simp;lia) (by obtain⟨hi',e⟩:=Jr (y:=y) rr j (by simp;lia);rw[e];simp[ej]) (fun k hk lt=>by obtain⟨hi',e⟩:=Jr (y:=y) rr k hk;rw[e];simp[nj k hi' lt]) (by simpa using l)) ⟨e,afc rr iy (by lia),?_⟩
   exact f i' g Bv hq
  .exact hw.elim
 .exact hw.elim
theorem SM:∀ {ns:List Int} {us:List Value},c7 h θ μ (ns.map D.int) us->qO us ns
 |[],_,r=>by cases r.nil_inv;exact .nil
 |n::ns,_,⟨u,r,e,⟨t,z⟩,y⟩=>by rw[e,z];exact .cons n t (SM y)
theorem agy {es:List D} (i:Iv X ρ θ μ s) (rd:Rp s.heap θ μ d u) (re:c7 s.heap θ μ es us) (hw:aa9 m d es μ Qd):
  (∃ a vs ns k t,u= .ref a/\PlainL s.heap a vs.toArray/\qO vs ns/\ns.length<=sizeLine/\us=[.int k t]/\akU m ns k μ Qd)∨(m="index"/\akV d es μ Qd):=by
 unfold aa9 at hw;split at hw
 .rename_i ns hb
  obtain⟨ds,q1,q2⟩:=bind_some hb
  match es,hw with
  |[.int k],hw=>obtain⟨w,rfl,⟨t,rfl⟩⟩:=re.iW;obtain⟨a,vs,rfl,pl,l,rs⟩:=jD i.dG rd q1;have il:=rs.length;rw[ints_map q2,aR]at il;exact .inl ⟨a,vs,ns,k,t,rfl,pl,SM (ints_map q2▸rs),by lia,rfl,hw⟩
 .exact .inr hw
theorem aeR (hu:X.A.units+64<cLine):Mt X "list.index" (vG "index"):=fun {s ρ θ μ x ds u us Qd Q E} i rd re hw f=>by
 rcases agy (m:="index") i rd re hw with⟨a,vs,ns,k,t,rfl,pl,hi,hz,rfl,h1,h2⟩|⟨-,r,y,j,hl,rfl,ej,nj,hq⟩
 .exact aaG pl.isList hi hz h1 (f.tok i iJ h2)
 .obtain⟨a,vs,rfl,pl,l,rs⟩:=jD i.dG rd hl
  obtain⟨w,rfl,rw'⟩:=re.iW;have iy:=Gk rw';obtain⟨⟨cls,dd,data,sl⟩,ho,hc,n,hd⟩:=id pl.isList;simp only at hc hd;subst hc hd;have l1:=rs.length;simp only[aR]at l1;have hj:j<r.length:=(cj.mp ej).1;rw[dw hj]at ej;cases ej;have hsl:=l;rw[cY]at hsl;refine jf W9 ⟨_,ho,rfl⟩ ad2 (ad8 _ _)
   (list_indexAt a vs.toArray n dd sl w (isY s.heap r[j]) j (by simp;lia) (by lia) (by obtain⟨hi',e⟩:=Jr (y:=r[j]) rs j (by simp;lia);rw[e];simp) (fun k hk lt=>by obtain⟨hi',e⟩:=Jr (y:=r[j]) rs k hk;rw[e];have:=nj k lt;rw[dw hi']at this;exact decide_eq_false fun z=>this (by rw[z]))) ⟨ho,afc rs iy (by lia),f.tok i iJ hq⟩
end
end DW
namespace DW
open PySem PySem.Spec PyProof.Rows PySem.SeqAt PySem.Builtin PySem.Builtin.Str
section
variable {X:Cx} {θ:Th} {μ:Mem} {us:List Value} {Qd:QD} {d:D} {u:Value} {m:String} {h:aq}
theorem Gv {es:List D} (hm:m≠"join") (rd:Rp h θ μ d u) (re:c7 h θ μ es us) (hw:Fe m d es μ Qd):
  ∃ t c t1 t2,u= .str ⟨dU t⟩ t1/\t.length<=sizeLine/\us=[.str ⟨#[c]⟩ t2]/\aa8 m t c μ Qd:=by
 cases d with
 |str t=>
  obtain⟨⟨t1,rfl⟩,hl⟩:=rd;simp only[Fe]at hw;split at hw
  .rename_i c
   obtain⟨y1,rfl,⟨t2,rfl⟩,_⟩:=re.iW;exact⟨t,c,t1,t2,rfl,hl,rfl,hw⟩
  .split at hw
   .exact absurd hw.1 hm
   .exact hw.elim
  .exact hw.elim
 |_=>exact hw.elim
theorem UL {a b:Str} (h:a.cps=b.cps):a=b:=by cases a;cases b;exact congrArg _ h
theorem Kl:Mt X "str.startswith" (vG "startswith"):=fun {s ρ θ μ d e u us Qd Q E} i rd re hw f=>by
 obtain⟨t,c,t1,t2,rfl,hl,rfl,hq⟩:=Gv (by decide) rd re (show Fe "startswith" d e μ Qd from hw);refine call_gives acy (qT s _ t1) F.entry_str_startswith (F.args_str_startswith_2 _ _) (gives_str_startswith ⟨t.toArray⟩ ⟨#[c]⟩ t1 t2) ?_;have e:(decide (0+(⟨#[c]⟩:Str).length<=(⟨t.toArray⟩:Str).length)&&subAt ⟨t.toArray⟩ ⟨#[c]⟩ 0)=(t.head?==some c):=by have h1:=H9 ⟨t.toArray⟩ c 0;rw[Og];simp only[bL,decide_eq_true_eq,beq_iff_eq];rw[h1];simp[adR]
 show Q (.bool _) s;rw[e];exact f.at i Rz hq
theorem Bx {h:aq} {θ:Th} {μ:Mem}:∀ (ws:List Str) (t:Nat),(∀ w∈ws,w.length<=sizeLine)->c7 h θ μ ((ws.map FN).map .str) (strsFrom t ws)
 |[],_,_=>.nil|w::ws,t,q=>.cons ⟨⟨t,rfl⟩,by simpa[FN,eE]using q w (by simp)⟩ (Bx ws (t+1) fun w hw=>q w (by simp[hw]))
theorem K6 (c:Nat):∀ (x:List Nat),∀ w∈cO c x,w.length<=x.length
  |[],w,h=>by simp[cO]at h;simp[h]| a::x,w,h=>by
    have ih:=K6 c x;unfold cO at h;split at h
    . rcases bC.mp h with rfl|h
      . simp
      . have:=ih w h;simp;lia
    . cases q:cO c x with
      | nil => rw[q]at h;have:w=[a]:=by simpa using h
               subst this;simp
      | cons p ps=>
        rw[q]at h ih;rcases bC.mp h with rfl|h
        . have:=ih p (by simp);simp;lia
        . have:=ih w (by simp[h]);simp;lia
theorem aeQ:Mt X "str.split" (vG "split"):=fun {s ρ θ μ d e u us Qd Q E} i rd re hw f=>by
 obtain⟨t,c,t1,t2,rfl,hl,rfl,⟨hc,hlt⟩,m,hq⟩:=Gv (by decide) rd re (show Fe "split" d e μ Qd from hw);have hlim:lim=sizeLine:=by rw[cY];rfl
 have self:c∉t->Q (.ref s.heap.objs.size) {s with heap:=s.heap.push {cls:=.type "list",data:=.seq [xH ⟨t.toArray⟩ t1].toArray}}:=fun hn=>by rw[u5 hn]at hq;exact f.newL i cZ (aB _) (qI _ (by rw[cY];exact adJ rfl)).1 (.one (show Rp _ _ _ (.str t) _ from⟨⟨_,rfl⟩,hl⟩)) hq
 by_cases h1:(decide ((⟨t.toArray⟩:Str).length<(⟨#[c]⟩:Str).length)||decide (strKind ⟨t.toArray⟩<strKind ⟨#[c]⟩))=true
 .refine jf NZ (qT s _ t1) Wz (WR _ _) (meets_str_split_cannot_occur ⟨t.toArray⟩ ⟨#[c]⟩ t1 t2 h1) ?_
  refine self ?_;have hk:strKind ⟨#[c]⟩=1:=by unfold adp;rw[if_pos (by simp;exact hc)]
  have hk2:1<=strKind ⟨t.toArray⟩:=by unfold adp;split<;>(try split)<;>decide
  have:t.length<1:=by
   rw[hk]at h1;simp only[xU,decide_eq_true_eq]at h1;rcases h1 with h1|h1
   .simpa[eE]using h1
   .lia
  have:t=[]:=zJ.mp (by lia);rw[this];simp
 .have h1':(decide ((⟨t.toArray⟩:Str).length<(⟨#[c]⟩:Str).length)||decide (strKind ⟨t.toArray⟩<strKind ⟨#[c]⟩))=false:=by simpa using h1
  by_cases hf:(HF ⟨t.toArray⟩ ⟨#[c]⟩ 0 (⟨t.toArray⟩:Str).length ((⟨t.toArray⟩:Str).length+1)).isEmpty=true
  .refine jf NZ (qT s _ t1) Wz (WR _ _) (meets_str_split_not_found ⟨t.toArray⟩ ⟨#[c]⟩ t1 t2 h1' rfl hf) ?_
   refine self ?_;intro hm;obtain⟨i,hi,e⟩:=ado hm;rw[Y9,List.isEmpty_iff]at hf;have:i∈QV (⟨t.toArray⟩:Str).cps.toList c (fP 0 ((⟨t.toArray⟩:Str).length+1)):=by unfold QV;rw[Cr];refine⟨by simp[acB,eE];lia,?_⟩;simp[e,hi]
   rw[hf]at this;cases this
  .have hf':(HF ⟨t.toArray⟩ ⟨#[c]⟩ 0 (⟨t.toArray⟩:Str).length ((⟨t.toArray⟩:Str).length+1)).isEmpty=false:=by simpa using hf
   have hsp:=Rk ⟨t.toArray⟩ c;generalize hP:partsBetween ⟨t.toArray⟩ (HF ⟨t.toArray⟩ ⟨#[c]⟩ 0 (⟨t.toArray⟩:Str).length ((⟨t.toArray⟩:Str).length+1)) (⟨#[c]⟩:Str).length=P at hsp;(have ht:FN (⟨t.toArray⟩:Str)=t:=by simp[FN]);rw[ht]at hsp;have hPl:P.length<=sizeLine:=by have h2:=congrArg dR hsp;have h3:=G3 c t;rw[aR]at h2;lia
   have hPw:∀ w∈P,w.length<=sizeLine:=fun w hw=>by (have:FN w∈cO c t:=by rw[<-hsp];exact jQ.mpr ⟨w,hw,rfl⟩);have:=K6 c t _ this;(have e2:(FN w).length=w.length:=by simp[FN,eE]);lia
   refine jf NZ (qT s _ t1) Wz (WR _ _) (meets_str_split_sep ⟨t.toArray⟩ ⟨#[c]⟩ t1 t2 h1' rfl hf' (by simpa[eE]using hl) (by rw[hP];exact hPl)) ?_;rw[hP];rw[<-hsp]at hq;exact f.newL i cZ (aB _) (qI _ (by rw[(Bx (h:=s.heap) (θ:=θ) (μ:=μ) P s.toks hPw).length];simpa using hPl)).1 (Bx P s.toks hPw) hq
theorem PB:Mt X "str.partition" (vG "partition"):=fun {s ρ θ μ d e u us Qd Q E} i rd re hw f=>by
 obtain⟨t,c,t1,t2,rfl,hl,rfl,hq⟩:=Gv (by decide) rd re (show Fe "partition" d e μ Qd from hw);refine jf acs (qT s _ t1) F.entry_str_partition (F.args_str_partition_2 _ _) (meets_str_partition ⟨t.toArray⟩ ⟨#[c]⟩ t1 t2 rfl (by simpa[eE]using hl)) ?_;have mk:∀ (a b z:List Nat) (t1 t2 t3 tk:Nat),a.length<=sizeLine->b.length<=sizeLine->z.length<=sizeLine->Qd (.tup [.str a,.str b,.str z]) μ->
   Q (.ref s.heap.objs.size) {s with toks:=tk,heap:=s.heap.push {cls:=.type "tuple",data:=.seq [.str ⟨a.toArray⟩ t1,.str ⟨b.toArray⟩ t2,.str ⟨z.toArray⟩ t3].toArray}}:=fun a b z t1 t2 t3 tk ha hb hz q=>
  f.sq (j:=0) i cZ (aB _) (qI _ (by rw[cY];exact adJ rfl)).2 (.cons (show Rp _ _ _ (.str a) _ from⟨⟨_,rfl⟩,ha⟩) (.cons (show Rp _ _ _ (.str b) _ from⟨⟨_,rfl⟩,hb⟩) (.one (show Rp _ _ _ (.str z) _ from⟨⟨_,rfl⟩,hz⟩)))) q
 have one:(1:Nat)<=sizeLine:=by rw[cY];decide
 unfold aa8 at hq;simp only at hq;rcases StrLaws.occ_head ⟨t.toArray⟩ ⟨#[c]⟩ 1 (aB _)with⟨e,hn⟩|⟨j,r,e,hi,hn⟩
 .rw[e]
  have hc:c∉t:=fun hm=>by obtain⟨j,hi,e⟩:=ado hm;exact hn j ((H9 ⟨t.toArray⟩ c j).mpr (by simp[e,hi]))
  rw[if_neg hc]at hq;exact mk t [] [] _ _ _ _ hl (by simp) (by simp) hq
 .rw[e]
  have hci:=(H9 ⟨t.toArray⟩ c j).mp hi;have hcn:∀ k,k<j->t[k]?≠some c:=fun k hk z=>hn k hk ((H9 ⟨t.toArray⟩ c k).mpr (by simpa using z));have als:t[j]?=some c:=by simpa using hci
  obtain⟨p1,p2⟩:=aev t j als hcn;have hc:c∈t:=pW als;rw[if_pos hc,p1,p2]at hq;have e1:xg (⟨t.toArray⟩:Str) 0 j=⟨(t.take j).toArray⟩:=by apply UL;apply xW.mp;rw[Wi];simp
  have e2:xg (⟨t.toArray⟩:Str) (j+(⟨#[c]⟩:Str).length) (⟨t.toArray⟩:Str).length=⟨(t.drop (j+1)).toArray⟩:=by apply UL;apply xW.mp;rw[Wi];show(t.drop (j+1)).take (t.length -(j+1))=t.drop (j+1);rw[tM (by simp)]
  show Q (.ref s.heap.objs.size) {s with toks:=s.toks+1+1,heap:=s.heap.push {cls:=.type "tuple",data:=.seq [.str (xg ⟨t.toArray⟩ 0 j) s.toks,.str ⟨#[c]⟩ t2,.str (xg ⟨t.toArray⟩ (j+(⟨#[c]⟩:Str).length) (⟨t.toArray⟩:Str).length) (s.toks+1)].toArray}};rw[e1,e2];exact mk (t.take j) [c] (t.drop (j+1)) _ _ _ _ (by simp;lia) (by simpa using one) (by simp;lia) hq
theorem YQ {h:aq} {θ:Th} {μ:Mem}:∀ {ds:List D} {us:List Value} {ws:List (List Nat)},c7 h θ μ ds us->za ds=some ws->(∀ w∈ws,w.length<=sizeLine)/\∃ l:List (Str×Tok),us=strValues l/\l.map (·.1)=ws.map (fun w=>(⟨w.toArray⟩:Str))
 |[],us,ws,r,q=>by simp[za]at q;subst q;exact⟨by simp,[],r.nil_inv,rfl⟩|d::ds,us,ws,⟨u,r,e,x,y⟩,q=>by
  cases d with
  |str z=>
   simp only[za]at q;cases k:za ds with
   |none=>rw[k]at q;cases q
   |some ws' =>
    rw[k]at q;cases q;obtain⟨⟨t,rfl⟩,hl⟩:=x;obtain⟨h2,l,rfl,el⟩:=YQ y k;refine⟨fun w hw=>?_,(_,t)::l,e,by simp[el]⟩;rcases bC.mp hw with e|hw
    .rw[e];exact hl
    .exact h2 w hw
  |_=>cases q
theorem ag5:Mt X "str.join" (vG "join"):=fun {s ρ θ μ d e u us Qd Q E} i rd re hw f=>by
 have hw:Fe "join" d e μ Qd:=hw;cases d with
 |str t=>
  obtain⟨⟨t1,rfl⟩,hl⟩:=rd;simp only[Fe]at hw;split at hw
  .exact(show False from hw).elim
  .rename_i d2 hd2 _
   split at hw
   .rename_i ws hb
    obtain⟨-,hsz,hq⟩:=hw;obtain⟨u,rfl,ru⟩:=re.iW;cases q:cB μ d2 with
    |none=>rw[q]at hb;cases hb
    |some ds=>
     rw[q]at hb;obtain⟨a,us,rfl,pl,hz,rs⟩:=jD i.dG ru q;obtain⟨hws,l,rfl,el⟩:=YQ rs hb;(have hlim:lim=sizeLine:=by rw[cY];rfl);have htot:((l.map (·.1)).map (·.length)).sum=(ws.map dR).sum:=by rw[el,oG];congr 1
     (have Zy:l.length=ws.length:=by have:=congrArg dR el;simpa using this);have hfit:Vg ((l.map (·.1)).toArray.foldl (·+·.length+(⟨t.toArray⟩:Str).length) 0)=false:=by rw[StrLaws.joinTotal,htot,aR,Zy];unfold Vg;(have:(⟨t.toArray⟩:Str).length=t.length:=by simp[eE]);rw[this];exact decide_eq_false (by have:=cY;lia)
     refine jf ab8 (qT s _ t1) F.entry_str_join (F.args_str_join_2 _ _) (meets_str_join_list ⟨t.toArray⟩ t1 a l hfit) ⟨pl.isList,?_⟩;have hcp:∀ ws:List (List Nat),(ws.map (fun w=>(⟨w.toArray⟩:Str))).map FN=ws:=fun ws=>by (rw[oG];conv=>rhs;rw[<-List.map_id ws]);exact Im fun w _=>by simp[FN]
     have hjl:∀ (t:List Nat) (ws:List (List Nat)),(dJ t ws).length<=(ws.map dR).sum+ws.length*t.length:=by
      intro t ws;induction ws with
      |nil=>simp[dJ]|cons w r ih=>
       cases r with
       |nil=>simp[dJ]|cons v r=>simp only[dJ,gG,aX,H6,bA,ab2]at ih ⊢;lia
     have key:glued ⟨t.toArray⟩ (l.map (·.1))=⟨(dJ t ws).toArray⟩:=by rw[StrLaws.glued_eq_join,el];apply UL;apply xW.mp;have:=Sq ⟨t.toArray⟩ (ws.map (fun w=>(⟨w.toArray⟩:Str)));rw[hcp]at this;simpa[FN]using this
     have hlen:(dJ t ws).length<=sizeLine:=jR (hjl t ws) (by lia);have fin:Q (.str ⟨(dJ t ws).toArray⟩ s.toks) {s with toks:=s.toks+1}:=f.tok i (wX hlen) hq
     match l,key,el with
     |[],key,_=>exact⟨by rw[key];simpa[eE]using hlen,by rw[key];exact fin⟩|[p],key,el=>
      have:ws=[p.1.cps.toList]:=by have:=congrArg (List.map FN) el;rw[hcp]at this;simpa[FN]using this.symm
      subst this;(have e1:p.1=⟨(dJ t [p.1.cps.toList]).toArray⟩:=by simp[dJ]);show Q (.str p.1 p.2) s;exact f.at i (show Rp _ _ _ (.str _) _ from⟨⟨p.2,by rw[<-e1]⟩,hlen⟩) hq
     |p::p2::r,key,_=>exact⟨by rw[key];simpa[eE]using hlen,by rw[key];exact fin⟩
   .exact hw.elim
  .exact hw.elim
 |_=>exact hw.elim
end
end DW
namespace DW
open PySem PySem.Spec PyProof.Rows
open L2 (aN Key frs vC Loc Look Mod sG cT Cls iQ)
structure af4 (X:Cx) (θ:Th) (μ:Mem) (s:aj) (Z:jM) (Q:Flow->aj->Prop) (E:Value->aj->Prop):Prop where
 nx:∀ {ρ' s' θ' μ'},Iv X ρ' θ' μ' s'->GS X θ μ s θ' μ' s'->Z.nx ρ' μ'->Q .next s'
 bk:∀ {ρ' s' θ' μ'},Iv X ρ' θ' μ' s'->GS X θ μ s θ' μ' s'->Z.bk ρ' μ'->Q .brk s'
 ct:∀ {ρ' s' θ' μ'},Iv X ρ' θ' μ' s'->GS X θ μ s θ' μ' s'->Z.ct ρ' μ'->Q .cont s'
 rt:∀ {ρ' d u s' θ' μ'},Iv X ρ' θ' μ' s'->GS X θ μ s θ' μ' s'->Rp s'.heap θ' μ' d u->Z.rt d μ'->Q (.ret u) s'
 xc:∀ {ρ' c ks ds e s' θ' μ'},Iv X ρ' θ' μ' s'->GS X θ μ s θ' μ' s'->EY X.T X.stack s θ' μ' s' c ks ds e->Z.xc ρ' c ks ds μ'->E e s'
noncomputable abbrev WS:=jM->dD->Mem->Prop
def PS (X:Cx) (st:Stmt) (w:WS):Prop:=∀ {s ρ θ μ Z Q E},PassesOwn X.M X.A X.env E->Iv X ρ θ μ s->w Z ρ μ->af4 X θ μ s Z Q E->ao X.M X.A (exec st X.env) Q E s
def PSs (X:Cx) (st:List Stmt) (w:WS):Prop:=∀ {s ρ θ μ Z Q E},PassesOwn X.M X.A X.env E->Iv X ρ θ μ s->w Z ρ μ->af4 X θ μ s Z Q E->ao X.M X.A (execs st X.env) Q E s
section
variable {X:Cx} {ρ:dD} {θ θ1 θ':Th} {μ μ1 μ':Mem} {s s1 s':aj} {h':aq} {tk:Nat} {j n:Nat} {ds:List D} {Qd:QD} {Q:Value->aj->Prop} {E:Value->aj->Prop} {Qs:Flow->aj->Prop} {Z:jM} {x:Str} {p p2 pos tpos:Pos} {a b c e o i:Expr} {wa wb we wo wi:WE} {wt:WT} {ws w1 w2:WS} {d:D} {u v:Value} {T:Top} {A:aP} {stack:List Env} {ad:Addr} {st:Stmt} {body rest orelse:List Stmt}
theorem af4.mono (f:af4 X θ μ s Z Qs E) (g:GS X θ μ s θ1 μ1 s1):af4 X θ1 μ1 s1 Z Qs E:=
 ⟨fun i g'=>f.nx i (g.trans g'),fun i g'=>f.bk i (g.trans g'),fun i g'=>f.ct i (g.trans g'),fun i g'=>f.rt i (g.trans g'),fun i g' fl=>f.xc i (g.trans g') (fl.mono g.there)⟩
theorem E0.own (e:E0 T A stack θ μ s) (sb:∀ b o,b≠ad->s.heap.get? b=some o->h'.get? b=some o) (hb:T.base.get? ad=none) (la:¬oY θ μ ad)
  (ha:∀ o,s.heap.get? ad=some o->¬Fix o/\∃ o',h'.get? ad=some o'/\∀ es ep,o.data= .dict es ep->∃ es' ep',o'.data= .dict es' ep'):E0 T A stack θ μ {s with heap:=h',toks:=tk} where
 mod:=e.mod
 frames:=e.frames
 bare:=e.bare
 bs:=fun b o q=>let⟨e1,l⟩:=e.bs b o q;⟨sb b o (fun z=>by rw[z,hb]at q;cases q) e1,l⟩
 stk:=fun v m=>by
  obtain⟨k,L,o,es,ep,f,nb,ho,hd,l⟩:=e.stk v m;by_cases z:L=ad
  .subst z
   obtain⟨_,o',ho',q⟩:=ha o ho;obtain⟨es',ep',hd'⟩:=q es ep hd;exact⟨k,L,o',es',ep',f,nb,ho',hd',l⟩
  .exact⟨k,L,o,es,ep,f,nb,sb L o z ho,hd,l⟩
 dG:=e.dG.mono ⟨fun _ _ e=>e,fun b o q f l=>⟨sb b o (fun z=>by subst z;exact(ha o q).1 f) q,l⟩⟩ (fun b o l q=>sb b o (fun z=>la (z▸l)) q) fun b z=>by
  obtain⟨o,q⟩:=e.dG.bnd b (.inl z);by_cases y:b=ad
  .subst y;exact let⟨_,o',q',_⟩:=ha o q;⟨o',q'⟩
  .exact⟨o,sb b o y q⟩
 hh:=e.hh
theorem aia (k:X.own ad) (sb:∀ b o,b≠ad->s.heap.get? b=some o->h'.get? b=some o) (th:∃ o',h'.get? ad=some o'):GS X θ μ s θ μ {s with heap:=h',toks:=tk}:=
 ⟨fun _ _ e=>e,fun b o e l v=>⟨l,o.slots,sb b o (fun z=>v (z▸k)) e,fun _=>rfl⟩,fun b o e=>by
  by_cases z:b=ad
  .subst z;exact th
  .exact⟨o,sb b o z e⟩,fun _ _ e _=>e,rfl,.rfl⟩
theorem ae2 (sb:∀ b o,b≠ad->s.heap.get? b=some o->h'.get? b=some o) (nf:∀ o,s.heap.get? ad=some o->¬Fix o):Kp θ μ s.heap θ μ h':=⟨fun _ _ e=>e,fun b o e f l=>⟨sb b o (fun z=>nf o (z▸e) f) e,l⟩⟩
theorem nJ {o:Obj} {es ep} (h:o.data= .dict es ep):¬Fix o:=fun f=>by rcases f with⟨_,_,f⟩|⟨_,_,f⟩<;>rw[h]at f<;>cases f
theorem yh {o:Obj} {v} (h:o.data= .cell v):¬Fix o:=fun f=>by rcases f with⟨_,_,f⟩|⟨_,_,f⟩<;>rw[h]at f<;>cases f
theorem QF {h:aq} {a c:Addr} {m:Str->Option Value} {v:Option Value} (hn:h.Ns a m) (hc:h.IsCell c v):c≠a:=fun z=>by subst z;obtain⟨o,_,_,e,d,_⟩:=hn;obtain⟨o',e',d'⟩:=hc;rw[e]at e';cases e';rw[d]at d';cases d'
theorem Iv.kpS (i:Iv X ρ θ μ s) (g:GS X θ μ s θ1 μ1 s1):Kp θ μ s.heap θ1 μ1 s1.heap:=g.kp fun b o q f=>⟨fun z=>by
 rcases z with rfl|⟨x,_,hc⟩
 .obtain⟨m,⟨o',_,_,e,d,_⟩,_⟩:=i.loc
  rw[q]at e;cases e;exact nJ d f
 .obtain⟨⟨v,o',e,d⟩,_⟩:=i.cell x b hc
  rw[q]at e;cases e;exact yh d f,i.e.nfr q f⟩
theorem zc {R:Unit->aj->Prop} (I:Iv X ρ θ μ s) (hN:X.N.Nodup) (hi:X.N[j]?=some x) (hx:Sto X x) (r:Rp s.heap θ μ d u) (f:∀ {s'},Iv X (ρ.set j (some d)) θ μ s'->GS X θ μ s θ μ s'->R () s'):ao X.M X.A (storeName X.env x u) R E s:=by
 obtain⟨m,hn,hl⟩:=id I.loc;have hj:j<ρ.length:=by rw[I.len];exact(cj.mp hi).1
 obtain⟨oL,esL,epL,eL,dL,_⟩:=id hn;rcases hx with hk|⟨hk,hoc⟩
 .refine wpAny_storeName_local hk hn (fun h' hn' hs=>?_) (by rw[I.ok.kind];rfl)
  obtain⟨o',es',ep',e',d',_⟩:=id hn';have sb:∀ b o,b≠X.env.locals->s.heap.get? b=some o->h'.get? b=some o:=fun b o z q=>(hs.2 b z).trans q;have kp:Kp θ μ s.heap θ μ h':=ae2 sb fun o q=>by rw[eL]at q;cases q;exact nJ dL
  refine f ⟨I.ok,I.e.own sb I.ok.nbL I.nl fun o q=>by rw[eL]at q;cases q;exact⟨nJ dL,o',e',fun _ _ _=>⟨es',ep',d'⟩⟩,⟨_,hn',fun k y d' e1 e2 e3=>?_⟩,fun y c q=>?_,I.nl,by simpa using I.len⟩ (aia (.inl rfl) sb ⟨o',e'⟩)
  .by_cases z:k=j
   .subst z
    rw[hi]at e1;cases e1;rw[eF hj]at e2;cases e2;exact⟨u,kp.rp r,.inl ⟨hk,by simp⟩⟩
   .rw[cW (bK z)]at e2
    obtain⟨u',r',q⟩:=hl k y d' e1 e2 e3;refine⟨u',kp.rp r',?_⟩;rcases q with⟨k1,e⟩|⟨k1,c,e,w⟩
    .have:y≠x:=fun q=>z (L2.RD hN e1 (q▸hi))
     exact .inl ⟨k1,by simp[this,e]⟩
    .exact .inr ⟨k1,c,e,w.sameBut hs (QF hn w)⟩
  .obtain⟨⟨v,w⟩,l⟩:=I.cell y c q
   exact⟨⟨v,w.sameBut hs (QF hn w)⟩,l⟩
 .obtain⟨c,hc⟩:=I.ok.has x (.inl hk)
  obtain⟨⟨v0,wc⟩,lc⟩:=I.cell x c hc;refine wpAny_storeName_cell I.ok.kind hk hc wc fun h' wc' hs=>?_;obtain⟨oc,ec,dc⟩:=id wc;obtain⟨o',e',d'⟩:=id wc';have sb:∀ b o,b≠c->s.heap.get? b=some o->h'.get? b=some o:=fun b o z q=>(hs.2 b z).trans q;have kp:Kp θ μ s.heap θ μ h':=ae2 sb fun o q=>by rw[ec]at q;cases q;exact yh dc
  refine f (s':={s with heap:=h' }) ⟨I.ok,I.e.own (tk:=s.toks) sb (I.ok.nbC x c hc) lc fun o q=>by rw[ec]at q;cases q;exact⟨yh dc,o',e',fun _ _ z=>by rw[dc]at z;cases z⟩,⟨_,hn.at fun o q=>sb _ o (bK (QF hn wc)) q,fun k y d' e1 e2 e3=>?_⟩,fun y c' q=>?_,I.nl,by simpa using I.len⟩ (aia (tk:=s.toks) (.inr ⟨x,hoc,hc⟩) sb ⟨o',e'⟩)
  .by_cases z:k=j
   .subst z
    rw[hi]at e1;cases e1;rw[eF hj]at e2;cases e2;exact⟨u,kp.rp r,.inr ⟨.inl hk,c,hc,wc'⟩⟩
   .rw[cW (bK z)]at e2
    obtain⟨u',r',q⟩:=hl k y d' e1 e2 e3;refine⟨u',kp.rp r',?_⟩;rcases q with⟨k1,e⟩|⟨k1,c',e,w⟩
    .exact .inl ⟨k1,e⟩
    .refine .inr ⟨k1,c',e,w.sameBut hs fun q=>?_⟩
     subst q;exact z (L2.RD hN e1 (I.ok.inj x y c' hc e▸hi))
  .obtain⟨⟨v,w⟩,l⟩:=I.cell y c' q
   refine⟨?_,l⟩;by_cases z:c'=c
   .subst z;exact⟨_,wc'⟩
   .exact⟨v,w.sameBut hs z⟩
theorem Iv.quiet (i:Iv X ρ θ μ s):interactive X.env=false:=by simp[interactive,i.ok.kind]
theorem agI:PSs X [] (fun Z ρ μ=>Z.nx ρ μ):=fun _ i h f=>Oe (f.nx i .refl h)
theorem aep (h1:PS X st w1) (h2:PSs X rest w2):PSs X (st::rest) (fun Z ρ μ=>w1 {Z with nx:=fun ρ' μ'=>w2 Z ρ' μ' } ρ μ):=fun hp i h f=>wpAny_execs_cons (h1 hp i h ⟨fun i1 g1 q=>h2 hp i1 q (f.mono g1),f.bk,f.ct,f.rt,f.xc⟩)
theorem aju (he:PE X e we) (hs:xr e none pos.line X.env=pure false):PS X (.Expr e pos) (fun Z ρ μ=>we ρ μ fun _ μ1=>Z.nx ρ μ1):=fun hp i h f=>wpAny_Expr_any (he i h fun i1 g1 _ q=>f.nx i1 g1.gs q) i.quiet hs
theorem ajs (he:PE X e we):PS X (.Return (some e) pos) (fun Z ρ μ=>we ρ μ Z.rt):=fun hp i h f=>acU (he i h fun i1 g1 r q=>f.rt i1 g1.gs r q)
theorem ak8 (hc:PT X c wt) (ha:PSs X body w1) (hb:PSs X orelse w2):PS X (.If c body orelse pos) (fun Z ρ μ=>wt ρ μ fun t μ1=>if t=true then w1 Z ρ μ1 else w2 Z ρ μ1):=fun hp i h f=>
 wpAny_If (hc i h fun {d u s1 θ1 μ1} i1 g1 r1 h1=>by
  cases r1;cases d with
  |true=>exact ha hp i1 h1 (f.mono g1.gs)|false=>exact hb hp i1 h1 (f.mono g1.gs))
theorem ajr (hc:PT X c wt) (hb:PSs X body w1):PS X (.While c body [] pos) (fun Z ρ μ=>∃ W:Nat->dD->Mem->Prop,(∃ m,W m ρ μ)/\∀ m ρ μ,W m ρ μ->wt ρ μ fun t μ1=>if t=true then w1 {Z with nx:=fun ρ' μ'=>∃ m',m' <m/\W m' ρ' μ',ct:=fun ρ' μ'=>∃ m',m' <m/\W m' ρ' μ',bk:=Z.nx} ρ μ1 else Z.nx ρ μ1):=fun {s ρ θ μ Z Q E} hp i h f=>by
 obtain⟨W,⟨m0,w0⟩,turn⟩:=h;refine wpAny_While (codeAny_whileLoop (fun n s'=>∃ ρ' θ' μ',Iv X ρ' θ' μ' s'/\GS X θ μ s θ' μ' s'/\W n ρ' μ') ?_ m0 ⟨ρ,θ,μ,i,.refl,w0⟩);rintro n s1 ⟨ρ1,θ1,μ1,i1,g1,q1⟩;refine xT hp (hc i1 (turn n ρ1 μ1 q1) fun {t t' s2 θ2 μ2} i2 g2 r2 h2=>?_);cases r2;have g12:=g1.trans g2.gs;cases t with
 |true=>rw[if_pos rfl];refine xT hp (hb hp i2 h2 ?_);have f2:=f.mono g12;exact⟨fun i3 g3 ⟨m',hm,q⟩=>⟨m',hm,_,_,_,i3,g12.trans g3,q⟩,fun i3 g3 q=>f2.nx i3 g3 q,fun i3 g3 ⟨m',hm,q⟩=>⟨m',hm,_,_,_,i3,g12.trans g3,q⟩,f2.rt,f2.xc⟩|false=>rw[if_neg fj];exact Oe (f.nx i2 g12 h2)
def PG (X:Cx) (tg:Expr) (bnd:D->dD->(dD->Prop)->Prop):Prop:=∀ {s:aj} {ρ:dD} {θ:Th} {μ:Mem} {d:D} {u:Value} {k:dD->Prop} {R:Unit->aj->Prop} {E:Value->aj->Prop},Iv X ρ θ μ s->Rp s.heap θ μ d u->bnd d ρ k->
 (∀ {ρ' s'},Iv X ρ' θ μ s'->GS X θ μ s θ μ s'->k ρ'->R () s')->ao X.M X.A (qN tg X.env u) R E s
theorem agT (hN:X.N.Nodup) (hi:X.N[j]?=some x) (hx:Sto X x):PG X (.Name x pos) (fun d ρ k=>eX [j] false d ρ k):=fun i r h f=>Wy (zc i hN hi hx r fun i1 g1=>f i1 g1 h)
def PGs (X:Cx) (ts:List Expr) (is:List Nat):Prop:=∀ {s:aj} {ρ:dD} {θ:Th} {μ:Mem} {ds:List D} {us:List Value} {k:dD->Prop} {R:Unit->aj->Prop} {E:Value->aj->Prop},Iv X ρ θ μ s->c7 s.heap θ μ ds us->ds.length=is.length->
 k ((is.zip ds).foldl (fun r p=>r.set p.1 (some p.2)) ρ)->(∀ {ρ' s'},Iv X ρ' θ μ s'->GS X θ μ s θ μ s'->k ρ'->R () s')->ao X.M X.A (assignInOrder ((qR ts X.env).map (·.2)) us) R E s
theorem agS:PGs X [] []:=fun {s ρ θ μ ds us k R E} i r l h f=>by cases(show ds=[] by simpa using l);cases r.nil_inv;exact assignInOrder_nil (f i .refl (by simpa using h))
theorem aey {ts:List Expr} {is:List Nat} (hN:X.N.Nodup) (hi:X.N[j]?=some x) (hx:Sto X x) (hr:PGs X ts is):PGs X (.Name x pos::ts) (j::is):=fun {s ρ θ μ ds us k R E} i r l h f=>by
 cases ds with
 |nil=>simp at l|cons d ds=>
  obtain⟨u,us,rfl,r1,r2⟩:=r;show ao _ _ (assignInOrder (qN (.Name x pos) X.env::(qR ts X.env).map (·.2)) (u::us)) _ _ _
  refine assignInOrder_cons (Wy (zc i hN hi hx r1 fun {s1} i1 g1=>hr (k:=k) i1 (?_:c7 s1.heap θ μ ds us) (by simpa using l) (by simpa using h) fun i2 g2 q=>f i2 (g1.trans g2) q));exact(i.kpS g1).Fi r2
theorem ajz {ts:List Expr} {is:List Nat} {k} (hc:X.calm=true) (h:PGs X ts is) (hn:(qR ts X.env).length=is.length) (hst:(qR ts X.env).findIdx? (·.1)=none):PG X (.Tuple ts k pos) (fun d ρ k=>eX is true d ρ k):=fun {s ρ θ μ d u kk R E} i r hw f=>by
 unfold eX at hw;split at hw
 .rename_i q;cases q
 .split at hw
  .obtain⟨a,us,rfl,x,l,rs⟩:=r
   refine assign_Tuple_tuple (i.ok.hd hc) (fW x) (by rw[hn,<-hw.1];simpa using rs.length.symm) hst fun h' hx=>?_;have ke:∀ b o,s.heap.get? b=some o->h'.get? b=some o:=fun b o e=>hx b o (jk (eZ e)) e;have i1:Iv X ρ θ μ {s with heap:=h' }:=i.kept (tk:=s.toks) ke;exact h i1 ((jE ke).Fi rs) hw.1 hw.2 fun i2 g2 q=>f i2 ((cV (tk:=s.toks) ke).trans g2) q
  .exact hw.elim
end
end DW
namespace DW
open PySem PySem.Spec PyProof.Rows
open L2 (aN Key frs vC Loc Look Mod sG cT Cls iQ)
section
variable {X:Cx} {ρ:dD} {θ θ1 θ':Th} {μ μ1 μ':Mem} {s s1 s':aj} {j n:Nat} {Q:Value->aj->Prop} {E:Value->aj->Prop} {Z:jM} {x:Str} {p p2 pos pos' tpos:Pos} {a b e o i value tg:Expr} {wa wb we wo wi:WE} {d dp dq:D} {u v:Value} {C:Addr} {c m:String} {op:jx} {K:D->Prop} {bnd:D->dD->(dD->Prop)->Prop}
theorem aes (hN:X.N.Nodup) (hi:X.N[j]?=some x) (hx:Sto X x) (he:PE X e we) (hs:xr e (some (.Name x pos')) pos.line X.env=pure false):PS X (.Assign [.Name x pos'] e pos) (fun Z ρ μ=>we ρ μ fun d μ1=>Z.nx (ρ.set j (some d)) μ1):=fun _ i h f=>wpAny_Assign_Name (he i h fun i1 g1 r1 h1=>zc i1 hN hi hx r1 fun i2 g2=>f.nx i2 (g1.gs.trans g2) h1) hs
theorem ajv (he:PE X e we) (hg:PG X tg bnd) (hs:swapsWithSole [tg] e pos.line X.env=pure false) (hw:V2 [tg] e X.env=pure none) (h1:(qR [tg] X.env).map (·.2)=[qN tg X.env]):
  PS X (.Assign [tg] e pos) (fun Z ρ μ=>we ρ μ fun d μ1=>bnd d ρ fun ρ'=>Z.nx ρ' μ1):=fun _ i h f=>by
 refine wpAny_Assign_stores (he i h fun i1 g1 r1 q1=>?_) hs hw;rw[h1];exact hg i1 r1 q1 fun i2 g2 q2=>f.nx i2 (g1.gs.trans g2) q2
theorem aer {agf:D->D->D->Mem->(Mem->Prop)->Prop} (akg:∀ {s ρ θ μ x y z u v w K R E},Iv X ρ θ μ s->Rp s.heap θ μ x u->Rp s.heap θ μ y v->Rp s.heap θ μ z w->agf x y z μ K->(∀ {s' μ'},Iv X ρ θ μ' s'->G0 X θ μ s θ μ' s'->K μ'->R () s')->ao X.M X.A (Hv u v w) R E s)
  (ho:PE X o wo) (hi:PE X i wi) (hv:PE X value we) (hs:xr value (some (.Subscript o i pos')) pos.line X.env=pure false):
  PS X (.Assign [.Subscript o i pos'] value pos) (fun Z ρ μ=>we ρ μ fun v μ1=>wo ρ μ1 fun x μ2=>wi ρ μ2 fun y μ3=>agf x y v μ3 fun μ4=>Z.nx ρ μ4):=fun _ i h f=>
 wpAny_Assign_Subscript (hv i h fun i1 g1 r1 h1=>ho i1 h1 fun i2 g2 r2 h2=>hi i2 h2 fun i3 g3 r3 h3=>akg i3 ((i2.kp g3).rp r2) r3 ((i1.kp (g2.trans g3)).rp r1) h3 fun i4 g4 h4=>f.nx i4 (((g1.trans g2).trans g3).trans g4).gs h4) hs
theorem afV (rp:Rp s.heap θ μ dp u) (rq:Rp s.heap θ μ dq v) (h:DN op dp dq K) (f:∀ i,K (.int i)->Q (.int i s.toks) {s with toks:=s.toks+1}):ao X.M X.A (inplaceOp op u v) Q E s:=by
 unfold DN at h;split at h
 .obtain⟨t,rfl⟩:=rp
  obtain⟨t',rfl⟩:=rq;cases op with
  |Add=>exact iadd_int (f _ h)|Sub=>exact isub_int (f _ h)|_=>exact h.elim
 .exact h.elim
theorem aeu (ho:PE X o wo) (hi:PE X i wi) (he:PE X e we) (hx:Bg i)
  (ha:∀ ov iv new,augStore i ov iv new=(do tR [new,ov,iv] (Hv ov iv new);release [new,ov,iv] [];pure .next)):PS X (.AugAssign (.Subscript o i tpos) op e pos)
   (fun Z ρ μ=>wo ρ μ fun x μ1=>wi ρ μ1 fun y μ2=>YG x y μ2 fun p μ3=>we ρ μ3 fun q μ4=>DN op p q fun v=>qG x y v μ4 fun μ5=>Z.nx ρ μ5):=fun _ i h f=>by
 refine wpAny_AugAssign_SubscriptAny (ho i h fun i1 g1 r1 h1=>hi i1 h1 fun {d2 u2 s2 θ2 μ2} i2 g2 r2 h2=>?_) ha;have r1':=(i1.kp g2).rp r1;unfold YG at h2;split at h2
 .rename_i n jj
  split at h2
  .rename_i xs hn
   obtain⟨h0,h2⟩:=h2;split at h2
   .rename_i d ed
    obtain⟨t,rfl⟩:=id r2;obtain⟨p,us,rfl,hp,_,q,r⟩:=Iv.lst i2.dG hn r1';obtain⟨w,hw,rw'⟩:=r.get ed;have hl:=(cj.mp hw).1;have l63:=PN;have lz:=q.fix.1;exact wpAny_getItem_list (fY q (by decide)).isList h0 (by lia) (by simpa using hw) (he i2 h2 fun i3 g3 r3 h3=>afV ((i2.kp g3).rp rw') r3 h3 fun k hk=>Ru (Iv.tok i3) ((i2.kp g3).rp r1') ((i2.kp g3).rp r2) iJ hk fun i4 g4 h4=>f.nx i4 (((g1.trans g2).trans g3).trans ((cV fun _ _ e=>e).trans g4)).gs h4)
   .exact h2.elim
  .exact h2.elim
 .exact h2.elim
theorem aa0 (h:dW i=true):∀ ov iv new,augStore i ov iv new=(do tR [new,ov,iv] (Hv ov iv new);release [new,ov,iv] [];pure .next):=by intro ov iv new;cases i<;>first|rfl|exact(fj h).elim
theorem agK (hn:bG X.T.K aQ (aF c)=some (some (.ref C))) (cl:Cls X.T.K C) (na:iQ X.T.K C (aF m)) (ho:PE X o wo) (he:PE X e we) (hs:xr e (some (.Attribute o (aF m) pos')) pos.line X.env=pure false):
  PS X (.Assign [.Attribute o (aF m) pos'] e pos) (fun Z ρ μ=>we ρ μ fun v μ1=>wo ρ μ1 fun x μ2=>kZ c m x v μ2 fun μ3=>Z.nx ρ μ3):=fun _ i h f=>
 plainObj_wpAny_Assign_Attribute (he i h fun i1 g1 r1 h1=>ho i1 h1 fun i2 g2 r2 h2=>YX hn cl na i2 r2 ((i1.kp g2).rp r1) h2 fun i3 g3 h3=>f.nx i3 ((g1.trans g2).trans g3).gs h3) hs
theorem agM (hn:bG X.T.K aQ (aF c)=some (some (.ref C))) (cl:Cls X.T.K C) (na:iQ X.T.K C (aF m)) (ho:PE X o wo) (he:PE X e we):
  PS X (.AugAssign (.Attribute o (aF m) tpos) op e pos) (fun Z ρ μ=>wo ρ μ fun x μ1=>gY c m x μ1 fun p μ1'=>we ρ μ1' fun q μ2=>DN op p q fun v=>kZ c m x v μ2 fun μ3=>Z.nx ρ μ3):=fun _ i h f=>
 wpAny_AugAssign_AttributeAny (ho i h fun {d u s1 θ1 μ1} i1 g1 r1 h1=>by
  unfold gY at h1;split at h1
  .rename_i n fs e'
   split at h1
   .rename_i d' ed
    obtain⟨p,C',mA,rfl,rfl,hp,_,h0,O,_,k1,_⟩:=Qm i1.dG r1 e';rw[hn]at h0;cases h0;obtain⟨u,hu,ru⟩:=k1 _ _ ed;refine L2.get_map i1.Fq O (cl.get _) cl.hd na hu (Ld ru) (he (Iv.tok i1) h1 fun {d2 u2 s2 θ2 μ2} i2 g2 r2 h2=>?_);have kp:Kp θ1 μ1 s1.heap θ2 μ2 s2.heap:=i1.kp ((cV fun _ _ e=>e).trans g2);exact afV (kp.rp ru) r2 h2 fun k hk=>YX hn cl na (Iv.tok i2) (kp.rp r1) iJ hk fun i3 g3 h3=>f.nx i3 (g1.trans ((G.trans (cV fun _ _ e=>e) g2).trans ((cV fun _ _ e=>e).trans g3))).gs h3
   .exact h1.elim
  .exact h1.elim)
end
end DW
namespace DW
open PySem PySem.Spec PyProof.Rows
open L2 (aN Key frs vC Loc Look Mod sG cT Cls iQ)
structure Wk (T:Top) (A:aP) (tg:Expr) (it:Addr) (fp fx:List Addr) (xs:List D) (g:Mem->Prop) (S:Nat->Th->Mem->aq->Prop):Prop where
 obj:∀ {i θ μ h},S i θ μ h->∀ b∈fp,∃ o,h.get? b=some o/\(b∈fx∨¬Fix o)
 exx:∀ {i θ μ h},S i θ μ h->∀ b∈fx,b∈θ.ex
 mono:∀ {i θ μ h θ' μ' h'},S i θ μ h->Kp θ μ h θ' μ' h'->(∀ b∈θ.ex,b∈θ'.ex)->(∀ b∈fp,∀ o,h.get? b=some o->h'.get? b=some o)->S i θ' μ' h'
 item:∀ {i:Nat} {d s θ μ} {Q2:Value->aj->Prop} {E:Value->aj->Prop},S i θ μ s.heap->pD T θ μ s.heap->(∀ b∈fp,¬oY θ μ b)->g μ->xs[i]?=some d->
  (∀ {u h' tk},(∀ b o,b∉fp->s.heap.get? b=some o->h'.get? b=some o)->S (i+1) θ μ h'->Rp h' θ μ d u->Q2 u {s with heap:=h',toks:=tk})->
  ao (aU T.P T.w) A (lV (.ref it)) (fun r s1=>∃ u,r=some u/\ao (aU T.P T.w) A (Ol tg (.ref it) u) (fun _ s2=>Q2 u s2) E s1) E s
 done:∀ {s θ μ} {Q:Option Value->aj->Prop} {E:Value->aj->Prop},S xs.length θ μ s.heap->pD T θ μ s.heap->sG A s.heap->(∀ b∈fp,¬oY θ μ b)->g μ->
  (∀ {h' tk},(∀ b o,b∉fp->s.heap.get? b=some o->h'.get? b=some o)->(∀ b∈fx,∃ o,h'.get? b=some o)->Q none {s with heap:=h',toks:=tk})->ao (aU T.P T.w) A (lV (.ref it)) Q E s
 self:∀ {i s θ μ} {Q:Value->aj->Prop} {E:Value->aj->Prop},S i θ μ s.heap->Q (.ref it) s->ao (aU T.P T.w) A (pyIter (.ref it)) Q E s
def DG (X:Cx) (b:Addr):Prop:=X.T.base.get? b=none/\b∉frs X.stack/\b≠X.env.locals/\∀ x c,X.env.cells.lookup x=some c->c≠b
noncomputable abbrev WI:=dD->Mem->QI->Prop
def PI (X:Cx) (tg iter:Expr) (wi:WI):Prop:=∀ {s:aj} {ρ:dD} {θ:Th} {μ:Mem} {R:QI} {Q:Value->aj->Prop} {E:Value->aj->Prop},Iv X ρ θ μ s->wi ρ μ R->
 (∀ {xs g s' θ' μ' it fp fx S},Iv X ρ θ' μ' s'->G0 X θ μ s θ' μ' s'->Wk X.T X.A tg it fp fx xs g S->S 0 θ' μ' s'.heap->(∀ b∈fp,DG X b/\(¬oY θ' μ' b/\(b∈fx∨b∉θ'.ex))/\s.heap.get? b=none)->xs.length<=sizeLine->R xs g μ'->Q (.ref it) s')->
 ao X.M X.A (eval iter X.env) (fun v s1=>ao X.M X.A (pyIter v) Q E s1) E s
section
variable {X:Cx} {ρ:dD} {θ θ1 θ':Th} {μ μ1 μ':Mem} {s s0 s1 s':aj} {h':aq} {tk:Nat} {fp:List Addr} {b it a:Addr} {F:List Addr} {V:Addr->Prop} {d:D} {ds:List D} {u:Value} {us:List Value}
theorem Iv.rD (i:Iv X ρ θ μ s) (hb:s.heap.objs.size<=b):DG X b/\¬KY θ μ b:=by
 have old:∀ {c o},s.heap.get? c=some o->c≠b:=fun e z=>absurd (jT (eZ e) (z▸hb)) (mG _);refine⟨⟨?_,fun z=>?_,?_,fun x c e=>?_⟩,i.dG.RG hb⟩
 .cases e:X.T.base.get? b with|none=>rfl|some o=>exact(old (i.e.bs b o e).1 rfl).elim
 .obtain⟨_,_,o,_,_,e,_⟩:=i.e.fr z
  exact old e rfl
 .obtain⟨m,⟨o,_,_,e,_⟩,_⟩:=i.loc
  exact(old e).symm
 .obtain⟨⟨v,o,q,_⟩,_⟩:=i.cell x c e
  exact old q
theorem G.IW (g:G V F θ μ s θ1 μ1 s1) (hb:s1.heap.get? b=none):s.heap.get? b=none:=g.Xm hb
theorem Wk.ho {T:Top} {A:aP} {tg:Expr} {fx:List Addr} {xs:List D} {g:Mem->Prop} {S:Nat->Th->Mem->aq->Prop} {k:Nat} (W:Wk T A tg it fp fx xs g S) (st:S k θ μ h') (b:Addr) (hb:b∈fp):b∈θ.ex∨∃ o,h'.get? b=some o/\¬Fix o:=
 let⟨o,x,y⟩:=W.obj st b hb;y.imp (W.exx st b) fun n=>⟨o,x,n⟩
theorem G.none (g:G V F θ μ s θ1 μ1 s1) (hb:s1.heap.objs.size<=b):s.heap.get? b=none:=by
 cases e:s.heap.get? b with
 |none=>rfl|some o=>obtain⟨o',q⟩:=g.there b o e;exact absurd (jT (eZ q) hb) (mG _)
theorem yG (g:G V F θ μ s0 θ1 μ1 s) (fr:∀ b∈fp,s0.heap.get? b=none) (k:∀ b o,b∉fp->s.heap.get? b=some o->h'.get? b=some o):G V F θ μ s0 θ1 μ1 {s with heap:=h',toks:=tk}:=by
 have no:∀ b o,s0.heap.get? b=some o->b∉fp:=fun b o e z=>by rw[fr b z]at e;cases e
 exact⟨g.pre,fun b o e l v=>let⟨l',sl,q,z⟩:=g.keep b o e l v;⟨l',sl,k b _ (no b o e) q,z⟩,fun b o e=>let⟨o',q⟩:=g.there b o e;⟨o',k b o' (no b o e) q⟩,g.stay,g.os,g.ex⟩
theorem Iv.turn (i:Iv X ρ θ μ s) (f:∀ b∈fp,DG X b/\¬oY θ μ b) (ho:∀ b∈fp,b∈θ.ex∨∃ o,s.heap.get? b=some o/\¬Fix o) (k:∀ b o,b∉fp->s.heap.get? b=some o->h'.get? b=some o) (hx:∀ b∈θ.ex,b∈fp->∃ o,h'.get? b=some o):Iv X ρ θ μ {s with heap:=h',toks:=tk}/\Kp θ μ s.heap θ μ h':=by
 have kp:Kp θ μ s.heap θ μ h':=⟨fun _ _ e=>e,fun b o e x l=>⟨k b o (fun z=>(ho b z).elim (fun y=>l (.inl y)) fun⟨o',e',n⟩=>by rw[e]at e';cases e';exact n x) e,l⟩⟩;refine⟨⟨i.ok,⟨i.e.mod,i.e.frames,i.e.bare,fun b o e=>?_,fun v m=>?_,i.dG.mono kp (fun b o l e=>k b o (fun z=>(f b z).2 l) e) (fun b z=>by
  by_cases y:b∈fp
  .exact hx b z y
  .exact let⟨o,q⟩:=i.dG.bnd b (.inl z);⟨o,k b o y q⟩),i.e.hh⟩,?_,fun x c e=>?_,i.nl,i.len⟩,kp⟩
 .obtain⟨e1,l⟩:=i.e.bs b o e
  exact⟨k b o (fun z=>by rw[(f b z).1.1]at e;cases e) e1,l⟩
 .obtain⟨k1,L,o,es,ep,q,nb,ho',hd,l⟩:=i.e.stk v m
  exact⟨k1,L,o,es,ep,q,nb,k L o (fun z=>(f L z).1.2.1 (zF.mpr ⟨v,m,q⟩)) ho',hd,l⟩
 .obtain⟨m,hn,hl⟩:=i.loc
  refine⟨m,hn.at fun o e=>k _ o (fun z=>(f _ z).1.2.2.1 rfl) e,fun j x d e1 e2 e3=>?_⟩;obtain⟨u,r,l⟩:=hl j x d e1 e2 e3;refine⟨u,kp.rp r,l.imp id fun⟨k1,c,e,z⟩=>⟨k1,c,e,?_⟩⟩;obtain⟨o,q,w⟩:=z;exact⟨o,k c o (fun z=>(f c z).1.2.2.2 x c e rfl) q,w⟩
 .obtain⟨⟨v,o,q,w⟩,l⟩:=i.cell x c e
  exact⟨⟨v,o,k c o (fun z=>(f c z).1.2.2.2 x c e rfl) q,w⟩,l⟩
theorem ajt {tg iter:Expr} {body:List Stmt} {pos:Pos} {wi:WI} {bnd:D->dD->(dD->Prop)->Prop} {wb:WS} (hi:PI X tg iter wi) (hg:PG X tg bnd) (hb:PSs X body wb) (hs:∀ x,Ow iter X.env x=pure x):
  PS X (.For tg iter body [] pos) (fun Z ρ μ=>wi ρ μ fun ds g μ1=>DK bnd wb g Z ds ρ μ1):=fun {s ρ θ μ Z Q E} hp i h f=>by
 refine wpAny_For (hi i h fun {xs g s1 θ1 μ1 it fp fx S} i1 g1 W st hf hl h1=>?_) hs;refine codeAny_forLoop_any (fun n s'=>∃ k ρ' θ' μ',n=xs.length -k/\k<=xs.length/\Iv X ρ' θ' μ' s'/\GS X θ μ s θ' μ' s'/\S k θ' μ' s'.heap/\(∀ b∈fp,DG X b/\¬oY θ' μ' b/\(b∈fx∨b∉θ'.ex))/\DK bnd wb g Z (xs.drop k) ρ' μ') ?_ xs.length
  ⟨0,ρ,θ1,μ1,rfl,ju _,i1,g1.gs,st,fun b z=>⟨(hf b z).1,(hf b z).2.1⟩,h1⟩
 rintro n s2 ⟨k,ρ2,θ2,μ2,rfl,hk,i2,g2,st2,f2,h2⟩;have fr:∀ b∈fp,s.heap.get? b=none:=fun b z=>(hf b z).2.2;by_cases hlt:k<xs.length
 .rw[Ho hlt]at h2
  obtain⟨XS,h2⟩:=h2;refine xT hp (j6 (W.item (Q2:=fun u s3=>∃ h' tk,s3={s2 with heap:=h',toks:=tk}/\(∀ b o,b∉fp->s2.heap.get? b=some o->h'.get? b=some o)/\S (k+1) θ2 μ2 h'/\Rp h' θ2 μ2 xs[k] u) st2 i2.dG (fun b z=>(f2 b z).2.1) XS (dw hlt)
   fun ke st3 r3=>⟨_,_,rfl,ke,st3,r3⟩) (fun r s3 ⟨u,hr,h3⟩=>?_) fun _ _ x=>x)
  subst hr;refine xT hp (j6 h3 (fun _ s4 ⟨h',tk,e4,ke,st4,r4⟩=>?_) fun _ _ x=>x);subst e4;obtain⟨i4,kp4⟩:=i2.turn (tk:=tk) (fun b z=>⟨(f2 b z).1,(f2 b z).2.1⟩) (W.ho st2) ke fun b _ z=>let⟨o,x,_⟩:=W.obj st4 b z;⟨o,x⟩;have g4:GS X θ μ s θ2 μ2 {s2 with heap:=h',toks:=tk}:=yG g2 fr ke;refine xT hp (hg i4 r4 h2 fun {ρ5 s5} i5 g5 q5=>xT hp (hb hp i5 q5 ?_));have f5:=f.mono (g4.trans g5);have nxt:∀ {ρ' s' θ' μ'},Iv X ρ' θ' μ' s'->GS X θ2 μ2 s5 θ' μ' s'->DK bnd wb g Z (xs.drop (k+1)) ρ' μ'->∃ m,m<xs.length -k/\∃ k ρ' θ' μ',m=xs.length -k/\k<=xs.length/\Iv X ρ' θ' μ' s'/\GS X θ μ s θ' μ' s'/\S k θ' μ' s'.heap/\(∀ b∈fp,DG X b/\¬oY θ' μ' b/\(b∈fx∨b∉θ'.ex))/\DK bnd wb g Z (xs.drop k) ρ' μ':=fun {ρ' s' θ' μ'} i6 g6 q6=>by
   have g56:=g5.trans g6;have own:∀ b∈fp,¬X.own b:=fun b z y=>by
    rcases y with rfl|⟨x,_,e⟩
    .exact(f2 _ z).1.2.2.1 rfl
    .exact(f2 b z).1.2.2.2 x b e rfl
   have kept:∀ b∈fp,∀ o,h'.get? b=some o->s'.heap.get? b=some o/\¬oY θ' μ' b:=fun b z o e=>by obtain⟨l,sl,q,w⟩:=g56.keep b o e (f2 b z).2.1 (own b z);rw[w (f2 b z).1.2.1]at q;exact⟨q,l⟩
   refine⟨xs.length -(k+1),by lia,k+1,ρ',θ',μ',rfl,hlt,i6,g4.trans g56,W.mono st4 (i4.kpS g56) g56.ex.1 fun b z o e=>(kept b z o e).1,fun b z=>⟨(f2 b z).1,?_⟩,q6⟩;obtain⟨o,e,_⟩:=W.obj st4 b z;exact⟨(kept b z o e).2,(f2 b z).2.2.imp id fun y q=>(g56.ex.2 b q).elim y fun q=>by rw[show h'.get? b=none from q]at e;cases e⟩
  exact⟨nxt,fun i6 g6 q=>f5.nx i6 g6 q,nxt,f5.rt,f5.xc⟩
 .have e:k=xs.length:=by lia
  subst e;rw[acE]at h2;obtain⟨XS,h2⟩:=h2;refine xT hp (W.done (Q:=fun r s3=>r=none/\∃ h' tk,s3={s2 with heap:=h',toks:=tk}/\(∀ b o,b∉fp->s2.heap.get? b=some o->h'.get? b=some o)/\∀ b∈fx,∃ o,h'.get? b=some o) st2 i2.dG i2.e.hds (fun b z=>(f2 b z).2.1) XS (fun ke te=>⟨rfl,_,_,rfl,ke,te⟩)|>fun q=>j6 q (fun r s3 ⟨hr,h',tk,e3,ke,te⟩=>?_) fun _ _ x=>x);subst hr e3;obtain⟨i4,_⟩:=i2.turn (tk:=tk) (fun b z=>⟨(f2 b z).1,(f2 b z).2.1⟩) (W.ho st2) ke fun b y z=>te b ((f2 b z).2.2.resolve_right fun q=>q y);exact Oe (f.nx i4 (yG g2 fr ke) h2)
end
end DW
namespace DW
open PySem PySem.Spec PyProof.Rows
open L2 (aN Key frs vC Loc Look Mod sG cT Aj)
theorem bQ {o:Obj} {vs} {n:String} (h:o.data= .fields vs) (c:o.cls= .type n) (hn:n≠"code"):¬Fix o:=fun f=>by
 rcases f with⟨_,_,f⟩|⟨f,_⟩
 .rw[h]at f;cases f
 .rw[c]at f
  injection f with f;exact hn f
theorem Gi {fp:List Addr} {θ:Th} {μ:Mem} {h h':aq} (ho:∀ b∈fp,∃ o,h.get? b=some o/\¬Fix o) (k:∀ b o,b∉fp->h.get? b=some o->h'.get? b=some o):Kp θ μ h θ μ h' :=
 ⟨fun _ _ e=>e,fun b o e x l=>⟨k b o (fun z=>by obtain⟨o',e',n⟩:=ho b z;rw[e]at e';cases e';exact n x) e,l⟩⟩
section
variable {X:Cx} {tg iter a b c:Expr} {wl:WE} {d0:D} {xs:List D} {g:Mem->Prop} {it ad:Addr} {x:List Nat} {t:Tok} {lo st:Int} {n:Nat} {ws:WA} {p pos:Pos}
theorem agi (hc:X.calm=true) (hA:X.calm=true->X.A.handled=none) (hg:∀ {μ},g μ->aC μ d0=some xs) (hk:U3 d0≠0):Wk X.T X.A tg it [it] [] xs g (fun i θ μ h=>h.IsListIter it ad i/\Rp h θ μ d0 (.ref ad)) where
 obj:=fun⟨⟨o,e,c,d⟩,_⟩ b hb=>by cases cG.mp hb;exact⟨o,e,.inr (bQ d c (by decide))⟩
 exx:=fun _ _ z=>nomatch z
 mono:=fun⟨⟨o,e,r⟩,y⟩ kp _ k=>⟨⟨o,k _ (by simp) _ e,r⟩,kp.rp y⟩
 item:=fun {i d s θ μ Q2 E} st w nl gm hx f=>by obtain⟨⟨o,e,c,dd⟩,r0⟩:=id st;obtain⟨_,us,q,z,r⟩:=vR w r0 (hg gm);cases q;obtain⟨u,hu,ru⟩:=r.get hx;refine wpAny_pyNext_list_item st.1 (fY z hk).isList (x:=u) (by simpa using hu) fun h' st' sb=>?_;have ke:∀ b o,b∉[it]->s.heap.get? b=some o->h'.get? b=some o:=fun b o hb q=>(sb.2 b (by simpa using hb)).trans q;have kp:Kp θ μ s.heap θ μ h':=Gi (fun b hb=>by cases cG.mp hb;exact⟨o,e,bQ dd c (by decide)⟩) ke;obtain⟨o',e',c',d'⟩:=id st';exact⟨u,rfl,Aj (s:={s with heap:=h' }) e' c' d' (by decide) (f (tk:=s.toks) ke ⟨st',kp.rp r0⟩ (kp.rp ru))⟩
 done:=fun {s θ μ Q E} st w hd nl gm f=>by obtain⟨_,us,q,z,r⟩:=vR w st.2 (hg gm);cases q;exact wpAny_pyNext_list_end (hA hc) st.1 (fY z hk).isList (by simp[r.length]) fun h' eb=>f (tk:=s.toks) (fun b o hb q=>eb b o (by simpa using hb) q) fun _ z=>nomatch z
 self:=fun st q=>wpAny_pyIter_listiter st.1 q
theorem aiu (hc:X.calm=true) (hA:X.calm=true->X.A.handled=none):Wk X.T X.A tg it [it] [] xs g (fun i θ μ h=>h.IsTupleIter it ad i/\Rp h θ μ (.tup xs) (.ref ad)) where
 obj:=fun⟨⟨o,e,c,d⟩,_⟩ b hb=>by cases cG.mp hb;exact⟨o,e,.inr (bQ d c (by decide))⟩
 exx:=fun _ _ z=>nomatch z
 mono:=fun⟨⟨o,e,r⟩,y⟩ kp _ k=>⟨⟨o,k _ (by simp) _ e,r⟩,kp.rp y⟩
 item:=fun {i d s θ μ Q2 E} st w nl gm hx f=>by obtain⟨⟨o,e,c,dd⟩,r0⟩:=id st;obtain⟨_,us,q,z,_,r⟩:=id r0;cases q;obtain⟨u,hu,ru⟩:=r.get hx;refine wpAny_pyNext_tuple_item st.1 (show s.heap.IsTuple ad us.toArray from fW z) (x:=u) (by simpa using hu) fun h' st' sb=>?_;have ke:∀ b o,b∉[it]->s.heap.get? b=some o->h'.get? b=some o:=fun b o hb q=>(sb.2 b (by simpa using hb)).trans q;have kp:Kp θ μ s.heap θ μ h':=Gi (fun b hb=>by cases cG.mp hb;exact⟨o,e,bQ dd c (by decide)⟩) ke;obtain⟨o',e',c',d'⟩:=id st';exact⟨u,rfl,Aj (s:={s with heap:=h' }) e' c' d' (by decide) (f (tk:=s.toks) ke ⟨st',kp.rp r0⟩ (kp.rp ru))⟩
 done:=fun {s θ μ Q E} st w hd nl gm f=>by obtain⟨_,us,q,z,_,r⟩:=id st.2;cases q;exact wpAny_pyNext_tuple_end (hA hc) st.1 (show s.heap.IsTuple ad us.toArray from fW z) (by simp[r.length]) fun h' eb=>f (tk:=s.toks) (fun b o hb q=>eb b o (by simpa using hb) q) fun _ z=>nomatch z
 self:=fun st q=>wpAny_pyIter_tupleiter st.1 q
theorem aa6 {ty:String} (hc:X.calm=true) (hA:X.calm=true->X.A.handled=none) (hty:ty="str_ascii_iterator"∨ty="str_iterator"):Wk X.T X.A tg it [it] [] (chars x) g (fun i θ μ h=>h.IsStrIter it ty ⟨x.toArray⟩ t i) where
 obj:=fun⟨o,e,c,d⟩ b hb=>by cases cG.mp hb;exact⟨o,e,.inr (bQ d c (by rcases hty with rfl|rfl<;>decide))⟩
 exx:=fun _ _ z=>nomatch z
 mono:=fun⟨o,e,r⟩ kp _ k=>⟨o,k _ (by simp) _ e,r⟩
 item:=fun {i d s θ μ Q2 E} st w nl gm hx f=>by
  have hn:["enumerate","zip","dict_itemiterator","dict_reverseitemiterator","odict_iterator","itertools.zip_longest","itertools.pairwise"].contains ty=false:=by rcases hty with rfl|rfl<;>decide
  have W:Walks X.T.P X.T.w X.A it [it] [it] (⟨x.toArray⟩:Str).cps.size (SignAt ⟨x.toArray⟩) (fun i h=>h.IsStrIter it ty ⟨x.toArray⟩ t i):=by
   rcases hty with rfl|rfl
   .exact Walks.strAscii (hA hc) it _ t
   .exact Walks.strWide (hA hc) it _ t
  have hx':∃ c,x[i]?=some c/\d= .str [c]:=by simp only[chars,jw]at hx;obtain⟨c,q,rfl⟩:=zH.mp hx;exact⟨c,q,rfl⟩
  obtain⟨c0,q0,rfl⟩:=hx';refine W.item i s _ _ (by simpa using(cj.mp q0).1) st fun v h' tk hv st' ke=>?_;obtain⟨c,u,e1,rfl⟩:=hv;have e1:x[i]?=some c:=by simpa using e1
  rw[q0]at e1;cases e1;obtain⟨o',e',c',d'⟩:=id st';exact⟨_,rfl,Aj (s:={s with heap:=h',toks:=tk}) e' c' d' hn (f (tk:=tk) (fun b o hb q=>ke b o hb q) st' (show Rp _ _ _ (.str [c0]) _ from⟨⟨u,rfl⟩,by rw[cY];simp⟩))⟩
 done:=fun {s θ μ Q E} st w hd nl gm f=>by
  have hl:(chars x).length=x.length:=by simp[chars]
  rw[hl]at st;rcases hty with rfl|rfl
  .exact wpAny_pyNext_ascii_end (hA hc) st (by simp) fun h' eb=>f (tk:=s.toks) (fun b o hb q=>eb b o (by simpa using hb) q) fun _ z=>nomatch z
  .exact wpAny_pyNext_wide_end (hA hc) st (by simp) fun h' eb=>f (tk:=s.toks) (fun b o hb q=>eb b o (by simpa using hb) q) fun _ z=>nomatch z
 self:=fun st q=>by
  rcases hty with rfl|rfl
  .exact wpAny_pyIter_striter_ascii st q
  .exact wpAny_pyIter_striter_wide st q
theorem ajw (hcl:X.calm=true) (hl:PE X iter wl):PI X tg iter (fun ρ μ Q=>wl ρ μ fun d μ1=>lO d μ1 Q):=fun {s ρ θ μ R Q E} i h f=>hl i h fun {d u s1 θ1 μ1} i1 g1 r1 h1=>by
 have fk:∀ b∈[s1.heap.objs.size],DG X b/\(¬oY θ1 μ1 b/\(b∈([]:List Addr)∨b∉θ1.ex))/\s.heap.get? b=none:=fun b hb=>by cases cG.mp hb;exact⟨(i1.rD (aB _)).1,⟨fun y=>(i1.rD (aB _)).2 (.inr y),.inr fun y=>(i1.rD (aB _)).2 (.inl y)⟩,g1.none (aB _)⟩
 have sq:∀ {xs g},(∀ {μ},g μ->aC μ d=some xs)->aC μ1 d=some xs->R xs g μ1->U3 d≠0->ao X.M X.A (pyIter u) Q E s1:=fun {xs g} hg e q hk=>by obtain⟨a,us,rfl,z,r⟩:=vR i1.dG r1 e;refine Ox (fY z hk).isList ?_;exact f (Iv.kept (tk:=s1.toks) i1 cZ) (g1.trans (cV (tk:=s1.toks) cZ)) (agi (ad:=a) hcl i1.ok.hd hg hk) ⟨⟨_,iH _ rfl,rfl,rfl⟩,(jE cZ).rp r1⟩ fk (by rw[<-r.length];exact z.fix.1) q
 unfold lO at h1;split at h1
 .exact sq (fun _=>rfl) rfl h1 (by simp[U3])
 .obtain⟨a,us,rfl,z,_,r⟩:=id r1
  refine wpAny_pyIter_tuple (show s1.heap.IsTuple a us.toArray from fW z) ?_;exact f (Iv.kept (tk:=s1.toks) i1 cZ) (g1.trans (cV (tk:=s1.toks) cZ)) (aiu (ad:=a) hcl i1.ok.hd) ⟨⟨_,iH _ rfl,rfl,rfl⟩,(jE cZ).rp r1⟩ fk (by rw[<-r.length];exact z.fix.1) h1
 .exact sq (fun _=>rfl) rfl h1 (by simp[U3])
 .rename_i x
  obtain⟨⟨t,rfl⟩,hz⟩:=r1;have hl:(chars x).length<=sizeLine:=by simpa[chars]using hz
  cases ha:(⟨x.toArray⟩:Str).cps.all (·<128) with
  |false=>exact wpAny_pyIter_wide ha (f (Iv.kept (tk:=s1.toks) i1 cZ) (g1.trans (cV (tk:=s1.toks) cZ)) (aa6 hcl i1.ok.hd (.inr rfl)) ⟨_,iH _ rfl,rfl,rfl⟩ fk hl h1)|true=>exact wpAny_pyIter_ascii ha (f (Iv.kept (tk:=s1.toks) i1 cZ) (g1.trans (cV (tk:=s1.toks) cZ)) (aa6 hcl i1.ok.hd (.inl rfl)) ⟨_,iH _ rfl,rfl,rfl⟩ fk hl h1)
 .rename_i n
  split at h1
  .rename_i ds hn
   exact sq (fun e=>by simp only[aC,e]) (by simp only[aC,hn]) h1 (by simp[U3])
  .exact h1.elim
 .exact h1.elim
theorem aa7 (hc:X.calm=true) (hA:X.calm=true->X.A.handled=none):Wk X.T X.A tg it [it] [] (wY lo st n) g (fun i θ μ h=>HJ h it (lo+(i:Nat)*st) ((n:Int) -(i:Nat)) st) where
 obj:=fun e b hb=>by cases cG.mp hb;exact⟨_,e,.inr (bQ rfl rfl (by decide))⟩
 exx:=fun _ _ z=>nomatch z
 mono:=fun e kp _ k=>k _ (by simp) _ e
 item:=fun {i d s θ μ Q2 E} st' w nl gm hx f=>by
  have W:=Walks.range (prog:=X.T.P) (w:=X.T.w) (hA hc) it lo st n;have hi:i<n:=by have:=(cj.mp hx).1;simpa[wY]using this
  refine W.item i s _ _ hi st' fun v h' tk hv st2 ke=>?_;obtain⟨t,rfl⟩:=hv;exact⟨_,rfl,Aj (s:={s with heap:=h',toks:=tk}) (n:="range_iterator") st2 rfl rfl (by decide) (f (tk:=tk) (fun b o hb q=>ke b o hb q) st2 (by (have e:d= .int (lo+(i:Int)*st):=by simpa[wY,hi]using hx.symm);rw[e];exact iJ))⟩
 done:=fun {s θ μ Q E} st' w hd nl gm f=>by
  have hl:(wY lo st n).length=n:=by simp[wY]
  rw[hl]at st';exact wpAny_pyNext_range_end (hA hc) st' (by lia) fun h' eb=>f (tk:=s.toks) (fun b o hb q=>eb b o (by simpa using hb) q) fun _ z=>nomatch z
 self:=fun st q=>adQ st q
theorem Z0:Wk X.T X.A tg it [it] [] (eU lo n) g (fun i θ μ h=>HJ h it (lo+(i:Nat)*1) ((n:Int) -(i:Nat)) 1) where
 obj:=fun e b hb=>by cases cG.mp hb;exact⟨_,e,.inr (bQ rfl rfl (by decide))⟩
 exx:=fun _ _ z=>nomatch z
 mono:=fun e kp _ k=>k _ (by simp) _ e
 item:=fun {i d s θ μ Q2 E} st' w nl gm hx f=>by
  have hi:i<n:=by have:=(cj.mp hx).1;simpa[eU]using this
  refine wpAny_pyNext_range_item st' (by lia) fun h' st2 sb=>?_;have e1:lo+((i+1:Nat):Int)*1=lo+(i:Int)*1+1:=by push_cast;lia
  have e2:(n:Int) -((i+1:Nat):Int)=(n:Int) -(i:Int) -1:=by push_cast;lia
  exact⟨_,rfl,Aj (s:={s with heap:=h',toks:=s.toks+1}) (n:="range_iterator") st2 rfl rfl (by decide) (f (tk:=s.toks+1) (fun b o hb q=>(sb.2 b (by simpa using hb)).trans q) (by rw[e1,e2];exact st2) (by (have e:d= .int (lo+(i:Int)):=by simpa[eU,hi]using hx.symm);rw[e];exact mQ (by rw[Int.mul_one])))⟩
 done:=fun {s θ μ Q E} st' w hd nl gm f=>by
  have hl:(eU lo n).length=n:=by simp[eU]
  rw[hl]at st';exact L2.U9 hd st' (by lia) fun h' eb=>f (tk:=s.toks) (fun b o hb q=>eb b o (by simpa using hb) q) fun _ z=>nomatch z
 self:=fun st q=>adQ st q
theorem range_one {R:QI} {s:aj} {ρ:dD} {θ:Th} {μ:Mem} {lo hi:Int} {u v w:Tok} {tk:Nat} {Q:Value->aj->Prop} {E:Value->aj->Prop} (i:Iv X ρ θ μ s) (h1: -(2 ^ 62)<=lo) (h2:lo<2 ^ 62) (h3: -(2 ^ 62)<=hi) (h4:hi<2 ^ 62) (hl:hi -lo<=lim)
  (q:R (eU lo (hi -lo).toNat) (fun _=>True) μ)
  (f:∀ {xs g s' θ' μ' it fp fx S},Iv X ρ θ' μ' s'->G0 X θ μ s θ' μ' s'->Wk X.T X.A tg it fp fx xs g S->S 0 θ' μ' s'.heap->(∀ b∈fp,DG X b/\(¬oY θ' μ' b/\(b∈fx∨b∉θ'.ex))/\s.heap.get? b=none)->xs.length<=sizeLine->R xs g μ'->Q (.ref it) s'):
  ao X.M X.A (pyIter (.ref s.heap.objs.size)) Q E {s with heap:=s.heap.push {cls:=.type "range",data:=.fields #[.int lo u,.int hi v,.int 1 w]},toks:=tk}:=by
 refine ac7 (ab1 ..) (small_one h1 h2 h3 h4) ?_;have i1:Iv X ρ θ μ {s with heap:=s.heap.push {cls:=.type "range",data:=.fields #[.int lo u,.int hi v,.int 1 w]},toks:=tk}:=i.kept cZ;have sz:(s.heap.push {cls:=.type "range",data:=.fields #[.int lo u,.int hi v,.int 1 w]}).objs.size=s.heap.objs.size+1:=xP ..;have g1:G0 X θ μ s θ μ {s with heap:=s.heap.push {cls:=.type "range",data:=.fields #[.int lo u,.int hi v,.int 1 w]},toks:=tk}:=cV cZ;refine f (Iv.kept (tk:=tk) i1 cZ) (g1.trans (cV (tk:=tk) cZ)) (Z0 (lo:=lo) (n:=(hi -lo).toNat)) ?_ (fun b hb=>by cases cG.mp hb;exact⟨(i1.rD (aB _)).1,⟨fun y=>(i1.rD (aB _)).2 (.inr y),.inr fun y=>(i1.rD (aB _)).2 (.inl y)⟩,g1.none (aB _)⟩) ?_ q
 .have e1:lo+((0:Nat):Int)*1=lo:=by simp
  have e2:(((hi -lo).toNat:Nat):Int) -((0:Nat):Int)=Pa lo hi 1:=by rw[rangeSize_one];split<;>lia
  show HJ _ _ (lo+((0:Nat):Int)*1) ((((hi -lo).toNat:Nat):Int) -((0:Nat):Int)) 1;rw[e1,e2];exact iH _ rfl
 .have:lim=16777216:=rfl
  rw[this]at hl;simp only[eU,aR,Wx];rw[cY];lia
theorem abR (a b c:Int) (hc:c≠0):0<=tH a b c:=by
 unfold tH;split
 .rename_i h
  split
  .have:0<=(b -a -1)/c:=acA (by lia) (by lia)
   lia
  .exact Vu _
 .split
  .have:0<=(a -b -1)/(-c):=acA (by lia) (by lia)
   lia
  .exact Vu _
theorem aiX {a b c:Int} (h1: -(2 ^ 30)<a) (h2:a<2 ^ 30) (h3: -(2 ^ 30)<b) (h4:b<2 ^ 30) (h5: -(2 ^ 30)<c) (h6:c<2 ^ 30) (h7:tH a b c<=lim) (hc:c≠0):adn a b c=true:=by
 have h8:=abR a b c hc;have hl:lim=16777216:=rfl;rw[hl]at h7;have e3:Pa a b c=tH a b c:=rfl;unfold adn;rw[e3];by_cases hp:c>0
 .simp only[hp,if_true,aej,bL,xU,decide_eq_true_eq,beq_iff_eq];lia
 .simp only[hp,if_false,aej,bL,xU,decide_eq_true_eq,beq_iff_eq];lia
theorem ajy {es:List Expr} {e:Expr} (ha:Ar X (e::es) ws) (hg:Gl X (aF "range")) (hm:X.T.mg (aF "range")=none) (hk:es.length=2->X.calm=true):
  PI X tg (.Call (.Name (aF "range") p) (e::es) [] pos) (fun ρ μ Q=>ws ρ μ fun ds μ1=>Bl (es.length+1) ds μ1 Q):=fun {s ρ θ μ R Q E} i h f=>by
 refine Call_ (uF i hg hm boot_range (by decide+kernel) (by decide+kernel) (Pr (ha.pa pos i h fun {ds us s1 θ1 μ1} i1 g1 r1 h1=>?_) (ha.st rfl) ha.akI));have hl:lim=16777216:=rfl;unfold Bl at h1;split at h1
 .obtain⟨u,rfl,⟨t,rfl⟩⟩:=r1.iW
  obtain⟨k1,k2,k3⟩:=h1;exact call_range_1 (range_one (R:=R) i1 (by lia) (by lia) k2 (by rw[hl]at k1;lia) (by lia) (by simpa using k3) fun i2 g2 W st fk l q=>f i2 (g1.trans g2) W st (fun b z=>⟨(fk b z).1,(fk b z).2.1,g1.IW (fk b z).2.2⟩) l q)
 .rename_i j k c hn
  obtain⟨u,us,rfl,⟨t,rfl⟩,r2⟩:=r1;obtain⟨v,w,rfl,⟨t',rfl⟩,⟨t2,rfl⟩⟩:=r2.yV;obtain⟨⟨q0,q1,q2,q3,q4,q5,q6,q7⟩,q⟩:=h1;refine call_range_3 q0 ?_ (.inl (PyProof.noPylong_small (by lia)));refine ac7 (ab1 ..) (aiX q2 q3 q4 q5 q6 q7 q1 q0) ?_;have i2:Iv X ρ θ1 μ1 {s1 with heap:=s1.heap.push {cls:=.type "range",data:=.fields #[.int j t,.int k t',.int c t2]},toks:=s1.toks}:=i1.kept cZ;have g2:G0 X θ μ s θ1 μ1 {s1 with heap:=s1.heap.push {cls:=.type "range",data:=.fields #[.int j t,.int k t',.int c t2]},toks:=s1.toks}:=g1.trans (cV cZ);have hc:X.calm=true:=hk (by lia);refine f (Iv.kept (tk:=s1.toks) i2 cZ) (g2.trans (cV (tk:=s1.toks) cZ)) (aa7 (lo:=j) (st:=c) (n:=(tH j k c).toNat) hc i1.ok.hd) ?_ (fun b hb=>by cases cG.mp hb;exact⟨(i2.rD (aB _)).1,⟨fun y=>(i2.rD (aB _)).2 (.inr y),.inr fun y=>(i2.rD (aB _)).2 (.inl y)⟩,g2.none (aB _)⟩) ?_ q
  .have e1:j+((0:Nat):Int)*c=j:=by simp
   have e2:(((tH j k c).toNat:Nat):Int) -((0:Nat):Int)=Pa j k c:=by have:=abR j k c q0;have e3:Pa j k c=tH j k c:=rfl;rw[e3];lia
   show HJ _ _ (j+((0:Nat):Int)*c) ((((tH j k c).toNat:Nat):Int) -((0:Nat):Int)) c;rw[e1,e2];exact iH _ rfl
  .simp only[wY,aR,Wx]
   rw[hl]at q1;rw[cY];lia
 .obtain⟨u,v,rfl,⟨t,rfl⟩,⟨t',rfl⟩⟩:=r1.yV
  obtain⟨⟨k0,k1,k2,k3,k4⟩,k5⟩:=h1;exact call_range_2 (range_one (R:=R) i1 k1 k2 k3 k4 k0 k5 fun i2 g2 W st fk l q=>f i2 (g1.trans g2) W st (fun b z=>⟨(fk b z).1,(fk b z).2.1,g1.IW (fk b z).2.2⟩) l q)
 .exact h1.elim
end
end DW
namespace L2
open PySem PySem.Spec PyProof.Rows
theorem pq:∀ (names:List (Str×gJ)) (acc:List (Str×Addr)),(∀ y∈names,y.2= .free->∃ c,env.cells.lookup y.1=some c)->
  (∀ y c,acc.lookup y=some c->env.cells.lookup y=some c)->
  ∃ cl:List (Str×Addr),(forIn names acc fun(x:Str×gJ) (r:List (Str×Addr))=>match x with
   |(name,kind)=>if(kind== .free)=true then(do let c<-cellOf env name;pure (Cq ((name,c)::r)))else pure (Cq r))=(pure cl:Sem (List (Str×Addr)))/\
   (∀ y c,cl.lookup y=some c->env.cells.lookup y=some c)/\(∀ y,(acc.lookup y).isSome=true->(cl.lookup y).isSome=true)/\∀ y∈names,y.2= .free->(cl.lookup y.1).isSome=true
 |[],acc,_,h2=>⟨acc,by simp,h2,fun _ h=>h,fun y hy=>nomatch hy⟩|(n,k)::r,acc,h1,h2=>by
  by_cases hk:k= .free
  .subst hk
   obtain⟨c,hc⟩:=h1 (n,.free) xZ rfl;obtain⟨cl,e1,e2,e3,e4⟩:=pq r ((n,c)::acc) (fun y hy=>h1 y (jU _ hy)) (fun y d hy=>by
    rw[jl]at hy;split at hy
    .rename_i hb
     rw[eq_of_beq hb];cases hy;exact hc
    .exact h2 y d hy)
   refine⟨cl,?_,e2,fun y hy=>e3 y ?_,fun y hy hf=>?_⟩
   .rw[Oh]
    simp only[beq_self_eq_true,if_true];(have:cellOf env n=pure c:=by unfold cellOf;rw[hc]);rw[this,pure_bind,pure_bind];exact e1
   .rw[jl];split<;>simp_all
   .rcases bC.mp hy with rfl|hy
    .exact e3 n (by simp[jl])
    .exact e4 y hy hf
  .obtain⟨cl,e1,e2,e3,e4⟩:=pq r acc (fun y hy=>h1 y (jU _ hy)) h2
   refine⟨cl,?_,e2,e3,fun y hy hf=>?_⟩
   .rw[Oh]
    (have hb:(k==mF)=false:=by simpa using hk);simp only[hb,bZ,if_false];rw[pure_bind];exact e1
   .rcases bC.mp hy with rfl|hy
    .exact absurd hf hk
    .exact e4 y hy hf
theorem mj (h:∀ y∈scope.names,y.2= .free->∃ c,env.cells.lookup y.1=some c):
  ∃ cl,Vo scope env=pure cl/\(∀ y c,cl.lookup y=some c->env.cells.lookup y=some c)/\∀ y∈scope.names,y.2= .free->(cl.lookup y.1).isSome=true:=by
 obtain⟨cl,e1,e2,_,e4⟩:=pq scope.names [] h (fun y c hy=>by simp at hy);refine⟨cl,?_,e2,e4⟩;unfold Vo;simp only[bind_pure];exact e1
theorem fG {env:Env}:∀ {names:List (Str×gJ)} {x:Str},names.lookup x=some .free->
  (names.map fun(n,k)=>if(k==mF&&env.scope.kind== .function&&env.kindOf n==some .cell)then(n,oH)else(n,k)).lookup x=some .free∨
  (names.map fun(n,k)=>if(k==mF&&env.scope.kind== .function&&env.kindOf n==some .cell)then(n,oH)else(n,k)).lookup x=some .cell
 |[],_,h=>by simp at h|(n,k)::r,x,h=>by
  have ih:=@fG env r x;show HD x ((if(k==mF&&env.scope.kind== .function&&env.kindOf n==some .cell)=true then(n,oH)else(n,k))::_)=_∨HD x ((if(k==mF&&env.scope.kind== .function&&env.kindOf n==some .cell)=true then(n,oH)else(n,k))::_)=_;by_cases hc:(k==mF&&env.scope.kind== .function&&env.kindOf n==some .cell)=true
  .rw[if_pos hc]
   cases hx:x==n with
   |true=>right;simp only[jl,hx]|false=>simp only[jl,hx]at h ⊢;exact ih h
  .rw[if_neg hc]
   cases hx:x==n with
   |true=>simp only[jl,hx]at h ⊢;exact .inl h|false=>simp only[jl,hx]at h ⊢;exact ih h
theorem vW {env:Env}:∀ {names:List (Str×gJ)} {x:Str},names.lookup x=some .globalImplicit->
  (names.map fun(n,k)=>if(k==mF&&env.scope.kind== .function&&env.kindOf n==some .cell)then(n,oH)else(n,k)).lookup x=some .globalImplicit
 |[],_,h=>by simp at h|(n,k)::r,x,h=>by
  have ih:=@vW env r x;show HD x ((if(k==mF&&env.scope.kind== .function&&env.kindOf n==some .cell)=true then(n,oH)else(n,k))::_)=_;by_cases hc:(k==mF&&env.scope.kind== .function&&env.kindOf n==some .cell)=true
  .rw[if_pos hc]
   cases hx:x==n with
   |true=>
    simp only[jl,hx]at h;have:k= .free:=by rw[bL,bL]at hc;simpa using hc.1.1
    rw[this]at h;cases h
   |false=>simp only[jl,hx]at h ⊢;exact ih h
  .rw[if_neg hc]
   cases hx:x==n with
   |true=>simp only[jl,hx]at h ⊢;exact h|false=>simp only[jl,hx]at h ⊢;exact ih h
theorem zE (h:scope.names.lookup x=some .globalImplicit):(Hs scope env).names.lookup x=some .globalImplicit:=vW h
theorem qL {env:Env}:∀ {names:List (Str×gJ)} {x:Str},names.lookup x=some .cell->
  (names.map fun(n,k)=>if(k==mF&&env.scope.kind== .function&&env.kindOf n==some .cell)then(n,oH)else(n,k)).lookup x=some .cell
 |[],_,h=>by simp at h|(n,k)::r,x,h=>by
  have ih:=@qL env r x;show HD x ((if(k==mF&&env.scope.kind== .function&&env.kindOf n==some .cell)=true then(n,oH)else(n,k))::_)=_;by_cases hc:(k==mF&&env.scope.kind== .function&&env.kindOf n==some .cell)=true
  .rw[if_pos hc]
   cases hx:x==n with
   |true=>simp only[jl,hx]|false=>simp only[jl,hx]at h ⊢;exact ih h
  .rw[if_neg hc]
   cases hx:x==n with
   |true=>simp only[jl,hx]at h ⊢;exact h|false=>simp only[jl,hx]at h ⊢;exact ih h
theorem iB:∀ (names:List (Str×gJ)) (n:Nat) (acc:List (Str×Addr)),je n names acc=je n names []++acc
 |[],n,acc=>rfl|(x,k)::r,n,acc=>by
  unfold je;split
  .rw[iB r (n+1) ((x,n)::acc),iB r (n+1) [(x,n)]];simp
  .exact iB r n acc
theorem qC:∀ (names:List (Str×gJ)) (n:Nat) (y:Str) (c:Addr),(y,c)∈je n names []->(y,oH)∈names
 |[],n,y,c,h=>by simp[je]at h|(x,k)::r,n,y,c,h=>by
  unfold je at h;split at h
  .rename_i hk
   rw[iB]at h;rcases iG.mp h with z|z
   .exact jU _ (qC r _ y c z)
   .simp only[bC,tL,or_false,HY]at z
    obtain⟨rfl,_⟩:=z;rw[eq_of_beq hk];exact xZ
  .exact jU _ (qC r _ y c h)
theorem mW:∀ (names:List (Str×gJ)) (n:Nat) (y:Str),(y,oH)∈names->((je n names []).lookup y).isSome=true
 |[],n,y,h=>by simp at h|(x,k)::r,n,y,h=>by
  unfold je;rcases bC.mp h with z|z
  .cases z
   rw[if_pos (by rfl),iB,OD];cases q:(je (n+1) r []).lookup x with
   |some c=>rfl|none=>simp[jl]
  .split
   .rw[iB,OD]
    have:=mW r (n+1) y z;obtain⟨c,e⟩:=Ea.mp this;rw[e];rfl
   .exact mW r n y z
theorem uh 
  (hQ:Q (newEnv scope s.heap.objs.size globals (je (s.heap.objs.size+1) scope.names cl) qual none .none (some env) Ny) {s with heap:=pushCells (s.heap.push {cls:=.type "dict",data:=.dict #[]}) scope.names}):
  ao M A (Wc scope globals cl [] qual none .none (some env)) Q E s:=by
 simp only[Wc,adb,if_true];refine au (wpAny_alloc ?_);refine au (wpAny_layCells _ (fun name kind cells=>by cases hkc:kind==oH<;>simp[hkc]) _ _ _ _ ?_);rw[show({s with heap:=s.heap.push {cls:=.type "dict",data:=.dict #[]}}:aj).heap.objs.size=s.heap.objs.size+1 from xP ..];rw[Wb];exact au (aG (aG hQ))
theorem gD {env:Env}:∀ {names:List (Str×gJ)} {x:Str} {k:gJ},
  (names.map fun(n,k)=>if(k==mF&&env.scope.kind== .function&&env.kindOf n==some .cell)then(n,oH)else(n,k)).lookup x=some k->
  names.lookup x=some k∨(k= .cell/\names.lookup x=some .free)
 |[],_,_,h=>by simp at h|(n,k0)::r,x,k,h=>by
  have ih:=@gD env r x k;have h':HD x ((if(k0==mF&&env.scope.kind== .function&&env.kindOf n==some .cell)=true then(n,oH)else(n,k0))::(r.map fun(n,k)=>if(k==mF&&env.scope.kind== .function&&env.kindOf n==some .cell)then(n,oH)else(n,k)))=some k:=h;by_cases hc:(k0==mF&&env.scope.kind== .function&&env.kindOf n==some .cell)=true
  .rw[if_pos hc]at h'
   cases hx:x==n with
   |true=>
    simp only[jl,hx]at h' ⊢;cases h';have:k0= .free:=by rw[bL,bL]at hc;simpa using hc.1.1
    exact .inr ⟨rfl,by rw[this]⟩
   |false=>simp only[jl,hx]at h' ⊢;exact ih h'
  .rw[if_neg hc]at h'
   cases hx:x==n with
   |true=>simp only[jl,hx]at h' ⊢;exact .inl h'|false=>simp only[jl,hx]at h' ⊢;exact ih h'
section
variable {X:Cx} {elt iter tg:Expr} {xs:List Str} {scope:Scope} {Nc:List Str} {cap:List Nat} {cl:List (Str×Addr)}
 {pins:List (Addr×Obj)} {s2:aj} {σ:St} {H2:Hp} {it:Addr} {fp:List Addr} {tn:Nat->aq->Prop} {J:It}
theorem yM {prog:bN} {w:aO} {A:aP} {R:xq->aj->Prop} {s:aj} {elt tg iter:Expr} {ifs:List Expr} {scope:Scope} {pos:Pos} {it acc:Value} {env:Env} (J:Nat->aj->Prop)
  (turn:∀ m s0,J m s0->ao (aU prog w) A (lV it) (fun r s1=>match r with
   |none=>R (.ok .next) s1| some v=>ao (aU prog w) A (Ol tg it v) (fun _ s2=>ao (aU prog w) A (qN tg env v) (fun _ s3=>
     ao (aU prog w) A (forIn ifs true fun c r=>if r=true then do let ok<-w7 c env (eval c env);pure (Cq ok)else pure (Cq r)) (fun b s4=>
      if b=true then ao (aU prog w) A (eval elt env) (fun x s5=>ao (aU prog w) A (call (.builtin "list.append") [acc,x]) (fun _ s6=>∃ k,k<m/\J k s6) (BR (aU prog w) A env fun e z=>R (.error e) z) s5) (BR (aU prog w) A env fun e z=>R (.error e) z) s4
      else ∃ k,k<m/\J k s4) (BR (aU prog w) A env fun e z=>R (.error e) z) s3) (BR (aU prog w) A env fun e z=>R (.error e) z) s2) (BR (aU prog w) A env fun e z=>R (.error e) z) s1) (BR (aU prog w) A env fun e z=>R (.error e) z) s0)
  (m:Nat) (h:J m s):ni (aU prog w) A (.compLoop (.ListComp elt [⟨tg,iter,ifs,0⟩] scope pos) 0 it acc env) R s:=by
 refine codeAny_loop rfl J ?_ m h;intro m s0 h0;have q:=turn m s0 h0;show ao _ A (Sem.onRaise (compTurn (.ListComp elt [⟨tg,iter,ifs,0⟩] scope pos) 0 it acc env) _) _ _ s0;apply wpAny_noted;rw[compTurn_list];apply au;apply V1;refine au (thn q ?_);rintro(_|v) s1 q
 .exact aG q
 refine au (thn q ?_);intro _ s2 q;refine au (thn q ?_);intro _ s3 q;refine au (thn q ?_);rintro(_|_) s4 q
 .exact aG ⟨rfl,q⟩
 refine au (au (thn q ?_));intro x s5 q;refine au (thn q ?_);intro _ s6 q;exact aG (aG ⟨rfl,q⟩)
end
end L2
namespace DW
open PySem PySem.Spec PyProof.Rows
open L2 (aN Key frs vC Loc Look Mod sG cT mj fG gD iB qC mW uh yM)
def cX (X:Cx) (Nc:List Str) (scope:Scope) (cl:List (Str×Addr)) (C:Addr):Cx:={X with N:=Nc,env:=Nk scope cl C X.env,oc:=fun y=>scope.names.lookup y==some .cell}
structure vD (X:Cx) (n:Nat) (scope:Scope) (Nc:List Str) (cap:List Nat):Prop where
 kind:scope.kind= .function
 cells:∀ y∈scope.names,y.2= .cell->scope.names.lookup y.1=some .cell
 names:∀ y∈scope.names,y.2= .local->scope.names.lookup y.1=some .local
 nd:Nc.Nodup
 caps:∀ (j:Nat) (y:Str),Nc[n+j]?=some y->∃ i,cap[j]?=some i/\X.N[i]?=some y/\scope.names.lookup y=some .free
 len:Nc.length=n+cap.length
 free:∀ y∈scope.names,y.2= .free->X.env.kindOf y.1=some .cell∨X.env.kindOf y.1=some .free
def PIf (X:Cx) (ifs:List Expr) (w:WT):Prop:=Jg X Alike (forIn ifs true fun c r=>if r=true then do let ok<-w7 c X.env (eval c X.env);pure (Cq ok)else pure (Cq r)) w
noncomputable abbrev QG (cap:List Nat) (ρ:dD):dD:=cap.map fun i=>(ρ[i]?).join
section
variable {X:Cx} {ρ:dD} {θ θ1 θ':Th} {μ μ1 μ':Mem} {s s0 s1 s':aj} {h₁:aq} {tk n:Nat} {fp:List Addr} {b it D C:Addr} {scope:Scope} {Nc:List Str} {cap:List Nat} {cl cf:List (Str×Addr)} {c elt iter tg:Expr} {ifs:List Expr} {w:WT} {pos:Pos}
theorem agQ:PIf X [] (fun _ μ Q=>Q true μ):=fun i h f=>by rw[Wb];exact aG (f i .refl rfl h)
theorem agP (hc:PT X c w):PIf X [c] w:=fun i h f=>by rw[Oh];simp only[if_true];refine au (au (hc i h fun i1 g1 r1 h1=>aG ?_));show ao _ _ (forIn ([]:List Expr) _ _) _ _ _;rw[Wb];exact aG (f i1 g1 r1 h1)
theorem ahG (T:vD X n scope Nc cap) (i:Iv X ρ θ μ s) (hD:s.heap.objs.size<=D) (hC:s.heap.objs.size<=C) (old:∀ b o,s.heap.get? b=some o->h₁.get? b=some o) (eD:∃ o,h₁.get? D=some o) (hns:h₁.Ns C fun _=>none)
  (hcl:∀ y c,cf.lookup y=some c->(scope.names.lookup y≠some .cell/\X.env.cells.lookup y=some c)∨(scope.names.lookup y=some .cell/\s.heap.objs.size<=c/\h₁.IsCell c none)) (akh:∀ y z c,cf.lookup y=some c->cf.lookup z=some c->y=z)
  (afi:∀ y∈scope.names,(y.2= .free∨y.2= .cell)->(cf.lookup y.1).isSome=true):
  Iv (cX X Nc scope cf C) (bD n none++QG cap ρ) ⟨θ.cs,D::θ.ex⟩ μ {s with heap:=h₁,toks:=tk}/\Kp θ μ s.heap ⟨θ.cs,D::θ.ex⟩ μ h₁:=by
 have kp:Kp θ μ s.heap ⟨θ.cs,D::θ.ex⟩ μ h₁:=⟨fun _ _ e=>e,fun b o e f l=>⟨old b o e,fun z=>by
  rcases z with z|z
  .rcases bC.mp z with rfl|z
   .exact absurd (jT (eZ e) hD) (mG _)
   .exact l (.inl z)
  .exact l (.inr z)⟩⟩
 have fr:∀ {b},s.heap.objs.size<=b->X.T.base.get? b=none/\¬oY θ μ b:=fun hb=>⟨(i.rD hb).1.1,fun z=>(i.rD hb).2 (.inr z)⟩;have kinds:∀ y,((Nk scope cf C X.env).kindOf y=some .cell∨(Nk scope cf C X.env).kindOf y=some .free)->scope.names.lookup y=some .free∨scope.names.lookup y=some .cell:=fun y hy=>by
  rcases hy with hy|hy
  .rcases gD (env:=X.env) (show(scope.names.map _).lookup y=some .cell from hy)with z|⟨_,z⟩
   .exact .inr z
   .exact .inl z
  .rcases gD (env:=X.env) (show(scope.names.map _).lookup y=some .free from hy)with z|⟨z,_⟩
   .exact .inl z
   .cases z
 refine⟨⟨⟨T.kind,i.ok.glob,i.ok.blt,akh,fun y hy=>?_,i.ok.hd,(fr hC).1,fun y c h=>?_⟩,⟨i.e.mod,i.e.frames,i.e.bare,fun b o e=>⟨old b o (i.e.bs b o e).1,(i.e.bs b o e).2⟩,fun v m=>?_,i.dG.ex kp (fun b o _ e=>old b o e) fun b z=>?_,i.e.hh⟩,⟨_,hns,fun j y d h1 h2 h3=>?_⟩,fun y c h=>?_,(fr hC).2,?_⟩,kp⟩
 .rcases kinds y hy with z|z
  .exact Ea.mp (afi _ (oM z) (.inl rfl))
  .exact Ea.mp (afi _ (oM z) (.inr rfl))
 .rcases hcl y c h with⟨_,z⟩|⟨_,z,_⟩
  .exact i.ok.nbC y c z
  .exact(fr z).1
 .obtain⟨k,L,o,es,ep,f,nb,ho,hd,l⟩:=i.e.stk v m
  exact⟨k,L,o,es,ep,f,nb,old L o ho,hd,l⟩
 .rcases bC.mp z with rfl|z
  .exact⟨eD,(fr hD).2⟩
  .exact⟨let⟨o,q⟩:=i.dG.bnd b (.inl z);⟨o,old b o q⟩,i.dG.exc b z⟩
 .by_cases hix:j<n
  .rw[fQ (by simpa using hix),adY]at h2
   split at h2<;>cases h2
  .obtain⟨j,rfl⟩:∃ k,j=n+k:=⟨j -n,by lia⟩
   obtain⟨i',e1,e2,e3⟩:=T.caps j y h1;have hv:ρ[i']?=some (some d):=by
    rw[pX (by simp)]at h2;simp only[adI,CN,QG,jw,e1,gF,pU]at h2;cases q:ρ[i']? with
    |none=>rw[q]at h2;cases h2
    |some w'=>rw[q]at h2;simp only[ud]at h2;rw[h2]
   obtain⟨mo,hno,hlo⟩:=i.loc;have hk:=T.free _ (oM e3) rfl;obtain⟨u,r,l⟩:=hlo i' y d e2 hv (hk.elim (fun k=>.inr (.inl k)) fun k=>.inr (.inr k));refine⟨u,kp.rp r,.inr ⟨(fG (env:=X.env) e3).symm,?_⟩⟩;rcases l with⟨k,_⟩|⟨_,c,e,z⟩
   .rcases hk with k' |k' <;>(rw[k]at k';cases k')
   .obtain⟨c',ec⟩:=Ea.mp (afi _ (oM e3) (.inl rfl))
    have ew:X.env.cells.lookup y=some c':=by
     rcases hcl y c' ec with⟨_,w⟩|⟨w,_⟩
     .exact w
     .rw[e3]at w;cases w
    have e':some c=some c':=e.symm.trans ew;cases e';obtain⟨oc,q1,q2⟩:=z;exact⟨c,ec,oc,old _ _ q1,q2⟩
 .rcases hcl y c h with⟨_,w⟩|⟨_,w,z⟩
  .obtain⟨⟨v,oc,q1,q2⟩,l⟩:=i.cell y c w
   exact⟨⟨v,oc,old _ _ q1,q2⟩,l⟩
  .exact⟨⟨none,z⟩,(fr w).2⟩
 .show(bD n none++QG cap ρ).length=Nc.length
  rw[T.len];simp[QG]
def Th.del (θ:Th) (D:Addr):Th:=⟨θ.cs,θ.ex.filter (·!=D)⟩
theorem kO {D b:Addr} {θ:Th}:b∈(θ.del D).ex<->b∈θ.ex/\b≠D:=by simp[Th.del]
theorem G.exr {V:Addr->Prop} {F:List Addr} {θ2:Th} (g:G V F θ μ s θ1 μ1 s1) (e:θ2.cs=θ1.cs) (x:Exk θ s.heap θ2):G V F θ μ s θ2 μ1 s1:=by obtain⟨cs,ex⟩:=θ2;cases e;exact⟨g.pre,g.keep,g.there,g.stay,g.os,x⟩
theorem akm {V:Addr->Prop} {D:Addr} (g:G (fun _=>False) (frs X.stack) θ μ s (θ1.del D) μ1 s1) (h:G V (frs X.stack) θ1 μ1 s1 θ' μ' s') (hv:∀ b,V b->s.heap.get? b=none):G (fun _=>False) (frs X.stack) θ μ s (θ'.del D) μ' s' where
 pre:=fun n p e=>h.pre n p (g.pre n p e)
 keep:=fun b o e l v=>by
  obtain⟨l1,sl,e1,f1⟩:=g.keep b o e l v;obtain⟨l2,sl2,e2,f2⟩:=h.keep b _ e1 l1 fun z=>by rw[hv b z]at e;cases e
  exact⟨l2,sl2,e2,fun z=>(f2 z).trans (f1 z)⟩
 there:=fun b o e=>let⟨o',e'⟩:=g.there b o e;h.there b o' e'
 stay:=fun n c e f=>h.stay n c (g.stay n c e f) f
 os:=h.os.trans g.os
 ex:=⟨fun b z=>let⟨y,n⟩:=kO.mp (g.ex.1 b z);kO.mpr ⟨h.ex.1 b y,n⟩,fun b z=>let⟨y,n⟩:=kO.mp z;(h.ex.2 b y).elim (fun q=>g.ex.2 b (kO.mpr ⟨q,n⟩)) fun q=>.inr (g.Xm q)⟩
end
end DW
namespace DW
open PySem PySem.Spec PyProof.Rows
open L2 (aN Key frs vC Loc Look Mod sG cT mj fG gD iB qC mW uh yM)
theorem Jz (caps:dD):∀ (ds:List D) (pre ρs:dD),ρs.length=ds.length->((fP pre.length ds.length).zip ds).foldl (fun r p=>r.set p.1 (some p.2)) (pre++ρs++caps)=pre++ds.map some++caps
 |[],pre,ρs,h=>by
  have:ρs=[]:=by simpa using h
  subst this;simp
 |d::ds,pre,ρs,h=>by
  cases ρs with
  |nil=>simp at h|cons r ρs=>have ih:=Jz caps ds (pre++[some d]) ρs (by simpa using h);simp only[gG,bA,aL,VF]at ih;simp only[bA,Cu,Il,pR];(have e:(pre++r::ρs++caps).set pre.length (some d)=pre++[some d]++ρs++caps:=by simp);rw[e,ih];simp
theorem ahN {tt:Bool} {n:Nat} {ρs caps:dD} {d:D} {k:dD->Prop} (hn:tt=false->n=1) (hl:ρs.length=n) (h:bindC n tt d caps k):eX (aY n) tt d (ρs++caps) fun ρ'=>(∃ ρt:dD,ρt.length=n/\ρ'=ρt++caps)/\k ρ':=by
 cases tt with
 |false=>
  cases hn rfl
  match ρs,hl with
  |[r],_=>exact⟨⟨[some d],rfl,rfl⟩,h⟩
 |true=>
  cases d with
  |tup ds=>obtain⟨h1,h2⟩:=(show ds.length=n/\k (ds.map some++caps)from h);show ds.length=(aY n).length/\_;have e:=Jz caps ds [] ρs (by rw[hl,h1]);simp only[aL,aM]at e;rw[O5,<-h1,e];refine⟨by simp,⟨⟨ds.map some,by simp,rfl⟩,h2⟩⟩|_=>exact False.elim h
section
variable {X:Cx} {ρ:dD} {θ θ' θ0:Th} {μ μ' μ0:Mem} {s s' s0:aj} {n:Nat} {fp fx:List Addr} {it:Addr} {scope:Scope} {Nc:List Str} {cap:List Nat} {cl:List (Str×Addr)} {elt iter tg:Expr} {ifs:List Expr} {cw:WT} {ew:WE} {pos:Pos} {xs:List D} {g:Mem->Prop} {S:Nat->Th->Mem->aq->Prop} {tt m:Bool} {Qd:QD} {E:Value->aj->Prop}
theorem T3 (T:vD X n scope Nc cap) (hn:tt=false->n=1) (aaI:∀ y c,cl.lookup y=some c->X.env.cells.lookup y=some c) (alr:∀ y∈scope.names,y.2= .free->(cl.lookup y.1).isSome=true)
  (i00:Iv X ρ θ0 μ0 s0) (g0:G0 X θ0 μ0 s0 θ μ s) (i:Iv X ρ θ μ s) (W:Wk X.T X.A tg it fp fx xs g S) (st:S 0 θ μ s.heap) (hf:∀ b∈fp,DG X b/\(¬oY θ μ b/\(b∈fx∨b∉θ.ex))/\s0.heap.get? b=none) (hlen:xs.length<=sizeLine)
  (hG:∀ cl C,PG (cX X Nc scope cl C) tg (fun d ρ k=>eX (aY n) tt d ρ k)) (hT:∀ cl C,PIf (cX X Nc scope cl C) ifs cw) (hE:∀ cl C,PE (cX X Nc scope cl C) elt ew)
  (h:iD (fun d k=>bindC n tt d (QG cap ρ) k) cw ew g xs [] μ fun vs μ2=>newL m vs μ2 Qd) {RR:Value->Addr->xq->aj->Prop}
  (fin:∀ {C mC d u s' θ' μ'},DG X C->¬KY θ' μ' C->s0.heap.get? C=none->s'.heap.Ns C mC->Iv X ρ θ' μ' s'->G0 X θ0 μ0 s0 θ' μ' s'->Rp s'.heap θ' μ' d u->Qd d μ'->RR u C (.ok .next) s'):
  ao X.M X.A (newList []) (fun acc s₃=>ao X.M X.A (Wc scope X.env.globals cl [] X.env.qual none .none (some X.env)) (fun cenv s₄=>ni X.M X.A (.compStart (.ListComp elt [⟨tg,iter,ifs,0⟩] scope pos) 0 (.ref it) acc {cenv with scope:=Hs scope X.env}) (RR acc cenv.locals) s₄) E s₃) E s:=by
 refine wj (uh ?_);generalize hD:s.heap.objs.size=D;generalize hs1:s.heap.push {cls:=.type "list",dict:=none,data:=.seq ([]:List Value).toArray}=h1;have hC:h1.objs.size=D+1:=by rw[<-hs1,<-hD];exact xP ..
 generalize hcf:je (h1.objs.size+1) scope.names cl=cf;generalize hh₁:pushCells (h1.push {cls:=.type "dict",data:=.dict #[]}) scope.names=h₁;have ala:∀ b o,h1.get? b=some o->h₁.get? b=some o:=fun b o e=>by rw[<-hh₁];exact acz _ _ b o (eG _ e)
 have old:∀ b o,s.heap.get? b=some o->h₁.get? b=some o:=fun b o e=>ala b o (by rw[<-hs1];exact eG _ e);have eD:h₁.get? D=some {cls:=.type "list",dict:=none,data:=.seq ([]:List Value).toArray}:=ala _ _ (by rw[<-hs1,<-hD];exact iH _ rfl);have hns:h₁.Ns h1.objs.size (fun _=>none):=by rw[<-hh₁];exact(Heap.Ns.new _ (.type "dict")).keeps (acz _ _)
 have e2s:(h1.push {cls:=.type "dict",data:=.dict #[]}).objs.size=h1.objs.size+1:=xP ..;have own:=cellsFrom_ok scope.names (h1.push {cls:=.type "dict",data:=.dict #[]}) (h1.objs.size+1) [] ⟨fun _ _ hm=>(nomatch hm),ac3⟩ (by rw[e2s];exact aB _);rw[e2s,hh₁]at own;rw[iB]at hcf;generalize how:je (h1.objs.size+1) scope.names []=ow at own hcf;have lk:∀ y c,cf.lookup y=some c->(scope.names.lookup y≠some .cell/\cl.lookup y=some c)∨ow.lookup y=some c:=fun y c h=>by
  rw[<-hcf,OD]at h;cases q:ow.lookup y with
  |some c'=>rw[q]at h;exact .inr h|none=>rw[q]at h;refine .inl ⟨fun z=>?_,h⟩;have:=mW scope.names (h1.objs.size+1) y (oM z);rw[how,q]at this;cases this
 have owC:∀ y c,ow.lookup y=some c->scope.names.lookup y=some .cell/\h1.objs.size<c/\h₁.IsCell c none:=fun y c h=>by have hm:=oM h;have h2:=qC scope.names _ y c (by rw[how];exact hm);exact⟨T.cells _ h2 rfl,(own.empty y c hm).2,(own.empty y c hm).1⟩
 have afQ:∀ y (c:Nat),X.env.cells.lookup y=some c->c<D:=fun y c e=>by obtain⟨⟨v,o,q,_⟩,_⟩:=i.cell y c e;rw[<-hD];exact eZ q
 have hcl:∀ y c,cf.lookup y=some c->(scope.names.lookup y≠some .cell/\X.env.cells.lookup y=some c)∨(scope.names.lookup y=some .cell/\h1.objs.size<c/\h₁.IsCell c none):=fun y c h=>(lk y c h).imp (fun z=>⟨z.1,aaI y c z.2⟩) (owC y c)
 have akh:∀ y z c,cf.lookup y=some c->cf.lookup z=some c->y=z:=fun y z c k1 k2=>by
  rcases lk y c k1 with⟨a1,a2⟩|a<;>rcases lk z c k2 with⟨b1,b2⟩|b
  .exact i.ok.inj y z c (aaI _ _ a2) (aaI _ _ b2)
  .have:=afQ y c (aaI _ _ a2);have:=(owC z c b).2.1;lia
  .have:=afQ z c (aaI _ _ b2);have:=(owC y c a).2.1;lia
  .exact ab0 own.apart (oM a) (oM b)
 have afi:∀ y∈scope.names,(y.2= .free∨y.2= .cell)->(cf.lookup y.1).isSome=true:=fun y hy hk=>by
  rw[<-hcf,OD];rcases hk with hk|hk
  .obtain⟨c,e⟩:=Ea.mp (alr y hy hk)
   rw[e];cases ow.lookup y.1<;>rfl
  .have:=mW scope.names (h1.objs.size+1) y.1 (by rw[<-hk];exact hy)
   rw[how]at this;obtain⟨c,e⟩:=Ea.mp this;rw[e];rfl
 clear lk owC own how hcf alr aaI;dsimp only at hns ⊢;have Yz:D<h1.objs.size:=by rw[hC];exact Ot D
 have hDC:s.heap.objs.size<=D:=Nat.le_of_eq hD;obtain⟨i0,kp0⟩:=ahG (tk:=s.toks) T i hDC (by lia) old ⟨_,eD⟩ hns (fun y c q=>(hcl y c q).imp id fun⟨a,b,e⟩=>⟨a,by lia,e⟩) akh afi;have none_:∀ {b},D<=b->s.heap.get? b=none:=fun {b} hb=>by
  cases e:s.heap.get? b with
  |none=>rfl|some o=>exact absurd (jT (eZ e) (hD▸hb)) (mG _)
 have amx:∀ b,(cX X Nc scope cf h1.objs.size).own b->s0.heap.get? b=none:=fun b z=>g0.IW<|by
  rcases z with rfl|⟨x,hx,e⟩
  .exact none_ (by show D<=h1.objs.size;lia)
  .have hx:scope.names.lookup x=some .cell:=eq_of_beq hx
   rcases hcl x b e with⟨z,_⟩|⟨_,z,_⟩
   .exact absurd hx z
   .exact none_ (by lia)
 have fD:=i.rD hDC;have fC:=i.rD (b:=h1.objs.size) (by lia);have fp':∀ b∈fp,DG (cX X Nc scope cf h1.objs.size) b/\b≠D:=fun b hb=>by
  obtain⟨o,e,_⟩:=W.obj st b hb;have lt:=eZ e;rw[hD]at lt;obtain⟨f1,f2,f3,f4⟩:=(hf b hb).1;refine⟨⟨f1,f2,jk (HN lt Yz),fun y c q=>?_⟩,jk lt⟩;rcases hcl y c q with⟨_,z⟩|⟨_,z,_⟩
  .exact f4 y c z
  .exact tY (HN (HN lt Yz) z)
 have fpD:DG (cX X Nc scope cf h1.objs.size) D:=⟨fD.1.1,fD.1.2.1,by show D≠h1.objs.size;lia,fun y c q=>by
  rcases hcl y c q with⟨_,z⟩|⟨_,z,_⟩
  .exact fD.1.2.2.2 y c z
  .exact tY (HN Yz z)⟩
 have loop:ni X.M X.A (.compLoop (.ListComp elt [⟨tg,iter,ifs,0⟩] scope pos) 0 (.ref it) (.ref D) (Nk scope cf h1.objs.size X.env)) (RR (.ref D) h1.objs.size) {s with heap:=h₁,toks:=s.toks}:=by
  refine yM (fun k s'=>∃ j acc us ρs θ' μ' nn,k=xs.length -j/\j<=xs.length/\us.length<=j/\ρs.length=n/\Iv (cX X Nc scope cf h1.objs.size) (ρs++QG cap ρ) θ' μ' s'/\G (fun _=>False) (frs X.stack) θ0 μ0 s0 (θ'.del D) μ' s'/\(D∈θ'.ex/\h1.objs.size∉θ'.ex)/\S j θ' μ' s'.heap/\(∀ b∈fp,¬oY θ' μ' b/\(b∈fx∨b∉θ'.ex))/\
    s'.heap.get? D=some {cls:=.type "list",data:=.seq us.toArray nn}/\¬oY θ' μ' D/\c7 s'.heap θ' μ' acc us/\iD (fun d k=>bindC n tt d (QG cap ρ) k) cw ew g (xs.drop j) acc μ' fun vs μ2=>newL m vs μ2 Qd) ?_ xs.length
   ⟨0,[],[],bD n none,⟨θ.cs,D::θ.ex⟩,μ,0,rfl,ju _,aB _,by simp,i0,G.exr (g0.trans (cV (tk:=s.toks) old)) rfl ⟨fun b z=>kO.mpr ⟨jU _ (g0.ex.1 b z),fun q=>by obtain⟨o,e⟩:=i.dG.bnd b (.inl (g0.ex.1 b z));rw[q,none_ (aB _)]at e;cases e⟩,fun b z=>by obtain⟨y,n⟩:=kO.mp z;exact g0.ex.2 b ((bC.mp y).resolve_left n)⟩,⟨xZ,fun z=>(bC.mp z).elim (tY Yz) fun z=>fC.2 (.inl z)⟩,W.mono st kp0 (fun b z=>jU _ z) fun b _ o e=>old b o e,fun b z=>⟨(hf b z).2.1.1,(hf b z).2.1.2.imp id fun y q=>(bC.mp q).elim (fp' b z).2 y⟩,eD,fun z=>fD.2 (.inr z),.nil,h⟩
  .rintro k s1 ⟨j,acc,us,ρs,θ1,μ1,nn,rfl,hj,hu,hρ,i1,g1,ex1,st1,nl1,e1,lD,rs,hw⟩
   have w1:=i1.dG;have own:∀ b,b∈fp∨b=D->¬(cX X Nc scope cf h1.objs.size).own b:=fun b z y=>by
    have f:DG (cX X Nc scope cf h1.objs.size) b:=z.elim (fun z=>(fp' b z).1) fun z=>z▸fpD;rcases y with y|⟨x,_,e⟩
    .exact f.2.2.1 y
    .exact f.2.2.2 x b e rfl
   have dfp:D∉fp:=fun z=>(fp' D z).2 rfl;have frN:∀ b∈fp,s0.heap.get? b=none:=fun b z=>(hf b z).2.2;by_cases hlt:j<xs.length
   .rw[Ho hlt]at hw
    obtain⟨XS,hw⟩:=hw;refine j6 (W.item (Q2:=fun u s3=>∃ h' tk,s3={s1 with heap:=h',toks:=tk}/\(∀ b o,b∉fp->s1.heap.get? b=some o->h'.get? b=some o)/\S (j+1) θ1 μ1 h'/\Rp h' θ1 μ1 xs[j] u) st1 w1 (fun b z=>(nl1 b z).1) XS (dw hlt)
     fun ke st3 r3=>⟨_,_,rfl,ke,st3,r3⟩) (fun r s3 ⟨u,hr,h3⟩=>?_) fun _ _ x=>x
    subst hr;refine j6 h3 (fun _ s4 ⟨h',tk,e4,ke,st4,r4⟩=>?_) fun _ _ x=>x;subst e4;obtain⟨i4,kp4⟩:=i1.turn (tk:=tk) (fun b z=>⟨(fp' b z).1,(nl1 b z).1⟩) (W.ho st1) ke fun b _ z=>let⟨o,x,_⟩:=W.obj st4 b z;⟨o,x⟩;have g4:G (fun _=>False) (frs X.stack) θ0 μ0 s0 (θ1.del D) μ1 {s1 with heap:=h',toks:=tk}:=yG g1 frN ke;have e4:=ke D _ dfp e1;have rs4:=kp4.Fi rs;obtain⟨mC,⟨oC,_,_,eC,_⟩,_⟩:=i4.loc;replace eC:h'.get? h1.objs.size=some oC:=eC;have stp:∀ {θ' μ' s'},GS (cX X Nc scope cf h1.objs.size) θ1 μ1 {s1 with heap:=h',toks:=tk} θ' μ' s'->G (fun _=>False) (frs X.stack) θ0 μ0 s0 (θ'.del D) μ' s'/\(D∈θ'.ex/\h1.objs.size∉θ'.ex)/\S (j+1) θ' μ' s'.heap/\(∀ b∈fp,¬oY θ' μ' b/\(b∈fx∨b∉θ'.ex))/\
      s'.heap.get? D=some {cls:=.type "list",data:=.seq us.toArray nn}/\¬oY θ' μ' D/\c7 s'.heap θ' μ' acc us:=fun {θ' μ' s'} gs=>by
     have kept:∀ b,(b∈fp∨b=D)->¬oY θ1 μ1 b->b∉frs X.stack->∀ o,h'.get? b=some o->s'.heap.get? b=some o/\¬oY θ' μ' b:=fun b z l f o e=>by obtain⟨l',sl,q,w⟩:=gs.keep b o e l (own b z);rw[w f]at q;exact⟨q,l'⟩
     have kpf:∀ b∈fp,∀ o,h'.get? b=some o->s'.heap.get? b=some o/\¬oY θ' μ' b:=fun b z=>kept b (.inl z) (nl1 b z).1 (hf b z).1.2.1;obtain⟨k1,k2⟩:=kept D (.inr rfl) lD fD.1.2.1 _ e4;refine⟨akm g4 gs amx,⟨gs.ex.1 D ex1.1,fun y=>(gs.ex.2 _ y).elim ex1.2 fun q=>by rw[show h'.get? _=none from q]at eC;cases eC⟩,W.mono st4 (i4.kpS gs) gs.ex.1 fun b z o e=>(kpf b z o e).1,fun b z=>?_,k1,k2,(i4.kpS gs).Fi rs4⟩;obtain⟨o,e,_⟩:=W.obj st4 b z;exact⟨(kpf b z o e).2,(nl1 b z).2.imp id fun y q=>(gs.ex.2 b q).elim y fun q=>by rw[show h'.get? b=none from q]at e;cases e⟩
    refine hG cf h1.objs.size i4 r4 (ahN hn hρ hw) fun {ρ5 s5} i5 g5 ⟨⟨ρt,hρt,eρ⟩,q5⟩=>?_;subst eρ;refine hT cf h1.objs.size i5 q5 fun {t t' s6 θ6 μ6} i6 g6 r6 h6=>?_;cases r6;cases t with
    |false=>rw[if_neg fj]at h6 ⊢;obtain⟨a1,a2,a3,a4,a5,a6,a7⟩:=stp (g5.trans g6.gs);exact⟨xs.length -(j+1),by lia,j+1,acc,us,ρt,θ6,μ6,nn,rfl,hlt,by lia,hρt,i6,a1,a2,a3,a4,a5,a6,a7,h6⟩|true=>
     rw[if_pos rfl]at h6 ⊢;refine hE cf h1.objs.size i6 h6 fun {d u7 s7 θ7 μ7} i7 g7 r7 h7=>?_;obtain⟨a1,a2,a3,a4,a5,a6,a7⟩:=stp (g5.trans (g6.trans g7).gs);refine jf V5 ⟨_,a5,rfl⟩ adu (adE _ _) (acZ D us.toArray nn u7 (by rw[cF];lia)) ⟨a5,?_⟩;have q:=acJ a5 (fun a=>a.push u7);rw[show us.toArray.push u7=(us++[u7]).toArray by simp]at q;have kk:∀ b o,b∉[D]->s7.heap.get? b=some o->(s7.heap.update D (gK fun a=>a.push u7)).get? b=some o:=fun b o hb e=>(m8 s7.heap _ (bK (by simpa using hb))).trans e;have dx:D∈θ7.ex:=a2.1;(obtain⟨i8,kp8⟩:=i7.turn (fp:=[D]) (tk:=s7.toks) (fun b z=>by cases cG.mp z;exact⟨fpD,a6⟩) (fun b z=>by cases cG.mp z;exact .inl dx) kk fun b _ z=>by cases cG.mp z;exact⟨_,q⟩);exact⟨xs.length -(j+1),by lia,j+1,acc++[d],us++[u7],ρt,θ7,μ7,_,rfl,hlt,by simp;lia,hρt,i8,yG a1 (fp:=[D]) (fun b z=>by cases cG.mp z;exact g0.IW (none_ (aB _))) kk,a2,
      W.mono a3 kp8 (fun _ z=>z) fun b z o e=>kk b o (fun y=>dfp (cG.mp y▸z)) e,a4,q,a6,(kp8.Fi a7).append (.one (kp8.rp r7)),h7⟩
   .have e:j=xs.length:=by lia
    subst e;rw[acE]at hw;obtain⟨XS,hw⟩:=hw;refine W.done (Q:=_) st1 w1 i1.e.hds (fun b z=>(nl1 b z).1) XS fun {h' tk} ke te=>?_;obtain⟨i4,kp4⟩:=i1.turn (tk:=tk) (fun b z=>⟨(fp' b z).1,(nl1 b z).1⟩) (W.ho st1) ke fun b y z=>te b ((nl1 b z).2.resolve_right fun q=>q y);have g4:G (fun _=>False) (frs X.stack) θ0 μ0 s0 (θ1.del D) μ1 {s1 with heap:=h',toks:=tk}:=yG g1 frN ke;have e4:=ke D _ dfp e1;have rs4:=kp4.Fi rs;obtain⟨mC,hnC,_⟩:=i4.loc;have hu':us.length<=sizeLine:=jR hu hlen;have exO:∀ b∈(θ1.del D).ex,(∃ o,h'.get? b=some o)/\¬oY θ1 μ1 b/\b≠D:=fun b z=>by obtain⟨y,q⟩:=kO.mp z;exact⟨i4.dG.bnd b (.inl y),i4.dG.exc b y,q⟩
    have dx:D∈θ1.ex:=ex1.1;have cN:h1.objs.size∉(θ1.del D).ex:=fun z=>ex1.2 (kO.mp z).1;cases m with
    |false=>have kpE:Kp θ1 μ1 h' (θ1.del D) μ1 h':=⟨fun _ _ e=>e,fun b o e f l=>⟨e,fun y=>y.elim (fun y=>l (.inl (kO.mp y).1)) fun y=>l (.inr y)⟩⟩;have wE:pD X.T (θ1.del D) μ1 h':=pD.ex i4.dG kpE (fun _ _ _ e=>e) fun b z=>⟨(exO b z).1,(exO b z).2.1⟩;exact fin (d:=.lst acc) (θ':=θ1.del D) (μ':=μ1) (s':={s1 with heap:=h',toks:=tk}) fC.1 (fun y=>y.elim cN i4.nl) (g0.IW (none_ (xM Yz))) hnC (i00.to g4 wE i4.e.bare) g4 ⟨D,us,rfl,⟨hu',nn,e4⟩,fun y=>y.elim (fun y=>(exO D y).2.2 rfl) lD,kpE.Fi rs4⟩ hw
    |true=>
     have kpE:Kp θ1 μ1 h' ⟨θ1.cs++[(D,D)],(θ1.del D).ex⟩ (μ1++[.lst acc]) h':=⟨fun _ _ e=>jm e,fun b o e f l=>⟨e,fun y=>y.elim (fun y=>l (.inl (kO.mp y).1)) (zX i4.dG (p:=(D,D)) (fun y=>l (.inr y)) (fun q=>l (.inl (q▸dx))) fun q=>l (.inl (q▸dx)))⟩⟩;have wE:pD X.T ⟨θ1.cs++[(D,D)],(θ1.del D).ex⟩ (μ1++[.lst acc]) h':=pD.add i4.dG kpE lD lD (fun _ _ _ e=>e) (fun b z=>⟨(exO b z).1,(exO b z).2.1,(exO b z).2.2,(exO b z).2.2⟩) (fun b z=>by have z:b=D:=z.elim id id;rw[z];exact⟨_,e4⟩) ⟨us,⟨hu',nn,e4⟩,kpE.Fi rs4,rfl⟩;have gE:G0 X θ0 μ0 s0 ⟨θ1.cs++[(D,D)],(θ1.del D).ex⟩ (μ1++[.lst acc]) {s1 with heap:=h',toks:=tk}:=⟨fun n p e=>jm (g4.pre n p e),fun b o e l v=>by obtain⟨l',sl,q,w⟩:=g4.keep b o e l v;(have nD:b≠D:=fun z=>by rw[z,g0.IW (none_ (aB _))]at e;cases e);exact⟨zX i4.dG (p:=(D,D)) l' nD nD,sl,q,w⟩,g4.there,fun n c e f=>jm (g4.stay n c e f),g4.os,g4.ex⟩
     have cD:h1.objs.size≠D:=tY Yz;exact fin (d:=.loc μ1.length) (θ':=⟨θ1.cs++[(D,D)],(θ1.del D).ex⟩) (μ':=μ1++[.lst acc]) (s':={s1 with heap:=h',toks:=tk}) fC.1 (fun y=>y.elim cN (zX i4.dG (p:=(D,D)) i4.nl cD cD)) (g0.IW (none_ (xM Yz))) hnC (i00.to gE wE i4.e.bare) gE ⟨(D,D),rfl,by rw[<-i4.dG.len];simp⟩ (show Qd (.loc μ1.length) (μ1++[.lst acc])from hw)
 exact codeAny_compStart_list loop (W.self (W.mono st kp0 (fun b z=>jU _ z) fun b _ o e=>old b o e) loop)
theorem LQ (T:vD X n scope Nc cap) (i:Iv X ρ θ μ s):∃ cl,Vo scope X.env=pure cl/\(∀ y c,cl.lookup y=some c->X.env.cells.lookup y=some c)/\∀ y∈scope.names,y.2= .free->(cl.lookup y.1).isSome=true:=
 mj fun y hy hf=>i.ok.has y.1 (T.free y hy hf)
theorem aaK {C:Addr} {h':aq} {mC:Str->Option Value} {tk:Nat} (i:Iv X ρ θ μ s) (g:G (fun _=>False) (frs X.stack) θ0 μ0 s0 θ μ s) (fC:DG X C) (nl:¬KY θ μ C) (h0:s0.heap.get? C=none) (hn:s.heap.Ns C mC) (sb:VR C s.heap h'):
  Iv X ρ θ μ {s with heap:=h',toks:=tk}/\G (fun _=>False) (frs X.stack) θ0 μ0 s0 θ μ {s with heap:=h',toks:=tk}/\Kp θ μ s.heap θ μ h':=by
 have k:∀ b o,b∉[C]->s.heap.get? b=some o->h'.get? b=some o:=fun b o z e=>(sb.2 b (by simpa using z)).trans e;obtain⟨o,_,_,e,d,_⟩:=hn;obtain⟨i',kp⟩:=i.turn (fp:=[C]) (tk:=tk) (fun b z=>by cases cG.mp z;exact⟨fC,fun y=>nl (.inr y)⟩) (fun b z=>by cases cG.mp z;exact .inr ⟨o,e,nJ d⟩) k fun b y z=>by cases cG.mp z;exact(nl (.inl y)).elim
 exact⟨i',yG g (fp:=[C]) (fun b z=>by cases cG.mp z;exact h0) k,kp⟩
theorem agZ {wi:WI} (T:vD X n scope Nc cap) (hn:tt=false->n=1) (hi:PI X tg iter wi) (hG:∀ cl C,PG (cX X Nc scope cl C) tg (fun d ρ k=>eX (aY n) tt d ρ k)) (hT:∀ cl C,PIf (cX X Nc scope cl C) ifs cw) (hE:∀ cl C,PE (cX X Nc scope cl C) elt ew)
  (hs:∀ v,Ow iter X.env v=pure v):PE X (.ListComp elt [⟨tg,iter,ifs,0⟩] scope pos) (fun ρ μ Q=>wi ρ μ fun ds g μ1=>iD (fun d k=>bindC n tt d (QG cap ρ) k) cw ew g ds [] μ1 fun vs μ2=>newL m vs μ2 Q):=fun {s ρ θ μ Qd Q E} i h f=>by
 rw[eval_ListComp];obtain⟨cl,e1,e2,e3⟩:=LQ T i;refine ad0 (use:=none) rfl hs e1 T.kind T.names (hi i h fun {xs g s1 θ1 μ1 it fp fx S} i1 g1 W st hf hl h1=>?_);exact T3 (RR:=fun acc C=>compPost X.M X.A E none Q acc C) T hn e2 e3 i g1 i1 W st hf hl hG hT hE h1 fun {C mC d u s' θ' μ'} fC nl h0 hnC i2 g2 r2 q2=>⟨mC,hnC,fun h' sb=>by obtain⟨i3,g3,kp⟩:=aaK (tk:=s'.toks) i2 g2 fC nl h0 hnC sb;exact f i3 g3 (kp.rp r2) q2⟩
theorem Xj {wi:WI} {j:Nat} {t:Str} {pt pos2:Pos} (T:vD X n scope Nc cap) (hn:tt=false->n=1) (hi:PI X tg iter wi) (hG:∀ cl C,PG (cX X Nc scope cl C) tg (fun d ρ k=>eX (aY n) tt d ρ k)) (hT:∀ cl C,PIf (cX X Nc scope cl C) ifs cw) (hE:∀ cl C,PE (cX X Nc scope cl C) elt ew)
  (hs:∀ v,Ow iter X.env v=pure v) (hN:X.N.Nodup) (hti:X.N[j]?=some t) (htl:X.env.scope.names.lookup t=some .local) (hsw:xr (.ListComp elt [⟨tg,iter,ifs,0⟩] scope pos) (some (.Name t pt)) pos2.line X.env=pure true):
  PS X (.Assign [.Name t pt] (.ListComp elt [⟨tg,iter,ifs,0⟩] scope pos) pos2) (fun Z ρ μ=>wi ρ μ fun ds g μ1=>iD (fun d k=>bindC n tt d (QG cap ρ) k) cw ew g ds [] μ1 fun vs μ2=>newL m vs μ2 fun d μ3=>Z.nx (ρ.set j (some d)) μ3):=fun {s ρ θ μ Z Q E} hp i h f=>by
 rw[exec_Assign_Name_used _ _ _ _ hsw];obtain⟨cl,e1,e2,e3⟩:=LQ T i;refine au (V1 (au ?_));show ao _ X.A (do let _<-comprehension (.ListComp elt [⟨tg,iter,ifs,0⟩] scope pos) scope X.env _ (newList []) false (eval iter X.env) (some (qN (.Name t pt) X.env))) _ _ s;refine au (j6 (ad0 (use:=some (qN (.Name t pt) X.env)) (Q:=fun _ s'=>Q .next s') rfl hs e1 T.kind T.names
  (hi i h fun {xs g s1 θ1 μ1 it fp fx S} i1 g1 W st hf hl h1=>?_)) (fun _ s' q=>aG (aG q)) fun _ _ e=>e)
 refine T3 (Qd:=fun d μ3=>Z.nx (ρ.set j (some d)) μ3) (RR:=fun acc C=>compPost X.M X.A E (some (qN (.Name t pt) X.env)) (fun _ s'=>Q .next s') acc C) T hn e2 e3 i g1 i1 W st hf hl hG hT hE h1 fun {C mC d u s' θ' μ'} fC nl h0 hnC i2 g2 r2 q2=>?_;show ao _ X.A (qN (.Name t pt) X.env u) _ _ s';refine Wy (zc i2 hN hti (.inl htl) r2 fun {s4} i4 g4=>?_);obtain⟨o,es,ep,e,d',sk,fd⟩:=id hnC;have own:¬X.own C:=fun y=>by
  rcases y with y|⟨x,_,e⟩
  .exact fC.2.2.1 y
  .exact fC.2.2.2 x C e rfl
 obtain⟨_,sl,q,w⟩:=g4.keep C o e (fun y=>nl (.inr y)) own;have hn4:s4.heap.Ns C mC:=⟨_,es,ep,q,d',sk,fd⟩;refine⟨mC,hn4,fun h' sb=>?_⟩;have k:∀ b o,b∉[C]->s4.heap.get? b=some o->h'.get? b=some o:=fun b o z e=>(sb.2 b (by simpa using z)).trans e;obtain⟨i5,kp⟩:=i4.turn (fp:=[C]) (h':=h') (tk:=s4.toks) (fun b z=>by cases cG.mp z;exact⟨fC,fun y=>nl (.inr y)⟩) (fun b z=>by cases cG.mp z;exact .inr ⟨_,q,nJ d'⟩) k fun b y z=>by cases cG.mp z;exact(nl (.inl y)).elim
 exact f.nx i5 (yG (g2.gs.trans g4) (fp:=[C]) (fun b z=>by cases cG.mp z;exact h0) k) q2
end
end DW
namespace DW
open PySem
def aD (N:List Str) (ds:List D):dD:=ds.map some++bD (N.length -ds.length) none
def bI (Q:QD):jM:=⟨fun _ μ=>Q .non μ,Q,fun _ _=>False,fun _ _=>False,fun _ _ _ _ _=>False⟩
def akX (Q:QD) (X:QX):jM:=⟨fun _ μ=>Q .non μ,Q,fun _ _=>False,fun _ _=>False,fun _=>X⟩
def Keeps (N:List Str) (i:Ss) (sp:dh):Prop:=∀ ds μ Q,sp ds μ Q->wSs i (bI Q) (aD N ds) μ
def af2 (N:List Str) (i:Ss) (sp:rH):Prop:=∀ ds μ Q X,sp ds μ Q X->wSs i (akX Q X) (aD N ds) μ
def K8:dh:=fun ds μ Q=>∃ ns:List Int,ds=[.ro (ns.map D.int)]/\ns.length<=63/\∀ μ',Q (.bl true) μ'
theorem cU (Inv:List D->dD->Mem->Prop)
  (hs:∀ d ds ρ μ N,(∀ ρ μ,Inv ds ρ μ->N ρ μ)->Inv (d::ds) ρ μ->g μ/\bnd d ρ fun ρ'=>bw {Z with nx:=N,ct:=N,bk:=Z.nx} ρ' μ)
  (he:∀ ρ μ,Inv [] ρ μ->g μ/\Z.nx ρ μ):∀ (ds:List D) (ρ:dD) (μ:Mem),Inv ds ρ μ->DK bnd bw g Z ds ρ μ
 |[],ρ,μ,h=>he ρ μ h|d::ds,ρ,μ,h=>hs d ds ρ μ _ (fun ρ μ q=>cU Inv hs he ds ρ μ q) h
theorem pG (Inv:List D->List D->Mem->Prop)
  (hs:∀ d ds acc μ (Y:D->Mem->Prop) (N:Mem->Prop),(∀ v μ,Inv ds (acc++[v]) μ->Y v μ)->(∀ μ,Inv ds acc μ->N μ)->Inv (d::ds) acc μ->g μ/\bnd d fun ρ=>cw ρ μ fun b μ1=>if b=true then ew ρ μ1 (fun v μ2=>Y v μ2)else N μ1)
  (he:∀ acc μ,Inv [] acc μ->g μ/\Q acc μ):∀ (ds acc:List D) (μ:Mem),Inv ds acc μ->iD bnd cw ew g ds acc μ Q
 |[],acc,μ,h=>he acc μ h|d::ds,acc,μ,h=>hs d ds acc μ (fun v μ2=>iD bnd cw ew g ds (acc++[v]) μ2 Q) (fun μ1=>iD bnd cw ew g ds acc μ1 Q) (fun v μ q=>pG Inv hs he ds (acc++[v]) μ q) (fun μ q=>pG Inv hs he ds acc μ q) h
theorem Bm (p:D->Bool) (f:D->D) (hg:g μ):
  ∀ (ds acc:List D),(∀ d∈ds,∀ (Y:D->Mem->Prop) (N:Mem->Prop),(if p d=true then Y (f d) μ else N μ)->bnd d fun ρ=>cw ρ μ fun b μ1=>if b=true then ew ρ μ1 (fun v μ2=>Y v μ2)else N μ1)->
   Q (acc++(ds.filter p).map f) μ->iD bnd cw ew g ds acc μ Q
 |[],acc,_,h=>⟨hg,by simpa using h⟩|d::ds,acc,hs,h=>by
  refine⟨hg,hs d (by simp) (fun v μ2=>iD bnd cw ew g ds (acc++[v]) μ2 Q) (fun μ1=>iD bnd cw ew g ds acc μ1 Q) ?_⟩;by_cases q:p d=true
  .rw[if_pos q]
   refine Bm p f hg ds _ (fun e he=>hs e (by simp[he])) ?_;rw[adX q]at h;simpa using h
  .rw[if_neg q]
   refine Bm p f hg ds _ (fun e he=>hs e (by simp[he])) ?_;rw[adW q]at h;exact h
theorem gB (c:α->D) (p:α->Bool) (f:α->D) (hg:g μ):
  ∀ (l:List α) (acc:List D),(∀ x∈l,∀ (Y:D->Mem->Prop) (N:Mem->Prop),(if p x=true then Y (f x) μ else N μ)->bnd (c x) fun ρ=>cw ρ μ fun b μ1=>if b=true then ew ρ μ1 (fun v μ2=>Y v μ2)else N μ1)->
   Q (acc++(l.filter p).map f) μ->iD bnd cw ew g (l.map c) acc μ Q
 |[],acc,_,h=>⟨hg,by simpa using h⟩|d::ds,acc,hs,h=>by
  refine⟨hg,hs d (by simp) (fun v μ2=>iD bnd cw ew g (ds.map c) (acc++[v]) μ2 Q) (fun μ1=>iD bnd cw ew g (ds.map c) acc μ1 Q) ?_⟩;by_cases q:p d=true
  .rw[if_pos q]
   refine gB c p f hg ds _ (fun e he=>hs e (by simp[he])) ?_;rw[adX q]at h;simpa using h
  .rw[if_neg q]
   refine gB c p f hg ds _ (fun e he=>hs e (by simp[he])) ?_;rw[adW q]at h;exact h
theorem dF (c:α->D) (f:α->D) (hg:g μ)
  (l:List α) (acc:List D) (hs:∀ x∈l,∀ (Y:D->Mem->Prop) (N:Mem->Prop),Y (f x) μ->bnd (c x) fun ρ=>cw ρ μ fun b μ1=>if b=true then ew ρ μ1 (fun v μ2=>Y v μ2)else N μ1)
  (h:Q (acc++l.map f) μ):iD bnd cw ew g (l.map c) acc μ Q:=
 gB c (fun _=>true) f hg l acc (fun x hx Y N q=>hs x hx Y N (by simpa using q)) (by rw[O1.mpr (by simp)];exact h)
theorem Lx (g:α->Int):∀ l:List α,lG (l.map fun x=>D.int (g x))=some (l.map g)
 |[]=>rfl|x::l=>by simp[lG,Lx g l]
theorem gj (h:k<n):n6 n (k:Int)=some k:=by
 have:(k:Int)<n:=by lia
 simp[n6,this]
theorem akc {n:Nat} {i:Int} (h0:0<=i) (h:i<n):n6 n i=some i.toNat:=by simp[n6,h0,h]
theorem aaV (xs:List α) (h:0<=i):cutD xs (some i) none=xs.drop i.toNat:=by
 have h2:¬i<0:=by lia
 simp only[cutD,j4,h2,if_false];by_cases q:i.toNat<=xs.length
 .rw[xR q];exact tM (by simp)
 .rw[Hl (by lia),Hl (by lia)];simp
theorem BK (n:Nat):eU 0 n=(aY n).map fun(k:Nat)=>D.int (k:Int):=by simp[eU]
theorem Vb (h:d∈eU lo n):∃ i:Int,d= .int i/\lo<=i/\i<lo+n:=by simp only[eU,jQ,H7]at h;obtain⟨j,hj,rfl⟩:=h;exact⟨_,rfl,by lia,by lia⟩
open PySem.Spec PyProof.Rows
open L2 (aN Key frs vC Loc Look Mod sG cT dY JX Dw Dy)
def fX (T:Top) (N:List Str) (qual:Str) (scope:Scope) (L f:Addr) (cd:Value) (A:aP) (outer:List Env):Cx where
 T:=T
 A:=A.deeper (tQ qual scope L f cd)
 N:=N
 env:=tQ qual scope L f cd
 stack:=tQ qual scope L f cd::outer
 calm:=A.handled.isNone
 oc:=fun _=>true
section
variable {T:Top} {N ps:List Str} {qual:Str} {scope:Scope} {L f b:Addr} {cd:Value} {A:aP} {outer stack:List Env} {s s1 s':aj} {θ θ':Th} {μ μ':Mem} {ds:List D} {us:List Value} {h':aq} {ρ:dD} {env:Env} {tk:Nat}
theorem afa (S:dY N ps scope) (e0:E0 T A outer θ μ s) (hl:ds.length=ps.length) (r:c7 s.heap θ μ ds us)
  (x:InCallC s s.heap.objs.size (tO (tQ qual scope s.heap.objs.size f cd).kindOf (ps.zip us) fun _=>none) (je (s.heap.objs.size+1) scope.names []) (PySem.bindC (tQ qual scope s.heap.objs.size f cd).kindOf (ps.zip us) fun _=>none) s1):
  Iv (fX T N qual scope s.heap.objs.size f cd A outer) (aD N ds) θ μ s1:=by
 have hpl:ps.length<=N.length:=by have:=congrArg dR S.pre;rw[vY]at this;lia
 obtain⟨h1,tk,rfl⟩:=x.toInCall.same;have hk:=x.toInCall.keep;have kp:Kp θ μ s.heap θ μ h1:=jE hk;have fr:∀ {b},s.heap.objs.size<=b->T.base.get? b=none/\¬oY θ μ b:=fun {b} hb=>by
  refine⟨?_,fun z=>e0.dG.RG hb (.inr z)⟩;cases e:T.base.get? b with
  |none=>rfl|some o=>exact absurd (jT (eZ (e0.bs b o e).1) hb) (mG _)
 obtain⟨oL,es,ep,eL,dL,_⟩:=id x.toInCall.ns;refine⟨⟨S.kind,rfl,rfl,fun y z c h1 h2=>ab0 x.apart (oM h1) (oM h2),fun y hy=>?_,fun z=>ad7.mp z,(fr (aB _)).1,fun y c h=>(fr (xM (x.above y c (oM h)))).1⟩,
  ⟨e0.mod,adC e0.frames,e0.bare,fun b o e=>⟨hk b o (e0.bs b o e).1,(e0.bs b o e).2⟩,fun v m=>?_,e0.dG.kept hk,e0.hh⟩,⟨_,x.toInCall.ns,fun i y d h1 h2 h3=>?_⟩,fun y c h=>⟨⟨_,x.cell y c h⟩,(fr (xM (x.above y c (oM h)))).2⟩,(fr (aB _)).2,?_⟩
 .have hy:scope.names.lookup y=some .cell∨scope.names.lookup y=some .free:=hy
  rcases hy with hy|hy
  .exact JX hy
  .exact absurd rfl (S.ajR _ (oM hy))
 .rcases bC.mp m with rfl|m
  .exact⟨by rw[show(tQ qual scope s.heap.objs.size f cd).scope.kind= .function from S.kind];decide,_,oL,es,ep,rfl,(fr (aB _)).1,eL,dL,(fr (aB _)).2⟩
  .obtain⟨k,L,o,es,ep,q,nb,ho,hd,l⟩:=e0.stk v m
   exact⟨k,L,o,es,ep,q,nb,hk L o ho,hd,l⟩
 .have hi:i<ds.length:=by
   unfold aD at h2;by_cases hi:i<ds.length
   .exact hi
   .rw[pX (by simpa using hi),adY]at h2
    split at h2<;>cases h2
  have ha:ds[i]?=some d:=by
   unfold aD at h2;rw[fQ (by simpa using hi),jw]at h2;cases e:ds[i]? with
   |none=>rw[e]at h2;cases h2
   |some a=>rw[e]at h2;cases h2;rfl
  obtain⟨u,hu,rv⟩:=r.get ha;have hp:ps[i]?=some y:=by rw[<-S.pre,List.getElem?_take_of_lt (by lia)];exact h1
  have ndP:ps.Nodup:=by rw[<-S.pre];exact S.nd.sublist (List.take_sublist _ _)
  refine⟨u,kp.rp rv,?_⟩;rcases S.par y (pW hp)with k|k
  .exact .inl ⟨k,Dw ndP hp hu k⟩
  .obtain⟨c,e⟩:=JX (n:=s.heap.objs.size+1) k
   refine .inr ⟨.inl k,c,e,?_⟩;have q:=x.cell y c e;rw[Dy ndP hp hu (by show scope.names.lookup y≠_;rw[k];decide)]at q;exact q
 .unfold aD
  show _=N.length;rw[gG,aR,adI];lia
theorem afA (e:E0 T (A.deeper env) (env::outer) θ μ s) (fr:A.frames=some outer):E0 T A outer θ μ s:=
 ⟨e.mod,fr,e.bare,e.bs,fun v m=>e.stk v (jU _ m),e.dG,e.hh⟩
theorem afp {V:Addr->Prop} (k:∀ b o,s.heap.get? b=some o->s1.heap.get? b=some o) (os:s1.os=s.os) (g:G V (frs (env::outer)) θ μ s1 θ' μ' s') (hv:∀ b,V b->s.heap.get? b=none) (hf:∀ b,env.frame=some b->s.heap.get? b=none):G (fun _=>False) (frs outer) θ μ s θ' μ' s' where
 pre:=g.pre
 keep:=fun b o e l _=>by
  obtain⟨l',sl,q,w⟩:=g.keep b o (k b o e) l fun z=>by rw[hv b z]at e;cases e
  refine⟨l',sl,q,fun z=>w fun y=>?_⟩;obtain⟨v,m,q⟩:=zF.mp y;rcases bC.mp m with rfl|m
  .rw[hf b q]at e;cases e
  .exact z (zF.mpr ⟨v,m,q⟩)
 there:=fun b o e=>g.there b o (k b o e)
 stay:=g.stay
 os:=g.os.trans os
 ex:=⟨g.ex.1,fun b z=>(g.ex.2 b z).imp id fun q=>by
  cases e:s.heap.get? b with
  |none=>rfl|some o=>rw[k b o e]at q;cases q⟩
theorem ahs {c:String} {ks:List String} {es:List D} {e:Value} {Q:Unit->aj->Prop} {E:Value->aj->Prop} (fr:A.frames=some outer) (hf:env.frame=some L) (e0:E0 T (A.deeper env) (env::outer) θ' μ' s') (g:G (fun _=>False) (frs outer) θ μ s θ' μ' s') (hL:s.heap.get? L=none) (hb:∀ b o,T.base.get? b=some o->s.heap.get? b=some o)
  (fl:EY T (env::outer) s θ' μ' s' c ks es e) (k:∀ h',E0 T A outer θ' μ' {s' with heap:=h' }->G (fun _=>False) (frs outer) θ μ s θ' μ' {s' with heap:=h' }->EY T outer s θ' μ' {s' with heap:=h' } c ks es e->Q () {s' with heap:=h' }):
  ao (aU T.P T.w) (A.deeper env) (Nh env e) Q E s':=by
 obtain⟨ea,C,ob,vs,B,rfl,h2,h3,fx,h5,sB,wB,h6⟩:=fl;refine aeY (adC fr) hf fx fun h' fx' up=>?_;have st:∀ b o,s'.heap.get? b=some o->(∃ o',B.get? b=some o')->h'.get? b=some o:=fun b o e ⟨o',q⟩=>by have:=fx.stay b o' q;rw[e]at this;cases this;exact fx'.stay b o q
 have frN:∀ b o,s.heap.get? b=some o->b∉frs outer->b∉frs (env::outer):=fun b o e z y=>by
  obtain⟨v,m,q⟩:=zF.mp y;rcases bC.mp m with rfl|m
  .rw[hf]at q;cases q;rw[hL]at e;cases e
  .exact z (zF.mpr ⟨v,m,q⟩)
 have old:∀ b o o',s.heap.get? b=some o->s'.heap.get? b=some o'->b∉frs outer->h'.get? b=some o':=fun b o o' e e' z=>st b o' e' (sB b o e (frN b o e z));have aeJ:∀ {o:Obj} {es ep},o.data= .dict es ep->∀ vs,o.data≠.fields vs:=fun q vs z=>by rw[q]at z;cases z
 have g':G (fun _=>False) (frs outer) θ μ s θ' μ' {s' with heap:=h' }:=⟨g.pre,fun b o e l v=>by
  obtain⟨l',sl,q,w⟩:=g.keep b o e l v;by_cases z:b∈frs outer
  .obtain⟨v,m,hb⟩:=zF.mp z
   obtain⟨_,L',o2,es,ep,q',_,ho,hd,_⟩:=e0.stk v (jU _ m);rw[hb]at q';cases q';rw[q]at ho;cases ho;obtain⟨sl2,q2⟩:=up b _ q (aeJ hd);exact⟨l',sl2,q2,fun y=>(y z).elim⟩
  .exact⟨l',sl,old b o _ e q z,w⟩,fun b o e=>by
  obtain⟨o',q⟩:=g.there b o e;by_cases z:b∈frs outer
  .obtain⟨v,m,hb⟩:=zF.mp z
   obtain⟨_,L',o2,es,ep,q',_,ho,hd,_⟩:=e0.stk v (jU _ m);rw[hb]at q';cases q';obtain⟨sl2,q2⟩:=up b _ ho (aeJ hd);exact⟨_,q2⟩
  .exact⟨o',old b o o' e q z⟩,g.stay,g.os,g.ex⟩
 refine k h' ⟨e0.mod,fr,e0.bare,fun b o e=>?_,fun v m=>?_,wB.kept fx'.stay,fun v q=>e0.hh v q⟩ g' ⟨ea,C,ob,vs,B,rfl,h2,h3,fx',h5,fun b o e z=>sB b o e (frN b o e z),wB,h6⟩
 .obtain⟨e1,l⟩:=e0.bs b o e
  refine⟨old b o o (hb b o e) e1 (fun z=>?_),l⟩;obtain⟨v,m,q⟩:=zF.mp z;obtain⟨_,L',_,_,_,q',nb,_⟩:=e0.stk v (jU _ m);rw[q]at q';cases q';rw[nb]at e;cases e
 .obtain⟨k1,L',o,es,ep,q,nb,ho,hd,l⟩:=e0.stk v (jU _ m)
  obtain⟨sl,q2⟩:=up L' o ho (aeJ hd);exact⟨k1,L',_,es,ep,q,nb,q2,hd,l⟩
theorem alB {k:Nat} {name:Str} {params:Arguments} {body:List Stmt} {dV kV doc pm cdv ct oc:Value} {an od:Option Addr} {osl:Array (Option Value)} {sp:rH} {i:Ss} (lk:T.K.lookup f=some ⟨oc,od,.func (m6 name qual params body scope dV kV doc pm an cdv ct),osl⟩) (hcd:H8 T.K cdv qual=true)
  (S:dY N ps scope) (len:∀ {ds μ Q X},sp ds μ Q X->ds.length=ps.length) (hk:af2 N i sp) (hbd:∀ (A:aP) (outer:List Env) (L:Addr),cT k (A.deeper (tQ qual scope L f cdv))->PSs (fX T N qual scope L f cdv A outer) body (wSs i)):
  lM T (k+1) f (m6 name qual params body scope dV kV doc pm an cdv ct) ps sp:=by
 refine⟨len,fun {A outer s θ μ args us ds Qd Xd R} hr e0 hb r hsp fr fe=>?_⟩;have KX:T.K.In s.heap:=e0.Fq;have hkind:∀ y∈ps.zip us,scope.names.lookup y.1=some .local∨(scope.names.lookup y.1=some .cell/\((je (s.heap.objs.size+1) scope.names []).lookup y.1).isSome=true):=fun⟨n,v⟩ hy=>by
  rcases S.par n (Wm hy).1 with q|q
  .exact .inl q
  .exact .inr ⟨q,adU _ _ _ (.inl q)⟩
 refine codeAny_call_function hr.depth (KX _ _ lk) rfl S.co S.gen rfl (PySem.W.codeRec_of KX hcd) (hb _ _ _ _ ?_);refine wpAny_newFunctionEnv_cells S.kind hkind fun env he s1 x=>?_;subst he;refine⟨e0.lim.keeps x.toInCall.keep,codeAny_func ?_⟩;have I:=afa (N:=N) S e0 (len hsp) r x;have hk':=x.toInCall.keep;have no:∀ {b},s.heap.objs.size<=b->s.heap.get? b=none:=fun {b} hb=>by
  cases e:s.heap.get? b with
  |none=>rfl|some o=>exact absurd (jT (eZ e) hb) (mG _)
 have os1:s1.os=s.os:=by obtain⟨_,_,rfl⟩:=x.toInCall.same;rfl
 have own:∀ b,(fX T N qual scope s.heap.objs.size f cdv A outer).own b->s.heap.get? b=none:=fun b z=>by
  rcases z with rfl|⟨y,_,e⟩
  .exact no (aB _)
  .exact no (xM (x.above y b (oM e)))
 have frm:∀ b,(tQ qual scope s.heap.objs.size f cdv).frame=some b->s.heap.get? b=none:=fun b z=>by cases z;exact no (aB _)
 exact hbd A outer s.heap.objs.size (hr.deeper _) PassesOwn.leaving I (hk ds μ Qd Xd hsp)
  ⟨fun i g q=>fr (afA i.e e0.frames) (afp hk' os1 g own frm) Bv q,fun _ _ q=>q.elim,fun _ _ q=>q.elim,fun i g r q=>fr (afA i.e e0.frames) (afp hk' os1 g own frm) r q,
   fun i g fl q=>ahs e0.frames rfl i.e (afp hk' os1 g own frm) (no (aB _)) (fun b o e=>(e0.bs b o e).1) (fl.mono fun b o e=>⟨o,hk' b o e⟩) fun h' e g fl=>fe e g fl q⟩
end
end DW
namespace DW
open PySem PySem.Spec PyProof.Rows
section
variable {prog:bN} {w:aO} {A:aP} {E:Value->aj->Prop} {s:aj}
end
section
variable {prog:bN} {w:aO} {A:aP} {E:Value->aj->Prop} {s:aj}
end
open AutoSeq1 (wpAny_loadPart')
section
variable {prog:bN} {w:aO} {A:aP} {E:Value->aj->Prop} {s:aj}
end
end DW
namespace DW
open PySem PySem.Spec PyProof.Rows
open L2 (aN Key frs vC Loc Look Mod sG cT Aj)
section
variable {X:Cx} {tg iter a b c l:Expr} {wl:WE} {d0:D} {as:List D} {g:Mem->Prop} {z i1 it ad:Addr} {es:List Expr} {k:Nat} {p pos tp:Pos}
theorem vo:∀ (k:Nat) (ds:List D),(nW k ds).length=ds.length
 |_,[]=>rfl|k,d::ds=>by simp[nW,vo (k+1) ds]
theorem LK:∀ (k:Nat) (ds:List D) (i:Nat) (d:D),ds[i]?=some d->(nW k ds)[i]?=some (.tup [.int ((k+i:Nat):Int),d])
 |_,[],i,d,h=>by simp at h|k,e::ds,0,d,h=>by simp at h;subst h;simp[nW]|k,e::ds,i+1,d,h=>by have:=LK (k+1) ds i d (by simpa using h);simp only[nW,aZ];rw[this];congr 4;lia
theorem agj (hc:X.calm=true) (hA:X.calm=true->X.A.handled=none) (hg:∀ {μ},g μ->cB μ d0=some as) (hzi:z≠i1):Wk X.T X.A (.Tuple es k tp) z [z,i1] [] (nW 0 as) g (fun i θ μ h=>(∃ old,IsEnum h z i1 i old)/\h.IsListIter i1 ad i/\Rp h θ μ d0 (.ref ad)) where
 obj:=fun⟨⟨old,hz⟩,⟨o1,e1,c1,d1⟩,_⟩ b hb=>by
  simp only[bC,tL,or_false]at hb;rcases hb with rfl|rfl
  .exact⟨_,hz,.inr (bQ rfl rfl (by decide))⟩
  .exact⟨_,e1,.inr (bQ d1 c1 (by decide))⟩
 exx:=fun _ _ z=>nomatch z
 mono:=fun⟨⟨old,hz⟩,h1,y⟩ kp _ kk=>⟨⟨old,kk z (by simp) _ hz⟩,h1.at fun o e=>kk i1 (by simp) o e,kp.rp y⟩
 self:=fun⟨⟨old,hz⟩,_⟩ q=>acT hz q
 item:=fun {i d s θ μ Q2 E} st w nl gm hx f=>by
  obtain⟨⟨old,hz⟩,h1,r0⟩:=st;obtain⟨_,us,q,pl,l,r⟩:=jD w r0 (hg gm);cases q;have hi:i<as.length:=by have:=(cj.mp hx).1;rwa[vo]at this
  rw[LK 0 as i _ (dw hi)]at hx;cases hx;obtain⟨u1,hu1,ru1⟩:=r.get (dw hi);refine wpAny_pyNext_enum_item hz h1 pl.isList (x:=u1) (by simpa using hu1) hzi fun h' ho hit' hT hsz kk=>⟨_,rfl,?_⟩;refine wpAny_letOwnedTupleGo_enum (s:={s with heap:=h',toks:=s.toks+1}) ho fun h2' hz2 hs2=>?_;have ke:∀ b o,b∉[z,i1]->s.heap.get? b=some o->h2'.get? b=some o:=fun b o hb e=>by simp only[bC,tL,or_false,not_or]at hb;exact(hs2.2 b hb.1).trans (kk b o hb.1 hb.2 e)
  have nz:s.heap.objs.size≠z:=tY (eZ hz);have kp:Kp θ μ s.heap θ μ h2':=Gi (fun b hb=>by
   simp only[bC,tL,or_false]at hb;rcases hb with rfl|rfl
   .exact⟨_,hz,bQ rfl rfl (by decide)⟩
   .obtain⟨o1,e1,c1,d1⟩:=h1;exact⟨_,e1,bQ d1 c1 (by decide)⟩) ke
  exact f (tk:=s.toks+1) ke ⟨⟨u1,by simpa using hz2⟩,hit'.at fun o y=>(hs2.2 i1 (bK hzi)).trans y,kp.rp r0⟩ ⟨s.heap.objs.size,[.int (i:Int) s.toks,u1],rfl,⟨by rw[cY];simp,_,_,(hs2.2 _ nz).trans hT,rfl,rfl,rfl⟩,w.RG (aB _),.cons (mQ (by simp)) (.one (kp.rp ru1))⟩
 done:=fun {s θ μ Q E} st w hd nl gm f=>by obtain⟨⟨old,hz⟩,h1,r0⟩:=st;obtain⟨_,us,q,pl,l,r⟩:=jD w r0 (hg gm);cases q;rw[vo]at hz h1;exact wpAny_pyNext_enum_end (hA hc) hz h1 pl.isList (by simp[r.length]) fun h' eb=>f (tk:=s.toks) (fun b o hb q=>eb b o (fun y=>hb (by simp[y])) q) fun _ z=>nomatch z
theorem agR (hcl:X.calm=true) (hg:Gl X (aF "enumerate")) (hm:X.T.mg (aF "enumerate")=none) (hl:PE X l wl) (hs:eV [l] X.env=[(false,eval l X.env)]):
  PI X (.Tuple es k tp) (.Call (.Name (aF "enumerate") p) [l] [] pos) (fun ρ μ Q=>wl ρ μ fun a μ1=>Q5 a μ1 Q):=fun {s ρ θ μ R Q E} i h f=>by
 refine Call_ (uF i hg hm (u:=.type "enumerate") (by decide+kernel) (by decide+kernel) (by decide+kernel) (Pr ?_ (by rw[hs];rfl) rfl));rw[hs];refine CG (hl i h fun {d u s1 θ1 μ1} i1 g1 r1 h1=>Ik ?_);unfold Q5 at h1;split at h1
 .rename_i as ha
  obtain⟨a,us,rfl,pl,l,r⟩:=jD i1.dG r1 ha;refine call_enumerate_list pl.isList fun h' a1 a2 a3 kk=>?_;have i3:Iv X ρ θ1 μ1 {s1 with heap:=h' }:=Iv.kept (tk:=s1.toks) i1 kk;refine acT a1 (f i3 (g1.trans (cV (tk:=s1.toks) kk)) (agj (ad:=a) hcl i1.ok.hd (fun e=>e) (tY (Ot s1.heap.objs.size))) ⟨⟨_,a1⟩,a2,(jE kk).rp r1⟩ (fun b hb=>?_) (by rw[vo,<-r.length];exact l) h1);have hb:s1.heap.objs.size<=b:=by
   simp only[bC,tL,or_false]at hb;rcases hb with rfl|rfl
   .exact xJ _
   .exact aB _
  exact⟨(i1.rD hb).1,⟨fun y=>(i1.rD hb).2 (.inr y),.inr fun y=>(i1.rD hb).2 (.inl y)⟩,g1.none hb⟩
 .exact h1.elim
theorem aiv (hc:X.calm=true) (hA:X.calm=true->X.A.handled=none) (hg:∀ {μ},g μ->cB μ d0=some as):Wk X.T X.A tg it [it] [] as.reverse g (fun i θ μ h=>h.IsRevIter it ad ((as.length:Int) -1 -(i:Int))/\Rp h θ μ d0 (.ref ad)) where
 obj:=fun⟨⟨o,e,c,d⟩,_⟩ b hb=>by cases cG.mp hb;exact⟨o,e,.inr (bQ d c (by decide))⟩
 exx:=fun _ _ z=>nomatch z
 mono:=fun⟨st,y⟩ kp _ k=>⟨st.at fun o e=>k it (by simp) o e,kp.rp y⟩
 self:=fun st q=>adB st.1 q
 item:=fun {i d s θ μ Q2 E} st w nl gm hx f=>by
  obtain⟨st,r0⟩:=st;obtain⟨_,us,q,pl,l,r⟩:=jD w r0 (hg gm);cases q;have hi:i<as.length:=by simpa using(cj.mp hx).1
  have hj:as.length -1 -i<as.length:=by lia
  rw[List.getElem?_reverse hi]at hx;obtain⟨u,hu,ru⟩:=r.get hx;have e1:(as.length:Int) -1 -(i:Int)=((as.length -1 -i:Nat):Int):=by lia
  obtain⟨o0,e0,c0,d0'⟩:=id st;rw[e1]at st;refine wpAny_pyNext_rev_item st pl.isList (x:=u) (by simpa using hu) fun h' st' sb=>?_;have ke:∀ b o,b∉[it]->s.heap.get? b=some o->h'.get? b=some o:=fun b o hb q=>(sb.2 b (by simpa using hb)).trans q;have kp:Kp θ μ s.heap θ μ h':=Gi (fun b hb=>by cases cG.mp hb;exact⟨o0,e0,bQ d0' c0 (by decide)⟩) ke;have e2:((as.length -1 -i:Nat):Int) -1=(as.length:Int) -1 -((i+1:Nat):Int):=by lia
  rw[e2]at st';obtain⟨o,e,c,d⟩:=id st';exact⟨u,rfl,Aj (s:={s with heap:=h' }) e c d (by decide) (f (tk:=s.toks) ke ⟨st',kp.rp r0⟩ (kp.rp ru))⟩
 done:=fun {s θ μ Q E} st w hd nl gm f=>by
  obtain⟨st,r0⟩:=st;have e1:(as.length:Int) -1 -((as.reverse.length:Nat):Int)= -1:=by simp;lia
  rw[e1]at st;exact wpAny_pyNext_rev_end (hA hc) st fun h' eb=>f (tk:=s.toks) (fun b o hb q=>eb b o (by simpa using hb) q) fun _ z=>nomatch z
theorem ajx (hcl:X.calm=true) (hg:Gl X (aF "reversed")) (hm:X.T.mg (aF "reversed")=none) (hl:PE X l wl) (hs:eV [l] X.env=[(false,eval l X.env)]):
  PI X tg (.Call (.Name (aF "reversed") p) [l] [] pos) (fun ρ μ Q=>wl ρ μ fun a μ1=>agl a μ1 Q):=fun {s ρ θ μ R Q E} i h f=>by
 refine Call_ (uF i hg hm (u:=.type "reversed") (by decide+kernel) (by decide+kernel) (by decide+kernel) (Pr ?_ (by rw[hs];rfl) rfl));rw[hs];refine CG (hl i h fun {d u s1 θ1 μ1} i1 g1 r1 h1=>Ik ?_);unfold agl at h1;split at h1
 .rename_i as ha
  obtain⟨a,us,rfl,pl,l,r⟩:=jD i1.dG r1 ha;have hlen:us.toArray.size=as.length:=by simp[r.length]
  refine call_reversed_list pl.isList ?_;have st:(s1.heap.push (revObj a ((us.toArray.size:Int) -1))).IsRevIter s1.heap.objs.size a ((as.length:Int) -1 -((0:Nat):Int)):=⟨_,iH _ rfl,rfl,by rw[hlen];simp[revObj]⟩;exact adB st (f (Iv.kept (tk:=s1.toks) i1 cZ) (g1.trans (cV (tk:=s1.toks) cZ)) (aiv (ad:=a) hcl i1.ok.hd (fun e=>e)) ⟨st,(jE cZ).rp r1⟩
   (fun b hb=>by cases cG.mp hb;exact⟨(i1.rD (aB _)).1,⟨fun y=>(i1.rD (aB _)).2 (.inr y),.inr fun y=>(i1.rD (aB _)).2 (.inl y)⟩,g1.none (aB _)⟩) (by rw[List.length_reverse,<-r.length];exact l) h1)
 .exact h1.elim
end
end DW
namespace DW
open PySem PySem.Spec PyProof.Rows
open L2 (aN Key frs vC Loc Look Mod sG cT)
theorem aj1 (a v:Value):checkBuiltinCall "max" ⟨[a],[(aF "default",v)]⟩=pure ():=by kernel_rfl
theorem ahu {a b:Value}:(#[a,b]:Array Value).size<=sizeLine:=by rw[cY];simp
theorem alD:(#[]:Array Value).size<=sizeLine:=by rw[cY];simp
section
variable {prog:bN} {w:aO} {A:aP} {R:xq->aj->Prop} {I l S:Addr} {items:Array Value} {val:Nat->Int} {dv:Value}
theorem aaw (W:Walks prog w A.in1 I [I,l] [I] items.size (fun i v=>items[i]?=some v) (fun i h=>h.IsListIter I l i/\h.IsList l items)) (hv:∀ (i:Nat) (v:Value),items[i]?=some v->∃ t,v=qQ (val i) t)
  (hSI:S≠I) (hSl:S≠l):∀ (k j:Nat) (s:aj) (b:Value) (c:Nat),items.size -1 -j=k->j<items.size->(s.heap.IsListIter I l (j+1)/\s.heap.IsList l items)->
   items[cJ (fun i j=>decide (val i>val j)) j]?=some b->s.heap.get? S=some {cls:=.type "list",dict:=none,data:=.seq #[b,b] c,slots:=#[]}->
   (∀ v h' tk,items[cJ (fun i j=>decide (val i>val j)) (items.size -1)]?=some v->(∀ x o,x≠I->x≠S->s.heap.get? x=some o->h'.get? x=some o)->R (.ok (.ret v)) {s with heap:=h',toks:=tk})->
   ni (aU prog w) A (.builtin "max.loop" ⟨[.ref I,.none,.ref S],[(aF "default",dv)]⟩) R s:=by
 have nm:(toString "max"++toString ".loop":String)="max.loop":=by decide
 intro k;induction k with
 |zero=>
  intro j s b c hk hj st hb hS hR;have e:j+1=items.size:=by lia
  refine vX Om ?_;rw[zG uc _];show ao _ A.in1 (xu (.ref S)>>=_) _ _ s;refine au (xO hS rfl ?_);show ao _ A.in1 (tryCatch (lV (.ref I)) _>>=_) _ _ s;refine au (qX (W.done s _ _ (e▸st) fun h1 t1 k1=>?_));have hS1:=k1 S _ (by simpa using hSI) hS;show ao _ A.in1 (Nt S (fun _=>#[])>>=_) _ _ _;refine au (tZ hS1 rfl (hz:=ahu) (_hz':=Cy alD) (au (qW (aG ?_))));have ej:items.size -1=j:=by lia
  exact hR b _ t1 (by rw[ej];exact hb) fun x o hx hxS q=>(m8 _ _ (bK hxS)).trans (k1 x o (by simpa using hx) q)
 |succ k ih=>
  intro j s b c hk hj st hb hS hR;have hlt:j+1<items.size:=by lia
  refine vX Om ?_;rw[zG uc _];show ao _ A.in1 (xu (.ref S)>>=_) _ _ s;refine au (xO hS rfl ?_);show ao _ A.in1 (tryCatch (lV (.ref I)) _>>=_) _ _ s;refine au (qX (W.item (j+1) s _ _ hlt st fun v h1 t1 hP st1 k1=>?_));have hS1:=k1 S _ (by simpa using hSI) hS;show ao _ A.in1 (tryCatch (tR [v,v] (NK .Gt v b>>=_)) _>>=_) _ _ _;refine au (qX (pQ (au (CmpOf.ints_gt val hv (j+1) (cJ (fun i j=>decide (val i>val j)) j) v b _ _ _ hP hb ?_))));refine au (pQ (m7 ?_));refine au (qW (aG ?_));by_cases ht:val (j+1)>val (cJ (fun i j=>decide (val i>val j)) j)
  .rw[if_pos (decide_eq_true ht)]
   refine au (tZ (f:=fun _=>#[v,v]) hS1 rfl (hz:=ahu) (_hz':=Cy ahu) (au (qW ?_)));rw[nm];refine aG ⟨o8 uc _,ih (j+1) _ v _ (by lia) hlt (W.frame _ _ _ st1 fun x hx o q=>?_) (by simp only[cJ];rw[if_pos (decide_eq_true ht)];exact hP) (Hj _ hS1 rfl) fun v2 h2 t2 hP2 k2=>?_⟩
   .refine(m8 _ _ fun z:S=x=>?_).trans q
    subst z;rcases bC.mp hx with z|z
    .exact hSI z
    .exact hSl (cG.mp z)
   .exact hR v2 h2 t2 hP2 fun x o hx hxS q=>k2 x o hx hxS ((m8 _ _ (bK hxS)).trans (k1 x o (by simpa using hx) q))
  .rw[if_neg (fun z=>ht (of_decide_eq_true z))]
   refine au (qW ?_);rw[nm];refine aG ⟨o8 uc _,ih (j+1) _ b c (by lia) hlt st1 (by simp only[cJ];rw[if_neg (fun z=>ht (of_decide_eq_true z))];exact hb) hS1 fun v2 h2 t2 hP2 k2=>?_⟩;exact hR v2 h2 t2 hP2 fun x o hx hxS q=>k2 x o hx hxS (k1 x o (by simpa using hx) q)
end
section
variable {X:Cx} {ρ:dD} {θ:Th} {μ:Mem} {s:aj} {Qd:QD} {Q XE:Value->aj->Prop} {a b:Expr} {wa wb:WE} {d e:D} {u dv:Value} {y:Str} {p pos kpos:Pos} {nm:Option Str}
theorem aeU (hc:X.calm=true) (i:Iv X ρ θ μ s) (rd:Rp s.heap θ μ d u) (re:Rp s.heap θ μ e dv) (hw:K1 d e μ Qd) (f:Fin X ρ θ μ s Qd Q):ao X.M X.A (call (.builtin "max") [u] [(aF "default",dv)]) Q XE s:=by
 unfold K1 at hw;cases q:(cB μ d).bind lG with
 |none=>rw[q]at hw;exact hw.elim|some ns=>
 rw[q]at hw;obtain⟨ds,q1,q2⟩:=bind_some q;obtain⟨p,us,rfl,pl,l,rs⟩:=jD i.dG rd q1;obtain⟨zs,e1,e2⟩:=ints_of rs q2;have hl:=pl.isList;rw[e1]at hl;have hlt:p<s.heap.objs.size:=by obtain⟨o,n,e,_⟩:=pl;exact eZ e
 have nm:(toString "max"++toString ".loop":String)="max.loop":=by decide
 have hs:zs.size=ns.length:=by rw[<-e2];simp
 have hsI:(lX zs).size=ns.length:=by rw[<-hs];simp[lX]
 refine Vq (codeAny_call_builtin F.plain_max F.entry_max ?_);rw[aj1];refine aG ?_;show ao _ X.A.in1 (Pq "max" ["key","default"] 0 ⟨[],[(aF "default",dv)]⟩>>=_) _ _ s;refine au (VB (show Pq "max" ["key","default"] 0 ⟨[],[(aF "default",dv)]⟩=pure [none,some dv]from by kernel_rfl) ?_);refine au (aG ?_);refine au (Ox hl ?_);refine au (wj ?_);rw[nm];have hsz:(s.heap.push {cls:=.type "list_iterator",data:=.fields #[.ref p,.int 0 0]}).objs.size=s.heap.objs.size+1:=xP ..;have hSI:(s.heap.push {cls:=.type "list_iterator",data:=.fields #[.ref p,.int 0 0]}).objs.size≠s.heap.objs.size:=by rw[hsz];exact acF _
 have hSp:(s.heap.push {cls:=.type "list_iterator",data:=.fields #[.ref p,.int 0 0]}).objs.size≠p:=by rw[hsz];exact tY (Cw hlt)
 have W:=Vp (prog:=X.T.P) (w:=X.T.w) (A:=X.A.in1) (i.ok.hd hc) s.heap.objs.size p (jk hlt) (lX zs);generalize hS:(s.heap.push {cls:=.type "list_iterator",data:=.fields #[.ref p,.int 0 0]}).objs.size=S at hSI hSp ⊢;have st0:((s.heap.push {cls:=.type "list_iterator",data:=.fields #[.ref p,.int 0 0]}).push {cls:=.type "list",dict:=none,data:=.seq ([]:List Value).toArray}).IsListIter s.heap.objs.size p 0/\((s.heap.push {cls:=.type "list_iterator",data:=.fields #[.ref p,.int 0 0]}).push {cls:=.type "list",dict:=none,data:=.seq ([]:List Value).toArray}).IsList p (lX zs):=
  ⟨⟨_,eG _ (iH _ rfl),rfl,rfl⟩,(hl.push _).push _⟩
 have hS0:((s.heap.push {cls:=.type "list_iterator",data:=.fields #[.ref p,.int 0 0]}).push {cls:=.type "list",dict:=none,data:=.seq ([]:List Value).toArray}).get? S=some {cls:=.type "list",dict:=none,data:=.seq #[] 0,slots:=#[]}:=by rw[<-hS];exact iH _ rfl
 have old:∀ {h':aq},(∀ x o,x≠s.heap.objs.size->x≠S->((s.heap.push {cls:=.type "list_iterator",data:=.fields #[.ref p,.int 0 0]}).push {cls:=.type "list",dict:=none,data:=.seq ([]:List Value).toArray}).get? x=some o->h'.get? x=some o)->∀ x o,s.heap.get? x=some o->h'.get? x=some o:=fun {h'} k x o q=>by have hx:=eZ q;refine k x o (jk hx) ?_ (eG _ (eG _ q));rw[<-hS,hsz];exact jk (Cw hx)
 refine aG ⟨o8 uc _,?_⟩;cases ns with
 |nil=>have e0:(lX zs).size=0:=hsI;refine vX Om ?_;rw[zG uc _];show ao _ X.A.in1 (xu (.ref S)>>=_) _ _ _;refine au (xO hS0 rfl ?_);show ao _ X.A.in1 (tryCatch (lV (.ref s.heap.objs.size)) _>>=_) _ _ _;refine au (qX (W.done _ _ _ (e0▸st0) fun h1 t1 k1=>?_));refine au (Cg (aG ?_));have k:=old fun x o hx _ q=>k1 x o (by simpa using hx) q;exact f.hp i k ((jE k).rp re) hw
 |cons n r=>
  have hv:∀ (i:Nat) (v:Value),(lX zs)[i]?=some v->∃ t,v=qQ (dM zs i) t:=fun i v h=>Vv h;refine vX Om ?_;rw[zG uc _];show ao _ X.A.in1 (xu (.ref S)>>=_) _ _ _;refine au (xO hS0 rfl ?_);show ao _ X.A.in1 (tryCatch (lV (.ref s.heap.objs.size)) _>>=_) _ _ _;refine au (qX (W.item 0 _ _ _ (by rw[hsI];simp) st0 fun v h1 t1 hP st1 k1=>?_));have hS1:=k1 S _ (by simpa using hSI) hS0;show ao _ X.A.in1 (Nt S (fun _=>#[v,v])>>=_) _ _ _;refine au (tZ hS1 rfl (hz:=alD) (_hz':=Cy ahu) ?_);rw[nm];refine aG ⟨o8 uc _,aaw (val:=dM zs) W hv hSI hSp _ 0 _ v _ rfl (by rw[hsI];simp) (W.frame _ _ _ st1 fun x hx o q=>?_) hP (Hj _ hS1 rfl) fun v2 h2 t2 hP2 k2=>?_⟩
  .refine(m8 _ _ fun z:S=x=>?_).trans q
   subst z;rcases bC.mp hx with z|z
   .exact hSI z
   .exact hSp (cG.mp z)
  .obtain⟨t,rfl⟩:=hv _ _ hP2
   (have ez:(lX zs).size=zs.size:=by simp[lX]);refine f.hp i (old fun x o hx hxS q=>k2 x o hx hxS ((m8 _ _ (bK hxS)).trans (k1 x o (by simpa using hx) q))) (mQ ?_) hw;rw[ez,Zh zs n r e2]
theorem ag0 (ey:y=aF "max") (en:nm=some (aF "default")) (hc:X.calm=true) (g:Gl X y) (m:X.T.mg y=none) (ha:PE X a wa) (hb:PE X b wb) (hs:eV [a] X.env=(false,eval a X.env)::eV [] X.env):
  PE X (.Call (.Name y p) [a] [⟨nm,b,kpos⟩] pos) (fun ρ μ Q=>wa ρ μ fun d μ1=>wb ρ μ1 fun e μ2=>K1 d e μ2 Q):=by
 subst ey en;intro s ρ θ μ Qd Q E i h f;refine Cz (uF i g m ajf (by decide+kernel) (by decide+kernel) ?_);have hs':jc pos (eV [a] X.env)=(false,eval a X.env)::jc pos (eV [] X.env):=by rw[hs];rfl
 refine callWith_kw ?_ hs' (by rw[hs'];rfl) rfl rfl;rw[hs'];refine CG (ha i h fun {d u s1 θ1 μ1} i1 g1 r1 h1=>Ik ?_);show ao _ _ (evalAll ((do let v<-eval b X.env;Hw pos;pure v)::(BZ pos (Ci [] X.env)).map (·.2))) _ _ s1
 refine wpAny_evalAll_cons (au (hb i1 h1 fun {e v s2 θ2 μ2} i2 g2 r2 h2=>au (V1 (aG (wpAny_evalAll_nil ?_)))));exact aeU hc i2 ((i1.kp g2).rp r1) r2 h2 (Fn.mono f (g1.trans g2))
end
end DW
namespace DW
open PySem
section
variable {P P':Rf->dh->Prop} {G G':Str->D->Prop} (hp:∀ x sp,P x sp->P' x sp) (hg:∀ x d,G x d->G' x d)
include hp hg
mutual
theorem cC.mono:∀ e:E,cC P G e->cC P' G' e
 | .var _,h=>trivial| .cst _,h=>trivial| .gbl x d,h=>hg x d h| .bin _ a b,h=>⟨cC.mono a h.1,cC.mono b h.2⟩| .neg a,h=>cC.mono a h| .not a,h=>cC.mono a h| .cmp _ a b,h=>⟨cC.mono a h.1,cC.mono b h.2⟩| .QC _ a b,h=>⟨cC.mono a h.1,cC.mono b h.2⟩| .chain _ _ a b c,h=>⟨cC.mono a h.1,cC.mono b h.2.1,cC.mono c h.2.2⟩| .and a b,h=>⟨cC.mono a h.1,cC.mono b h.2⟩| .or a b,h=>⟨cC.mono a h.1,cC.mono b h.2⟩| .ife a b c,h=>⟨cC.mono a h.1,cC.mono b h.2.1,cC.mono c h.2.2⟩| .call x sp as,h=>⟨hp (.fn x) sp h.1,fH.mono as h.2⟩| .blt _ as,h=>fH.mono as h| .aaZ _ a b,h=>⟨cC.mono a h.1,cC.mono b h.2⟩| .isin a _,h=>cC.mono a h| .isin a _ (some _),h=>⟨hp _ _ h.1,cC.mono a h.2⟩| .meth _ o as,h=>⟨cC.mono o h.1,fH.mono as h.2⟩| .Rj _ o as,h=>⟨cC.mono o h.1,fH.mono as h.2⟩| .rmv o as,h=>⟨cC.mono o h.1,fH.mono as h.2⟩| .aaH as,h=>fH.mono as h| .dd3 _ _ _ a b e,h=>⟨cC.mono a h.1,cC.mono b h.2.1,cC.mono e h.2.2⟩| .idx a b,h=>⟨cC.mono a h.1,cC.mono b h.2⟩| .slc _ a lo hi,h=>⟨cC.mono a h.1,fH.mono lo h.2.1,fH.mono hi h.2.2⟩| .tup as,h=>fH.mono as h| .lst _ as,h=>fH.mono as h| .comp _ _ _ _ elt it cond,h=>⟨cC.mono elt h.1,okI.mono it h.2.1,fH.mono cond h.2.2⟩| .frz a,h=>cC.mono a h| .Yb a b,h=>⟨cC.mono a h.1,cC.mono b h.2⟩| .aaP _,h=>trivial| .fld c f o,h=>⟨hp _ _ h.1,cC.mono o h.2⟩| .q9 c m sp o as,h=>⟨hp _ _ h.1,cC.mono o h.2.1,fH.mono as h.2.2⟩| .mk c sp as,h=>⟨hp _ _ h.1,fH.mono as h.2⟩
theorem fH.mono:∀ e:Es,fH P G e->fH P' G' e
 | .nil,_=>trivial| .cons e es,h=>⟨cC.mono e h.1,fH.mono es h.2⟩
theorem okI.mono:∀ e:It,okI P G e->okI P' G' e
 | .seq e,h=>cC.mono e h| .rng as,h=>fH.mono as h| .enum a,h=>cC.mono a h| .rvd a,h=>cC.mono a h
end
theorem aam.mono:∀ k:XC,aam P G k->aam P' G' k
 | .dsp x ks sp i as,h=>⟨hp _ _ h.1,cC.mono hp hg i h.2.1,fH.mono hp hg as h.2.2⟩
end
mutual
theorem okS.mono:∀ (s:S) {P P':Rf->dh->Prop} {G G':Str->D->Prop} (hp:∀ x sp,P x sp->P' x sp) (hg:∀ x d,G x d->G' x d),okS P G s->okS P' G' s
 | .set _ e,_,_,_,_,hp,hg,h=>cC.mono hp hg e h| .Rt _ e,_,_,_,_,hp,hg,h=>cC.mono hp hg e h| .dput o i e,_,_,_,_,hp,hg,h=>⟨cC.mono hp hg o h.1,cC.mono hp hg i h.2.1,cC.mono hp hg e h.2.2⟩| .Mg _ o i e,_,_,_,_,hp,hg,h=>⟨cC.mono hp hg o h.1,cC.mono hp hg i h.2.1,cC.mono hp hg e h.2.2⟩| .G9 o i e,_,_,_,_,hp,hg,h=>⟨cC.mono hp hg o h.1,cC.mono hp hg i h.2.1,cC.mono hp hg e h.2.2⟩| .exp e,_,_,_,_,hp,hg,h=>cC.mono hp hg e h| .ret e,_,_,_,_,hp,hg,h=>cC.mono hp hg e h| .ite c a b,_,_,_,_,hp,hg,h=>⟨cC.mono hp hg c h.1,jz.mono a hp hg h.2.1,jz.mono b hp hg h.2.2⟩| .for_ _ _ it b,_,_,_,_,hp,hg,h=>⟨okI.mono hp hg it h.1,jz.mono b hp hg h.2⟩| .whl c b,_,_,_,_,hp,hg,h=>⟨cC.mono hp hg c h.1,jz.mono b hp hg h.2⟩| .pN c f o e,_,_,_,_,hp,hg,h=>⟨hp _ _ h.1,cC.mono hp hg o h.2.1,cC.mono hp hg e h.2.2⟩| .aa1 c f _ o e,_,_,_,_,hp,hg,h=>⟨hp _ _ h.1,cC.mono hp hg o h.2.1,cC.mono hp hg e h.2.2⟩| .Xn,_,_,_,_,_,_,_=>trivial| .aai k,_,_,_,_,hp,hg,h=>aam.mono hp hg k h| .Z7 _ _ _ b _,_,_,_,_,hp,hg,h=>jz.mono b hp hg h
theorem jz.mono:∀ (s:Ss) {P P':Rf->dh->Prop} {G G':Str->D->Prop} (hp:∀ x sp,P x sp->P' x sp) (hg:∀ x d,G x d->G' x d),jz P G s->jz P' G' s
 | .nil,_,_,_,_,_,_,_=>trivial| .cons s r,_,_,_,_,hp,hg,h=>⟨okS.mono s hp hg h.1,jz.mono r hp hg h.2⟩
end
open PySem.Spec PyProof.Rows
open L2 (aN Key frs vC Loc Look Mod sG cT Cls iQ Meth Mk qL fG zE)
def alM (K:bV) (mg:Str->Option Value) (P:String) (tab:List String):Prop:=∃ CP,mg (aF P)=some (.ref CP)/\∀ c∈tab,∃ C,bG K aQ (aF c)=some (some (.ref C))/\aco K (.ref C) (.ref CP)=some true
def alN (K:bV) (mg:Str->Option Value) (x:Str) (ks:List (List Nat)):Prop:=∃ a,mg x=some (.ref a)/\JD K a=true/\(qx K a).map (fun p=>p.1.cps.toList)=ks
def air (T:Top) (k:Nat) (x:Str) (ks:List (List Nat)) (sp:rH):Prop:=∃ a,T.mg x=some (.ref a)/\JD T.K a=true/\(qx T.K a).map (fun p=>p.1.cps.toList)=ks/\
 ∀ ds μ Q Xq,sp ds μ Q Xq->∃ t r fa fd ps sp',ds= .str t::r/\m9 (⟨t.toArray⟩:Str) (qx T.K a)=some fa/\Binds T.K fd ps/\lM T k fa fd ps sp'/\sp' r μ Q Xq
def qD (T:Top) (k:Nat):Rf->dh->Prop
 | .fn x,sp=>∃ (fa:Addr) (fd:d8) (ps:List Str),T.mg x=some (.ref fa)/\oJ T.K (.ref fa)=true/\Binds T.K fd ps/\lM T k fa fd ps (Q7 sp)| .q9 c m,sp=>∃ (C fa:Addr) (fd:d8) (ps:List Str),bG T.K aQ (aF c)=some (some (.ref C))/\Cls T.K C/\Meth T.K C (aF m) fa/\Binds T.K fd ps/\lM T k fa fd ps (Q7 sp)| .mk c,sp=>∃ (C fa:Addr) (fd:d8) (ps:List Str) (j:Nat),bG T.K aQ (aF c)=some (some (.ref C))/\T.mg (aF c)=some (.ref C)/\Mk T.K C fa/\Binds T.K fd ps/\lM T j fa fd ps (Q7 sp)/\j+1<=k| .fld c f,_=>∃ C:Addr,bG T.K aQ (aF c)=some (some (.ref C))/\Cls T.K C/\iQ T.K C (aF f)| .fnX x sp,_=>∃ (fa:Addr) (fd:d8) (ps:List Str),T.mg x=some (.ref fa)/\oJ T.K (.ref fa)=true/\Binds T.K fd ps/\lM T k fa fd ps sp| .alc c m sp,_=>∃ (C fa:Addr) (fd:d8) (ps:List Str),bG T.K aQ (aF c)=some (some (.ref C))/\Cls T.K C/\Meth T.K C (aF m) fa/\Binds T.K fd ps/\lM T k fa fd ps sp| .mkX c sp,_=>∃ (C fa:Addr) (fd:d8) (ps:List Str) (j:Nat),bG T.K aQ (aF c)=some (some (.ref C))/\T.mg (aF c)=some (.ref C)/\Mk T.K C fa/\Binds T.K fd ps/\lM T j fa fd ps sp/\j+1<=k| .din x ks,_=>alN T.K T.mg x ks| .dsp x ks sp,_=>air T k x ks sp| .hdl P tab,_=>alM T.K T.mg P tab|_,_=>False
def uY (X:Cx) (y:Rf) (sp:dh):Prop:=∃ k,cT k X.A/\qD X.T k y sp
def mz (X:Cx) (x:Str) (d:D):Prop:=∃ u:Value,X.T.mg x=some u/\∀ h θ μ,Rp h θ μ d u
structure qF (X:Cx) (c:Ctx):Prop where
 N:X.N=c.N
 nd:c.N.Nodup
 vis:∀ x,c.vis x=true->vC X.env.scope x
 loc:∀ x,c.loc x=true->Sto X x
 isl:∀ x,isLocal c x=true->X.env.scope.names.lookup x=some .local
 Ak:∀ x,c.Ak x=true->Gl X x
 clo:∀ x,(c.names.lookup x=some .cell∨c.names.lookup x=some .free)->(X.env.kindOf x=some .cell∨X.env.kindOf x=some .free)
 blt:∀ x,c.gW.contains x=true->X.T.mg x=none
 calm:c.calm=true->X.calm=true
 room:∃ k,cT k X.A
section
variable {X:Cx} {c:Ctx} {i:Nat} {x:Str} {e a:Expr} {es:List Expr} {env:Env} {op:iK} {scope:Scope} {xs cs:List Str} {cap:List Nat} {tt:Bool} {w w':WE} {t t':WT}
theorem Gr (h:c.at_ i x=true):c.N[i]?=some x:=by
 unfold Ctx.at_ at h;split at h
 .rename_i y e;rw[e,of_decide_eq_true h]
 .cases h
theorem zf (h:notStar e=true):eV (e::es) env=(false,eval e env)::eV es env:=by cases e<;>first|rfl|exact(fj h).elim
theorem Tn:∀ {es:Es} {as:List Expr},qd c es as=true->mK es=as.length
 | .nil,as,h=>by
  have:as=[]:=by simpa[qd]using h
  subst this;rfl
 | .cons e es,as,h=>by
  cases as with
  |nil=>simp[qd]at h|cons a as=>simp only[qd,bL]at h;simp[mK,Tn h.2]
theorem j7 (h:f9 x=false):(x==("__debug__":Str))=false/\(x==("__classdict__":Str))=false:=by unfold f9 at h;exact Bool.or_eq_false_iff.mp h
theorem G8 (h:jA e=true):N7 op e=false:=by cases e<;>first|rfl|exact(fj h).elim
theorem Dm (h:jA e=true):∀ v,Ow e env v=pure v:=by intro v;cases e<;>first|rfl|exact(fj h).elim
theorem q8 (h:dW e=true):Bg e:=by intro o i;cases e<;>first|rfl|exact(fj h).elim
theorem yZ {t n} (h:ig e=true):xr e t n env=pure false:=by cases e<;>first|rfl|exact(fj h).elim
theorem PT.wk (h:PT X a t) (q:∀ ρ μ Q,t' ρ μ Q->t ρ μ Q):PT X a t':=fun i z f=>h i (q _ _ _ z) f
theorem Iw:PT X a (fun _ _ _=>False):=fun _ z _=>z.elim
theorem pw_no (h:∀ op vs pos,a≠.BoolOp op vs pos):∀ op vs pos,a= .BoolOp op vs pos->PW X a t:=fun op vs pos e=>absurd e (h op vs pos)
structure Snd (X:Cx) (e:DW.E) (a:Expr):Prop where
 pe:PE X a (wE e)
 pt:PT X a (wT e)
 pw:∀ op vs pos,a= .BoolOp op vs pos->PW X a (wT e)
theorem Bb:∀ {cap:List Nat} {cs:List Str},lJ c cap=some cs->cs.length=cap.length/\∀ (j:Nat) (y:Str),cs[j]?=some y->∃ i,cap[j]?=some i/\c.N[i]?=some y
 |[],cs,h=>by simp only[lJ,pU]at h;subst h;exact⟨rfl,fun j y e=>by simp at e⟩|i::is,cs,h=>by
  simp only[lJ]at h;split at h
  .rename_i x r e1 e2
   simp only[pU]at h;subst h;obtain⟨h1,h2⟩:=Bb e2;refine⟨by simp[h1],fun j y e=>?_⟩;cases j with
   |zero=>simp at e;subst e;exact⟨i,rfl,e1⟩|succ j=>obtain⟨i',a1,a2⟩:=h2 j y (by simpa using e);exact⟨i',by simpa using a1,a2⟩
  .cases h
theorem JV (C:qF X c) (h1:lJ c cap=some cs) (h:JW c scope (xs++cs) cs=true):vD X xs.length scope (xs++cs) cap:=by
 simp only[JW,bL,Ov]at h;obtain⟨⟨⟨⟨⟨k1,k2⟩,k3⟩,k5⟩,k6⟩,k7⟩:=h;obtain⟨hl,hg⟩:=Bb h1;refine⟨by simpa using k1,fun y hy hc=>?_,fun y hy hloc=>?_,of_decide_eq_true k5,fun j y e=>?_,by simp[hl],fun y hy hf=>?_⟩
 .have:=k2 y hy
  rw[hc]at this;simpa using this
 .have:=k3 y hy
  rw[hloc]at this;simpa using this
 .have e':cs[j]?=some y:=by rw[pX (by lia)]at e;simpa using e
  obtain⟨i,a1,a2⟩:=hg j y e';refine⟨i,a1,by rw[C.N];exact a2,?_⟩;have:=k6 y (pW e');simpa using this
 .have:=k7 y hy
  rw[hf]at this;refine C.clo y.1 ?_;simpa using this
theorem qz (C:qF X c) (h:JW c scope (xs++cs) cs=true) (cl:List (Str×Addr)) (Ca:Addr):qF (cX X (xs++cs) scope cl Ca) (c.in_ (xs++cs) scope.names):=by
 simp only[JW,bL,Ov]at h;obtain⟨⟨⟨⟨⟨k1,k2⟩,k3⟩,k5⟩,k6⟩,k7⟩:=h;have cel:∀ y,scope.names.lookup y=some .cell->(Hs scope X.env).names.lookup y=some .cell:=fun y z=>qL z;have lk:∀ y,scope.names.lookup y=some .local->(Hs scope X.env).names.lookup y=some .local:=fun y z=>lookup_relabel_local z;refine⟨rfl,of_decide_eq_true k5,fun y hy=>?_,fun y hy=>?_,fun y hy=>?_,fun y hy=>?_,fun y hy=>?_,C.blt,C.calm,C.room⟩
 .unfold Ctx.vis at hy
  split at hy
  .rename_i z;exact .inl (lk y z)
  .rename_i z;exact .inr (.inl (cel y z))
  .rename_i z
   rcases fG (env:=X.env) z with q|q
   .exact .inr (.inr q)
   .exact .inr (.inl q)
  .cases hy
 .unfold Ctx.loc at hy
  split at hy
  .rename_i z;exact .inl (lk y z)
  .rename_i z;exact .inr ⟨cel y z,by show(scope.names.lookup y==some .cell)=true;rw[z];rfl⟩
  .cases hy
 .exact lk y (by simpa[isLocal]using hy)
 .unfold Ctx.Ak at hy
  split at hy
  .rename_i z
   show(Hs scope X.env).names.lookup y=some .globalImplicit;exact zE z
  .cases hy
 .rcases hy with hy|hy
  .exact .inl (cel y hy)
  .exact(fG (env:=X.env) hy).symm
theorem Ja (C:qF X c):∀ {is:List Nat} {ts:List Expr},jC c is ts=true->PGs X ts is/\(qR ts X.env).length=is.length/\(qR ts X.env).findIdx? (·.1)=none
 |[],[],_=>⟨agS,rfl,rfl⟩|[],_::_,h=>by simp[jC]at h|_::_,[],h=>by simp[jC]at h|i::is,t::ts,h=>by
  simp only[jC,bL]at h;obtain⟨h1,h2⟩:=h;cases t with
  |Name x p=>
   simp only[bL]at h1;obtain⟨k1,k2,k3⟩:=Ja C h2;refine⟨aey (by rw[C.N];exact C.nd) (by rw[C.N];exact Gr h1.1) (C.loc x h1.2) k1,?_,?_⟩
   .show(qR ts X.env).length+1=_
    rw[k2];rfl
   .show List.findIdx? (fun x=>x.1) ((false,qN (.Name x p) X.env)::qR ts X.env)=none
    rw[List.findIdx?_cons];simp[k3]
  |_=>simp at h1
theorem Y6 (C:qF X c) {is:List Nat} (hcm:tt=true->c.calm=true) (h:mTg c is tt a=true):PG X a (fun d r k=>eX is tt d r k):=by
 cases tt with
 |false=>
  match is,h with
  |[i],h=>
   cases a with
   |Name x p=>simp only[mTg,jC,bL,V0]at h;intro s ρ θ μ d u k R E i1 r q f;exact agT (j:=i) (pos:=p) (C.N▸C.nd) (C.N▸Gr h.1) (C.loc x h.2) i1 r q f|_=>simp[mTg,jC]at h
  |[],h=>simp[mTg,jC]at h|_::_::_,h=>simp[mTg,jC]at h
 |true=>
  cases a with
  |Tuple ts k p=>obtain⟨h1,h2,h3⟩:=Ja C (show jC c is ts=true from h);exact ajz (C.calm (hcm rfl)) h1 h2 h3|_=>simp[mTg]at h
theorem tgn (h:FT tt a=some xs):tt=false->xs.length=1:=fun z=>by
 subst z;cases a with
 |Name x p=>cases h;rfl
 |_=>cases h
end
end DW
namespace DW
open PySem PySem.Spec PyProof.Rows
open L2 (aN Key frs vC Loc Look Mod sG cT)
section
variable {X:Cx} {ρ:dD} {θ:Th} {μ:Mem} {s:aj} {d x y:D} {u v w:Value} {ds es as bs:List D} {us vs:List Value} {Qd:QD} {Q:Value->aj->Prop} {E:Value->aj->Prop} {a b e:Expr} {wa wb we:WE} {ws:WA} {j k n:Nat} {p2 pos:Pos} {m:Bool}
end
section
variable {X:Cx} {i j k:Nat} {x y z:Str} {a b e:Expr} {px py pz pt pt2 pos pos':Pos} {kt k2} {wa we:WE} {ws:WA} {op:jx} {env:Env}
end
end DW
namespace DW
open PySem PySem.Spec PyProof.Rows
open L2 (aN Key frs vC Loc Look Mod sG cT Aj)
section
variable {X:Cx} {V:Addr->Prop} {F:List Addr} {ρ:dD} {θ:Th} {μ:Mem} {s:aj} {h':aq} {tk:Nat} {l:List Addr}
end
section
variable {X:Cx} {a b l r:Addr} {wl wr:WE} {d0 e0:D} {as bs:List D} {g:Mem->Prop} {z TI TO i1 i2:Addr} {es:List Expr} {k:Nat} {p pos tp:Pos} {t:Bool}
end
end DW
namespace DW
section
open PySem PySem.SeqAt
open AutoSeq1 (wpAny_loadPart')
open MeetsSeq MeetsSeq2 MeetsSeq3 SeqRoads2
end
open PySem PySem.Spec PyProof.Rows PySem.SeqAt
open L2 (aN Key frs vC Loc Look Mod sG cT)
section
variable {prog:bN} {w:aO} {A:aP} {E:Value->aj->Prop} {s:aj}
end
section
variable {X:Cx} {ρ:dD} {θ:Th} {μ:Mem} {s:aj} {d:D} {u:Value} {a:Expr} {wa:WE} {T:String} {XE:Value->aj->Prop} {Q:Value->aj->Prop} {p p1 p2 pos pos2 tp:Pos} {k:Nat}
end
end DW
namespace DW
open PySem PySem.Spec PyProof.Rows
open L2 (aN Key frs vC Loc Look Mod sG cT Cls iQ Meth Mk)
section
variable {X:Cx} {ρ:dD} {θ:Th} {μ:Mem} {s:aj} {m n k:Nat} {h:aq}
theorem JB:∀ (ds:List D),flats m (ds.map (eN μ n))=true->∀ d∈ds,flat m (eN μ n d)=true
 |[],_,d,h=>by simp at h|e::ds,h,d,hd=>by
  have h':flat m (eN μ n e)=true/\flats m (ds.map (eN μ n))=true:=by simpa[flats]using h
  rcases bC.mp hd with rfl|hd
  .exact h'.1
  .exact JB ds h'.2 d hd
theorem readsAll_map:∀ (ds:List D) (us:List Value),c7 h θ μ ds us->(∀ d∈ds,∀ u,Rp h θ μ d u->∃ as,Reads h u (pd (eN μ n d)) as)->∃ as,ReadsAll h us (Lg (ds.map (eN μ n))) as
 |[],_,r,_=>by cases r.nil_inv;exact⟨_,by rw[aV];unfold Lg;exact .nil⟩
 |d::ds,_,⟨u,r,e,x,y⟩,hh=>by obtain⟨as,ra⟩:=hh d (by simp) u x;obtain⟨bs,rb⟩:=readsAll_map ds r y fun e he=>hh e (by simp[he]);exact⟨as++bs,by rw[e,aX];unfold Lg;exact .cons ra rb⟩
theorem qM (w:pD X.T θ μ h):∀ (n m:Nat) (d:D) (u:Value),Rp h θ μ d u->flat m (eN μ n d)=true->∃ as,Reads h u (pd (eN μ n d)) as
 |0,m,d,u,r,f=>eO m d u r f|n+1,m,d,u,r,f=>by
  have ls:∀ {a:Addr} {us:List Value} {ds:List D},jP h 1 a us->c7 h θ μ ds us->flat m (.lst (ds.map (eN μ n)))=true->∃ as,Reads h (.ref a) (pd (.lst (ds.map (eN μ n)))) as:=by
   intro a us ds x rs f;cases m with
   |zero=>simp[flat]at f|succ m=>obtain⟨_,k,ho⟩:=x;obtain⟨as,ra⟩:=readsAll_map ds us rs fun d hd u r=>qM w n m d u r (JB ds (by simpa[flat]using f) d hd);exact⟨a::as,by unfold pd;exact .list ho rfl rfl (by simpa using ra)⟩
  cases d with
  |tup ds=>
   replace f:flat m (.tup (ds.map (eN μ n)))=true:=f;obtain⟨a,us,rfl,⟨_,o,k,ho,hc,hd,_⟩,_,rs⟩:=r;cases m with
   |zero=>simp[flat]at f|succ m=>obtain⟨as,ra⟩:=readsAll_map ds us rs fun d hd u r=>qM w n m d u r (JB ds (by simpa[flat]using f) d hd);exact⟨as,by show Reads _ _ (pd (.tup (ds.map (eN μ n)))) _;unfold pd;exact .tuple ho hc hd (by simpa using ra)⟩
  |lst ds=>obtain⟨a,us,rfl,x,_,rs⟩:=r;exact ls x rs f|loc k=>
   (have e:eN μ (n+1) (.loc k)=match μ[k]? with|some (.lst ds)=>.lst (ds.map (eN μ n))|_=>.loc k:=rfl);rw[e]at f ⊢;cases hk:μ[k]? with
   |none=>rw[hk]at f;simp[flat]at f|some c=>
    rw[hk]at f;cases c with
    |lst ds=>obtain⟨p,us,rfl,_,_,x,rs⟩:=Iv.lst w hk r;exact ls x rs f|_=>simp[flat]at f
  |non=>exact eO m _ u r f|bl _=>exact eO m _ u r f|int _=>exact eO m _ u r f|str _=>exact eO m _ u r f|ro _=>exact eO m _ u r f|jN _ _=>exact eO m _ u r f
theorem afz (hr:cT k X.A) (neg:Bool):Op2 X (jy (if neg then .NotEq else .Eq)) (Z1 neg):=by
 intro s ρ θ μ d e u v Qd Q E i rd re ⟨f1,f2,q⟩ f;have hu:X.A.units+64<cLine:=hr.units;obtain⟨as,ra⟩:=qM i.dG 8 60 d u rd f1;obtain⟨bs,rb⟩:=qM i.dG 8 60 e v re f2;have dp:=Ay _ _ f1;cases neg with
 |true=>refine adN ra rb (dO _ _ f1) (dO _ _ f2) (by lia) ?_;rw[yH _ _ _ _ f1 f2];exact f.at i Rz (by simpa using q)|false=>refine adO ra rb (dO _ _ f1) (dO _ _ f2) (by lia) ?_;rw[yH _ _ _ _ f1 f2];exact f.at i Rz (by simpa using q)
end
section
variable {X:Cx} {c:Ctx} {x y:Str} {e a:Expr} {es as:List Expr} {ws:WA} {b:String} {p pos:Pos}
theorem afT:ZV X (fun us=>call (.type "list") us) (bO "list"):=KR (by decide) (fun {s ρ θ μ d u Qd Q E} i r hw f=>by
 simp only[bO]at hw;split at hw
 .rename_i ds hq;exact RW (m:=false) i r hq hw f
 .exact hw.elim) fun i x y hw f=>by simp[bO]at hw
theorem ajN (hx:b∈PX) (ey:y=afS b) (hc:X.calm=true) (g:Gl X y) (m:X.T.mg y=none) (ha:Ar X (e::es) ws):PE X (.Call (.Name y p) (e::es) [] pos) (fun ρ μ Q=>ws ρ μ fun ds μ1=>bO b ds μ1 Q):=by
 subst ey;simp only[PX,bC,tL,or_false]at hx;rcases hx with rfl|rfl|rfl|rfl|rfl|rfl|rfl|rfl|rfl|rfl
 .exact nF (by decide+kernel) (by decide+kernel) (by decide+kernel) ahK g m ha
 .exact nF (by decide+kernel) (by decide+kernel) (by decide+kernel) (ahM hc) g m ha
 .exact nF (by decide+kernel) (by decide+kernel) (by decide+kernel) (ahJ hc) g m ha
 .exact nF (by decide+kernel) (by decide+kernel) (by decide+kernel) (ahI hc) g m ha
 .exact zL (by decide+kernel) (by decide+kernel) (by decide+kernel) (afT) g m ha
 .exact zL (by decide+kernel) (by decide+kernel) (by decide+kernel) aaY g m ha
 .exact nF (by decide+kernel) (by decide+kernel) (by decide+kernel) Yr g m ha
 .exact nF (by decide+kernel) (by decide+kernel) (by decide+kernel) T6 g m ha
 .exact zL (by decide+kernel) (by decide+kernel) (by decide+kernel) ahH g m ha
 .exact zL (by decide+kernel) (by decide+kernel) (by decide+kernel) ahL g m ha
theorem alI {it:It} {tt:Bool} (h:(c.calm||(Hi it&& !tt))=true):c.calm=true∨Hi it=true:=by
 rcases adl.mp h with h|h
 .exact .inl h
 .exact .inr (W2.mp h).1
theorem alH {it:It} {tt:Bool} (h:(c.calm||(Hi it&& !tt))=true):tt=true->c.calm=true:=fun z=>by subst z;simpa using h
def isTup:Expr->Bool
 | .Tuple ..=>true|_=>false
theorem Gu {is:List Nat} {tt:Bool} {t:Expr} {it:It} (h:mTg c is tt t=true) (hz:vO tt it=true):vO (isTup t) it=true:=by
 cases it with
 |enum l=>simp only[vO]at hz ⊢;subst hz;cases t<;>first|rfl|exact(fj h).elim
 |_=>rfl
theorem aeW {it:It} (h:mI c it a=true):jA a=true:=by
 cases it with
 |seq e=>simp only[mI,bL]at h;exact h.2|_=>obtain⟨t,e,_⟩:=aA h;obtain⟨p,q,rfl⟩:=gZ e;rfl
theorem ak7 {w:WE} (he:∀ whole,w7 a X.env whole=(do let v<-whole;Hw a.pos;tR [v] (Hr v))) (pe:PE X a w):PT X a (fun ρ μ Q=>w ρ μ fun d μ1=>fU d μ1 Q):=fun i q f=>isTrue_plain (pe i q fun i1 g1 r1 h1=>by obtain⟨b,rfl,rfl,q⟩:=Ey r1 h1;exact m7 (f i1 g1 rfl q)) (he _)
theorem pw_tru {e':DW.E} (pe:PE X a (wE e')) (he:∀ whole,w7 a X.env whole=(do let v<-whole;Hw a.pos;tR [v] (Hr v))) (h:∀ ρ μ Q,wT e' ρ μ Q->wE e' ρ μ fun d μ1=>fM d μ1 Q) (hb:∀ op vs pos,a≠.BoolOp op vs pos):Snd X e' a:=⟨pe,PT.wk (ajp pe he) h,pw_no hb⟩
theorem pw_nev {e':DW.E} (pe:PE X a (wE e')) (h:∀ ρ μ Q,¬wT e' ρ μ Q) (hb:∀ op vs pos,a≠.BoolOp op vs pos):Snd X e' a:=⟨pe,PT.wk Iw fun ρ μ Q z=>h ρ μ Q z,pw_no hb⟩
end
mutual
theorem sE:∀ (e:E) {X:Cx} {c:Ctx} {a:Expr},qF X c->mE c e a=true->cC (uY X) (mz X) e->Snd X e a
 | .var i,X,c,a,C,h,_=>by have h:(opt (pI a) fun x=>c.at_ i x&&c.vis x&& !f9 x)=true:=h;obtain⟨x,e,hh⟩:=aA h;obtain⟨pos,rfl⟩:=mU e;have h:=hh;simp only[bL,vZ]at h;obtain⟨⟨h1,h2⟩,h3⟩:=h;obtain⟨o1,o2⟩:=j7 h3;exact pw_tru (ajA (C.N▸Gr h1) (C.vis x h2) o1 o2) (fun _=>rfl) (fun ρ μ Q q=>by simp only[wT]at q;simp only[wE];exact q) (fun _ _ _ z=>by cases z)| .cst d,X,c,a,C,h,_=>by have h:(opt (Uq a) fun k=>mC k d)=true:=h;obtain⟨k,e,hh⟩:=aA h;obtain⟨j,pos,rfl⟩:=Uo e;have h:=hh;exact pw_tru (ajM h) (fun _=>rfl) (fun ρ μ Q q=>q) (fun _ _ _ z=>by cases z)| .gbl y d,X,c,a,C,h,ok=>by have h:(opt (pI a) fun x=>x==y&&c.Ak x&& !f9 x)=true:=h;obtain⟨x,e,hh⟩:=aA h;obtain⟨pos,rfl⟩:=mU e;have h:=hh;simp only[bL,vZ,beq_iff_eq]at h;obtain⟨⟨rfl,h2⟩,h3⟩:=h;obtain⟨u,m,r⟩:=(show mz X x d from ok);exact pw_nev (agW (C.Ak x h2) m r (j7 h3).1) (fun _ _ _ z=>z) (fun _ _ _ z=>by cases z)| .bin op l r,X,c,a,C,h,ok=>by have h:(opt (aiD a) fun t=>op==t.2.1&&mE c l t.1&&mE c r t.2.2)=true:=h;obtain⟨⟨l',op',r'⟩,e,hh⟩:=aA h;obtain⟨pos,rfl⟩:=abo e;have h:=hh;simp only[bL,beq_iff_eq]at h;obtain⟨⟨rfl,h1⟩,h2⟩:=h;exact pw_nev (ajO (sE l C h1 ok.1).pe (sE r C h2 ok.2).pe) (fun _ _ _ z=>z) (fun _ _ _ z=>by cases z)| .neg l,X,c,a,C,h,ok=>by have h:(opt (aiB a) fun t=>mE c l t)=true:=h;obtain⟨l',e,hh⟩:=aA h;obtain⟨pos,rfl⟩:=abj e;have h:=hh;exact pw_nev (ajE (sE l C h ok).pe) (fun _ _ _ z=>z) (fun _ _ _ z=>by cases z)| .not l,X,c,a,C,h,ok=>by have h:(opt (aiA a) fun t=>mE c l t)=true:=h;obtain⟨l',e,hh⟩:=aA h;obtain⟨pos,rfl⟩:=abh e;have h:=hh;have S1:=sE l C h ok;exact⟨ajD S1.pe,ajq S1.pt,pw_no (fun _ _ _ z=>by cases z)⟩| .cmp op l r,X,c,a,C,h,ok=>by have h:(opt (Ur a) fun t=>op==t.2.1&&mE c l t.1&&mE c r t.2.2&&jA t.2.2)=true:=h;obtain⟨⟨l',op',r'⟩,e,hh⟩:=aA h;obtain⟨pos,rfl⟩:=Gy e;have h:=hh;simp only[bL,beq_iff_eq]at h;obtain⟨⟨⟨rfl,h1⟩,h2⟩,h3⟩:=h;have S1:=sE l C h1 ok.1;have S2:=sE r C h2 ok.2;obtain⟨k,hr⟩:=C.room;exact⟨aeB (Dv hr op) S1.pe S2.pe (G8 h3),aen (Dv hr op) S1.pe S2.pe (G8 h3),pw_no (fun _ _ _ z=>by cases z)⟩| .QC n l r,X,c,a,C,h,ok=>by have h:(opt (Ur a) fun t=>(t.2.1==(if n then ab3 else CmpOp.Eq))&&mE c l t.1&&mE c r t.2.2&&jA t.2.2)=true:=h;obtain⟨⟨l',op',r'⟩,e,hh⟩:=aA h;obtain⟨pos,rfl⟩:=Gy e;have h:=hh;simp only[bL,beq_iff_eq]at h;obtain⟨⟨⟨rfl,h1⟩,h2⟩,h3⟩:=h;have S1:=sE l C h1 ok.1;have S2:=sE r C h2 ok.2;obtain⟨k,hr⟩:=C.room;exact⟨aeB (afz hr n) S1.pe S2.pe (G8 h3),aen (afz hr n) S1.pe S2.pe (G8 h3),pw_no (fun _ _ _ z=>by cases z)⟩| .chain p q l m r,X,c,a,C,h,ok=>by
  have h:(opt (abn a) fun t=>p==t.2.1&&q==t.2.2.1&&mE c l t.1&&mE c m t.2.2.2.1&&mE c r t.2.2.2.2&&jA t.2.2.2.2&&jA t.2.2.2.1)=true:=h;obtain⟨⟨l',p',q',m',r'⟩,e,hh⟩:=aA h;obtain⟨pos,rfl⟩:=Z4 e;have h:=hh;simp only[bL,beq_iff_eq]at h;obtain⟨⟨⟨⟨⟨⟨rfl,rfl⟩,h1⟩,h2⟩,h3⟩,h4⟩,h5⟩:=h;have S1:=sE l C h1 ok.1;have S2:=sE m C h2 ok.2.1;have S3:=sE r C h3 ok.2.2;obtain⟨k,hr⟩:=C.room;have hm:Vh [p,q] [m',r']=false:=by show N7 q r'=false;exact G8 h4
  exact⟨aeC (Dv hr p) (Dv hr q) S1.pe S2.pe S3.pe hm,aeo (Dv hr p) (Dv hr q) S1.pe S2.pe S3.pe hm,pw_no (fun _ _ _ z=>by cases z)⟩
 | .and x y,X,c,a,C,h,ok=>by
  have h:(opt (aiE a) fun t=>mE c x t.1&&mE c y t.2)=true:=h;obtain⟨⟨v,y'⟩,e,h⟩:=aA h;simp only[bL]at h;have S1:=sE x C h.1 ok.1;have S2:=sE y C h.2 ok.2;rcases abp e with⟨pos,rfl⟩|⟨w,z,rest,pos,rfl,rfl⟩
  .have pw:PW X (.BoolOp .And [v,y'] pos) (wT (.and x y)):=pw_and S1.pt (pw_and1 S2.pt)
   exact⟨aeD S1.pe (aez S2.pe),pw.pt,fun _ _ _ _=>pw⟩
  .have pw:PW X (.BoolOp .And (v::w::z::rest) pos) (wT (.and x y)):=pw_and S1.pt (S2.pw _ _ _ rfl)
   exact⟨aeD S1.pe S2.pe,pw.pt,fun _ _ _ _=>pw⟩
 | .or x y,X,c,a,C,h,ok=>by
  have h:(opt (vOr a) fun t=>mE c x t.1&&mE c y t.2)=true:=h;obtain⟨⟨v,y'⟩,e,h⟩:=aA h;simp only[bL]at h;have S1:=sE x C h.1 ok.1;have S2:=sE y C h.2 ok.2;rcases agn e with⟨pos,rfl⟩|⟨w,z,rest,pos,rfl,rfl⟩
  .have pw:PW X (.BoolOp .Or [v,y'] pos) (wT (.or x y)):=pw_or S1.pt (pw_or1 S2.pt)
   exact⟨ah0 S1.pe (aez S2.pe),pw.pt,fun _ _ _ _=>pw⟩
  .have pw:PW X (.BoolOp .Or (v::w::z::rest) pos) (wT (.or x y)):=pw_or S1.pt (S2.pw _ _ _ rfl)
   exact⟨ah0 S1.pe S2.pe,pw.pt,fun _ _ _ _=>pw⟩
 | .ife t x y,X,c,a,C,h,ok=>by have h:(opt (vIf a) fun q=>mE c t q.1&&mE c x q.2.1&&mE c y q.2.2)=true:=h;obtain⟨⟨t',x',y'⟩,e,hh⟩:=aA h;obtain⟨pos,rfl⟩:=ago e;have h:=hh;simp only[bL]at h;exact pw_nev (aeA (sE t C h.1.1 ok.1).pt (sE x C h.1.2 ok.2.1).pe (sE y C h.2 ok.2.2).pe) (fun _ _ _ z=>z) (fun _ _ _ z=>by cases z)| .call x sp as,X,c,a,C,h,ok=>by have h:(opt (lg a) fun t=>x==t.1&&c.Ak x&& !f9 x&&qd c as t.2)=true:=h;obtain⟨⟨y,args⟩,e,hh⟩:=aA h;obtain⟨p,pos,rfl⟩:=gZ e;have h:=hh;simp only[bL,vZ,beq_iff_eq]at h;obtain⟨⟨⟨rfl,h1⟩,h2⟩,h3⟩:=h;obtain⟨k,hr,fa,fd,ps,q1,q2,q3,q4⟩:=ok.1;exact pw_tru (JgX.calm (agH q4 hr q3 (C.Ak x h1) q1 q2 (Rw as C h3 ok.2) (j7 h2).1) fun _ _ _ z=>z) (fun _=>rfl) (fun ρ μ Q q=>q) (fun _ _ _ z=>by cases z)| .aaZ x l r,X,c,a,C,h,ok=>by have h:(opt (Ut a) fun t=>c.calm&&x=="max"&&t.1==aF "max"&&cQ c t.1&&mE c l t.2.1&&notStar t.2.1&&(t.2.2.arg==some (aF "default"))&&mE c r t.2.2.value)=true:=h;obtain⟨⟨y,l',nm,b,kpos⟩,e,hh⟩:=aA h;obtain⟨p,pos,rfl⟩:=Us e;simp only[bL,beq_iff_eq,cQ]at hh;obtain⟨⟨⟨⟨⟨⟨⟨hc,_⟩,h0⟩,h1,h2⟩,h3⟩,h4⟩,h5⟩,h6⟩:=hh;exact⟨ag0 h0 h5 (C.calm hc) (C.Ak y h1) (C.blt y h2) (sE l C h3 ok.1).pe (sE r C h6 ok.2).pe (zf h4),Iw,pw_no (fun _ _ _ z=>by cases z)⟩| .blt x as,X,c,a,C,h,ok=>by
  have h:(opt (lg a) fun t=>c.calm&&PX.contains x&&afS x==t.1&&cQ c t.1&&qd c as t.2&& !t.2.isEmpty)=true:=h;obtain⟨⟨y,args⟩,e,hh⟩:=aA h;obtain⟨p,pos,rfl⟩:=gZ e;have h:=hh;simp only[bL,vZ,beq_iff_eq,cQ]at h;obtain⟨⟨⟨⟨⟨hc,h0⟩,h1⟩,h2,h3⟩,h4⟩,h5⟩:=h;cases args with
  |nil=>simp at h5|cons a1 es=>exact pw_tru (ajN (by simpa using h0) h1.symm (C.calm hc) (C.Ak y h2) (C.blt y h3) (Rw as C h4 ok)) (fun _=>rfl) (fun ρ μ Q q=>q) (fun _ _ _ z=>by cases z)
 | .isin l t,X,c,a,C,h,ok=>by have h:(opt (lg a) fun q=>opt (aiy q.2) fun w=>opt (pI w.2) fun z=>(q.1==aF "isinstance")&&cQ c q.1&&["int","bool","str","tuple","list","dict"].contains t&&(z==aF t)&&cQ c z&&mE c l w.1&&notStar w.1)=true:=h;obtain⟨⟨y,args⟩,e,hh⟩:=aA h;obtain⟨p,pos,rfl⟩:=gZ e;have h:=hh;obtain⟨⟨l',zz⟩,e2,hh⟩:=aA h;obtain rfl:=abe e2;have h:=hh;obtain⟨z,e3,h⟩:=aA h;obtain⟨p2,e4⟩:=mU e3;simp only at e4;subst e4;simp only[bL,beq_iff_eq,cQ]at h;obtain⟨⟨⟨⟨⟨⟨rfl,h1,h2⟩,h3⟩,rfl⟩,h5,h6⟩,h7⟩,h8⟩:=h;have pe:PE X (.Call (.Name (aF "isinstance") p) [l',.Name (aF t) p2] [] pos) (wE (.isin l t)):=agV (sE l C h7 ok).pe (by simpa using h3) (C.Ak _ h1) (C.Ak _ h5) (C.blt _ h2) (C.blt _ h6) (zf (es:=[.Name (aF t) p2]) h8);exact⟨pe,ak7 (fun _=>rfl) pe,pw_no (fun _ _ _ z=>by cases z)⟩| .isin l t (some ks),X,c,a,C,h,ok=>by have h:(opt (Ur a) fun w=>opt (pI w.2.2) fun z=>(w.2.1== .In)&&(z==aF t)&&c.Ak z&& !f9 z&&mE c l w.1)=true:=h;obtain⟨⟨l',op',r'⟩,e,hh⟩:=aA h;obtain⟨pos,rfl⟩:=Gy e;have h:=hh;obtain⟨z,e3,h⟩:=aA h;obtain⟨p2,e4⟩:=mU e3;simp only at e4;subst e4;simp only[bL,beq_iff_eq,vZ]at h;obtain⟨⟨⟨⟨h0,h1⟩,h2⟩,h3⟩,h4⟩:=h;subst h0 h1;obtain⟨⟨_,_,a,hm,hd,rfl⟩,ok2⟩:=ok;obtain⟨k1,k2⟩:=ajJ (p:=p2) (pos:=pos) (C.Ak _ h2) hm hd (sE l C h4 ok2).pe (j7 h3).1;exact⟨k1,k2,pw_no (fun _ _ _ z=>by cases z)⟩| .meth m o as,X,c,a,C,h,ok=>by
  have h:(opt (yU a) fun t=>(if t.2.2.1.isEmpty then ["pop"].contains m else ["append","insert","extend","pop"].contains m)&&t.2.1==aF m&&mL t.1&&t.2.2.2&&mE c o t.1&&qd c as t.2.2.1&&decide (t.2.2.1.length<30))=true:=h;obtain⟨⟨o',m',args,ln⟩,e,hh⟩:=aA h;obtain⟨apos,pos,rfl,e2⟩:=uZ e;have h:=hh;simp only[bL,beq_iff_eq]at h;obtain⟨⟨⟨⟨⟨⟨h0,rfl⟩,h3⟩,h4⟩,h5⟩,h6⟩,h7⟩:=h;have hm:m="append"∨m="insert"∨m="extend"∨m="pop":=by
   split at h0
   .exact .inr (.inr (.inr (by simpa using h0)))
   .simpa using h0
  exact pw_nev (agU hm (sE o C h5 ok.1).pe h3 (Rw as C h6 ok.2) (by rw[<-e2];exact h4) (of_decide_eq_true h7)) (fun _ _ _ z=>z) (fun _ _ _ z=>by cases z)
 | .Rj m o as,X,c,a,C,h,ok=>by
  have h:(opt (yU a) fun t=>["index","join","split","partition","startswith"].contains m&&t.2.1==aF m&&mL t.1&&t.2.2.2&&mE c o t.1&&qd c as t.2.2.1&&decide (t.2.2.1.length<30)&&(t.2.2.1.isEmpty==(m=="clear")))=true:=h;obtain⟨⟨o',m',args,ln⟩,e,hh⟩:=aA h;obtain⟨apos,pos,rfl,e2⟩:=uZ e;have h:=hh;simp only[bL,beq_iff_eq]at h;obtain⟨⟨⟨⟨⟨⟨⟨h0,rfl⟩,h3⟩,h4⟩,h5⟩,h6⟩,h7⟩,h8⟩:=h;have hl:(apos.endLine==pos.line)=true:=by rw[<-e2];exact h4
  have h7':=of_decide_eq_true h7;have h0:m="index"∨m="join"∨m="split"∨m="partition"∨m="startswith":=by simpa using h0
  obtain⟨k,hr⟩:=C.room;have hu:=hr.units;refine pw_tru ?_ (fun _=>rfl) (fun ρ μ Q q=>q) (fun _ _ _ z=>by cases z);rcases h0 with rfl|rfl|rfl|rfl|rfl
  .exact wu (W:=fun μ d=>Kw "index" μ d=true) CQ W9 PySem.F.type_list_index (aeR hu) ahZ (sE o C h5 ok.1).pe h3 (Rw as C h6 ok.2) hl h7'
  .exact wu (W:=fun μ d=>Kw "join" μ d=true) O9 ab8 PySem.F.type_str_join ag5 YJ (sE o C h5 ok.1).pe h3 (Rw as C h6 ok.2) hl h7'
  .exact wu (W:=fun μ d=>Kw "split" μ d=true) O9 NZ PySem.F.type_str_split aeQ YJ (sE o C h5 ok.1).pe h3 (Rw as C h6 ok.2) hl h7'
  .exact wu (W:=fun μ d=>Kw "partition" μ d=true) O9 acs PySem.F.type_str_partition PB YJ (sE o C h5 ok.1).pe h3 (Rw as C h6 ok.2) hl h7'
  .exact wu (W:=fun μ d=>Kw "startswith" μ d=true) O9 acy PySem.F.type_str_startswith Kl YJ (sE o C h5 ok.1).pe h3 (Rw as C h6 ok.2) hl h7'
 | .rmv o as,X,c,a,C,h,ok=>by have h:(opt (yU a) fun t=>c.calm&&t.2.1==aF "remove"&&mL t.1&&t.2.2.2&&mE c o t.1&&qd c as t.2.2.1&&decide (t.2.2.1.length<30)&& !t.2.2.1.isEmpty)=true:=h;obtain⟨⟨o',m',args,ln⟩,e,hh⟩:=aA h;obtain⟨apos,pos,rfl,e2⟩:=uZ e;have h:=hh;simp only[bL,beq_iff_eq]at h;obtain⟨⟨⟨⟨⟨⟨⟨hc,rfl⟩,h3⟩,h4⟩,h5⟩,h6⟩,h7⟩,h8⟩:=h;obtain⟨k,hr⟩:=C.room;exact pw_nev (wu (W:=fun μ d=>Sx μ d=true) CQ ad1 PySem.F.type_list_remove (aao hr.units) ahZ (sE o C h5 ok.1).pe h3 (Rw as C h6 ok.2) (by rw[<-e2];exact h4) (of_decide_eq_true h7)) (fun _ _ _ z=>z) (fun _ _ _ z=>by cases z)| .aaH as,X,c,a,C,h,ok=>by have h:(opt (lg a) fun t=>c.calm&&(t.1==aF "min")&&cQ c t.1&&qd c as t.2&& !t.2.isEmpty)=true:=h;obtain⟨⟨y,args⟩,e,hh⟩:=aA h;obtain⟨p,pos,rfl⟩:=gZ e;have h:=hh;simp only[bL,vZ,beq_iff_eq,cQ]at h;obtain⟨⟨⟨⟨hc,rfl⟩,h2,h3⟩,h4⟩,h5⟩:=h;obtain⟨k,hr⟩:=C.room;exact pw_nev (nF (id:="min") (by decide+kernel) (by decide+kernel) (by decide+kernel) (afU (C.calm hc) (by have:=hr.units;show X.A.units+1<cLine;lia)) (C.Ak _ h2) (C.blt _ h3) (Rw as C h4 ok)) (fun _ _ _ z=>z) (fun _ _ _ z=>by cases z)| .dd3 k1 k2 k3 x y z,X,c,a,C,h,ok=>by
  cases k2 with
  |nil=>have h:(opt (Ms a) fun t=>(t.1.1==k1)&&(t.1.2==k3)&& !decide (k1=k3)&&ahm y&&mE c x t.2.1&&mE c z t.2.2)=true:=h;obtain⟨t,e,hh⟩:=aA h;obtain⟨s1,j1,p1,s2,j2,p2,p,rfl,e1,e2⟩:=Ul e;have h:=hh;simp only[bL,beq_iff_eq,vZ,decide_eq_false_iff_not]at h;obtain⟨⟨⟨⟨⟨h1,h2⟩,h3⟩,h4⟩,h5⟩,h6⟩:=h;have ey:=afd h4;subst ey;exact pw_nev (ajL (e1.trans h1) (e2.trans h2) h3 (sE x C h5 ok.1).pe (sE z C h6 ok.2.2).pe) (fun _ _ _ z=>z) (fun _ _ _ z=>by cases z)|cons u k=>
  have h:(opt (Mr a) fun t=>(t.1.1==k1)&&(t.1.2.1==u::k)&&(t.1.2.2==k3)&& !decide (k1=u::k)&& !decide (k1=k3)&& !decide (u::k=k3)&&mE c x t.2.1&&mE c y t.2.2.1&&mE c z t.2.2.2)=true:=h;obtain⟨t,e,hh⟩:=aA h;obtain⟨s1,j1,p1,s2,j2,p2,s3,j3,p3,p,rfl,e1,e2,e3⟩:=Uk e;have h:=hh;simp only[bL,beq_iff_eq,vZ,decide_eq_false_iff_not]at h;obtain⟨⟨⟨⟨⟨⟨⟨⟨h1,h2⟩,h3⟩,h4⟩,h5⟩,h6⟩,h7⟩,h8⟩,h9⟩:=h;exact pw_nev (ajK (e1.trans h1) (e2.trans h2) (e3.trans h3) h4 h5 h6 (sE x C h7 ok.1).pe (sE y C h8 ok.2.1).pe (sE z C h9 ok.2.2).pe) (fun _ _ _ z=>z) (fun _ _ _ z=>by cases z)
 | .fld cn f o,X,c,a,C,h,ok=>by have h:(opt (Gz a) fun t=>t.2==aF f&&mL t.1&&mE c o t.1)=true:=h;obtain⟨⟨o',f'⟩,e,hh⟩:=aA h;obtain⟨pos,rfl⟩:=Bp e;have h:=hh;simp only[bL,beq_iff_eq]at h;obtain⟨⟨rfl,h2⟩,h3⟩:=h;obtain⟨_,_,K,hc,hC,hN⟩:=ok.1;exact pw_tru (ajI hc hC hN (sE o C h3 ok.2).pe h2) (fun _=>rfl) (fun ρ μ Q q=>q) (fun _ _ _ z=>by cases z)| .q9 cn m sp o as,X,c,a,C,h,ok=>by have h:(opt (yU a) fun t=>t.2.1==aF m&&mL t.1&&t.2.2.2&&mE c o t.1&&qd c as t.2.2.1&&decide (t.2.2.1.length<30))=true:=h;obtain⟨⟨o',m',args,ln⟩,e,hh⟩:=aA h;obtain⟨apos,pos,rfl,e2⟩:=uZ e;have h:=hh;simp only[bL,beq_iff_eq]at h;obtain⟨⟨⟨⟨⟨rfl,h3⟩,h4⟩,h5⟩,h6⟩,h7⟩:=h;obtain⟨k,hr,K,fa,fd,ps,q0,q1,q2,q3,q4⟩:=ok.1;exact pw_tru (JgX.calm (agF q4 hr q3 q0 q1 q2 (sE o C h5 ok.2.1).pe h3 (Rw as C h6 ok.2.2) (by rw[<-e2];exact h4) (of_decide_eq_true h7)) fun _ _ _ z=>z) (fun _=>rfl) (fun ρ μ Q q=>q) (fun _ _ _ z=>by cases z)| .mk x sp as,X,c,a,C,h,ok=>by have h:(opt (lg a) fun t=>aF x==t.1&&c.Ak t.1&& !f9 t.1&&qd c as t.2)=true:=h;obtain⟨⟨y,args⟩,e,hh⟩:=aA h;obtain⟨p,pos,rfl⟩:=gZ e;have h:=hh;simp only[bL,vZ,beq_iff_eq]at h;obtain⟨⟨⟨rfl,h1⟩,h2⟩,h3⟩:=h;obtain⟨k,hr,K,fa,fd,ps,j,q0,q1,q2,q3,q4,q5⟩:=ok.1;exact pw_nev (JgX.calm (agG q2 q0 q4 (hr.mono q5) q3 (C.Ak _ h1) q1 (Rw as C h3 ok.2) (j7 h2).1) fun _ _ _ z=>z) (fun _ _ _ z=>z) (fun _ _ _ z=>by cases z)| .idx x y,X,c,a,C,h,ok=>by have h:(opt (Bo a) fun t=>mE c x t.1&&mE c y t.2&&dW t.2)=true:=h;obtain⟨⟨x',y'⟩,e,hh⟩:=aA h;obtain⟨pos,rfl⟩:=pH e;have h:=hh;simp only[bL]at h;exact pw_tru (ajG (sE x C h.1.1 ok.1).pe (sE y C h.1.2 ok.2).pe (q8 h.2)) (fun _=>rfl) (fun ρ μ Q q=>q) (fun _ _ _ z=>by cases z)| .slc m x lo hi,X,c,a,C,h,ok=>by have h:(opt (aiz a) fun t=>mE c x t.1&&mO c lo t.2.1&&mO c hi t.2.2)=true:=h;obtain⟨⟨x',lo',hi'⟩,e,hh⟩:=aA h;obtain⟨p2,pos,rfl⟩:=abg e;have h:=hh;simp only[bL]at h;exact pw_nev (ajC m (sE x C h.1.1 ok.1).pe (sO lo C h.1.2 ok.2.1) (sO hi C h.2 ok.2.2)) (fun _ _ _ z=>z) (fun _ _ _ z=>by cases z)| .tup as,X,c,a,C,h,ok=>by have h:(opt (abf a) fun es=>qd c as es&&decide (es.length<=16777216))=true:=h;obtain⟨es,e,hh⟩:=aA h;obtain⟨k,pos,rfl⟩:=Q6 e;have h:=hh;simp only[bL]at h;exact pw_nev (ajB (Rw as C h.1 ok)) (fun _ _ _ z=>z) (fun _ _ _ z=>by cases z)| .lst m as,X,c,a,C,h,ok=>by have h:(opt (aiC a) fun es=>qd c as es&&decide (es.length<=16777216))=true:=h;obtain⟨es,e,hh⟩:=aA h;obtain⟨pos,rfl⟩:=abk e;have h:=hh;simp only[bL]at h;exact pw_nev (ajF (Rw as C h.1 ok)) (fun _ _ _ z=>z) (fun _ _ _ z=>by cases z)| .comp m n tt cap elt it cond,X,c,a,C,h,ok=>by have h:(opt (abm a) fun t=>(c.calm||(Hi it&& !tt))&&opt (FT tt t.2.1) fun xs=>opt (lJ c cap) fun cs=>n==xs.length&&JW c t.2.2.2.2 (xs++cs) cs&&vO tt it&&mI c it t.2.2.1&&mTg (c.in_ (xs++cs) t.2.2.2.2.names) (aY n) tt t.2.1&&mE (c.in_ (xs++cs) t.2.2.2.2.names) elt t.1&&qd (c.in_ (xs++cs) t.2.2.2.2.names) cond t.2.2.2.1&&decide (t.2.2.2.1.length<=1))=true:=h;obtain⟨⟨Qu,tg,iter,ifs,scope⟩,e,hh⟩:=aA h;obtain⟨pos,rfl⟩:=K3 e;have h:=hh;simp only[bL]at h;obtain⟨hcm,h⟩:=h;obtain⟨xs,hxs,h⟩:=aA h;obtain⟨cs,hcs,h⟩:=aA h;simp only[bL,beq_iff_eq]at h;obtain⟨⟨⟨⟨⟨⟨⟨hn,h1⟩,hz⟩,h2⟩,hg⟩,h3⟩,h4⟩,h5⟩:=h;have h5:=of_decide_eq_true h5;subst hn;exact pw_nev (agZ (JV C hcs h1) (tgn hxs) (sI it C h2 ok.2.1 (Gu hg hz) (alI hcm)) (fun cl Ca=>Y6 (qz C h1 cl Ca) (alH hcm) hg) (fun cl Ca=>sTs cond (qz C h1 cl Ca) h4 h5 ok.2.2) (fun cl Ca=>(sE elt (qz C h1 cl Ca) h3 ok.1).pe) (Dm (aeW h2))) (fun _ _ _ z=>z) (fun _ _ _ z=>by cases z)| .frz x,X,c,a,C,h,ok=>by have S:=sE x C h ok;exact⟨ajH S.pe,PT.wk Iw fun _ _ _ z=>z,fun op vs pos e=>fun wh=>fun i z f=>z.elim⟩| .aaP t,X,c,a,C,h,ok=>by obtain⟨p,rfl⟩:=Um h;exact pw_nev agX (fun _ _ _ z=>z) (fun _ _ _ z=>by cases z)| .Yb x y,X,c,a,C,h,ok=>by have h:(opt (Bo a) fun t=>c.calm&&mE c x t.1&&mE c y t.2&&dW t.2)=true:=h;obtain⟨⟨x',y'⟩,e,hh⟩:=aA h;obtain⟨pos,rfl⟩:=pH e;have h:=hh;simp only[bL]at h;obtain⟨⟨⟨hc,h1⟩,h2⟩,h3⟩:=h;obtain⟨k,hr⟩:=C.room;exact pw_nev (agY (by have:=hr.units;lia) (sE x C h1 ok.1).pe (sE y C h2 ok.2).pe (q8 h3)) (fun _ _ _ z=>z) (fun _ _ _ z=>by cases z)
theorem Rw:∀ (es:Es) {X:Cx} {c:Ctx} {as:List Expr},qF X c->qd c es as=true->fH (uY X) (mz X) es->Ar X as (wEs es)
 | .nil,X,c,as,C,h,_=>by
  have:as=[]:=by simpa[qd]using h
  subst this;exact akG
 | .cons e es,X,c,as,C,h,ok=>by
  cases as with
  |nil=>simp[qd]at h|cons a as=>simp only[qd,bL]at h;exact ahR (sE e C h.1.1 ok.1).pe (Rw es C h.2 ok.2) (zf h.1.2)
theorem sO:∀ (es:Es) {X:Cx} {c:Ctx} {a:Option Expr},qF X c->mO c es a=true->fH (uY X) (mz X) es->PO X a (wO es)
 | .nil,X,c,a,C,h,_=>by
  cases a with
  |none=>exact agO|some _=>simp[mO]at h
 | .cons e es,X,c,a,C,h,ok=>by
  cases a with
  |none=>simp[mO]at h|some a=>
   cases es with
   |nil=>exact agN (sE e C (by simpa[mO]using h) ok.1).pe|cons _ _=>simp[mO]at h
theorem sTs:∀ (es:Es) {X:Cx} {c:Ctx} {as:List Expr},qF X c->qd c es as=true->as.length<=1->fH (uY X) (mz X) es->PIf X as (wTs es)
 | .nil,X,c,as,C,h,_,_=>by
  have:as=[]:=by simpa[qd]using h
  subst this;exact agQ
 | .cons e es,X,c,as,C,h,hl,ok=>by
  cases as with
  |nil=>simp[qd]at h|cons a as=>
   simp only[qd,bL]at h;have:as=[]:=by
    cases as with
    |nil=>rfl|cons _ _=>simp at hl
   subst this;have:es= .nil:=by
    cases es with
    |nil=>rfl|cons _ _=>simp[qd]at h
   subst this;exact agP (sE e C h.1.1 ok.1).pt
theorem sI:∀ (it:It) {X:Cx} {c:Ctx} {a tg:Expr},qF X c->mI c it a=true->okI (uY X) (mz X) it->vO (isTup tg) it=true->(c.calm=true∨Hi it=true)->PI X tg a (wI it)
 | .seq e,X,c,a,tg,C,h,ok,_,hcm=>by simp only[mI,bL]at h;exact ajw (C.calm (hcm.resolve_right fj)) (sE e C h.1 ok).pe| .rng as,X,c,a,tg,C,h,ok,_,hcm=>by
  have h:(opt (lg a) fun t=>(t.1==aF "range")&&cQ c t.1&&qd c as t.2&&(t.2.length==1||t.2.length==2||t.2.length==3))=true:=h;obtain⟨⟨y,args⟩,e,hh⟩:=aA h;obtain⟨p,pos,rfl⟩:=gZ e;have h:=hh;simp only[bL,xU,beq_iff_eq,cQ]at h;obtain⟨⟨⟨rfl,h1,h2⟩,h3⟩,h4⟩:=h;have hl:=Tn h3;cases args with
  |nil=>simp at h4|cons a1 es=>intro i q f;exact ajy (Rw as C h3 ok) (C.Ak _ h1) (C.blt _ h2) (fun z=>C.calm (hcm.resolve_right fun y=>by have y:=of_decide_eq_true y;rw[hl]at y;simp[z]at y)) i (by simp only[wI,hl,bA]at q;exact q) f
 | .enum l,X,c,a,tg,C,h,ok,ht,hcm=>by
  have h:(opt (lg a) fun t=>match t.2 with|[l']=>(t.1==aF "enumerate")&&cQ c t.1&&mE c l l' &&notStar l' |_=>false)=true:=h;obtain⟨⟨y,args⟩,e,hh⟩:=aA h;obtain⟨p,pos,rfl⟩:=gZ e;have h:=hh
  match args,h with
  |[l'],h=>
   simp only[bL,beq_iff_eq,cQ]at h;obtain⟨⟨⟨rfl,h1,h2⟩,h3⟩,h5⟩:=h;simp only[vO]at ht;cases tg with
   |Tuple es k tp=>exact agR (C.calm (hcm.resolve_right fj)) (C.Ak _ h1) (C.blt _ h2) (sE l C h3 ok).pe (by rw[zf h5];rfl)|_=>exact(fj ht).elim
  |[],h=>exact(fj h).elim|_::_::_,h=>exact(fj h).elim
 | .rvd l,X,c,a,tg,C,h,ok,_,hcm=>by
  have h:(opt (lg a) fun t=>match t.2 with|[l']=>(t.1==aF "reversed")&&cQ c t.1&&mE c l l' &&notStar l' |_=>false)=true:=h;obtain⟨⟨y,args⟩,e,hh⟩:=aA h;obtain⟨p,pos,rfl⟩:=gZ e;have h:=hh
  match args,h with
  |[l'],h=>simp only[bL,beq_iff_eq,cQ]at h;obtain⟨⟨⟨rfl,h1,h2⟩,h3⟩,h5⟩:=h;exact ajx (C.calm (hcm.resolve_right fj)) (C.Ak _ h1) (C.blt _ h2) (sE l C h3 ok).pe (by rw[zf h5];rfl)|[],h=>exact(fj h).elim|_::_::_,h=>exact(fj h).elim
end
end DW
namespace DW
open PySem PySem.Spec PyProof.Rows
open L2 (aN Key frs vC Loc Look Mod sG cT Cls iQ Meth Mk)
theorem abH {t e:Expr} {n env} (h:ig e=true):swapsWithSole [t] e n env=pure false:=yZ h
theorem MF {tg v:Expr} {env} (h:CW v=true):V2 [tg] v env=pure none:=by unfold V2;cases tg<;>first|rfl|(cases v<;>first|rfl|exact(fj h).elim)
section
variable {X:Cx} {x:Str} {ks:List (List Nat)} {sp:rH} {i e:Expr} {es:List Expr} {wi:WE} {ws:WA} {w:QX->WE} {p p2 pos:Pos} {k:Nat} {body:List Stmt} {hd:V6} {wb:WS} {a:Stmt} {w1 w2:WS}
theorem PS.wk (h:PS X a w1) (q:∀ Z ρ μ,w2 Z ρ μ->w1 Z ρ μ):PS X a w2:=fun hp i z f=>h hp i (q _ _ _ z) f
theorem ajo (hr:cT k X.A) (R:air X.T k x ks sp) (hg:Gl X x) (hi:PE X i wi) (hx:Bg i) (ha:Ar X (e::es) ws) (hdb:(x==("__debug__":Str))=false):
  JgX X (eval (.Call (.Subscript (.Name x p) i p2) (e::es) [] pos) X.env) (fun Xd ρ μ Q=>wi ρ μ fun d μ1=>isKey ks d/\ws ρ μ1 fun ds μ2=>sp (d::ds) μ2 Q Xd):=fun {s ρ θ μ Qd Xd Q E} i0 h fi fx=>by
 obtain⟨a,hm,hd,rfl,R⟩:=R;have ev:eval (.Call (.Subscript (.Name x p) i p2) (e::es) [] pos) X.env=(do Np pos (<-eval (.Subscript (.Name x p) i p2) X.env) [] (jc pos (eV (e::es) X.env)) (BZ pos (Ci [] X.env))):=rfl;rw[ev];refine au (L2.YM Oa.lookup hx (vm i0 hg hm hdb (hi i0 h fun {d u s1 θ1 μ1} i1 g1 r1 h1=>?_)));obtain⟨hk,h1⟩:=h1;unfold isKey at hk;split at hk
 .rename_i t
  obtain⟨⟨tk,rfl⟩,_⟩:=id r1;rw[show t=(⟨t.toArray⟩:Str).cps.toList from rfl,<-rC,<-Vt]at hk;obtain⟨fa,hfa⟩:=Ea.mp hk;refine⟨GQ (Gn hd i1.Fq),abE (Gn hd i1.Fq) hfa fun u' hu=>?_⟩;subst hu;refine cw_ok (first:=[]) ha (afE hd hfa) (Iv.tok i1) h1 fun {ds us s2 θ2 μ2} i2 g2 r2 h2=>?_;obtain⟨t',r',fa',fd,ps,sp',e1,e2,hb,F,h3⟩:=R _ _ _ _ h2;cases e1;rw[hfa]at e2;cases e2;have g:G0 X θ μ s θ2 μ2 s2:=g1.trans ((cV fun _ _ e=>e).trans g2);exact U7 F hr hb i2 r2 h3 (fi.mono g) (fx.mono g)
 .exact hk.elim
theorem agL (h:JgX X (eval e X.env) w):PS X (.Return (some e) pos) (fun Z ρ μ=>w (Z.xc ρ) ρ μ Z.rt):=fun hp i q f=>acU (h i q (fun i1 g1 r q=>f.rt i1 g1.gs r q) fun i1 g1 fl q=>f.xc i1 g1.gs fl q)
theorem agJ (hb:PSs X body wb):PS X (.Try body [hd] [] [] pos) (fun Z ρ μ=>wb {Z with xc:=fun _ _ _ _ _=>False} ρ μ):=fun hp i q f=>by refine wpAny_Try_except (hb PassesOwn.looking i q ⟨fun i1 g1 z=>Oe (f.nx i1 g1 z),fun i1 g1 z=>f.bk i1 g1 z,fun i1 g1 z=>f.ct i1 g1 z,fun i1 g1 r z=>f.rt i1 g1 r z,fun _ _ _ z=>z.elim⟩)
end
theorem sXC:∀ (k:XC) {X:Cx} {c:Ctx} {a:Expr},qF X c->mXC c k a=true->aam (uY X) (mz X) k->JgX X (eval a X.env) (fun Xd ρ μ Q=>wXC k (fun _=>Xd) ρ μ Q)
 | .dsp x ks sp i as,X,c,a,C,h,ok=>by
  replace h:(opt (Uv a) fun t=>opt (Bo t.1) fun u=>opt (pI u.1) fun z=>z==x&&c.Ak x&& !f9 x&&mE c i u.2&&dW u.2&&qd c as t.2&& !t.2.isEmpty)=true:=h;obtain⟨⟨f',args⟩,e,hh⟩:=aA h;obtain⟨pos,rfl⟩:=Uu e;obtain⟨⟨g',i'⟩,e,hh⟩:=aA hh;obtain⟨p2,e4⟩:=pH e;simp only at e4;subst e4;obtain⟨z,e,hh⟩:=aA hh;obtain⟨p,e4⟩:=mU e;simp only at e4;subst e4;simp only[bL,vZ,beq_iff_eq]at hh;obtain⟨⟨⟨⟨⟨⟨rfl,h1⟩,h2⟩,h3⟩,h4⟩,h5⟩,h6⟩:=hh;obtain⟨k,hr,R⟩:=ok.1;cases args with
  |nil=>simp at h6|cons e es=>exact ajo hr R (C.Ak _ h1) (sE i C h3 ok.2.1).pe (q8 h4) (Rw as C h5 ok.2.2) (j7 h2).1
mutual
theorem sS:∀ (st:S) {X:Cx} {c:Ctx} {a:Stmt},qF X c->mS c st a=true->okS (uY X) (mz X) st->PS X a (wS st)
 | .set i e,X,c,a,C,h,ok=>by
  replace h:(opt (GF a) fun t=>opt (pI t.1) fun x=>c.at_ i x&&c.loc x&&mE c e t.2&&(ig t.2||Qk e))=true:=h;obtain⟨⟨tg,v⟩,e1,hh⟩:=aA h;obtain⟨x,e2,hh⟩:=aA hh;obtain⟨p,rfl⟩:=mU (a:=tg) e2;obtain⟨pos,rfl⟩:=sV e1;replace h:=hh;simp only[bL]at h;obtain⟨⟨⟨h1,h2⟩,h3⟩,h4⟩:=h;have l1:=C.loc x h2;have hN:X.N.Nodup:=C.N▸C.nd;have hi:X.N[i]?=some x:=C.N▸Gr h1;have S:=sE e C h3 ok;by_cases hn:ig v=true
  .exact aes hN hi l1 S.pe (yZ hn)
  .have h4:Qk e=true:=by
    rcases adl.mp h4 with z|z
    .exact absurd z hn
    .exact z
   cases e with
   |comp m n tt cap elt it cond=>
    have hv:mE c (.comp m n tt cap elt it cond) v=true->∃ Qu tg iter ifs scope Ui,v= .ListComp Qu [⟨tg,iter,ifs,0⟩] scope Ui/\((c.calm||(Hi it&& !tt))&&opt (FT tt tg) fun xs=>opt (lJ c cap) fun cs=>n==xs.length&&JW c scope (xs++cs) cs&&vO tt it&&mI c it iter&&mTg (c.in_ (xs++cs) scope.names) (aY n) tt tg&&mE (c.in_ (xs++cs) scope.names) elt Qu&&qd (c.in_ (xs++cs) scope.names) cond ifs&&decide (ifs.length<=1))=true:=fun z=>by obtain⟨⟨Qu,tg,iter,ifs,scope⟩,e,hh⟩:=aA z;obtain⟨Ui,e⟩:=K3 e;exact⟨Qu,tg,iter,ifs,scope,Ui,e,hh⟩
    obtain⟨Qu,tg,iter,ifs,scope,Ui,rfl,h9⟩:=hv h3;replace h3:=h9;have hsw:xr (.ListComp Qu [⟨tg,iter,ifs,0⟩] scope Ui) (some (.Name x p)) pos.line X.env=pure (X.env.blockKind== .function&&X.env.kindOf x==some .local&&p.line==(ace Qu [⟨tg,iter,ifs,0⟩] scope Ui).pos.line&& !(scope.names.any fun(n,k)=>n==x&&(k== .local||k== .cell))):=rfl;cases hb:(X.env.blockKind== .function&&X.env.kindOf x==some .local&&p.line==(ace Qu [⟨tg,iter,ifs,0⟩] scope Ui).pos.line&& !(scope.names.any fun(n,k)=>n==x&&(k== .local||k== .cell))) with
    |false=>rw[hb]at hsw;exact aes hN hi l1 S.pe hsw|true=>
     rw[hb]at hsw;have hl:X.env.scope.names.lookup x=some .local:=by simp only[bL,beq_iff_eq]at hb;exact hb.1.1.2
     simp only[bL]at h3;obtain⟨hcm,h3⟩:=h3;obtain⟨xs,hxs,h3⟩:=aA h3;obtain⟨cs,hcs,h3⟩:=aA h3;simp only[bL,beq_iff_eq]at h3;obtain⟨⟨⟨⟨⟨⟨⟨hn,k1⟩,kz⟩,k2⟩,kg⟩,k3⟩,k4⟩,k5⟩:=h3;have k5:=of_decide_eq_true k5;subst hn;have ok':cC (uY X) (mz X) elt/\okI (uY X) (mz X) it/\fH (uY X) (mz X) cond:=ok;exact Xj (JV C hcs k1) (tgn hxs) (sI it C k2 ok'.2.1 (Gu kg kz) (alI hcm)) (fun cl Ca=>Y6 (qz C k1 cl Ca) (alH hcm) kg) (fun cl Ca=>sTs cond (qz C k1 cl Ca) k4 k5 ok'.2.2) (fun cl Ca=>(sE elt (qz C k1 cl Ca) k3 ok'.1).pe) (Dm (aeW k2)) hN hi hl hsw
   |_=>cases h4
 | .Rt is e,X,c,a,C,h,ok=>by replace h:(opt (GF a) fun t=>opt (abf t.1) fun ts=>c.calm&&jC c is ts&&mE c e t.2&&ig t.2&&CW t.2)=true:=h;obtain⟨⟨tg,v⟩,e1,hh⟩:=aA h;obtain⟨ts,e2,hh⟩:=aA hh;obtain⟨k,p,rfl⟩:=Q6 (a:=tg) e2;obtain⟨pos,rfl⟩:=sV e1;replace h:=hh;simp only[bL]at h;obtain⟨⟨⟨⟨hcm,h1⟩,h2⟩,h3⟩,h4⟩:=h;exact ajv (sE e C h2 ok).pe (Y6 (a:=.Tuple ts k p) C (is:=is) (tt:=true) (fun _=>hcm) (show mTg c is true (.Tuple ts k p)=true from h1)) (abH h3) (MF h4) rfl| .dput o i e,X,c,a,C,h,ok=>by replace h:(opt (GF a) fun t=>opt (Bo t.1) fun u=>c.calm&&mE c o u.1&&mE c i u.2&&dW u.2&&mE c e t.2&&ig t.2)=true:=h;obtain⟨⟨tg,v⟩,e1,hh⟩:=aA h;obtain⟨⟨o',i'⟩,e2,hh⟩:=aA hh;obtain⟨p,rfl⟩:=pH (a:=tg) e2;obtain⟨pos,rfl⟩:=sV e1;replace h:=hh;simp only[bL]at h;obtain⟨⟨⟨⟨⟨hc,h1⟩,h2⟩,h3⟩,h4⟩,h5⟩:=h;obtain⟨k,hr⟩:=C.room;exact aer (agf:=Gx) (fun i rx ry rz h f=>afC (by have:=hr.units;lia) i rx ry rz h f) (sE o C h1 ok.1).pe (sE i C h2 ok.2.1).pe (sE e C h4 ok.2.2).pe (yZ h5)| .Mg op o i e,X,c,a,C,h,ok=>by replace h:(opt (abx a) fun t=>opt (Bo t.1) fun u=>op==t.2.1&&(op== .Add||op== .Sub)&&mE c o u.1&&mE c i u.2&&dW u.2&&mE c e t.2.2)=true:=h;obtain⟨⟨tg,op',v⟩,e1,hh⟩:=aA h;obtain⟨⟨o',i'⟩,e2,hh⟩:=aA hh;obtain⟨p,rfl⟩:=pH (a:=tg) e2;obtain⟨pos,rfl⟩:=Ra e1;replace h:=hh;simp only[bL,xU,beq_iff_eq]at h;obtain⟨⟨⟨⟨⟨rfl,h0⟩,h1⟩,h2⟩,h3⟩,h4⟩:=h;exact aeu (sE o C h1 ok.1).pe (sE i C h2 ok.2.1).pe (sE e C h4 ok.2.2).pe (q8 h3) (aa0 h3)| .G9 o i e,X,c,a,C,h,ok=>by replace h:(opt (GF a) fun t=>opt (Bo t.1) fun u=>mE c o u.1&&mE c i u.2&&dW u.2&&mE c e t.2&&ig t.2)=true:=h;obtain⟨⟨tg,v⟩,e1,hh⟩:=aA h;obtain⟨⟨o',i'⟩,e2,hh⟩:=aA hh;obtain⟨p,rfl⟩:=pH (a:=tg) e2;obtain⟨pos,rfl⟩:=sV e1;replace h:=hh;simp only[bL]at h;obtain⟨⟨⟨⟨h1,h2⟩,h3⟩,h4⟩,h5⟩:=h;exact aer (agf:=qG) (fun i rx ry rz h f=>Ru i rx ry rz h f) (sE o C h1 ok.1).pe (sE i C h2 ok.2.1).pe (sE e C h4 ok.2.2).pe (yZ h5)| .exp e,X,c,a,C,h,ok=>by replace h:(opt (aiI a) fun v=>mE c e v&&ig v)=true:=h;obtain⟨v,e1,hh⟩:=aA h;obtain⟨pos,rfl⟩:=abw e1;replace h:=hh;simp only[bL]at h;exact aju (sE e C h.1 ok).pe (yZ h.2)| .ret e,X,c,a,C,h,ok=>by replace h:(opt (abt a) fun o=>opt o fun v=>mE c e v)=true:=h;obtain⟨o,e1,hh⟩:=aA h;obtain⟨v,rfl,hh⟩:=aA hh;obtain⟨pos,rfl⟩:=Q9 e1;replace h:=hh;exact ajs (sE e C h ok).pe| .ite t x y,X,c,a,C,h,ok=>by replace h:(opt (uIf a) fun u=>mE c t u.1&&Dc c x u.2.1&&Dc c y u.2.2)=true:=h;obtain⟨⟨t',x',y'⟩,e1,hh⟩:=aA h;obtain⟨pos,rfl⟩:=agq e1;replace h:=hh;simp only[bL]at h;exact ak8 (sE t C h.1.1 ok.1).pt (sSs x C h.1.2 ok.2.1) (sSs y C h.2 ok.2.2)| .for_ is tt it b,X,c,a,C,h,ok=>by replace h:(opt (aiH a) fun u=>c.calm&&mTg c is tt u.1&&mI c it u.2.1&&Dc c b u.2.2&&jA u.2.1&&vO tt it)=true:=h;obtain⟨⟨t',i',b'⟩,e1,hh⟩:=aA h;obtain⟨pos,rfl⟩:=abu e1;replace h:=hh;simp only[bL]at h;obtain⟨⟨⟨⟨⟨hcm,h1⟩,h2⟩,h3⟩,h4⟩,hz⟩:=h;exact ajt (sI it C h2 ok.1 (Gu h1 hz) (.inl hcm)) (Y6 C (fun _=>hcm) h1) (sSs b C h3 ok.2) (Dm h4)| .whl t b,X,c,a,C,h,ok=>by replace h:(opt (aiF a) fun u=>mE c t u.1&&Dc c b u.2)=true:=h;obtain⟨⟨t',b'⟩,e1,hh⟩:=aA h;obtain⟨pos,rfl⟩:=abq e1;replace h:=hh;simp only[bL]at h;exact ajr (sE t C h.1 ok.1).pt (sSs b C h.2 ok.2)| .pN cn f o e,X,c,a,C,h,ok=>by replace h:(opt (GF a) fun t=>opt (Gz t.1) fun u=>u.2==aF f&&mE c o u.1&&mE c e t.2)=true:=h;obtain⟨⟨tg,v⟩,e1,hh⟩:=aA h;obtain⟨⟨o',f'⟩,e2,hh⟩:=aA hh;obtain⟨p,rfl⟩:=Bp (a:=tg) e2;obtain⟨pos,rfl⟩:=sV e1;replace h:=hh;simp only[bL,beq_iff_eq]at h;obtain⟨⟨rfl,h1⟩,h2⟩:=h;obtain⟨_,_,K,hc,hC,hN⟩:=ok.1;exact agK hc hC hN (sE o C h1 ok.2.1).pe (sE e C h2 ok.2.2).pe (by cases v<;>rfl)| .aa1 cn f op o e,X,c,a,C,h,ok=>by replace h:(opt (abx a) fun t=>opt (Gz t.1) fun u=>u.2==aF f&&op==t.2.1&&(op== .Add||op== .Sub)&&mE c o u.1&&mE c e t.2.2)=true:=h;obtain⟨⟨tg,op',v⟩,e1,hh⟩:=aA h;obtain⟨⟨o',f'⟩,e2,hh⟩:=aA hh;obtain⟨p,rfl⟩:=Bp (a:=tg) e2;obtain⟨pos,rfl⟩:=Ra e1;replace h:=hh;simp only[bL,xU,beq_iff_eq]at h;obtain⟨⟨⟨⟨rfl,rfl⟩,h1⟩,h2⟩,h3⟩:=h;obtain⟨_,_,K,hc,hC,hN⟩:=ok.1;exact agM hc hC hN (sE o C h2 ok.2.1).pe (sE e C h3 ok.2.2).pe| .Xn,X,c,a,C,h,ok=>fun _ _ q _=>q.elim
 | .aai k,X,c,a,C,h,ok=>by replace h:(opt (abt a) fun o=>opt o fun v=>mXC c k v)=true:=h;obtain⟨o,e1,hh⟩:=aA h;obtain⟨v,rfl,hh⟩:=aA hh;obtain⟨pos,rfl⟩:=Q9 e1;replace h:=hh;exact PS.wk (agL (sXC k C h ok)) fun Z ρ μ q=>by cases k;exact q
 | .Z7 P tab i b hs,X,c,a,C,h,ok=>by replace h:(opt (aiG a) fun t=>Dc {c with rs:=false} b t.1)=true:=h;obtain⟨⟨body,hd⟩,e1,hh⟩:=aA h;obtain⟨pos,rfl⟩:=abr e1;exact agJ (sSs b (c:={c with rs:=false}) ⟨C.N,C.nd,C.vis,C.loc,C.isl,C.Ak,C.clo,C.blt,C.calm,C.room⟩ hh ok)
theorem sSs:∀ (st:Ss) {X:Cx} {c:Ctx} {as:List Stmt},qF X c->Dc c st as=true->jz (uY X) (mz X) st->PSs X as (wSs st)
 | .nil,X,c,as,C,h,_=>by
  have:as=[]:=by simpa[Dc]using h
  subst this;exact agI
 | .cons s r,X,c,as,C,h,ok=>by
  cases as with
  |nil=>simp[Dc]at h|cons a as=>simp only[Dc,bL]at h;exact aep (sS s C h.1 ok.1) (sSs r C h.2 ok.2)
end
end DW
namespace DW
open PySem PySem.Spec PyProof.Rows
open L2 (aN Key frs vC Loc Look Mod sG cT Cls iQ Meth Mk dY Yx X5 fL bR aH)
noncomputable abbrev cL (T:Top) (k:Nat):Rf->dh->Prop:=qD T (k+16)
def fV (T:Top) (x:Str) (d:D):Prop:=∃ u:Value,T.mg x=some u/\∀ h θ μ,Rp h θ μ d u
theorem qD.up {T:Top} {j k:Nat} {x:Rf} {sp:dh} (h:qD T j x sp) (hk:j<=k):qD T k x sp:=by
 cases x with
 |fn x=>obtain⟨fa,fd,ps,h1,h2,h3,h4⟩:=h;exact⟨fa,fd,ps,h1,h2,h3,h4.mono hk⟩|q9 c m=>obtain⟨C,fa,fd,ps,h0,h1,h2,h3,h4⟩:=h;exact⟨C,fa,fd,ps,h0,h1,h2,h3,h4.mono hk⟩|mk c=>obtain⟨C,fa,fd,ps,i,h0,h1,h2,h3,h4,h5⟩:=h;exact⟨C,fa,fd,ps,i,h0,h1,h2,h3,h4,jR h5 hk⟩|fld c f=>exact h|fnX x sp=>obtain⟨fa,fd,ps,h1,h2,h3,h4⟩:=h;exact⟨fa,fd,ps,h1,h2,h3,h4.mono hk⟩|alc c m sp=>obtain⟨C,fa,fd,ps,h0,h1,h2,h3,h4⟩:=h;exact⟨C,fa,fd,ps,h0,h1,h2,h3,h4.mono hk⟩|mkX c sp=>obtain⟨C,fa,fd,ps,i,h0,h1,h2,h3,h4,h5⟩:=h;exact⟨C,fa,fd,ps,i,h0,h1,h2,h3,h4,jR h5 hk⟩|din x ks=>exact h|dsp x ks sp=>obtain⟨a,h1,h2,h3,h4⟩:=h;refine⟨a,h1,h2,h3,fun ds μ Q X q=>?_⟩;obtain⟨t,r,fa,fd,ps,sp',e1,e2,e3,e4,e5⟩:=h4 ds μ Q X q;exact⟨t,r,fa,fd,ps,sp',e1,e2,e3,e4.mono hk,e5⟩|hdl P tab=>exact h|_=>exact h.elim
theorem cL.up {T:Top} {j k:Nat} {x:Rf} {sp:dh} (h:cL T j x sp) (hk:j<=k):cL T k x sp:=qD.up h (Nat.add_le_add_right hk 16)
theorem Ao {T:Top} {x:Str} {i:Int} {t:Tok} (h:T.mg x=some (.int i t)):fV T x (.int i):=⟨_,h,fun _ _ _=>⟨t,rfl⟩⟩
theorem lM.calm {T:Top} {k:Nat} {f:Addr} {fd:d8} {ps:List Str} {sp:dh} (F:lM T k f fd ps (fun ds μ Q X=>sp ds μ Q/\X=noX)):lM T k f fd ps (Q7 sp):=
 ⟨fun q=>F.len ⟨q,rfl⟩,fun r e b rs q fx _=>F.run (Xd:=noX) r e b rs ⟨q,rfl⟩ fx fun _ _ _ q=>q.elim⟩
section
variable {T:Top} {k:Nat} {x qual:Str} {st:Stmt} {f:Addr} {fd:d8} {N ps gW:List Str} {i:Ss} {cm:Bool}
theorem body_okX {sp:rH} (hcm:cm=true->16<=k) (F:Yx T.K x qual st f fd) (S:dY N ps (aH st)) (hmt:Dc ⟨N,(aH st).names,gW,cm,true⟩ i (bR st)=true) (yF:∀ y,gW.contains y=true->T.mg y=none)
  (ok:jz (qD T k) (fV T) i) (len:∀ {ds μ Q X},sp ds μ Q X->ds.length=ps.length) (hk:af2 N i sp):lM T (k+1) f fd ps sp:=by
 obtain⟨oc,od,kV,doc,pm,an,cdv,ct,osl,rfl,lk,hcd⟩:=F.ex;refine alB lk hcd S len hk fun A outer L hr=>?_;refine sSs i (X:=fX T N qual (aH st) L f cdv A outer) (c:=⟨N,(aH st).names,gW,cm,true⟩) ⟨rfl,S.nd,fun y hy=>?_,fun y hy=>?_,fun y hy=>?_,fun y hy=>?_,fun y hy=>hy,fun y hy=>yF y hy,fun z=>ad7.mpr (hr.hd (hcm z)),⟨k,hr⟩⟩ hmt (jz.mono i (fun y sp' z=>⟨k,hr,z⟩) (fun y d z=>z) ok)
 .unfold Ctx.vis at hy
  split at hy
  .rename_i z;exact .inl z
  .rename_i z;exact .inr (.inl z)
  .rename_i z;exact .inr (.inr z)
  .cases hy
 .unfold Ctx.loc at hy
  split at hy
  .rename_i z;exact .inl z
  .rename_i z;exact .inr ⟨z,rfl⟩
  .cases hy
 .have hy':(aH st).names.lookup y=some .local:=by simpa[isLocal]using hy
  exact hy'
 .unfold Ctx.Ak at hy
  split at hy
  .rename_i z;exact z
  .cases hy
theorem Qp {sp:dh} (F:Yx T.K x qual st f fd) (S:dY N ps (aH st)) (hmt:Dc (Ctx.of N (aH st).names gW) i (bR st)=true) (yF:∀ y,gW.contains y=true->T.mg y=none)
  (ok:jz (cL T k) (fV T) i) (har:∀ ds μ Q,sp ds μ Q->ds.length=ps.length) (hk:Keeps N i sp):lM T (k+16+1) f fd ps (Q7 sp):=
 lM.calm (body_okX (fun _=>Nat.le_add_left 16 k) F S hmt yF ok (fun q=>har _ _ _ q.1) fun ds μ Q X h=>by rw[h.2];exact hk ds μ Q h.1)
theorem Yx.bnd (F:Yx T.K x qual st f fd) (h:∀ (kV doc pm:Value) (an:Option Addr) (cdv ct:Value) (us:List Value),us.length=ps.length->tU (m6 x qual (fL st) (bR st) (aH st) .none kV doc pm an cdv ct) ⟨us,[]⟩=pure (ps.zip us)):Binds T.K fd ps:=by obtain⟨oc,od,kV,doc,pm,an,cdv,ct,osl,rfl,lk,hcd⟩:=F.ex;exact fun s us _ hl=>.of_eq (h kV doc pm an cdv ct us hl)
theorem alA {y:Str} {sp:dh} (F:Yx T.K x qual st f fd) (S:dY N ps (aH st)) (hmt:Dc (Ctx.of N (aH st).names gW) i (bR st)=true) (yF:∀ y,gW.contains y=true->T.mg y=none)
  (ok:jz (cL T k) (fV T) i) (har:∀ ds μ Q,sp ds μ Q->ds.length=ps.length) (hk:Keeps N i sp) (hm:T.mg y=some (.ref f)) (hb:Binds T.K fd ps):cL T (k+1) (.fn y) sp:=
 ⟨f,fd,ps,hm,F.kp,hb,(Qp F S hmt yF ok har hk).mono (by lia:k+16+1<=k+1+16)⟩
end
theorem Ry {h:aq} {θ:Th} {μ:Mem}:∀ {vs:List Value} {ns:List Int},qO vs ns->c7 h θ μ (ns.map D.int) vs
 |_,_,.nil=>.nil|_,_,.cons n t r=>.cons ⟨t,rfl⟩ (Ry r)
theorem SJ:∀ {vs:List Value} {ns:List Int},qO vs ns->vs.length=ns.length
 |_,_,.nil=>rfl|_,_,.cons n t r=>by rw[bA,bA,SJ r]
theorem ae1 {P:bN} {w:aO} {K:bV} {mg mb:Str->Option Value} {k:Nat} {fa a:Addr} {fd:d8} {x:Str} {s₁:aj} {vs:List Value} {ns:List Int}
  (KX:K.In s₁.heap) (hns:s₁.heap.Ns aQ mg) (hb:s₁.heap.Ns Ny mb) (hbb:∀ x:Str,x≠"__name__"->mb x=Cm x) (hlim:s₁.heap.NoLimit) (hsy:∃ mm,s₁.heap.Ns qU mm) (hg:s₁.gens= #[])
  (ha:s₁.heap.get? a=some {cls:=.type "list",data:=.seq vs.toArray}) (hi:qO vs ns) (hl:ns.length<=63) (hr:cT k callerA)
  (F:lM ⟨P,w,K,mg,s₁.heap⟩ k fa fd [x] (Q7 K8)) (hbind:∀ (s:aj) (u:Value),Nf s fd ⟨[u],[]⟩ [(x,u)]):
  ni (aU P w) callerA (.call (.ref fa) ⟨[.ref a],[]⟩) (fun r s'=>r= .ok (.ret (.bool true))/\OldK s₁.heap s'.heap/\s'.os=s₁.os/\Hx s'.gens) s₁:=by
 have nl:∀ b,¬oY ⟨[],[]⟩ [] b:=fun b ⟨n,p,c,h,_⟩=>by simp at h
 have nv:∀ b,¬KY ⟨[],[]⟩ [] b:=fun b z=>z.elim (fun z=>by simp at z) (nl b);have e0:E0 ⟨P,w,K,mg,s₁.heap⟩ callerA [] ⟨[],[]⟩ [] s₁:=⟨⟨KX,hns,⟨mb,hb,hbb⟩,hlim,hsy⟩,rfl,.of_eq hg,fun b o e=>⟨e,nl b⟩,fun e m=>by simp at m,
  ⟨rfl,fun b z=>by simp at z,fun m n p q c d b h=>by simp at h,fun b z=>(nv b z).elim,fun n c p h=>by simp at h⟩,fun v q=>nomatch q⟩
 have hle:vs.length<=sizeLine:=by rw[SJ hi];exact jR hl (by decide)
 have r:c7 s₁.heap ⟨[],[]⟩ [] [.ro (ns.map D.int)] [.ref a]:=.one ⟨a,vs,rfl,⟨hle,⟨_,_,ha,rfl,rfl,rfl⟩⟩,nv a,Ry hi⟩;refine F.run (us:=[.ref a]) (Qd:=fun d _=>d= .bl true) (Xd:=noX) hr e0 (hbind s₁ (.ref a)) r ⟨ns,rfl,hl,fun _=>rfl⟩ (fun {d u s' θ' μ'} e g r q=>?_) (fun _ _ _ q=>q.elim);subst q;obtain rfl:u=gM true:=r;refine⟨rfl,OldK.of_keep fun b o q=>?_,g.os,e.bare⟩;obtain⟨_,sl,q',z⟩:=g.keep b o q (nl b) id;rw[z (by simp[frs])]at q';exact q'
theorem ae0 {l:M9} {k:Nat} {q:bN} {loose:List Str} {XP:(Str->Option Value)->aq->Prop} {YP:aO->aq->Prop} {d:DefRec} {K:Params->bV} (hI:importsNone q=true) (hn:l.most=some 63) (hk:k<=200) (hdf:d.params.defaults=[])
  (hY:∀ (w:aO) (h:aq),YP w h->(K w.params).In h)
  (F:∀ (w:aO) (mg:Str->Option Value) (fa:Addr) (h:aq),(K w.params).In h->h.Ns aQ mg->mg d.name=some (.ref fa)->
   ∃ fd:d8,(∀ (s:aj) (u:Value),Nf s fd ⟨[u],[]⟩ [("script",u)])/\∀ base:aq,(K w.params).In base->base.Ns aQ mg->lM ⟨l.prog,w,K w.params,mg,base⟩ k fa fd ["script"] (Q7 K8)):
  PySem.W.WalkO q loose XP YP l.row.toRowW d [] (fun f vs=>abY f vs):=by
 have hr:cT 200 callerA:=⟨fun _=>rfl,by decide,by decide,rfl⟩;refine Att.T8 hn hdf fun w s₀ s₁ mg mb fa o pm cd doc a vs ns G Y ho hd hcd hmg hobj hints hlen hg=>?_;have KX:=hY w _ Y;obtain⟨fd,hb,hF⟩:=F w mg fa _ KX G.T.g hmg;exact ae1 KX G.T.g G.T.b G.T.builtins G.T.nolimit (let⟨mm,z,_⟩:=(G.T.seer hI).mods;⟨mm,z⟩) hg hobj hints hlen (hr.mono hk) (hF _ KX G.T.g) hb
def af6 (K:bV) (x:Str) (ks:List (List Nat)):Prop:=∃ a,bG K aQ x=some (some (.ref a))/\JD K a=true/\(qx K a).map (fun p=>p.1.cps.toList)=ks
theorem ahQ {K:bV} {x:Str} {ks:List (List Nat)} {a:Addr} (h1:bG K aQ x=some (some (.ref a))) (h2:JD K a=true) (h3:(qx K a).map (fun p=>p.1.cps.toList)=ks):af6 K x ks:=⟨a,h1,h2,h3⟩
def Bj (K:bV) (x:Str) (t:List Nat) (y:Str):Prop:=∃ a f,bG K aQ x=some (some (.ref a))/\bG K aQ y=some (some (.ref f))/\m9 (⟨t.toArray⟩:Str) (qx K a)=some f
theorem vB {K:bV} {x y:Str} {t:List Nat} {a f:Addr} (h1:bG K aQ x=some (some (.ref a))) (h2:bG K aQ y=some (some (.ref f))) (h3:m9 (⟨t.toArray⟩:Str) (qx K a)=some f):Bj K x t y:=⟨a,f,h1,h2,h3⟩
section
variable {T:Top} {k:Nat} {h:aq} {x y:Str} {ks:List (List Nat)} {sp:dh} {spx:rH}
theorem akv (X:T.K.In h) (G:h.Ns aQ T.mg) (A:af6 T.K x ks):cL T k (.din x ks) YT:=by obtain⟨a,h1,h2,h3⟩:=A;exact⟨a,pP X G h1,h2,h3⟩
theorem cL.Q7 (h:cL T k (.fn y) sp):cL T k (.fnX y (DW.Q7 sp)) YT:=h
theorem aku (X:T.K.In h) (G:h.Ns aQ T.mg) (A:af6 T.K x ks) (H:∀ ds μ Q Xq,spx ds μ Q Xq->∃ t r y sp',ds= .str t::r/\Bj T.K x t y/\cL T k (.fnX y sp') YT/\sp' r μ Q Xq):cL T k (.dsp x ks spx) YT:=by obtain⟨a,h1,h2,h3⟩:=A;refine⟨a,pP X G h1,h2,h3,fun ds μ Q Xq z=>?_⟩;obtain⟨t,r,y,sp',e,⟨a',f,e1,e2,e3⟩,⟨fa,fd,ps,q1,_,q3,q4⟩,z⟩:=H ds μ Q Xq z;rw[h1]at e1;cases e1;rw[pP X G e2]at q1;cases q1;exact⟨t,r,f,fd,ps,sp',e,e3,q3,q4,z⟩
end
section
variable {α:Type} {P:List α->Prop}
theorem len1 (h:∀ a,P [a]):∀ us:List α,us.length=1->P us
 |[a],_=>h a
theorem len2 (h:∀ a b,P [a,b]):∀ us:List α,us.length=2->P us
 |[a,b],_=>h a b
theorem alg (h:∀ a b c,P [a,b,c]):∀ us:List α,us.length=3->P us
 |[a,b,c],_=>h a b c
end
def bH (K:bV) (x:Str) (st:Stmt):Prop:=∃ (f:Addr) (fd:d8),bG K aQ x=some (some (.ref f))/\Yx K x x st f fd
theorem afI {K:bV} {x:Str} {st:Stmt} {f:Addr} {oc:Value} {od an:Option Addr} {osl:Array (Option Value)} {kV doc pm cdv ct:Value} (a:bG K aQ x=some (some (.ref f)))
  (l:K.lookup f=some ⟨oc,od,.func (m6 x x (fL st) (bR st) (aH st) .none kV doc pm an cdv ct),osl⟩) (c:H8 K cdv x=true) (k:oJ K (.ref f)=true):bH K x st:=⟨f,_,a,X5 l c k⟩
theorem uI {K:bV} {x:Str} {i:Int} {t:Tok} (h:bG K aQ x=some (some (.int i t))):∃ t,bG K aQ x=some (some (.int i t)):=⟨t,h⟩
def J7 (K:bV):List Str->Prop
 |[]=>True|x::xs=>bG K aQ x=some none/\J7 K xs
theorem ZC {K:bV} {h:aq} {mg:Str->Option Value} (X:K.In h) (G:h.Ns aQ mg):∀ {xs:List Str},J7 K xs->∀ y,xs.contains y=true->mg y=none
 |[],_,y,h=>by simp at h|x::xs,F,y,h=>by
  by_cases e:y=x
  .subst e;exact PySem.W.mg_none_of X G F.1
  .exact ZC X G F.2 y (by simpa[e]using h)
theorem alC {T:Top} {h:aq} {k:Nat} {x:Str} {st:Stmt} {N ps gW:List Str} {i:Ss} {sp:dh} (D:bH T.K x st) (X:T.K.In h) (G:h.Ns aQ T.mg) (S:dY N ps (aH st)) (hmt:Dc (Ctx.of N (aH st).names gW) i (bR st)=true) (yF:∀ y,gW.contains y=true->T.mg y=none)
  (hbd:∀ (kV doc pm:Value) (an:Option Addr) (cdv ct:Value) (us:List Value),us.length=ps.length->tU (m6 x x (fL st) (bR st) (aH st) .none kV doc pm an cdv ct) ⟨us,[]⟩=pure (ps.zip us))
  (har:∀ ds μ Q,sp ds μ Q->ds.length=ps.length) (hk:Keeps N i sp) (ok:jz (cL T k) (fV T) i):cL T (k+1) (.fn x) sp:=by
 obtain⟨f,fd,a,F⟩:=D;exact alA F S hmt yF ok har hk (pP X G a) (Yx.bnd F hbd)
def Gs (K:bV) (y x:Str):Prop:=∃ f:Addr,bG K aQ y=some (some (.ref f))/\bG K aQ x=some (some (.ref f))
theorem Yu {K:bV} {y x:Str} {f:Addr} (a:bG K aQ y=some (some (.ref f))) (b:bG K aQ x=some (some (.ref f))):Gs K y x:=⟨f,a,b⟩
theorem cL.other {T:Top} {h:aq} {k:Nat} {x y:Str} {sp:dh} (A:Gs T.K y x) (X:T.K.In h) (G:h.Ns aQ T.mg) (u:cL T k (.fn x) sp):cL T k (.fn y) sp:=by obtain⟨f,a,b⟩:=A;obtain⟨fa,fd,ps,h1,h2⟩:=u;exact⟨fa,fd,ps,by rw[pP X G a,<-pP X G b];exact h1,h2⟩
def spP (sp:Nat->dh):Nat->dh
 |0=>YT|d+1=>sp d
theorem X6 {T:Top} {k:Nat} {f:Addr} {fd:d8} {ps:List Str}:lM T k f fd ps (Q7 YT):=⟨fun z=>z.elim,fun _ _ _ _ z=>z.elim⟩
def ClsAt (K:bV) (c:String):Prop:=∃ C:Addr,bG K aQ (aF c)=some (some (.ref C))/\Cls K C/\Oj K C=true/\oJ K (.ref C)=true
theorem afP {K:bV} {c:String} {C:Addr} (a:bG K aQ (aF c)=some (some (.ref C))) (pg:Ig K C Str.empty=true) (hd:Oz K C=true) (po:WQ K C=true)
  (sa:oK K (.ref C) "__setattr__"=some (some (.builtin "object.__setattr__"))) (mk:Oj K C=true) (kc:oJ K (.ref C)=true):ClsAt K c:=⟨C,a,⟨pg,hd,po,sa⟩,mk,kc⟩
def FP (K:bV) (c f:String):Prop:=∃ C:Addr,bG K aQ (aF c)=some (some (.ref C))/\oK K (.ref C) (aF f)=some none
theorem ag3 {K:bV} {c f:String} {C:Addr} (a:bG K aQ (aF c)=some (some (.ref C))) (n:oK K (.ref C) (aF f)=some none):FP K c f:=⟨C,a,n⟩
theorem ako {T:Top} {k:Nat} {c f:String} (Cl:ClsAt T.K c) (N:FP T.K c f):cL T k (.fld c f) YT:=by obtain⟨C,h1,h2,_⟩:=Cl;obtain⟨C',h3,h4⟩:=N;rw[h1]at h3;cases h3;exact⟨C,h1,h2,h4⟩
def gA (K:bV) (c m:String) (q:Str) (st:Stmt):Prop:=∃ (C f:Addr) (fd:d8),bG K aQ (aF c)=some (some (.ref C))/\oK K (.ref C) (aF m)=some (some (.ref f))/\HW K (.ref f)=true/\Yx K (aF m) q st f fd
theorem aeP {K:bV} {c m:String} {q:Str} {st:Stmt} {C f:Addr} {oc:Value} {od an:Option Addr} {osl:Array (Option Value)} {kV doc pm cdv ct:Value} (a:bG K aQ (aF c)=some (some (.ref C)))
  (b:oK K (.ref C) (aF m)=some (some (.ref f))) (i:HW K (.ref f)=true) (l:K.lookup f=some ⟨oc,od,.func (m6 (aF m) q (fL st) (bR st) (aH st) .none kV doc pm an cdv ct),osl⟩)
  (cd:H8 K cdv q=true) (k:oJ K (.ref f)=true):gA K c m q st:=⟨C,f,_,a,b,i,X5 l cd k⟩
section
variable {T:Top} {k:Nat} {c m:String} {q:Str} {st:Stmt} {N ps gW:List Str} {i:Ss} {sp:dh} {h:aq}
theorem Xv (D:gA T.K c m q st) (Cl:ClsAt T.K c) (S:dY N ps (aH st)) (hmt:Dc (Ctx.of N (aH st).names gW) i (bR st)=true) (yF:∀ y,gW.contains y=true->T.mg y=none)
  (hbd:∀ (kV doc pm:Value) (an:Option Addr) (cdv ct:Value) (us:List Value),us.length=ps.length->tU (m6 (aF m) q (fL st) (bR st) (aH st) .none kV doc pm an cdv ct) ⟨us,[]⟩=pure (ps.zip us))
  (har:∀ ds μ Q,sp ds μ Q->ds.length=ps.length) (hk:Keeps N i sp) (ok:jz (cL T k) (fV T) i):cL T (k+1) (.q9 c m) sp:=by
 obtain⟨C,f,fd,h1,h2,h3,F⟩:=D;obtain⟨C',h4,h5,_⟩:=Cl;rw[h1]at h4;cases h4;exact⟨C,f,fd,ps,h1,h5,⟨h2,h3,F.kp⟩,Yx.bnd F hbd,(Qp F S hmt yF ok har hk).mono (by lia:k+16+1<=k+1+16)⟩
theorem Zg {i:Nat->Ss} {sp:Nat->dh} (D:gA T.K c m q st) (Cl:ClsAt T.K c) (S:dY N ps (aH st)) (hmt:∀ d,Dc (Ctx.of N (aH st).names gW) (i d) (bR st)=true) (yF:∀ y,gW.contains y=true->T.mg y=none)
  (hbd:∀ (kV doc pm:Value) (an:Option Addr) (cdv ct:Value) (us:List Value),us.length=ps.length->tU (m6 (aF m) q (fL st) (bR st) (aH st) .none kV doc pm an cdv ct) ⟨us,[]⟩=pure (ps.zip us))
  (har:∀ d ds μ Q,sp d ds μ Q->ds.length=ps.length) (hk:∀ d,Keeps N (i d) (sp d)) (ok:∀ d j,k<=j->cL T j (.q9 c m) (spP sp d)->jz (cL T j) (fV T) (i d)):∀ d,cL T (k+d+1) (.q9 c m) (sp d)
 |0=>by refine Xv D Cl S (hmt 0) yF hbd (har 0) (hk 0) (ok 0 k (aB _) ?_);obtain⟨C,f,fd,h1,h2,h3,F⟩:=D;obtain⟨C',h4,h5,_⟩:=Cl;rw[h1]at h4;cases h4;exact⟨C,f,fd,ps,h1,h5,⟨h2,h3,F.kp⟩,Yx.bnd F hbd,X6⟩
 |d+1=>Xv D Cl S (hmt (d+1)) yF hbd (har (d+1)) (hk (d+1)) (ok (d+1) (k+d+1) (by lia) (Zg D Cl S hmt yF hbd har hk ok d))
theorem ale (X:T.K.In h) (G:h.Ns aQ T.mg) (D:gA T.K c "__init__" q st) (Cl:ClsAt T.K c) (S:dY N ps (aH st)) (hmt:Dc (Ctx.of N (aH st).names gW) i (bR st)=true) (yF:∀ y,gW.contains y=true->T.mg y=none)
  (hbd:∀ (kV doc pm:Value) (an:Option Addr) (cdv ct:Value) (us:List Value),us.length=ps.length->tU (m6 (aF "__init__") q (fL st) (bR st) (aH st) .none kV doc pm an cdv ct) ⟨us,[]⟩=pure (ps.zip us))
  (har:∀ ds μ Q,sp ds μ Q->ds.length=ps.length) (hk:Keeps N i sp) (ok:jz (cL T k) (fV T) i):cL T (k+2) (.mk c) sp:=by
 obtain⟨C,f,fd,h1,h2,h3,F⟩:=D;obtain⟨C',h4,h5,h6,h7⟩:=Cl;rw[h1]at h4;cases h4;exact⟨C,f,fd,ps,k+16+1,h1,pP X G h1,⟨h6,h2,h3,h7⟩,Yx.bnd F hbd,Qp F S hmt yF ok har hk,by lia⟩
end
def ahV (K:bV) (P:String) (tab:List String):Prop:=∃ CP,bG K aQ (aF P)=some (some (.ref CP))/\∀ c∈tab,∃ C,bG K aQ (aF c)=some (some (.ref C))/\aco K (.ref C) (.ref CP)=some true
end DW
namespace DW
open PySem
def tags:List (List Nat):=[[],[],[97],[98],[97,98],[98,97],[122],[97,98,99,100,101,102,103,104]]
def keyOk (k:Int):Prop:=-(10 ^ 40)<k/\k<10 ^ 40
def cA (x:Itm):Prop:=keyOk x.1/\x.2∈tags
def Ac (μ:Mem) (n:Nat):Prop:=∃ b:Int,μ[n]?=some (.lst [.int b])
def bx (μ:Mem) (n:Nat) (b:Int):Mem:=μ.set n (.lst [.int b])
def vf:dh:=fun ds μ Q=>match ds with|[.ro xs,.int k]=>∃ ns:List Int,xs=ns.map D.int/\ns.length<1000/\0<=k/\∀ b,Q (.loc μ.length) (μ++[.lst [.int b]])|_=>False
def cg:dh:=fun ds μ Q=>match ds with|[.loc n,.int m]=>Ac μ n/\0<m/\m<2 ^ 500/\∀ d b,0<=d->d<m->Q (.int d) (bx μ n b)|_=>False
def vd:dh:=fun ds μ Q=>match ds with|[.loc n,.int m]=>Ac μ n/\0<=m/\m<1000/\∀ (r:List Itm) b,(r.length:Int)<=m->(∀ x∈r,cA x)->Q (.lst (r.map aK)) (bx μ n b)|_=>False
def Ze:List Str:=["box","many","left","digit"]
def Zv:Ss:=(.cons (.Rt [2,3] (.blt "divmod" (.cons (.idx (.var 0) (.cst (.int 0))) (.cons (.var 1) .nil)))) (.cons (.G9 (.var 0) (.cst (.int 0)) (.var 2)) (.cons (.ret (.var 3)) .nil)))
theorem lF (h:Ac μ n):Ac (bx μ n b) n:=by obtain⟨c,h⟩:=h;exact⟨b,by unfold bx;rw[eF (cj.mp h).1]⟩
theorem ZQ:bx (bx μ n b) n c=bx μ n c:=by simp[bx]
theorem ahh:Keeps Ze Zv cg:=by
 intro ds μ Q h;unfold cg at h;split at h
 .obtain⟨⟨b,hb⟩,h0,hm,h⟩:=h
  rename_i n m;have hc:Ml m:=⟨h0,hm⟩;simp[Zv,Ze,aD,bI,wSs,wS,wT,wE,wEs,dH,aC,hb,n6,bO,hc,eX,qG];exact h _ _ (Int.emod_nonneg _ (by lia)) (Int.emod_lt_of_pos _ h0)
 .exact h.elim
def ga (r:List Itm) (p:Nat):Nat:=match r[p]? with|some x=>((r.take p).filter fun y=>iY x y).length|none=>0
def X4 (r:List Itm):List Int:=(aY r.length).map fun p=>(ga r p:Int)
def mx:List Int->Int
 |[]=>0|i::is=>is.foldl max i
def u6:dh:=fun ds μ Q=>∃ x y:Itm,ds=[aK x,aK y]/\Q (.bl (iY x y)) μ
def Bs:dh:=fun ds μ Q=>∃ x y:Itm,ds=[aK x,aK y]/\Q (.bl (iY x y)) μ
def jY:dh:=fun ds μ Q=>∃ (r:List Itm) (p:Nat),ds=[.lst (r.map aK),.int p]/\p<r.length/\Q (.int (ga r p)) μ
def abI:dh:=fun ds μ Q=>∃ r:List Itm,ds=[.lst (r.map aK)]/\r.length<1000/\Q (.int (mx (X4 r))) μ
def afF (μ:Mem) (n:Nat):Bool:=match μ[n]? with|some (.jN _ _)=>true|_=>false
theorem afD (h:afF μ n=true):tyOf μ (.loc n)=some "dict":=by
 unfold afF at h;simp only[tyOf];split at h
 .rename_i e;rw[e]
 .cases h
def Br:dh:=fun ds μ Q=>match ds with|[.int _]=>Q (.bl true) μ|[.loc n]=>afF μ n=true/\Q (.bl false) μ|[.ro _]=>False|[_]=>Q (.bl false) μ|_=>False
def posR (x:Itm) (l:List Itm):Nat->Nat
 |0=>0|n+1=>match l[n]? with|some y=>if iY x y=true then posR x l n else n+1|none=>n+1
def rB (x:Itm) (l:List Itm):List Itm:=l.take (posR x l l.length)++x::l.drop (posR x l l.length)
def FW (r:List Itm):List Itm:=r.foldl (fun l x=>rB x l) []
def m5:dh:=fun ds μ Q=>∃ r:List Itm,ds=[.lst (r.map aK)]/\r.length<1000/\Q (.lst ((FW r).map aK)) (μ++[.gone])
def aeM:List Str:=["one","other"]
def afg:Ss:=(.cons (.ret (.cmp .Lt (.var 0) (.var 1))) .nil)
def rT:List Str:=["row","place"]
def rW:Ss:=(.cons (.ret (.blt "len" (.cons (.comp false 1 false [0,1] (.var 0) (.seq (.slc false (.var 0) .nil (.cons (.var 1) .nil))) (.cons (.call "less" u6 (.cons (.idx (.var 1) (.var 2)) (.cons (.var 0) .nil))) .nil)) .nil))) .nil)
def ah2:List Str:=["row"]
def ah6:Ss:=(.cons (.ret (.aaZ "max" (.comp false 1 false [0] (.call "greater_ahead" jY (.cons (.var 1) (.cons (.var 0) .nil))) (.rng (.cons (.blt "len" (.cons (.var 0) .nil)) .nil)) .nil) (.cst (.int 0)))) .nil)
def RL:List Str:=["one","other"]
def S7:Ss:=(.cons (.ret (.or (.cmp .Lt (.idx (.var 0) (.cst (.int 0))) (.idx (.var 1) (.cst (.int 0)))) (.and (.cmp .Eq (.idx (.var 0) (.cst (.int 0))) (.idx (.var 1) (.cst (.int 0)))) (.cmp .Lt (.idx (.var 0) (.cst (.int 1))) (.idx (.var 1) (.cst (.int 1))))))) .nil)
def j8:List Str:=["row","found","item","at"]
def kj:Ss:=(.cons (.set 1 (.lst true .nil)) (.cons (.for_ [2] false (.seq (.var 0)) (.cons (.set 3 (.blt "len" (.cons (.var 1) .nil))) (.cons (.whl (.and (.cmp .Gt (.var 3) (.cst (.int 0))) (.call "_law_under" Bs (.cons (.var 2) (.cons (.idx (.var 1) (.bin .Sub (.var 3) (.cst (.int 1)))) .nil)))) (.cons (.set 3 (.bin .Sub (.var 3) (.cst (.int 1)))) .nil)) (.cons (.exp (.meth "insert" (.var 1) (.cons (.var 3) (.cons (.var 2) .nil)))) .nil)))) (.cons (.ret (.frz (.var 1))) .nil)))
def zT:List Str:=["thing"]
def Ag:Ss:=(.cons (.ret (.and (.isin (.var 0) "int") (.not (.isin (.var 0) "bool")))) .nil)
theorem aj8:Keeps aeM afg u6:=by
 rintro ds μ Q ⟨x,y,rfl,h⟩;simp[afg,aeM,aD,bI,wSs,wS,wT,wE,wEs,aK,cM,PK,vL,lN,sc2];by_cases e:x.1=y.1
 .simp[iY,e]at h
  by_cases e2:x.2=y.2
  .rw[e2,Jc]at h
   simp[e,e2];exact h
  .simp[e,e2];exact h
 .simp[iY,e]at h
  simp[e];exact h
theorem ae7:Keeps RL S7 Bs:=by
 rintro ds μ Q ⟨x,y,rfl,h⟩;simp[S7,RL,aD,bI,wSs,wS,wT,wE,wEs,aK,cM,dH,aC,n6,PK,fU,flat,lN];by_cases e:x.1=y.1
 .simp[iY,e]at h
  simp[e];exact h
 .simp[iY,e]at h
  by_cases e2:x.1<y.1
  .simp[e2]at h ⊢;exact h
  .simp[e2]at h ⊢;simp[e];exact h
theorem ae6:Keeps zT Ag Br:=by
 intro ds μ Q h;unfold Br at h;split at h
 .simpa[Ag,zT,aD,bI,wSs,wS,wE,sH,tyOf,Kv,fU]using h
 .simpa[Ag,zT,aD,bI,wSs,wS,wE,sH,afD h.1,Kv,fU]using h.2
 .exact h.elim
 .rename_i d h1 h2 h3
  cases d with
  |int i=>exact absurd rfl (h1 i)|loc i=>exact absurd rfl (h2 i)|ro i=>exact absurd rfl (h3 i)|_=>simpa[Ag,zT,aD,bI,wSs,wS,wE,sH,tyOf,Kv,fU]using h
 .exact h.elim
theorem Fl:Keeps rT rW jY:=by
 rintro ds μ Q ⟨r,p,rfl,hp,h⟩;simp only[rW,rT,aD,bI,wSs,wS,wE,wEs,wI,wO,yS,Fg,newL,lO,wTs,wT,aX,aV,bA,aL,bh,aM,aJ,aZ];have e:cutD (r.map aK) none (some (p:Int))=(r.take p).map aK:=by
  have h2:¬((p:Int)<0):=by lia
  have h3:min p r.length=p:=by lia
  simp[cutD,j4,h2,h3,HX]
 rw[e];refine gB aK (fun y=>iY r[p] y) aK trivial _ _ ?_ ?_
 .intro y _ Y N q
  have e2:(r.map aK)[p]?=some (aK r[p]):=by simp[hp]
  simp[bindC,dH,aC,gj hp,hp];refine⟨r[p],y,rfl,?_⟩;simpa[fM,truth]using q
 .have e3:r[p]?=some r[p]:=dw hp
  simp[ga,e3]at h;simpa[bO,lenOf,aC]using h
theorem afo (h:Q ((X4 r).map D.int) μ):
  iD (fun d k=>bindC 1 false d [some (.lst (r.map aK))] k) (fun ρ' μ' Q'=>Q' true μ') (fun ρ' μ' Q'=>wE (.call "greater_ahead" jY (.cons (.var 1) (.cons (.var 0) .nil))) ρ' μ' Q') (fun _=>True) (eU 0 r.length) [] μ Q:=by
 rw[BK];refine dF _ (fun p=>D.int (ga r p)) trivial _ _ ?_ ?_
 .intro p hp Y N q
  simp[bindC,wE,wEs];exact⟨r,p,rfl,by simpa using hp,by simpa using q⟩
 .simpa[X4,Cv]using h
theorem afn (r:List Itm):lG ((X4 r).map D.int)=some (X4 r):=by simpa using Lx (fun i:Int=>i) (X4 r)
theorem alk:Keeps ah2 ah6 abI:=by
 rintro ds μ Q ⟨r,rfl,hl,h⟩;simp[ah6,ah2,aD,bI,wSs,wS,wE,wEs,wI,wTs,newL,bO,lenOf,aC,Bl,mK];refine⟨by simp only[lim];lia,afo ?_⟩;simp[akW,K1,cB,aC,afn];cases e:X4 r with
 |nil=>rw[e]at h;exact h|cons i is=>rw[e]at h;exact h
theorem Pu (x:Itm) (l:List Itm):∀ n,posR x l n<=n
 |0=>aB 0|n+1=>by
  unfold posR;split
  .split
   .exact Cy (Pu x l n)
   .exact aB _
  .exact aB _
theorem Jt (x:Itm) (l:List Itm):(rB x l).length=l.length+1:=by have:=Pu x l l.length;simp[rB];lia
theorem aeT:y∈rB x l<->y=x∨y∈l:=by
 have:y∈l<->y∈l.take (posR x l l.length)∨y∈l.drop (posR x l l.length):=by rw[<-iG,O6]
 simp[rB,this];constructor
 .rintro(h|h|h)
  .exact .inr (.inl h)
  .exact .inl h
  .exact .inr (.inr h)
 .rintro(h|h|h)
  .exact .inr (.inl h)
  .exact .inl h
  .exact .inr (.inr h)
theorem Ri (r:List Itm):∀ l:List Itm,(r.foldl (fun l x=>rB x l) l).length=l.length+r.length/\∀ y,y∈r.foldl (fun l x=>rB x l) l<->y∈l∨y∈r:=by
 induction r with
 |nil=>intro l;simp|cons x r ih=>
  intro l;obtain⟨h1,h2⟩:=ih (rB x l);refine⟨by rw[pR,h1,Jt];simp;lia,fun y=>?_⟩;rw[pR,h2,aeT];simp;constructor
  .rintro((h|h)|h)
   .exact .inr (.inl h)
   .exact .inl h
   .exact .inr (.inr h)
  .rintro(h|h|h)
   .exact .inl (.inr h)
   .exact .inl (.inl h)
   .exact .inr h
theorem YS (r:List Itm):(FW r).length=r.length:=by simpa[FW]using(Ri r []).1
theorem ag8:y∈FW r<->y∈r:=by simpa[FW]using(Ri r []).2 y
theorem qe:Keeps j8 kj m5:=by
 rintro ds μ Q ⟨r,rfl,hl,h⟩;simp[kj,j8,aD,bI,wSs,wS,wE,wEs,wI,newL,lO,lim];refine cU (fun ds ρ μ'=>∃ (l r2:List Itm) (u v:Option D),ds=r2.map aK/\μ'=μ++[.lst (l.map aK)]/\l.length+r2.length<1000/\r2.foldl (fun l x=>rB x l) l=FW r/\ρ=[some (.lst (r.map aK)),some (.loc μ.length),u,v]) ?_ ?_ _ _ _ ⟨[],r,none,none,rfl,rfl,by simpa using hl,rfl,rfl⟩
 .rintro d ds ρ μ' N hN ⟨l,r2,u,v,e,rfl,h1,h2,rfl⟩
  cases r2 with
  |nil=>simp at e|cons x r2=>
   simp at e;obtain⟨rfl,rfl⟩:=e;refine⟨trivial,?_⟩;simp[eX,bO,lenOf,aC];refine⟨fun m ρ μ'=>m<=l.length/\posR x l m=posR x l l.length/\μ'=μ++[.lst (l.map aK)]/\ρ=[some (.lst (r.map aK)),some (.loc μ.length),some (aK x),some (.int m)],⟨l.length,by simp⟩,?_⟩;rintro m ρ μ' ⟨hm,hq,rfl,rfl⟩;simp[wT,wE,wEs,cM,fU,jq];cases m with
   |zero=>
    simp[isCell,dj,bT,lim];refine⟨by simp at h1;lia,?_⟩;refine hN _ _ ⟨rB x l,r2,_,_,rfl,?_,?_,?_,rfl⟩
    .simp[rB,<-hq,posR]
    .rw[Jt];simp at h1;lia
    .simpa using h2
   |succ m=>
    (have hml:m<l.length:=by lia);(have e1:((m+1:Nat):Int) -1=(m:Int):=by lia);(have e2:(l.map aK)[m]?=some (aK l[m]):=by simp[hml]);(have e3:0<((m+1:Nat):Int):=by lia);simp only[e3,e1];simp[dH,aC,gj hml,e2,hml];have e4:posR x l (m+1)=if iY x l[m]=true then posR x l m else m+1:=by simp[posR,hml]
    refine⟨x,l[m],rfl,?_⟩;simp[fM,truth];by_cases hx:iY x l[m]=true
    .simp[hx]
     refine⟨m,by lia,by lia,?_,?_⟩
     .rw[<-hq,e4,if_pos hx]
     .simp
    .simp[hx,isCell,dj,bT,lim]
     rw[if_neg hx]at e4;refine⟨by lia,by lia,by simp at h1;lia,?_⟩;refine hN _ _ ⟨rB x l,r2,_,_,rfl,?_,?_,?_,rfl⟩
     .have:((m:Int)+1).toNat=m+1:=by lia
      simp[rB,<-hq,e4,this,HX,N6]
     .rw[Jt];simp at h1;lia
     .simpa using h2
 .rintro ρ μ' ⟨l,r2,u,v,e,rfl,h1,h2,rfl⟩
  cases r2 with
  |cons x r2=>simp at e|nil=>refine⟨trivial,?_⟩;simp at h2;subst h2;simpa[Q0]using h
theorem akk (r:List Itm):∀ i∈X4 r,0<=i:=by intro i hi;simp[X4]at hi;obtain⟨p,_,rfl⟩:=hi;lia
end DW
namespace DW
theorem aaF (x:Itm) (l:List Itm):(rB x l).Perm (x::l):=by unfold rB;refine(Ws).trans ?_;rw[O6]
theorem Kd (r:List Itm):∀ l:List Itm,(r.foldl (fun l x=>rB x l) l).Perm (l++r):=by
 induction r with
 |nil=>intro l;simp|cons x r ih=>intro l;rw[pR];refine(ih _).trans (((aaF x l).append_right r).trans ?_);exact Ws.symm
theorem Rh (r:List Itm):(FW r).Perm r:=by simpa[FW]using Kd r []
theorem Lf (x:Itm) (l:List Itm):∀ n,n<=l.length->(∀ i (h:i<l.length),posR x l n<=i->i<n->iY x l[i]=true)/\(∀ i (h:i<l.length),i+1=posR x l n->iY x l[i]=false)
 |0,_=>⟨fun i h h1 h2=>by lia,fun i h h1=>by simp[posR]at h1⟩|n+1,hn=>by
  have hl:n<l.length:=by lia
  have e:l[n]?=some l[n]:=dw hl;unfold posR;rw[e];simp only;by_cases c:iY x l[n]=true
  .rw[if_pos c]
   obtain⟨h1,h2⟩:=Lf x l n (by lia);refine⟨fun i h a b=>?_,h2⟩;by_cases z:i=n
   .subst z;exact c
   .exact h1 i h a (by lia)
  .rw[if_neg c]
   refine⟨fun i h a b=>by lia,fun i h a=>?_⟩;(have:i=n:=by lia);subst this;simpa using c
theorem SN (x:Itm) (l:List Itm) (h:jL l):jL (rB x l):=by
 obtain⟨h1,h2⟩:=Lf x l l.length (aB _);have hp:=Pu x l l.length;unfold rB;generalize posR x l l.length=t at h1 h2 hp;have hl:=Xc.mp h;have lo:∀ y∈l.take t,iY x y=false:=by
  intro y hy;obtain⟨i,hi,rfl⟩:=CK.mp hy;have hi2:i<t/\i<l.length:=by simp at hi;lia
  rw[List.getElem_take];have hz:=h2 (t -1) (by lia) (by lia);by_cases q:i=t -1
  .subst q;exact hz
  .exact j9 _ _ _ (hl i (t -1) hi2.2 (by lia) (by lia)) hz
 have hi:∀ y∈l.drop t,iY y x=false:=by
  intro y hy;obtain⟨i,hi,rfl⟩:=CK.mp hy;rw[List.getElem_drop];have:t+i<l.length:=by simp at hi;lia
  exact zZ _ _ (h1 (t+i) this (by lia) this)
 have parts:=h;rw[<-O6 t l]at parts;obtain⟨p1,p2,p3⟩:=Ip.mp parts;refine Ip.mpr ⟨p1,xY.mpr ⟨fun y hy=>hi y hy,p2⟩,fun a ha b hb=>?_⟩;simp at hb;rcases hb with rfl|hb
 .exact lo a ha
 .exact p3 a ha b hb
theorem GX (r:List Itm):jL (FW r):=by
 have:∀ (r l:List Itm),jL l->jL (r.foldl (fun l x=>rB x l) l):=by
  intro r;induction r with
  |nil=>intro l h;exact h|cons x r ih=>intro l h;exact ih _ (SN x l h)
 exact this r [] .nil
theorem aiV (p:a.Perm r) (h:jL a):a=FW r:=DX (p.trans (Rh r).symm) h (GX r)
def cnt (A:List Itm) (x:Itm):Nat:=(A.filter (iY x)).length
def gf:List Itm->List Itm->List Int
 |_,[]=>[]|A,x::l=>(cnt A x:Int)::gf (A++[x]) l
theorem ah9:∀ (l A:List Itm),gf A l=(aY l.length).map fun p=>(ga (A++l) (A.length+p):Int)
 |[],A=>rfl|x::l,A=>by
  have h:=ah9 l (A++[x]);rw[gf,h,bA,List.range_succ_eq_map,aX,oG];congr 1
  .simp[ga,cnt]
  .refine Im fun p _=>?_
   simp[Nat.add_assoc,Nat.add_comm 1 p]
theorem akl (r:List Itm):X4 r=gf [] r:=by rw[ah9];simp[X4]
def Kh (l:List Int):Int:=l.foldr max 0
theorem Pz:∀ l:List Int,0<=Kh l
 |[]=>Vu _|i::l=>by have:=Pz l;show 0<=max i (Kh l);lia
theorem I9:∀ a b:List Int,Kh (a++b)=max (Kh a) (Kh b)
 |[],b=>by have:=Pz b;show Kh b=max 0 (Kh b);lia|i::a,b=>by show max i (Kh (a++b))=max (max i (Kh a)) (Kh b);rw[I9 a b];lia
theorem Ti:∀ (l:List Int) (i:Int),0<=i->l.foldl max i=max i (Kh l)
 |[],i,h=>by show i=max i 0;lia|j::l,i,h=>by rw[pR,Ti l (max i j) (by lia)];show max (max i j) (Kh l)=max i (max j (Kh l));lia
theorem alb (l:List Int) (h:∀ i∈l,0<=i):mx l=Kh l:=by
 cases l with
 |nil=>rfl|cons i l=>exact Ti l i (h i (by simp))
theorem aeO (r:List Itm):mx (X4 r)=Kh (gf [] r):=by rw[alb _ (akk r),akl]
theorem LC:∀ (B A C:List Itm),gf A (B++C)=gf A B++gf (A++B) C
 |[],A,C=>by simp[gf]|x::B,A,C=>by simp[gf,LC B (A++[x]) C]
def Adj (r:List Itm):Prop:=∀ i (h:i+1<r.length),iY (r[i+1]'h) (r[i]'(by lia))=false
theorem U8 (h:jL r):Adj r:=fun i hi=>(Xc.mp h) i (i+1) (by lia) hi (by lia)
open PySem
def vV:dh:=fun ds μ Q=>∃ r:List Itm,ds=[.lst (r.map aK)]/\r.length<64/\Q (.loc μ.length) (μ++[.lst ((FW r).map aK)])
def zQ:List Str:=["row"]
def Ae:Ss:=(.cons (.ret (.blt "msorted" (.cons (.var 0) .nil))) .nil)
theorem Qc:Keeps zQ Ae vV:=by rintro ds μ Q ⟨r,rfl,hl,h⟩;simp[Ae,zQ,aD,bI,wSs,wS,wE,wEs,bO,cB,aC];refine⟨r,rfl,hl,fun r' p o=>?_⟩;rw[aiV p o];simpa[newL]using h
end DW
namespace DW.Ue
open PySem DW
end DW.Ue
namespace DW
open PySem DW.Ue
mutual
noncomputable def good (μ:Mem):D->Bool
 | .str x=>x.all (·<1114112)| .tup ds=>afj μ ds| .lst ds=>afj μ ds| .jN _ _=>false| .loc n=>afF μ n| .ro _=>false|_=>true
noncomputable def afj (μ:Mem):List D->Bool
 |[]=>true|d::ds=>good μ d&&afj μ ds
end
def letter (c:Nat):Bool:=decide (97<=c)&&decide (c<=122)
theorem aaL (h:cA x):flat 60 (aK x)=true:=by
 have:∀ t∈tags,t.all (·<1114112)=true:=by decide
 have:=this _ h.2;simp[aK,flat,flats];simpa using this
end DW
namespace DW
open PySem
def yE:D->Bool
 | .str t=>decide (t.length<=8)&&t.all letter|_=>false
def eY:dh:=fun ds μ Q=>match ds with|[.int _]=>Q (.bl true) μ|[.loc n]=>afF μ n=true/\Q (.bl false) μ|[.ro _]=>False|[_]=>Q (.bl false) μ|_=>False
def Bq:dh:=fun ds μ Q=>∃ d,ds=[d]/\good μ d=true/\Q (.bl (yE d)) μ
def Xr:List Str:=["thing"]
def XQ:Ss:=(.cons (.ret (.and (.isin (.var 0) "int") (.not (.isin (.var 0) "bool")))) .nil)
def RJ:List Str:=["thing"]
def SX:Ss:=(.cons (.ite (.or (.not (.isin (.var 0) "str")) (.cmp .Gt (.blt "len" (.cons (.var 0) .nil)) (.gbl "MOST_LETTERS" (.int 8)))) (.cons (.ret (.cst (.bl false))) .nil) .nil) (.cons (.ret (.blt "all" (.cons (.comp false 1 false [] (.chain .LtE .LtE (.cst (.str [97])) (.var 0) (.cst (.str [122]))) (.seq (.var 0)) .nil) .nil))) .nil))
theorem XD:Keeps Xr XQ eY:=by have e:eY=Br:=rfl;rw[e];exact ae6
theorem ae4:Keeps RJ SX Bq:=by
 rintro ds μ Q ⟨d,rfl,hg,h⟩;simp only[SX,RJ,aD,bI,wSs,wS,wT,wE,wEs,wI,wTs,aX,aV,bA,aL,bh,aM,aJ];cases d with
 |str t=>
  have ht:t.all (·<1114112)=true:=by simpa[good]using hg
  simp only[sH,tyOf,Kv,fU,bO,lenOf,cM,yE]at h ⊢;simp;by_cases h8:t.length<=8
  .have h8':¬(8<t.length):=by lia
   (have akj:¬(8:Int)<t.length:=by lia);rw[decide_eq_true h8,lZ]at h;simp[h8',akj];simp only[lO,chars];refine dF _ (fun c=>D.bl (letter c)) trivial _ _ ?_ ?_
   .intro c _ Y N q
    have e1:(!dI [c] [97])=decide (97<=c):=by
     have z:dI [c] [97]=decide (c<97):=by
      simp only[dI];by_cases e:c=97
      .subst e;decide
      .rw[if_neg e]
     rw[z];by_cases q:c<97
     .have:¬97<=c:=by lia
      simp[q]
     .have:97<=c:=by lia
      simp[q,this]
    have e2:(!dI [122] [c])=decide (c<=122):=by
     have z:dI [122] [c]=decide (122<c):=by
      simp only[dI];by_cases e:122=c
      .subst e;decide
      .rw[if_neg e]
     rw[z];by_cases q:122<c
     .have:¬c<=122:=by lia
      simp[q]
     .have:c<=122:=by lia
      simp[q,this]
    simp only[bindC,if_true,aJ,e1,e2];(have e3:dI [c] [97]= !decide (97<=c):=by rw[<-e1];simp);rw[e3];by_cases q1:97<=c
    .simp[q1]
     simpa[letter,q1]using q
    .simp[q1]
     simpa[letter,q1]using q
   .have ea:∀ l:List Nat,allB (l.map fun c=>D.bl (letter c))=some (l.all letter):=by
     intro l;induction l with
     |nil=>rfl|cons c l ih=>simp[allB,ih]
    simp[newL,cB,aC,ea];exact h
  .have h8':8<t.length:=by lia
   (have akj:(8:Int)<t.length:=by lia);rw[decide_eq_false h8]at h;simpa[h8',akj]using h
 |loc n=>simp only[good]at hg;simpa[sH,afD hg,Kv,fU,yE]using h|ro n=>simp[good]at hg|jN n m=>simp[good]at hg|_=>simpa[sH,tyOf,Kv,fU,yE]using h
open DW.Ue
structure LL (μ:Mem) (b n:Nat) (ls:List Nat) (rs:List (List Itm)):Prop where
 lo:b<=n
 at_:μ[n]?=some (.lst (ls.map D.loc))
 len:ls.length=rs.length
 sub:∀ l∈ls,b<=l/\l≠n
 row:∀ (i l:Nat) (r:List Itm),ls[i]?=some l->rs[i]?=some r->μ[l]?=some (.lst (r.map aK))
theorem LL.app (h:LL μ b n ls rs) (ν:Mem):LL (μ++ν) b n ls rs:=
 ⟨h.lo,by rw[fQ (cj.mp h.at_).1];exact h.at_,h.len,h.sub,fun i l r h1 h2=>by have:=h.row i l r h1 h2;rw[fQ (cj.mp this).1];exact this⟩
def lq (rs:List (List Itm)):List D:=rs.map fun r=>.lst (r.map aK)
theorem RQ {α β:Type} {l:List α} {m:List β} {p:α×β} (h:p∈l.zip m):∃ i:Nat,l[i]?=some p.1/\m[i]?=some p.2:=by
 obtain⟨i,hi,rfl⟩:=CK.mp h;refine⟨i,?_⟩;have h1:i<l.length/\i<m.length:=by simp at hi;lia
 simp[h1.1,h1.2]
def gw (st:List (List Itm)) (x:Itm):List (List Itm):=match st.getLast? with|none=>st++[[x]]|some l=>match l.getLast? with|none=>st++[[x]]|some y=>if iY x y=true then st++[[x]]else st.dropLast++[l++[x]]
def bF (r:List Itm):List (List Itm):=r.foldl gw []
theorem QB (st:List (List Itm)) (x:Itm):∃ a l,gw st x=a++[l++[x]]:=by
 unfold gw;split
 .exact⟨st,[],by simp⟩
 .rename_i l hl
  split
  .exact⟨st,[],by simp⟩
  .split
   .exact⟨st,[],by simp⟩
   .exact⟨st.dropLast,l,rfl⟩
theorem yL (a:List (List Itm)) (l:List Itm) (y x:Itm):gw (a++[l++[y]]) x=if iY x y=true then a++[l++[y]]++[[x]]else a++[l++[y]++[x]]:=by simp[gw]
theorem TP (st:List (List Itm)) (x:Itm):(gw st x).length<=st.length+1/\(gw st x).flatten=st.flatten++[x]:=by
 unfold gw;split
 .simp
 .rename_i l hl
  split
  .simp
  .split
   .simp
   .obtain⟨a,rfl⟩:=List.getLast?_eq_some_iff.mp hl
    simp
theorem lC (r:List Itm) (x:Itm):bF (r++[x])=gw (bF r) x:=by simp[bF]
theorem snoc_ind {α:Type} {P:List α->Prop} (h0:P []) (h1:∀ l x,P l->P (l++[x])) (l:List α):P l:=by
 have:∀ l:List α,P l.reverse:=by
  intro l;induction l with
  |nil=>exact h0|cons x l ih=>rw[List.reverse_cons];exact h1 _ _ ih
 have:=this l.reverse;rwa[List.reverse_reverse]at this
theorem jg (r:List Itm):(bF r).length<=r.length/\(bF r).flatten=r:=by refine snoc_ind (P:=fun r=>(bF r).length<=r.length/\(bF r).flatten=r) (by simp[bF]) (fun r x ih=>?_) r;rw[lC];obtain⟨h1,h2⟩:=TP (bF r) x;refine⟨by simp;lia,by rw[h2,ih.2]⟩
theorem um (r:List Itm) (y:Itm):∃ a l,bF (r++[y])=a++[l++[y]]:=by rw[lC];exact QB _ _
theorem yj (h:l∈bF r):∀ x∈l,x∈r:=fun x hx=>by rw[<-(jg r).2];exact List.mem_flatten.mpr ⟨l,h,hx⟩
theorem Qi (xs:List α) (x:α):(n6 (xs++[x]).length (-1)).bind ((xs++[x])[·]?)=some x:=by
 have e:n6 (xs++[x]).length (-1)=some xs.length:=by
  have h1:¬(0:Int)<=-1:=by decide
  have h2: -(((xs++[x]).length:Nat):Int)<=-1:=by simp;lia
  have h3:((-1:Int)+((xs++[x]).length:Int)).toNat=xs.length:=by simp;lia
  simp only[n6,h1,h2,if_true,if_false,h3]
 rw[e];simp
end DW
namespace DW
open PySem
theorem abB (μ:Mem) (n:Nat) (ds:List D):eN μ (n+1) (.tup ds)= .tup (ds.map (eN μ n)):=rfl
theorem GJ (μ:Mem) (n:Nat) (ds:List D):eN μ (n+1) (.lst ds)= .lst (ds.map (eN μ n)):=rfl
theorem GK (h:μ[k]?=some (.lst ds)) (n:Nat):eN μ (n+1) (.loc k)= .lst (ds.map (eN μ n)):=by show(match μ[k]? with|some (.lst ds)=>D.lst (ds.map (eN μ n))|_=>.loc k)=_;rw[h]
theorem abD (μ:Mem) (n:Nat) (i:Int):eN μ n (.int i)= .int i:=by cases n<;>rfl
theorem abC (μ:Mem) (n:Nat) (x:List Nat):eN μ n (.str x)= .str x:=by cases n<;>rfl
theorem YK (μ:Mem) (n:Nat) (x:Itm):eN μ n (aK x)=aK x:=by
 cases n with
 |zero=>rfl|succ n=>simp[aK,abB,abD,abC]
theorem Rc (μ:Mem) (n:Nat) (f:α->D) (h:∀ x,eN μ n (f x)=f x) (l:List α):(l.map f).map (eN μ n)=l.map f:=by rw[oG];exact Im fun x _=>h x
theorem abd (h1:flat 60 x=true) (h2:flat 60 y=true) (h:Q (.bl (!lN x y)) μ):cM .NotEq x y μ Q:=by
 unfold cM;cases x with
 |loc n=>simp[flat]at h1|_=>exact⟨h1,h2,h⟩
end DW
namespace DW.K25
open PySem DW DW.Ue
def dZ:dh:=fun ds μ Q=>∃ m:Int,ds=[.int m]/\1<=m/\m<=50/\Q .non μ
def jB:List Str:=["thing"]
def jG:Ss:=(.cons (.ite (.or (.not (.call "is_whole" eY (.cons (.var 0) .nil))) (.not (.chain .LtE .LtE (.cst (.int 1)) (.var 0) (.gbl "MOST_ROOM" (.int 50))))) (.cons .Xn .nil) .nil) .nil)
theorem rA:Keeps jB jG dZ:=by rintro ds μ Q ⟨m,rfl,h1,h2,h⟩;simpa[jG,jB,aD,bI,wSs,wS,wT,wE,wEs,eY,fU,cM,fM,truth,h1,h2]using h
end DW.K25
namespace DW.CHO
open PySem DW DW.Ue DW.K25
noncomputable abbrev Tk:=Option Itm
def wU:Tk->D
 |none=>.tup [.str [101,110,100]]|some x=>.tup [.str [111,117,116],aK x]
def Jd:Option Itm->D
 |none=>.non|some x=>aK x
structure Ch where
 room:Nat
 kept:List Itm
 last:Option Itm
def Em (last:Option Itm) (x:Itm):Bool:=match last with|none=>true|some l=>!iY x l
def Dd (a:Itm) (l:List Itm):Itm:=l.foldl (fun a x=>if iY x a=true then x else a) a
def bJ (l:List Itm):Itm:=match l with|[]=>(0,[])|a::r=>Dd a (a::r)
def able (c:Ch):List Itm:=c.kept.filter (Em c.last)
def src (c:Ch):List Itm:=if able c=[]then c.kept else able c
def outF (c:Ch):List Tk×Ch:=((if able c=[]then [none]else [])++[some (bJ (src c))],⟨c.room,c.kept.erase (bJ (src c)),some (bJ (src c))⟩)
def gk (c:Ch) (x:Itm):List Tk×Ch:=if c.kept.length=c.room then((outF c).1,⟨c.room,(outF c).2.kept++[x],(outF c).2.last⟩)else([],⟨c.room,c.kept++[x],c.last⟩)
def jJ:Nat->Ch->List Tk×Ch
 |0,c=>([],c)|n+1,c=>if c.kept=[]then([],c)else((outF c).1++(jJ n (outF c).2).1,(jJ n (outF c).2).2)
def vM (c:Ch):List Tk×Ch:=(if(jJ c.kept.length c).1=[]then []else(jJ c.kept.length c).1++[none],⟨c.room,[],none⟩)
theorem oR:∀ (l:List Itm) (a:Itm),(Dd a l=a∨Dd a l∈l)/\iY a (Dd a l)=false/\∀ z∈l,iY z (Dd a l)=false
 |[],a=>⟨.inl rfl,zY a,by simp⟩|x::l,a=>by
  unfold Dd;rw[pR];by_cases c:iY x a=true
  .rw[if_pos c]
   obtain⟨h1,h2,h3⟩:=oR l x;refine⟨.inr ?_,?_,?_⟩
   .rcases h1 with h1|h1
    .exact bC.mpr (.inl h1)
    .exact bC.mpr (.inr h1)
   .exact j9 _ _ _ h2 (zZ _ _ c)
   .intro z hz
    rcases bC.mp hz with rfl|hz
    .exact h2
    .exact h3 z hz
  .rw[if_neg c]
   obtain⟨h1,h2,h3⟩:=oR l a;refine⟨?_,h2,?_⟩
   .rcases h1 with h1|h1
    .exact .inl h1
    .exact .inr (bC.mpr (.inr h1))
   .intro z hz
    rcases bC.mp hz with rfl|hz
    .exact j9 _ _ _ h2 (by simpa using c)
    .exact h3 z hz
theorem Ls (h:l≠[]):bJ l∈l:=by
 cases l with
 |nil=>exact absurd rfl h|cons a r=>
  rcases(oR (a::r) a).1 with q|q
  .exact bC.mpr (.inl q)
  .exact q
theorem least_le (h:l≠[]):∀ z∈l,iY z (bJ l)=false:=by
 cases l with
 |nil=>exact absurd rfl h|cons a r=>exact(oR (a::r) a).2.2
theorem RZ (hy:y∈l) (h:∀ z∈l,iY z y=false):y=bJ l:=by
 have hne:l≠[]:=fun e=>by subst e;simp at hy
 exact Zi _ _ (least_le hne y hy) (h _ (Ls hne))
theorem MN (h:c.kept≠[]):src c≠[]:=by
 unfold src;split
 .exact h
 .assumption
theorem agx:∀ x∈src c,x∈c.kept:=by
 unfold src;split
 .exact fun x hx=>hx
 .exact fun x hx=>(Cr.mp hx).1
theorem zN (h:c.kept≠[]):bJ (src c)∈c.kept:=agx _ (Ls (MN h))
theorem kI (h:c.kept≠[]):(outF c).2.kept.length+1=c.kept.length:=by have:=List.length_erase_of_mem (zN h);have:=WX.mpr h;simp only[outF];lia
def Wf (c:Ch):Prop:=1<=c.room/\c.room<=50/\c.kept.length<=c.room/\(c.kept=[]->c.last=none)/\(∀ x∈c.kept,cA x)/\∀ x,c.last=some x->cA x
def lE (μ:Mem) (n:Nat) (c:Ch):Prop:=μ[n]?=some (.ins "Chooser" [("room",.int (c.room:Int)),("kept",.loc (n+1)),("last",Jd c.last)])/\μ[n+1]?=some (.lst (c.kept.map aK))
def Fr (μ μ':Mem) (n:Nat):Prop:=μ.length<=μ'.length/\∀ i,i<μ.length->i≠n->i≠n+1->μ'[i]?=μ[i]?
theorem Fr.refl (μ:Mem) (n:Nat):Fr μ μ n:=⟨aB _,fun _ _ _ _=>rfl⟩
theorem Fr.trans (a:Fr μ μ' n) (b:Fr μ' Ug n):Fr μ Ug n:=⟨jR a.1 b.1,fun i h1 h2 h3=>by rw[b.2 i (jT h1 a.1) h2 h3,a.2 i h1 h2 h3]⟩
theorem Fr.push (a:Fr μ μ' n) (c:Cell):Fr μ (μ' ++[c]) n:=⟨by have:=a.1;simp;lia,fun i h1 h2 h3=>by rw[fQ (jT h1 a.1)];exact a.2 i h1 h2 h3⟩
theorem Fr.set (a:Fr μ μ' n) (c:Cell) (h:μ.length<=t∨t=n∨t=n+1):Fr μ (μ'.set t c) n:=⟨by have:=a.1;simp;lia,fun i h1 h2 h3=>by rw[cW (by lia)];exact a.2 i h1 h2 h3⟩
theorem lE.push (h:lE μ n c) (x:Cell):lE (μ++[x]) n c:=by obtain⟨h1,h2⟩:=h;exact⟨by rw[fQ (cj.mp h1).1];exact h1,by rw[fQ (cj.mp h2).1];exact h2⟩
theorem lE.other (h:lE μ n c) (x:Cell) (h1:t≠n) (h2:t≠n+1):lE (μ.set t x) n c:=⟨by rw[cW h1];exact h.1,by rw[cW h2];exact h.2⟩
theorem qu (h:lE μ n c) (q:Q (.loc (n+1)) μ):gY "Chooser" "kept" (.loc n) μ Q:=by simpa[gY,dB,h.1,bB]using q
theorem afs (h:lE μ n c) (q:Q (.int (c.room:Int)) μ):gY "Chooser" "room" (.loc n) μ Q:=by simpa[gY,dB,h.1,bB]using q
theorem Aq (h:lE μ n c) (q:Q (Jd c.last) μ):gY "Chooser" "last" (.loc n) μ Q:=by simpa[gY,dB,h.1,bB]using q
theorem Rr (h:lE μ n c) (q:∀ μ',μ'=μ.set n (.ins "Chooser" [("room",.int (c.room:Int)),("kept",.loc (n+1)),("last",Jd l)])->lE μ' n ⟨c.room,c.kept,l⟩->k μ'):kZ "Chooser" "last" (.loc n) (Jd l) μ k:=by have hl:=(cj.mp h.1).1;have:=q _ rfl ⟨by rw[eF hl],by rw[cW (by lia)];exact h.2⟩;simpa[kZ,dB,h.1,putD]using this
theorem uH (h:lE μ n c) (h1:m≠"room") (h2:m≠"kept") (h3:m≠"last"):gP μ "Chooser" m (.loc n):=by simp[gP,dB,h.1,bB,bK h1,bK h2,bK h3]
def rO:dh:=fun ds μ Q=>∃ (μ0:Mem) (m:Nat),ds=[.loc μ0.length,.int (m:Int)]/\μ=μ0++[.ins "Chooser" []]/\1<=m/\m<=50/\Q .non (μ0++[.ins "Chooser" [("room",.int (m:Int)),("kept",.loc (μ0.length+1)),("last",.non)],.lst []])
def oA:dh:=fun ds μ Q=>∃ (n:Nat) (x:Itm) (c:Ch),ds=[.loc n,aK x]/\lE μ n c/\Q (.bl (Em c.last x)) μ
def iZ:dh:=fun ds μ Q=>∃ (n:Nat) (c:Ch),ds=[.loc n]/\lE μ n c/\c.kept≠[]/\c.kept.length<=50/\∀ μ' t,Fr μ μ' n->lE μ' n (outF c).2->μ.length<=t->μ'[t]?=some (.lst ((outF c).1.map wU))->Q (.loc t) μ'
def rP:dh:=fun ds μ Q=>∃ (n:Nat) (x:Itm) (c:Ch),ds=[.loc n,aK x]/\lE μ n c/\Wf c/\∀ μ' t,Fr μ μ' n->lE μ' n (gk c x).2->μ.length<=t->μ'[t]?=some (.lst ((gk c x).1.map wU))->Q (.loc t) μ'
def oE:dh:=fun ds μ Q=>∃ (n:Nat) (c:Ch),ds=[.loc n]/\lE μ n c/\Wf c/\∀ μ' t,Fr μ μ' n->lE μ' n (vM c).2->μ.length<=t->μ'[t]?=some (.lst ((vM c).1.map wU))->Q (.loc t) μ'
def uD:List Str:=["self","room"]
def uQ:Ss:=(.cons (.exp (.call "check_room" dZ (.cons (.var 1) .nil))) (.cons (.pN "Chooser" "room" (.var 0) (.var 1)) (.cons (.pN "Chooser" "kept" (.var 0) (.lst true .nil)) (.cons (.pN "Chooser" "last" (.var 0) (.cst .non)) .nil))))
def uE:List Str:=["self","item","told"]
def uR:Ss:=(.cons (.set 2 (.lst true .nil)) (.cons (.ite (.cmp .Eq (.blt "len" (.cons (.fld "Chooser" "kept" (.var 0)) .nil)) (.fld "Chooser" "room" (.var 0))) (.cons (.set 2 (.q9 "Chooser" "let_out" iZ (.var 0) .nil)) .nil) .nil) (.cons (.exp (.meth "append" (.fld "Chooser" "kept" (.var 0)) (.cons (.var 1) .nil))) (.cons (.ret (.var 2)) .nil))))
def qb:List Str:=["self","told"]
def qt:Ss:=(.cons (.set 1 (.lst true .nil)) (.cons (.whl (.fld "Chooser" "kept" (.var 0)) (.cons (.exp (.meth "extend" (.var 1) (.cons (.q9 "Chooser" "let_out" iZ (.var 0) .nil) .nil))) .nil)) (.cons (.ite (.var 1) (.cons (.exp (.meth "append" (.var 1) (.cons (.tup (.cons (.cst (.str [101,110,100])) .nil)) .nil))) .nil) .nil) (.cons (.pN "Chooser" "last" (.var 0) (.cst .non)) (.cons (.ret (.var 1)) .nil)))))
def oO:List Str:=["self","told","able"]
def oX:Ss:=(.cons (.set 1 (.lst true .nil)) (.cons (.set 2 (.comp false 1 false [0] (.var 0) (.seq (.fld "Chooser" "kept" (.var 0))) (.cons (.q9 "Chooser" "may_go" oA (.var 1) (.cons (.var 0) .nil)) .nil))) (.cons (.ite (.not (.var 2)) (.cons (.exp (.meth "append" (.var 1) (.cons (.tup (.cons (.cst (.str [101,110,100])) .nil)) .nil))) (.cons (.set 2 (.fld "Chooser" "kept" (.var 0))) .nil)) .nil) (.cons (.pN "Chooser" "last" (.var 0) (.aaH (.cons (.var 2) .nil))) (.cons (.exp (.rmv (.fld "Chooser" "kept" (.var 0)) (.cons (.fld "Chooser" "last" (.var 0)) .nil))) (.cons (.exp (.meth "append" (.var 1) (.cons (.tup (.cons (.cst (.str [111,117,116])) (.cons (.fld "Chooser" "last" (.var 0)) .nil))) .nil))) (.cons (.ret (.var 1)) .nil)))))))
def p8:List Str:=["self","item"]
def qp:Ss:=(.cons (.ret (.or (.cmp .Is (.fld "Chooser" "last" (.var 0)) (.cst .non)) (.not (.call "less" u6 (.cons (.var 1) (.cons (.fld "Chooser" "last" (.var 0)) .nil)))))) .nil)
theorem Jm:Keeps uD uQ rO:=by rintro ds μ Q ⟨μ0,m,rfl,rfl,h1,h2,h⟩;simp only[uQ,uD,aD,bI,wSs,wS,wE,wEs,newL,lim,aX,aV,bA,aL,bh,aM,aJ,aZ];refine⟨m,rfl,by lia,by lia,?_⟩;simp[kZ,dB,putD];simpa using h
theorem Dk:Keeps p8 qp oA:=by
 rintro ds μ Q ⟨n,x,c,rfl,hc,h⟩;simp only[qp,p8,aD,bI,wSs,wS,wE,wEs,aX,aV,bA,aL,bh,aM,aJ,aZ];refine Aq hc ?_;cases hl:c.last with
 |none=>rw[hl]at h;simpa[Jd,cM,oV,fU,Em]using h|some l=>rw[hl]at h;simp[Jd,cM,oV,aK,fU];refine Aq hc ?_;rw[hl];refine⟨x,l,rfl,?_⟩;simpa[Em]using h
theorem Dz (h:μ[t]?=some (.lst (l.map wU))) (hl:l.length<1000) (q:Q .non (μ.set t (.lst ((l++[x]).map wU)))):dj "append" (.loc t) [wU x] μ Q:=by simp only[dj,h,bT,aR];exact⟨by simp only[lim];lia,by simpa using q⟩
theorem Ab:Keeps oO oX iZ:=by
 rintro ds μ Q ⟨n,c,rfl,hc,hne,hl,h⟩;have hn1:n+1<μ.length:=(cj.mp hc.2).1;simp only[oX,oO,aD,bI,wSs,wS,wE,wEs,wI,newL,lim,aX,aV,bA,aL,bh,aM,aJ,aZ,bD,bY,bW,ud];refine⟨by lia,?_⟩;have f1:Fr μ (μ++[Cell.lst []]) n:=(Fr.refl μ n).push _;have c1:=hc.push (Cell.lst []);have t1:(μ++[Cell.lst []])[μ.length]?=some (.lst (([]:List Tk).map wU)):=by simp
 generalize μ++[Cell.lst []]=μ1 at f1 c1 t1;refine qu c1 ?_;simp only[lO,c1.2];refine gB aK (Em c.last) aK c1.2 _ _ ?_ ?_
 .intro x hx Y N z
  simp only[bindC,wTs,wT,wE,wEs,aJ,aZ];refine⟨uH c1 (by decide) (by decide) (by decide),n,x,c,rfl,c1,?_⟩;simpa[fM,truth]using z
 .have ea:c.kept.filter (Em c.last)=able c:=rfl
  rw[aM,ea];simp only[wT,fM,truth,lenOf,aC,gF,aR,aJ,aZ];have fin:∀ (μ2:Mem) (tk:List Tk) (a:D),Fr μ μ2 n->lE μ2 n c->μ2[μ.length]?=some (.lst (tk.map wU))->tk.length<10->cB μ2 a=some ((src c).map aK)->tk++[some (bJ (src c))]=(outF c).1->
    QZ [a] μ2 fun v μ1=>kZ "Chooser" "last" (.loc n) v μ1 fun μ3=>gY "Chooser" "kept" (.loc n) μ3 fun x μ1=>Sx μ1 x=true/\gY "Chooser" "last" (.loc n) μ1 fun d μ1=>abb x [d] μ1 fun d μ1=>isCell μ1 (.loc μ.length)=true/\gY "Chooser" "last" (.loc n) μ1 fun d μ1=>[D.str [111,117,116],d].length<=16777216/\dj "append" (.loc μ.length) [.tup [.str [111,117,116],d]] μ1 fun d μ1=>Q (.loc μ.length) μ1:=by
   intro μ2 tk a f2 c2 t2 tl ha et;simp only[QZ,ha];refine⟨src c,rfl,MN hne,fun y hy hle=>?_⟩;have ey:=RZ hy hle;subst ey;refine Rr (l:=some (bJ (src c))) c2 fun μ3 e3 c3=>?_;(have f3:Fr μ μ3 n:=by rw[e3];exact f2.set _ (.inr (.inl rfl)));(have t3:μ3[μ.length]?=some (.lst (tk.map wU)):=by rw[e3,cW (by lia)];exact t2);clear e3;refine qu c3 ⟨by simp[Sx,c3.2],Aq c3 ?_⟩;simp only[abb,c3.2];refine⟨c.kept,bJ (src c),rfl,rfl,zN hne,?_⟩;(have hn3:n+1<μ3.length:=by have:=f3.1;lia);have c4:lE (μ3.set (n+1) (Cell.lst ((c.kept.erase (bJ (src c))).map aK))) n (outF c).2:=⟨by rw[cW (by lia)];exact c3.1,by rw[eF hn3];rfl⟩;have f4:Fr μ (μ3.set (n+1) (Cell.lst ((c.kept.erase (bJ (src c))).map aK))) n:=f3.set _ (.inr (.inr rfl));(have t4:(μ3.set (n+1) (Cell.lst ((c.kept.erase (bJ (src c))).map aK)))[μ.length]?=some (.lst (tk.map wU)):=by rw[cW (by lia)];exact t3);generalize μ3.set (n+1) (Cell.lst ((c.kept.erase (bJ (src c))).map aK))=μ4 at c4 f4 t4;refine⟨by simp[isCell,t4],Aq c4 ⟨by simp,?_⟩⟩;refine Dz (x:=some (bJ (src c))) t4 (by lia) ?_;have hm4:μ.length<μ4.length:=(cj.mp t4).1;refine h _ _ (f4.set _ (.inl (aB _))) (c4.other _ (by lia) (by lia)) (aB _) ?_;rw[eF hm4,et]
  by_cases ce:able c=[]
  .have e0:((able c).length !=0)=false:=by rw[ce];rfl
   simp only[e0,rQ,if_true,wSs,wS,wE,wEs,aJ,aZ,isCell,t1,true_and];refine⟨by decide,?_⟩;refine Dz (x:=none) t1 (by decide) ?_;have hm1:μ.length<μ1.length:=(cj.mp t1).1;have c2:=c1.other (t:=μ.length) (Cell.lst (([]++[none]:List Tk).map wU)) (by lia) (by lia);have f2:=f1.set (t:=μ.length) (Cell.lst (([]++[none]:List Tk).map wU)) (.inl (aB _));(have t2:(μ1.set μ.length (Cell.lst (([]++[none]:List Tk).map wU)))[μ.length]?=some (.lst (([none]:List Tk).map wU)):=by rw[eF hm1];rfl);generalize μ1.set μ.length (Cell.lst (([]++[none]:List Tk).map wU))=μ2 at c2 f2 t2;refine qu c2 ?_;refine fin μ2 [none] (.loc (n+1)) f2 c2 t2 (by decide) (by simp[cB,aC,c2.2,src,ce]) (by simp[outF,ce])
  .have e0:((able c).length !=0)=true:=by
    cases q:able c with
    |nil=>exact absurd q ce|cons a r=>rfl
   simp only[e0,pO,bZ,if_false,wSs,wS,wE,wEs,aJ,aZ];refine fin μ1 [] (.lst ((able c).map aK)) f1 c1 t1 (by decide) (by simp[cB,aC,src,ce]) (by simp[outF,ce])
theorem Jo:Keeps uE uR rP:=by
 rintro ds μ Q ⟨n,x,c,rfl,hc,hw,h⟩;obtain⟨w1,w2,w3,w4,w5,w6⟩:=hw;have hn1:n+1<μ.length:=(cj.mp hc.2).1;simp only[uR,uE,aD,bI,wSs,wS,wT,wE,wEs,newL,lim,aX,aV,bA,aL,bh,aM,aJ,aZ,bD,bY,bW];refine⟨by lia,?_⟩;have f1:Fr μ (μ++[Cell.lst []]) n:=(Fr.refl μ n).push _;have c1:=hc.push (Cell.lst []);have t1:(μ++[Cell.lst []])[μ.length]?=some (.lst (([]:List Tk).map wU)):=by simp
 generalize μ++[Cell.lst []]=μ1 at f1 c1 t1;refine qu c1 ?_;simp only[bO,lenOf,aC,c1.2,gF,aR];refine afs c1 ?_;simp only[cM,flat,true_and,fU];have fin:∀ (μ2:Mem) (t:Nat) (tk:List Tk) (k:List Itm) (la:Option Itm),Fr μ μ2 n->lE μ2 n ⟨c.room,k,la⟩->k.length<=50->μ.length<=t->μ2[t]?=some (.lst (tk.map wU))->gk c x=(tk,⟨c.room,k++[x],la⟩)->
   gY "Chooser" "kept" (.loc n) μ2 fun x_1 μ1=>isCell μ1 x_1=true/\dj "append" x_1 [aK x] μ1 fun d μ1=>Q (.loc t) μ1:=by
  intro μ2 t tk k la f2 c2 kl ht t2 eg;refine qu c2 ⟨by simp[isCell,c2.2],?_⟩;have hn2:n+1<μ2.length:=by have:=f2.1;lia
  simp only[dj,c2.2,bT,aR];refine⟨by simp only[lim];lia,?_⟩;refine h _ t (f2.set _ (.inr (.inr rfl))) ?_ ht ?_
  .rw[eg]
   exact⟨by rw[cW (by lia)];exact c2.1,by rw[eF hn2];simp⟩
  .rw[eg,cW (by lia)];exact t2
 by_cases ce:c.kept.length=c.room
 .have e0:lN (.int (c.kept.length:Int)) (.int (c.room:Int))=true:=by simp[lN,ce]
  have hne:c.kept≠[]:=fun z=>by rw[z]at ce;simp at ce;lia
  simp only[e0,if_true,wSs,wS,wE,wEs,aJ,aZ];refine⟨uH c1 (by decide) (by decide) (by decide),n,c,rfl,c1,hne,by lia,fun μ2 t f2 c2 ht t2=>?_⟩;have ol:=kI hne;exact fin μ2 t _ (outF c).2.kept (outF c).2.last (f1.trans f2) c2 (by lia) (by have:=f1.1;lia) t2 (by simp only[gk,ce,if_true])
 .have e0:lN (.int (c.kept.length:Int)) (.int (c.room:Int))=false:=by simp only[lN];(have:¬((c.kept.length:Int)=(c.room:Int)):=by lia);simpa using this
  simp only[e0,bZ,if_false,wSs];exact fin μ1 μ.length [] _ _ f1 c1 (by lia) (aB _) t1 (by simp only[gk,ce,if_false])
theorem JC:∀ (m:Nat) (c:Ch),c.kept.length<=m->(jJ m c).1.length<=2*c.kept.length/\(jJ m c).2.kept=[]/\((jJ m c).2.room=c.room)
 |0,c,h=>by have:c.kept=[]:=zJ.mp (by lia);simp[jJ,this]|m+1,c,h=>by
  simp only[jJ];by_cases e:c.kept=[]
  .rw[if_pos e];exact⟨by simp,e,rfl⟩
  .rw[if_neg e]
   have ol:=kI e;obtain⟨i1,i2,i3⟩:=JC m (outF c).2 (by lia);refine⟨?_,i2,by rw[i3];rfl⟩;(have:(outF c).1.length<=2:=by simp only[outF];split<;>simp);rw[gG];lia
theorem Dl:Keeps qb qt oE:=by
 rintro ds μ Q ⟨n,c,rfl,hc,hw,h⟩;obtain⟨w1,w2,w3,w4,w5,w6⟩:=hw;have hn1:n+1<μ.length:=(cj.mp hc.2).1;have fl:=JC c.kept.length c (aB _);simp only[qt,qb,aD,bI,wSs,wS,wE,wEs,newL,lim,aX,aV,bA,aL,bh,aM,aJ,aZ,bD,bY,bW];refine⟨by lia,?_⟩;have f1:Fr μ (μ++[Cell.lst []]) n:=(Fr.refl μ n).push _;have c1:=hc.push (Cell.lst []);have t1:(μ++[Cell.lst []])[μ.length]?=some (.lst (([]:List Tk).map wU)):=by simp
 generalize μ++[Cell.lst []]=μ1 at f1 c1 t1;refine⟨fun M ρ μ'=>∃ (c':Ch) (tk:List Tk),M=c'.kept.length/\c'.kept.length<=50/\c'.room=c.room/\Fr μ μ' n/\lE μ' n c'/\μ'[μ.length]?=some (.lst (tk.map wU))/\tk++(jJ M c').1=(jJ c.kept.length c).1/\ρ=[some (.loc n),some (.loc μ.length)],
  ⟨_,c,[],rfl,by lia,rfl,f1,c1,t1,rfl,rfl⟩,?_⟩
 rintro M ρ μ' ⟨c',tk,rfl,hl,er,f2,c2,t2,et,rfl⟩;simp only[wT,wE,aJ];refine qu c2 ?_;simp only[fM,truth,lenOf,aC,c2.2,gF,aR];by_cases ce:c'.kept=[]
 .have e0:(c'.kept.length !=0)=false:=by rw[ce];rfl
  simp only[e0,bZ,if_false,wSs,wS,wT,wE,wEs,aJ,aZ,fM,truth,lenOf,aC,t2,gF,aR];have et':tk=(jJ c.kept.length c).1:=by
   rw[<-et];cases q:c'.kept.length with
   |zero=>simp[jJ]|succ k=>rw[ce]at q;simp at q
  have hm2:μ.length<μ'.length:=(cj.mp t2).1;have fin:∀ (μ3:Mem),Fr μ μ3 n->lE μ3 n c'->μ3[μ.length]?=some (.lst ((vM c).1.map wU))->kZ "Chooser" "last" (.loc n) .non μ3 fun μ3=>Q (.loc μ.length) μ3:=by intro μ3 f3 c3 t3;refine Rr (l:=none) c3 fun μ4 e4 c4=>?_;refine h μ4 μ.length (by rw[e4];exact f3.set _ (.inr (.inl rfl))) ?_ (aB _) (by rw[e4,cW (by lia)];exact t3);rw[ce,er]at c4;exact c4
  by_cases ck:tk=[]
  .have e1:(tk.length !=0)=false:=by rw[ck];rfl
   simp only[e1,bZ,if_false];refine fin μ' f2 c2 ?_;rw[t2,ck];(have:(jJ c.kept.length c).1=[]:=by rw[<-et',ck]);simp[vM,this]
  .have e1:(tk.length !=0)=true:=by
    cases tk with
    |nil=>exact absurd rfl ck|cons a r=>rfl
   simp only[e1,if_true,isCell,t2,true_and];refine⟨by simp,?_⟩;refine Dz (x:=none) t2 (by rw[et'];lia) ?_;refine fin _ (f2.set _ (.inl (aB _))) (c2.other _ (by lia) (by lia)) ?_;rw[eF hm2];(have:¬(jJ c.kept.length c).1=[]:=by rw[<-et'];exact ck);simp[vM,this,et']
 .have e0:(c'.kept.length !=0)=true:=by
   cases q:c'.kept with
   |nil=>exact absurd q ce|cons a r=>rfl
  simp only[e0,if_true,wSs,wS,wE,wEs,aJ,aZ];refine⟨by simp[isCell,t2],uH c2 (by decide) (by decide) (by decide),n,c',rfl,c2,ce,hl,fun μ3 t f3 c3 ht t3=>?_⟩;have hm2:μ.length<μ'.length:=(cj.mp t2).1;have t3':μ3[μ.length]?=some (.lst (tk.map wU)):=by rw[f3.2 _ hm2 (by lia) (by lia)];exact t2
  have hm3:μ.length<μ3.length:=(cj.mp t3').1;have ol:=kI ce;have ek:tk++(outF c').1++(jJ (outF c').2.kept.length (outF c').2).1=(jJ c.kept.length c).1:=by rw[<-et,<-ol,jJ,if_neg ce,rR]
  have aoh:tk.length+(outF c').1.length<=100:=by have:=congrArg dR ek;simp only[gG]at this;lia
  simp only[dj,t3',bT,wlT,agh,t3,aR];refine⟨by simp only[lim];lia,(outF c').2.kept.length,by lia,(outF c').2,tk++(outF c').1,rfl,by lia,by rw[<-er];rfl,(f2.trans f3).set _ (.inl (aB _)),c3.other _ (by lia) (by lia),?_,ek,trivial⟩;rw[eF hm3];simp
def wQ (tk:List Tk):Prop:=∀ x,some x∈tk->cA x
theorem aeF (hne:c.kept≠[]) (h:∀ x∈c.kept,cA x):(∀ x∈(outF c).2.kept,cA x)/\wQ (outF c).1/\∀ x,(outF c).2.last=some x->cA x:=by
 have hm:=h _ (zN hne);refine⟨fun x hx=>h x (adH hx),fun x hx=>?_,fun x hx=>?_⟩
 .simp only[outF]at hx
  rcases iG.mp hx with hx|hx
  .split at hx<;>simp at hx
  .have:=cG.mp hx
   cases this;exact hm
 .simp only[outF,pU]at hx
  subst hx;exact hm
theorem ZD:∀ (m:Nat) (c:Ch),c.kept.length<=m->(∀ x∈c.kept,cA x)->wQ (jJ m c).1/\((jJ m c).1=[]<->c.kept=[])
 |0,c,hl,_=>by have:c.kept=[]:=zJ.mp (by lia);simp[jJ,this,wQ]|m+1,c,hl,h=>by
  simp only[jJ];by_cases e:c.kept=[]
  .rw[if_pos e];simp[wQ,e]
  .rw[if_neg e]
   obtain⟨o1,o2,o3⟩:=aeF e h;have ol:=kI e;obtain⟨i1,_⟩:=ZD m (outF c).2 (by lia) o1;refine⟨fun x hx=>?_,?_⟩
   .rcases iG.mp hx with hx|hx
    .exact o2 x hx
    .exact i1 x hx
   .constructor
    .intro z
     have:=congrArg dR z;simp[outF]at this
    .intro z;exact absurd z e
theorem Zz (hw:Wf c) (hx:cA x):Wf (gk c x).2/\wQ (gk c x).1:=by
 obtain⟨w1,w2,w3,w4,w5,w6⟩:=hw;unfold gk;by_cases ce:c.kept.length=c.room
 .rw[if_pos ce]
  have hne:c.kept≠[]:=fun z=>by rw[z]at ce;simp at ce;lia
  obtain⟨o1,o2,o3⟩:=aeF hne w5;have ol:=kI hne;refine⟨⟨w1,w2,by simp;lia,fun z=>by simp at z,fun y hy=>?_,o3⟩,o2⟩;rcases iG.mp hy with hy|hy
  .exact o1 y hy
  .have:=cG.mp hy;subst this;exact hx
 .rw[if_neg ce]
  refine⟨⟨w1,w2,by simp;lia,fun z=>by simp at z,fun y hy=>?_,w6⟩,by simp[wQ]⟩;rcases iG.mp hy with hy|hy
  .exact w5 y hy
  .have:=cG.mp hy;subst this;exact hx
theorem akp (hw:Wf c):Wf (vM c).2/\wQ (vM c).1:=by
 obtain⟨w1,w2,w3,w4,w5,w6⟩:=hw;have fo:=ZD c.kept.length c (aB _) w5;refine⟨⟨w1,w2,ju _,fun _=>rfl,by simp[vM],by simp[vM]⟩,fun x hx=>?_⟩;simp only[vM]at hx;split at hx
 .simp at hx
 .rcases iG.mp hx with hx|hx
  .exact fo.1 x hx
  .simp at hx
def fO:List Tk->List Itm->List (List Itm)
 |[],_=>[]|none::r,run=>run::fO r []|some x::r,run=>fO r (run++[x])
def cu:Ch->List Itm->List Tk×Ch
 |c,[]=>([],c)|c,x::r=>((gk c x).1++(cu (gk c x).2 r).1,(cu (gk c x).2 r).2)
def lB (m:Nat):Ch:=⟨m,[],none⟩
def DP (row:List Itm) (m:Nat):List Tk:=(cu (lB m) row).1++(vM (cu (lB m) row).2).1
def kW (row:List Itm) (m:Nat):List (List Itm):=fO (DP row m) []
def Pre (μ μ':Mem):Prop:=μ.length<=μ'.length/\∀ i,i<μ.length->μ'[i]?=μ[i]?
theorem Pre.refl (μ:Mem):Pre μ μ:=⟨aB _,fun _ _=>rfl⟩
theorem Pre.trans (h:Pre a b) (k:Pre b c):Pre a c:=⟨jR h.1 k.1,fun i hi=>by rw[k.2 i (jT hi h.1),h.2 i hi]⟩
theorem Pre.app (μ ν:Mem):Pre μ (μ++ν):=⟨by simp,fun i hi=>fQ hi⟩
theorem Pre.set (h:Pre μ μ') (c:Cell) (ht:μ.length<=t):Pre μ (μ'.set t c):=⟨by have:=h.1;simp;lia,fun i hi=>by rw[cW (by lia)];exact h.2 i hi⟩
theorem Pre.fr (h:Pre μ μ') (f:Fr μ' Ug n) (hn:μ.length<=n):Pre μ Ug:=⟨jR h.1 f.1,fun i hi=>by rw[f.2 i (jT hi h.1) (by lia) (by lia)];exact h.2 i hi⟩
theorem Pre.get {μ μ':Mem} {i:Nat} {c:Cell} (h:Pre μ μ') (g:μ[i]?=some c):μ'[i]?=some c:=by rw[h.2 i (cj.mp g).1];exact g
def zp:dh:=fun ds μ Q=>∃ (t:Nat) (tk:List Tk),ds=[.loc t]/\μ[t]?=some (.lst (tk.map wU))/\tk.length<=1000/\∀ μ' n ls,Pre μ μ'->LL μ' μ.length n ls (fO tk [])->Q (.loc n) μ'
def K7:dh:=fun ds μ Q=>∃ (row:List Itm) (m:Nat),ds=[.lst (row.map aK),.int (m:Int)]/\row.length<=300/\1<=m/\m<=50/\(∀ x∈row,cA x)/\∀ μ' n ls,Pre μ μ'->LL μ' μ.length n ls (kW row m)->Q (.loc n) μ'
def RK:List Str:=["row","room","chooser","told","item"]
def S5:Ss:=(.cons (.set 2 (.mk "Chooser" rO (.cons (.var 1) .nil))) (.cons (.set 3 (.lst true .nil)) (.cons (.for_ [4] false (.seq (.var 0)) (.cons (.exp (.meth "extend" (.var 3) (.cons (.q9 "Chooser" "give" rP (.var 2) (.cons (.var 4) .nil)) .nil))) .nil)) (.cons (.exp (.meth "extend" (.var 3) (.cons (.q9 "Chooser" "finish" oE (.var 2) .nil) .nil))) (.cons (.ret (.call "runs_told" zp (.cons (.var 3) .nil))) .nil)))))
def Ei:List Str:=["told","runs","run","deed"]
def Er:Ss:=(.cons (.set 1 (.lst true .nil)) (.cons (.set 2 (.lst true .nil)) (.cons (.for_ [3] false (.seq (.var 0)) (.cons (.ite (.cmp .Eq (.idx (.var 3) (.cst (.int 0))) (.cst (.str [111,117,116]))) (.cons (.exp (.meth "append" (.var 2) (.cons (.idx (.var 3) (.cst (.int 1))) .nil))) .nil) (.cons (.exp (.meth "append" (.var 1) (.cons (.var 2) .nil))) (.cons (.set 2 (.lst true .nil)) .nil))) .nil)) (.cons (.ret (.var 1)) .nil))))
theorem R8:Keeps Ei Er zp:=by
 rintro ds μ Q ⟨t,tk,rfl,ht,hl,h⟩;have htl:t<μ.length:=(cj.mp ht).1;simp only[Er,Ei,aD,bI,wSs,wS,wE,wEs,wI,newL,lim,lO,aX,aV,bA,aL,bh,aM,aJ,aZ,bD,bY,bW];refine⟨by lia,by lia,?_⟩;have p2:Pre μ (μ++[Cell.lst []]++[Cell.lst []]):=by rw[rR];exact Pre.app _ _
 have t2:=p2.get ht;rw[t2];simp only;have g0:(μ++[Cell.lst []]++[Cell.lst []])[μ.length]?=some (.lst (([]:List Nat).map D.loc)):=by simp
 have g1:(μ++[Cell.lst []]++[Cell.lst []])[μ.length+1]?=some (.lst (([]:List Itm).map aK)):=by simp
 have e1:(μ++[Cell.lst []]).length=μ.length+1:=by simp
 rw[e1];generalize μ++[Cell.lst []]++[Cell.lst []]=μ2 at p2 t2 g0 g1;refine cU (fun ds ρ μ'=>∃ (rest:List Tk) (ls:List Nat) (done:List (List Itm)) (q:Nat) (run:List Itm) (a:Option D),ds=rest.map wU/\run.length+rest.length<=1000/\done.length+rest.length<=1000/\Pre μ μ'/\LL μ' μ.length μ.length ls done/\μ.length<q/\q∉ls/\μ'[q]?=some (.lst (run.map aK))/\done++fO rest run=fO tk []/\
  ρ=[some (.loc t),some (.loc μ.length),some (.loc q),a]) ?_ ?_ _ _ _ ⟨tk,[],[],μ.length+1,[],none,rfl,by simpa using hl,by simpa using hl,p2,⟨aB _,g0,rfl,by simp,by simp⟩,by lia,by simp,g1,rfl,rfl⟩
 .rintro d ds ρ μ1 N hN ⟨rest,ls,done,q,run,a,e,h1,h2,hp,hL,hq,hqn,gq,er,rfl⟩
  have ql:q<μ1.length:=(cj.mp gq).1;cases rest with
  |nil=>simp at e|cons y rest=>
   simp only[aX,mJ]at e;obtain⟨rfl,rfl⟩:=e;simp only[bA]at h1 h2;refine⟨hp.get ht,?_⟩;cases y with
   |none=>
    (have nl:μ.length<μ1.length:=by lia);simp[wU,eX,wT,wE,dH,aC,n6,cM,flat,lN,fU,isCell,hL.at_,dj,bT,newL,lim];refine⟨by rw[hL.len];lia,?_⟩;refine hN _ _ ⟨rest,ls++[q],done++[run],μ1.length,[],_,rfl,by simp;lia,by simp;lia,?_,?_,by lia,?_,by simp,by rw[<-er];simp[fO],rfl⟩
    .exact(hp.set _ (aB _)).trans (Pre.app _ _)
    .refine LL.app ⟨aB _,by rw[eF nl];simp,by simp[hL.len],fun l hl'=>?_,fun i l r i1 i2=>?_⟩ _
     .rcases iG.mp hl' with hl' |hl'
      .exact hL.sub l hl'
      .have:=cG.mp hl';subst this;exact⟨by lia,by lia⟩
     .have hne:l≠μ.length:=by
       rcases iG.mp (pW i1)with z|z
       .exact(hL.sub l z).2
       .have:=cG.mp z;lia
      rw[cW (bK hne)];rcases Ck i ls.length with z|z
      .rw[fQ z]at i1
       rw[fQ (by rw[<-hL.len];exact z)]at i2;exact hL.row i l r i1 i2
      .have hi:i=ls.length:=by have:=(cj.mp i1).1;simp at this;lia
       subst hi;rw[pX (aB _)]at i1;rw[hL.len,pX (aB _)]at i2;simp at i1 i2;subst i1 i2;exact gq
    .intro z
     rcases iG.mp z with z|z
     .obtain⟨i,hi,ei⟩:=CK.mp z
      (have hir:i<done.length:=by rw[<-hL.len];exact hi);have:=hL.row i ls[i] done[i] (dw hi) (dw hir);have:=(cj.mp this).1;lia
     .have:=cG.mp z;lia
   |some x=>simp[wU,eX,wT,wE,dH,aC,n6,cM,flat,lN,fU,isCell,gq,dj,bT,lim];refine⟨by lia,?_⟩;refine hN _ _ ⟨rest,ls,done,q,run++[x],_,rfl,by simp;lia,by lia,hp.set _ (by lia),⟨hL.lo,by rw[cW (by lia)];exact hL.at_,hL.len,hL.sub,fun i l r i1 i2=>?_⟩,hq,hqn,by rw[eF ql];simp,by rw[<-er];rfl,rfl⟩;have hne:l≠q:=fun z=>hqn (z▸pW i1);rw[cW (bK hne)];exact hL.row i l r i1 i2
 .rintro ρ μ1 ⟨rest,ls,done,q,run,a,e,h1,h2,hp,hL,hq,hqn,gq,er,rfl⟩
  have:rest=[]:=by simpa using e.symm
  subst this;refine⟨hp.get ht,?_⟩;simp only[aJ,aZ];rw[show done=fO tk [] by rw[<-er];simp[fO]]at hL;exact h μ1 _ ls hp hL
theorem Al:∀ (row:List Itm) (c:Ch),Wf c->(∀ x∈row,cA x)->Wf (cu c row).2/\wQ (cu c row).1/\(cu c row).1.length<=2*row.length
 |[],c,hw,_=>⟨hw,by simp[cu,wQ],by simp[cu]⟩|x::row,c,hw,h=>by
  obtain⟨g1,g2⟩:=Zz hw (h x (by simp));obtain⟨i1,i2,i3⟩:=Al row (gk c x).2 g1 fun y hy=>h y (by simp[hy]);refine⟨i1,fun y hy=>?_,?_⟩
  .rcases iG.mp hy with hy|hy
   .exact g2 y hy
   .exact i2 y hy
  .have:(gk c x).1.length<=2:=by
    unfold gk;split
    .simp only[outF];split<;>simp
    .simp
   simp only[cu,gG,bA];lia
theorem afu (hw:Wf c):(vM c).1.length<=101:=by
 have:=(JC c.kept.length c (aB _)).1;have:=hw.2.1;have:=hw.2.2.1;simp only[vM];split
 .simp
 .simp;lia
theorem Px (h1:1<=m) (h2:m<=50):Wf (lB m):=⟨h1,h2,ju _,fun _=>rfl,by simp[lB],by simp[lB]⟩
theorem ae5:Keeps RK S5 K7:=by
 rintro ds μ Q ⟨row,m,rfl,hl,m1,m2,hok,h⟩;simp only[S5,RK,aD,bI,wSs,wS,wE,wEs,wI,newL,lim,lO,aX,aV,bA,aL,bh,aM,aJ,aZ,bD,bY,bW];refine⟨μ,m,rfl,rfl,m1,m2,rfl,by lia,?_⟩;have el:(μ++[Cell.ins "Chooser" [("room",D.int (m:Int)),("kept",D.loc (μ.length+1)),("last",D.non)],Cell.lst []]).length=μ.length+2:=by simp
 rw[el];have p2:Pre μ (μ++[Cell.ins "Chooser" [("room",D.int (m:Int)),("kept",D.loc (μ.length+1)),("last",D.non)],Cell.lst []]++[Cell.lst []]):=by rw[rR];exact Pre.app _ _
 have c2:lE (μ++[Cell.ins "Chooser" [("room",D.int (m:Int)),("kept",D.loc (μ.length+1)),("last",D.non)],Cell.lst []]++[Cell.lst []]) μ.length (lB m):=⟨by simp[lB,Jd],by simp[lB]⟩;have t2:(μ++[Cell.ins "Chooser" [("room",D.int (m:Int)),("kept",D.loc (μ.length+1)),("last",D.non)],Cell.lst []]++[Cell.lst []])[μ.length+2]?=some (.lst (([]:List Tk).map wU)):=by simp
 generalize μ++[Cell.ins "Chooser" [("room",D.int (m:Int)),("kept",D.loc (μ.length+1)),("last",D.non)],Cell.lst []]++[Cell.lst []]=μ2 at p2 c2 t2;have go:=Al row (lB m) (Px m1 m2) hok;refine cU (fun ds ρ μ'=>∃ (rest:List Itm) (c:Ch) (tk:List Tk) (a:Option D),ds=rest.map aK/\(∀ x∈rest,cA x)/\tk.length+2*rest.length<=600/\Pre μ μ'/\lE μ' μ.length c/\Wf c/\μ'[μ.length+2]?=some (.lst (tk.map wU))/\tk++(cu c rest).1=(cu (lB m) row).1/\(cu c rest).2=(cu (lB m) row).2/\
  ρ=[some (.lst (row.map aK)),some (.int (m:Int)),some (.loc μ.length),some (.loc (μ.length+2)),a]) ?_ ?_ _ _ _ ⟨row,lB m,[],none,rfl,hok,by simp;lia,p2,c2,Px m1 m2,t2,rfl,rfl,rfl⟩
 .rintro d ds ρ μ1 N hN ⟨rest,c,tk,a,e,ok1,tl,hp,hc,hw,gt,e1,e2,rfl⟩
  cases rest with
  |nil=>simp at e|cons x rest=>
   simp only[aX,mJ]at e;obtain⟨rfl,rfl⟩:=e;simp only[bA]at tl;refine⟨trivial,?_⟩;simp only[eX,bY,bW,aJ,aZ];refine⟨by simp[isCell,gt],uH hc (by decide) (by decide) (by decide),μ.length,x,c,rfl,hc,hw,fun μ3 t f3 c3 ht t3=>?_⟩;have gl:μ.length+2<μ1.length:=(cj.mp gt).1;(have gt3:μ3[μ.length+2]?=some (.lst (tk.map wU)):=by rw[f3.2 _ gl (by lia) (by lia)];exact gt);have gl3:μ.length+2<μ3.length:=(cj.mp gt3).1;have gle:(gk c x).1.length<=2:=by
    unfold gk;split
    .simp only[outF];split<;>simp
    .simp
   simp only[dj,gt3,bT,wlT,agh,t3,aR];refine⟨by simp only[lim];lia,?_⟩;refine hN _ _ ⟨rest,(gk c x).2,tk++(gk c x).1,_,rfl,fun y hy=>ok1 y (by simp[hy]),by simp;lia,(hp.fr f3 (aB _)).set _ (by lia),c3.other _ (by lia) (by lia),(Zz hw (ok1 x (by simp))).1,by rw[eF gl3];simp,by rw[<-e1];simp[cu],by rw[<-e2];rfl,rfl⟩
 .rintro ρ μ1 ⟨rest,c,tk,a,e,ok1,tl,hp,hc,hw,gt,e1,e2,rfl⟩
  have:rest=[]:=by simpa using e.symm
  subst this;simp only[cu,qZ]at e1 e2;subst e2;refine⟨trivial,?_⟩;simp only[aJ,aZ,wE,wEs];refine⟨by simp[isCell,gt],uH hc (by decide) (by decide) (by decide),μ.length,_,rfl,hc,hw,fun μ3 t f3 c3 ht t3=>?_⟩;have gl:μ.length+2<μ1.length:=(cj.mp gt).1;have gt3:μ3[μ.length+2]?=some (.lst (tk.map wU)):=by rw[f3.2 _ gl (by lia) (by lia)];exact gt
  have gl3:μ.length+2<μ3.length:=(cj.mp gt3).1;have fle:=afu hw;simp only[dj,gt3,bT,wlT,agh,t3,aR];refine⟨by simp only[lim];lia,?_⟩;have p4:Pre μ (μ3.set (μ.length+2) (Cell.lst (tk.map wU++(vM (cu (lB m) row).2).1.map wU))):=(hp.fr f3 (aB _)).set _ (by lia);refine⟨μ.length+2,DP row m,rfl,by rw[eF gl3,DP,<-e1];simp,by rw[DP,<-e1];simp;simp at tl;lia,fun μ5 n ls p5 hL=>?_⟩;refine h μ5 n ls (p4.trans p5) ?_;exact⟨by have:=hL.lo;have:=p4.1;lia,hL.at_,hL.len,fun l hl'=>⟨by have:=(hL.sub l hl').1;have:=p4.1;lia,(hL.sub l hl').2⟩,hL.row⟩
def Qo:Nat->Ch->List Itm->List Tk
 |0,_,_=>[]|n+1,c,ws=>if c.kept=[]then []else(outF c).1++Qo n ⟨c.room,(outF c).2.kept++ws.take 1,(outF c).2.last⟩ (ws.drop 1)
theorem afk:∀ (n:Nat) (c:Ch),c.kept.length<=n->Qo n c []=(jJ c.kept.length c).1
 |0,c,h=>by
  have:c.kept.length=0:=by lia
  rw[this];rfl
 |n+1,c,h=>by
  by_cases e:c.kept=[]
  .simp[Qo,e,jJ]
  .have ol:=kI e
   rw[Qo,if_neg e,<-ol,jJ,if_neg e];(have e2:(⟨c.room,(outF c).2.kept++([]:List Itm).take 1,(outF c).2.last⟩:Ch)=(outF c).2:=by simp[outF]);rw[e2];show _++Qo n (outF c).2 []=_;rw[afk n (outF c).2 (by lia)]
theorem Td:∀ (ws:List Itm) (c:Ch) (n:Nat),1<=c.room->(c.kept.length=c.room∨ws=[])->c.kept.length+ws.length<=n->
  (cu c ws).1++(jJ (cu c ws).2.kept.length (cu c ws).2).1=Qo n c ws
 |[],c,n,h1,_,h=>by simp only[cu,aM];exact(afk n c (by simpa using h)).symm|x::ws,c,n,h1,hf,h=>by
  have hf:c.kept.length=c.room:=hf.resolve_right (by simp);have ne:c.kept≠[]:=fun z=>by rw[z]at hf;simp at hf;lia
  have ol:=kI ne;cases n with
  |zero=>simp at h|succ n=>(have eg:gk c x=((outF c).1,⟨c.room,(outF c).2.kept++[x],(outF c).2.last⟩):=by unfold gk;rw[if_pos hf]);rw[Qo,if_neg ne];simp only[cu,eg,ady,List.take_zero,adk,Wa,rR];rw[Td ws ⟨c.room,(outF c).2.kept++[x],(outF c).2.last⟩ n h1 (.inl (by simp;lia)) (by simp at h ⊢;lia)]
theorem fill:∀ (as bs ks:List Itm) (m:Nat),ks.length+as.length<=m->cu ⟨m,ks,none⟩ (as++bs)=cu ⟨m,ks++as,none⟩ bs
 |[],bs,ks,m,_=>by simp|x::as,bs,ks,m,h=>by
  have hne:¬ks.length=m:=by simp at h;lia
  have eg:gk ⟨m,ks,none⟩ x=([],⟨m,ks++[x],none⟩):=by unfold gk;rw[if_neg hne]
  simp only[bh,cu,eg,aM];rw[fill as bs (ks++[x]) m (by simp at h ⊢;lia)];simp
def c0 (row:List Itm) (m:Nat):Ch:=⟨m,row.take m,none⟩
theorem Jy:∀ (ws:List Itm) (c:Ch),1<=c.room->c.kept≠[]->(c.kept.length=c.room∨ws=[])->(cu c ws).2.kept≠[]
 |[],c,_,h,_=>h|x::ws,c,h1,h,hf=>by
  have hf:c.kept.length=c.room:=hf.resolve_right (by simp);have ol:=kI h;have eg:gk c x=((outF c).1,⟨c.room,(outF c).2.kept++[x],(outF c).2.last⟩):=by unfold gk;rw[if_pos hf]
  simp only[cu,eg];exact Jy ws _ h1 (by simp) (.inl (by simp;lia))
theorem agu (m1:1<=m):DP row m=if row=[]then []else Qo row.length (c0 row m) (row.drop m)++[none]:=by
 have e0:cu (lB m) row=cu (c0 row m) (row.drop m):=by have:=fill (row.take m) (row.drop m) [] m (by simp;lia);rw[O6]at this;simpa[lB,c0]using this
 unfold DP;rw[e0];by_cases e:row=[]
 .subst e
  simp[cu,c0,vM,jJ]
 .rw[if_neg e]
  have hl:1<=row.length:=by cases row with|nil=>exact absurd rfl e|cons=>simp
  have hor:(c0 row m).kept.length=(c0 row m).room∨row.drop m=[]:=by
   by_cases q:m<=row.length
   .exact .inl (by simp[c0];lia)
   .exact .inr (W6 (by lia))
  have hk:(c0 row m).kept≠[]:=fun z=>by have z:row.take m=[]:=z;have:=congrArg dR z;rw[vY]at this;simp only[aL]at this;lia
  have hg:=Td (row.drop m) (c0 row m) row.length m1 hor (by simp[c0];lia);have hk2:=Jy (row.drop m) (c0 row m) m1 hk hor;rw[<-hg,rR];congr 1;unfold vM;have:(jJ (cu (c0 row m) (row.drop m)).2.kept.length (cu (c0 row m) (row.drop m)).2).1≠[]:=by have ol:=kI hk2;rw[<-ol,jJ,if_neg hk2];simp[outF]
  rw[if_neg this]
def Rg (p:List (List Itm)×List Itm):Tk->List (List Itm)×List Itm
 |none=>(p.1++[p.2],[])|some x=>(p.1,p.2++[x])
theorem Bt:∀ (tk:List Tk) (cl:List (List Itm)) (run:List Itm),cl++fO (tk++[none]) run=(tk.foldl Rg (cl,run)).1++[(tk.foldl Rg (cl,run)).2]
 |[],cl,run=>by simp[fO]|none::tk,cl,run=>by simp only[bh,fO,pR,Rg];rw[<-Bt tk (cl++[run]) []];simp|some x::tk,cl,run=>by simp only[bh,fO,pR,Rg];exact Bt tk cl (run++[x])
theorem Tj:∀ {r:List Itm} {y:Itm},y∈r->∃ j,r[j]?=some y/\(∀ m,m<j->r[m]?≠some y)/\r.take j++r.drop (j+1)=r.erase y
 |[],y,h=>by simp at h|a::r,y,h=>by
  by_cases e:a=y
  .subst e
   exact⟨0,by simp,fun m hm=>by lia,by simp⟩
  .have h':y∈r:=by
    rcases bC.mp h with h|h
    .exact absurd h.symm e
    .exact h
   obtain⟨j,h1,h2,h3⟩:=Tj h';refine⟨j+1,by simpa using h1,fun m hm=>?_,?_⟩
   .cases m with|zero=>simpa using e|succ m=>simpa using h2 m (by lia)
   .rw[List.erase_cons_tail (by simpa using e)]
    simp[h3]
theorem M5:∀ (tk:List Tk) (run:List Itm),∀ r∈fO tk run,r.length<=run.length+tk.length
 |[],run,r,hr=>by simp[fO]at hr|none::tk,run,r,hr=>by
  simp only[fO,bC]at hr;rcases hr with rfl|hr
  .simp
  .have:=M5 tk [] r hr
   simp at this ⊢;lia
 |some y::tk,run,r,hr=>by simp only[fO]at hr;have:=M5 tk (run++[y]) r hr;simp at this ⊢;lia
end DW.CHO
namespace DW
open PySem
def dg (m:Nat):List Nat:=(Nat.toDigits 10 m).map HB
theorem uT (h:c∈dg m):48<=c/\c<=57:=by
 obtain⟨ch,hch,e⟩:=jQ.mp h;have r:=Nat.isDigit_of_mem_toDigits (b:=10) (by decide) (by decide) hch;have:48<=ch.toNat/\ch.toNat<=57:=by simp only[Char.isDigit,bL,decide_eq_true_eq]at r;exact⟨r.1,r.2⟩
 lia
theorem Tq (m:Nat):dg m≠[]:=fun e=>Nat.toDigits_ne_nil (List.map_eq_nil_iff.mp e)
theorem Dn (h:m<10 ^ 40):(dg m).length<=40:=by unfold dg;rw[aR];exact(Nat.length_toDigits_le_iff (by decide) (by decide)).mpr h
theorem afH:∀ m:Nat,m<10->dg m=[48+m]:=by decide
theorem akx (h:10<=m):dg m=dg (m/10)++dg (m%10):=by have t:=Nat.toDigits_append_toDigits (b:=10) (n:=m/10) (d:=m%10) (by decide) (by lia) (Nat.mod_lt m (by decide));rw[Nat.div_add_mod]at t;unfold dg;rw[<-t,mH]
theorem ZL:∀ {m:Nat},m≠0->(dg m).head?≠some 48:=by
 intro m;induction m using Nat.strongRecOn with
 |_ m ih=>
  intro h0;by_cases h:m<10
  .rw[afH m h];simp;lia
  .rw[akx (by lia)]
   have:=ih (m/10) (by lia) (by lia);cases q:dg (m/10) with
   |nil=>exact absurd q (Tq _)|cons a r=>rw[q]at this;simpa using this
theorem uU (m:Nat):jo (m:Int)=dg m:=aje m
theorem afJ (m:Nat):jo (-((m+1:Nat):Int))=45::dg (m+1):=by unfold jo dg;have e:toString (-((m+1:Nat):Int))="-"++Nat.repr (m+1):=rfl;rw[e,W7];simp[Nat.toList_repr]
theorem qy (k:Int):(∃ m:Nat,k=m/\jo k=dg m)∨∃ m:Nat,k= -((m+1:Nat):Int)/\jo k=45::dg (m+1):=by
 by_cases h:0<=k
 .obtain⟨m,rfl⟩:=adZ h
  exact .inl ⟨m,rfl,uU m⟩
 .refine .inr ⟨(-k).toNat -1,by lia,?_⟩
  have:k= -(((-k).toNat -1+1:Nat):Int):=by lia
  conv=>lhs;rw[this]
  exact afJ _
theorem Tr (h:c∈jo k):c=45∨(48<=c/\c<=57):=by
 rcases qy k with⟨m,_,e⟩|⟨m,_,e⟩<;>rw[e]at h
 .exact .inr (uT h)
 .rcases bC.mp h with h|h
  .exact .inl h
  .exact .inr (uT h)
theorem aky (k:Int):jo k≠[]:=by
 rcases qy k with⟨m,_,e⟩|⟨m,_,e⟩<;>rw[e]
 .exact Tq m
 .simp
theorem vq (h1: -(10 ^ 40)<k) (h2:k<10 ^ 40):(jo k).length<=41:=by
 rcases qy k with⟨m,e1,e⟩|⟨m,e1,e⟩<;>rw[e]
 .have:=Dn (m:=m) (by lia);lia
 .have:=Dn (m:=m+1) (by lia);simp;lia
theorem Tt (h1: -(10 ^ 40)<k) (h2:k<10 ^ 40):intText? ⟨(jo k).toArray⟩=some k:=by
 have hl:=vq h1 h2;rcases qy k with⟨m,e1,e⟩|⟨m,e1,e⟩
 .rw[e]at hl ⊢
  have:=intText_digits (x:=⟨(dg m).toArray⟩) (by intro c hc;exact uT (by simpa using hc)) (by simpa using Tq m) (by simp[eE];lia);rw[this,e1];congr 2;simpa[dg]using adA m
 .rw[e]at hl ⊢
  have:=intText_neg (x:=⟨(45::dg (m+1)).toArray⟩) (cs:=dg (m+1)) (by simp) (by intro c hc;exact uT hc) (Tq _) (by simp[eE]at hl ⊢;lia);rw[this,e1];congr 2;have:=adA (m+1);simpa[dg]using congrArg (fun n:Nat=>(n:Int)) this
def aaM (t:List Nat):Bool:=decide (1<=t.length/\t.length<=40)&&(!(t.head?==some 48&&t !=[48])&&t.all fun c=>decide (48<=c/\c<=57))
def keyB (t:List Nat):Bool:=if t.head?==some 45 then t !=[45,48]&&aaM (t.drop 1)else aaM t
theorem Yc (h:m<10 ^ 40):aaM (dg m)=true:=by
 have hl:=Dn h;have hp:1<=(dg m).length:=by
  rcases ac6 (dg m).length with q|q
  .exact absurd (zJ.mp q) (Tq m)
  .exact q
 unfold aaM;have h1:decide (1<=(dg m).length/\(dg m).length<=40)=true:=decide_eq_true ⟨hp,hl⟩;have h3:((dg m).all fun c=>decide (48<=c/\c<=57))=true:=Ov.mpr fun c hc=>decide_eq_true (uT hc);rw[h1,h3];by_cases h0:m=0
 .subst h0;decide
 .have:=ZL h0
  have:((dg m).head?==some 48)=false:=by simpa using this
  rw[this];rfl
theorem ahx (h1: -(10 ^ 40)<k) (h2:k<10 ^ 40):keyB (jo k)=true:=by
 unfold keyB;rcases qy k with⟨m,e1,e⟩|⟨m,e1,e⟩<;>rw[e]
 .have hn:((dg m).head?==some 45)=false:=by
   cases q:dg m with
   |nil=>rfl|cons a r=>have:=uT (m:=m) (c:=a) (by rw[q];simp);simp;lia
  rw[hn];exact Yc (by lia)
 .have:((45::dg (m+1))!=[45,48])=true:=by have:=ZL (m:=m+1) (by lia);simp;intro q;rw[q]at this;exact this rfl
  simp only[List.head?_cons,beq_self_eq_true,if_true,this,lZ,adk,Wa];exact Yc (by lia)
end DW
namespace DW.TX
open PySem DW DW.Ue
def vK (t:List Nat):Prop:=t.all (·<1114112)=true
theorem kJ:vK t<->∀ c∈t,c<1114112:=by unfold vK;simp
theorem vg (ha:vK a) (hb:vK b):vK (a++b):=by
 rw[kJ]at*;intro c hc;rcases iG.mp hc with h|h
 .exact ha c h
 .exact hb c h
theorem Ga (hb:vK b) (h:∀ c∈a,c∈b):vK a:=by rw[kJ]at*;exact fun c hc=>hb c (h c hc)
def jr:dh:=fun ds μ Q=>∃ t:List Nat,ds=[.str t]/\vK t/\Q (.bl (aaM t)) μ
def wF:List Str:=["text"]
def tlA:Ss:=(.cons (.ret (.blt "all" (.cons (.comp false 1 false [] (.chain .LtE .LtE (.cst (.str [48])) (.var 0) (.cst (.str [57]))) (.seq (.var 0)) .nil) .nil))) .nil)
def wL:Ss:=(.cons (.ite (.or (.not (.chain .LtE .LtE (.cst (.int 1)) (.blt "len" (.cons (.var 0) .nil)) (.gbl "MOST_FIGURES" (.int 40)))) (.and (.cmp .Eq (.idx (.var 0) (.cst (.int 0))) (.cst (.str [48]))) (.cmp .NotEq (.var 0) (.cst (.str [48]))))) (.cons (.ret (.cst (.bl false))) .nil) .nil) tlA)
theorem J4 (p:α->Bool):∀ l:List α,allB (l.map fun x=>D.bl (p x))=some (l.all p)
 |[]=>rfl|x::l=>by simp[allB,J4 p l]
theorem ajV (a b:Nat):dI [a] [b]=decide (a<b):=by
 simp only[dI];by_cases e:a=b
 .subst e;simp
 .rw[if_neg e]
theorem abA (q:Q (.bl (t.all fun c=>decide (48<=c/\c<=57))) μ):wSs tlA (bI Q) [some (.str t)] μ:=by
 simp only[tlA,bI,wSs,wS,wE,wEs,wI,newL,aV,aJ,lO,chars];refine dF (fun c=>D.str [c]) (fun c=>D.bl (decide (48<=c/\c<=57))) trivial _ _ ?_ ?_
 .intro c _ Y N z
  simp only[bindC,wTs,aJ,cM,fU,ajV,if_true];by_cases c1:c<48
  .have:¬(48<=c/\c<=57):=by lia
   simp only[c1,this,decide_true,decide_false,pO,bZ,if_false]at z ⊢;exact z
  .simp only[c1,decide_false,rQ,if_true]
   (have:(!decide (57<c))=decide (48<=c/\c<=57):=by rw[Og];simp;lia);rw[this];exact z
 .simp only[aM,bO,cB,aC,lu,J4]
  exact q
theorem gQ (h:vK t) (n:Nat):flat n (.str t)=true:=by cases n<;>exact h
theorem eq_str (a b:List Nat):lN (.str a) (.str b)=(a==b):=rfl
theorem Ks:Keeps wF wL jr:=by
 rintro ds μ Q ⟨t,rfl,ht,q⟩;have ln:∀ (ν:Mem) (Q:QD),bO "len" [.str t] ν Q=Q (.int (t.length:Int)) ν:=fun ν Q=>by simp[bO,lenOf]
 simp only[wL,wF,aD,wSs,wS,wT,wE,wEs,aX,aV,bA,aL,bh,aM,aJ,bD,ln,cM,fU];unfold aaM at q;by_cases h1:1<=t.length
 .have h1':decide ((1:Int)<=(t.length:Int))=true:=decide_eq_true (by lia)
  simp only[h1',if_true];by_cases h2:t.length<=40
  .have h2':decide ((t.length:Int)<=40)=true:=decide_eq_true (by lia)
   have h12:decide (1<=t.length/\t.length<=40)=true:=decide_eq_true ⟨h1,h2⟩;rw[h12,lZ]at q;simp only[h2',pO,bZ,if_false];cases t with
   |nil=>simp at h1|cons a r=>
    (have hi:∀ (ν:Mem) (Q:QD),dH (.str (a::r)) (.int 0) ν Q=Q (.str [a]) ν:=fun ν Q=>by simp[dH,n6]);have ha:vK [a]:=Ga ht (by simp);rw[hi];refine⟨gQ ha 60,by decide,?_⟩;(have e1:lN (.str [a]) (.str [48])=decide (a=48):=by rw[eq_str,Og];simp);rw[e1];(have e2:((a::r).head?==some 48)=decide (a=48):=by rw[Og];simp);rw[e2]at q;by_cases h48:a=48
    .simp only[h48,decide_true,if_true,lZ]at q ⊢
     rw[h48]at ht;refine⟨gQ ht 60,by decide,?_⟩;rw[eq_str];by_cases hr:(48::r)=[48]
     .have hb:((48::r)==[48])=true:=by rw[hr];rfl
      (have hb2:((48::r)!=[48])=false:=by rw[hr];rfl);simp only[hb,hb2,pO,rQ,lZ,bZ,if_false]at q ⊢;exact abA q
     .have hb:((48::r)==[48])=false:=by simpa using hr
      (have hb2:((48::r)!=[48])=true:=by simpa using hr);simp only[hb,hb2,pO,rQ,xQ,if_true,wSs,wS,wE,bI]at q ⊢;exact q
    .simp only[h48,decide_false,xQ,rQ,lZ,bZ,if_false]at q ⊢
     exact abA q
  .have h2':decide ((t.length:Int)<=40)=false:=decide_eq_false (by lia)
   have h12:decide (1<=t.length/\t.length<=40)=false:=decide_eq_false (by lia);rw[h12,xQ]at q;simp only[h2',rQ,if_true,wSs,wS,wE,bI];exact q
 .have h1':decide ((1:Int)<=(t.length:Int))=false:=decide_eq_false (by lia)
  have h12:decide (1<=t.length/\t.length<=40)=false:=decide_eq_false (by lia);rw[h12,xQ]at q;simp only[h1',bZ,if_false,rQ,if_true,wSs,wS,wE,bI];exact q
def mZ:dh:=fun ds μ Q=>∃ t:List Nat,ds=[.str t]/\vK t/\Q (.bl (keyB t)) μ
def wC:List Str:=["text"]
def wJ:Ss:=(.cons (.ite (.Rj "startswith" (.var 0) (.cons (.cst (.str [45])) .nil)) (.cons (.ret (.and (.cmp .NotEq (.var 0) (.cst (.str [45,48]))) (.call "are_figures" jr (.cons (.slc false (.var 0) (.cons (.cst (.int 1)) .nil) .nil) .nil)))) .nil) .nil) (.cons (.ret (.call "are_figures" jr (.cons (.var 0) .nil))) .nil))
theorem ak0 (q:Q (.bl (t.head?==some c)) μ):vG "startswith" (.str t) [.str [c]] μ Q:=q
theorem vP (m:String) (h:¬(m="get"∨m="pop"∨m="clear")) (h2:txM m=true) (t:List Nat) (μ:Mem):Kw m μ (.str t)=true:=by unfold Kw;rw[if_neg h,if_pos h2];rfl
theorem Kq:Keeps wC wJ mZ:=by
 rintro ds μ Q ⟨t,rfl,ht,q⟩;simp only[wJ,wC,aD,bI,wSs,wS,wT,wE,wEs,wO,yS,aX,aV,bA,aL,bh,aM,aJ,bD];refine⟨vP _ (by decide) (by decide) _ _,ak0 ?_⟩;simp only[fM,truth];unfold keyB at q;by_cases h:t.head?=some 45
 .have hb:(t.head?==some 45)=true:=by rw[h];rfl
  rw[hb]at q;simp only[hb,if_true]at q ⊢;refine abd (gQ ht 60) (by decide) ?_;rw[eq_str];by_cases h2:t=[45,48]
  .subst h2
   exact q
  .have hb1:(t==[45,48])=false:=by simpa using h2
   (have hb2:(t !=[45,48])=true:=by simpa using h2);simp only[hb1,hb2,rQ,lZ,fU,if_true]at q ⊢;have hl:1<=t.length:=by
    cases t with
    |nil=>simp at h|cons a r=>simp
   refine Cd (Cd ?_ (Cd ?_ ?_)) ?_
   .intro i hi
    cases hi;decide
   .intro i hi
    cases hi
   .show min (1:Int).toNat t.length<=t.length;lia
   .rw[aaV _ (by decide)]
    exact⟨_,rfl,Ga ht fun c hc=>CJ hc,q⟩
 .have hb:(t.head?==some 45)=false:=by simpa using h
  rw[hb]at q;simp only[hb,bZ,if_false]at q ⊢;exact⟨t,rfl,ht,q⟩
def kp (t:List Nat):List Nat:=if 58∈t then Kf 58 t else t
def tp (t:List Nat):List Nat:=if 58∈t then postC 58 t else []
def ahl (t:List Nat):Bool:=!(decide (58∈t)&&tp t==[])&&(keyB (kp t)&&yE (.str (tp t)))
theorem aj2:∀ c∈kp t,c∈t:=by
 unfold kp Kf;split
 .exact fun c hc=>(List.takeWhile_sublist _).subset hc
 .exact fun c hc=>hc
theorem aiK:∀ c∈tp t,c∈t:=by
 unfold tp postC;split
 .exact fun c hc=>(List.dropWhile_sublist _).subset (CJ hc)
 .exact fun c hc=>by simp at hc
def mdl (t:List Nat):List Nat:=if 58∈t then [58]else []
theorem Y8 (q:Q (.tup [.str (kp t),.str (mdl t),.str (tp t)]) μ):vG "partition" (.str t) [.str [58]] μ Q:=by
 show(if 58∈t then Q (.tup [.str (Kf 58 t),.str [58],.str (postC 58 t)]) μ else Q (.tup [.str t,.str [],.str []]) μ);unfold kp mdl tp at q;split
 .rename_i h;simp only[if_pos h]at q;exact q
 .rename_i h;simp only[if_neg h]at q;exact q
def rJ:dh:=fun ds μ Q=>∃ t:List Nat,ds=[.str t]/\vK t/\Q (.bl (ahl t)) μ
def ur:List Str:=["word","parts"]
def uL:Ss:=(.cons (.set 1 (.Rj "partition" (.var 0) (.cons (.cst (.str [58])) .nil))) (.cons (.ite (.and (.cmp .Eq (.idx (.var 1) (.cst (.int 1))) (.cst (.str [58]))) (.cmp .Eq (.idx (.var 1) (.cst (.int 2))) (.cst (.str [])))) (.cons (.ret (.cst (.bl false))) .nil) .nil) (.cons (.ret (.and (.call "is_key_text" mZ (.cons (.idx (.var 1) (.cst (.int 0))) .nil)) (.call "is_tag" Bq (.cons (.idx (.var 1) (.cst (.int 2))) .nil)))) .nil)))
theorem Jh:Keeps ur uL rJ:=by
 rintro ds μ Q ⟨t,rfl,ht,q⟩;simp only[uL,ur,aD,bI,wSs,wS,wT,wE,wEs,aX,aV,bA,aL,bh,aM,aJ,aZ,bD];refine⟨vP _ (by decide) (by decide) _ _,Y8 ?_⟩;have i0:∀ (ν:Mem) (Q:QD),dH (.tup [.str (kp t),.str (mdl t),.str (tp t)]) (.int 0) ν Q=Q (.str (kp t)) ν:=fun ν Q=>rfl;have i1:∀ (ν:Mem) (Q:QD),dH (.tup [.str (kp t),.str (mdl t),.str (tp t)]) (.int 1) ν Q=Q (.str (mdl t)) ν:=fun ν Q=>rfl;have i2:∀ (ν:Mem) (Q:QD),dH (.tup [.str (kp t),.str (mdl t),.str (tp t)]) (.int 2) ν Q=Q (.str (tp t)) ν:=fun ν Q=>rfl;have hk:vK (kp t):=Ga ht aj2;have hp:vK (tp t):=Ga ht aiK;have hmd:vK (mdl t):=by unfold mdl;split<;>rfl
 simp only[bY,bW,aJ,aZ,i0,i1,i2,cM,fU];refine⟨gQ hmd 60,by decide,?_⟩;have e1:lN (.str (mdl t)) (.str [58])=decide (58∈t):=by rw[eq_str];unfold mdl;by_cases h:58∈t<;>simp[h]
 rw[e1];unfold ahl at q;have fin:(decide (58∈t)&&tp t==[])=false->mZ [.str (kp t)] μ fun x μ1=>match x with| .bl b=>(if b=true then Bq [.str (tp t)] μ1 Q else Q (.bl false) μ1)|_=>False:=fun h=>by
  rw[h,rQ,lZ]at q;refine⟨kp t,rfl,hk,?_⟩;simp only;by_cases hb:keyB (kp t)=true
  .rw[hb,lZ]at q
   rw[if_pos hb];exact⟨_,rfl,hp,q⟩
  .have hb':keyB (kp t)=false:=by simpa using hb
   rw[hb',xQ]at q;rw[if_neg hb];exact q
 by_cases h:58∈t
 .simp only[h,decide_true,if_true]
  refine⟨gQ hp 60,rfl,?_⟩;rw[eq_str];by_cases h2:tp t=[]
  .have hb:(tp t==[])=true:=by rw[h2];rfl
   simp only[h,hb,decide_true,V7,pO,xQ,if_true,wSs,wS,wE]at q ⊢;exact q
  .have hb:(tp t==[])=false:=by simpa using h2
   simp only[hb,bZ,if_false];exact fin (by rw[hb];simp)
 .simp only[h,decide_false,bZ,if_false]
  exact fin (by simp[h])
def qK:dh:=fun ds μ Q=>∃ (t:List Nat) (n:Int),ds=[.str t]/\(kp t).length<=640/\intText? ⟨(kp t).toArray⟩=some n/\Q (.tup [.int n,.str (tp t)]) μ
def Ej:List Str:=["word","parts"]
def Et:Ss:=(.cons (.set 1 (.Rj "partition" (.var 0) (.cons (.cst (.str [58])) .nil))) (.cons (.ret (.tup (.cons (.blt "int" (.cons (.idx (.var 1) (.cst (.int 0))) .nil)) (.cons (.idx (.var 1) (.cst (.int 2))) .nil)))) .nil))
theorem R9:Keeps Ej Et qK:=by rintro ds μ Q ⟨t,n,rfl,hl,hn,q⟩;simp only[Et,Ej,aD,bI,wSs,wS,wE,wEs,aX,aV,bA,aL,bh,aM,aJ,aZ,bD];refine⟨vP _ (by decide) (by decide) _ _,Y8 ?_⟩;exact⟨n,⟨hl,hn⟩,by decide,q⟩
def zx (x:Itm):List Nat:=if x.2=[]then jo x.1 else jo x.1++58::x.2
def zm:dh:=fun ds μ Q=>∃ x:Itm,ds=[aK x]/\keyOk x.1/\vK x.2/\x.2.length<=1000/\Q (.str (zx x)) μ
def Eh:List Str:=["item"]
def Ep:Ss:=(.cons (.ite (.cmp .Eq (.idx (.var 0) (.cst (.int 1))) (.cst (.str []))) (.cons (.ret (.blt "str" (.cons (.idx (.var 0) (.cst (.int 0))) .nil))) .nil) .nil) (.cons (.ret (.bin .Add (.bin .Add (.blt "str" (.cons (.idx (.var 0) (.cst (.int 0))) .nil)) (.cst (.str [58]))) (.idx (.var 0) (.cst (.int 1))))) .nil))
theorem oU (h:keyOk k):k.natAbs.log2<1920:=by
 by_cases h0:k.natAbs=0
 .rw[h0];decide
 .rw[Vy h0]
  have:=h.1;have:=h.2;have e:(10:Nat) ^ 40<=2 ^ 1920:=by decide+kernel
  lia
theorem R7:Keeps Eh Ep zm:=by
 rintro ds μ Q ⟨x,rfl,hk,ht,hl,q⟩;obtain⟨k,t⟩:=x;have i0:∀ (ν:Mem) (Q:QD),dH (aK (k,t)) (.int 0) ν Q=Q (.int k) ν:=fun ν Q=>rfl;have i1:∀ (ν:Mem) (Q:QD),dH (aK (k,t)) (.int 1) ν Q=Q (.str t) ν:=fun ν Q=>rfl;simp only[Ep,Eh,aD,bI,wSs,wS,wT,wE,wEs,aX,aV,bA,aL,bh,aM,aJ,bD,i0,i1,cM,fU];have hd:(jo k).length<=41:=vq hk.1 hk.2;have hl:t.length<=1000:=hl;refine⟨gQ ht 60,rfl,?_⟩;rw[eq_str];unfold zx at q;by_cases h:t=[]
 .subst h
  simp only[beq_self_eq_true,if_true,bO]at q ⊢;exact⟨oU hk,q⟩
 .have hb:(t==[])=false:=by simpa using h
  simp only[hb,h,bZ,if_false,bO,jq]at q ⊢;refine⟨oU hk,by simp[lim];lia,by simp[lim]at hl ⊢;lia,?_⟩;simpa using q
theorem Mx (h:t∈tags):vK t/\t.length<=8/\58∉t/\32∉t/\yE (.str t)=true:=by
 have:∀ t∈tags,(t.all (·<1114112)&&decide (t.length<=8)&&decide (58∉t)&&decide (32∉t)&&yE (.str t))=true:=by decide
 have:=this t h;simp only[bL,decide_eq_true_eq]at this;exact⟨this.1.1.1.1,this.1.1.1.2,this.1.1.2,this.1.2,this.2⟩
theorem Yd (h:c=58∨c=32):c∉jo k:=fun z=>by have:=Tr z;lia
theorem Gp (k:Int):vK (jo k):=kJ.mpr fun c hc=>by have:=Tr hc;lia
theorem La (h:cA x):kp (zx x)=jo x.1/\tp (zx x)=x.2/\(58∈zx x<->x.2≠[]):=by
 obtain⟨k,t⟩:=x;unfold zx;by_cases ht:t=[]
 .subst ht
  have:58∉jo k:=Yd (.inl rfl);simp[kp,tp,this]
 .obtain⟨h1,h2⟩:=Y4 (c:=58) (y:=t) (x:=jo k) (Yd (.inl rfl))
  have:58∈jo k++58::t:=by simp
  simp[kp,tp,ht,h1,h2]
theorem G7 (h:cA x):vK (zx x)/\(zx x).length<=50/\32∉zx x/\zx x≠[]:=by
 obtain⟨t1,t2,t3,t4,_⟩:=Mx h.2;obtain⟨k,t⟩:=x;have hd:=vq h.1.1 h.1.2;have d1:32∉jo k:=Yd (.inr rfl);have t4':¬32∈t:=t4;have t2':t.length<=8:=t2;have hd':(jo k).length<=41:=hd;unfold zx;by_cases ht:t=[]
 .subst ht
  simp only[if_true];exact⟨Gp k,by lia,d1,aky k⟩
 .simp only[ht,if_false]
  refine⟨vg (Gp k) (vg (a:=[58]) rfl t1),by simp;lia,?_,by simp⟩;simp[d1,t4']
theorem agA (h:cA x):ahl (zx x)=true:=by
 obtain⟨h1,h2,h3⟩:=La h;obtain⟨_,_,_,_,t5⟩:=Mx h.2;unfold ahl;rw[h1,h2,ahx h.1.1 h.1.2,t5];by_cases ht:x.2=[]
 .have:58∉zx x:=fun z=>h3.mp z ht
  simp[this]
 .simp[ht]
theorem abM (h:cA x) (q:Q (aK x) μ):qK [.str (zx x)] μ Q:=by
 obtain⟨h1,h2,_⟩:=La h;refine⟨zx x,x.1,rfl,?_,?_,?_⟩
 .rw[h1];have:=vq h.1.1 h.1.2;lia
 .rw[h1];exact Tt h.1.1 h.1.2
 .rw[h2];exact q
def txt (r:List Itm):List Nat:=dJ [32] (r.map zx)
theorem u0:∀ ws:List (List Nat),za (ws.map D.str)=some ws
 |[]=>rfl|w::ws=>by simp[za,u0 ws]
theorem MK:∀ {r:List Itm},(∀ x∈r,cA x)->((r.map zx).map dR).sum<=50*r.length
 |[],_=>by simp|x::r,h=>by have:=MK (r:=r) fun y hy=>h y (by simp[hy]);have:=(G7 (h x (by simp))).2.1;simp only[aX,H6,bA];lia
theorem Zm (h:∀ x∈r,cA x) (hl:r.length<=1000) (hd:cB μ d=some ((r.map zx).map D.str)) (hns:∀ c,d≠.str c) (q:Q (.str (txt r)) μ):vG "join" (.str [32]) [d] μ Q:=by
 have e:vG "join" (.str [32]) [d] μ Q=Fe "join" (.str [32]) [d] μ Q:=rfl;rw[e];unfold Fe;simp only;split
 .rename_i c hc
  have:=N5 hc;exact absurd this.1 (hns _)
 .rename_i d' hd' hc
  have:=(N5 hc).1;subst this;rw[hd];simp only[lu,u0];refine⟨trivial,?_,q⟩;have:=MK h;simp only[aR,bA,aL,lim];lia
 .rename_i h1 h2
  exact absurd rfl (h2 d)
theorem txt_nil (h:∀ x∈r,cA x):txt r=[]<->r=[]:=by
 constructor
 .intro e
  cases r with
  |nil=>rfl|cons x r=>
   have hx:=(G7 (h x (by simp))).2.2.2;unfold txt at e;cases r with
   |nil=>exact absurd e hx|cons y r=>simp only[aX,dJ]at e;simp at e
 .rintro rfl;rfl
theorem Jp:∀ {ws:List (List Nat)} {c:Nat},c∈dJ sep ws->c∈sep∨∃ w∈ws,c∈w
 |[],c,h=>by simp[dJ]at h|[w],c,h=>.inr ⟨w,by simp,h⟩|w::v::r,c,h=>by
  simp only[dJ,iG]at h;rcases h with(h|h)|h
  .exact .inr ⟨w,by simp,h⟩
  .exact .inl h
  .rcases Jp h with h|⟨u,hu,hc⟩
   .exact .inl h
   .exact .inr ⟨u,by simp only[bC]at hu ⊢;exact .inr hu,hc⟩
theorem Uz (h:∀ x∈r,cA x):vK (txt r):=kJ.mpr fun c hc=>by
 rcases Jp hc with h1|⟨w,hw,h1⟩
 .have:c=32:=by simpa using h1
  lia
 .obtain⟨x,hx,rfl⟩:=jQ.mp hw
  exact kJ.mp (G7 (h x hx)).1 c h1
theorem Sh:∀ (sep:List Nat) (ws:List (List Nat)),(dJ sep ws).length<=(ws.map dR).sum+ws.length*sep.length
 |sep,[]=>by simp[dJ]|sep,[w]=>by simp[dJ]|sep,w::v::r=>by have:=Sh sep (v::r);simp only[dJ,gG,aX,H6,bA,ab2]at this ⊢;lia
theorem Mv (h:∀ x∈r,cA x):(txt r).length<=51*r.length:=by have h1:=Sh [32] (r.map zx);have h2:=MK h;unfold txt;simp at h1 h2 ⊢;lia
theorem Rm (h:t.length<lim) (q:Q (.lst ((cO 32 t).map .str)) μ):vG "split" (.str t) [.str [32]] μ Q:=⟨⟨by decide,h⟩,false,q⟩
end DW.TX
namespace DW
open PySem
def Py:List Str:=["script","k","here","number","j","part"]
def Qn:Ss:=(.cons (.set 2 (.bin .Add (.bin .Mult (.cst (.int 7919)) (.var 1)) (.cst (.int 13)))) (.cons (.ite (.cmp .Lt (.var 1) (.blt "len" (.cons (.var 0) .nil))) (.cons (.set 2 (.idx (.var 0) (.var 1))) .nil) .nil) (.cons (.ite (.cmp .Eq (.bin .Mod (.var 2) (.cst (.int 2))) (.cst (.int 0))) (.cons (.ret (.lst true (.cons (.bin .FloorDiv (.var 2) (.cst (.int 2))) .nil))) .nil) .nil) (.cons (.set 3 (.cst (.int 0))) (.cons (.for_ [4] false (.rng (.cons (.cst (.int 16)) .nil)) (.cons (.set 5 (.bin .Mod (.bin .Add (.bin .Add (.bin .Mult (.bin .Mod (.var 2) (.cst (.int 2147483647))) (.cst (.int 48271))) (.bin .Mult (.cst (.int 7919)) (.var 4))) (.cst (.int 1))) (.cst (.int 2147483647)))) (.cons (.set 5 (.bin .Mod (.bin .Mult (.var 5) (.var 5)) (.cst (.int 2147483629)))) (.cons (.set 3 (.bin .Add (.bin .Mult (.var 3) (.cst (.int 2147483647))) (.bin .Mod (.bin .Mult (.var 5) (.bin .Add (.var 5) (.cst (.int 13)))) (.cst (.int 2147483647))))) .nil)))) (.cons (.ret (.lst true (.cons (.var 3) .nil))) .nil))))))
theorem LR (ns:List Int) (k c:Int) (μ:Mem) (Q:QD) (h:∀ b,Q (.loc μ.length) (μ++[.lst [.int b]])):
  wSs (.cons (.ite (.cmp .Eq (.bin .Mod (.var 2) (.cst (.int 2))) (.cst (.int 0))) (.cons (.ret (.lst true (.cons (.bin .FloorDiv (.var 2) (.cst (.int 2))) .nil))) .nil) .nil) (.cons (.set 3 (.cst (.int 0))) (.cons (.for_ [4] false (.rng (.cons (.cst (.int 16)) .nil)) (.cons (.set 5 (.bin .Mod (.bin .Add (.bin .Add (.bin .Mult (.bin .Mod (.var 2) (.cst (.int 2147483647))) (.cst (.int 48271))) (.bin .Mult (.cst (.int 7919)) (.var 4))) (.cst (.int 1))) (.cst (.int 2147483647)))) (.cons (.set 5 (.bin .Mod (.bin .Mult (.var 5) (.var 5)) (.cst (.int 2147483629)))) (.cons (.set 3 (.bin .Add (.bin .Mult (.var 3) (.cst (.int 2147483647))) (.bin .Mod (.bin .Mult (.var 5) (.bin .Add (.var 5) (.cst (.int 13)))) (.cst (.int 2147483647))))) .nil)))) (.cons (.ret (.lst true (.cons (.var 3) .nil))) .nil))))
   (bI Q) [some (.ro (ns.map D.int)),some (.int k),some (.int c),none,none,none] μ:=by
 simp[wSs,wS,wT,wE,wEs,wI,bI,jq,cM,flat,fU];by_cases hc:lN (.int (c%2)) (.int 0)=true
 .simp[hc,Ml,lim,newL,h]
 .simp only[hc,if_neg,bZ,not_false_eq_true,Bl,mK]
  refine⟨by decide,by decide,?_⟩;refine cU (fun ds ρ μ'=>μ'=μ/\(∀ d∈ds,∃ i:Int,d= .int i/\0<=i/\i<1000)/\∃ v w x,ρ=[some (.ro (ns.map D.int)),some (.int k),some (.int c),some (.int v),w,x]) ?_ ?_ _ _ _ ⟨rfl,?_,0,none,none,rfl⟩
  .rintro d ds ρ μ' N hN ⟨rfl,hd,v,w,x,rfl⟩
   obtain⟨i,rfl,i0,i1⟩:=hd d (by simp);refine⟨trivial,?_⟩;simp[eX,jq];refine⟨.inr (by lia),.inl (by lia),?_⟩;generalize (c%2147483647*48271+7919*i+1)=z;(have hz0:0<=z%2147483647:=by lia);(have hz1:z%2147483647<2147483647:=by lia);refine⟨.inl (by lia),?_⟩;generalize z%2147483647*(z%2147483647)=y;(have hy0:0<=y%2147483629:=by lia);(have hy1:y%2147483629<2147483629:=by lia);refine⟨.inr (by lia),.inl (by lia),?_⟩;exact hN _ _ ⟨rfl,fun d q=>hd d (by simp[q]),_,_,_,rfl⟩
  .rintro ρ μ' ⟨rfl,-,v,w,x,rfl⟩
   refine⟨trivial,?_⟩;simp[lim,newL];exact h _
  .intro d hd
   simp only[eU,jQ,H7]at hd;obtain⟨j,hj,rfl⟩:=hd;exact⟨_,rfl,by lia,by lia⟩
theorem ahj:Keeps Py Qn vf:=by
 intro ds μ Q h;unfold vf at h;split at h
 .obtain⟨ns,rfl,hl,hk,h⟩:=h
  rename_i k;unfold Qn;rw[wSs,wS];simp only[Py,aD,wE,jq,aX,aV,bA,aL,bh,aM,aJ,aZ,bD,bY,bW];refine⟨.inl (by lia),?_⟩;rw[wSs,wS];simp only[wT,wE,wEs,bO,lenOf,aC,gF,aJ,aZ,cM,PK,fU,aR];by_cases c:k<(ns.length:Int)
  .simp only[c,decide_true,if_true]
   have e:n6 (ns.map D.int).length k=some k.toNat:=akc hk (by simpa using c);(have h2:k.toNat<ns.length:=by lia);simp only[wSs,wS,wE,dH,aC,e,lu,aJ,aZ,jw,dw h2,gF,bY,bW];exact LR ns k _ μ Q h
  .simp only[c,decide_false,bZ,if_false]
   exact LR ns k _ μ Q h
 .exact h.elim
end DW
namespace DW.Fb
open PySem DW DW.Ue DW.TX DW.K25
def QK:List (List Nat):=[[114,111,119],[115,111,114,116,101,100],[108,111,97,100,115],[110,97,116,117,114,97,108],[99,104,111,115,101,110],[102,97,114],[112,111,117,114],[109,111,118,101,100],[108,101,118,101,108],[115,111,114,116],[100,101,101,100,115]]
noncomputable abbrev YC:List Nat:=[114,111,119]
noncomputable abbrev agk:List Nat:=[99,108,101,97,114]
noncomputable abbrev w_add:List Nat:=[97,100,100]
noncomputable abbrev wR:List Nat:=[114,111,111,109]
noncomputable abbrev aiw:List Nat:=[111,107]
noncomputable abbrev yR:List Nat:=[99,104,111,115,101,110]
noncomputable abbrev Mp:List Nat:=[112,111,117,114]
noncomputable abbrev YD:List Nat:=[102,97,114]
def tG:dh:=fun ds μ Q=>∃ n:Nat,ds=[.loc n]/\Ac μ n/\∀ (x:Itm) b,cA x->Q (aK x) (bx μ n b)
noncomputable abbrev gC:dh:=Bs
def zV:List Str:=["box","key"]
def Ai:Ss:=(.cons (.set 1 (.bin .Sub (.call "_law_take" cg (.cons (.var 0) (.cons (.cst (.int 9)) .nil))) (.cst (.int 4)))) (.cons (.ite (.cmp .Eq (.call "_law_take" cg (.cons (.var 0) (.cons (.cst (.int 8)) .nil))) (.cst (.int 7))) (.cons (.set 1 (.bin .Sub (.call "_law_take" cg (.cons (.var 0) (.cons (.bin .Mult (.cst (.int 2)) (.bin .Pow (.cst (.int 10)) (.cst (.int 20)))) .nil))) (.bin .Pow (.cst (.int 10)) (.cst (.int 20))))) .nil) .nil) (.cons (.ret (.tup (.cons (.var 1) (.cons (.idx (.lst false (.cons (.cst (.str [])) (.cons (.cst (.str [])) (.cons (.cst (.str [97])) (.cons (.cst (.str [98])) (.cons (.cst (.str [97,98])) (.cons (.cst (.str [97,98,99,100,101,102,103,104])) .nil))))))) (.call "_law_take" cg (.cons (.var 0) (.cons (.cst (.int 6)) .nil)))) .nil)))) .nil)))
def I7:List Str:=["box","most"]
def Jw:Ss:=(.cons (.ret (.comp false 1 false [0] (.call "_law_item" tG (.cons (.var 1) .nil)) (.rng (.cons (.call "_law_take" cg (.cons (.var 0) (.cons (.bin .Add (.var 1) (.cst (.int 1))) .nil))) .nil)) .nil)) .nil)
def Gb:List Str:=["one","other"]
def Gm:Ss:=(.cons (.ret (.or (.cmp .Lt (.idx (.var 0) (.cst (.int 0))) (.idx (.var 1) (.cst (.int 0)))) (.and (.cmp .Eq (.idx (.var 0) (.cst (.int 0))) (.idx (.var 1) (.cst (.int 0)))) (.cmp .Lt (.idx (.var 0) (.cst (.int 1))) (.idx (.var 1) (.cst (.int 1))))))) .nil)
def j8:List Str:=["row","found","item","at"]
def kj:Ss:=(.cons (.set 1 (.lst true .nil)) (.cons (.for_ [2] false (.seq (.var 0)) (.cons (.set 3 (.blt "len" (.cons (.var 1) .nil))) (.cons (.whl (.and (.cmp .Gt (.var 3) (.cst (.int 0))) (.call "_law_less" gC (.cons (.var 2) (.cons (.idx (.var 1) (.bin .Sub (.var 3) (.cst (.int 1)))) .nil)))) (.cons (.set 3 (.bin .Sub (.var 3) (.cst (.int 1)))) .nil)) (.cons (.exp (.meth "insert" (.var 1) (.cons (.var 3) (.cons (.var 2) .nil)))) .nil)))) (.cons (.ret (.frz (.var 1))) .nil)))
theorem Qg:Keeps Gb Gm gC:=ae7
theorem qe:Keeps j8 kj m5:=fun ds μ Q h=>DW.qe ds μ Q h
theorem Qh:Keeps zV Ai tG:=by
 rintro ds μ Q ⟨n,rfl,hb,h⟩;have tl:∀ (k:Int) (b1:Int),keyOk k->∀ (v:Option D),wSs (.cons (.ret (.tup (.cons (.var 1) (.cons (.idx (.lst false (.cons (.cst (.str [])) (.cons (.cst (.str [])) (.cons (.cst (.str [97])) (.cons (.cst (.str [98])) (.cons (.cst (.str [97,98])) (.cons (.cst (.str [97,98,99,100,101,102,103,104])) .nil))))))) (.call "_law_take" cg (.cons (.var 0) (.cons (.cst (.int 6)) .nil)))) .nil)))) .nil) (bI Q) [some (.loc n),some (.int k)] (bx μ n b1):=by
  intro k b1 hk v;have hb2:=lF (b:=b1) hb;simp[bI,wSs,wS,wE,wEs,dH,aC,newL,newR,lim,cg,hb2,ZQ];intro d b d0 d6;have e:n6 6 d=some d.toNat:=by simp[n6,d0,d6]
  rw[e];have hd:d.toNat<6:=by lia
  simp only[lu];generalize d.toNat=j at hd
  match j,hd with
  |0,_=>exact h (k,[]) _ ⟨hk,show []∈tags by decide⟩|1,_=>exact h (k,[]) _ ⟨hk,show []∈tags by decide⟩|2,_=>exact h (k,[97]) _ ⟨hk,show [97]∈tags by decide⟩|3,_=>exact h (k,[98]) _ ⟨hk,show [98]∈tags by decide⟩|4,_=>exact h (k,[97,98]) _ ⟨hk,show [97,98]∈tags by decide⟩|5,_=>exact h (k,[97,98,99,100,101,102,103,104]) _ ⟨hk,show [97,98,99,100,101,102,103,104]∈tags by decide⟩
 unfold Ai;rw[wSs,wS];simp[zV,aD,wE,wEs,cg,hb,jq];intro d b d0 d9;have hb2:=lF (b:=b) hb;rw[wSs,wS];simp[wT,wE,wEs,cg,hb2,cM,flat,fU,ZQ];intro d' b' d0' d8';have hb3:=lF (b:=b') hb;by_cases c:lN (.int d') (.int 7)=true
 .simp[c,wSs,wS,wE,wEs,cg,hb3,jq,ais,af5,ZQ]
  intro a b2 a0 a1;have:=tl (a -100000000000000000000) b2 ⟨by lia,by lia⟩ none;simpa[wSs,wS,wE,wEs,cg]using this
 .simp only[c,if_neg,bZ,not_false_eq_true]
  exact tl (d -4) b' ⟨by lia,by lia⟩ none
theorem XJ:Keeps I7 Jw vd:=by
 intro ds μ Q h;unfold vd at h;split at h
 .obtain⟨hb,m0,m1,h⟩:=h
  rename_i n m;simp[Jw,I7,aD,bI,wSs,wS,wE,wEs,wI,wTs,jq,cg,hb,Bl,mK];refine⟨by lia,by lia,fun d b d0 d1=>⟨by simp only[lim];lia,by lia,?_⟩⟩;refine pG (fun ds acc μ'=>∃ (r:List Itm) (b:Int),acc=r.map aK/\μ'=bx μ n b/\(∀ x∈r,cA x)/\((r.length+ds.length:Nat):Int)<=m) ?_ ?_ _ _ _ ⟨[],b,rfl,rfl,by simp,?_⟩
  .rintro d ds acc μ' Y N hY hN ⟨r,b,rfl,rfl,hr,hl⟩
   have hb2:=lF (b:=b) hb;simp[bindC];refine⟨n,rfl,hb2,fun x b3 hx=>?_⟩;rw[ZQ];refine hY _ _ ⟨r++[x],b3,by simp,rfl,?_,?_⟩
   .intro y hy
    simp at hy;rcases hy with hy|rfl
    .exact hr y hy
    .exact hx
   .simp at hl ⊢;lia
  .rintro acc μ' ⟨r,b,rfl,rfl,hr,hl⟩
   refine⟨trivial,?_⟩;simp[newL,newR];exact h _ _ (by simp at hl;lia) hr
  .simp[eU];lia
 .exact h.elim
def cI (r:List Itm) (a b c:Int):Cell:=.ins "Desk" [("row",.lst (r.map aK)),("room",.int a),("width",.int b),("drives",.int c)]
def noX:QX:=fun _ _ _ _=>False
def zu:dh:=fun ds μ Q=>∃ n:Nat,ds=[.loc n]/\μ[n]?=some (.ins "Desk" [])/\Q .non (μ.set n (cI [] 3 2 3))
def sY:dh:=fun ds μ Q=>∃ (n:Nat) (r:List Itm) (a b c:Int),ds=[.loc n]/\μ[n]?=some (cI r a b c)/\(∀ x∈r,cA x)/\r.length<=1000/\Q (.str (txt r)) μ
def oh:dh:=fun ds μ Q=>∃ (n:Nat) (r m:List Itm) (a b c:Int),ds=[.loc n,.lst ((m.map zx).map D.str)]/\μ[n]?=some (cI r a b c)/\(∀ x∈m,cA x)/\r.length+m.length<=200/\Q (.str (jo ((r++m).length:Nat))) (μ.set n (cI (r++m) a b c))
def mD:dh:=fun ds μ Q=>∃ (n:Nat) (r:List Itm) (a b c:Int) (m:Nat),ds=[.loc n,.str wR,.str (dg m)]/\μ[n]?=some (cI r a b c)/\1<=m/\m<=50/\Q (.str aiw) (μ.set n (cI r m b c))
def Ek:List Str:=["self"]
def Eu:Ss:=(.cons (.pN "Desk" "row" (.var 0) (.lst false .nil)) (.cons (.pN "Desk" "room" (.var 0) (.cst (.int 3))) (.cons (.pN "Desk" "width" (.var 0) (.cst (.int 2))) (.cons (.pN "Desk" "drives" (.var 0) (.cst (.int 3))) .nil))))
def pZ:List Str:=["self","words"]
def qj:Ss:=(.cons (.ite (.not (.blt "all" (.cons (.comp false 1 false [] (.call "is_item_text" rJ (.cons (.var 0) .nil)) (.seq (.var 1)) .nil) .nil))) (.cons .Xn .nil) .nil) (.cons (.ite (.cmp .Gt (.bin .Add (.blt "len" (.cons (.fld "Desk" "row" (.var 0)) .nil)) (.blt "len" (.cons (.var 1) .nil))) (.gbl "MOST_ITEMS" (.int 200))) (.cons .Xn .nil) .nil) (.cons (.pN "Desk" "row" (.var 0) (.bin .Add (.fld "Desk" "row" (.var 0)) (.comp false 1 false [] (.call "read_item" qK (.cons (.var 0) .nil)) (.seq (.var 1)) .nil))) (.cons (.ret (.blt "str" (.cons (.blt "len" (.cons (.fld "Desk" "row" (.var 0)) .nil)) .nil))) .nil))))
def nP:List Str:=["self","word","text","number"]
def nU:Ss:=(.cons (.ite (.not (.call "are_figures" jr (.cons (.var 2) .nil))) (.cons .Xn .nil) .nil) (.cons (.set 3 (.blt "int" (.cons (.var 2) .nil))) (.cons (.ite (.cmp .Eq (.var 1) (.cst (.str [114,111,111,109]))) (.cons (.exp (.call "check_room" dZ (.cons (.var 3) .nil))) (.cons (.pN "Desk" "room" (.var 0) (.var 3)) .nil)) (.cons .Xn .nil)) (.cons (.ret (.cst (.str [111,107]))) .nil))))
def Xu:List Str:=["self","line","words"]
def abz:Ss:=(.cons (.ite (.and (.cmp .Eq (.idx (.var 2) (.cst (.int 0))) (.cst (.str [97,100,100]))) (.cmp .Gt (.blt "len" (.cons (.var 2) .nil)) (.cst (.int 1)))) (.cons (.ret (.q9 "Desk" "add_items" oh (.var 0) (.cons (.slc false (.var 2) (.cons (.cst (.int 1)) .nil) .nil) .nil))) .nil) .nil) (.cons (.ite (.and (.cmp .In (.idx (.var 2) (.cst (.int 0))) (.tup (.cons (.cst (.str [114,111,111,109])) (.cons (.cst (.str [119,105,100,116,104])) (.cons (.cst (.str [100,114,105,118,101,115])) .nil))))) (.cmp .Eq (.blt "len" (.cons (.var 2) .nil)) (.cst (.int 2)))) (.cons (.ret (.q9 "Desk" "keep_number" mD (.var 0) (.cons (.idx (.var 2) (.cst (.int 0))) (.cons (.idx (.var 2) (.cst (.int 1))) .nil)))) .nil) .nil) (.cons .Xn .nil)))
def aby (spA:rH):Ss:=(.cons (.ite (.not (.isin (.var 1) "str")) (.cons .Xn .nil) .nil) (.cons (.ite (.isin (.var 1) "ASKED" (some QK)) (.cons (.aai (.dsp "ASKED" QK spA (.var 1) (.cons (.var 0) .nil))) .nil) .nil) (.cons (.ite (.cmp .Eq (.var 1) (.cst (.str [99,108,101,97,114]))) (.cons (.pN "Desk" "row" (.var 0) (.lst false .nil)) (.cons (.ret (.cst (.str [48]))) .nil)) .nil) (.cons (.set 2 (.Rj "split" (.var 1) (.cons (.cst (.str [32])) .nil))) abz))))
def aio (spA:rH) (n:Nat) (r:List Itm) (a b c:Int) (line:List Nat) (μ:Mem) (Q:QD):Prop:=
 (QK.contains line=true/\spA [.str line,.loc n] μ Q noX)∨(line=agk/\Q (.str [48]) (μ.set n (cI [] a b c)))∨
 (∃ m:List Itm,line=w_add++32::txt m/\m≠[]/\(∀ x∈m,cA x)/\r.length+m.length<=200/\Q (.str (jo ((r++m).length:Nat))) (μ.set n (cI (r++m) a b c)))∨
 (∃ m:Nat,line=wR++32::dg m/\1<=m/\m<=50/\Q (.str aiw) (μ.set n (cI r m b c)))
def U4 (spA:rH):dh:=fun ds μ Q=>∃ (n:Nat) (r:List Itm) (a b c:Int) (line:List Nat),ds=[.loc n,.str line]/\μ[n]?=some (cI r a b c)/\aio spA n r a b c line μ Q
theorem Sd:Keeps Ek Eu zu:=by
 rintro ds μ Q ⟨n,rfl,hn,q⟩;have hs:∀ c,(Ve μ n c)[n]?=some c:=fun c=>by rw[eF];exact(cj.mp hn).1
 simp only[Eu,Ek,aD,bI,wSs,wS,wE,wEs,newL,aX,aV,bA,aL,bh,aM,aJ,bD,kZ,dB,hn,hs,putD,List.set_set];simpa[lim,putD,cI,hs,dB]using q
theorem Dh:Keeps pZ qj oh:=by
 rintro ds μ Q ⟨n,r,m,a,b,c,rfl,hn,hm,hl,q⟩;have hs:∀ c,(Ve μ n c)[n]?=some c:=fun c=>by rw[eF];exact(cj.mp hn).1
 simp only[qj,pZ,aD,bI,wSs,wS,wT,wE,wEs,wI,newL,aX,aV,bA,aL,bh,aM,aJ,aZ,bD,lO];rw[oG];refine dF (D.str ∘ zx) (fun _=>D.bl true) trivial _ _ ?_ ?_
 .intro x hx Y N z
  simp only[bindC,wTs,aJ,if_true,adi];refine⟨zx x,rfl,(G7 (hm x hx)).1,?_⟩;rw[agA (hm x hx)];exact z
 .rw[aM]
  have e1:allB (m.map fun _=>D.bl true)=some true:=by rw[J4 (fun _=>true)];simp
  simp only[bO,cB,aC,lu,e1,fM,truth,pO,bZ,if_false,gY,dB,hn,cI,if_true,bB,lenOf,gF,aR,jq,cM,fU];simp only[show decide ((200:Int)<(r.length:Int)+(m.length:Int))=false from decide_eq_false (by lia),bZ,if_false];refine dF (D.str ∘ zx) aK trivial _ _ ?_ ?_
  .intro x hx Y N z
   simp only[bindC,wTs,aJ,if_true,adi];exact abM (hm x hx) z
  .rw[aM]
   refine⟨by simp only[aR,lim];lia,?_⟩;simp only[kZ,dB,hn,cI,if_true];refine⟨by simp,?_⟩;(have hk:keyOk ((r++m).length:Nat):=by simp only[keyOk,gG];lia);simp only[putD,acw,if_false,if_true,hs,bB,<-mH,aR];refine⟨?_,?_⟩
   .simpa using oU hk
   .simpa[cI]using q
theorem yC:Keeps nP nU mD:=by
 rintro ds μ Q ⟨n,r,a,b,c,m,rfl,hn,h1,h2,q⟩;have hf:=Yc (m:=m) (by lia);have hok:vK (dg m):=kJ.mpr fun c hc=>by have:=uT hc;lia
 simp only[nU,nP,aD,bI,wSs,wS,wT,wE,wEs,newL,aX,aV,bA,aL,bh,aM,aJ,aZ,bD,bY,bW];refine⟨dg m,rfl,hok,?_⟩;simp only[hf,fM,truth,pO,bZ,if_false,bO];refine⟨m,⟨by have:=Dn (m:=m) (by lia);lia,?_⟩,?_⟩
 .have:=Tt (k:=m) (by lia) (by lia)
  rwa[uU]at this
 .simp only[cM]
  refine⟨by decide,by decide,?_⟩;simp only[eq_str,fU,beq_self_eq_true,if_true];refine⟨m,rfl,by lia,by lia,?_⟩;simp only[kZ,dB,hn,cI,if_true];refine⟨by simp,?_⟩;simpa[putD,cI]using q
theorem ai2 (hx:∀ ρ,Z.xc ρ=noX) (hn:μ[n]?=some (cI r a b c)) (h:aio spA n r a b c line μ Z.rt):wSs (aby spA) Z [some (.loc n),some (.str line),v] μ:=by
 have hs:∀ c,(Ve μ n c)[n]?=some c:=fun c=>by rw[eF];exact(cj.mp hn).1
 simp only[aby,wSs,wS,wT,wE,wEs,aJ,aZ,bY,bW,sH,tyOf,Kv,beq_self_eq_true,Bool.true_or,fU,pO,bZ,if_false,Uh,fM,truth];rcases h with⟨hc,h⟩|⟨rfl,h⟩|⟨m,rfl,m0,hm,hl,h⟩|⟨m,rfl,m1,m2,h⟩
 .rw[if_pos hc]
  simp only[wXC,wE,wEs,aJ,aZ,isKey];refine⟨hc,?_⟩;rw[hx];exact h
 .rw[if_neg (by decide)]
  simp only[cM];refine⟨by decide,by decide,?_⟩;simp only[eq_str,beq_self_eq_true,if_true,newL,kZ,dB,hn,cI];refine⟨by decide,by simp,?_⟩;simpa[putD,cI]using h
 .have h0:txt m≠[]:=mt (txt_nil hm).mp m0
  rw[if_neg (by simp[QK])];have hok:vK (w_add++32::txt m):=vg (show vK _ from rfl) (vg (a:=[32]) (show vK _ from rfl) (Uz hm));simp only[cM];refine⟨gQ hok 60,by decide,?_⟩;rw[eq_str,if_neg (by simp)];refine⟨vP _ (by decide) (by decide) _ _,Rm (by have:=Mv hm;simp only[lim,gG,bA,aL];lia) ?_⟩;have hsp:cO 32 (w_add++32::txt m)=w_add::m.map zx:=by rw[qJ (by decide),txt,GZ (by simpa using m0) fun w hw=>?_];obtain⟨x,hx,rfl⟩:=jQ.mp hw;exact(G7 (hm x hx)).2.2.1
  rw[hsp];have hm1:1<=m.length:=by cases m with|nil=>exact absurd rfl m0|cons=>simp
  simp only[abz,wSs,wS,wT,wE,wEs,wO,yS,aJ,aZ,bY,bW,aX,dH,aC,cM];have i0:n6 (D.str w_add::(m.map zx).map D.str).length 0=some 0:=by simp[n6]
  simp only[i0,lu,aJ];refine⟨by decide,by decide,?_⟩;simp only[eq_str,fU,beq_self_eq_true,if_true,bO,lenOf,aC,gF,bA,aR];rw[if_pos (by simp;lia)];refine⟨by simp[gP,dB,hn,cI,bB],?_⟩;simp only[Fg,newL];refine⟨n,r,m,a,b,c,?_,hn,hm,hl,h⟩;simp[cutD,j4,tM]
 .have hdg:∀ c∈dg m,48<=c/\c<=57:=fun c hc=>uT hc
  have h32:32∉dg m:=fun z=>by have:=hdg _ z;lia
  rw[if_neg (by simp[QK])];have hok:vK (wR++32::dg m):=vg (show vK _ from rfl) (vg (a:=[32]) (show vK _ from rfl) (kJ.mpr fun c hc=>by have:=hdg c hc;lia));simp only[cM];refine⟨gQ hok 60,by decide,?_⟩;rw[eq_str,if_neg (by simp)];refine⟨vP _ (by decide) (by decide) _ _,Rm (by have:=Dn (m:=m) (by lia);simp only[lim,gG,bA,aL];lia) ?_⟩;have hsp:cO 32 (wR++32::dg m)=[wR,dg m]:=by rw[qJ (by decide),u5 h32]
  rw[hsp];simp only[abz,wSs,wS,wT,wE,wEs,wO,yS,aJ,aZ,bY,bW,aX,aV,dH,aC,cM];have i0:n6 [D.str wR,D.str (dg m)].length 0=some 0:=rfl;have i1:n6 [D.str wR,D.str (dg m)].length 1=some 1:=rfl;simp only[i0,i1,lu,aJ,aZ];refine⟨by decide,by decide,?_⟩;simp only[eq_str,fU];rw[if_neg (by decide)];refine⟨by decide,by decide,by decide,?_⟩;rw[if_pos (by decide)];simp only[bO,lenOf,aC,gF,bA,aL];refine⟨by decide,by decide,?_⟩;rw[if_pos (by decide)];refine⟨by simp[gP,dB,hn,cI,bB],n,r,a,b,c,m,rfl,hn,m1,m2,h⟩
end DW.Fb
namespace DW.ZW
open PySem DW DW.Ue DW.TX DW.K25 DW.Fb DW.CHO
def RowC (μ:Mem) (d:D) (r:List Itm):Prop:=d= .lst (r.map aK)∨∃ l,d= .loc l/\μ[l]?=some (.lst (r.map aK))
theorem RowC.walk (h:RowC μ d r) (q:∀ g:Mem->Prop,g μ->Q (r.map aK) g μ):lO d μ Q:=by
 rcases h with rfl|⟨l,rfl,h⟩
 .exact q _ trivial
 .simp only[lO,h]
  exact q _ h
theorem M4:∀ (tk:List Tk) (run:List Itm),wQ tk->(∀ x∈run,cA x)->∀ r∈fO tk run,∀ x∈r,cA x
 |[],run,_,_,r,hr=>by simp[fO]at hr|none::tk,run,h,hr',r,hr=>by
  simp only[fO,bC]at hr;rcases hr with rfl|hr
  .exact hr'
  .exact M4 tk [] (fun x hx=>h x (by simp[hx])) (by simp) r hr
 |some y::tk,run,h,hr',r,hr=>by
  simp only[fO]at hr;refine M4 tk (run++[y]) (fun x hx=>h x (by simp[hx])) (fun x hx=>?_) r hr;rcases iG.mp hx with hx|hx
  .exact hr' x hx
  .have:=cG.mp hx;subst this;exact h x (by simp)
theorem Hf:∀ (tk:List Tk) (run:List Itm),(fO tk run).length<=tk.length
 |[],run=>by simp[fO]|none::tk,run=>by have:=Hf tk [];simp only[fO,bA];lia|some y::tk,run=>by have:=Hf tk (run++[y]);simp only[fO,bA];lia
theorem aaX (m1:1<=m) (m2:m<=50) (hok:∀ x∈row,cA x):∀ r∈kW row m,∀ x∈r,cA x:=by
 have go:=Al row (lB m) (Px m1 m2) hok;refine M4 _ _ (fun x hx=>?_) (by simp);rcases iG.mp hx with hx|hx
 .exact go.2.1 x hx
 .exact(akp go.1).2 x hx
theorem Hh:∀ {r:List Itm},(∀ x∈r,cA x)->flats (n+1) (r.map aK)=true
 |[],_=>rfl|x::r,h=>by have hf:=aaL (h x (by simp));have ih:=Hh (n:=n) (r:=r) fun y hy=>h y (by simp[hy]);simp only[aK,flat,flats,V0,lZ]at hf;simp only[aX,flats,aK,flat,V0,lZ,hf,ih]
theorem Bw (h:∀ r∈rs,∀ x∈r,cA x):flat 60 (.lst (lq rs))=true:=by
 simp only[flat,lq];induction rs with
 |nil=>rfl|cons r rs ih=>have ih:=ih fun q hq=>h q (by simp[hq]);simp only[aX,flats,flat,Hh (h r (by simp)),ih,V7]
theorem K4 {μ:Mem} {ls:List Nat} {rs:List (List Itm)} (hl:ls.length=rs.length) (h:∀ (i l:Nat) (r:List Itm),ls[i]?=some l->rs[i]?=some r->μ[l]?=some (.lst (r.map aK))):eN μ 8 (.lst (ls.map D.loc))= .lst (lq rs):=by
 rw[GJ];congr 1;apply Ij;intro i;by_cases c:i<ls.length
 .have c':i<rs.length:=by lia
  have:=h i ls[i] rs[i] (dw c) (dw c');have e:=GK this 6;rw[Rc μ 6 aK (fun x=>YK μ 6 x)]at e;simp only[jw,dw c,gF,lq,dw c'];rw[e]
 .simp[lq,c,Ib c,hl▸c,show rs.length<=i by lia]
theorem Gh (ls:List Nat) (q:Nat):(n6 ((ls++[q]).map D.loc).length (-1)).bind (((ls++[q]).map D.loc)[·]?)=some (.loc q):=by
 have e:n6 ((ls++[q]).map D.loc).length (-1)=some ls.length:=by unfold n6;rw[if_neg (by decide),if_pos (by simp;lia)];congr 1;simp;lia
 rw[e,lu];simp
def jh:dh:=fun ds μ Q=>∃ (d:D) (r:List Itm),ds=[d]/\RowC μ d r/\(∀ x∈r,cA x)/\r.length<=1000/\Q (.str (txt r)) μ
def nO:List Str:=["row"]
def nR:Ss:=(.cons (.ret (.Rj "join" (.cst (.str [32])) (.cons (.comp false 1 false [] (.call "show_item" zm (.cons (.var 0) .nil)) (.seq (.var 0)) .nil) .nil))) .nil)
theorem yx:Keeps nO nR jh:=by
 rintro ds μ Q ⟨d,r,rfl,hd,hr,hl,q⟩;simp only[nR,nO,aD,bI,wSs,wS,wE,wEs,wI,newL,aX,aV,bA,aL,bh,aM,aJ,bD];refine⟨vP _ (by decide) (by decide) _ _,?_⟩;refine hd.walk fun g hg=>?_;refine dF aK (fun x=>D.str (zx x)) hg _ _ ?_ ?_
 .intro x hx Y N z
  obtain⟨t1,t2,_⟩:=Mx (hr x hx).2;simp only[bindC,wTs,aJ,if_true];exact⟨x,rfl,(hr x hx).1,t1,by lia,z⟩
 .rw[aM]
  refine Zm hr hl (by simp[cB,aC,Cv]) (fun c=>by simp) q
def nM:List Str:=["desk"]
def nQ:Ss:=(.cons (.ret (.call "show_row" jh (.cons (.fld "Desk" "row" (.var 0)) .nil))) .nil)
theorem yw:Keeps nM nQ sY:=by rintro ds μ Q ⟨n,r,a,b,c,rfl,hn,hr,hl,q⟩;simp only[nQ,nM,aD,bI,wSs,wS,wE,wEs,aX,aV,bA,aL,bh,aM,aJ,bD,gY,dB,hn,cI,if_true,bB];exact⟨_,r,rfl,.inl rfl,hr,hl,q⟩
def Bu (rs:List (List Itm)):List Nat:=if rs=[]then [110,111,110,101]else dJ [32,124,32] (rs.map txt)
theorem ah4 (hd:cB μ d=some (ws.map D.str)) (hns:∀ c,d≠.str c) (hb:(ws.map dR).sum+ws.length*3<=lim) (q:Q (.str (dJ [32,124,32] ws)) μ):vG "join" (.str [32,124,32]) [d] μ Q:=by
 have e:vG "join" (.str [32,124,32]) [d] μ Q=Fe "join" (.str [32,124,32]) [d] μ Q:=rfl;rw[e];unfold Fe;simp only;split
 .rename_i c hc
  have:=N5 hc;exact absurd this.1 (hns _)
 .rename_i d' hd' hc
  have:=(N5 hc).1;subst this;rw[hd];simp only[lu,u0];exact⟨trivial,by simpa using hb,q⟩
 .rename_i h1 h2
  exact absurd rfl (h2 d)
def Rows (μ:Mem) (ls:List Nat) (rs:List (List Itm)):Prop:=ls.length=rs.length/\∀ (i l:Nat) (r:List Itm),ls[i]?=some l->rs[i]?=some r->μ[l]?=some (.lst (r.map aK))
def Small (rs:List (List Itm)):Prop:=rs.length<=300/\∀ r∈rs,(∀ x∈r,cA x)/\r.length<=300
theorem MJ:∀ {rs:List (List Itm)},(∀ r∈rs,(∀ x∈r,cA x)/\r.length<=300)->((rs.map txt).map dR).sum<=15300*rs.length
 |[],_=>by simp|r::rs,h=>by have:=MJ (rs:=rs) fun y hy=>h y (by simp[hy]);have h1:=h r (by simp);have:=Mv h1.1;simp only[aX,H6,bA];lia
theorem Rows.zip (h:Rows μ ls rs):ls.map D.loc=(ls.zip rs).map (fun p=>D.loc p.1)/\(ls.zip rs).map (fun p=>D.str (txt p.2))=(rs.map txt).map D.str/\∀ p∈ls.zip rs,p.2∈rs/\RowC μ (.loc p.1) p.2:=by
 have e1:(ls.zip rs).map Nj=ls:=Wr (by rw[h.1];exact aB _);have e2:(ls.zip rs).map Vc=rs:=Oq (by rw[h.1];exact aB _);refine⟨?_,?_,fun p hp=>?_⟩
 .conv=>lhs;rw[<-e1]
  rw[oG];rfl
 .conv=>rhs;rw[<-e2]
  rw[oG,oG];rfl
 .obtain⟨i,hi⟩:=W5.mp hp
  obtain⟨h1,h2⟩:=ad6.mp hi;exact⟨pW h2,.inr ⟨_,rfl,h.2 i _ _ h1 h2⟩⟩
def g8:dh:=fun ds μ Q=>∃ (n:Nat) (ls:List Nat) (rs:List (List Itm)),ds=[.loc n]/\μ[n]?=some (.lst (ls.map D.loc))/\Rows μ ls rs/\Small rs/\Q (.str (Bu rs)) μ
def Ef:List Str:=["runs"]
def Eo:Ss:=(.cons (.ret (.ife (.var 0) (.Rj "join" (.cst (.str [32,124,32])) (.cons (.comp false 1 false [] (.call "show_row" jh (.cons (.var 0) .nil)) (.seq (.var 0)) .nil) .nil)) (.cst (.str [110,111,110,101])))) .nil)
theorem R6:Keeps Ef Eo g8:=by
 rintro ds μ Q ⟨n,ls,rs,rfl,hn,hR,hS,q⟩;simp only[Eo,Ef,aD,bI,wSs,wS,wT,wE,wEs,wI,newL,aX,aV,bA,aL,bh,aM,aJ,bD,fM,truth,lenOf,aC,hn,gF,aR,lO];obtain⟨z1,z2,z3⟩:=hR.zip;by_cases e:rs=[]
 .have e0:ls.length=0:=by rw[hR.1,e];rfl
  rw[Bu,if_pos e]at q;simpa[e0]using q
 .have e0:(ls.length !=0)=true:=by have:rs.length≠0:=fun z=>e (Xh z);rw[hR.1];simpa using this
  rw[Bu,if_neg e]at q;simp only[e0,if_true];refine⟨vP _ (by decide) (by decide) _ _,?_⟩;rw[z1];refine dF (fun p:Nat×List Itm=>D.loc p.1) (fun p=>D.str (txt p.2)) (by rw[<-z1];exact hn) _ _ ?_ ?_
  .intro p hp Y N z
   obtain⟨y1,y2⟩:=z3 p hp;simp only[bindC,wTs,aJ,if_true];exact⟨_,p.2,rfl,y2,(hS.2 _ y1).1,by have:=(hS.2 _ y1).2;lia,z⟩
  .rw[aM,z2]
   refine ah4 rfl (fun c=>by simp) ?_ q;have:=MJ hS.2;have:=hS.1;simp only[aR,lim];lia
theorem rE (m1:1<=m) (m2:m<=50) (hok:∀ x∈row,cA x) (hl:row.length<=60):Small (kW row m):=by
 have go:=Al row (lB m) (Px m1 m2) hok;have hf:=afu go.1;have ht:(DP row m).length<=300:=by unfold DP;rw[gG];have:=go.2.2;lia
 refine⟨jR (Hf _ _) ht,fun r hr=>⟨aaX m1 m2 hok r hr,?_⟩⟩;have:=M5 _ _ r hr;simp at this;lia
def tu:dh:=fun ds μ Q=>∃ (n:Nat) (r:List Itm) (m:Nat) (b c:Int),ds=[.loc n]/\μ[n]?=some (cI r (m:Int) b c)/\(∀ x∈r,cA x)/\r.length<=60/\1<=m/\m<=50/\∀ μ' n' ls,Pre μ μ'->LL μ' μ.length n' ls (kW r m)->Q (.loc n') μ'
def wD:List Str:=["desk"]
def wK:Ss:=(.cons (.ret (.call "chosen" K7 (.cons (.fld "Desk" "row" (.var 0)) (.cons (.fld "Desk" "room" (.var 0)) .nil)))) .nil)
theorem Kr:Keeps wD wK tu:=by rintro ds μ Q ⟨n,r,m,b,c,rfl,hn,hr,hl,m1,m2,q⟩;simp only[wK,wD,aD,bI,wSs,wS,wE,wEs,aX,aV,bA,aL,bh,aM,aJ,bD,gY,dB,hn,cI,if_true,bB];exact⟨r,m,rfl,by lia,m1,m2,hr,q⟩
def sZ:dh:=fun ds μ Q=>∃ (n:Nat) (r:List Itm) (m:Nat) (b c:Int),ds=[.loc n]/\μ[n]?=some (cI r (m:Int) b c)/\(∀ x∈r,cA x)/\r.length<=60/\1<=m/\m<=50/\∀ μ',Pre μ μ'->Q (.str (Bu (kW r m))) μ'
def wA:List Str:=["desk"]
def wH:Ss:=(.cons (.ret (.call "show_runs" g8 (.cons (.call "chosen_runs" tu (.cons (.var 0) .nil)) .nil))) .nil)
theorem Ko:Keeps wA wH sZ:=by rintro ds μ Q ⟨n,r,m,b,c,rfl,hn,hr,hl,m1,m2,q⟩;simp only[wH,wA,aD,bI,wSs,wS,wE,wEs,aX,aV,bA,aL,bh,aM,aJ,bD];refine⟨n,r,m,b,c,rfl,hn,hr,hl,m1,m2,fun μ' n' ls hp hL=>?_⟩;exact⟨n',ls,_,rfl,hL.at_,⟨hL.len,hL.row⟩,rE m1 m2 hr hl,q μ' hp⟩
def u9:dh:=fun ds μ Q=>∃ (d:D) (r:List Itm),ds=[d]/\RowC μ d r/\(∀ x∈r,cA x)/\r.length<=1000/\Q (.str (txt r)) μ
def RN:List Str:=["row"]
def S9:Ss:=(.cons (.ret (.Rj "join" (.cst (.str [32])) (.cons (.comp false 2 true [] (.bin .Add (.bin .Add (.blt "str" (.cons (.var 0) .nil)) (.bin .Mult (.cst (.str [58])) (.blt "int" (.cons (.cmp .NotEq (.var 1) (.cst (.str []))) .nil)))) (.var 1)) (.seq (.var 0)) .nil) .nil))) .nil)
theorem ae9:Keeps RN S9 u9:=by
 rintro ds μ Q ⟨d,r,rfl,hd,hr,hl,q⟩;simp only[S9,RN,aD,bI,wSs,wS,wE,wEs,wI,newL,aX,aV,bA,aL,bh,aM,aJ,bD];refine⟨vP _ (by decide) (by decide) _ _,?_⟩;refine hd.walk fun g hg=>?_;refine dF aK (fun x=>D.str (zx x)) hg _ _ ?_ ?_
 .intro x hx Y N z
  have hz:=hr x hx;obtain⟨t1,t2,_⟩:=Mx hz.2;have hd:=vq hz.1.1 hz.1.2;obtain⟨k,t⟩:=x;have t2':t.length<=8:=t2;have hd':(jo k).length<=41:=hd;simp only[bindC,aK,wTs,aX,aV,bh,aM,bA,aL,aJ,aZ,if_true,bO,cM];refine⟨trivial,oU hz.1,gQ t1 60,rfl,?_⟩;rw[eq_str];by_cases h:t=[]
  .subst h
   have e:∀ Q:QD,jq .Mult (.str [58]) (.int (if(!(([]:List Nat)==[]))=true then 1 else 0)) μ Q=(((0:Int)<=0/\(0:Int)<=1000/\1<=1/\1<=1000)/\Q (.str []) μ):=fun Q=>rfl;rw[e];refine⟨by decide,?_⟩;simp only[jq,qZ];exact⟨by simp[lim];lia,by simp[lim];lia,by simpa[zx]using z⟩
  .have hb:(!(t==[]))=true:=by simpa using h
   (have e:∀ Q:QD,jq .Mult (.str [58]) (.int (if(!(t==[]))=true then 1 else 0)) μ Q=(((0:Int)<=1/\(1:Int)<=1000/\1<=1/\1<=1000)/\Q (.str [58]) μ):=fun Q=>by rw[hb];rfl);rw[e];refine⟨by decide,?_⟩;simp only[jq];refine⟨by simp[lim];lia,by simp[lim];lia,?_⟩;simpa[zx,h]using z
 .rw[aM]
  refine Zm hr hl (by simp[cB,aC,Cv]) (fun c=>by simp) q
noncomputable abbrev gC:=Fb.gC
def G5:dh:=fun ds μ Q=>∃ (row:List Itm) (m:Nat),ds=[.lst (row.map aK),.int (m:Int)]/\row.length<=60/\1<=m/\m<=50/\(∀ x∈row,cA x)/\∀ μ' ls,Pre μ μ'->Rows μ' ls (kW row m)->Q (.lst (ls.map D.loc)) μ'
def Lj:List Str:=["row","room","waiting","kept","found","may","least","at"]
def agt:Ss:=(.cons (.set 6 (.idx (.call "_law_sorted" m5 (.cons (.var 5) .nil)) (.cst (.int 0)))) (.cons (.exp (.meth "append" (.idx (.var 4) (.neg (.cst (.int 1)))) (.cons (.var 6) .nil))) (.cons (.set 7 (.Rj "index" (.var 3) (.cons (.var 6) .nil))) (.cons (.set 3 (.bin .Add (.bin .Add (.slc false (.var 3) .nil (.cons (.var 7) .nil)) (.slc false (.var 3) (.cons (.bin .Add (.var 7) (.cst (.int 1))) .nil) .nil)) (.slc false (.var 2) .nil (.cons (.cst (.int 1)) .nil)))) (.cons (.set 2 (.slc false (.var 2) (.cons (.cst (.int 1)) .nil) .nil)) .nil)))))
def aiL:Ss:=(.cons (.ite (.cmp .Eq (.var 5) (.lst false .nil)) (.cons (.exp (.meth "append" (.var 4) (.cons (.lst true .nil) .nil))) (.cons (.set 5 (.var 3)) .nil)) .nil) agt)
def akY:Ss:=(.cons (.set 5 (.lst false .nil)) (.cons (.ite (.cmp .NotEq (.var 4) (.lst false .nil)) (.cons (.set 5 (.comp false 1 false [4] (.var 0) (.seq (.var 3)) (.cons (.not (.call "_law_less" gC (.cons (.var 0) (.cons (.idx (.idx (.var 1) (.neg (.cst (.int 1)))) (.neg (.cst (.int 1)))) .nil)))) .nil))) .nil) .nil) aiL))
def Lz:Ss:=(.cons (.set 2 (.blt "list" (.cons (.var 0) .nil))) (.cons (.set 3 (.slc false (.var 2) .nil (.cons (.var 1) .nil))) (.cons (.set 2 (.slc false (.var 2) (.cons (.var 1) .nil) .nil)) (.cons (.set 4 (.lst true .nil)) (.cons (.whl (.cmp .NotEq (.var 3) (.lst false .nil)) akY) (.cons (.ret (.frz (.var 4))) .nil))))))
structure FL (μ0 μ:Mem) (n:Nat) (ls:List Nat) (rs:List (List Itm)):Prop where
 pre:Pre μ0 μ
 lo:μ0.length<=n
 at_:μ[n]?=some (.lst (ls.map D.loc))
 rw:Rows μ ls rs
 nd:ls.Nodup
 ne:∀ l∈ls,μ0.length<=l/\l≠n
theorem FL.app (h:FL μ0 μ n ls rs) (ν:Mem):FL μ0 (μ++ν) n ls rs:=
 ⟨h.pre.trans (Pre.app _ _),h.lo,(Pre.app _ _).get h.at_,⟨h.rw.1,fun i l r a b=>(Pre.app _ _).get (h.rw.2 i l r a b)⟩,h.nd,h.ne⟩
theorem FL.new (h:FL μ0 μ n ls rs):FL μ0 ((μ++[Cell.lst []]).set n (.lst ((ls++[μ.length]).map D.loc))) n (ls++[μ.length]) (rs++[[]]):=by
 have hn:n<μ.length:=(cj.mp h.at_).1;have hll:∀ l∈ls,l<μ.length:=fun l hl=>by
  obtain⟨i,hi⟩:=W5.mp hl;have hi':=(cj.mp hi).1;have hi2:i<rs.length:=by rw[<-h.rw.1];exact hi'
  exact(cj.mp (h.rw.2 i l rs[i] hi (dw hi2))).1
 refine⟨(h.pre.trans (Pre.app _ _)).set _ h.lo,h.lo,by rw[eF (by simp;lia)],⟨by simp[h.rw.1],fun i l r a b=>?_⟩,?_,fun l hl=>?_⟩
 .have hl:=h.rw.1
  by_cases c:i<ls.length
  .rw[fQ c]at a
   rw[fQ (by lia)]at b;have:=h.rw.2 i l r a b;have Zy:=(h.ne l (pW a)).2;rw[cW (bK Zy)];exact(Pre.app _ _).get this
  .have hi:i=ls.length:=by have:=(cj.mp a).1;simp at this;lia
   subst hi;(have a':μ.length=l:=by simpa using a);(have b':r=[]:=by rw[hl]at b;simpa using b.symm);subst a' b';rw[cW (by lia)];simp
 .rw[WD]
  exact⟨h.nd,by simp,fun a ha b hb e=>by simp at hb;subst hb;subst e;exact mG _ (hll _ ha)⟩
 .rcases iG.mp hl with hl|hl
  .exact h.ne l hl
  .simp at hl;subst hl
   exact⟨h.pre.1,by lia⟩
theorem FL.add (h:FL μ0 μ n (ls++[l]) (rs++[r])) (x:Itm):FL μ0 (μ.set l (.lst ((r++[x]).map aK))) n (ls++[l]) (rs++[r++[x]]):=by
 have hl0:ls.length=rs.length:=by have:=h.rw.1;simpa using this
 have hlr:=h.rw.2 ls.length l r (by simp) (by rw[hl0];simp);have hll:=(cj.mp hlr).1;obtain⟨h1,h2⟩:=h.ne l (by simp);refine⟨h.pre.set _ h1,h.lo,by rw[cW h2];exact h.at_,⟨by simp[hl0],fun i k q a b=>?_⟩,h.nd,h.ne⟩;by_cases c:i<ls.length
 .have a0:=a
  rw[fQ c]at a;rw[fQ (by lia)]at b;have hk:l≠k:=fun e=>by have:=(WD.mp h.nd).2.2 k (pW a) l (by simp);exact this e.symm
  rw[cW hk];exact h.rw.2 i k q a0 (by rw[fQ (by lia)];exact b)
 .have hi:i=ls.length:=by have:=(cj.mp a).1;simp at this;lia
  subst hi;have a':l=k:=by simpa using a
  have b':r++[x]=q:=by rw[hl0]at b;simpa using b
  subst a' b';rw[eF hll]
theorem Yo {xs:List Itm} {j:Nat}:cutD (xs.map aK) (some (j:Int)) none=(xs.drop j).map aK:=by
 simp only[cutD,j4,aR];rw[if_neg (by lia),Ih];by_cases h:j<=xs.length
 .rw[xR h,tM (by simp),N6]
 .rw[Wq (by lia),W6 (by simp),W6 (by lia)]
  simp
theorem Gq {xs:List Itm} {j:Nat}:cutD (xs.map aK) none (some (j:Int))=(xs.take j).map aK:=by
 simp only[cutD,j4,Wa,VG,aR];rw[if_neg (by lia),Ih,HX];by_cases h:j<=xs.length
 .rw[xR h]
 .rw[Wq (by lia),tM (by simp),tM (by simp;lia)]
theorem aad (h:l≠[]):(FW l)[0]?=some (bJ l):=by
 have hp:=Rh l;have hr:=GX l;cases e:FW l with
 |nil=>exact absurd (by rw[e]at hp;exact hp.symm.eq_nil) h|cons a t=>
  rw[e]at hp hr;have ha:a∈l:=hp.mem_iff.mp (by simp);have:=RZ ha fun z hz=>by
   have hz':=hp.mem_iff.mpr hz;rcases bC.mp hz' with rfl|hz'
   .exact zY _
   .exact(xY.mp hr).1 z hz'
  simp[this]
theorem Qj:lG ((a::l).map aK)=none:=by simp[aK,lG]
theorem ags {Z:jM} {μ0 μ:Mem} {n l m:Nat} {row ws:List Itm} {ls:List Nat} {rs:List (List Itm)} {r:List Itm} {c:Ch} {a6 a7:Option D} (hk:c.kept≠[]) (hkl:c.kept.length<=60) (hwl:ws.length<=60)
  (h:FL μ0 μ n (ls++[l]) (rs++[r])) (hrl:r.length<=1000)
  (hZ:∀ μ' a5 a6 a7,FL μ0 μ' n (ls++[l]) (rs++[r++[bJ (src c)]])->Z.nx [some (.lst (row.map aK)),some (.int (m:Int)),some (.lst ((ws.drop 1).map aK)),some (.lst (((outF c).2.kept++ws.take 1).map aK)),some (.loc n),a5,a6,a7] μ'):
  wSs agt Z [some (.lst (row.map aK)),some (.int (m:Int)),some (.lst (ws.map aK)),some (.lst (c.kept.map aK)),some (.loc n),some (.lst ((src c).map aK)),a6,a7] μ:=by
 have hsl:(src c).length<=c.kept.length:=by
  unfold src able;split
  .exact aB _
  .exact adG _ _
 simp only[agt,wSs,wS,wE,wEs,aJ,aZ,bY,bW];refine⟨src c,rfl,by lia,?_⟩;have h1:=h.app [.gone];have e0:((n6 ((FW (src c)).map aK).length 0).bind (((FW (src c)).map aK)[·]?))=some (aK (bJ (src c))):=by
  have hp:0<((FW (src c)).map aK).length:=by rw[aR,YS];exact WX.mpr (MN hk)
  have:n6 ((FW (src c)).map aK).length 0=some 0:=by unfold n6;rw[if_pos (by decide),if_pos (by simpa using hp)];rfl
  rw[this,lu,jw,aad (MN hk)];rfl
 simp only[dH,aC,e0];generalize μ++[Cell.gone]=μ1 at h1;have hat:=h1.at_;have el:=Gh ls l;simp only[hat,el];have hl0:ls.length=rs.length:=by have:=h1.rw.1;simpa using this
 have hlr:=h1.rw.2 ls.length l r (by simp) (by rw[hl0];simp);refine⟨by simp[isCell,hlr],?_⟩;simp only[dj,hlr,bT,aR];refine⟨by simp only[lim];lia,?_⟩;have h2:=h1.add (bJ (src c));rw[show(r.map aK++[aK (bJ (src c))])=(r++[bJ (src c)]).map aK by simp];generalize μ1.set l (.lst ((r++[bJ (src c)]).map aK))=μ2 at h2;refine⟨by simp[Kw,txM,Sx],?_⟩;have hm:=zN hk;obtain⟨j,j1,j2,j3⟩:=Tj hm;have hj:j<c.kept.length:=(cj.mp j1).1;have ei:((cB μ2 (.lst (c.kept.map aK))).bind lG)=none:=by
  cases hc:c.kept with
  |nil=>exact absurd hc hk|cons a t=>simp only[cB,aC,lu];exact Qj
 have es:∀ Q:QD,vG "index" (.lst (c.kept.map aK)) [aK (bJ (src c))] μ2 Q=aa9 "index" (.lst (c.kept.map aK)) [aK (bJ (src c))] μ2 Q:=fun Q=>rfl;rw[es];unfold aa9;rw[ei];refine⟨rfl,c.kept,bJ (src c),j,rfl,rfl,j1,j2,?_⟩;simp only[wO,wE,yS,Fg,newL,jq,aJ,aZ,bY,bW];have f1:cutD (c.kept.map aK) none (some (j:Int))=(c.kept.take j).map aK:=Gq;have f2:cutD (c.kept.map aK) (some ((j:Int)+1)) none=(c.kept.drop (j+1)).map aK:=by have:=Yo (xs:=c.kept) (j:=j+1);simpa using this
 have f3:cutD (ws.map aK) none (some 1)=(ws.take 1).map aK:=Gq (j:=1);have f4:cutD (ws.map aK) (some 1) none=(ws.drop 1).map aK:=Yo (j:=1);simp only[f1,f2,f3,f4,<-mH,j3];refine⟨by simp only[lim,aR,vY,Ie];lia,?_,?_⟩
 .simp only[lim,aR,gG,vY]
  have:(c.kept.erase (bJ (src c))).length<=c.kept.length:=List.length_erase_le;lia
 .exact hZ _ _ _ _ h2
theorem Sv {l:List Itm} (h:∀ x∈l,cA x):flat 60 (.lst (l.map aK))=true:=by simp only[flat];exact Hh h
theorem eq_nil (l:List Itm):lN (.lst (l.map aK)) (.lst [])=l.isEmpty:=by
 cases l with
 |nil=>rfl|cons a l=>simp[lN,Kz]
theorem Za {l:List Itm} {μ:Mem} {Q:QD} (h:∀ x∈l,cA x) (q:Q (.bl (!l.isEmpty)) μ):cM .NotEq (.lst (l.map aK)) (.lst []) μ Q:=by refine⟨Sv h,rfl,?_⟩;rw[eq_nil];exact q
structure At (row:List Itm) (m:Nat) (c:Ch) (ws:List Itm) (rs:List (List Itm)) (n:Nat):Prop where
 len:c.kept.length+ws.length<=n
 le:n<=60
 kok:∀ x∈c.kept,cA x
 dG:∀ x∈ws,cA x
 st:(c.last=none/\rs=[]/\Qo n c ws=Qo row.length (c0 row m) (row.drop m))∨
  ∃ cl op l tk,c.last=some l/\rs=cl++[op++[l]]/\tk.foldl Rg ([],[])=(cl,op++[l])/\tk++Qo n c ws=Qo row.length (c0 row m) (row.drop m)/\cA l/\cl.length+op.length+1<=2*(60 -n)
theorem At.fin (m1:1<=m) (h:At row m c ws rs n) (hk:c.kept=[]):rs=kW row m:=by
 have hg:Qo n c ws=[]:=by
  cases n with
  |zero=>rfl|succ n=>rw[Qo,if_pos hk]
 unfold kW;rw[agu m1];rcases h.st with⟨h1,h2,h3⟩|⟨cl,op,l,tk,h1,h2,h3,h4,-⟩
 .rw[hg]at h3
  by_cases e:row=[]
  .rw[if_pos e,h2];rfl
  .exfalso
   (have hl:1<=row.length:=by cases row with|nil=>exact absurd rfl e|cons=>simp);have hk:(c0 row m).kept≠[]:=fun z=>by have z:row.take m=[]:=z;have:=congrArg dR z;rw[vY]at this;simp only[aL]at this;lia
   obtain⟨k,hk'⟩:∃ k,row.length=k+1:=⟨row.length -1,by lia⟩;rw[hk',Qo,if_neg hk]at h3;simp[outF]at h3
 .rw[hg,qZ]at h4
  have e:row≠[]:=by rintro rfl;simp[Qo]at h4;subst h4;simp at h3
  rw[if_neg e,<-h4];have:=Bt tk [] [];rw[aM,h3]at this;rw[this,h2]
theorem At.step (h:At row m c ws rs (n+1)) (hk:c.kept≠[]):
  ∃ pre r,(if able c=[]∨c.last=none then rs++[[]]else rs)=pre++[r]/\r.length<=1000/\At row m ⟨c.room,(outF c).2.kept++ws.take 1,(outF c).2.last⟩ (ws.drop 1) (pre++[r++[bJ (src c)]]) n:=by
 have ol:=kI hk;have hl:=h.len;have hle:=h.le;have ok:∀ x∈(outF c).2.kept,cA x:=fun x hx=>h.kok x (adH hx);have hx:cA (bJ (src c)):=h.kok _ (zN hk);have k1:∀ x∈(outF c).2.kept++ws.take 1,cA x:=fun x hx=>(iG.mp hx).elim (ok x) fun hx=>h.dG x (O4 hx);have k2:∀ x∈ws.drop 1,cA x:=fun x hx=>h.dG x (CJ hx);have k3:((outF c).2.kept++ws.take 1).length+(ws.drop 1).length<=n:=by simp only[gG,vY,Ie];lia
 have hg:Qo (n+1) c ws=(outF c).1++Qo n ⟨c.room,(outF c).2.kept++ws.take 1,(outF c).2.last⟩ (ws.drop 1):=by rw[Qo,if_neg hk]
 rcases h.st with⟨h1,h2,h3⟩|⟨cl,op,l,tk,h1,h2,h3,h4,h5,h6⟩
 .have ha:able c=c.kept:=by unfold able;rw[h1];exact O1.mpr fun x _=>rfl
  have ho:(outF c).1=[some (bJ (src c))]:=by unfold outF;rw[if_neg (by rw[ha];exact hk)];rfl
  rw[if_pos (.inr h1),h2];refine⟨[],[],rfl,by simp,k3,by lia,k1,k2,.inr ⟨[],[],bJ (src c),[some (bJ (src c))],rfl,rfl,rfl,?_,hx,by simp;lia⟩⟩;rw[hg,ho]at h3;exact h3
 .rw[hg,<-rR]at h4
  by_cases ha:able c=[]
  .have ho:(outF c).1=[none,some (bJ (src c))]:=by unfold outF;rw[if_pos ha];rfl
   rw[if_pos (.inl ha),h2];refine⟨cl++[op++[l]],[],rfl,by simp,k3,by lia,k1,k2,.inr ⟨cl++[op++[l]],[],bJ (src c),tk++[none,some (bJ (src c))],rfl,rfl,?_,?_,hx,by simp;lia⟩⟩
   .rw[Ii,h3];rfl
   .rw[<-ho];exact h4
  .have ho:(outF c).1=[some (bJ (src c))]:=by unfold outF;rw[if_neg ha];rfl
   rw[if_neg (by rw[h1];simp[ha]),h2];refine⟨cl,op++[l],rfl,by simp;lia,k3,by lia,k1,k2,.inr ⟨cl,op++[l],bJ (src c),tk++[some (bJ (src c))],rfl,rfl,?_,?_,hx,by simp;lia⟩⟩
   .rw[Ii,h3];rfl
   .rw[<-ho];exact h4
theorem aaE:Keeps Lj Lz G5:=by
 rintro ds μ Q ⟨row,m,rfl,hl,m1,m2,hok,h⟩;simp only[Lz,Lj,aD,bI,wSs,wS,wE,wEs,wO,yS,Fg,newL,bO,aC,aX,aV,bA,aL,bh,aM,aJ,aZ,bD,bY,bW,Gq,Yo];refine⟨by decide,?_⟩;have hF:FL μ (μ++[Cell.lst []]) μ.length [] []:=⟨Pre.app _ _,aB _,by simp,⟨rfl,fun i l r a=>by simp at a⟩,Wd,by simp⟩;have hA:At row m (c0 row m) (row.drop m) [] row.length:=⟨by simp[c0];lia,hl,fun x hx=>hok x (O4 hx),fun x hx=>hok x (CJ hx),.inl ⟨rfl,rfl,rfl⟩⟩;refine⟨fun M ρ μ'=>∃ c ws ls rs a5 a6 a7,FL μ μ' μ.length ls rs/\At row m c ws rs M/\ρ=[some (.lst (row.map aK)),some (.int (m:Int)),some (.lst (ws.map aK)),some (.lst (c.kept.map aK)),some (.loc μ.length),a5,a6,a7],⟨row.length,c0 row m,row.drop m,[],[],none,none,none,hF,hA,rfl⟩,?_⟩;clear hF hA;rintro M ρ μ' ⟨c,ws,ls,rs,a5,a6,a7,hF,hA,rfl⟩;simp only[wT,wE,wEs,newL,aL,aJ,aZ];refine⟨by decide,Za hA.kok ?_⟩;simp only[fU];by_cases hk:c.kept=[]
 .have e1:(!c.kept.isEmpty)=false:=by rw[hk];rfl
  simp only[e1,bZ,if_false,Q0,hF.at_];refine h _ ls (hF.pre.set _ (aB _)) ?_;rw[<-hA.fin m1 hk];exact⟨hF.rw.1,fun i l r a b=>by rw[cW (bK (hF.ne l (pW a)).2)];exact hF.rw.2 i l r a b⟩
 .have e1:(!c.kept.isEmpty)=true:=by cases hc:c.kept with|nil=>exact absurd hc hk|cons=>rfl
  simp only[e1,if_true];have hkl:1<=c.kept.length:=by cases hc:c.kept with|nil=>exact absurd hc hk|cons=>simp
  obtain⟨n,rfl⟩:∃ n,M=n+1:=⟨M -1,by have:=hA.len;lia⟩;have hle:=hA.le;have Zy:=hA.len;obtain⟨pre,r,e2,e3,hA2⟩:=hA.step hk;have go2:∀ {Z:jM} {μ2:Mem} {ls2:List Nat} {a6 a7:Option D},FL μ μ2 μ.length ls2 (pre++[r])->(Z.nx=fun ρ μx=>∃ m' <n+1,∃ c ws ls rs a5 a6 a7,FL μ μx μ.length ls rs/\At row m c ws rs m'/\ρ=[some (.lst (row.map aK)),some (.int (m:Int)),some (.lst (ws.map aK)),some (.lst (c.kept.map aK)),some (.loc μ.length),a5,a6,a7])->
    wSs agt Z [some (.lst (row.map aK)),some (.int (m:Int)),some (.lst (ws.map aK)),some (.lst (c.kept.map aK)),some (.loc μ.length),some (.lst ((src c).map aK)),a6,a7] μ2:=by
   intro Z μ2 ls2 a6 a7 hF2 hZ;obtain⟨ls',l,rfl⟩:∃ ls' l,ls2=ls' ++[l]:=by (have hl2:ls2.length=pre.length+1:=by have:=hF2.rw.1;simpa using this);(have hne:ls2≠[]:=fun z=>by rw[z]at hl2;simp at hl2);exact⟨ls2.dropLast,ls2.getLast hne,(Xg hne).symm⟩
   refine ags hk (by lia) (by lia) hF2 e3 fun μ3 b5 b6 b7 hF3=>?_;rw[hZ];exact⟨n,by lia,_,_,_,_,b5,b6,b7,hF3,hA2,rfl⟩
  have go1:∀ {Z:jM} {a6 a7:Option D} {may:List Itm},may=(if c.last=none then []else able c)->(Z.nx=fun ρ μx=>∃ m' <n+1,∃ c ws ls rs a5 a6 a7,FL μ μx μ.length ls rs/\At row m c ws rs m'/\ρ=[some (.lst (row.map aK)),some (.int (m:Int)),some (.lst (ws.map aK)),some (.lst (c.kept.map aK)),some (.loc μ.length),a5,a6,a7])->
    wSs aiL Z [some (.lst (row.map aK)),some (.int (m:Int)),some (.lst (ws.map aK)),some (.lst (c.kept.map aK)),some (.loc μ.length),some (.lst (may.map aK)),a6,a7] μ':=by
   intro Z a6 a7 may hmay hZ;have hmo:∀ x∈may,cA x:=fun x hx=>by
    rw[hmay]at hx;split at hx
    .simp at hx
    .exact hA.kok x (Cr.mp hx).1
   simp only[aiL,wSs,wS,wT,wE,wEs,newL,aL,aJ,aZ,cM];refine⟨by decide,Sv hmo,rfl,?_⟩;rw[eq_nil];simp only[fU];by_cases hm0:may=[]
   .have e4:may.isEmpty=true:=by rw[hm0];rfl
    have hc:able c=[]∨c.last=none:=by
     rw[hm0]at hmay;by_cases q:c.last=none
     .exact .inr q
     .rw[if_neg q]at hmay;exact .inl hmay.symm
    rw[if_pos hc]at e2;have hs:src c=c.kept:=by
     unfold src;rcases hc with hc|hc
     .rw[if_pos hc]
     .have:able c=c.kept:=by unfold able;rw[hc];exact O1.mpr fun x _=>rfl
      rw[this];simp
    simp only[e4,if_true];refine⟨by simp[isCell,hF.at_],by decide,?_⟩;have hat:(μ' ++[Cell.lst []])[μ.length]?=some (.lst (ls.map D.loc)):=(Pre.app _ _).get hF.at_;simp only[dj,hat,bT,aR];have hF2:=hF.new;have hll:ls.length=rs.length:=hF.rw.1;have hrl:rs.length<=1000:=by
     have:=congrArg dR e2;rcases hA.st with⟨_,q,_⟩|⟨cl,op,l,tk,_,q,_,_,_,q6⟩
     .rw[q];simp
     .rw[q];simp;lia
    refine⟨by simp only[lim];lia,?_⟩;rw[show(ls.map D.loc++[D.loc μ'.length])=(ls++[μ'.length]).map D.loc by simp];simp only[aJ,aZ,bY,bW];rw[e2]at hF2;have:=go2 (a6:=a6) (a7:=a7) hF2 hZ;rw[hs]at this;exact this
   .have e4:may.isEmpty=false:=by cases hc:may with|nil=>exact absurd hc hm0|cons=>rfl
    (have Zy:c.last≠none:=fun q=>by rw[if_pos q]at hmay;exact hm0 hmay);rw[if_neg Zy]at hmay;(have hc:¬(able c=[]∨c.last=none):=by rw[<-hmay];simp[hm0,Zy]);rw[if_neg hc]at e2;(have hs:src c=may:=by unfold src;rw[<-hmay,if_neg hm0]);simp only[e4,bZ,if_false];rw[<-hs];exact go2 (e2▸hF) hZ
  simp only[akY,wSs,wS,wT,wE,wEs,newL,aL,aJ,aZ,bY,bW,cM,QW,hF.at_,fU];refine⟨by decide,by decide,?_⟩;rcases hA.st with⟨q1,q2,q3⟩|⟨cl,op,l,tk,q1,q2,q3,q4,q5,q6⟩
  .have hls:ls=[]:=Xh (by rw[hF.rw.1,q2];rfl)
   (have e5:(!(ls.map D.loc).isEmpty)=false:=by rw[hls];rfl);simp only[e5,bZ,if_false];exact go1 (may:=[]) (by rw[if_pos q1]) rfl
  .obtain⟨ls',k,rfl⟩:∃ ls' k,ls=ls' ++[k]:=by (have hl2:ls.length=cl.length+1:=by rw[hF.rw.1,q2];simp);(have hne:ls≠[]:=fun z=>by rw[z]at hl2;simp at hl2);exact⟨ls.dropLast,ls.getLast hne,(Xg hne).symm⟩
   (have e5:(!((ls' ++[k]).map D.loc).isEmpty)=true:=by simp);simp only[e5,if_true,wI,wE,lO,aJ,aZ];(have hl0:ls'.length=cl.length:=by have:=hF.rw.1;rw[q2]at this;simpa using this);have hlr:=hF.rw.2 ls'.length k (op++[l]) (by simp) (by rw[q2,hl0];simp);have el:=Gh ls' k;have el2:(n6 ((op++[l]).map aK).length (-1)).bind (((op++[l]).map aK)[·]?)=some (aK l):=by have:=Qi (op.map aK) (aK l);rw[mH];exact this
   refine gB aK (fun x=>Em (some l) x) aK trivial _ _ ?_ ?_
   .intro x hx Y N z
    simp only[bindC,wTs,wT,wE,wEs,aJ,aZ,aX,aV,bh,aM,ud,dH,aC,hF.at_,el,hlr,el2];refine⟨x,l,rfl,?_⟩;simp only[fM,truth];simpa[Em]using z
   .rw[aM,<-q1]
    exact go1 (may:=able c) (by rw[if_neg (by rw[q1];simp)]) rfl
end DW.ZW
namespace DW.K21
open PySem DW DW.Ue
def jX:dh:=fun ds μ Q=>∃ r:List Itm,ds=[.lst (r.map aK)]/\r.length<1000/\∀ ν n ls,LL (μ++ν) μ.length n ls (bF r)->Q (.loc n) (μ++ν)
def pY:List Str:=["row","runs","place","item"]
def qg:Ss:=(.cons (.set 1 (.lst true .nil)) (.cons (.for_ [2,3] true (.enum (.var 0)) (.cons (.ite (.or (.cmp .Eq (.var 2) (.cst (.int 0))) (.call "less" u6 (.cons (.var 3) (.cons (.idx (.var 0) (.bin .Sub (.var 2) (.cst (.int 1)))) .nil)))) (.cons (.exp (.meth "append" (.var 1) (.cons (.lst true .nil) .nil))) .nil) .nil) (.cons (.exp (.meth "append" (.idx (.var 1) (.neg (.cst (.int 1)))) (.cons (.var 3) .nil))) .nil))) (.cons (.ret (.var 1)) .nil)))
def dz (μ:Mem) (c:List (List Itm)):Mem:=μ++ .lst ((aY c.length).map fun k=>D.loc (μ.length+1+k))::c.map fun l=>.lst (l.map aK)
theorem vh (μ:Mem) (c:List (List Itm)):(dz μ c)[μ.length]?=some (.lst ((aY c.length).map fun k=>D.loc (μ.length+1+k))):=by simp[dz]
theorem I3 (μ:Mem) (c:List (List Itm)) (i:Nat) (l:List Itm) (h:c[i]?=some l):(dz μ c)[μ.length+1+i]?=some (.lst (l.map aK)):=by unfold dz;rw[pX (by lia),show μ.length+1+i -μ.length=i+1 by lia];simp[h]
theorem I4 (μ:Mem) (c:List (List Itm)):(dz μ c).length=μ.length+1+c.length:=by simp[dz];lia
theorem Xp (μ:Mem) (c:List (List Itm)) (l:List Itm):(dz μ c++[Cell.lst (l.map aK)]).set μ.length (.lst ((aY c.length).map (fun k=>D.loc (μ.length+1+k))++[.loc (μ.length+1+c.length)]))=dz μ (c++[l]):=by unfold dz;rw[rR,Ir _ _ (aB _)];simp[Od]
theorem Xo (μ:Mem) (a:List (List Itm)) (l l':List Itm):(dz μ (a++[l])).set (μ.length+1+a.length) (.lst (l'.map aK))=dz μ (a++[l']):=by unfold dz;rw[Ir _ _ (by lia),show μ.length+1+a.length -μ.length=a.length+1 by lia];simp
theorem aan (μ:Mem) (c:List (List Itm)):LL (dz μ c) μ.length μ.length ((aY c.length).map fun k=>μ.length+1+k) c:=by
 refine⟨aB _,?_,by simp,fun l hl=>?_,fun i l r h1 h2=>?_⟩
 .rw[vh];simp
 .simp at hl
  obtain⟨k,hk,rfl⟩:=hl;lia
 .have hi:i<c.length:=(cj.mp h2).1
  have:l=μ.length+1+i:=by simp[hi]at h1;lia
  subst this;exact I3 μ c i r h2
theorem Dg:Keeps pY qg jX:=by
 rintro ds μ Q ⟨r,rfl,hl,h⟩;simp[qg,pY,aD,bI,wSs,wS,wT,wE,wEs,wI,newL,lim,Q5,cB,aC];refine cU (fun ds ρ μ'=>∃ (p s:List Itm) (u v:Option D),r=p++s/\ds=nW p.length (s.map aK)/\μ'=dz μ (bF p)/\ρ=[some (.lst (r.map aK)),some (.loc μ.length),u,v]) ?_ ?_ _ _ _ ⟨[],r,none,none,rfl,rfl,by simp[dz,bF],rfl⟩
 .rintro d ds ρ μ' N hN ⟨p,s,u,v,er,e,rfl,rfl⟩
  cases s with
  |nil=>simp[nW]at e|cons x s=>
   simp[nW]at e;obtain⟨rfl,rfl⟩:=e;refine⟨by simp[cB,aC],?_⟩;obtain⟨h1,h2⟩:=jg p;(have hpl:p.length<1000:=by rw[er]at hl;simp at hl;lia);have fin:∀ u v,N [some (.lst (r.map aK)),some (.loc μ.length),u,v] (dz μ (gw (bF p) x)):=fun u v=>hN _ _ ⟨p++[x],s,u,v,by simp[er],by simp,by rw[lC],rfl⟩;have grow:∀ (a:List (List Itm)) (l:List Itm) (w:dD) (k:Mem->Prop),l.length<1000->k (dz μ (a++[l++[x]]))->
     dH (.loc μ.length) (.int (-1)) (dz μ (a++[l])) fun d μ1=>isCell μ1 d=true/\dj "append" d [aK x] μ1 fun _ μ2=>k μ2:=by
    intro a l w k hll f;have er':=I3 μ (a++[l]) a.length l (by simp);have eix:(n6 ((aY (a++[l]).length).map fun k=>D.loc (μ.length+1+k)).length (-1)).bind (((aY (a++[l]).length).map fun k=>D.loc (μ.length+1+k))[·]?)=some (.loc (μ.length+1+a.length)):=by have:=Qi ((aY a.length).map fun k=>D.loc (μ.length+1+k)) (.loc (μ.length+1+a.length));simpa[Od]using this
    have eu:=Xo μ a l (l++[x]);rw[mH,aX,aV]at eu;simp only[dH,aC,vh,eix,isCell,er',true_and,dj,bT,eu];exact⟨by simp[lim];lia,f⟩
   have new:∀ (c:List (List Itm)) (k:Mem->Prop),c.length<1000->k (dz μ (c++[[]]))->isCell (dz μ c) (.loc μ.length)=true/\dj "append" (.loc μ.length) [.loc (dz μ c).length] (dz μ c++[Cell.lst []]) fun _ μ1=>k μ1:=fun c k hc f=>by
    have e1:(dz μ c++[Cell.lst []])[μ.length]?=some (.lst ((aY c.length).map fun k=>D.loc (μ.length+1+k))):=by rw[fQ (by rw[I4];lia)];exact vh _ _
    have e2:=Xp μ c [];simp only[aV]at e2;refine⟨by simp only[isCell,vh],?_⟩;simp only[dj,e1,bT,I4,e2];exact⟨by simp[lim];lia,f⟩
   rcases W4 p with rfl|⟨p,y,ep⟩
   .simp[eX,cM,flat,lN,fU]
    refine new _ _ (by simp[bF]) ?_;refine grow [] [] [] _ (by simp) ?_;have:=fin (some (.int 0)) (some (aK x));simpa[bF,gw]using this
   .rw[W3]at ep
    subst ep;(have e0:lN (.int ((p++[y]).length:Int)) (.int 0)=false:=by simp[lN];lia);(have e1:((p++[y]).length:Int) -1=(p.length:Int):=by simp);have hix:n6 r.length (p.length:Int)=some p.length:=gj (by rw[er];simp);(have ey:(r.map aK)[p.length]?=some (aK y):=by rw[er];simp);obtain⟨a,l,el⟩:=um p y;have hll:l.length+1<1000:=by have:=congrArg dR h2;rw[el]at this;simp at this hpl;lia
    have fin':=fin (some (.int ((p++[y]).length:Int))) (some (aK x));rw[el,yL]at fin';rw[el]at h1 ⊢;generalize hk:(fun(μ1:Mem)=>N [some (.lst (r.map aK)),some (.loc μ.length),some (.int ((p++[y]).length:Int)),some (aK x)] μ1)=k;(have kf:∀ μ1,N [some (.lst (r.map aK)),some (.loc μ.length),some (.int ((p++[y]).length:Int)),some (aK x)] μ1=k μ1:=fun μ1=>by rw[<-hk]);have g2:∀ a l,l.length<1000->k (dz μ (a++[l++[x]]))->_:=fun a l=>grow a l [] k;simp only[eX,Il,WW,pR,Ob,bW,bY,aJ,aZ,cM,flat,fU,e0,bZ,if_false,jq,e1];(have ei:∀ {Q:QD} {μ'},Q (aK y) μ'->dH (.lst (r.map aK)) (.int (p.length:Int)) μ' Q:=fun {Q μ'} q=>by simp only[dH,aC,aR,hix,lu,ey];exact q);refine⟨rfl,trivial,trivial,ei ⟨x,y,rfl,?_⟩⟩;simp only[fM,truth,kf];by_cases c:iY x y=true
    .rw[if_pos c]
     rw[if_pos c]at fin';have f2:=g2 (a++[l++[y]]) [] (by simp) (by rw[<-kf];simpa using fin');exact new (a++[l++[y]]) _ (by simp at h1 hpl ⊢;lia) f2
    .rw[if_neg c]
     rw[if_neg c]at fin';exact g2 a (l++[y]) (by simp;lia) (by rw[<-kf];exact fin')
 .rintro ρ μ' ⟨p,s,u,v,er,e,rfl,rfl⟩
  cases s with
  |cons x s=>simp[nW]at e|nil=>refine⟨by simp[cB,aC],?_⟩;simp only[qZ]at er;subst er;exact h _ _ _ (aan μ (bF r))
end DW.K21
namespace DW.Mj
open PySem DW DW.Ue
noncomputable abbrev Hd:=Option Itm
def hdD:Hd->D
 |none=>.non|some x=>aK x
def jO:Option Nat->D
 |none=>.non|some p=>.int (p:Int)
def mid (s b:Nat):Nat:=s+(b -s+1)/2
theorem gO (h:1<b -s):s<mid s b/\mid s b<b:=by unfold mid;lia
def mR (hs:List Hd):Option Nat->Option Nat->Option Nat
 |none,r=>r|some p,none=>some p|some p,some q=>match hs[q]?.join,hs[p]?.join with|some y,some x=>if iY y x=true then some q else some p|_,_=>some p
def nY (hs:List Hd) (s b:Nat):Option Nat:=
 if 1<b -s then mR hs (nY hs s (mid s b)) (nY hs (mid s b) b)else if(hs[s]?.join).isSome=true/\s<b then some s else none
 termination_by b -s
 decreasing_by
 .have:=gO (by assumption);lia
 .have:=gO (by assumption);lia
def yP (p s b:Nat):List (Nat×Nat):=
 if 1<b -s then(s,b)::(if p<mid s b then yP p s (mid s b)else yP p (mid s b) b)else []
 termination_by b -s
 decreasing_by
 .have:=gO (by assumption);lia
 .have:=gO (by assumption);lia
def Rd (x:Nat×Nat):D:=.tup [.int (x.1:Int),.int (x.2:Int)]
inductive Mi:Nat->Nat->Nat->Nat->Prop
 |refl (s b:Nat):Mi s b s b
 |left {s b s' b':Nat} (h:1<b -s) (i:Mi s (mid s b) s' b'):Mi s b s' b'
 |right {s b s' b':Nat} (h:1<b -s) (i:Mi (mid s b) b s' b'):Mi s b s' b'
theorem Mi.sub (h:Mi s b s' b'):s<=s'/\b'<=b:=by
 induction h with
 |refl s b=>lia|left h i ih=>have:=gO h;lia|right h i ih=>have:=gO h;lia
theorem Mi.l (h:Mi s b s' b') (hh:1<b' -s'):Mi s b s' (mid s' b'):=by
 induction h with
 |refl s b=>exact .left hh (.refl _ _)|left h i ih=>exact .left h (ih hh)|right h i ih=>exact .right h (ih hh)
theorem Mi.r (h:Mi s b s' b') (hh:1<b' -s'):Mi s b (mid s' b') b':=by
 induction h with
 |refl s b=>exact .right hh (.refl _ _)|left h i ih=>exact .left h (ih hh)|right h i ih=>exact .right h (ih hh)
theorem mX (h:1<b -s):nY hs s b=mR hs (nY hs s (mid s b)) (nY hs (mid s b) b):=by rw[nY,if_pos h]
theorem kY (h:¬1<b -s):nY hs s b=if(hs[s]?.join).isSome=true/\s<b then some s else none:=by rw[nY,if_neg h]
def Is (hs:List Hd) (p:Nat):Prop:=∃ x,hs[p]?=some (some x)
theorem ZS (h:mR hs l r=some p):l=some p∨r=some p:=by
 unfold mR at h;split at h
 .exact .inr h
 .exact .inl h
 .split at h
  .split at h
   .exact .inr h
   .exact .inl h
  .exact .inl h
theorem yO (hs:List Hd):∀ (n s b:Nat),b -s<=n->∀ p,nY hs s b=some p->Is hs p/\s<=p/\p<b
 |0,s,b,hn,p,h=>by
  rw[kY (by lia)]at h;split at h
  .rename_i c;lia
  .cases h
 |n+1,s,b,hn,p,h=>by
  by_cases c:1<b -s
  .rw[mX c]at h
   have hm:=gO c;rcases ZS h with h|h
   .obtain⟨h1,h2,h3⟩:=yO hs n s (mid s b) (by lia) p h;exact⟨h1,by lia,by lia⟩
   .obtain⟨h1,h2,h3⟩:=yO hs n (mid s b) b (by lia) p h;exact⟨h1,by lia,by lia⟩
  .rw[kY c]at h
   split at h
   .rename_i q
    cases h;refine⟨?_,by lia,q.2⟩;obtain⟨q1,_⟩:=q;cases e:hs[s]? with
    |none=>rw[e]at q1;simp at q1|some o=>cases o with|none=>rw[e]at q1;simp at q1|some x=>exact⟨x,e⟩
   .cases h
theorem QH (hs:List Hd) (p:Nat) (x:Hd):∀ (n s b:Nat),b -s<=n->¬(s<=p/\p<b)->nY (hs.set p x) s b=nY hs s b
 |0,s,b,hn,h=>by
  rw[kY (by lia),kY (by lia)];have:¬s<b:=by lia
  simp[this]
 |n+1,s,b,hn,h=>by
  by_cases c:1<b -s
  .have hm:=gO c
   rw[mX c,mX c,QH hs p x n s (mid s b) (by lia) (by lia),QH hs p x n (mid s b) b (by lia) (by lia)];cases e1:nY hs s (mid s b) with
   |none=>rfl|some q1=>
    cases e2:nY hs (mid s b) b with
    |none=>rfl|some q2=>obtain⟨_,a1,a2⟩:=yO hs n s (mid s b) (by lia) q1 e1;obtain⟨_,a3,a4⟩:=yO hs n (mid s b) b (by lia) q2 e2;have n1:(hs.set p x)[q1]?=hs[q1]?:=cW (by lia);have n2:(hs.set p x)[q2]?=hs[q2]?:=cW (by lia);simp only[mR,n1,n2]
  .rw[kY c,kY c]
   by_cases c2:s<b
   .have n1:(hs.set p x)[s]?=hs[s]?:=cW (by lia)
    rw[n1]
   .simp[c2]
theorem Yw:∀ (n s b:Nat),b -s<=n->s<=p->p<b->∀ x∈yP p s b,Mi s b x.1 x.2/\1<x.2 -x.1/\x.1<=p/\p<x.2
 |0,s,b,hn,h1,h2,x,hx=>by lia|n+1,s,b,hn,h1,h2,x,hx=>by
  rw[yP]at hx;by_cases c:1<b -s
  .have hm:=gO c
   rw[if_pos c]at hx;rcases bC.mp hx with rfl|hx
   .exact⟨.refl _ _,c,h1,h2⟩
   .by_cases q:p<mid s b
    .rw[if_pos q]at hx
     obtain⟨i,r⟩:=Yw n s (mid s b) (by lia) h1 q x hx;exact⟨.left c i,r⟩
    .rw[if_neg q]at hx
     obtain⟨i,r⟩:=Yw n (mid s b) b (by lia) (by lia) h2 x hx;exact⟨.right c i,r⟩
  .rw[if_neg c]at hx;simp at hx
theorem akd (h:Mi s b s' b') (hp:s'<=p/\p<b') (hh:1<b' -s'):(s',b')∈yP p s b:=by
 induction h with
 |refl s b=>rw[yP,if_pos hh];simp|left h i ih=>have:=i.sub;rw[yP,if_pos h,if_pos (by lia)];exact jU _ (ih hp hh)|right h i ih=>have:=i.sub;rw[yP,if_pos h,if_neg (by lia)];exact jU _ (ih hp hh)
theorem Bd (p:Nat):∀ (n s b:Nat),b -s<=n->(yP p s b).length<=b -s
 |0,s,b,hn=>by rw[yP,if_neg (by lia)];simp|n+1,s,b,hn=>by
  rw[yP];by_cases c:1<b -s
  .have hm:=gO c
   rw[if_pos c];by_cases q:p<mid s b
   .rw[if_pos q];have:=Bd p n s (mid s b) (by lia);simp;lia
   .rw[if_neg q];have:=Bd p n (mid s b) b (by lia);simp;lia
  .rw[if_neg c];simp
theorem J5 (p:Nat):∀ (n s b:Nat),b -s<=n->(yP p s b).Pairwise (fun x y=>y.2 -y.1<x.2 -x.1)/\∀ x∈yP p s b,x.2 -x.1<=b -s
 |0,s,b,hn=>by rw[yP,if_neg (by lia)];simp|n+1,s,b,hn=>by
  rw[yP];by_cases c:1<b -s
  .have hm:=gO c
   rw[if_pos c];by_cases q:p<mid s b
   .rw[if_pos q]
    obtain⟨h1,h2⟩:=J5 p n s (mid s b) (by lia);refine⟨xY.mpr ⟨fun y hy=>?_,h1⟩,fun x hx=>?_⟩
    .have:=h2 y hy;show y.2 -y.1<b -s;lia
    .rcases bC.mp hx with rfl|hx
     .exact aB _
     .have:=h2 x hx;lia
   .rw[if_neg q]
    obtain⟨h1,h2⟩:=J5 p n (mid s b) b (by lia);refine⟨xY.mpr ⟨fun y hy=>?_,h1⟩,fun x hx=>?_⟩
    .have:=h2 y hy;show y.2 -y.1<b -s;lia
    .rcases bC.mp hx with rfl|hx
     .exact aB _
     .have:=h2 x hx;lia
  .rw[if_neg c];simp
def Fr (S:List Nat) (μ μ':Mem):Prop:=μ.length<=μ'.length/\∀ m,m<μ.length->m∉S->μ'[m]?=μ[m]?
theorem Fr.refl {S:List Nat} {μ:Mem}:Fr S μ μ:=⟨aB _,fun _ _ _=>rfl⟩
theorem Fr.trans {S:List Nat} {μ μ' Ug:Mem} (a:Fr S μ μ') (b:Fr S μ' Ug):Fr S μ Ug:=
 ⟨jR a.1 b.1,fun m hm hs=>(b.2 m (jT hm a.1) hs).trans (a.2 m hm hs)⟩
theorem Fr.more {S S':List Nat} {μ μ':Mem} (a:Fr S μ μ') (h:∀ m∈S,m∈S'):Fr S' μ μ':=⟨a.1,fun m hm hs=>a.2 m hm fun z=>hs (h m z)⟩
theorem Fr.set {S:List Nat} {μ:Mem} {n:Nat} {c:Cell} (h:n∈S):Fr S μ (μ.set n c):=⟨by simp,fun m _ hs=>cW fun e=>hs (by subst e;exact h)⟩
theorem Fr.app {S:List Nat} {μ ν:Mem}:Fr S μ (μ++ν):=⟨by simp,fun m hm _=>fQ hm⟩
noncomputable abbrev WF:=Nat->Nat->Option (Option Nat)
structure Fd (μ:Mem) (o h w:Nat) (hs:List Hd) (f:WF) (n:Int):Prop where
 at_:μ[o]?=some (.ins "Contest" [("heads",.loc h),("winners",.loc w),("played",.int n)])
 hd:μ[h]?=some (.lst (hs.map hdD))
 wn:∃ ks ds,μ[w]?=some (.Fx ks ds)/\ks.length=ds.length/\(ks.length:Int)<=n/\∀ s b:Nat,eH ks ds [.inl (s:Int),.inl (b:Int)]=(f s b).map jO
 ne:o≠h/\o≠w/\h≠w
def Alw (hs:List Hd) (f:WF):Prop:=∀ s b,Mi 0 hs.length s b->1<b -s->f s b=some (nY hs s b)
def Z5 (f:WF) (s b:Nat) (v:Option Nat):WF:=fun s' b'=>if s'=s/\b'=b then some v else f s' b'
theorem bM {μ:Mem} {n:Nat} {c:Cell} (h:μ[n]?=some c):n<μ.length:=(cj.mp h).1
theorem Fd.fr {μ μ':Mem} {o h w:Nat} {hs:List Hd} {f:WF} {n:Int} {S:List Nat} (C:Fd μ o h w hs f n) (F:Fr S μ μ') (ho:o∉S) (hh:h∉S) (hw:w∉S):Fd μ' o h w hs f n:=by obtain⟨ks,ds,k1,k2⟩:=C.wn;exact⟨(F.2 o (bM C.at_) ho).trans C.at_,(F.2 h (bM C.hd) hh).trans C.hd,⟨ks,ds,(F.2 w (bM k1) hw).trans k1,k2⟩,C.ne⟩
theorem aaQ [DecidableEq κ] (k:κ) (d:D):∀ (ks:List κ) (ds:List D),ks.length=ds.length->∀ k',eH (iI ks k) (lH ks ds k d) k'=if k'=k then some d else eH ks ds k':=by
 have rep:∀ (ks:List κ) (ds:List D),ks.length=ds.length->∀ k',eH ks (acd (fun q d'=>if q=k then d else d') ks ds) k'=if k'=k/\k∈ks then some d else eH ks ds k':=by
  intro ks;induction ks with
  |nil=>intro ds _ k';simp[eH]|cons q ks ih=>
   intro ds hl k';cases ds with
   |nil=>simp at hl|cons d' ds=>
    simp only[adS,eH];by_cases c:q=k'
    .subst c
     by_cases c2:q=k
     .subst c2;simp
     .simp[c2]
    .rw[if_neg c,if_neg c,ih ds (by simpa using hl) k']
     by_cases c2:k'=k
     .subst c2
      (have:(k'∈q::ks)<->k'∈ks:=by simp[bK c]);simp[this]
     .simp[c2]
 have app:∀ (ks:List κ) (ds:List D),ks.length=ds.length->k∉ks->∀ k',eH (ks++[k]) (ds++[d]) k'=if k'=k then some d else eH ks ds k':=by
  intro ks;induction ks with
  |nil=>
   intro ds hl _ k';cases ds with
   |nil=>
    simp only[aM,eH];by_cases c:k=k'
    .subst c;simp
    .rw[if_neg c,if_neg (bK c)]
   |cons _ _=>simp at hl
  |cons q ks ih=>
   intro ds hl hn k';cases ds with
   |nil=>simp at hl|cons d' ds=>
    simp only[bC,not_or]at hn;simp only[bh,eH];by_cases c:q=k'
    .subst c
     rw[if_pos rfl,if_pos rfl,if_neg (bK hn.1)]
    .rw[if_neg c,if_neg c]
     exact ih ds (by simpa using hl) hn.2 k'
 intro ks ds hl k';unfold iI lH;by_cases c:k∈ks
 .rw[if_pos c,if_pos c,rep ks ds hl k']
  by_cases c2:k'=k
  .simp[c2,c]
  .simp[c2]
 .rw[if_neg c,if_neg c]
  exact app ks ds hl c k'
theorem Tp [DecidableEq κ] (k:κ) (d:D) (ks:List κ) (ds:List D) (hl:ks.length=ds.length):(iI ks k).length=(lH ks ds k d).length/\(iI ks k).length<=ks.length+1:=by
 unfold iI lH;split
 .simp[hl]
 .simp[hl]
def aW (q:Nat):D:=.int (q:Int)
def wv (hs:List Hd) (f:WF) (s b:Nat):Option Nat:=if 1<b -s then(f s b).getD none else nY hs s b
def ji:dh:=fun ds μ Q=>match ds with|[.int i,.int n]=>Q (.bl (decide (0<=i/\i<n))) μ|_=>False
def zq:dh:=fun ds μ Q=>∃ s b:Nat,ds=[aW s,aW b]/\s<=b/\Q (aW (mid s b)) μ
def mY:dh:=fun ds μ Q=>∃ p m:Nat,ds=[aW p,aW m]/\p<m/\m<=1000/\Q (.lst ((yP p 0 m).map Rd)) (μ++[.gone])
def fu:dh:=fun ds μ Q=>∃ (o h w:Nat) (hs:List Hd) (f:WF) (n:Int) (p:Nat),ds=[.loc o,aW p]/\Fd μ o h w hs f n/\p<hs.length/\Q .non μ
def fZ:dh:=fun ds μ Q=>∃ (o h w:Nat) (hs:List Hd) (f:WF) (n:Int) (s b:Nat),ds=[.loc o,aW s,aW b]/\Fd μ o h w hs f n/\s<=b/\b<=hs.length/\hs.length<=1000/\(1<b -s->∃ v,f s b=some v)/\Q (jO (wv hs f s b)) μ
def ou:dh:=fun ds μ Q=>∃ (o h w:Nat) (hs:List Hd) (f:WF) (n:Int) (l r:Option Nat),ds=[.loc o,jO l,jO r]/\Fd μ o h w hs f n/\(∀ p,l=some p->Is hs p)/\(∀ p,r=some p->Is hs p)/\Q (jO (mR hs l r)) μ
def lR:dh:=fun ds μ Q=>∃ (o h w:Nat) (hs:List Hd) (f:WF) (n:Int) (s b:Nat),ds=[.loc o,aW s,aW b]/\Fd μ o h w hs f n/\1<b -s/\b<=hs.length/\hs.length<=1000/\n<10000/\
 (1<mid s b -s->f s (mid s b)=some (nY hs s (mid s b)))/\(1<b -mid s b->f (mid s b) b=some (nY hs (mid s b) b))/\∀ μ',Fr [o,w] μ μ'->Fd μ' o h w hs (Z5 f s b (nY hs s b)) (n+1)->Q .non μ'
def bU (d:Nat):dh:=fun ds μ Q=>∃ (o h w:Nat) (hs:List Hd) (f:WF) (n:Int) (s b:Nat),ds=[.loc o,aW s,aW b]/\Fd μ o h w hs f n/\b -s<=2 ^ d/\s<=b/\b<=hs.length/\hs.length<=1000/\n+((b -s:Nat):Int)<10000/\
 ∀ μ' f',Fr [o,w] μ μ'->Fd μ' o h w hs f' (n+((b -s -1:Nat):Int))->(∀ s' b',Mi s b s' b'->1<b' -s'->f' s' b'=some (nY hs s' b'))->(∀ s' b',¬(s<=s'/\b'<=b)->f' s' b'=f s' b')->Q .non μ'
def rM:dh:=fun ds μ Q=>∃ (o:Nat) (hs:List Hd),ds=[.loc o,.lst (hs.map hdD)]/\μ[o]?=some (.ins "Contest" [])/\hs.length<=64/\
 ∀ μ' h w f,Fr [o] μ μ'->Fd μ' o h w hs f ((hs.length -1:Nat):Int)->Alw hs f->μ.length<=h->μ.length<=w->Q .non μ'
def jZ:dh:=fun ds μ Q=>∃ (o h w:Nat) (hs:List Hd) (f:WF) (n:Int),ds=[.loc o]/\Fd μ o h w hs f n/\Alw hs f/\hs.length<=64/\Q (jO (nY hs 0 hs.length)) μ
def rN:dh:=fun ds μ Q=>∃ (o h w:Nat) (hs:List Hd) (f:WF) (n:Int) (p:Nat) (x:Hd),ds=[.loc o,aW p]/\Fd μ o h w hs f n/\hs[p]?=some x/\Q (hdD x) μ
def tD:dh:=fun ds μ Q=>∃ (o h w:Nat) (hs:List Hd) (f:WF) (n:Int) (p:Nat) (x:Hd),ds=[.loc o,aW p,hdD x]/\Fd μ o h w hs f n/\Alw hs f/\p<hs.length/\hs.length<=64/\n<5000/\
 ∀ μ' f',Fr [o,h,w] μ μ'->Fd μ' o h w (hs.set p x) f' (n+((yP p 0 hs.length).length:Int))->Alw (hs.set p x) f'->Q .non μ'
def I6:List Str:=["thing","many"]
def Jv:Ss:=(.cons (.ret (.and (.call "is_whole" eY (.cons (.var 0) .nil)) (.chain .LtE .Lt (.cst (.int 0)) (.var 0) (.var 1)))) .nil)
def Zb:List Str:=["start","behind"]
def Zr:Ss:=(.cons (.ret (.bin .Add (.var 0) (.bin .FloorDiv (.bin .Add (.bin .Sub (.var 1) (.var 0)) (.cst (.int 1))) (.cst (.int 2))))) .nil)
def oN:List Str:=["place","many","told","start","behind","middle"]
def oW:Ss:=(.cons (.set 2 (.lst true .nil)) (.cons (.set 3 (.cst (.int 0))) (.cons (.set 4 (.var 1)) (.cons (.whl (.cmp .Gt (.bin .Sub (.var 4) (.var 3)) (.cst (.int 1))) (.cons (.exp (.meth "append" (.var 2) (.cons (.tup (.cons (.var 3) (.cons (.var 4) .nil))) .nil))) (.cons (.set 5 (.call "midst" zq (.cons (.var 3) (.cons (.var 4) .nil)))) (.cons (.ite (.cmp .Lt (.var 0) (.var 5)) (.cons (.set 4 (.var 5)) .nil) (.cons (.set 3 (.var 5)) .nil)) .nil)))) (.cons (.ret (.frz (.var 2))) .nil)))))
def uy:List Str:=["self","heads"]
def uO:Ss:=(.cons (.pN "Contest" "heads" (.var 0) (.blt "mlist" (.cons (.var 1) .nil))) (.cons (.pN "Contest" "winners" (.var 0) (.aaP true)) (.cons (.pN "Contest" "played" (.var 0) (.cst (.int 0))) (.cons (.exp (.q9 "Contest" "play_all" (bU 6) (.var 0) (.cons (.cst (.int 0)) (.cons (.blt "len" (.cons (.fld "Contest" "heads" (.var 0)) .nil)) .nil)))) .nil))))
def rU:List Str:=["self"]
def rY:Ss:=(.cons (.ret (.q9 "Contest" "winner" fZ (.var 0) (.cons (.cst (.int 0)) (.cons (.blt "len" (.cons (.fld "Contest" "heads" (.var 0)) .nil)) .nil)))) .nil)
def uz:List Str:=["self","place"]
def uP:Ss:=(.cons (.exp (.q9 "Contest" "check_place" fu (.var 0) (.cons (.var 1) .nil))) (.cons (.ret (.idx (.fld "Contest" "heads" (.var 0)) (.var 1))) .nil))
def wG:List Str:=["self","place","head","start","behind"]
def wM:Ss:=(.cons (.exp (.q9 "Contest" "check_place" fu (.var 0) (.cons (.var 1) .nil))) (.cons (.G9 (.fld "Contest" "heads" (.var 0)) (.var 1) (.var 2)) (.cons (.for_ [3,4] true (.rvd (.call "stretches_above" mY (.cons (.var 1) (.cons (.blt "len" (.cons (.fld "Contest" "heads" (.var 0)) .nil)) .nil)))) (.cons (.exp (.q9 "Contest" "play" lR (.var 0) (.cons (.var 3) (.cons (.var 4) .nil)))) .nil)) .nil)))
def jV:List Str:=["self","thing"]
def jW:Ss:=(.cons (.ite (.not (.call "is_below" ji (.cons (.var 1) (.cons (.blt "len" (.cons (.fld "Contest" "heads" (.var 0)) .nil)) .nil)))) (.cons .Xn .nil) .nil) .nil)
def fJ:List Str:=["self","start","behind","middle"]
def fK (d:Nat):Ss:=(.cons (.ite (.cmp .Gt (.bin .Sub (.var 2) (.var 1)) (.cst (.int 1))) (.cons (.set 3 (.call "midst" zq (.cons (.var 1) (.cons (.var 2) .nil)))) (.cons (.exp (.q9 "Contest" "play_all" (spP bU d) (.var 0) (.cons (.var 1) (.cons (.var 3) .nil)))) (.cons (.exp (.q9 "Contest" "play_all" (spP bU d) (.var 0) (.cons (.var 3) (.cons (.var 2) .nil)))) (.cons (.exp (.q9 "Contest" "play" lR (.var 0) (.cons (.var 1) (.cons (.var 2) .nil)))) .nil)))) .nil) .nil)
def ux:List Str:=["self","start","behind","middle"]
def uN:Ss:=(.cons (.set 3 (.call "midst" zq (.cons (.var 1) (.cons (.var 2) .nil)))) (.cons (.dput (.fld "Contest" "winners" (.var 0)) (.tup (.cons (.var 1) (.cons (.var 2) .nil))) (.q9 "Contest" "better" ou (.var 0) (.cons (.q9 "Contest" "winner" fZ (.var 0) (.cons (.var 1) (.cons (.var 3) .nil))) (.cons (.q9 "Contest" "winner" fZ (.var 0) (.cons (.var 3) (.cons (.var 2) .nil))) .nil)))) (.cons (.aa1 "Contest" "played" .Add (.var 0) (.cst (.int 1))) .nil)))
def p7:List Str:=["self","start","behind","alone"]
def qm:Ss:=(.cons (.ite (.cmp .Gt (.bin .Sub (.var 2) (.var 1)) (.cst (.int 1))) (.cons (.ret (.Yb (.fld "Contest" "winners" (.var 0)) (.tup (.cons (.var 1) (.cons (.var 2) .nil))))) .nil) .nil) (.cons (.set 3 (.comp false 1 false [0] (.var 0) (.rng (.cons (.var 1) (.cons (.var 2) .nil))) (.cons (.cmp .IsNot (.idx (.fld "Contest" "heads" (.var 1)) (.var 0)) (.cst .non)) .nil))) (.cons (.ret (.ife (.var 3) (.idx (.var 3) (.cst (.int 0))) (.cst .non))) .nil)))
def iu:List Str:=["self","left","right"]
def iw:Ss:=(.cons (.ite (.or (.cmp .Is (.var 1) (.cst .non)) (.cmp .Is (.var 2) (.cst .non))) (.cons (.ret (.ife (.cmp .Is (.var 1) (.cst .non)) (.var 2) (.var 1))) .nil) .nil) (.cons (.ret (.ife (.call "less" u6 (.cons (.idx (.fld "Contest" "heads" (.var 0)) (.var 2)) (.cons (.idx (.fld "Contest" "heads" (.var 0)) (.var 1)) .nil))) (.var 2) (.var 1))) .nil))
theorem XF:Keeps I6 Jv ji:=by
 intro ds μ Q h;unfold ji at h;split at h
 .rename_i i n
  simp[Jv,I6,aD,bI,wSs,wS,wE,wEs,eY,fU,cM,PK];by_cases h0:0<=i
  .simpa[h0]using h
  .simpa[h0]using h
 .exact h.elim
theorem ag7 {s b:Nat} (h:s<=b):(s:Int)+((b:Int) -(s:Int)+1)/2=(mid s b:Nat):=by unfold mid;lia
theorem ahf:Keeps Zb Zr zq:=by rintro ds μ Q ⟨s,b,rfl,hs,h⟩;simp[Zr,Zb,aD,bI,wSs,wS,wE,wEs,jq,aW,Ml];rw[ag7 hs];exact h
theorem Aa:Keeps oN oW mY:=by
 rintro ds μ Q ⟨p,m,rfl,hp,hm,h⟩;simp only[oW,oN,aD,bI,wSs,wS,wE,wEs,newL,aX,aV,bA,aL,bh,aM,aJ,aZ];refine⟨by decide,?_⟩;refine⟨fun k ρ μ'=>∃ (acc:List (Nat×Nat)) (s b:Nat) (a:Option D),k=b -s/\s<=p/\p<b/\b<=m/\acc++yP p s b=yP p 0 m/\μ'=μ++[.lst (acc.map Rd)]/\ρ=[some (aW p),some (aW m),some (.loc μ.length),some (aW s),some (aW b),a],⟨m,[],0,m,none,by lia,by lia,hp,by lia,by simp,rfl,rfl⟩,?_⟩;rintro k ρ μ' ⟨acc,s,b,a,rfl,h1,h2,h3,he,rfl,rfl⟩;simp[wT,wE,wEs,jq,cM,fU,aW];by_cases c:1<b -s
 .have c':(1:Int)<(b:Int) -(s:Int):=by lia
  have hmd:=gO c;rw[if_pos c'];have hl:acc.length<1000:=by have:=Bd p m 0 m (by lia);rw[<-he,yP,if_pos c]at this;simp at this;lia
  simp[wS,wSs,wE,wEs,isCell,dj,bT,lim];refine⟨by lia,s,b,rfl,by lia,?_⟩;have e1:acc++[(s,b)]++(if p<mid s b then yP p s (mid s b)else yP p (mid s b) b)=yP p 0 m:=by rw[<-he];rw[yP.eq_1 p s b,if_pos c];simp
  by_cases q:p<mid s b
  .have q':(p:Int)<(mid s b:Int):=by lia
   rw[if_pos q]at e1;simp[aW,PK,wT,wE,cM,fU,q'];exact⟨mid s b -s,by lia,acc++[(s,b)],s,mid s b,by lia,by lia,q,by lia,e1,by simp[Rd],rfl,rfl⟩
  .have q':¬(p:Int)<(mid s b:Int):=by lia
   rw[if_neg q]at e1;simp[aW,PK,wT,wE,cM,fU,q'];exact⟨b -mid s b,by lia,acc++[(s,b)],mid s b,b,by lia,by lia,h2,by lia,e1,by simp[Rd],rfl,rfl⟩
 .have c':¬(1:Int)<(b:Int) -(s:Int):=by lia
  rw[if_neg c'];rw[yP,if_neg c]at he;simp at he;subst he;simpa[Q0]using h
theorem Fd.ins {μ:Mem} {o h w:Nat} {hs:List Hd} {f:WF} {n:Int} (C:Fd μ o h w hs f n):dB μ "Contest" (.loc o)=some (o,[("heads",.loc h),("winners",.loc w),("played",.int n)]):=by simp[dB,C.at_]
theorem su:Keeps jV jW fu:=by rintro ds μ Q ⟨o,h,w,hs,f,n,p,rfl,C,hp,q⟩;simpa[jW,jV,aD,bI,wSs,wS,wT,wE,wEs,bO,lenOf,aC,gY,C.ins,bB,C.hd,ji,aW,fM,truth,hp]using q
theorem Jl:Keeps uz uP rN:=by rintro ds μ Q ⟨o,h,w,hs,f,n,p,x,rfl,C,hx,q⟩;have hp:p<hs.length:=(cj.mp hx).1;simp only[uP,uz,aD,bI,wSs,wS,wE,wEs,aX,aV,bA,aL,bh,aM,aJ,aZ];refine⟨by simp[gP,C.ins,bB],o,h,w,hs,f,n,p,rfl,C,hp,?_⟩;simp[gY,C.ins,bB,dH,aW,aC,C.hd,gj hp,hx];exact q
theorem Di:Keeps p7 qm fZ:=by
 rintro ds μ Q ⟨o,h,w,hs,f,n,s,b,rfl,C,sb,bl,hl,hf,q⟩;simp[qm,p7,aD,bI,wSs,wS,wT,wE,wEs,jq,cM,fU,aW];by_cases c:1<b -s
 .have c':(1:Int)<(b:Int) -(s:Int):=by lia
  obtain⟨v,hv⟩:=hf c;obtain⟨ks,ds,k1,k2,k3,k4⟩:=C.wn;rw[if_pos c'];have k5:=k4 s b;rw[hv]at k5;simp[gY,C.ins,bB,KZ,k1,jF,yu,k5,lim];simpa[wv,c,hv]using q
 .have c':¬(1:Int)<(b:Int) -(s:Int):=by lia
  rw[if_neg c'];simp only[wv,if_neg c,kY c]at q;simp[wI,wE,wEs,Bl,mK,lim];refine⟨by lia,?_⟩;by_cases c2:s<b
  .have e:b -s=1:=by lia
   (have hs1:s<hs.length:=by lia);have e2:hs[s]?=some hs[s]:=dw hs1;rw[e];simp[eU,iD,bindC,wTs,wT,wE,gY,C.ins,bB,dH,aC,C.hd,gj hs1,hs1,cM,fU];cases hx:hs[s] with
   |none=>simp[e2,hx]at q;simpa[hdD,oV,newL,fM,truth,lenOf,aC,jO]using q|some x=>simp[e2,hx,c2]at q;simpa[hdD,aK,oV,newL,fM,truth,lenOf,aC,jO,dH,n6]using q
  .have e:b -s=0:=by lia
   rw[e];simp[c2]at q;simpa[eU,iD,newL,fM,truth,lenOf,aC,jO]using q
theorem Dj:Keeps iu iw ou:=by
 rintro ds μ Q ⟨o,h,w,hs,f,n,l,r,rfl,C,hl,hr,q⟩;cases l with
 |none=>simpa[iw,iu,aD,bI,wSs,wS,wT,wE,wEs,cM,fU,jO,oV,mR]using q|some p=>
  cases r with
  |none=>simpa[iw,iu,aD,bI,wSs,wS,wT,wE,wEs,cM,fU,jO,oV,mR]using q|some p2=>
   obtain⟨x,hx⟩:=hl p rfl;obtain⟨y,hy⟩:=hr p2 rfl;have h1:p<hs.length:=(cj.mp hx).1;have h2:p2<hs.length:=(cj.mp hy).1;simp[iw,iu,aD,bI,wSs,wS,wT,wE,wEs,cM,fU,jO,oV,gY,C.ins,bB,dH,aC,C.hd,gj h1,gj h2,hx,hy,hdD];refine⟨y,x,rfl,?_⟩;simp only[mR,hx,hy,ud]at q;by_cases c:iY y x=true
   .simpa[c,fM,truth,jO]using q
   .simpa[c,fM,truth,jO]using q
theorem ahF {μ:Mem} {o h w:Nat} {hs:List Hd} {f:WF} {n:Int} (C:Fd μ o h w hs f n) {ks:List (List iU)} {ds:List D} (hw:μ[w]?=some (.Fx ks ds)) (hl:ks.length=ds.length) (hn:(ks.length:Int)<=n) (hk:∀ s b:Nat,eH ks ds [.inl (s:Int),.inl (b:Int)]=(f s b).map jO) (s b:Nat) (v:Option Nat):
  Fd ((μ.set w (.Fx (iI ks [.inl (s:Int),.inl (b:Int)]) (lH ks ds [.inl (s:Int),.inl (b:Int)] (jO v)))).set o (.ins "Contest" [("heads",.loc h),("winners",.loc w),("played",.int (n+1))])) o h w hs (Z5 f s b v) (n+1):=by
 obtain⟨n1,n2,n3⟩:=C.ne;have l1:=bM C.at_;have l3:=bM hw;refine⟨by simp[l1],?_,⟨iI ks [.inl (s:Int),.inl (b:Int)],lH ks ds [.inl (s:Int),.inl (b:Int)] (jO v),?_,(Tp _ _ _ _ hl).1,?_,fun s' b'=>?_⟩,C.ne⟩
 .rw[cW n1,cW (bK n3)];exact C.hd
 .rw[cW n2];simp[l3]
 .have:=(Tp [oZ (s:Int),oZ (b:Int)] (jO v) ks ds hl).2;lia
 .rw[aaQ _ _ ks ds hl,hk s' b']
  unfold Z5;by_cases c:s'=s/\b'=b
  .obtain⟨rfl,rfl⟩:=c;simp
  .rw[if_neg c,if_neg]
   intro e;apply c;simp at e;lia
theorem Jj:Keeps ux uN lR:=by
 rintro ds μ Q ⟨o,h,w,hs,f,n,s,b,rfl,C,hsb,hb,hl,hn,f1,f2,q⟩;have hm:=gO hsb;obtain⟨ks,ds,k1,k2,k3,k4⟩:=C.wn;simp only[uN,ux,aD,bI,wSs,wS,wE,wEs,aX,aV,bA,aL,bh,aM,aJ,aZ];refine⟨s,b,rfl,by lia,?_⟩;have w1:wv hs f s (mid s b)=nY hs s (mid s b):=by
  unfold wv;split
  .rename_i c;rw[f1 c];rfl
  .rfl
 have w2:wv hs f (mid s b) b=nY hs (mid s b) b:=by
  unfold wv;split
  .rename_i c;rw[f2 c];rfl
  .rfl
 have isI:∀ m,bB m [("heads",D.loc h),("winners",D.loc w),("played",D.int n)]=none->gP μ "Contest" m (.loc o):=fun m hm=>by simp[gP,C.ins,hm]
 simp only[bY,bW,aZ,aJ,bD];simp;refine⟨isI _ (by simp[bB]),isI _ (by simp[bB]),?_⟩;refine⟨o,h,w,hs,f,n,s,mid s b,rfl,C,by lia,by lia,hl,fun c=>⟨_,f1 c⟩,?_⟩;rw[w1];refine⟨isI _ (by simp[bB]),?_⟩;refine⟨o,h,w,hs,f,n,mid s b,b,rfl,C,by lia,by lia,hl,fun c=>⟨_,f2 c⟩,?_⟩;rw[w2];refine⟨o,h,w,hs,f,n,_,_,rfl,C,fun p e=>(yO hs (mid s b -s) s (mid s b) (aB _) p e).1,fun p e=>(yO hs (b -mid s b) (mid s b) b (aB _) p e).1,?_⟩;rw[<-mX hsb];have C2:=ahF C k1 k2 k3 k4 s b (nY hs s b);obtain⟨n1,n2,n3⟩:=C.ne;have amE:dB (μ.set w (.Fx (iI ks [.inl (s:Int),.inl (b:Int)]) (lH ks ds [.inl (s:Int),.inl (b:Int)] (jO (nY hs s b))))) "Contest" (.loc o)=some (o,[("heads",.loc h),("winners",.loc w),("played",.int n)]):=by have:(μ.set w (Cell.Fx (iI ks [.inl (s:Int),.inl (b:Int)]) (lH ks ds [.inl (s:Int),.inl (b:Int)] (jO (nY hs s b)))))[o]?=μ[o]?:=cW (bK n2);simp[dB,this,C.at_]
 simp[gY,C.ins,bB,Gx,k1,jF,yu,aW,lim];refine⟨by lia,?_⟩;simp[amE,bB,DN,kZ,putD];refine q _ ?_ C2;exact(Fr.set (by simp)).trans (Fr.set (by simp))
theorem Fo:Keeps rU rY jZ:=by
 rintro ds μ Q ⟨o,h,w,hs,f,n,rfl,C,A,hl,q⟩;simp only[rY,rU,aD,bI,wSs,wS,wE,wEs,aX,aV,bA,aL,bh,aM,aJ];refine⟨by simp[gP,C.ins,bB],?_⟩;simp[gY,C.ins,bB,bO,lenOf,aC,C.hd];refine⟨o,h,w,hs,f,n,0,hs.length,rfl,C,by lia,by lia,by lia,fun c=>⟨_,A _ _ (.refl _ _) c⟩,?_⟩;have e:wv hs f 0 hs.length=nY hs 0 hs.length:=by
  unfold wv;split
  .rename_i c;rw[A _ _ (.refl _ _) c];rfl
  .rfl
 rw[e];exact q
theorem yD (d:Nat):Keeps fJ (fK d) (bU d):=by
 rintro ds μ Q ⟨o,h,w,hs,f,n,s,b,rfl,C,hd,sb,hb,hl,hn,q⟩;have isI:∀ {μ f n} m,Fd μ o h w hs f n->bB m [("heads",D.loc h),("winners",D.loc w),("played",D.int n)]=none->gP μ "Contest" m (.loc o):=fun m C hm=>by simp[gP,C.ins,hm]
 obtain⟨ne1,ne2,ne3⟩:=C.ne;simp[fK,fJ,aD,bI,wSs,wS,wT,wE,wEs,jq,cM,fU,aW];by_cases c:1<b -s
 .have c':(1:Int)<(b:Int) -(s:Int):=by lia
  have hm:=gO c;rw[if_pos c'];refine⟨s,b,rfl,by lia,isI _ C (by simp[bB]),?_⟩;cases d with
  |zero=>lia|succ d=>
   (have h2:2 ^ (d+1)=2*2 ^ d:=by rw[Nat.pow_succ];lia);(have h3:mid s b -s<=2 ^ d/\b -mid s b<=2 ^ d:=by unfold mid;lia);refine⟨o,h,w,hs,f,n,s,mid s b,rfl,C,h3.1,by lia,by lia,hl,by lia,fun μ1 f1 F1 C1 a1 b1=>?_⟩;refine⟨isI _ C1 (by simp[bB]),?_⟩;refine⟨o,h,w,hs,f1,_,mid s b,b,rfl,C1,h3.2,by lia,by lia,hl,by lia,fun μ2 f2 F2 C2 a2 b2=>?_⟩;refine⟨isI _ C2 (by simp[bB]),?_⟩;have l1:1<mid s b -s->f2 s (mid s b)=some (nY hs s (mid s b)):=fun c1=>by rw[b2 _ _ (by lia)];exact a1 _ _ (.refl _ _) c1
   refine⟨o,h,w,hs,f2,_,s,b,rfl,C2,c,hb,hl,by lia,l1,fun c1=>a2 _ _ (.refl _ _) c1,fun μ3 F3 C3=>?_⟩;refine q μ3 _ ((F1.trans F2).trans F3) (by (have e:n+((mid s b -s -1:Nat):Int)+((b -mid s b -1:Nat):Int)+1=n+((b -s -1:Nat):Int):=by lia);rw[e]at C3;exact C3) ?_ ?_
   .intro s' b' it c1
    unfold Z5;by_cases e:s'=s/\b'=b
    .rw[if_pos e,e.1,e.2]
    .rw[if_neg e]
     cases it with
     |refl=>exact absurd ⟨rfl,rfl⟩ e|left _ i=>have:=i.sub;rw[b2 _ _ (by lia)];exact a1 _ _ i c1|right _ i=>exact a2 _ _ i c1
   .intro s' b' hh
    unfold Z5;rw[if_neg (by rintro⟨rfl,rfl⟩;exact hh ⟨aB _,aB _⟩),b2 _ _ (by lia),b1 _ _ (by lia)]
 .have c':¬(1:Int)<(b:Int) -(s:Int):=by lia
  rw[if_neg c'];refine q μ f Fr.refl (by (have e:n+((b -s -1:Nat):Int)=n:=by lia);rw[e];exact C) (fun s' b' it c1=>?_) fun _ _ _=>rfl
  have:=it.sub;lia
theorem Jk:Keeps uy uO rM:=by
 rintro ds μ Q ⟨o,hs,rfl,ho,h2,q⟩;have lo:=bM ho;have e1:∀ ν:Mem,(μ++ν)[o]?=some (.ins "Contest" []):=fun ν=>by rw[fQ lo];exact ho
 have st:∀ (ν:Mem) (c:Cell),((μ.set o c)++ν)[o]?=some c:=fun ν c=>by rw[fQ (by simpa using lo)];simp[lo]
 simp[uO,uy,aD,bI,wSs,wS,wE,wEs,bO,aC,newL,kZ,dB,e1,putD];rw[O2 _ _ lo];simp[st];rw[O2 _ _ (by simpa using lo)];simp[st];rw[O2 _ _ (by simpa using lo)];have C:Fd (μ.set o (.ins "Contest" [("heads",.loc μ.length),("winners",.loc (μ.length+1)),("played",.int 0)])++[Cell.lst (hs.map hdD),Cell.Fx [] []]) o μ.length (μ.length+1) hs (fun _ _=>none) 0:=by
  refine⟨st _ _,?_,⟨[],[],?_,rfl,by simp,fun _ _=>by simp[eH]⟩,by lia,by lia,by lia⟩
  .rw[pX (by simp)];simp
  .rw[pX (by simp)];simp
 have p1:putD "winners" (D.loc (μ.length+1)) [("heads",D.loc μ.length)]=[("heads",.loc μ.length),("winners",.loc (μ.length+1))]:=by simp[putD]
 have p2:putD "played" (D.int 0) [("heads",D.loc μ.length),("winners",D.loc (μ.length+1))]=[("heads",.loc μ.length),("winners",.loc (μ.length+1)),("played",.int 0)]:=by simp[putD]
 rw[p1,p2];refine⟨by simp,by simp[gP,C.ins,bB],?_⟩;simp[C.ins,bB,gY,lenOf,aC,C.hd];refine⟨o,μ.length,μ.length+1,hs,_,0,0,hs.length,rfl,C,by lia,by lia,by lia,by lia,by lia,fun μ' f' F C' a b=>?_⟩;refine q μ' μ.length (μ.length+1) f' ?_ (by
  have e:(0:Int)+((hs.length -0 -1:Nat):Int)=((hs.length -1:Nat):Int):=by lia
  rw[e]at C';exact C') (fun s b it c=>a s b it c) (aB _) (xJ _)
 refine⟨?_,fun m hm hS=>?_⟩
 .have:=F.1;simp at this;lia
 .have hS':m≠o:=by simpa using hS
  rw[F.2 m (by simp;lia) (by simp;lia),fQ (by simpa using hm),cW (bK hS')]
theorem Ku:Keeps wG wM tD:=by
 rintro ds μ Q ⟨o,h,w,hs,f,n,p,x,rfl,C,A,hp,hl,hn,q⟩;obtain⟨ne1,ne2,ne3⟩:=C.ne;simp only[wM,wG,aD,bI,wSs,wS,wE,wEs,aX,aV,bA,aL,bh,aM,aJ,aZ];refine⟨by simp[gP,C.ins,bB],o,h,w,hs,f,n,p,rfl,C,hp,?_⟩;have C1:Fd (μ.set h (.lst ((hs.set p x).map hdD))) o h w (hs.set p x) f n:=by
  obtain⟨ks,ds,k1,k2⟩:=C.wn;refine⟨?_,?_,⟨ks,ds,?_,k2⟩,C.ne⟩
  .rw[cW (bK ne1)];exact C.at_
  .simp[bM C.hd]
  .rw[cW ne3];exact k1
 have akg:((hs.map hdD).set p (hdD x))=(hs.set p x).map hdD:=by rw[NQ]
 have g1:bB "heads" [("heads",D.loc h),("winners",D.loc w),("played",D.int n)]=some (.loc h):=by simp[bB]
 have lm:(hs.map hdD).length=hs.length:=by simp
 simp only[gY,C.ins,g1,qG,aW,C.hd,lm,gj hp,akg];simp only[wI,wE,wEs,gY,C1.ins,g1,bO,lenOf,aC,C1.hd,aJ,aZ,gF,aR,acv];refine⟨p,hs.length,rfl,hp,by lia,?_⟩;simp only[agl,cB,aC];have C2:Fd (μ.set h (.lst ((hs.set p x).map hdD))++[Cell.gone]) o h w (hs.set p x) f n:=C1.fr (S:=[]) Fr.app (by simp) (by simp) (by simp);have dsc:=(J5 p hs.length 0 hs.length (by lia)).1;have ain:=Yw (p:=p) hs.length 0 hs.length (by lia) (by lia) hp;have aok:=Bd p hs.length 0 hs.length (by lia);have start:∀ s b,Mi 0 hs.length s b->1<b -s->(s,b)∉yP p 0 hs.length->f s b=some (nY (hs.set p x) s b):=fun s b it c hno=>by rw[QH hs p x (b -s) s b (aB _) fun z=>hno (akd it z c)];exact A s b it c
 have er:(yP p 0 hs.length).reverse.map Rd=((yP p 0 hs.length).map Rd).reverse:=by simp
 rw[<-List.map_reverse];refine cU (fun ds ρ μ'=>∃ (l dn:List (Nat×Nat)) (f':WF) (a c:Option D),ds=l.map Rd/\l.reverse++dn=yP p 0 hs.length/\Fr [o,w] (μ.set h (.lst ((hs.set p x).map hdD))++[Cell.gone]) μ'/\Fd μ' o h w (hs.set p x) f' (n+(dn.length:Int))/\
  (∀ s b,Mi 0 hs.length s b->1<b -s->(s,b)∉l->f' s b=some (nY (hs.set p x) s b))/\ρ=[some (.loc o),some (.int (p:Int)),some (hdD x),a,c]) ?_ ?_ _ _ _ ⟨(yP p 0 hs.length).reverse,[],f,none,none,rfl,by simp,Fr.refl,by simpa using C2,fun s b it c hno=>start s b it c (by simpa using hno),rfl⟩
 .rintro d ds ρ μ1 N hN ⟨l,dn,f',a,c,e,hl2,F,C',al,rfl⟩
  cases l with
  |nil=>simp at e|cons y l=>
   obtain⟨s,b⟩:=y;simp only[aX,mJ]at e;obtain⟨rfl,rfl⟩:=e;refine⟨by simp[cB,aC],?_⟩;(have hmem:(s,b)∈yP p 0 hs.length:=by rw[<-hl2];simp);have it:Mi 0 hs.length s b:=(ain _ hmem).1;have sb:1<b -s:=(ain _ hmem).2.1;have hsub:=it.sub;have hm:=gO sb;have big:∀ y∈l,b -s<y.2 -y.1:=fun y hy=>by rw[<-hl2]at dsc;(have:(l.reverse++(s,b)::dn).Pairwise (fun x y=>y.2 -y.1<x.2 -x.1):=by simpa using dsc);exact(Ip.mp this).2.2 y (by simpa using hy) (s,b) (by simp)
   simp[Rd,eX];refine⟨by simp[gP,C'.ins,bB],?_⟩;(have hlen:(hs.set p x).length=hs.length:=by simp);have dl:dn.length<=64:=by have:=congrArg dR hl2;simp at this;lia
   refine⟨o,h,w,hs.set p x,f',_,s,b,rfl,C',sb,by lia,by lia,by lia,fun c1=>al _ _ (it.l sb) c1 ?_,fun c1=>al _ _ (it.r sb) c1 ?_,fun μ2 F2 C2'=>?_⟩
   .intro hmm
    rcases bC.mp hmm with e|hmm
    .simp only[HY]at e;lia
    .have:=big _ hmm;simp only at this;lia
   .intro hmm
    rcases bC.mp hmm with e|hmm
    .simp only[HY]at e;lia
    .have:=big _ hmm;simp only at this;lia
   .refine hN _ _ ⟨l,(s,b)::dn,_,_,_,rfl,by simpa using hl2,F.trans F2,by (have e:n+((dn.length:Nat):Int)+1=n+(((s,b)::dn).length:Int):=by simp;lia);rw[e]at C2';exact C2',fun s' b' it' c1 hno=>?_,rfl⟩
    unfold Z5;by_cases e:s'=s/\b'=b
    .rw[if_pos e,e.1,e.2]
    .rw[if_neg e]
     refine al s' b' it' c1 fun hmm=>?_;rcases bC.mp hmm with e2|hmm
     .simp only[HY]at e2;exact e e2
     .exact hno hmm
 .rintro ρ μ1 ⟨l,dn,f',a,c,e,hl2,F,C',al,rfl⟩
  cases l with
  |cons y l=>simp at e|nil=>
   refine⟨by simp[cB,aC],?_⟩;simp at hl2;subst hl2;refine q μ1 f' ?_ C' fun s b it c1=>al s b (by simpa using it) c1 (by simp);refine((Fr.set (S:=[o,h,w]) (by simp)).trans Fr.app).trans (F.more ?_);intro m hm;simp at hm ⊢;rcases hm with rfl|rfl
   .exact .inl rfl
   .exact .inr (.inr rfl)
theorem J0:∀ (n s b:Nat),b -s<=n->nY hs s b=none->∀ q,s<=q->q<b->¬Is hs q
 |0,s,b,hn,h,q,h1,h2=>by lia|n+1,s,b,hn,h,q,h1,h2=>by
  by_cases c:1<b -s
  .have hm:=gO c
   rw[mX c]at h;have hl:nY hs s (mid s b)=none/\nY hs (mid s b) b=none:=by
    cases e1:nY hs s (mid s b) with
    |none=>rw[e1]at h;exact⟨rfl,h⟩|some p1=>
     rw[e1]at h;cases e2:nY hs (mid s b) b with
     |none=>rw[e2]at h;cases h
     |some p2=>
      rw[e2]at h;simp only[mR]at h;split at h
      .split at h<;>cases h
      .cases h
   by_cases cq:q<mid s b
   .exact J0 n s (mid s b) (by lia) hl.1 q h1 cq
   .exact J0 n (mid s b) b (by lia) hl.2 q (by lia) h2
  .rw[kY c]at h
   (have e:q=s:=by lia);subst e;rintro⟨x,hx⟩;rw[if_pos ⟨by simp[hx],by lia⟩]at h;cases h
def one (hs:List Hd) (p:Nat):Option Nat:=if(hs[p]?.join).isSome=true then some p else none
def fld (hs:List Hd) (l:List Nat) (a:Option Nat):Option Nat:=l.foldl (fun a p=>mR hs a (one hs p)) a
def Vd (hs:List Hd) (a:Option Nat):Prop:=∀ p,a=some p->Is hs p
theorem FQ:Vd hs none:=fun p e=>by cases e
theorem Mq:Vd hs (one hs p):=fun q e=>by
 unfold one at e;split at e
 .rename_i c
  cases e;cases e2:hs[p]? with
  |none=>rw[e2]at c;simp at c|some o=>cases o with|none=>rw[e2]at c;simp at c|some x=>exact⟨x,e2⟩
 .cases e
theorem YH (ha:Vd hs a) (hb:Vd hs b):Vd hs (mR hs a b):=fun p e=>by
 rcases ZS e with e|e
 .exact ha p e
 .exact hb p e
theorem vA (a:Option Nat):mR hs a none=a:=by cases a<;>rfl
theorem iC (hx:hs[p]?=some (some x)) (hy:hs[q]?=some (some y)):mR hs (some p) (some q)=if iY y x=true then some q else some p:=by simp only[mR,hx,hy,ud]
theorem Ys (ha:Vd hs a) (hb:Vd hs b) (hc:Vd hs c):mR hs (mR hs a b) c=mR hs a (mR hs b c):=by
 cases a with
 |none=>rfl|some p=>
  cases b with
  |none=>rfl|some q=>
   cases c with
   |none=>rw[vA,vA]|some r=>
    obtain⟨x,hx⟩:=ha p rfl;obtain⟨y,hy⟩:=hb q rfl;obtain⟨z,hz⟩:=hc r rfl;rw[iC hx hy,iC hy hz];by_cases c1:iY y x=true
    .rw[if_pos c1,iC hy hz]
     by_cases c2:iY z y=true
     .rw[if_pos c2,iC hx hz,if_pos]
      cases c3:iY z x with
      |true=>rfl|false=>have:=j9 x z y c3 (zZ _ _ c2);rw[c1]at this;cases this
     .rw[if_neg c2,iC hx hy,if_pos c1]
    .rw[if_neg c1,iC hx hz]
     by_cases c2:iY z y=true
     .rw[if_pos c2,iC hx hz]
     .rw[if_neg c2,iC hx hy,if_neg c1,if_neg]
      have:=j9 x y z (by simpa using c1) (by simpa using c2);simp[this]
theorem X7:∀ (l:List Nat) (a:Option Nat),Vd hs a->Vd hs (fld hs l a)
 |[],a,h=>h|p::l,a,h=>X7 l _ (YH h Mq)
theorem Qq:∀ (l:List Nat) (a:Option Nat),Vd hs a->fld hs l a=mR hs a (fld hs l none)
 |[],a,h=>(vA a).symm|p::l,a,h=>by have e1:fld hs (p::l) a=fld hs l (mR hs a (one hs p)):=rfl;have e2:fld hs (p::l) none=fld hs l (one hs p):=rfl;rw[e1,e2,Qq l _ (YH h Mq),Qq l (one hs p) Mq];exact Ys h Mq (X7 l none FQ)
theorem QJ (hs:List Hd):∀ (n s b:Nat),b -s<=n->s<=b->nY hs s b=fld hs (fP s (b -s)) none
 |0,s,b,hn,_=>by
  have e:b -s=0:=by lia
  rw[kY (by lia),e];have:¬s<b:=by lia
  simp[this,fld]
 |n+1,s,b,hn,hsb=>by
  by_cases c:1<b -s
  .have hm:=gO c
   rw[mX c,QJ hs n s (mid s b) (by lia) (by lia),QJ hs n (mid s b) b (by lia) (by lia)];have e:fP s (b -s)=fP s (mid s b -s)++fP (mid s b) (b -mid s b):=by (have e1:mid s b=s+(mid s b -s):=by lia);(have e2:b -s=(mid s b -s)+(b -mid s b):=by lia);rw[e2,<-List.range'_append_1,<-e1]
   rw[e];show _=List.foldl _ _ _;rw[Ii];exact(Qq _ _ (X7 _ none FQ)).symm
  .rw[kY c]
   by_cases c2:s<b
   .have e:b -s=1:=by lia
    rw[e];show _=mR hs none (one hs s);show _=one hs s;simp[one,c2]
   .have e:b -s=0:=by lia
    rw[e];simp[c2,fld]
def Lc (d:D):Prop:=(∃ n,d= .loc n)∨∃ l,d= .lst l
theorem Gw (h:Lc d) (hs:aC μ d=some ds) (hi:n6 ds.length i=some p) (hp:ds[p]?=some e):dH d (.int i) μ Q=Q e μ:=by
 rcases h with⟨n,rfl⟩|⟨l,rfl⟩
 .simp[dH,hs,hi,hp]
 .simp[dH,hs,hi,hp]
theorem Fr.new {S:List Nat} {μ0 μ μ':Mem} (a:Fr [] μ0 μ) (b:Fr S μ μ') (h:∀ m∈S,μ0.length<=m):Fr [] μ0 μ' :=
 ⟨jR a.1 b.1,fun m hm _=>by rw[b.2 m (jT hm a.1) (fun z=>by have:=h m z;lia),a.2 m hm (by simp)]⟩
theorem Fr.ai0 {μ0 μ:Mem} {t:Nat} (a:Fr [] μ0 μ) (c:Cell) (h:μ0.length<=t):Fr [] μ0 (μ.set t c):=a.new (S:=[t]) (Fr.set (by simp)) (by simpa using h)
theorem Fr.aem (a:Fr [] μ0 μ) (ν:Mem):Fr [] μ0 (μ++ν):=a.trans Fr.app
theorem Fr.get {μ0 μ:Mem} {i:Nat} {c:Cell} (a:Fr [] μ0 μ) (g:μ0[i]?=some c):μ[i]?=some c:=by rw[a.2 i (bM g) (by simp)];exact g
theorem Fr.seq {μ0 μ:Mem} {d:D} {es:List D} (a:Fr [] μ0 μ) (g:aC μ0 d=some es):aC μ d=some es:=by
 cases d with
 |loc n=>
  simp only[aC]at g ⊢;split at g
  .rename_i q;rw[a.get q];exact g
  .cases g
 |_=>exact g
end DW.Mj
namespace DW.rG
open PySem DW DW.Ue DW.Mj
def Ez (μ:Mem) (d:D) (r:List Itm):Prop:=Lc d/\aC μ d=some (r.map aK)
def uX (μ:Mem) (d:D) (rs:List (List Itm)):Prop:=Lc d/\∃ es:List D,aC μ d=some es/\es.length=rs.length/\∀ (i:Nat) (e:D) (r:List Itm),es[i]?=some e->rs[i]?=some r->Ez μ e r
theorem Ez.fr (h:Ez μ0 d r) (a:Fr [] μ0 μ):Ez μ d r:=⟨h.1,a.seq h.2⟩
theorem uX.fr (h:uX μ0 d rs) (a:Fr [] μ0 μ):uX μ d rs:=by obtain⟨h1,es,h2,h3,h4⟩:=h;exact⟨h1,es,a.seq h2,h3,fun i e r x y=>(h4 i e r x y).fr a⟩
theorem ajX (hl:Lc d) (h:aC μ d=some es):cB μ d=some es:=by rcases hl with⟨n,rfl⟩|⟨l,rfl⟩<;>exact h
theorem aeZ (hl:Lc d) (h:aC μ d=some es):lenOf μ d=some es.length:=by
 rcases hl with⟨n,rfl⟩|⟨l,rfl⟩
 .show abW (·.length) (aC μ (.loc n))=_;rw[h];rfl
 .show abW (·.length) (aC μ (.lst l))=_;rw[h];rfl
theorem YF {μ:Mem} {d:D} {es:List D} {Q:QI} (hl:Lc d) (h:aC μ d=some es) (q:∀ g:Mem->Prop,(∀ μ',Fr [] μ μ'->g μ')->Q es g μ):lO d μ Q:=by
 rcases hl with⟨n,rfl⟩|⟨l,rfl⟩
 .simp only[aC]at h
  split at h
  .rename_i ds e
   cases h;simp only[lO,e];exact q _ fun μ' F=>F.get e
  .cases h
 .simp only[aC,pU]at h
  subst h;exact q _ fun _ _=>trivial
theorem M7 (h:Ez μ d r) (hk:k<r.length) (q:Q (aK r[k]) μ):dH d (.int (k:Int)) μ Q:=by rw[Gw h.1 h.2 (p:=k) (e:=aK r[k]) (by rw[aR];exact gj hk) (by simp[hk])];exact q
theorem abO (h:uX μ d rs) (hk:k<rs.length) (q:∀ e,Ez μ e rs[k]->Q e μ):dH d (.int (k:Int)) μ Q:=by
 obtain⟨h1,es,h2,h3,h4⟩:=h;have hk':k<es.length:=by lia
 rw[Gw h1 h2 (p:=k) (e:=es[k]) (gj hk') (by simp[hk'])];exact q _ (h4 k _ _ (dw hk') (dw hk))
def hds (rs:List (List Itm)):List Hd:=rs.map List.head?
def ug:Nat->List (List Itm)->List (Itm×Nat)
 |0,_=>[]|n+1,rs=>match nY (hds rs) 0 (hds rs).length with|none=>[]|some p=>match rs[p]? with|some (x::t)=>(x,p)::ug n (rs.set p t)|_=>[]
def CT (rs:List (List Itm)):List (Itm×Nat):=ug rs.flatten.length rs
def ak9 (rs:List (List Itm)):List Itm:=(CT rs).map (·.1)
def pTr (rs:List (List Itm)):List Nat:=(CT rs).map (·.2)
theorem J1 (h:nY (hds rs) 0 (hds rs).length=some p):p<rs.length/\∃ x t,rs[p]?=some (x::t):=by
 obtain⟨⟨x,hx⟩,_,hp⟩:=yO _ _ 0 _ (aB _) p h;have hp':p<rs.length:=by simpa[hds]using hp
 refine⟨hp',?_⟩;simp only[hds,jw,dw hp',gF,pU]at hx;cases e:rs[p] with
 |nil=>rw[e]at hx;cases hx
 |cons y t=>exact⟨y,t,by rw[dw hp',e]⟩
theorem yc (h:nY (hds rs) 0 (hds rs).length=some p) (e:rs[p]?=some (x::t)):ug (n+1) rs=(x,p)::ug n (rs.set p t):=by rw[ug,h];simp only[e]
theorem IK (h:nY (hds rs) 0 (hds rs).length=none):ug n rs=[]:=by
 cases n with
 |zero=>rfl|succ n=>rw[ug,h]
theorem zy:∀ (rs:List (List Itm)) (p:Nat) (x:Itm) (t:List Itm),rs[p]?=some (x::t)->(rs.set p t).flatten.length+1=rs.flatten.length
 |[],p,x,t,h=>by simp at h|r::rs,0,x,t,h=>by simp only[aJ,pU]at h;subst h;simp only[bW,Ww,gG,bA];lia|r::rs,p+1,x,t,h=>by have:=zy rs p x t (by simpa using h);simp only[bY,Ww,gG];lia
theorem aho (rs:List (List Itm)) (p:Nat) (t:List Itm):hds (rs.set p t)=(hds rs).set p t.head?:=by simp[hds,NQ]
def Rst (rs rest:List (List Itm)) (tk:List Nat):Prop:=rest.length=rs.length/\tk.length=rs.length/\∀ (i:Nat) (r:List Itm),rs[i]?=some r->∃ k,tk[i]?=some k/\k<=r.length/\rest[i]?=some (r.drop k)
theorem Rst.start (rs:List (List Itm)):Rst rs rs (rs.map fun _=>0):=⟨rfl,by simp,fun i r h=>⟨0,by simp[h],ju _,by simpa using h⟩⟩
theorem Rst.step (R:Rst rs rest tk) (hp:p<rs.length) (e:rest[p]?=some (x::t)):
  ∃ k,tk[p]?=some k/\k<rs[p].length/\rs[p][k]?=some x/\rs[p][k+1]?=t.head?/\Rst rs (rest.set p t) (tk.set p (k+1)):=by
 obtain⟨R1,R2,R3⟩:=R;obtain⟨k,k1,k2,k3⟩:=R3 p _ (dw hp);rw[e]at k3;simp only[pU]at k3;have hk:k<rs[p].length:=by
  rcases Ck k rs[p].length with q|q
  .exact q
  .rw[Hl q]at k3;cases k3
 have e1:rs[p].drop k=rs[p][k]::rs[p].drop (k+1):=Ho hk;rw[e1]at k3;simp only[mJ]at k3;obtain⟨rfl,rfl⟩:=k3;refine⟨k,k1,hk,dw hk,by rw[List.head?_drop],by simpa using R1,by simpa using R2,fun i r h=>?_⟩;by_cases c:i=p
 .subst c
  rw[dw hp]at h;simp only[pU]at h;subst h;refine⟨k+1,?_,hk,?_⟩
  .rw[eF (by lia)]
  .rw[eF (by lia)]
 .obtain⟨k',a,b,c'⟩:=R3 i r h
  exact⟨k',by rw[cW (bK c)];exact a,b,by rw[cW (bK c)];exact c'⟩
def s8:dh:=fun ds μ Q=>∃ (d:D) (r:List Itm),ds=[d]/\Ez μ d r/\r.length<1000/\∀ b:Bool,(b=true<->Adj r)->Q (.bl b) μ
def rK:dh:=fun ds μ Q=>∃ (d:D) (rs:List (List Itm)),ds=[d]/\uX μ d rs/\(∀ r∈rs,Adj r/\r.length<1000)/\Q .non μ
def wW:dh:=fun ds μ Q=>∃ (d:D) (r:List Itm) (k:Nat),ds=[d,aW k]/\Ez μ d r/\Q (hdD r[k]?) μ
def FZ:dh:=fun ds μ Q=>∃ (d:D) (rs:List (List Itm)),ds=[d]/\uX μ d rs/\(∀ r∈rs,Adj r/\r.length<1000)/\rs.length<=64/\rs.length*(rs.flatten.length+1)<5000/\rs.flatten.length<5000/\
 ∀ (μ':Mem) (a b:Nat),Fr [] μ μ'->μ.length<=a->μ.length<=b->a≠b->μ'[a]?=some (.lst ((ak9 rs).map aK))->μ'[b]?=some (.lst ((pTr rs).map aW))->Q (.tup [.loc a,.loc b]) μ'
def zR:List Str:=["row","place"]
def Af:Ss:=(.cons (.for_ [1] false (.rng (.cons (.cst (.int 1)) (.cons (.blt "len" (.cons (.var 0) .nil)) .nil))) (.cons (.ite (.call "less" u6 (.cons (.idx (.var 0) (.var 1)) (.cons (.idx (.var 0) (.bin .Sub (.var 1) (.cst (.int 1)))) .nil))) (.cons (.ret (.cst (.bl false))) .nil) .nil) .nil)) (.cons (.ret (.cst (.bl true))) .nil))
def uw:List Str:=["runs","at","run"]
def uM:Ss:=(.cons (.for_ [1,2] true (.enum (.var 0)) (.cons (.ite (.not (.call "rises" s8 (.cons (.var 2) .nil))) (.cons .Xn .nil) .nil) .nil)) .nil)
def Li:List Str:=["run","taken"]
def Ly:Ss:=(.cons (.ret (.ife (.cmp .Lt (.var 1) (.blt "len" (.cons (.var 0) .nil))) (.idx (.var 0) (.var 1)) (.cst .non))) .nil)
def aeL:List Str:=["runs","taken","contest","row","trace","number"]
def Mw:Ss:=(.cons (.set 1 (.comp true 1 false [] (.cst (.int 0)) (.seq (.var 0)) .nil)) (.cons (.set 2 (.mk "Contest" rM (.cons (.comp false 1 false [] (.call "head_of" wW (.cons (.var 0) (.cons (.cst (.int 0)) .nil))) (.seq (.var 0)) .nil) .nil))) (.cons (.set 3 (.lst true .nil)) (.cons (.set 4 (.lst true .nil)) (.cons (.set 5 (.q9 "Contest" "first" jZ (.var 2) .nil)) (.cons (.whl (.cmp .IsNot (.var 5) (.cst .non)) (.cons (.exp (.meth "append" (.var 3) (.cons (.q9 "Contest" "head" rN (.var 2) (.cons (.var 5) .nil)) .nil))) (.cons (.exp (.meth "append" (.var 4) (.cons (.var 5) .nil))) (.cons (.Mg .Add (.var 1) (.var 5) (.cst (.int 1))) (.cons (.exp (.q9 "Contest" "put" tD (.var 2) (.cons (.var 5) (.cons (.call "head_of" wW (.cons (.idx (.var 0) (.var 5)) (.cons (.idx (.var 1) (.var 5)) .nil))) .nil)))) (.cons (.set 5 (.q9 "Contest" "first" jZ (.var 2) .nil)) .nil)))))) (.cons (.ret (.tup (.cons (.var 3) (.cons (.var 4) .nil)))) .nil)))))))
def afe:Ss:=(.cons (.exp (.call "check_rising" rK (.cons (.var 0) .nil))) Mw)
theorem Qe:Keeps zR Af s8:=by
 rintro ds μ Q ⟨d,r,rfl,hd,hl,h⟩;have Zy:=aeZ hd.1 hd.2;simp[Af,zR,aD,bI,wSs,wS,wE,wEs,wI,wT,bO,Zy,Bl,mK];refine⟨⟨by simp only[lim];lia,by lia⟩,?_⟩;refine cU (fun ds ρ μ'=>∃ (m:Nat) (u:Option D),ds=(fP m (r.length -1 -m)).map (fun(k:Nat)=>D.int (1+(k:Int)))/\(∀ i (h:i+1<r.length),i<m->iY (r[i+1]'h) (r[i]'(by lia))=false)/\μ'=μ/\ρ=[some d,u]) ?_ ?_ _ _ _ ⟨0,none,?_,fun i h1 h2=>by lia,rfl,rfl⟩
 .rintro d' ds ρ μ' N hN ⟨m,u,e,hm,rfl,rfl⟩
  have hm2:m<r.length -1:=by
   by_cases q:m<r.length -1
   .exact q
   .rw[show r.length -1 -m=0 by lia]at e;simp at e
  have e0:fP m (r.length -1 -m)=m::fP (m+1) (r.length -1 -(m+1)):=by rw[show r.length -1 -m=(r.length -1 -(m+1))+1 by lia,Cu]
  rw[e0]at e;simp at e;obtain⟨rfl,rfl⟩:=e;refine⟨trivial,?_⟩;have h1:m+1<r.length:=by lia
  have h2:m<r.length:=by lia
  have e1:(1+(m:Int))=((m+1:Nat):Int):=by lia
  have e2:1+(m:Int) -1=(m:Int):=by lia
  simp only[eX,bW,bY,aJ,aZ,jq,e2];rw[e1];refine M7 hd h1 (M7 hd h2 ?_);refine⟨r[m+1],r[m],rfl,?_⟩;simp[fM,truth];by_cases q:iY r[m+1] r[m]=true
  .rw[if_pos q]
   refine h false ⟨fun z=>Bool.noConfusion z,fun z=>?_⟩;have:=z m h1;rw[q]at this;cases this
  .rw[if_neg q]
   refine hN _ _ ⟨m+1,_,rfl,fun i a b=>?_,rfl,rfl⟩;by_cases z:i=m
   .subst z;simpa using q
   .exact hm i a (by lia)
 .rintro ρ μ' ⟨m,u,e,hm,rfl,rfl⟩
  have hm2:r.length -1 -m=0:=by have:=congrArg dR e;simp at this;lia
  exact⟨trivial,h true ⟨fun _ i a=>hm i a (by lia),fun _=>rfl⟩⟩
 .simp only[eU]
  rw[O5];congr 1
theorem aaD:Keeps Li Ly wW:=by
 rintro ds μ Q ⟨d,r,k,rfl,hd,h⟩;have Zy:=aeZ hd.1 hd.2;simp only[Ly,Li,aD,bI,wSs,wS,wT,wE,wEs,aW,bO,Zy,aX,aV,bA,aL,bh,aM,aJ,aZ,cM,PK,fU,aR];by_cases c:k<r.length
 .have c':(k:Int)<(r.length:Int):=by lia
  simp only[c',decide_true,if_true];refine M7 hd c ?_;rw[dw c]at h;exact h
 .have c':¬(k:Int)<(r.length:Int):=by lia
  simp only[c',decide_false,bZ,if_false];rw[O8 (by lia)]at h;exact h
theorem Ji:Keeps uw uM rK:=by
 rintro ds μ Q ⟨d,rs,rfl,hd,ha,h⟩;obtain⟨h1,es,h2,h3,h4⟩:=hd;have hls:=ajX h1 h2;simp only[uM,uw,aD,bI,wSs,wS,wE,wEs,wI,Q5,hls,aX,aV,bA,aL,bh,aM,aJ,bD];refine cU (fun ds ρ μ'=>∃ (j:Nat) (a b:Option D),ds=nW j (es.drop j)/\μ'=μ/\ρ=[some d,a,b]) ?_ ?_ _ _ _ ⟨0,none,none,by simp,rfl,rfl⟩
 .rintro d' ds ρ μ' N hN ⟨j,a,b,e,rfl,rfl⟩
  refine⟨hls,?_⟩;have hj:j<es.length:=by
   rcases Ck j es.length with q|q
   .exact q
   .rw[Hl q]at e;simp[nW]at e
  rw[Ho hj]at e;simp only[nW,mJ]at e;obtain⟨rfl,rfl⟩:=e;simp only[eX,Il,WW,pR,Ob,bW,bY,aJ,aZ,wT,wE,wEs];have hj':j<rs.length:=by lia
  have hr:=ha _ (Oo hj');refine⟨rfl,es[j],rs[j],rfl,h4 j _ _ (dw hj) (dw hj'),hr.2,fun b hb=>?_⟩;have hb':b=true:=hb.mpr hr.1;subst hb';simp only[fM,truth,pO,bZ,if_false,wSs];exact hN _ _ ⟨j+1,_,_,rfl,rfl,rfl⟩
 .rintro ρ μ' ⟨j,a,b,e,rfl,rfl⟩
  exact⟨hls,h⟩
theorem zeros {es:List D} {rs:List (List Itm)} (h:es.length=rs.length):(es.map fun _=>D.int 0)=(rs.map fun _=>0).map aW:=by simp only[List.map_const',List.map_replicate,h,aW];rfl
theorem X3 {μ:Mem} {es:List D} {rs:List (List Itm)} (h3:es.length=rs.length):(es.zip rs).map (fun p=>hdD p.2[0]?)=(hds rs).map hdD:=by have e:(es.zip rs).map Vc=rs:=Oq (by lia);rw[<-e];simp only[hds,oG];rw[e];refine Im fun p _=>?_;simp[adR]
theorem UG {Z:jM} {μ:Mem} {d:D} {rs:List (List Itm)} (hd:uX μ d rs) (hn:rs.length<=64) (hm:rs.length*(rs.flatten.length+1)<5000) (hf:rs.flatten.length<5000)
  (h:∀ (μ':Mem) (a b:Nat),Fr [] μ μ'->μ.length<=a->μ.length<=b->a≠b->μ'[a]?=some (.lst ((ak9 rs).map aK))->μ'[b]?=some (.lst ((pTr rs).map aW))->Z.rt (.tup [.loc a,.loc b]) μ'):
  wSs Mw Z [some d,none,none,none,none,none] μ:=by
 have hd':=hd;obtain⟨h1,es,h2,h3,h4⟩:=hd';simp only[Mw,wSs,wS,wE,wEs,wI,aX,aV,bA,aL,bh,aM,aJ,bD];refine YF h1 h2 fun g hg=>?_;refine Bm (fun _=>true) (fun _=>D.int 0) (hg _ Fr.refl) _ _ ?_ ?_
 .intro e he Y N z
  simpa[bindC,wTs]using z
 rw[O1.mpr (by simp),aM,zeros h3];simp only[newL,bW,bY,aJ,aZ];have F1:Fr [] μ (μ++[Cell.lst ((rs.map fun _=>0).map aW)]):=Fr.app;have t1:(μ++[Cell.lst ((rs.map fun _=>0).map aW)])[μ.length]?=some (.lst ((rs.map fun _=>0).map aW)):=by simp
 have l1:(μ++[Cell.lst ((rs.map fun _=>0).map aW)]).length=μ.length+1:=by simp
 generalize μ++[Cell.lst ((rs.map fun _=>0).map aW)]=μ1 at F1 t1 l1;refine YF h1 (F1.seq h2) fun g hg=>?_;have ez:es=(es.zip rs).map Nj:=(Wr (by lia)).symm;rw[ez];refine dF Nj (fun p=>hdD p.2[0]?) (hg _ Fr.refl) _ _ ?_ ?_
 .intro p hp Y N z
  obtain⟨i,i1,i2⟩:=RQ hp;simp only[bindC,wTs,wE,wEs,aV,aJ,if_true];exact⟨p.1,p.2,0,rfl,(h4 i _ _ i1 i2).fr F1,z⟩
 rw[aM,X3 (μ:=μ) h3];have lh:(hds rs).length=rs.length:=by simp[hds]
 refine⟨μ1.length,hds rs,rfl,by simp,by lia,fun μ2 hh ww f F2 C A hlo wlo=>⟨rfl,?_⟩⟩;have F2':Fr [] μ μ2:=(F1.aem _).new F2 (by simp;lia);have o1:μ1.length=μ.length+1:=l1;have t2:μ2[μ.length]?=some (.lst ((rs.map fun _=>0).map aW)):=by rw[F2.2 μ.length (by simp;lia) (by simp;lia),fQ (by lia)];exact t1
 simp only[gG,bA,aL]at hlo wlo;rw[o1]at C hlo wlo ⊢;have ne:=C.ne;simp only[bW,bY,aJ,aZ,newL,gG,bA,aL];refine⟨by simp only[lim];lia,by simp only[lim];lia,?_⟩;have hcl:=bM C.hd;obtain⟨_,_,hw0,_⟩:=C.wn;have wcl:=bM hw0;have ocl:=bM C.at_;have C2:Fd (μ2++[Cell.lst []]++[Cell.lst []]) (μ.length+1) hh ww (hds rs) f (((hds rs).length -1:Nat):Int):=(C.fr (S:=[]) Fr.app (by simp) (by simp) (by simp)).fr (S:=[]) Fr.app (by simp) (by simp) (by simp);have F3:Fr [] μ (μ2++[Cell.lst []]++[Cell.lst []]):=(F2'.aem _).aem _;have t3:(μ2++[Cell.lst []]++[Cell.lst []])[μ.length]?=some (.lst ((rs.map fun _=>0).map aW)):=by rw[rR,fQ (bM t2)];exact t2
 have a3:(μ2++[Cell.lst []]++[Cell.lst []])[μ2.length]?=some (.lst ((([]:List (Itm×Nat)).map (·.1)).map aK)):=by simp
 have b3:(μ2++[Cell.lst []]++[Cell.lst []])[μ2.length+1]?=some (.lst ((([]:List (Itm×Nat)).map (·.2)).map aW)):=by rw[pX (by simp)];simp
 generalize μ2++[Cell.lst []]++[Cell.lst []]=μ3 at C2 F3 t3 a3 b3;have al:μ.length+1<μ2.length:=ocl;generalize μ2.length=na at*;refine⟨by simp[gP,C2.ins,bB],_,hh,ww,hds rs,f,_,rfl,C2,A,by lia,?_⟩;refine⟨fun M ρ μ'=>∃ (rest:List (List Itm)) (tk:List Nat) (dn:List (Itm×Nat)) (f:WF) (n:Int),M=rest.flatten.length/\Rst rs rest tk/\dn++ug M rest=CT rs/\dn.length+M=rs.flatten.length/\n<=((rs.length*(dn.length+1):Nat):Int)/\0<=n/\Fr [] μ μ'/\Fd μ' (μ.length+1) hh ww (hds rest) f n/\Alw (hds rest) f/\
   μ'[μ.length]?=some (.lst (tk.map aW))/\μ'[na]?=some (.lst ((dn.map (·.1)).map aK))/\μ'[na+1]?=some (.lst ((dn.map (·.2)).map aW))/\ρ=[some d,some (.loc μ.length),some (.loc (μ.length+1)),some (.loc na),some (.loc (na+1)),some (jO (nY (hds rest) 0 (hds rest).length))],
  ⟨_,rs,_,[],f,_,rfl,Rst.start rs,by simp[CT],by simp,by simp;lia,by lia,F3,C2,A,t3,a3,b3,rfl⟩,?_⟩
 rintro M ρ μ' ⟨rest,tk,dn,f',n,rfl,R,ep,el,hnn,hn0,F,C',A',t',a',b',rfl⟩;clear C2 C A F3 t3 a3 b3 F2' F2 t2 hw0 t1;simp only[wT,wE,aJ,aZ,cM,fU];cases hb:nY (hds rest) 0 (hds rest).length with
 |none=>simp only[jO,oV,pO,bZ,if_false,aJ,aZ,bA,aL];rw[IK hb,qZ]at ep;subst ep;refine⟨by decide,h μ' na (na+1) F (by lia) (by lia) (by lia) a' b'⟩|some p=>
  obtain⟨hp,x,t,hx⟩:=J1 hb;have hp':p<rs.length:=by rw[<-R.1];exact hp
  obtain⟨k,k1,k2,k3,k4,R'⟩:=R.step hp' hx;have sf:=zy rest p x t hx;have hps:=yc (n:=(rest.set p t).flatten.length) hb hx;rw[sf]at hps;rw[hps]at ep;have lr:(hds rest).length=rs.length:=by simp[hds,R.1]
  have hxd:(hds rest)[p]?=some (some x):=by simp[hds,hx]
  simp only[jO,oV,rQ,if_true,wSs,wS,wE,wEs,aJ,aZ];have ca:isCell μ' (.loc na)=true:=by simp[isCell,a']
  refine⟨ca,by simp[gP,C'.ins,bB],_,hh,ww,hds rest,f',n,p,some x,rfl,C',hxd,?_⟩;simp only[dj,a',bT,hdD,aR];refine⟨by simp only[lim];lia,?_⟩;have hal:na<μ'.length:=bM a';have hbl:na+1<μ'.length:=bM b';have ea:(dn.map (·.1)).map aK++[aK x]=((dn++[(x,p)]).map (·.1)).map aK:=by simp
  rw[ea];have C4:=C'.fr (S:=[na]) (Fr.set (n:=na) (c:=.lst (((dn++[(x,p)]).map (·.1)).map aK)) (by simp)) (by simp;lia) (by simp;lia) (by simp;lia)
  have F4:=F.ai0 (.lst (((dn++[(x,p)]).map (·.1)).map aK)) (t:=na) (by lia)
  have t4:(μ'.set na (.lst (((dn++[(x,p)]).map (·.1)).map aK)))[μ.length]?=some (.lst (tk.map aW)):=by rw[cW (by lia)];exact t'
  have b4:(μ'.set na (.lst (((dn++[(x,p)]).map (·.1)).map aK)))[na+1]?=some (.lst ((dn.map (·.2)).map aW)):=by rw[cW (by lia)];exact b'
  have a4:(μ'.set na (.lst (((dn++[(x,p)]).map (·.1)).map aK)))[na]?=some (.lst (((dn++[(x,p)]).map (·.1)).map aK)):=eF hal
  generalize μ'.set na (.lst (((dn++[(x,p)]).map (·.1)).map aK))=μ4 at C4 F4 t4 b4 a4
  have cb:isCell μ4 (.loc (na+1))=true:=by simp[isCell,b4]
  refine⟨cb,?_⟩;simp only[b4,bT,aR];refine⟨by simp only[lim];lia,?_⟩;have hal:na<μ4.length:=bM a4;have hbl:na+1<μ4.length:=bM b4;have eb:(dn.map (·.2)).map aW++[D.int (p:Int)]=((dn++[(x,p)]).map (·.2)).map aW:=by simp[aW]
  rw[eb];have C5:=C4.fr (S:=[na+1]) (Fr.set (n:=na+1) (c:=.lst (((dn++[(x,p)]).map (·.2)).map aW)) (by simp)) (by simp;lia) (by simp;lia) (by simp;lia)
  have F5:=F4.ai0 (.lst (((dn++[(x,p)]).map (·.2)).map aW)) (t:=na+1) (by lia)
  have t5:(μ4.set (na+1) (.lst (((dn++[(x,p)]).map (·.2)).map aW)))[μ.length]?=some (.lst (tk.map aW)):=by rw[cW (by lia)];exact t4
  have a5:(μ4.set (na+1) (.lst (((dn++[(x,p)]).map (·.2)).map aW)))[na]?=some (.lst (((dn++[(x,p)]).map (·.1)).map aK)):=by rw[cW (by lia)];exact a4
  have b5:(μ4.set (na+1) (.lst (((dn++[(x,p)]).map (·.2)).map aW)))[na+1]?=some (.lst (((dn++[(x,p)]).map (·.2)).map aW)):=eF hbl
  generalize μ4.set (na+1) (.lst (((dn++[(x,p)]).map (·.2)).map aW))=μ5 at C5 F5 t5 b5 a5
  have htl:μ.length<μ5.length:=bM t5;have hpk:p<tk.length:=by rw[R.2.1];exact hp'
  have ktk:tk[p]=k:=by rw[dw hpk]at k1;exact cP k1
  have kt:(tk.map aW)[((p:Int)).toNat]?=some (.int (k:Int)):=by simp[k1,aW]
  simp only[YG,t5,kt,DN,qG,aR,gj hpk];refine⟨by lia,?_⟩;have et:(tk.map aW).set p (D.int ((k:Int)+1))=(tk.set p (k+1)).map aW:=by rw[NQ];simp[aW]
  rw[et];have C6:=C5.fr (S:=[μ.length]) (Fr.set (n:=μ.length) (c:=.lst ((tk.set p (k+1)).map aW)) (by simp)) (by simp) (by simp;lia) (by simp;lia);have F6:=F5.ai0 (.lst ((tk.set p (k+1)).map aW)) (t:=μ.length) (aB _);have t6:(μ5.set μ.length (.lst ((tk.set p (k+1)).map aW)))[μ.length]?=some (.lst ((tk.set p (k+1)).map aW)):=eF htl;have a6:(μ5.set μ.length (.lst ((tk.set p (k+1)).map aW)))[na]?=some (.lst (((dn++[(x,p)]).map (·.1)).map aK)):=by rw[cW (by lia)];exact a5
  have b6:(μ5.set μ.length (.lst ((tk.set p (k+1)).map aW)))[na+1]?=some (.lst (((dn++[(x,p)]).map (·.2)).map aW)):=by rw[cW (by lia)];exact b5
  generalize μ5.set μ.length (.lst ((tk.set p (k+1)).map aW))=μ6 at C6 F6 t6 b6 a6;refine⟨by simp[gP,C6.ins,bB],?_⟩;refine abO (hd.fr F6) hp' fun e he=>?_;have amJ:p<(tk.set p (k+1)).length:=by simpa using hpk
  rw[Gw (ds:=(tk.set p (k+1)).map aW) (p:=p) (e:=aW (k+1)) (.inl ⟨_,rfl⟩) (by simp only[aC,t6]) (by rw[aR];exact gj amJ) (by simp[hpk])];refine⟨e,rs[p],k+1,rfl,he,?_⟩;rw[k4];have abl:=Bd p (hds rest).length 0 (hds rest).length (by lia);have mb:rs.length*(dn.length+1)<=rs.length*(rs.flatten.length+1):=Nat.mul_le_mul_left _ (by lia);refine⟨_,hh,ww,hds rest,f',n,p,t.head?,rfl,C6,A',by lia,by lia,by lia,fun μ7 f7 F7 C7 A7=>?_⟩;rw[<-aho]at C7 A7;have F7':Fr [] μ μ7:=F6.new F7 (by simp;lia);have t7:μ7[μ.length]?=some (.lst ((tk.set p (k+1)).map aW)):=by rw[F7.2 _ (bM t6) (by simp;lia)];exact t6
  have a7:μ7[na]?=some (.lst (((dn++[(x,p)]).map (·.1)).map aK)):=by rw[F7.2 _ (bM a6) (by simp;lia)];exact a6
  have b7:μ7[na+1]?=some (.lst (((dn++[(x,p)]).map (·.2)).map aW)):=by rw[F7.2 _ (bM b6) (by simp;lia)];exact b6
  simp only[bW,bY,aJ,aZ];have lr2:(hds (rest.set p t)).length=rs.length:=by simp[hds,R.1]
  refine⟨by simp[gP,C7.ins,bB],_,hh,ww,_,f7,_,rfl,C7,A7,by lia,?_⟩;refine⟨(rest.set p t).flatten.length,by lia,rest.set p t,tk.set p (k+1),dn++[(x,p)],f7,_,rfl,R',by simpa using ep,by rw[gG];show dn.length+1+_=_;lia,?_,by lia,F7',C7,A7,t7,a7,b7,rfl⟩;have e9:(dn++[(x,p)]).length=dn.length+1:=by simp
  rw[e9,Nat.mul_succ];lia
theorem aj7:Keeps aeL afe FZ:=by rintro ds μ Q ⟨d,rs,rfl,hd,ha,hn,hm,hf,h⟩;simp only[afe,aeL,aD,bI,wSs,wS,wE,wEs,aX,aV,bA,aL,bh,aM,aJ,bD];exact⟨d,rs,rfl,hd,ha,UG hd hn hm hf h⟩
theorem T4 (h:0<rs.flatten.length):∃ p,nY (hds rs) 0 (hds rs).length=some p:=by
 cases e:nY (hds rs) 0 (hds rs).length with
 |some p=>exact⟨p,rfl⟩|none=>
  exfalso;have hq:=J0 _ 0 _ (aB _) e;have:∀ r∈rs,r=[]:=fun r hr=>by
   obtain⟨i,hi,rfl⟩:=CK.mp hr;cases er:rs[i] with
   |nil=>rfl|cons x t=>exact absurd ⟨x,by simp[hds,hi,er]⟩ (hq i (ju _) (by simpa[hds]using hi))
  rw[adV.mpr this]at h;simp at h
def nG:Nat->List (List Itm)->List (Itm×Nat)
 |_,[]=>[]|k,r::rs=>r.map (fun x=>(x,k))++nG (k+1) rs
def pairs (rs:List (List Itm)):List (Itm×Nat):=nG 0 rs
theorem pairs_len:∀ (rs:List (List Itm)) (k:Nat),(nG k rs).length=rs.flatten.length
 |[],_=>rfl|r::rs,k=>by simp only[nG,gG,aR,Ww,pairs_len rs (k+1)]
theorem Lh:∀ (rs:List (List Itm)) (k p:Nat) (x:Itm) (t:List Itm),rs[p]?=some (x::t)->(nG k rs).Perm ((x,k+p)::nG k (rs.set p t))
 |[],k,p,x,t,h=>by simp at h|r::rs,k,0,x,t,h=>by simp only[aJ,pU]at h;subst h;simp only[nG,bW,aX,bh,Nat.add_zero];exact acn _|r::rs,k,p+1,x,t,h=>by have:=Lh rs (k+1) p x t (by simpa using h);rw[show k+1+p=k+(p+1) by lia]at this;simp only[nG,bY];exact(this.append_left _).trans Ws
theorem Lk:∀ (rs:List (List Itm)) (k:Nat) (y:Itm) (q:Nat),(y,q)∈nG k rs->∃ i r,rs[i]?=some r/\y∈r/\q=k+i
 |[],k,y,q,h=>by simp[nG]at h|r::rs,k,y,q,h=>by
  rw[nG]at h;rcases iG.mp h with h|h
  .obtain⟨z,hz,e⟩:=jQ.mp h
   simp only[HY]at e;obtain⟨rfl,rfl⟩:=e;exact⟨0,r,rfl,hz,rfl⟩
  .obtain⟨i,r',h1,h2,h3⟩:=Lk rs (k+1) y q h
   exact⟨i+1,r',h1,h2,by lia⟩
theorem aft (h:nY (hds rs) 0 (hds rs).length=none):rs.flatten.length=0:=by
 rcases ac6 rs.flatten.length with q|q
 .exact q
 .obtain⟨p,e⟩:=T4 q
  rw[e]at h;cases h
theorem Iz:∀ (n:Nat) (rs:List (List Itm)),rs.flatten.length<=n->(ug n rs).Perm (pairs rs)
 |0,rs,h=>by have:pairs rs=[]:=zJ.mp (by rw[pairs,pairs_len];lia);rw[this];exact acn _|n+1,rs,h=>by
  cases hb:nY (hds rs) 0 (hds rs).length with
  |none=>have:pairs rs=[]:=zJ.mp (by rw[pairs,pairs_len];exact aft hb);rw[IK hb,this]|some p=>obtain⟨hp,x,t,hx⟩:=J1 hb;have sf:=zy rs p x t hx;rw[yc hb hx];have h1:=Iz n (rs.set p t) (by lia);have h2:=Lh rs 0 p x t hx;rw[VF]at h2;exact(h1.cons _).trans h2.symm
theorem Eb (rs:List (List Itm)):(CT rs).Perm (pairs rs):=Iz _ _ (aB _)
theorem aew (rs:List (List Itm)):(CT rs).length=rs.flatten.length:=by rw[(Eb rs).length_eq,pairs,pairs_len]
theorem ajP (h:q∈pTr rs):q<rs.length:=by obtain⟨⟨y,q'⟩,hy,e⟩:=jQ.mp h;obtain⟨i,r,h1,h2,h3⟩:=Lk rs 0 y q' ((Eb rs).mem_iff.mp hy);have:=(cj.mp h1).1;simp only at e;lia
end DW.rG
namespace DW.ZX
open PySem DW DW.Ue DW.TX DW.Fb DW.CHO DW.ZW
noncomputable abbrev gC:=Fb.gC
def tE:dh:=fun ds μ Q=>∃ r:List Itm,ds=[.lst (r.map aK)]/\r.length<=60/\(∀ x∈r,cA x)/\∀ μ' ls,Pre μ μ'->Rows μ' ls (bF r)->Q (.lst (ls.map D.loc)) μ'
def I8:List Str:=["row","found","item"]
def tlN:Ss:=(.cons (.exp (.meth "append" (.idx (.var 1) (.neg (.cst (.int 1)))) (.cons (.var 2) .nil))) .nil)
def Jx:Ss:=(.cons (.set 1 (.lst true .nil)) (.cons (.for_ [2] false (.seq (.var 0)) (.cons (.ite (.or (.QC false (.var 1) (.lst false .nil)) (.call "_law_less" gC (.cons (.var 2) (.cons (.idx (.idx (.var 1) (.neg (.cst (.int 1)))) (.neg (.cst (.int 1)))) .nil)))) (.cons (.exp (.meth "append" (.var 1) (.cons (.lst true .nil) .nil))) .nil) .nil) tlN)) (.cons (.ret (.frz (.var 1))) .nil)))
theorem ahc (l:List Itm) (y:Itm):(n6 ((l++[y]).map aK).length (-1)).bind (((l++[y]).map aK)[·]?)=some (aK y):=by rw[mH];exact Qi _ _
theorem aiO (h:FL μ0 μ n (ls++[l]) (rs++[r])) (hr:r.length<=1000)
  (hZ:∀ μ',FL μ0 μ' n (ls++[l]) (rs++[r++[x]])->Z.nx [v,some (.loc n),some (aK x)] μ'):wSs tlN Z [v,some (.loc n),some (aK x)] μ:=by
 have hl0:ls.length=rs.length:=by have:=h.rw.1;simpa using this
 have hlr:=h.rw.2 ls.length l r (by simp) (by rw[hl0];simp);simp only[tlN,wSs,wS,wE,wEs,yS,aJ,aZ,dH,aC,h.at_,Gh ls l,isCell,hlr,true_and,dj,bT];rw[aR];refine⟨by simp only[lim];lia,?_⟩;have:=h.add x;rw[mH]at this;exact hZ _ this
theorem aeH {μ0 μ:Mem} {n:Nat} {ls:List Nat} {rs:List (List Itm)} {k:Mem->Prop} (h:FL μ0 μ n ls rs) (hl:rs.length<=1000) (q:∀ μ',FL μ0 μ' n (ls++[μ.length]) (rs++[[]])->k μ'):
  isCell μ (.loc n)=true/\0<=lim/\dj "append" (.loc n) [.loc μ.length] (μ++[Cell.lst []]) fun _ μ1=>k μ1:=by
 have hat:(μ++[Cell.lst []])[n]?=some (.lst (ls.map D.loc)):=(Pre.app _ _).get h.at_;refine⟨by simp[isCell,h.at_],by decide,?_⟩;simp only[dj,hat,bT,aR];refine⟨by rw[h.rw.1];simp only[lim];lia,?_⟩;rw[show(ls.map D.loc++[D.loc μ.length])=(ls++[μ.length]).map D.loc by simp];exact q _ h.new
theorem Hg:lN (.lst (lq rs)) (.lst [])=rs.isEmpty:=by
 cases rs with
 |nil=>rfl|cons r rs=>simp[lq,lN,Kz]
theorem XM:Keeps I8 Jx tE:=by
 rintro ds μ Q ⟨r,rfl,hl,hok,h⟩;have tn:=fun(Z:jM) (μ1:Mem) (l:Nat) (ls:List Nat) (rs:List (List Itm)) (q:List Itm) (x:Itm) (v:Option D)=>aiO (Z:=Z) (μ0:=μ) (μ:=μ1) (n:=μ.length) (l:=l) (ls:=ls) (rs:=rs) (r:=q) (x:=x) (v:=v);simp only[Jx];generalize tlN=T at tn;simp only[I8,aD,bI,wSs,wS,wE,wEs,wI,newL,lO,aX,aV,bA,aL,bh,aM,aJ,aZ,bD,bY,bW];refine⟨by decide,?_⟩;have hF:FL μ (μ++[Cell.lst []]) μ.length [] (bF []):=⟨Pre.app _ _,aB _,by simp,⟨rfl,fun i l r a=>by simp at a⟩,Wd,by simp⟩;refine cU (fun ds ρ μ'=>∃ (p s:List Itm) (ls:List Nat) (v:Option D),r=p++s/\ds=s.map aK/\FL μ μ' μ.length ls (bF p)/\ρ=[some (.lst (r.map aK)),some (.loc μ.length),v]) ?_ ?_ _ _ _ ⟨[],r,[],none,rfl,rfl,hF,rfl⟩
 .rintro d ds ρ μ1 N hN ⟨p,s,ls,v,er,e,hF,rfl⟩
  cases s with
  |nil=>simp at e|cons x s=>
   simp only[aX,mJ]at e;obtain⟨rfl,rfl⟩:=e;obtain⟨h1,h2⟩:=jg p;(have hpl:p.length<=60:=by rw[er]at hl;simp at hl;lia);have et:eN μ1 8 (.loc μ.length)= .lst (lq (bF p)):=(GK hF.at_ 7).trans (K4 hF.rw.1 hF.rw.2);have ef:=Bw (rs:=bF p) fun l hl' y hy=>hok y (by rw[er];exact List.mem_append_left _ (yj hl' y hy));have e8:eN μ1 8 (.lst [])= .lst []:=rfl;have fin:∀ μ' ls',FL μ μ' μ.length ls' (gw (bF p) x)->N [some (.lst (r.map aK)),some (.loc μ.length),some (aK x)] μ':=fun μ' ls' hF'=>hN _ _ ⟨p++[x],s,ls',_,by simp[er],rfl,by rw[lC];exact hF',rfl⟩;refine⟨trivial,?_⟩;simp only[eX,bY,bW,wT,wE,wEs,aL,aJ,aZ,Z1,fU,newL];rw[et,e8,Hg];refine⟨by decide,ef,rfl,?_⟩;rcases W4 p with rfl|⟨p,y,ep⟩
   .have e0:(false !=(bF []).isEmpty)=true:=rfl
    simp only[e0,if_true];refine aeH (k:=_) hF (by simp[bF]) fun μ2 hF2=>?_;exact tn _ _ _ _ _ _ _ _ hF2 (by simp) fun μ3 hF3=>fin μ3 _ (by simpa[bF,gw]using hF3)
   .rw[W3]at ep
    subst ep;obtain⟨a,l,el⟩:=um p y;(have hl1:(a++[l++[y]]).flatten.length<=60:=by rw[<-el,h2];exact hpl);rw[el]at hF h1 fin ⊢;(have e0:(false !=(a++[l++[y]]).isEmpty)=false:=by cases a<;>rfl);(have hls:ls.length=a.length+1:=by have:=hF.rw.1;simpa using this);(have hne:ls≠[]:=fun z=>by rw[z]at hls;simp at hls);obtain⟨ls',q,rfl⟩:∃ ls' q,ls=ls' ++[q]:=⟨ls.dropLast,ls.getLast hne,(Xg hne).symm⟩;(have hl0:ls'.length=a.length:=by simpa using hls);have hlr:=hF.rw.2 ls'.length q (l++[y]) (by simp) (by rw[hl0];simp);simp only[e0,bZ,if_false,yS,dH,aC,hF.at_,Gh ls' q,hlr,ahc l y];refine⟨x,y,rfl,?_⟩;rw[yL]at fin;simp only[fM,truth];(have hl2:l.length+1<=60:=by simp at hl1;lia);by_cases c:iY x y=true
    .rw[if_pos c]at fin
     rw[if_pos c];refine aeH (k:=_) hF (by simp at h1 hpl ⊢;lia) fun μ2 hF2=>?_;exact tn _ _ _ _ _ _ _ _ hF2 (by simp) fun μ3 hF3=>fin μ3 _ (by simpa using hF3)
    .rw[if_neg c]at fin
     rw[if_neg c];exact tn _ _ _ _ _ _ _ _ hF (by simp;lia) fun μ3 hF3=>fin μ3 _ hF3
 .rintro ρ μ1 ⟨p,s,ls,v,er,e,hF,rfl⟩
  cases s with
  |cons x s=>simp at e|nil=>rw[qZ]at er;subst er;refine⟨trivial,?_⟩;simp only[aJ,aZ,Q0,hF.at_];exact h _ ls (hF.pre.set _ (aB _)) ⟨hF.rw.1,fun i l r a b=>by rw[cW (bK (hF.ne l (pW a)).2)];exact hF.rw.2 i l r a b⟩
open DW.Mj (aW jO mR nY FQ)
def cR (r:List Itm):Cell:=.lst (r.map aK)
def TM (μ:Mem) (rest:List (List Itm)) (tr:List Nat):Mem:=μ++(rest.map cR++[.lst (tr.map aW)])
theorem TM.pre:Pre μ (TM μ rest tr):=Pre.app _ _
theorem TM.run (h:rest[i]?=some r):(TM μ rest tr)[μ.length+i]?=some (.lst (r.map aK)):=by have hi:=(cj.mp h).1;unfold TM;rw[pX (by lia),CN,fQ (by simpa using hi)];simp[h,cR]
theorem TM.trc:(TM μ rest tr)[μ.length+rest.length]?=some (.lst (tr.map aW)):=by unfold TM;rw[pX (by lia),CN];simp
theorem TM.amu (i:Nat) (t:List Itm) (h:i<rest.length):(TM μ rest tr).set (μ.length+i) (.lst (t.map aK))=TM μ (rest.set i t) tr:=by unfold TM;rw[Ir _ _ (by lia),CN,O2 _ _ (by simpa using h),NQ];rfl
theorem TM.Rt (tr':List Nat):(TM μ rest tr).set (μ.length+rest.length) (.lst (tr'.map aW))=TM μ rest tr':=by unfold TM;rw[Ir _ _ (by lia),CN,Ir _ _ (by simp)];simp
def lsq (b n:Nat):List D:=(aY n).map fun i=>D.loc (b+i)
theorem PL (h:i<n) (q:Q (.loc (b+i)) μ):dH (.lst (lsq b n)) (.int (i:Int)) μ Q:=by
 have e1:n6 (lsq b n).length (i:Int)=some i:=gj (by simpa[lsq]using h);have e2:(lsq b n)[i]?=some (.loc (b+i)):=by simp[lsq,h]
 simp only[dH,aC,e1,lu,e2];exact q
theorem abQ (h:μ[l]?=some (.lst ((x::t).map aK))) (q:Q (aK x) μ):dH (.loc l) (.int 0) μ Q:=by
 have e1:n6 (aK x::t.map aK).length 0=some 0:=by simp[n6]
 rw[aX]at h;simp only[dH,aC,h,e1,lu,aJ];exact q
def K9:dh:=fun ds μ Q=>∃ (ls:List Nat) (rs:List (List Itm)),ds=[.lst (ls.map D.loc)]/\Rows μ ls rs/\rs.length<=60/\rs.flatten.length<=60/\(∀ r∈rs,∀ x∈r,cA x)/\∀ μ',Pre μ μ'->Q (.lst ((rG.pTr rs).map aW)) μ'
def RM:List Str:=["runs","left","found","best","number"]
def tlB:Ss:=(.cons (.for_ [4] false (.rng (.cons (.blt "len" (.cons (.var 1) .nil)) .nil)) (.cons (.ite (.and (.cmp .NotEq (.idx (.var 1) (.var 4)) (.lst false .nil)) (.or (.cmp .Is (.var 3) (.cst .non)) (.call "_law_less" gC (.cons (.idx (.idx (.var 1) (.var 4)) (.cst (.int 0))) (.cons (.idx (.idx (.var 1) (.var 3)) (.cst (.int 0))) .nil))))) (.cons (.set 3 (.var 4)) .nil) .nil) .nil)) (.cons (.exp (.meth "pop" (.idx (.var 1) (.var 3)) (.cons (.cst (.int 0)) .nil))) (.cons (.exp (.meth "append" (.var 2) (.cons (.var 3) .nil))) .nil)))
def tlW:Ss:=(.cons (.set 2 (.lst true .nil)) (.cons (.whl (.QC true (.comp false 1 false [] (.var 0) (.seq (.var 1)) (.cons (.cmp .NotEq (.var 0) (.lst false .nil)) .nil)) (.lst false .nil)) (.cons (.set 3 (.cst .non)) tlB)) (.cons (.ret (.frz (.var 2))) .nil)))
def S8:Ss:=(.cons (.set 1 (.comp false 1 false [] (.blt "mlist" (.cons (.var 0) .nil)) (.seq (.var 0)) .nil)) tlW)
theorem aiR (hn:rest.length<=60) (ht:tr.length<=60) (hp:nY (rG.hds rest) 0 (rG.hds rest).length=some p) (e:rest[p]?=some (x::t))
  (hZ:∀ v3 v4,Z.nx [v0,some (.lst (lsq μ.length rest.length)),some (.loc (μ.length+rest.length)),v3,v4] (TM μ (rest.set p t) (tr++[p]))):
  wSs tlB Z [v0,some (.lst (lsq μ.length rest.length)),some (.loc (μ.length+rest.length)),some .non,v4] (TM μ rest tr):=by
 have lr:(rG.hds rest).length=rest.length:=by simp[rG.hds]
 have ll:(lsq μ.length rest.length).length=rest.length:=by simp[lsq]
 have hp':=(cj.mp e).1;rw[Mj.QJ (rG.hds rest) _ 0 _ (aB _) (ju _),lr,VG]at hp;have st:∀ q,q<rest.length->(rG.hds rest)[q]?=some ((rest[q]?.getD []).head?):=fun q hq=>by simp[rG.hds,hq]
 simp only[tlB,wSs,wS,wE,wEs,wI,bO,lenOf,aC,Bl,mK,aJ,aZ,bA,aL,gF,ll];refine⟨by simp only[lim];lia,by lia,?_⟩;rw[Ih,show eU 0 rest.length=(fP 0 rest.length).map aW by rw[BK,O5];rfl];refine cU (fun ds ρ μ'=>∃ (l:List Nat) (acc:Option Nat) (v4:Option D),ds=l.map aW/\(∀ p∈l,p<rest.length)/\Mj.Vd (rG.hds rest) acc/\Mj.fld (rG.hds rest) l acc=some p/\μ'=TM μ rest tr/\ρ=[v0,some (.lst (lsq μ.length rest.length)),some (.loc (μ.length+rest.length)),some (jO acc),v4]) ?_ ?_ _ _ _ ⟨fP 0 rest.length,none,_,rfl,fun p hp=>by simp[List.mem_range'_1]at hp;lia,Mj.FQ,hp,rfl,rfl⟩
 .rintro d2 ds2 ρ μ1 N hN ⟨l,acc,a,e1,hin,hv,hf,rfl,rfl⟩
  cases l with
  |nil=>simp at e1|cons q l=>
   simp only[aX,mJ]at e1;obtain⟨rfl,rfl⟩:=e1;have hq:=hin q (by simp);have k2:=st q hq;have hf':Mj.fld (rG.hds rest) l (mR (rG.hds rest) acc (Mj.one (rG.hds rest) q))=some p:=hf;have hr:(TM μ rest tr)[μ.length+q]?=some (.lst ((rest[q]?.getD []).map aK)):=TM.run (by rw[dw hq];rfl);refine⟨trivial,?_⟩;simp only[eX,aW,bW,bY,aJ,aZ,wT,wE,wEs,newL,aL];refine PL hq ⟨by decide,?_⟩;simp only[cM,QW,hr,fU];cases er:rest[q]?.getD [] with
   |nil=>rw[er]at k2;(have e3:Mj.one (rG.hds rest) q=none:=by simp[Mj.one,k2]);rw[e3,Mj.vA]at hf';simp only[aV,Wo,pO,bZ,if_false];exact hN _ _ ⟨l,acc,_,rfl,fun z hz=>hin z (by simp[hz]),hv,hf',rfl,rfl⟩|cons y u=>
    rw[er]at k2 hr;(have e3:Mj.one (rG.hds rest) q=some q:=by simp[Mj.one,k2]);(have v3:Mj.Vd (rG.hds rest) (some q):=fun z e=>by cases e;exact⟨y,k2⟩);rw[e3]at hf';simp only[aX,acS,rQ,if_true];cases acc with
    |none=>simp only[jO,oV,fU,if_true,wSs,wS,wE,bW,bY,aJ,aZ];exact hN _ _ ⟨l,some q,_,rfl,fun z hz=>hin z (by simp[hz]),v3,hf',rfl,rfl⟩|some j=>
     obtain⟨z,hz2⟩:=hv j rfl;(have hj:j<rest.length:=by rw[<-lr];exact(cj.mp hz2).1);rw[st j hj]at hz2;obtain⟨w,ew⟩:∃ w,rest[j]?.getD []=z::w:=by
      cases c:rest[j]?.getD [] with
      |nil=>rw[c]at hz2;simp at hz2|cons z' w=>rw[c]at hz2;simp at hz2;subst hz2;exact⟨w,rfl⟩
     (have hrj:(TM μ rest tr)[μ.length+j]?=some (.lst ((z::w).map aK)):=by rw[<-ew];exact TM.run (by rw[dw hj];rfl));(have hz3:(rG.hds rest)[j]?=some (some z):=by rw[st j hj,ew];rfl);rw[Mj.iC hz3 k2]at hf';simp only[jO,oV,fU,bZ,if_false];refine PL hq (abQ hr (PL hj (abQ hrj ⟨y,z,rfl,?_⟩)));by_cases c:iY y z=true
     .rw[if_pos c]at hf'
      simp only[c,fM,truth,if_true,wSs,wS,wE,bW,bY,aJ,aZ];exact hN _ _ ⟨l,some q,_,rfl,fun z hz=>hin z (by simp[hz]),v3,hf',rfl,rfl⟩
     .rw[if_neg c]at hf'
      simp only[c,fM,truth,bZ,if_false,wSs];exact hN _ _ ⟨l,some j,_,rfl,fun z hz=>hin z (by simp[hz]),hv,hf',rfl,rfl⟩
 .rintro ρ μ1 ⟨l,acc,a,e1,hin,hv,hf,rfl,rfl⟩
  cases l with
  |cons q l=>simp at e1|nil=>have hf':acc=some p:=hf;subst hf';refine⟨trivial,?_⟩;simp only[aJ,aZ,jO];refine PL hp' ?_;have hr:(TM μ rest tr)[μ.length+p]?=some (.lst ((x::t).map aK)):=TM.run e;refine⟨by simp[isCell,hr],?_⟩;(have e5:n6 (aK x::t.map aK).length 0=some 0:=by simp[n6]);simp only[dj,hr,bT,aX,e5,aJ,List.eraseIdx_cons_zero];rw[TM.amu p t hp'];have e6:=TM.trc (μ:=μ) (rest:=rest.set p t) (tr:=tr);have e7:=TM.Rt (μ:=μ) (rest:=rest.set p t) (tr:=tr) (tr++[p]);rw[acv]at e6 e7;refine⟨by simp[isCell,e6],?_⟩;simp only[dj,e6,bT,aR];refine⟨by simp only[lim];lia,?_⟩;rw[show(tr.map aW++[D.int (p:Int)])=(tr++[p]).map aW by simp[aW],e7];exact hZ _ _
theorem ae8:Keeps RM S8 K9:=by
 rintro ds μ Q ⟨ls,rs,rfl,hR,hn,hm,hok,h⟩;have tb:=fun(Z:jM) (rest:List (List Itm)) (tr:List Nat) (v0 v4:Option D) (p:Nat) (x:Itm) (t:List Itm)=>aiR (Z:=Z) (μ:=μ) (rest:=rest) (tr:=tr) (v0:=v0) (v4:=v4) (p:=p) (x:=x) (t:=t);simp only[S8,tlW];generalize tlB=T at tb;simp only[RM,aD,bI,wSs,wS,wE,wEs,wI,wTs,newL,lO,aX,aV,bA,aL,bh,aM,aJ,aZ,bD,bY,bW];refine pG (fun ds acc μ'=>∃ j:Nat,j<=ls.length/\ds=(ls.drop j).map D.loc/\acc=lsq μ.length j/\μ'=μ++(rs.take j).map cR) ?_ ?_ _ _ _ ⟨0,ju _,rfl,rfl,by simp⟩
 .rintro d ds acc μ' Y N hY hN ⟨j,hj,e,rfl,rfl⟩
  have hj2:j<ls.length:=by
   by_cases q:j<ls.length
   .exact q
   .rw[Hl (by lia)]at e;simp at e
  rw[Ho hj2]at e;simp only[aX,mJ]at e;obtain⟨rfl,rfl⟩:=e;have hj3:j<rs.length:=by rw[<-hR.1];exact hj2
  have g:=(Pre.app μ ((rs.take j).map cR)).get (hR.2 j _ _ (dw hj2) (dw hj3));refine⟨trivial,?_⟩;simp only[bindC,aJ,if_true,bO,aC,g,newL];refine hY _ _ ⟨j+1,hj2,rfl,?_,?_⟩
  .simp only[lsq,Od,mH,gG,aR,vY,xR (xM hj3)]
   rfl
  .rw[rR,acR,dw hj3,mH]
   rfl
 .rintro acc μ' ⟨j,hj,e,rfl,rfl⟩
  have hj2:j=rs.length:=by have:=congrArg dR e;simp at this;have:=hR.1;lia
  subst hj2;rw[acD];refine⟨trivial,by decide,?_⟩;have e0:μ++rs.map cR++[Cell.lst []]=TM μ rs []:=by simp[TM]
  have e1:(μ++rs.map cR).length=μ.length+rs.length:=by simp
  rw[e0,e1];refine⟨fun M ρ μ'=>∃ (rest:List (List Itm)) (tr:List Nat) (v3 v4:Option D),rest.length=rs.length/\rest.flatten.length=M/\tr.length+M<=60/\rG.pTr rs=tr++(rG.ug M rest).map (·.2)/\(∀ r∈rest,∀ x∈r,cA x)/\μ'=TM μ rest tr/\ρ=[some (.lst (ls.map D.loc)),some (.lst (lsq μ.length rs.length)),some (.loc (μ.length+rs.length)),v3,v4],⟨_,rs,[],none,none,rfl,rfl,by simpa using hm,rfl,hok,rfl,rfl⟩,?_⟩
  rintro M ρ μ' ⟨rest,tr,v3,v4,h1,h2,h3,h4,h5,rfl,rfl⟩;simp only[wT,wE,wEs,wI,lO,wTs,aJ,aZ,aV,qZ,newL,aL];refine gB (fun i=>D.loc (μ.length+i)) (fun i=>!(rest[i]?.getD []).isEmpty) (fun i=>D.loc (μ.length+i)) trivial _ _ ?_ ?_
  .intro i hi Y N z
   (have hi':i<rest.length:=by rw[h1];exact H7.mp hi);have g:(TM μ rest tr)[μ.length+i]?=some (.lst ((rest[i]?.getD []).map aK)):=TM.run (by rw[dw hi'];rfl);simp only[bindC,aJ,cM,QW,g,fU,List.isEmpty_map];exact⟨by decide,z⟩
  .rw[aM]
   refine⟨by decide,?_⟩;generalize hix:(aY rs.length).filter (fun i=>!(rest[i]?.getD []).isEmpty)=ix;have hmem:∀ i∈ix,i<rest.length/\rest[i]?.getD []≠[]:=fun i hi=>by rw[<-hix,Cr]at hi;exact⟨by rw[h1];exact H7.mp hi.1,fun z=>by rw[z]at hi;simp at hi⟩
   have et:eN (TM μ rest tr) 8 (.lst (ix.map fun i=>D.loc (μ.length+i)))= .lst (lq (ix.map fun i=>rest[i]?.getD [])):=by
    have:=K4 (μ:=TM μ rest tr) (ls:=ix.map (μ.length+·)) (rs:=ix.map fun i=>rest[i]?.getD []) (by simp) fun i l r a b=>by
     rw[jw]at a b;cases c:ix[i]? with
     |none=>rw[c]at a;simp at a|some k=>rw[c]at a b;cases a;cases b;have hk:=(hmem k (pW c)).1;exact TM.run (by simp[hk])
    simpa[Cv]using this
   have ef:=Bw (rs:=ix.map fun i=>rest[i]?.getD []) fun r hr x hx=>by obtain⟨i,hi,rfl⟩:=jQ.mp hr;have hk:=(hmem i hi).1;rw[dw hk]at hx;exact h5 _ (Oo hk) x hx
   have e8:eN (TM μ rest tr) 8 (.lst [])= .lst []:=rfl;unfold Z1;rw[et,e8,Hg];refine⟨ef,rfl,?_⟩;simp only[fU];cases M with
   |zero=>
    have hx:ix=[]:=by rw[List.eq_nil_iff_forall_not_mem];intro i hi;obtain⟨a,b⟩:=hmem i hi;rw[dw a]at b;have hf:=Xh h2;exact b (adV.mp hf _ (Oo a))
    subst hx;simp only[aV,Wo,bne_self_eq_false,bZ,if_false];have e6:=TM.trc (μ:=μ) (rest:=rest) (tr:=tr);rw[h1]at e6;simp only[Q0,e6];rw[show rG.pTr rs=tr by rw[h4];simp[rG.ug]]at h;exact h _ (TM.pre.set _ (by lia))
   |succ M=>
    obtain⟨p,hp⟩:=rG.T4 (rs:=rest) (by lia);obtain⟨hp1,x,t,e⟩:=rG.J1 hp;have hx:ix≠[]:=fun z=>by (have:p∈ix:=by rw[<-hix,Cr];exact⟨H7.mpr (by lia),by simp[e]⟩);rw[z]at this;simp at this
    have e9:(true !=(ix.map fun i=>rest[i]?.getD []).isEmpty)=true:=by
     cases ix with
     |nil=>exact absurd rfl hx|cons=>rfl
    simp only[e9,if_true,bY,bW];rw[<-h1];refine tb _ rest tr _ _ p x t (by lia) (by lia) hp e fun v3 v4=>?_;have hs:=rG.zy rest p x t e;refine⟨M,Ot _,rest.set p t,tr++[p],v3,v4,by simp,by lia,by simp;lia,?_,fun r hr y hy=>?_,rfl,rfl⟩
    .rw[h4,rG.yc hp e];simp
    .rcases List.mem_or_eq_of_mem_set hr with hr|rfl
     .exact h5 r hr y hy
     .exact h5 _ (pW e) y (by simp[hy])
end DW.ZX
namespace DW.ZX
open PySem DW DW.Ue DW.TX DW.Fb DW.CHO DW.ZW
open DW.Mj (aW)
theorem Z2 (n:Nat) (c F:Nat->D) (M:Nat->Mem) (hg:∀ j,g (M j))
  (hs:∀ j,j<n->∀ (Y:D->Mem->Prop) (N:Mem->Prop),Y (F j) (M (j+1))->bnd (c j) fun ρ=>cw ρ (M j) fun b μ1=>if b=true then ew ρ μ1 (fun v μ2=>Y v μ2)else N μ1) (h:Q ((aY n).map F) (M n)):iD bnd cw ew g ((aY n).map c) [] (M 0) Q:=by
 refine pG (fun ds acc μ'=>∃ j:Nat,j<=n/\ds=((aY n).drop j).map c/\acc=(aY j).map F/\μ'=M j) ?_ ?_ _ _ _ ⟨0,ju _,rfl,rfl,rfl⟩
 .rintro d ds acc μ' Y N hY hN ⟨j,hj,e,rfl,rfl⟩
  have hj2:j<n:=by
   by_cases q:j<n
   .exact q
   .rw[Hl (by simp;lia)]at e;simp at e
  rw[Ho (by simpa using hj2)]at e;simp only[List.getElem_range,aX,mJ]at e;obtain⟨rfl,rfl⟩:=e;exact⟨hg j,hs j hj2 Y N (hY _ _ ⟨j+1,hj2,rfl,by rw[Od,mH];rfl,rfl⟩)⟩
 .rintro acc μ' ⟨j,hj,e,rfl,rfl⟩
  have hj2:j=n:=by have:=congrArg dR e;simp at this;lia
  subst hj2;exact⟨hg j,h⟩
def cuts (m:Nat) (r:List Itm):List (List Itm):=(aY (tH 0 r.length m).toNat).map fun k=>(r.drop (k*m)).take m
theorem YZ {n m:Nat} (hm:1<=m):(tH 0 (n:Int) (m:Int)).toNat<=n/\tH 0 (n:Int) (m:Int)<=(n:Int)/\∀ k:Nat,k<(tH 0 (n:Int) (m:Int)).toNat->k*m<=n:=by
 have hm':(m:Int)>0:=by lia
 unfold tH;rw[if_pos hm'];split
 .rename_i h
  have e:((n:Int) -0 -1)/(m:Int)=(((n -1)/m:Nat):Int):=by rw[show(n:Int) -0 -1=((n -1:Nat):Int) by lia];exact Int.ofNat_ediv_ofNat ..
  rw[e];have h1:(n -1)/m<=n -1:=Nat.div_le_self _ _;refine⟨by lia,by lia,fun k hk=>?_⟩;have hk2:k<=(n -1)/m:=by lia
  have:=Nat.mul_le_of_le_div _ _ _ hk2;lia
 .exact⟨by lia,by lia,fun k hk=>by simp at hk⟩
theorem TQ (xs:List α) (k m:Nat) (hk:k<=xs.length):cutD xs (some (k:Int)) (some ((k:Int)+(m:Int)))=(xs.drop k).take m:=by
 have h1:¬((k:Int)<0):=by lia
 have h2:¬((k:Int)+(m:Int)<0):=by lia
 have h3:((k:Int)+(m:Int)).toNat=k+m:=by lia
 simp only[cutD,j4,h1,h2,if_false,h3,Ih,xR hk];by_cases q:k+m<=xs.length
 .rw[xR q];congr 1;lia
 .rw[Wq (by lia),tM (by simp),tM (by simp;lia)]
theorem ZM {bnd:D->(dD->Prop)->Prop} {cw:dD->Mem->(Bool->Mem->Prop)->Prop} {ew:dD->Mem->QD->Prop} {μ:Mem} {r:List Itm} {m:Nat} {k:List D->Mem->Prop} (hl:r.length<64) (h1:1<=m) (h2:m<=50) (F:Nat->D) (M:Nat->Mem) (h0:M 0=μ)
  (hs:∀ j,j<(cuts m r).length->j*m<=r.length->∀ (Y:D->Mem->Prop) (N:Mem->Prop),Y (F j) (M (j+1))->bnd (.int ((j*m:Nat):Int)) fun ρ=>cw ρ (M j) fun b μ1=>if b=true then ew ρ μ1 (fun v μ2=>Y v μ2)else N μ1)
  (h:k ((aY (cuts m r).length).map F) (M (cuts m r).length)):Bl 3 [.int 0,.int (r.length:Int),.int (m:Int)] μ fun ds g μ'=>iD bnd cw ew g ds [] μ' k:=by
 obtain⟨z1,z2,z3⟩:=YZ (n:=r.length) h1;have hn:(cuts m r).length=(tH 0 r.length m).toNat:=by simp[cuts]
 rw[hn]at hs h;refine⟨⟨by lia,?_,by lia,by lia,by lia,by lia,by lia,by lia⟩,?_⟩
 .have:lim=16777216:=rfl
  rw[this];lia
 rw[<-h0];refine Z2 _ (fun(k:Nat)=>D.int (0+(k:Int)*(m:Int))) F M (fun _=>trivial) (fun j hj Y N q=>?_) h;have:=hs j hj (z3 j hj) Y N q;rw[show(0:Int)+(j:Int)*(m:Int)=((j*m:Nat):Int) by simp];exact this
noncomputable abbrev dZ:=K25.dZ
def Rn:dh:=fun ds μ Q=>∃ (r:List Itm) (m:Nat),ds=[.lst (r.map aK),.int m]/\r.length<64/\1<=m/\m<=50/\∀ μ' n ls,Pre μ μ'->μ'[n]?=some (.lst (ls.map D.loc))->Rows μ' ls ((cuts m r).map FW)->Q (.loc n) μ'
def Zc:List Str:=["row","room"]
def Zt:Ss:=(.cons (.exp (.call "check_room" dZ (.cons (.var 1) .nil))) (.cons (.ret (.comp true 1 false [0,1] (.call "sorted_row" vV (.cons (.slc false (.var 1) (.cons (.var 0) .nil) (.cons (.bin .Add (.var 0) (.var 2)) .nil)) .nil)) (.rng (.cons (.cst (.int 0)) (.cons (.blt "len" (.cons (.var 0) .nil)) (.cons (.var 1) .nil)))) .nil)) .nil))
theorem ahg:Keeps Zc Zt Rn:=by
 rintro ds μ Q ⟨r,m,rfl,hl,h1,h2,h⟩;simp only[Zt,Zc,aD,bI,wSs,wS,wE,wEs,wI,wTs,bO,lenOf,aC,gF,aR,mK,aX,aV,bA,aL,bh,aM,aJ,aZ,ud];refine⟨m,rfl,by lia,by lia,?_⟩;refine ZM hl h1 h2 (fun j=>.loc (μ.length+j)) (fun j=>μ++((cuts m r).take j).map fun p=>Cell.lst ((FW p).map aK)) (by simp) (fun j hj hjm Y N q=>?_) ?_
 .simp only[bindC,aJ,aZ,wE,wEs,wO,yS,jq,Fg,newL,if_true]
  rw[TQ _ _ _ (by simpa using hjm),<-N6,<-HX];refine⟨(r.drop (j*m)).take m,rfl,by simp;lia,?_⟩;have hc:(cuts m r)[j]?=some ((r.drop (j*m)).take m):=by (have:j<(tH 0 r.length m).toNat:=by simpa[cuts]using hj);simp[cuts,this]
  rw[acR,hc]at q;simpa[xR (xM hj)]using q
 .simp only[newL,acD]
  refine h _ _ ((aY (cuts m r).length).map (μ.length+·)) ((Pre.app _ _).trans (Pre.app _ _)) (by simp[Cv]) ⟨by simp,fun i l q a b=>(Pre.app _ _).get ?_⟩
  have hi:i<(cuts m r).length:=by have:=(cj.mp a).1;simpa using this
  have el:l=μ.length+i:=by simp[hi]at a;lia
  subst el;rw[pX (by lia),CN];simp only[jw]at b ⊢;cases c:(cuts m r)[i]? with
  |none=>rw[c]at b;cases b
  |some p=>rw[c]at b;cases b;rfl
theorem afO (h:p∈cuts m r):∀ x∈p,x∈r:=fun x hx=>by obtain⟨k,_,rfl⟩:=jQ.mp h;exact CJ (O4 hx)
theorem Rq {rs:List (List Itm)} {r:List Itm} (hr:r.length<=60) (hok:∀ x∈r,cA x) (h1:rs.length<=60) (h2:∀ p∈rs,p.length<=60/\∀ x∈p,x∈r):Small rs:=
 ⟨by lia,fun p hp=>⟨fun x hx=>hok x ((h2 p hp).2 x hx),by have:=(h2 p hp).1;lia⟩⟩
theorem yK {r:List Itm} {m:Nat} (h1:1<=m) (hr:r.length<=60) (hok:∀ x∈r,cA x):Small ((cuts m r).map FW):=by
 refine Rq hr hok ?_ fun p hp=>?_
 .have:=(YZ (n:=r.length) h1).1
  simp only[aR,cuts,Wx];lia
 .obtain⟨q,hq,rfl⟩:=jQ.mp hp
  refine⟨?_,fun x hx=>afO hq x (ag8.mp hx)⟩;rw[YS];obtain⟨k,_,rfl⟩:=jQ.mp hq;simp;lia
theorem CZ {r:List Itm} (hr:r.length<=60) (hok:∀ x∈r,cA x):Small (bF r):=by obtain⟨h1,h2⟩:=jg r;refine Rq hr hok (by lia) fun p hp=>⟨?_,yj hp⟩;have:=adP (aei hp);rw[h2]at this;lia
theorem ah8:∀ (l A:List Itm),Kh (gf A l)<=((A.length+l.length:Nat):Int)
 |[],A=>by show(0:Int)<=_;lia|x::l,A=>by have h1:=ah8 l (A++[x]);have h2:cnt A x<=A.length:=adG _ _;show max (cnt A x:Int) (Kh (gf (A++[x]) l))<=_;simp only[gG,bA,aL]at h1 ⊢;lia
theorem ZF (h:r.length<=60):keyOk (mx (X4 r)):=by rw[aeO];have h1:=ah8 r [];have h2:=Pz (gf [] r);simp only[aL]at h1;exact⟨by lia,by lia⟩
def YW:dh:=fun ds μ Q=>∃ r:List Itm,ds=[.lst (r.map aK)]/\r.length<=60/\Q (.int (mx (X4 r))) μ
def aeN:List Str:=["row","found","at"]
def afh:Ss:=(.cons (.set 1 (.cst (.int 0))) (.cons (.for_ [2] false (.rng (.cons (.blt "len" (.cons (.var 0) .nil)) .nil)) (.cons (.set 1 (.blt "max" (.cons (.var 1) (.cons (.blt "len" (.cons (.comp false 1 false [0,2] (.var 0) (.seq (.slc false (.var 0) .nil (.cons (.var 2) .nil))) (.cons (.call "_law_less" gC (.cons (.idx (.var 1) (.var 2)) (.cons (.var 0) .nil))) .nil)) .nil)) .nil)))) .nil)) (.cons (.ret (.var 1)) .nil)))
theorem aj9:Keeps aeN afh YW:=by
 rintro ds μ Q ⟨r,rfl,hl,h⟩;rw[aeO]at h;simp only[afh,aeN,aD,bI,wSs,wS,wE,wEs,wI,bO,lenOf,aC,gF,aR,Bl,mK,aX,aV,bA,aL,bh,aM,aJ,aZ,bD,bY,bW];refine⟨by simp only[lim];lia,by lia,?_⟩;rw[Ih];refine cU (fun ds ρ μ'=>∃ (p s:List Itm) (v:Option D),r=p++s/\ds=(fP p.length s.length).map aW/\μ'=μ/\ρ=[some (.lst (r.map aK)),some (.int (Kh (gf [] p))),v]) ?_ ?_ _ _ _ ⟨[],r,none,rfl,by rw[BK,O5];rfl,rfl,rfl⟩
 .rintro d ds ρ μ1 N hN ⟨p,s,v,er,e,rfl,rfl⟩
  cases s with
  |nil=>simp at e|cons x s=>
   simp only[bA,Cu,aX,mJ]at e;obtain⟨rfl,rfl⟩:=e;(have hc:cutD (r.map aK) none (some (p.length:Int))=p.map aK:=by rw[Gq,er];simp);have e1:n6 (r.map aK).length (p.length:Int)=some p.length:=gj (by rw[er];simp);(have e2:(r.map aK)[p.length]?=some (aK x):=by rw[er];simp);(have ei:∀ {Q:QD},Q (aK x) μ1->dH (.lst (r.map aK)) (.int (p.length:Int)) μ1 Q:=fun {Q} q=>by simp only[dH,aC,e1,lu,e2];exact q);refine⟨trivial,?_⟩;simp only[eX,aW,bY,bW,wE,wEs,wI,wTs,wO,yS,Fg,newL,hc,lO,aJ,aZ,aX,aV,ud];refine gB aK (iY x) aK trivial _ _ ?_ ?_
   .intro y hy Y N z
    simp only[bindC,wT,wE,wEs,bh,aM,aJ,aZ];refine ei ?_;refine⟨x,y,rfl,?_⟩;simpa only[fM,truth]using z
   .rw[aM]
    simp only[bO,lenOf,aC,gF,aR];have e3:Kh (gf [] (p++[x]))=if((p.filter (iY x)).length:Int)>Kh (gf [] p)then((p.filter (iY x)).length:Int)else Kh (gf [] p):=by rw[LC,I9];show max _ (max (cnt ([]++p) x:Int) 0)=_;rw[aM,cnt];have:=Pz (gf [] p);split<;>lia
    rw[<-e3];exact hN _ _ ⟨p++[x],s,_,by simp[er],by simp,rfl,rfl⟩
 .rintro ρ μ1 ⟨p,s,v,er,e,rfl,rfl⟩
  cases s with
  |cons x s=>simp[Cu]at e|nil=>rw[qZ]at er;subst er;exact⟨trivial,h⟩
end DW.ZX
namespace DW.ZX
open PySem DW DW.Ue DW.TX DW.Fb DW.CHO DW.ZW
open DW.Mj (aW)
def amV (μ:Mem) (d:D) (ns:List Nat):Prop:=d= .lst (ns.map aW)∨∃ l,d= .loc l/\μ[l]?=some (.lst (ns.map aW))
def ntx (ns:List Nat):List Nat:=dJ [32] (ns.map dg)
def lQ:dh:=fun ds μ Q=>∃ (d:D) (ns:List Nat),ds=[d]/\amV μ d ns/\ns.length<=100/\(∀ x∈ns,x<=1000)/\Q (.str (ntx ns)) μ
def uq:List Str:=["numbers"]
def uK:Ss:=(.cons (.ret (.Rj "join" (.cst (.str [32])) (.cons (.comp false 1 false [] (.blt "str" (.cons (.var 0) .nil)) (.seq (.var 0)) .nil) .nil))) .nil)
theorem aiT {ws:List (List Nat)} {b:Nat} (h:∀ w∈ws,w.length<=b):(ws.map dR).sum<=ws.length*b:=by
 induction ws with
 |nil=>simp|cons w ws ih=>have h1:=h w (by simp);have h2:=ih fun x hx=>h x (by simp[hx]);rw[aX,H6,bA,Nat.succ_mul];lia
theorem uG:Keeps uq uK lQ:=by
 rintro ds μ Q ⟨d,ns,rfl,hd,hl,hb,q⟩;simp only[uK,uq,aD,bI,wSs,wS,wE,wEs,wI,newL,aX,aV,bA,aL,bh,aM,aJ,bD];refine⟨vP _ (by decide) (by decide) _ _,?_⟩;have walk:∀ {Q:QI},(∀ g:Mem->Prop,g μ->Q (ns.map aW) g μ)->lO d μ Q:=fun {Q} q=>by
  rcases hd with rfl|⟨l,rfl,h⟩
  .exact q _ trivial
  .simp only[lO,h]
   exact q _ h
 refine walk fun g hg=>?_;refine dF aW (fun k=>D.str (dg k)) hg _ _ ?_ ?_
 .intro x hx Y N z
  simp only[bindC,wTs,aJ,if_true,bO,aW];have:=hb x hx;exact⟨oU ⟨by lia,by lia⟩,by rw[uU];exact z⟩
 .rw[aM,show(ns.map fun k=>D.str (dg k))=(ns.map dg).map D.str by rw[oG];rfl]
  have e:∀ Q:QD,vG "join" (.str [32]) [.lst ((ns.map dg).map D.str)] μ Q=(match(some ((ns.map dg).map D.str)).bind za with|some ws=>"join"="join"/\(ws.map dR).sum+ws.length*[32].length<=lim/\Q (.str (dJ [32] ws)) μ|none=>False):=fun Q=>rfl;rw[e];simp only[lu,u0];refine⟨trivial,?_,q⟩;have:=aiT (ws:=ns.map dg) (b:=40) fun w hw=>by obtain⟨k,hk,rfl⟩:=jQ.mp hw;exact Dn (by have:=hb k hk;lia)
  rw[aR]at this ⊢;simp only[lim,bA,aL];lia
noncomputable abbrev pK:=lQ
def Fj:List Str:=["numbers"]
def Fv:Ss:=(.cons (.ret (.Rj "join" (.cst (.str [32])) (.cons (.comp false 1 false [] (.blt "str" (.cons (.var 0) .nil)) (.seq (.var 0)) .nil) .nil))) .nil)
theorem Fp:Keeps Fj Fv pK:=uG
def Ub (μ:Mem) (es:List D) (rs:List (List Itm)):Prop:=es.length=rs.length/\∀ (i:Nat) (e:D) (r:List Itm),es[i]?=some e->rs[i]?=some r->RowC μ e r
theorem Rx (h:Rows μ ls rs):Ub μ (ls.map D.loc) rs:=⟨by rw[aR];exact h.1,fun i e r a b=>by
 rw[jw]at a;cases c:ls[i]? with
 |none=>rw[c]at a;cases a
 |some l=>rw[c]at a;cases a;exact .inr ⟨l,rfl,h.2 i l r c b⟩⟩
theorem aag (μ:Mem) (rs:List (List Itm)):Ub μ (lq rs) rs:=⟨by simp[lq],fun i e r a b=>by simp only[lq,jw,b,gF]at a;cases a;exact .inl rfl⟩
theorem Ub.eN (h:Ub μ es rs):eN μ 8 (.lst es)= .lst (lq rs):=by
 rw[GJ];congr 1;apply Ij;intro i;by_cases c:i<es.length
 .have c':i<rs.length:=by have:=h.1;lia
  simp only[jw,dw c,gF,lq,dw c'];have tm:=Rc μ 6 aK (fun x=>YK μ 6 x) rs[i];rcases h.2 i es[i] rs[i] (dw c) (dw c')with e|⟨l,e,hl⟩
  .rw[e,GJ,tm]
  .rw[e,GK hl 6,tm]
 .have c':rs.length<=i:=by have:=h.1;lia
  rw[O8 (by simpa using c),O8 (by simpa[lq]using c')]
def kE:dh:=fun ds μ Q=>∃ (es:List D) (rs:List (List Itm)),ds=[.lst es]/\Ub μ es rs/\Small rs/\Q (.str (Bu rs)) μ
def zU:List Str:=["runs"]
def Ah:Ss:=(.cons (.ite (.QC false (.var 0) (.lst false .nil)) (.cons (.ret (.cst (.str [110,111,110,101]))) .nil) .nil) (.cons (.ret (.Rj "join" (.cst (.str [32,124,32])) (.cons (.comp false 1 false [] (.call "_law_shown" u9 (.cons (.var 0) .nil)) (.seq (.var 0)) .nil) .nil))) .nil))
theorem Qf:Keeps zU Ah kE:=by
 rintro ds μ Q ⟨es,rs,rfl,hR,hS,q⟩;have et:=hR.eN;have ef:=Bw (rs:=rs) fun r hr=>(hS.2 r hr).1;have e8:eN μ 8 (.lst [])= .lst []:=rfl;simp only[Ah,zU,aD,bI,wSs,wS,wT,wE,wEs,wI,newL,aX,aV,bA,aL,bh,aM,aJ,bD,Z1,fU,lO];rw[et,e8,Hg];refine⟨by decide,ef,rfl,?_⟩;by_cases e:rs=[]
 .subst e
  simpa[Bu]using q
 .have e0:(false !=rs.isEmpty)=false:=by
   cases rs with
   |nil=>exact absurd rfl e|cons r rs=>rfl
  rw[Bu,if_neg e]at q;simp only[e0,bZ,if_false];refine⟨vP _ (by decide) (by decide) _ _,?_⟩;have e1:(es.zip rs).map Nj=es:=Wr (by rw[hR.1];exact aB _);have e2:(es.zip rs).map Vc=rs:=Oq (by rw[hR.1];exact aB _);have z2:(es.zip rs).map (fun p=>D.str (txt p.2))=(rs.map txt).map D.str:=by (conv=>rhs;rw[<-e2]);rw[oG,oG];rfl
  conv=>arg 5;rw[<-e1]
  refine dF (fun p:D×List Itm=>p.1) (fun p=>D.str (txt p.2)) trivial _ _ ?_ ?_
  .intro p hp Y N z
   obtain⟨i,hi⟩:=W5.mp hp;obtain⟨h1,h2⟩:=ad6.mp hi;have y1:=pW h2;simp only[bindC,wTs,aJ,if_true];exact⟨_,p.2,rfl,hR.2 i _ _ h1 h2,(hS.2 _ y1).1,by have:=(hS.2 _ y1).2;lia,z⟩
  .rw[aM,z2]
   refine ah4 rfl (fun c=>by simp) ?_ q;have:=MJ hS.2;have:=hS.1;simp only[aR,lim];lia
def Tl (t:List Itm->Nat->List Nat):dh:=fun ds μ Q=>∃ (n:Nat) (r:List Itm) (m:Nat) (b c:Int),ds=[.loc n]/\μ[n]?=some (cI r (m:Int) b c)/\(∀ x∈r,cA x)/\r.length<=10/\1<=m/\m<=50/\∀ μ',Pre μ μ'->Q (.str (t r m)) μ'
def Mz (r:List Itm) (m:Nat):List Nat:=Bu ((cuts m r).map FW)
def agv (r:List Itm) (_:Nat):List Nat:=Bu (bF r)
def aiS (r:List Itm) (_:Nat):List Nat:=jo (mx (X4 r))
def abG (r:List Itm) (_:Nat):List Nat:=ntx (rG.pTr (bF r))
noncomputable abbrev jX:=K21.jX
noncomputable abbrev pY:=K21.pY
noncomputable abbrev qg:=K21.qg
theorem Dg:Keeps pY qg jX:=K21.Dg
noncomputable abbrev g8:=ZW.g8
def vU:dh:=Tl Mz
def zP:List Str:=["desk"]
def Ad:Ss:=(.cons (.ret (.call "show_runs" g8 (.cons (.call "loads" Rn (.cons (.fld "Desk" "row" (.var 0)) (.cons (.fld "Desk" "room" (.var 0)) .nil))) .nil))) .nil)
theorem P0:Keeps zP Ad vU:=by rintro ds μ Q ⟨n,r,m,b,c,rfl,hn,hr,hl,m1,m2,q⟩;simp only[Ad,zP,aD,bI,wSs,wS,wE,wEs,aX,aV,bA,aL,bh,aM,aJ,bD,gY,dB,hn,cI,if_true,bB,acw,if_false];exact⟨r,m,rfl,by lia,m1,m2,fun μ' n' ls hp ha hR=>⟨n',ls,_,rfl,ha,hR,yK m1 (by lia) hr,q μ' hp⟩⟩
def rI:dh:=Tl agv
def uo:List Str:=["desk"]
def uJ:Ss:=(.cons (.ret (.call "show_runs" g8 (.cons (.call "natural" jX (.cons (.fld "Desk" "row" (.var 0)) .nil)) .nil))) .nil)
theorem Jf:Keeps uo uJ rI:=by rintro ds μ Q ⟨n,r,m,b,c,rfl,hn,hr,hl,m1,m2,q⟩;simp only[uJ,uo,aD,bI,wSs,wS,wE,wEs,aX,aV,bA,aL,bh,aM,aJ,bD,gY,dB,hn,cI,if_true,bB];exact⟨r,rfl,by lia,fun ν n' ls hL=>⟨n',ls,_,rfl,hL.at_,⟨hL.len,hL.row⟩,CZ (by lia) hr,q _ (Pre.app _ _)⟩⟩
def DR:dh:=Tl aiS
def I5:List Str:=["desk"]
def Ju:Ss:=(.cons (.ret (.blt "str" (.cons (.call "far" abI (.cons (.fld "Desk" "row" (.var 0)) .nil)) .nil))) .nil)
theorem Xz:Keeps I5 Ju DR:=by rintro ds μ Q ⟨n,r,m,b,c,rfl,hn,hr,hl,m1,m2,q⟩;simp only[Ju,I5,aD,bI,wSs,wS,wE,wEs,aX,aV,bA,aL,bh,aM,aJ,bD,gY,dB,hn,cI,if_true,bB];refine⟨r,rfl,by lia,?_⟩;simp only[bO];exact⟨oU (ZF (by lia)),q _ (Pre.refl _)⟩
theorem Kg (r:List Itm):∀ l∈bF r,jL l:=by
 refine snoc_ind (P:=fun r=>∀ l∈bF r,jL l) (by simp[bF]) (fun p x ih=>?_) r;rcases W4 p with rfl|⟨p,y,ep⟩
 .intro l hl
  simp[bF,gw]at hl;subst hl;simp
 .rw[W3]at ep
  subst ep;obtain⟨a,q,e⟩:=um p y;rw[lC,e,yL];rw[e]at ih;split
  .intro l hl
   rcases iG.mp hl with hl|hl
   .exact ih l hl
   .simp at hl;subst hl;simp
  .rename_i c
   intro l hl;rcases iG.mp hl with hl|hl
   .exact ih l (by simp[hl])
   .simp only[cG]at hl
    subst hl;have h1:=ih (q++[y]) (by simp);refine Ip.mpr ⟨h1,by simp,fun u hu v hv=>?_⟩;simp at hv;subst hv;rcases iG.mp hu with hu|hu
    .exact j9 _ _ _ ((Ip.mp h1).2.2 u hu y (by simp)) (by simpa using c)
    .simp at hu;subst hu;simpa using c
def zj:dh:=Tl abG
def Ed:List Str:=["desk","runs"]
noncomputable abbrev FZ:=rG.FZ
def En:Ss:=(.cons (.set 1 (.call "natural" jX (.cons (.fld "Desk" "row" (.var 0)) .nil))) (.cons (.ite (.cmp .Gt (.blt "len" (.cons (.var 1) .nil)) (.gbl "MOST_POURED" (.int 16))) (.cons .Xn .nil) .nil) (.cons (.ret (.call "show_numbers" lQ (.cons (.idx (.call "pour_pours" FZ (.cons (.var 1) .nil)) (.cst (.int 1))) .nil))) .nil)))
theorem agD (h:LL μ b n ls rs):rG.uX μ (.loc n) rs:=by
 refine⟨.inl ⟨n,rfl⟩,ls.map D.loc,by simp only[aC,h.at_],by rw[aR];exact h.len,fun i e r h1 h2=>?_⟩;rw[jw]at h1;cases hl:ls[i]? with
 |none=>rw[hl]at h1;cases h1
 |some l=>rw[hl]at h1;cases h1;exact⟨.inl ⟨l,rfl⟩,by simp only[aC,h.row i l r hl h2]⟩
theorem aeK (hr:r.length<=60):(rG.pTr (bF r)).length<=60/\∀ x∈rG.pTr (bF r),x<=60:=by
 obtain⟨h1,h2⟩:=jg r;refine⟨?_,fun x hx=>?_⟩
 .rw[rG.pTr,aR,rG.aew,h2];exact hr
 .have:=rG.ajP hx
  lia
theorem R5:Keeps Ed En zj:=by
 rintro ds μ Q ⟨n,r,m,b,c,rfl,hn,hr,hl,m1,m2,q⟩;simp only[En,Ed,aD,bI,wSs,wS,wT,wE,wEs,aX,aV,bA,aL,bh,aM,aJ,aZ,bW,bY,bD,gY,dB,hn,cI,if_true,bB];refine⟨r,rfl,by lia,fun ν k ls hL=>?_⟩;obtain⟨h1,h2⟩:=jg r;have hlen:ls.length=(bF r).length:=hL.len;simp only[bO,lenOf,aC,hL.at_,gF,aR,hlen,cM,fU];rw[if_neg (by simp;lia)];obtain⟨t1,t2⟩:=aeK (r:=r) (by lia);refine⟨.loc k,bF r,rfl,agD hL,fun l hl'=>⟨U8 (Kg r l hl'),?_⟩,by lia,?_,by rw[h2];lia,fun μ' x y F hx hy ne gx gy=>?_⟩
 .have:=adP (aei hl')
  rw[h2]at this;lia
 .rw[h2]
  have:(bF r).length*(r.length+1)<=10*11:=acr (by lia) (by lia);lia
 .have i1:n6 [D.loc x,D.loc y].length 1=some 1:=rfl
  simp only[dH,aC,i1,lu,aZ,aJ];exact⟨_,_,rfl,.inr ⟨y,rfl,gy⟩,by lia,fun z hz=>by have:=t2 z hz;lia,q μ' ((Pre.app _ _).trans ⟨F.1,fun i hi=>F.2 i hi (by simp)⟩)⟩
end DW.ZX
namespace DW.ZX
open PySem DW DW.Ue DW.TX DW.Fb DW.CHO DW.ZW
open DW.Mj (aW)
noncomputable abbrev ajT:=Py
noncomputable abbrev akf:=Qn
theorem akb:Keeps ajT akf vf:=ahj
noncomputable abbrev tG:=Fb.tG
noncomputable abbrev zV:=Fb.zV
noncomputable abbrev Ai:=Fb.Ai
theorem Qh:Keeps zV Ai tG:=Fb.Qh
noncomputable abbrev I7:=Fb.I7
noncomputable abbrev Jw:=Fb.Jw
theorem XJ:Keeps I7 Jw vd:=Fb.XJ
noncomputable abbrev Gb:=Fb.Gb
noncomputable abbrev Gm:=Fb.Gm
theorem Qg:Keeps Gb Gm gC:=Fb.Qg
noncomputable abbrev j8:=Fb.j8
noncomputable abbrev kj:=Fb.kj
theorem qe:Keeps j8 kj m5:=Fb.qe
noncomputable abbrev jh:=ZW.jh
noncomputable abbrev nO:=ZW.nO
noncomputable abbrev nR:=ZW.nR
theorem yx:Keeps nO nR jh:=ZW.yx
noncomputable abbrev nM:=ZW.nM
noncomputable abbrev nQ:=ZW.nQ
theorem yw:Keeps nM nQ sY:=ZW.yw
noncomputable abbrev jB:=K25.jB
noncomputable abbrev jG:=K25.jG
theorem rA:Keeps jB jG dZ:=K25.rA
noncomputable abbrev s8:=rG.s8
noncomputable abbrev zR:=rG.zR
noncomputable abbrev Af:=rG.Af
theorem Qe:Keeps zR Af s8:=rG.Qe
noncomputable abbrev yQ:List Nat:=[108,111,97,100,115]
noncomputable abbrev pF:List Nat:=[110,97,116,117,114,97,108]
def tB:rH:=fun ds μ Q X=>(∃ r,ds= .str yQ::r/\vU r μ Q)∨(∃ r,ds= .str pF::r/\rI r μ Q)∨(∃ r,ds= .str yR::r/\sZ r μ Q)∨(∃ r,ds= .str YD::r/\DR r μ Q)∨(∃ r,ds= .str Mp::r/\zj r μ Q)∨(∃ r,ds= .str YC::r/\sY r μ Q)
def tC:dh:=U4 tB
def XR:Ss:=aby tB
theorem XH:Keeps Xu XR tC:=by rintro ds μ Q ⟨n,r,a,b,c,line,rfl,hn,h⟩;exact ai2 (Z:=bI Q) (fun _=>rfl) hn h
def G4:dh:=U4 tB
def Zf:List Str:=["desk","line","e"]
def Zw:Ss:=(.cons (.Z7 "PourError" [] 2 (.cons (.ret (.q9 "Desk" "say" tC (.var 0) (.cons (.var 1) .nil))) .nil) (.cons .Xn .nil)) .nil)
theorem Zq (h:μ[n]?=some (cI r a b c)):gP μ "Desk" "say" (.loc n):=by simp[gP,dB,h,cI,bB]
theorem ahi:Keeps Zf Zw G4:=by rintro ds μ Q ⟨n,r,a,b,c,line,rfl,hn,h⟩;simp only[Zw,Zf,aD,bI,wSs,wS,wE,wEs,aX,aV,bA,aL,bh,aM,aJ,aZ,bD];exact⟨Zq hn,n,r,a,b,c,line,rfl,hn,h⟩
def W:List (List Nat):=[yQ,pF,yR,YD,Mp,YC]
def T (r:List Itm) (m:Nat):List (List Nat):=[Mz r m,agv r m,Bu (kW r m),aiS r m,abG r m,txt r]
def Due (r:List Itm) (m:Nat) (w t:List Nat):Prop:=(w=yQ/\t=Mz r m)∨(w=pF/\t=agv r m)∨(w=yR/\t=Bu (kW r m))∨(w=YD/\t=aiS r m)∨(w=Mp/\t=abG r m)∨(w=YC/\t=txt r)
theorem akt (h:w∈W):∃ t,Due r m w t:=by
 simp only[W,bC,tL,or_false]at h;rcases h with rfl|rfl|rfl|rfl|rfl|rfl
 .exact⟨_,.inl ⟨rfl,rfl⟩⟩
 .exact⟨_,.inr (.inl ⟨rfl,rfl⟩)⟩
 .exact⟨_,.inr (.inr (.inl ⟨rfl,rfl⟩))⟩
 .exact⟨_,.inr (.inr (.inr (.inl ⟨rfl,rfl⟩)))⟩
 .exact⟨_,.inr (.inr (.inr (.inr (.inl ⟨rfl,rfl⟩))))⟩
 .exact⟨_,.inr (.inr (.inr (.inr (.inr ⟨rfl,rfl⟩))))⟩
theorem afB (h:Due r m w t):eH (W.map lW) ((T r m).map D.str) (.inr w:iU)=some (.str t):=by rcases h with⟨rfl,rfl⟩|⟨rfl,rfl⟩|⟨rfl,rfl⟩|⟨rfl,rfl⟩|⟨rfl,rfl⟩|⟨rfl,rfl⟩<;>rfl
theorem agC (h:Due r m w t) (hd:μ[n]?=some (cI r (m:Int) 2 3)) (hok:∀ x∈r,cA x) (hl:r.length<=10) (m1:1<=m) (m2:m<=50) (q:∀ μ',Pre μ μ'->Q (.str t) μ'):U4 tB [.loc n,.str w] μ Q:=by
 refine⟨n,r,m,2,3,w,rfl,hd,.inl ⟨?_,?_⟩⟩
 .rcases h with⟨rfl,_⟩|⟨rfl,_⟩|⟨rfl,_⟩|⟨rfl,_⟩|⟨rfl,_⟩|⟨rfl,_⟩<;>rfl
 .rcases h with⟨rfl,rfl⟩|⟨rfl,rfl⟩|⟨rfl,rfl⟩|⟨rfl,rfl⟩|⟨rfl,rfl⟩|⟨rfl,rfl⟩
  .exact .inl ⟨_,rfl,n,r,m,2,3,rfl,hd,hok,hl,m1,m2,q⟩
  .exact .inr (.inl ⟨_,rfl,n,r,m,2,3,rfl,hd,hok,hl,m1,m2,q⟩)
  .exact .inr (.inr (.inl ⟨_,rfl,n,r,m,2,3,rfl,hd,hok,by lia,m1,m2,q⟩))
  .exact .inr (.inr (.inr (.inl ⟨_,rfl,n,r,m,2,3,rfl,hd,hok,hl,m1,m2,q⟩)))
  .exact .inr (.inr (.inr (.inr (.inl ⟨_,rfl,n,r,m,2,3,rfl,hd,hok,hl,m1,m2,q⟩))))
  .exact .inr (.inr (.inr (.inr (.inr ⟨_,rfl,n,r,m,2,3,rfl,hd,hok,by lia,q _ (Pre.refl _)⟩))))
theorem Sg (h:vK sep) (hw:∀ w∈ws,vK w):vK (dJ sep ws):=kJ.mpr fun c hc=>by
 rcases Jp hc with h1|⟨w,hw',h1⟩
 .exact kJ.mp h c h1
 .exact kJ.mp (hw w hw') c h1
theorem M6 (h:Small rs):vK (Bu rs):=by
 unfold Bu;split
 .exact rfl
 .refine Sg rfl fun w hw=>?_
  obtain⟨r,hr,rfl⟩:=jQ.mp hw;exact Uz (h.2 r hr).1
theorem aks (h:Due r m w t) (hok:∀ x∈r,cA x) (hl:r.length<=10) (m1:1<=m) (m2:m<=50):vK t:=by
 rcases h with⟨_,rfl⟩|⟨_,rfl⟩|⟨_,rfl⟩|⟨_,rfl⟩|⟨_,rfl⟩|⟨_,rfl⟩
 .exact M6 (yK m1 (by lia) hok)
 .exact M6 (CZ (by lia) hok)
 .exact M6 (rE m1 m2 hok (by lia))
 .exact Gp _
 .refine Sg rfl fun w hw=>?_
  obtain⟨k,_,rfl⟩:=jQ.mp hw;rw[<-uU];exact Gp _
 .exact Uz hok
theorem aeI (h:vK t) (q:Q (.bl false) μ):cM .NotEq (.str t) (.str t) μ Q:=by refine abd (gQ h 60) (gQ h 60) ?_;rw[eq_str];simpa using q
structure S6 (μ:Mem) (nb nd nu:Nat) (r:List Itm) (m:Nat) (ks:List iU) (ds:List D):Prop where
 b:Ac μ nb
 d:μ[nd]?=some (cI r (m:Int) 2 3)
 u:μ[nu]?=some (.jN ks ds)
 n1:nb≠nd
 n2:nb≠nu
 n3:nd≠nu
theorem S6.pre (h:S6 μ nb nd nu r m ks ds) (p:Pre μ μ'):S6 μ' nb nd nu r m ks ds:=⟨by obtain⟨b,e⟩:=h.b;exact⟨b,p.get e⟩,p.get h.d,p.get h.u,h.n1,h.n2,h.n3⟩
theorem S6.bx (h:S6 μ nb nd nu r m ks ds) (b:Int):S6 (bx μ nb b) nb nd nu r m ks ds:=
 ⟨lF h.b,by unfold DW.bx;rw[cW h.n1];exact h.d,by unfold DW.bx;rw[cW h.n2];exact h.u,h.n1,h.n2,h.n3⟩
theorem S6.set (h:S6 μ nb nd nu r m ks ds) (ks':List iU) (ds':List D):S6 (μ.set nu (.jN ks' ds')) nb nd nu r m ks' ds' :=
 ⟨by obtain⟨b,e⟩:=h.b;exact⟨b,by rw[cW (bK h.n2)];exact e⟩,by rw[cW (bK h.n3)];exact h.d,eF (cj.mp h.u).1,h.n1,h.n2,h.n3⟩
theorem S6.put (h:S6 μ nb nd nu r m ks ds) (hl:ks.length<100) (hw:(lW w:iU)∉ks) (q:∀ μ',S6 μ' nb nd nu r m (ks++[.inr w]) (ds++[v])->k μ'):Gx (.loc nu) (.str w) v μ k:=by simp only[Gx,h.u,yu,iI,lH,hw,if_false];exact⟨by simp only[lim];lia,q _ (h.set _ _)⟩
def tlL:Ss:=(.cons (.for_ [8] false (.rng (.cons (.cst (.int 2)) .nil)) (.cons (.set 9 (.lst false (.cons (.cst (.str [108,111,97,100,115])) (.cons (.cst (.str [110,97,116,117,114,97,108])) (.cons (.cst (.str [99,104,111,115,101,110])) (.cons (.cst (.str [102,97,114])) (.cons (.cst (.str [112,111,117,114])) (.cons (.cst (.str [114,111,119])) .nil)))))))) (.cons (.set 10 (.call "_law_take" cg (.cons (.var 2) (.cons (.cst (.int 6)) .nil)))) (.cons (.for_ [11] false (.seq (.bin .Add (.slc false (.var 9) (.cons (.var 10) .nil) .nil) (.slc false (.var 9) .nil (.cons (.var 10) .nil)))) (.cons (.ite (.cmp .NotEq (.call "_law_said" G4 (.cons (.var 3) (.cons (.var 11) .nil))) (.Yb (.var 7) (.var 11))) (.cons (.ret (.cst (.bl false))) .nil) .nil) .nil)) .nil)))) .nil)
noncomputable abbrev rho (v0 v1:Option D) (nb nd:Nat) (r:List Itm) (m:Nat) (v6:Option D) (nu:Nat) (v8 v9 v10 v11:Option D):dD:=[v0,v1,some (.loc nb),some (.loc nd),some (.lst (r.map aK)),some (.int (m:Int)),v6,some (.loc nu),v8,v9,v10,v11]
theorem TV (h:x∈cutD xs lo hi):x∈xs:=CJ (O4 h)
theorem TY:(cutD xs lo hi).length<=xs.length:=by unfold cutD;simp;lia
theorem aiP (h:S6 μ nb nd nu r m (W.map lW) ((T r m).map D.str)) (hok:∀ x∈r,cA x) (hl:r.length<=10) (m1:1<=m) (m2:m<=50)
  (hZ:∀ v8 v9 v10 v11 μ',Z.nx (rho v0 v1 nb nd r m v6 nu v8 v9 v10 v11) μ'):wSs tlL Z (rho v0 v1 nb nd r m v6 nu v8 v9 v10 v11) μ:=by
 simp only[tlL,rho,wSs,wS,wI,wE,wEs,mK,Bl];refine⟨by decide,by decide,?_⟩;refine cU (fun _ ρ μ'=>S6 μ' nb nd nu r m (W.map lW) ((T r m).map D.str)/\∃ v8 v9 v10 v11,ρ=rho v0 v1 nb nd r m v6 nu v8 v9 v10 v11) ?_ ?_ _ _ _ ⟨h,_,_,_,_,rfl⟩
 .rintro d ds ρ μ1 N hN ⟨h1,v8,v9,v10,v11,rfl⟩
  refine⟨trivial,?_⟩;simp only[eX,rho,bY,bW,wE,wEs,newL,bA,aL,aJ,aZ,cg];refine⟨by decide,h1.b,by decide,by decide,fun a b a0 a1=>?_⟩;simp only[wO,wE,yS,Fg,newL,jq,lO,aJ,aZ];have hW:[D.str yQ,D.str pF,D.str yR,D.str YD,D.str Mp,D.str YC]=W.map D.str:=rfl;rw[hW];refine⟨?_,?_⟩
  .have:=TY (xs:=W.map D.str) (lo:=some a) (hi:=none)
   have:=TY (xs:=W.map D.str) (lo:=none) (hi:=some a);have:(W.map D.str).length=6:=rfl;simp only[lim];lia
  refine cU (fun ds ρ μ'=>(∀ d∈ds,∃ w∈W,d= .str w)/\S6 μ' nb nd nu r m (W.map lW) ((T r m).map D.str)/\∃ v8 v9 v10 v11,ρ=rho v0 v1 nb nd r m v6 nu v8 v9 v10 v11) ?_ ?_ _ _ _ ⟨fun d hd=>?_,h1.bx b,_,_,_,_,rfl⟩
  .rintro d ds ρ μ2 N2 hN2 ⟨hd,h2,v8,v9,v10,v11,rfl⟩
   obtain⟨w,hw,rfl⟩:=hd d (by simp);obtain⟨t,ht⟩:=akt (r:=r) (m:=m) hw;refine⟨trivial,?_⟩;simp only[eX,rho,bY,bW,wT,wE,wEs,aJ,aZ];refine agC ht h2.d hok hl m1 m2 fun μ3 hp=>?_;have h3:=h2.pre hp;simp only[KZ,h3.u,yu,afB ht];refine aeI (aks ht hok hl m1 m2) ?_;simp only[fU,bZ,if_false];exact hN2 _ _ ⟨fun d hd'=>hd d (by simp[hd']),h3,_,_,_,_,rfl⟩
  .rintro ρ μ2 ⟨-,h2,v8,v9,v10,v11,rfl⟩
   exact⟨trivial,hN _ _ ⟨h2,_,_,_,_,rfl⟩⟩
  .have:d∈W.map D.str:=by
    rcases iG.mp hd with hd|hd
    .exact TV hd
    .exact TV hd
   obtain⟨w,hw,rfl⟩:=jQ.mp this;exact⟨w,hw,rfl⟩
 .rintro ρ μ1 ⟨-,v8,v9,v10,v11,rfl⟩
  exact⟨trivial,hZ _ _ _ _ _⟩
def tlP:Ss:=(.cons (.dput (.var 7) (.cst (.str [99,104,111,115,101,110])) (.call "_law_runs_text" kE (.cons (.call "_law_chosen" G5 (.cons (.var 4) (.cons (.var 5) .nil))) .nil))) (.cons (.dput (.var 7) (.cst (.str [102,97,114])) (.blt "str" (.cons (.call "_law_far" YW (.cons (.var 4) .nil)) .nil))) (.cons (.dput (.var 7) (.cst (.str [112,111,117,114])) (.call "_law_numbers_text" pK (.cons (.call "_law_trace" K9 (.cons (.call "_law_natural" tE (.cons (.var 4) .nil)) .nil)) .nil))) (.cons (.dput (.var 7) (.cst (.str [114,111,119])) (.call "_law_shown" u9 (.cons (.var 4) .nil))) tlL))))
def tlH:Ss:=(.cons (.set 6 (.comp false 1 false [4,5] (.call "_law_sorted" m5 (.cons (.slc false (.var 1) (.cons (.var 0) .nil) (.cons (.bin .Add (.var 0) (.var 2)) .nil)) .nil)) (.rng (.cons (.cst (.int 0)) (.cons (.blt "len" (.cons (.var 4) .nil)) (.cons (.var 5) .nil)))) .nil)) (.cons (.set 7 (.dd3 [108,111,97,100,115] [] [110,97,116,117,114,97,108] (.call "_law_runs_text" kE (.cons (.var 6) .nil)) (.cst .non) (.call "_law_runs_text" kE (.cons (.call "_law_natural" tE (.cons (.var 4) .nil)) .nil)))) tlP))
theorem aiN (h:S6 μ nb nd nu r m [.inr yQ,.inr pF] [.str (Mz r m),.str (agv r m)]) (hok:∀ x∈r,cA x) (hl:r.length<=10) (m1:1<=m) (m2:m<=50)
  (hZ:∀ v8 v9 v10 v11 μ',Z.nx (rho v0 v1 nb nd r m v6 nu v8 v9 v10 v11) μ'):wSs tlP Z (rho v0 v1 nb nd r m v6 nu v8 v9 v10 v11) μ:=by
 have tl:=fun(μ:Mem) (v:_)=>aiP (Z:=Z) (μ:=μ) (nb:=nb) (nd:=nd) (nu:=nu) (m:=m) (r:=r) (v0:=v0) (v1:=v1) (v6:=v6) (v8:=v8) (v9:=v9) (v10:=v10) (v11:=v11) v hok hl m1 m2 hZ;simp only[tlP];generalize tlL=L at tl;simp only[rho,wSs,wS,wE,wEs,aJ,aZ]at tl ⊢;refine⟨r,m,rfl,by lia,m1,m2,hok,fun μ1 ls1 p1 R1=>⟨_,_,rfl,Rx R1,rE m1 m2 hok (by lia),?_⟩⟩;refine(h.pre p1).put (by simp) (by simp) fun μ2 h2=>?_;refine⟨r,rfl,by lia,?_⟩;simp only[bO];refine⟨oU (ZF (by lia)),?_⟩;refine h2.put (by simp) (by simp) fun μ3 h3=>?_;refine⟨r,rfl,by lia,hok,fun μ4 ls4 p4 R4=>?_⟩;obtain⟨t1,t2⟩:=aeK (r:=r) (by lia);obtain⟨c1,c2⟩:=jg r;refine⟨ls4,bF r,rfl,R4,by lia,by rw[c2];lia,fun q hq x hx=>hok x (yj hq x hx),fun μ5 p5=>?_⟩;refine⟨_,_,rfl,.inl rfl,by lia,fun z hz=>by have:=t2 z hz;lia,?_⟩;refine(h3.pre (p4.trans p5)).put (by simp) (by simp) fun μ6 h6=>?_;refine⟨_,r,rfl,.inl rfl,hok,by lia,?_⟩;refine h6.put (by simp) (by simp) fun μ7 h7=>?_;exact tl μ7 h7
theorem aiQ {Z:jM} {μ:Mem} {nb nd m:Nat} {r:List Itm} {v0 v1 v6 v7 v8 v9 v10 v11:Option D} (hb:Ac μ nb) (hd:μ[nd]?=some (cI r (m:Int) 2 3)) (hn:nb≠nd) (hok:∀ x∈r,cA x) (hl:r.length<=10) (m1:1<=m) (m2:m<=50)
  (hZ:∀ v6 nu v8 v9 v10 v11 μ',Z.nx (rho v0 v1 nb nd r m v6 nu v8 v9 v10 v11) μ'):wSs tlH Z [v0,v1,some (.loc nb),some (.loc nd),some (.lst (r.map aK)),some (.int (m:Int)),v6,v7,v8,v9,v10,v11] μ:=by
 have tp:=fun(μ:Mem) (nu:Nat) (v6:Option D) (v:_)=>aiN (Z:=Z) (μ:=μ) (nb:=nb) (nd:=nd) (nu:=nu) (m:=m) (r:=r) (v0:=v0) (v1:=v1) (v6:=v6) (v8:=v8) (v9:=v9) (v10:=v10) (v11:=v11) v hok hl m1 m2 (hZ v6 nu);simp only[tlH];generalize tlP=P at tp;simp only[wSs,wS,wE,wEs,wI,wTs,bO,lenOf,aC,gF,aR,mK,aX,aV,bh,aM,aJ,aZ,ud,bW,bY];refine ZM (by lia) m1 m2 (fun j=>.lst ((FW ((r.drop (j*m)).take m)).map aK)) (fun j=>μ++bD j Cell.gone) (by simp) (fun j hj hjm Y N q=>?_) ?_
 .simp only[bindC,aJ,aZ,wE,wEs,wO,yS,jq,Fg,newL,if_true]
  rw[TQ _ _ _ (by simpa using hjm),<-N6,<-HX];refine⟨(r.drop (j*m)).take m,rfl,by simp;lia,?_⟩;rw[rR,<-List.replicate_succ'];exact q
 .have e0:((aY (cuts m r).length).map fun j=>D.lst ((FW ((r.drop (j*m)).take m)).map aK))=lq ((cuts m r).map FW):=by simp[lq,cuts,Cv]
  rw[e0];simp only[newL,aJ,aZ];generalize hμ:μ++bD (cuts m r).length Cell.gone=μ1;have p1:Pre μ μ1:=by rw[<-hμ];exact Pre.app _ _
  refine⟨_,_,rfl,aag _ _,yK m1 (by lia) hok,?_⟩;refine⟨r,rfl,by lia,hok,fun μ2 ls p2 R2=>⟨_,_,rfl,Rx R2,CZ (by lia) hok,?_⟩⟩;have e1:(μ1++[Cell.jN [] []])[μ1.length]?=some (.jN [] []):=by simp
  have g:∀ {i:Nat} {c:Cell},μ[i]?=some c->μ2[i]?=some c:=fun z=>p2.get ((Pre.app _ _).get (p1.get z));have lt:∀ {i:Nat} {c:Cell},μ[i]?=some c->i≠μ1.length:=fun z=>by have:=(cj.mp z).1;have:=p1.1;lia
  have h2:S6 μ2 nb nd μ1.length r m [] []:=⟨by obtain⟨b,e⟩:=hb;exact⟨b,g e⟩,g hd,p2.get e1,hn,by obtain⟨b,e⟩:=hb;exact lt e,lt hd⟩;exact⟨h2.u,tp _ _ _ (h2.set _ _)⟩
def Zd:List Str:=["script","k","box","desk","row","room","heaps","due","turn","words","at","word"]
def tlR:Ss:=(.cons (.ite (.cmp .Gt (.call "_law_take" cg (.cons (.var 2) (.cons (.cst (.int 3)) .nil))) (.cst (.int 0))) (.cons (.set 5 (.bin .Add (.cst (.int 1)) (.call "_law_take" cg (.cons (.var 2) (.cons (.cst (.int 6)) .nil))))) (.cons (.ite (.cmp .NotEq (.call "_law_said" G4 (.cons (.var 3) (.cons (.bin .Add (.cst (.str [114,111,111,109,32])) (.blt "str" (.cons (.var 5) .nil))) .nil))) (.cst (.str [111,107]))) (.cons (.ret (.cst (.bl false))) .nil) .nil) .nil)) .nil) tlH)
def Zu:Ss:=(.cons (.for_ [1] false (.rng (.cons (.blt "max" (.cons (.cst (.int 1)) (.cons (.blt "min" (.cons (.blt "len" (.cons (.var 0) .nil)) (.cons (.cst (.int 2)) .nil))) .nil))) .nil)) (.cons (.set 2 (.call "_law_box" vf (.cons (.var 0) (.cons (.var 1) .nil)))) (.cons (.set 3 (.mk "Desk" zu .nil)) (.cons (.set 4 (.call "_law_row" vd (.cons (.var 2) (.cons (.cst (.int 10)) .nil)))) (.cons (.set 5 (.cst (.int 3))) (.cons (.ite (.cmp .NotEq (.var 4) (.lst false .nil)) (.cons (.exp (.q9 "Desk" "say" tC (.var 3) (.cons (.bin .Add (.cst (.str [97,100,100,32])) (.call "_law_shown" u9 (.cons (.var 4) .nil))) .nil))) .nil) .nil) tlR)))))) (.cons (.ret (.cst (.bl true))) .nil))
theorem cmp_gt (i j:Int) (μ:Mem) (Q:QD):cM .Gt (.int i) (.int j) μ Q=Q (.bl (decide (j<i))) μ:=rfl
theorem aiM {Z:jM} {μ:Mem} {nb nd:Nat} {r:List Itm} {v0 v1 v6 v7 v8 v9 v10 v11:Option D} (hb:Ac μ nb) (hd:μ[nd]?=some (cI r 3 2 3)) (hn:nb≠nd) (hok:∀ x∈r,cA x) (hl:r.length<=10)
  (hZ:∀ m v6 nu v8 v9 v10 v11 μ',Z.nx (rho v0 v1 nb nd r m v6 nu v8 v9 v10 v11) μ'):wSs tlR Z [v0,v1,some (.loc nb),some (.loc nd),some (.lst (r.map aK)),some (.int 3),v6,v7,v8,v9,v10,v11] μ:=by
 have th:=fun(μ:Mem) (m:Nat) (a:_) (b:_) (m1:1<=m) (m2:m<=50)=>aiQ (Z:=Z) (μ:=μ) (nb:=nb) (nd:=nd) (m:=m) (r:=r) (v0:=v0) (v1:=v1) (v6:=v6) (v7:=v7) (v8:=v8) (v9:=v9) (v10:=v10) (v11:=v11) a b hn hok hl m1 m2 (hZ m);simp only[tlR];generalize tlH=H at th;simp only[wSs,wS,wT,wE,wEs,cg,aJ,aZ,bY,bW];have gb:∀ {μ:Mem} {b:Int} {c:Cell},μ[nd]?=some c->(bx μ nb b)[nd]?=some c:=fun {μ b c} z=>by unfold bx;rw[cW hn];exact z
 refine⟨hb,by decide,by decide,fun a b a0 a1=>?_⟩;have hb1:=lF (b:=b) hb;have hd1:=gb (b:=b) hd;simp only[cmp_gt,fU];by_cases c:0<a
 .simp only[c,decide_true,if_true]
  refine⟨hb1,by decide,by decide,fun a' b' a0' a1'=>?_⟩;have hb2:=lF (b:=b') hb1;have hd2:=gb (b:=b') hd1;simp only[jq,bO,aJ,aZ,bY,bW];obtain⟨m,em⟩:∃ m:Nat,(1:Int)+a'=(m:Int):=⟨(1+a').toNat,by lia⟩;rw[em];have m1:1<=m:=by lia
  have m2:m<=50:=by lia
  have hk:keyOk (m:Int):=⟨by lia,by lia⟩;refine⟨oU hk,?_,?_⟩
  .have:=vq hk.1 hk.2
   simp only[lim,bA,aL];lia
  refine⟨nd,r,3,2,3,_,rfl,hd2,.inr (.inr (.inr ⟨m,by rw[uU];rfl,m1,m2,?_⟩))⟩;refine aeI (t:=aiw) rfl ?_;simp only[fU,bZ,if_false];refine th _ m ?_ ?_ m1 m2
  .obtain⟨x,e⟩:=hb2
   exact⟨x,by rw[cW (bK hn)];exact e⟩
  .exact eF (cj.mp hd2).1
 .simp only[c,decide_false,bZ,if_false]
  exact th _ 3 hb1 hd1 (by decide) (by decide)
theorem alj:Keeps Zd Zu K8:=by
 rintro ds μ Q ⟨ns,rfl,hl,h⟩;have hlo:(ns.length:Int)<=63:=by lia
 have tr:=fun(Z:jM) (μ:Mem) (nb nd:Nat) (r:List Itm) (v0 v1 v6 v7 v8 v9 v10 v11:Option D)=>aiM (Z:=Z) (μ:=μ) (nb:=nb) (nd:=nd) (r:=r) (v0:=v0) (v1:=v1) (v6:=v6) (v7:=v7) (v8:=v8) (v9:=v9) (v10:=v10) (v11:=v11);simp only[Zu];generalize tlR=R at tr;simp only[Zd,aD,bI,wSs,wS,wT,wE,wEs,wI,newL,bO,lenOf,aC,Bl,mK,aX,aV,bA,aL,bh,aM,aJ,aR,gF];refine⟨?_,?_,?_⟩
 .simp only[lim];split<;>split<;>lia
 .split<;>split<;>lia
 refine cU (fun ds ρ μ'=>(∀ d∈ds,∃ i:Int,d= .int i/\0<=i)/\∃ a b c d e f g i j k l,ρ=[some (.ro (ns.map D.int)),a,b,c,d,e,f,g,i,j,k,l]) ?_ ?_ _ _ _ ⟨?_,none,none,none,none,none,none,none,none,none,none,none,rfl⟩
 .rintro d ds ρ μ1 N hN ⟨hd,a1,a2,a3,a4,a5,a6,a7,a8,a9,a10,a11,rfl⟩
  obtain⟨k,rfl,k0⟩:=hd d (by simp);have nx:∀ ρ μ,(∃ a b c d e f g i j k l,ρ=[some (.ro (ns.map D.int)),a,b,c,d,e,f,g,i,j,k,l])->N ρ μ:=fun ρ μ q=>hN ρ μ ⟨fun d hd'=>hd d (by simp[hd']),q⟩;refine⟨trivial,?_⟩;simp only[eX,bY,bW,aJ,aZ];refine⟨ns,rfl,by lia,k0,fun b0=>?_⟩;refine⟨_,rfl,by simp,rfl,?_⟩;have e1:∀ (x y z:Cell),(μ1++[x]++[y]).set (μ1++[x]).length z=μ1++[x]++[z]:=fun x y z=>by simp
  rw[e1];have hb:Ac (μ1++[Cell.lst [.int b0]]++[cI [] 3 2 3]) μ1.length:=⟨b0,by simp⟩;have hd0:(μ1++[Cell.lst [.int b0]]++[cI [] 3 2 3])[(μ1++[Cell.lst [.int b0]]).length]?=some (cI [] 3 2 3):=by simp
  have hne:μ1.length≠(μ1++[Cell.lst [.int b0]]).length:=by simp
  generalize μ1++[Cell.lst [.int b0]]++[cI [] 3 2 3]=μ2 at hb hd0;generalize (μ1++[Cell.lst [.int b0]]).length=nd at hd0 hne;generalize μ1.length=nb at hb hne;refine⟨hb,by decide,by decide,fun r b rl rok=>?_⟩;have hb2:=lF (b:=b) hb;have hd2:(bx μ2 nb b)[nd]?=some (cI [] 3 2 3):=by unfold bx;rw[cW hne];exact hd0
  generalize bx μ2 nb b=μ3 at hb2 hd2;simp only[bY,bW,aJ,aZ];refine⟨by decide,Za rok ?_⟩;simp only[fU];cases r with
  |nil=>simp only[Wo,pO,bZ,if_false];exact tr _ _ _ _ [] _ _ _ _ _ _ _ _ hb2 hd2 hne (by simp) (by simp) fun m v6 nu v8 v9 v10 v11 μ'=>nx _ _ ⟨_,_,_,_,_,_,_,_,_,_,_,rfl⟩
  |cons x t=>simp only[acS,rQ,if_true];generalize hr:x::t=r at rl rok;(have r0:r≠[]:=by rw[<-hr];simp);(have rl':r.length<=10:=by lia);refine⟨Zq hd2,?_⟩;refine⟨_,r,rfl,.inl rfl,rok,by lia,?_⟩;simp only[jq];refine⟨by have:=Mv rok;simp[lim];lia,?_⟩;refine⟨nd,[],3,2,3,_,rfl,hd2,.inr (.inr (.inl ⟨r,rfl,r0,rok,by simp;lia,?_⟩))⟩;refine tr _ _ _ _ r _ _ _ _ _ _ _ _ ?_ (by rw[aM];exact eF (cj.mp hd2).1) hne rok rl' fun m v6 nu v8 v9 v10 v11 μ'=>nx _ _ ⟨_,_,_,_,_,_,_,_,_,_,_,rfl⟩;obtain⟨y,e⟩:=hb2;exact⟨y,by rw[cW (bK hne)];exact e⟩
 .rintro ρ μ1 ⟨-,a,b,c,d,e,f,g,i,j,k,l,rfl⟩
  exact⟨trivial,h _⟩
 .intro d hd
  obtain⟨i,rfl,h0,_⟩:=Vb hd;exact⟨i,rfl,h0⟩
end DW.ZX
namespace DW.ZX
open L2 (inClass dY fL bR aH Yx)
open PySem DW DW.Ue DW.TX DW.Fb DW.CHO DW.ZW DW.Mj DW.rG
set_option hygiene false in
local macro_rules | `(tactic| trivial) => `(tactic| first | exact ⟨rfl, rfl, rfl, by decide +kernel, rfl, by decide +kernel, by decide +kernel⟩ | (intro _ _ _ _ _ _; first | exact len1 fun _ => rfl | exact len2 fun _ _ => rfl | exact alg fun _ _ _ => rfl | exact anZ fun _ _ _ _ => rfl | exact anY fun _ _ _ _ _ => rfl) | (intro _ _ _ h; (repeat' (refine Or.elim h ?_ ?_ <;> intro h)) <;> first | (obtain ⟨_, rfl, _⟩ := h; rfl) | (obtain ⟨_, _, rfl, _⟩ := h; rfl) | (obtain ⟨_, _, _, rfl, _⟩ := h; rfl) | (obtain ⟨_, _, _, _, rfl, _⟩ := h; rfl) | (obtain ⟨_, _, _, _, _, rfl, _⟩ := h; rfl) | (obtain ⟨_, _, _, _, _, _, rfl, _⟩ := h; rfl) | (obtain ⟨_, _, _, _, _, _, _, rfl, _⟩ := h; rfl) | (obtain ⟨_, _, _, _, _, _, _, _, rfl, _⟩ := h; rfl) | (obtain ⟨_, _, _, _, _, _, _, _, _, rfl, _⟩ := h; rfl) | (obtain ⟨_, _, _, _, _, _, _, _, _, _, rfl, _⟩ := h; rfl) | (obtain ⟨_, _, _, _, _, _, _, _, _, _, _, rfl, _⟩ := h; rfl) | (obtain ⟨_, _, _, _, _, _, _, _, _, _, _, _, rfl, _⟩ := h; rfl) | (obtain ⟨_, _, _, _, _, _, _, _, _, _, _, _, _, rfl, _⟩ := h; rfl) | (obtain ⟨_, _, _, _, _, _, _, _, _, _, _, _, _, _, rfl, _⟩ := h; rfl)) | (intro _ _ _ _ h; (repeat' (refine Or.elim h ?_ ?_ <;> intro h)) <;> first | (obtain ⟨_, rfl, _⟩ := h; rfl) | (obtain ⟨_, _, rfl, _⟩ := h; rfl) | (obtain ⟨_, _, _, rfl, _⟩ := h; rfl) | (obtain ⟨_, _, _, _, rfl, _⟩ := h; rfl) | (obtain ⟨_, _, _, _, _, rfl, _⟩ := h; rfl) | (obtain ⟨_, _, _, _, _, _, rfl, _⟩ := h; rfl) | (obtain ⟨_, _, _, _, _, _, _, rfl, _⟩ := h; rfl) | (obtain ⟨_, _, _, _, _, _, _, _, rfl, _⟩ := h; rfl) | (obtain ⟨_, _, _, _, _, _, _, _, _, rfl, _⟩ := h; rfl) | (obtain ⟨_, _, _, _, _, _, _, _, _, _, rfl, _⟩ := h; rfl) | (obtain ⟨_, _, _, _, _, _, _, _, _, _, _, rfl, _⟩ := h; rfl) | (obtain ⟨_, _, _, _, _, _, _, _, _, _, _, _, rfl, _⟩ := h; rfl) | (obtain ⟨_, _, _, _, _, _, _, _, _, _, _, _, _, rfl, _⟩ := h; rfl) | (obtain ⟨_, _, _, _, _, _, _, _, _, _, _, _, _, _, rfl, _⟩ := h; rfl)) | ((repeat' first | exact Hz | refine Cd ?_ ?_ | assumption | exact rfl | exact fun z => absurd z (by decide) | exact qD.up (by assumption) (by decide) | exact ako (by assumption) (by assumption) | exact cL.calm (qD.up (by assumption) (by decide)) | exact cL.anx (qD.up (by assumption) (by decide)) | exact cL.anz (qD.up (by assumption) (by decide)) | exact qD.mild (by assumption) | exact cL.other (by assumption) (by assumption) (by assumption) (qD.up (by assumption) (by decide)) | exact aom.at (by assumption) (by assumption) (by assumption) | exact ahV.at (by assumption) (by assumption) (by assumption) | exact aol.at (by assumption) (by assumption) (by assumption)); done))
def top (i:Nat):Stmt:=PySem.Challenge.pw_pourwright_k87_runs_at_a_desk.main.body.getD i (.Pass ⟨0,0,0,0⟩)
def gW:List Str:=["isinstance","int","bool","str","len","all","range","sorted","max","min","enumerate","list","reversed","divmod"]
theorem T9:∀ ds μ Q,eY ds μ Q->ds.length=(["thing"]:List Str).length:=by intro ds μ Q h;unfold eY at h;split at h<;>first|rfl|exact h.elim
theorem ahT:∀ ds μ Q,vf ds μ Q->ds.length=(["script","k"]:List Str).length:=by intro ds μ Q h;unfold vf at h;split at h<;>first|rfl|exact h.elim
theorem afY:∀ ds μ Q,cg ds μ Q->ds.length=(["box","many"]:List Str).length:=by intro ds μ Q h;unfold cg at h;split at h<;>first|rfl|exact h.elim
theorem Ua:∀ ds μ Q,ji ds μ Q->ds.length=(["thing","many"]:List Str).length:=by intro ds μ Q h;unfold ji at h;split at h<;>first|rfl|exact h.elim
theorem ahS:∀ ds μ Q,vd ds μ Q->ds.length=(["box","most"]:List Str).length:=by intro ds μ Q h;unfold vd at h;split at h<;>first|rfl|exact h.elim
noncomputable abbrev fB:Stmt:=inClass (top 62) 8
def nH:List Str:=["self","start","behind"]
theorem vJ:dY fJ nH (aH fB):=⟨rfl,rfl,rfl,by decide+kernel,rfl,by decide+kernel,by decide+kernel⟩
theorem yp:∀ d,Dc (Ctx.of fJ (aH fB).names gW) (fK d) (bR fB)=true:=by intro d;kernel_rfl
theorem vN:∀ d ds μ Q,bU d ds μ Q->ds.length=nH.length:=by intro d ds μ Q h;unfold bU at h;obtain⟨_,_,_,_,_,_,_,_,rfl,_⟩:=h;rfl
noncomputable abbrev Rv:Stmt:=top 121
def aeE:List Str:=["script"]
theorem ai1:dY Zd aeE (aH Rv):=⟨rfl,rfl,rfl,by decide+kernel,rfl,by decide+kernel,by decide+kernel⟩
theorem alf:Dc (Ctx.of Zd (aH Rv).names gW) Zu (bR Rv)=true:=by decide+kernel
theorem akH:∀ ds μ Q,K8 ds μ Q->ds.length=aeE.length:=by intro ds μ Q h;unfold K8 at h;obtain⟨_,rfl,_⟩:=h;rfl
theorem Fw {K:bV} {CP:Addr} (a:bG K aQ (aF "PourError")=some (some (.ref CP))):ahV K "PourError" []:=by refine⟨CP,a,?_⟩;intro c hc;simp only[bC,tL,or_false]at hc
theorem zA {T:Top} {h:aq} (Y:T.K.In h/\h.Ns aQ T.mg/\∀ y,gW.contains y=true->T.mg y=none) (k:Nat) (ps:List Str) {x:Str} {st:Stmt} {N:List Str} {i:Ss} {sp:dh} (D:bH T.K x st) (hk:Keeps N i sp) (har:∀ ds μ Q,sp ds μ Q->ds.length=ps.length:=by trivial) (S:dY N ps (aH st):=by trivial) (hmt:Dc (Ctx.of N (aH st).names gW) i (bR st)=true:=by decide+kernel) (hbd:∀ (kV doc pm:Value) (an:Option Addr) (cdv ct:Value) (us:List Value),us.length=ps.length->tU (m6 x x (fL st) (bR st) (aH st) .none kV doc pm an cdv ct) ⟨us,[]⟩=pure (ps.zip us):=by trivial) (ok:jz (cL T k) (fV T) i:=by trivial):cL T (k+1) (.fn x) sp:=alC D Y.1 Y.2.1 S hmt Y.2.2 hbd har hk ok
theorem zK {T:Top} {h:aq} (Y:T.K.In h/\h.Ns aQ T.mg/\∀ y,gW.contains y=true->T.mg y=none) (k:Nat) (ps:List Str) {c:String} {q:Str} {st:Stmt} {N:List Str} {i:Ss} {sp:dh} (D:gA T.K c "__init__" q st) (Cl:ClsAt T.K c) (hk:Keeps N i sp) (har:∀ ds μ Q,sp ds μ Q->ds.length=ps.length:=by trivial) (S:dY N ps (aH st):=by trivial) (hmt:Dc (Ctx.of N (aH st).names gW) i (bR st)=true:=by decide+kernel) (hbd:∀ (kV doc pm:Value) (an:Option Addr) (cdv ct:Value) (us:List Value),us.length=ps.length->tU (m6 (aF "__init__") q (fL st) (bR st) (aH st) .none kV doc pm an cdv ct) ⟨us,[]⟩=pure (ps.zip us):=by trivial) (ok:jz (cL T k) (fV T) i:=by trivial):cL T (k+2) (.mk c) sp:=ale Y.1 Y.2.1 D Cl S hmt Y.2.2 hbd har hk ok
theorem zM {T:Top} {h:aq} (Y:T.K.In h/\h.Ns aQ T.mg/\∀ y,gW.contains y=true->T.mg y=none) (k:Nat) (ps:List Str) {c m:String} {q:Str} {st:Stmt} {N:List Str} {i:Ss} {sp:dh} (D:gA T.K c m q st) (Cl:ClsAt T.K c) (hk:Keeps N i sp) (har:∀ ds μ Q,sp ds μ Q->ds.length=ps.length:=by trivial) (S:dY N ps (aH st):=by trivial) (hmt:Dc (Ctx.of N (aH st).names gW) i (bR st)=true:=by decide+kernel) (hbd:∀ (kV doc pm:Value) (an:Option Addr) (cdv ct:Value) (us:List Value),us.length=ps.length->tU (m6 (aF m) q (fL st) (bR st) (aH st) .none kV doc pm an cdv ct) ⟨us,[]⟩=pure (ps.zip us):=by trivial) (ok:jz (cL T k) (fV T) i:=by trivial):cL T (k+1) (.q9 c m) sp:=Xv D Cl S hmt Y.2.2 hbd har hk ok
set_option maxHeartbeats 0 in
theorem ajY {T:Top} {h:aq} {f:Addr} {fd:d8} {yX:Tok} {sW:Tok} {DQ:Tok} {sX:Tok} {vQ:Tok} {K:bV} (eK:T.K=K) (X:T.K.In h) (G:h.Ns aQ T.mg) (fr:J7 K gW) (jK:bG K aQ "MOST_ITEMS"=some (some (.int 200 yX))) (gR:bG K aQ "MOST_LETTERS"=some (some (.int 8 sW))) (lK:bG K aQ "MOST_ROOM"=some (some (.int 50 DQ))) (gU:bG K aQ "MOST_FIGURES"=some (some (.int 40 sX))) (iT:bG K aQ "MOST_POURED"=some (some (.int 16 vQ))) (qw:ClsAt K "Chooser") (iz:ClsAt K "Contest") (Qv:ClsAt K "Desk") (afv:FP K "Chooser" "room") (afx:FP K "Chooser" "kept") (afw:FP K "Chooser" "last") (aa5:FP K "Contest" "heads") (ZG:FP K "Contest" "winners") (aaN:FP K "Contest" "played") (akq:FP K "Desk" "row") (aie:FP K "Desk" "room") (ahv:FP K "Desk" "width") (agc:FP K "Desk" "drives") (Bf:Gs K "pour_pours" "pour") (ask:af6 K "ASKED" DW.Fb.QK) (pB:Bj K "ASKED" [108,111,97,100,115] "tell_loads") (mq:Bj K "ASKED" [110,97,116,117,114,97,108] "tell_natural") (nZ:Bj K "ASKED" [99,104,111,115,101,110] "tell_chosen") (uW:Bj K "ASKED" [102,97,114] "tell_far") (rF:Bj K "ASKED" [112,111,117,114] "tell_pour") (uV:Bj K "ASKED" [114,111,119] "tell_row") (Ew:ahV K "PourError" []) (Yk:bH K "is_whole" (top 19)) (afK:bH K "is_tag" (top 20)) (akA:bH K "less" (top 21)) (Qx:bH K "sorted_row" (top 23)) (TF:bH K "runs_told" (top 39)) (ahz:bH K "midst" (top 60)) (Dr:gA K "Contest" "winner" "Contest.winner" (inClass (top 62) 10)) (aaS:bH K "head_of" (top 65)) (Tz:bH K "show_item" (top 77)) (KN:bH K "are_figures" (top 79)) (TG:bH K "read_item" (top 82)) (JG:bH K "show_numbers" (top 88)) (akD:bH K "_law_box" (top 105)) (ahB:bH K "_law_take" (top 106)) (ahD:bH K "_law_less" (top 109)) (afN:bH K "_law_shown" (top 114)) (FJ:bH K "_law_numbers_text" (top 117)) (ahy:bH K "rises" (top 22)) (Fy:bH K "greater_ahead" (top 24)) (Yl:bH K "is_below" (top 32)) (Qy:bH K "check_room" (top 33)) (Dt:gA K "Chooser" "may_go" "Chooser.may_go" (inClass (top 37) 4)) (aaR:bH K "natural" (top 58)) (Az:bH K "stretches_above" (top 61)) (Fz:gA K "Contest" "first" "Contest.first" (inClass (top 62) 1)) (Ds:gA K "Contest" "better" "Contest.better" (inClass (top 62) 11)) (Yj:bH K "show_row" (top 78)) (KH:bH K "is_key_text" (top 80)) (TJ:gA K "Desk" "__init__" "Desk.__init__" (inClass (top 103) 0)) (ahE:bH K "_law_item" (top 107)) (aaT:bH K "_law_sorted" (top 110)) (Qz:bH K "_law_runs_text" (top 116)) (Yn:bH K "_law_natural" (top 118)) (afM:bH K "_law_trace" (top 119)) (akC:bH K "_law_far" (top 120)) (alG:bH K "far" (top 25)) (Ba:gA K "Chooser" "let_out" "Chooser.let_out" (inClass (top 37) 3)) (ahA:bH K "loads" (top 57)) (sy:gA K "Contest" "check_place" "Contest.check_place" (inClass (top 62) 7)) (JL:gA K "Contest" "play" "Contest.play" (inClass (top 62) 9)) (JK:bH K "check_rising" (top 64)) (JH:bH K "is_item_text" (top 81)) (Tw:bH K "show_runs" (top 89)) (Yh:bH K "tell_row" (top 91)) (yI:gA K "Desk" "keep_number" "Desk.keep_number" (inClass (top 103) 3)) (akB:bH K "_law_row" (top 108)) (aaU:bH K "_law_chosen" (top 111)) (JQ:gA K "Chooser" "__init__" "Chooser.__init__" (inClass (top 37) 0)) (JR:gA K "Chooser" "give" "Chooser.give" (inClass (top 37) 1)) (Du:gA K "Chooser" "finish" "Chooser.finish" (inClass (top 37) 2)) (JN:gA K "Contest" "head" "Contest.head" (inClass (top 62) 2)) (KQ:gA K "Contest" "put" "Contest.put" (inClass (top 62) 3)) (Qw:bH K "tell_loads" (top 93)) (JF:bH K "tell_natural" (top 94)) (Yi:bH K "tell_far" (top 96)) (Dq:gA K "Desk" "add_items" "Desk.add_items" (inClass (top 103) 2)) (afL:bH K "chosen" (top 38)) (KJ:bH K "chosen_runs" (top 90)) (KD:bH K "tell_chosen" (top 95)) (yJ:gA K "Contest" "play_all" "Contest.play_all" fB) (JM:gA K "Contest" "__init__" "Contest.__init__" (inClass (top 62) 0)) (akz:bH K "pour" (top 66)) (Tv:bH K "tell_pour" (top 97)) (Ym:gA K "Desk" "say" "Desk.say" (inClass (top 103) 1)) (ahC:bH K "_law_said" (top 115)) (F:Yx K "law" "law" Rv f fd):lM T 33 f fd aeE (Q7 K8):=by
 subst eK;have hb:=ZC X G fr;have Y:=Cd X (Cd G hb);have ahr:fV T "MOST_ITEMS" (.int 200):=Ao (pP X G jK);have afq:fV T "MOST_LETTERS" (.int 8):=Ao (pP X G gR);have aib:fV T "MOST_ROOM" (.int 50):=Ao (pP X G lK);have afr:fV T "MOST_FIGURES" (.int 40):=Ao (pP X G gU);have agb:fV T "MOST_POURED" (.int 16):=Ao (pP X G iT);have:=zA Y 0 ["thing"] Yk XD T9;have:=zA Y 0 ["thing"] afK ae4;have:=zA Y 0 ["one","other"] akA aj8;have:=zA Y 0 ["row"] Qx Qc;have:=zA Y 0 ["told"] TF R8;have agp:=zA Y 0 ["start","behind"] ahz ahf;have:=zM Y 0 ["self","start","behind"] Dr iz Di;have:=zA Y 0 ["run","taken"] aaS aaD;have:=zA Y 0 ["item"] Tz R7;have:=zA Y 0 ["text"] KN Ks;have:=zA Y 0 ["word"] TG R9;have:=zA Y 0 ["numbers"] JG uG;have:=zA Y 0 ["script","k"] akD akb ahT;have:=zA Y 0 ["box","many"] ahB ahh afY;have:=zA Y 0 ["one","other"] ahD Qg;have:=zA Y 0 ["row"] afN ae9;have:=zA Y 0 ["numbers"] FJ Fp;have:=zA Y 1 ["row"] ahy Qe;have:=zA Y 1 ["row","place"] Fy Fl;have:=zA Y 1 ["thing","many"] Yl XF Ua;have:=zA Y 1 ["thing"] Qy rA;have:=zM Y 1 ["self","item"] Dt qw Dk;have:=zA Y 1 ["row"] aaR Dg;have:=zA Y 1 ["place","many"] Az Aa;have:=zM Y 1 ["self"] Fz iz Fo;have:=zM Y 1 ["self","left","right"] Ds iz Dj;have:=zA Y 1 ["row"] Yj yx;have:=zA Y 1 ["text"] KH Kq;have:=zK Y 0 ["self"] TJ Qv Sd;have:=zA Y 1 ["box"] ahE Qh;have:=zA Y 1 ["row"] aaT qe;have:=zA Y 1 ["runs"] Qz Qf;have:=zA Y 1 ["row"] Yn XM;have:=zA Y 1 ["runs"] afM ae8;have:=zA Y 1 ["row"] akC aj9;have:=zA Y 2 ["row"] alG alk;have:=zM Y 2 ["self"] Ba qw Ab;have:=zA Y 2 ["row","room"] ahA ahg;have:=zM Y 2 ["self","thing"] sy iz su;have GD:=zM Y 2 ["self","start","behind"] JL iz Jj;have:=zA Y 2 ["runs"] JK Ji;have:=zA Y 2 ["word"] JH Jh;have:=zA Y 2 ["runs"] Tw R6;have Uw:=zA Y 2 ["desk"] Yh yw;have:=zM Y 2 ["self","word","text"] yI Qv yC;have:=zA Y 2 ["box","most"] akB XJ ahS;have:=zA Y 2 ["row","room"] aaU aaE;have:=zK Y 2 ["self","room"] JQ qw Jm;have:=zM Y 3 ["self","item"] JR qw Jo;have:=zM Y 3 ["self"] Du qw Dl;have:=zM Y 3 ["self","place"] JN iz Jl;have:=zM Y 3 ["self","place","head"] KQ iz Ku;have Mu:=zA Y 3 ["desk"] Qw P0;have GC:=zA Y 3 ["desk"] JF Jf;have Ux:=zA Y 3 ["desk"] Yi Xz;have:=zM Y 3 ["self","words"] Dq Qv Dh;have:=zA Y 4 ["row","room"] afL ae5;have:=zA Y 5 ["desk"] KJ Kr;have Ka:=zA Y 6 ["desk"] KD Ko;have yg:∀ d j,3<=j->cL T j (.q9 "Contest" "play_all") (spP bU d)->jz (cL T j) (fV T) (fK d):=by intro d j hj zz;have Kc:=agp.up (show 1<=j by lia);have Bk:=GD.up (show 3<=j by lia);trivial
 have Uy:=Zg yJ iz vJ yp hb (fun _ _ _ _ _ _=>alg fun _ _ _=>rfl) vN yD yg 6;have:=zK Y 10 ["self","heads"] JM iz Jk;have:=zA Y 12 ["runs"] akz aj7;have Q8:=zA Y 13 ["desk"] Tv R5;have rZ:=Mu.up (show 4<=14 by decide);have pJ:=GC.up (show 4<=14 by decide);have qH:=Ka.up (show 7<=14 by decide);have vI:=Ux.up (show 4<=14 by decide);have sU:=Q8.up (show 14<=14 by decide);have vH:=Uw.up (show 3<=14 by decide);have aij:cL T 14 (.din "ASKED" DW.Fb.QK) YT:=akv X G ask;have aii:cL T 14 (.dsp "ASKED" DW.Fb.QK tB) YT:=aku X G ask fun ds μ Q Xq h=>by
  rcases h with⟨r,rfl,h⟩|⟨r,rfl,h⟩|⟨r,rfl,h⟩|⟨r,rfl,h⟩|⟨r,rfl,h⟩|⟨r,rfl,h⟩
  .exact⟨_,r,_,_,rfl,pB,rZ.Q7,h⟩
  .exact⟨_,r,_,_,rfl,mq,pJ.Q7,h⟩
  .exact⟨_,r,_,_,rfl,nZ,qH.Q7,h⟩
  .exact⟨_,r,_,_,rfl,uW,vI.Q7,h⟩
  .exact⟨_,r,_,_,rfl,rF,sU.Q7,h⟩
  .exact⟨_,r,_,_,rfl,uV,vH.Q7,h⟩
 have:=zM Y 14 ["self","line"] Ym Qv XH;have:=zA Y 15 ["desk","line"] ahC ahi;have o_law:jz (cL T 16) (fV T) Zu:=by trivial
 exact Qp F ai1 alf hb o_law akH alj
end DW.ZX
set_option hygiene false in
local macro_rules | `(tactic| decreasing_trivial) => `(tactic| first | (dsimp only [L2.KOf]; refine' DW.afI ?a ?l ?c ?k; (case a => k_is); (case l => k_is); (case c => k_is); (case k => k_is)) | (dsimp only [L2.KOf]; refine' DW.aeP ?a ?b ?i ?l ?c ?k; (case a => k_is); (case b => k_is); (case i => k_is); (case l => k_is); (case c => k_is); (case k => k_is)) | (dsimp only [L2.KOf]; refine' DW.ag3 ?a ?b; (case a => k_is); (case b => k_is)) | (dsimp only [L2.KOf]; refine' DW.afP ?a ?b ?c ?d ?e ?f ?g; (case a => k_is); (case b => k_is); (case c => k_is); (case d => k_is); (case e => k_is); (case f => k_is); (case g => k_is)))
open PySem PySem.W PyProof.Rows
set_option maxRecDepth 100000 in
set_option maxHeartbeats 0 in
theorem PySem.Challenge.cw_pourwright_k87_runs_at_a_desk_holds : PySem.Challenge.rw_pourwright_k87_runs_at_a_desk.Holds := by
 w_on;o_law;k_head;(case hw=>w_witness2)
 k_fill
 refine DW.ae0 (l:=PySem.Challenge.rw_pourwright_k87_runs_at_a_desk) (k:=33) ?I rfl (by decide) rfl (fun w h Y=>by first|exact PySem.W.kIn_of Y|exact PySem.W.km_in_of Y) ?F;case I=>kernel_rfl
 case F=>
  intro w mg fa h KX G hmg;have alF:DW.bH (L2.KOf KX) "law" DW.ZX.Rv:=by decreasing_trivial
  have Bf:DW.Gs (L2.KOf KX) "pour_pours" "pour":=by
   dsimp only[L2.KOf];refine' DW.Yu ?a ?b
   (case a=>k_is);(case b=>k_is)
  have ask:DW.af6 (L2.KOf KX) "ASKED" DW.Fb.QK:=by
   dsimp only[L2.KOf];refine' DW.ahQ ?a ?b ?c
   (case a=>k_is);(case b=>kernel_rfl);(case c=>kernel_rfl)
  have pB:DW.Bj (L2.KOf KX) "ASKED" [108,111,97,100,115] "tell_loads":=by
   dsimp only[L2.KOf];refine' DW.vB ?a ?b ?c
   (case a=>k_is);(case b=>k_is);(case c=>kernel_rfl)
  have mq:DW.Bj (L2.KOf KX) "ASKED" [110,97,116,117,114,97,108] "tell_natural":=by
   dsimp only[L2.KOf];refine' DW.vB ?a ?b ?c
   (case a=>k_is);(case b=>k_is);(case c=>kernel_rfl)
  have nZ:DW.Bj (L2.KOf KX) "ASKED" [99,104,111,115,101,110] "tell_chosen":=by
   dsimp only[L2.KOf];refine' DW.vB ?a ?b ?c
   (case a=>k_is);(case b=>k_is);(case c=>kernel_rfl)
  have uW:DW.Bj (L2.KOf KX) "ASKED" [102,97,114] "tell_far":=by
   dsimp only[L2.KOf];refine' DW.vB ?a ?b ?c
   (case a=>k_is);(case b=>k_is);(case c=>kernel_rfl)
  have rF:DW.Bj (L2.KOf KX) "ASKED" [112,111,117,114] "tell_pour":=by
   dsimp only[L2.KOf];refine' DW.vB ?a ?b ?c
   (case a=>k_is);(case b=>k_is);(case c=>kernel_rfl)
  have uV:DW.Bj (L2.KOf KX) "ASKED" [114,111,119] "tell_row":=by
   dsimp only[L2.KOf];refine' DW.vB ?a ?b ?c
   (case a=>k_is);(case b=>k_is);(case c=>kernel_rfl)
  have Ew:DW.ahV (L2.KOf KX) "PourError" []:=by
   dsimp only[L2.KOf];refine' DW.ZX.Fw ?a
   (case a=>k_is)
  have fr:DW.J7 (L2.KOf KX) DW.ZX.gW:=by
   dsimp only[L2.KOf,DW.ZX.gW,DW.J7];refine' ⟨?z0,?z1,?z2,?z3,?z4,?z5,?z6,?z7,?z8,?z9,?z10,?z11,?z12,?z13,trivial⟩
   (case z0=>k_is)
   (case z1=>k_is)
   (case z2=>k_is)
   (case z3=>k_is)
   (case z4=>k_is)
   (case z5=>k_is)
   (case z6=>k_is)
   (case z7=>k_is)
   (case z8=>k_is)
   (case z9=>k_is)
   (case z10=>k_is)
   (case z11=>k_is)
   (case z12=>k_is)
   (case z13=>k_is)
  have jK:∃ t,bG (L2.KOf KX) aQ "MOST_ITEMS"=some (some (.int 200 t)):=by
   dsimp only[L2.KOf];refine' DW.uI ?z
   (case z=>k_is)
  obtain⟨yX,jK⟩:=jK;have gR:∃ t,bG (L2.KOf KX) aQ "MOST_LETTERS"=some (some (.int 8 t)):=by
   dsimp only[L2.KOf];refine' DW.uI ?z
   (case z=>k_is)
  obtain⟨sW,gR⟩:=gR;have lK:∃ t,bG (L2.KOf KX) aQ "MOST_ROOM"=some (some (.int 50 t)):=by
   dsimp only[L2.KOf];refine' DW.uI ?z
   (case z=>k_is)
  obtain⟨DQ,lK⟩:=lK;have gU:∃ t,bG (L2.KOf KX) aQ "MOST_FIGURES"=some (some (.int 40 t)):=by
   dsimp only[L2.KOf];refine' DW.uI ?z
   (case z=>k_is)
  obtain⟨sX,gU⟩:=gU;have iT:∃ t,bG (L2.KOf KX) aQ "MOST_POURED"=some (some (.int 16 t)):=by
   dsimp only[L2.KOf];refine' DW.uI ?z
   (case z=>k_is)
  obtain⟨vQ,iT⟩:=iT;obtain⟨f,fd,e1,F⟩:=alF;have e2:=hmg.symm.trans (pP KX G e1);cases e2;refine⟨fd,?_,fun base _ _=>by refine DW.ZX.ajY (T:=⟨_,w,L2.KOf KX,mg,base⟩) (K:=L2.KOf KX) rfl KX G fr jK gR lK gU iT ?_ ?_ ?_ ?_ ?_ ?_ ?_ ?_ ?_ ?_ ?_ ?_ ?_ Bf ask pB mq nZ uW rF uV Ew ?_ ?_ ?_ ?_ ?_ ?_ ?_ ?_ ?_ ?_ ?_ ?_ ?_ ?_ ?_ ?_ ?_ ?_ ?_ ?_ ?_ ?_ ?_ ?_ ?_ ?_ ?_ ?_ ?_ ?_ ?_ ?_ ?_ ?_ ?_ ?_ ?_ ?_ ?_ ?_ ?_ ?_ ?_ ?_ ?_ ?_ ?_ ?_ ?_ ?_ ?_ ?_ ?_ ?_ ?_ ?_ ?_ ?_ ?_ ?_ ?_ ?_ ?_ ?_ ?_ F<;>decreasing_trivial⟩;obtain⟨oc,od,kV,doc,pm,an,cdv,ct,osl,rfl,lk,hcd⟩:=F.ex;exact fun s u=>.of_eq rfl
#print axioms PySem.Challenge.cw_pourwright_k87_runs_at_a_desk_holds
