import PyProof.Rows.All
import Wide.All
import OpenK.AllK
import Wide.FinOn
import Lean
import PyProof.EqAt
import PyProof.EqKinds
import PyProof.TupleCall
import KE.KTabLook
import PyProof.StrLawsChain
import PyProof.StrLawsFirst
import PyProof.StrLawsJoin
import PyProof.MeetsStr2
import PyProof.ReprLen
import KE.KIntText
import PySem.Syntax
import PySem.Value
import PyProof.StrOps2
import PyProof.StrLawsIn
import PySem.Eval
import PyProof.SliceStr2
import KE.KSortTup
import PyProof.Rows.SortWalk
import PyProof.Dict
import PyProof.DictKinds
import PyProof.StrOps
import KE.KDictList
import KE.KEqDict
import PyProof.DictItems
import PyProof.FitsInt
import PyProof.ReprRoads
import PyProof.CallFns
import PyProof.MinMaxWalk
import PyProof.MeetsSeq
import PyProof.Rows.SeqMore2
import PyProof.FactsAll.str_0
import PyProof.FactsAll.str_5
import PyProof.FactsAll.str_7
import PyProof.Rows.FactsT2
import PyProof.ZipIter
import PyProof.WalksEnum
import PyProof.EnumMake
import KE.KRevIter
import KE.KTryMore
import OpenK.KOwn
import PyProof.FactsAll.tuple_2
import PyProof.FactsAll.tuple_3
import PyProof.Rows.SetFrom
import PyProof.WalksMore
import PyProof.TupleIter
import PyProof.ListRange
import PyProof.TupleOfSeq
import PySem.Challenge.RW_pourwright_k71_sorted_on_drives
open List renaming getElem?_cons_zero->aG,getElem?_cons_succ->aJ,getElem?_eq_getElem->bI,getElem?_eq_some_iff->cF,getElem?_set_ne->bR,map_cons->aW,set_cons_succ->bC,getElem?_append_left->cL,set_cons_zero->bD,length_cons->aY,length_map->aU,nil_append->aZ,cons_append->bG,mem_cons->aO,length_nil->bB,replicate->aV,getElem?_set_self->cT,mem_singleton->cO,size_toArray->cJ,map_nil->bh,range->aN,getElem?_append_right->jt,getElem?_eq_none->gW,append_assoc->fL,getElem?_map->fW,length_append->gV,mem_of_getElem?->jr,length_eq_zero_iff->mR,not_mem_nil->gH,mem_cons_of_mem->jZ,mem_append->jd,lookup_cons->jM,range'_succ->lC,foldl_cons->lA,length->fK,flatten_cons->oU,pairwise_cons->pR,ext_getElem?->oR,map_congr_left->qN,range'->gG,drop_eq_getElem_cons->zQ,map_map->jq,range_eq_range'->uI,take_of_length_le->zO,map_append->qI,getElem_mem->uH,mem_filterMap->sG,mem_map->jG,drop_of_length_le->yO,nodup_cons->oZ,mem_range->oY,zip_cons_cons->uX,length_take->rZ,drop_eq_nil_of_le->CQ,replicate_succ->yN,set_append_right->CK,mem_cons_self->yM,length_drop->uU,mem_iff_getElem->CJ,length_range->yK,append_nil->uP,getElem_of_mem->CG,filter_eq_self->Cz,getD_eq_getElem?_getD->Pj,exists_cons_of_ne_nil->Pg,perm_middle->yI,length_replicate->H8,pairwise_iff_getElem->Pa,take_succ_eq_append_getElem->Wj,forIn_cons->yG,mem_filter->yF,eraseIdxIfInBounds_toArray->Wi,range_succ->yD,foldl_nil->yC,cons_lt_cons_iff->O6,take_append_drop->O4,map_set->uN,mem_of_mem_erase->O2,zip_nil_left->HY,foldl_append->HX,pairwise_append->O1,set_append_left->OJ,forIn_nil->Cr,filter_cons->HF,getElem?_range->OD,idxOf_lt_length_iff->Wa,getElem_idxOf->Ox,lookup_append->Ow,flatten_replicate_singleton->ad0,eraseIdx_eq_take_drop_succ->adZ,nodup_append->Oi,length_filter_le->V6,all_eq_true->Oh,any_toArray->Og,mem_of_mem_drop->V2,dropLast_concat_getLast->adX,length_pos_iff->VP,flatten_append->VN,mem_or_eq_of_mem_set->adI,eq_of_mem_replicate->adB,lookup->Hl,getElem?_replicate->adA,filter_cons_of_pos->adz,filter_cons_of_neg->ady,map_drop->N5,flatten_eq_nil_iff->adw,any_eq_true->Vw,zipIdx_cons->Vt,mem_flatten->Vs,zipWith_cons_cons->adp,not_of_lt_findIdx->ado,length_eq_one_iff->adi,of_mem_zip->Vp,dropLast_eq_take->adf,getElem?_toArray->adb,zipIdx_nil->Vm,length_set->Vl,replicate_succ'->ac3,perm_cons_erase->ac2,mem_of_mem_take->ac1,take_succ_cons->acZ,zip_nil_right->acN,any_cons->Vg,map_singleton->acK,filter_congr->acw,cons_ne_nil->aci,drop_length->ace,map_snd_zip->ab9,map_fst_zip->ab8,mem_range'->ab6,head?_drop->ab2,map_const'->ab1,count_cons->ab0,drop->Np,filter_map->abZ,nodup_nil->abV,drop_zero->abS,foldl->UL,all_cons->abN,map_take->abL,zipWith->abJ
open PySem renaming wpAny_bind->ao,Shared->aj,wpAny_pure->aD,mainGlobals->bT,wpAny->ak,Spec->anh,wpAny_field->dK,wpAny_callSpecial?_slot->tQ,mem_of_lookup->pU,wpAny_loadPart'->tO,Around->aX,sizeLine_eq->gF,wpAny_truthy_bool->pQ,wpAny_setField_rec->qL,Program->cg,wpAny_call_entry->qJ,wpAny_newObj_type->tM,starEach->c7,model->aH,wpAny_seqItems->nu,call_meets->jm,FuncData->fG,wpAny_Call_Name_kw->yL,World->bA,argBest->dR,wpAny_holding->rU,cellsFrom->jE,NameKind->iD,codeAny_builtin->yH,compareOp->j7,wpAny_passesOwn->yE,Operator->jl,wpAny_mono->oX,wpAny_pyIter_tuple->H6,wpAny_letGo->rR,wpAny_rule->qm,IsPair->eF,wpAny_isInstance->HN,getItem->jk,sysModules->rQ,assignEach->rO,wpAny_attempt->Cq,rawInt->fO,letOwnedTupleGo->HD,tupleKind_room_in1->Oz,wpAny_updateSeq->HB,plainId_quiet->Cp,Builtin->nq,sliceBounds->yu,wpAny_pyIter_list->Ot,foldedSetIterable->Ol,wpAny_pyIter_enum->Oj,isSubtype_stop->Hz,wpAny_setField->Hx,pyNext->gQ,bootBuiltins->Cm,wpAny_updateSeq_pair->V3,wpAny_onRaise->Hv,wpAny_letOwnedTupleGo_enum->adL,firstArgMember->Oc,wpAny_tryCatch->N8,wpAny_sequenceKey->VJ,typeIs_str->Cj,numAt->fB,swapsWith->yp,wpAny_assign_Name->VB,wpAny_comprehension_free->adD,IsRangeIter->Hq,codeAny->qj,keywordEach->Ho,behindInMarks->N6,bindArgs->uL,IsPart->lX,backTo->lW,noFill_tuple_add->Vy,wpAny_pyIter_rangeiter->adn,wpAny_nextOf_list_item->adl,wpAny_typeOf->NQ,wpAny_isTrue_Compare1->ada,wpAny_execs_nil->Vn,IsZip->gP,wpAny_nextOf_list_end->ac9,binaryOp->yj,field->iC,wpAny_loadName_local->ac8,wpAny_pyIter_revIter->ac4,newFunctionEnv->Vj,wpAny_throw->NP,subscripted->Nz,CmpOp->ji,wpAny_loadName_cell->acY,slicePicked->Ny,attributeBase->Vi,seq_tuple_add->Vh,seqItems?->Hf,swappedStores->Vd,wpAny_pyIter_range->acJ,IsEnum->qg,builtinsNs->Nv,typeLookup->Nu,wpAny_dictEntries->acF,holding->yg,slot_list_getitem->acE,list_append->acC,wpAny_Return_some->acz,Within->Vc,codeAny_mono->U9,concat_meets->U8,assign->rK,wpAny_pyHash_str->acv,wpAny_forIn_list->acp,wpAny_pyIter_zip->acd,backToKw->G9,ZipApart->G8,wpAny_of_eq->U6,seqIndex_of->U5,wpAny_specialOf->ab7,tupleKind->Nr,richCompare->U4,Meets->yd,notedBy->Cg,pushCells_keeps->ab4,Result->yc,isTrue->xZ,wpAny_Name->UG,typeIs_int->Uz,wpAny_call->Uy,closureFor->Ux,raiseNew->Nm,leaving->G6,setItem->G5,callWith->Nj,intItems->Ni,relabel->G4,compEnvC->Ng,seqIndex?->Uw,DictEntry->Uv,lastMarks->Uu,pyIter->Ce,IsEnumOut->Ut,Keyword->Nb,bindL->uJ,dictGet->M9,spliced->M8,valueAt->M7,standAt->M6,BindsTo->M5,intKind->M4,truthy->G3,name_of_addr->abz,call->abx,putAt->xX
open PySem.Str renaming ofString->aC,length->fP,ofString_eq_toList->adq
open Bool renaming and_eq_true->bO,false_eq_true->dB,false_ne_true->dM,not_eq_true'->su,or_eq_true->uQ,not_true->rT,and_eq_true_iff->V5,and_true->Hu,or_eq_true_iff->acT,not_false->abT,and_self->abP,true_and->abK
open Nat renaming le_refl->aL,lt_of_lt_of_le->fM,lt_or_ge->dH,le_trans->jc,lt_irrefl->lu,ne_of_lt->jL,zero_le->iH,ne_of_gt->j8,le_of_not_lt->uT,le_add_right->uR,lt_succ_self->Cy,le_of_lt->yw,le_succ_of_le->Ou,le_succ->yt,lt_succ_of_lt->Om,min_eq_left->Od,lt_trans->Hr,min_eq_right->Vr,lt_trichotomy->acy,zero_add->U7,succ_le_succ->acr,mul_le_mul->abX,mul_comm->abI,log2_lt->abD
open PySem.Heap renaming get?_push_of_some->bV,get?_push_size->dW,lt_size->dw,get?_update_other->wW,size_push->oN,get?_update_self->CN,SameBut->NT,ExtBut->NK,IsTuple->abG
open Option.some renaming inj->cH,injEq->nH
open Option renaming map_some->dz,getD_some->fV,bind_some->oO,join_some->pP,isSome_iff_exists->Ek,map_eq_some_iff->yP,isNone_iff_eq_none->adJ,isSome_map->VG,map->Hh,isSome_some->acM,getD_none->acs
open PySem.Builtin.Str renaming strSliceIndices->mU,occurrences->Hp,strKind->acV,tooLong->aiK
open List.cons renaming injEq->eH
open PySem.W renaming nsIn->cZ,Frag->cW,findIn->pO,keepIn->pN,emptyDict->wV,fnOf->jH,instObj->qp,kia_one->rY,kia_tup->rW,mg_of->uO,plainGet->HJ,hasDictIn->Ov,kitx_list->Oq,kitx_dict->Oo,codeIn->Hy,plainGet_of->V0,makesIn->Oe,isFn->Ht,lookIn->Ob,plainOver->VK,cellsFrom_some->adu,takerIn->Vq,kitx_tuple->acL,kitx_none->acB,kitx_bool->acA,handedIn->acu,kitx_int->acg,kitx_str->acf,kitOne->abW,kitAny->abU,OpenLaw->MP
open PySem.Builtin.SmallTypes renaming ownedTupleIsFree->El,nextOf->zP,ownedTupleHandOut->Pq
open Ne renaming symm->bN
open PySem.Calls renaming spliced_cons->qM,spliced_nil->sy,Name_function_global->adP
open Int renaming toNat_natCast->qK,fdiv_eq_ediv_of_nonneg->Wg,fmod_eq_emod_of_nonneg->adO,le_refl->Nx,ediv_nonneg->ab5
open PySem.Value renaming none->iB,bool->iG,ref->jF,str->yq,int->Ci,type->Hj,isStrOf->abQ,isInt->abF
open PySem.NameKind renaming free->nG,cell->j9
open PyProof.Rows renaming callWith_type1->Le,slot_tuple_getitem->CT,callWith_builtin1->Wh,IntsAre->oV,firstMet->uM,subscriptTail_builtinR->adt,entry_tuple_getitem->acH,args_tuple_getitem->acD,slot_str_getitem->aco,envOfC->uK,tupleItemsOf_->abY,Subscript_->UJ,AllBare->G7,isInt_at->Nh,lt_int->abC
open PySem.F renaming plainAttrs_list->yQ,called_set->uW,slot_tuple_iterator_next->Pk,plain_min_loop->yJ,slot_zip_next->Cv,slot_enumerate_next->O5,args_tuple_add_2->Wb,entry_tuple_add->V9,slot_list_index->V8,slot_tuple_add->V7,slot_dict_contains->V4,args_tuple_iterator_next_1->adY,entry_tuple_iterator_next->adU,slot_range_iterator_next->adT,args_str_split_2->VL,slot_dict_getitem->Oa,args_list_index_2->adK,entry_list_index->adF,slot_list_remove->adE,entry_str_split->VD,args_zip_next_1->Vz,slot_tuple_index->adC,args_enumerate_next_1->adx,entry_min_loop->Vv,slot_str_split->NZ,entry_zip_next->Vu,entry_enumerate_next->adk,slot_dict_len->ade,args_list_append_2->ac7,args_list_extend_2->ac6,entry_list_append->acX,entry_list_extend->acW,slot_list_append->Vf,slot_list_extend->Ve,entry_list_pop->acj,slot_list_pop->U3,slot_int_rmul->ab3,slot_list_insert->abR
open List.Pairwise renaming nil->uV
open PySem.Builtin.List renaming listTooLong->H9,listFitsIndex->Wd
open PySem.MeetsSeq renaming plain_remove_loop->Pn,entry_remove_loop->adM
open PySem.Builtin.Slice renaming slicePlaces->Pb,sliceAdjust->Wc,sliceApplied->adS,slicePartIndex->aiR,sliceFields->aiO
open PySem.Around renaming under_plainId->H7,frames_deeper->ac5,under->Vb
open PySem.Builtin.Tuple renaming tupleExact->O9,tupleItemsOf->adR,tupleIsExact->adN,tupleCompareSizes->aiS
open Classical renaming propDecidable->O8
open PySem.Builtin.Range renaming rangeSize->O7,rangeFitsLong->adV,small->acU
open PySem.PyData renaming eqv->oW,canLay0->Cu,depth->Ck,canLayAll0->VH,eqvAll->N7,depthAll->Vo
open List.Perm renaming refl->yx
open ForInStep renaming yield->Cw
open Function renaming comp_def->HW,comp_apply->acS
open True renaming intro->rP
open Prod.mk renaming injEq->Hw
open PySem.Obj renaming mapSeq->yr,data_mapFields->acI
open PySem.Heap.SameBut renaming update->V1,refl->acG
open Array renaming length_toList->VR,getElem?_eq_some_iff->adQ,toList->Hs,getElem_mem->VF,toList_inj->Vx,toList_map->ach
open PySem.Builtin.Builtins renaming bindParams->adW
open PyProof renaming noPylong_of_log2->adH
open PySem.AutoSeq1 renaming sub_tuple_tuple->adG
open Lean.Macro renaming throwUnsupported->adv
open Sum renaming inl->rN,inr->yh
open PySem.SeqAt renaming compareEq_reads->adh,compareNe_reads->adg,EqAt->xY
open Std.Legacy.Range renaming forIn_eq_forIn_range'->aiT,size->aiL
open PySem.Builtin renaming bitAnd->Vk
open PyProof.Rows.KTD renaming datumAt->rM,isSome_datumAt->UW
open PySem.EntryCells renaming newEntry->ac0
open PySem.SeqAt.EqAt renaming int_str->acR,str_int->acQ,int_int->acP,str_str->acO
open PySem.StrLaws renaming partsFrom->Hg
open Char renaming toNat->Nt
open PySem.Code renaming isFrame->Va,frames->abE
open PySem.P renaming add_list->acq
open PySem.IsL renaming update->acn
open PySem.Builtin.Frozenset renaming updateFrom->aiQ
open PySem.Shared renaming heap->U0
open And renaming intro->Nq
open PySem.SeqAt.RcNeAt renaming lists_lengths->aiP,lists->aiH
open PySem.Builtin.Dict renaming pendingCount->aiN,pendingKey?->aiM
open Prod renaming ext->Nk,fst->Us
open PySem.Paired renaming length->abO
open PySem.Expr renaming ListComp->abM
open PySem.Str.mk renaming injEq->abH
open Lean renaming TSyntax->Nf
open PySem.CmpOp renaming NotEq->abB
open PySem.IsRange renaming new->abA
open PySem.W.Looks renaming here->aiJ
open PySem.SeqAt.Reads renaming unique->aiI
open PySem.Heap.IsSliceOf renaming new->aiG
open PySem.Within renaming cons->aiF
open PySem.W.WShape renaming has->aby
open PySem.Walks renaming list->abw
open PySem.Heap.IsList renaming push->aiE
open PySem.W.WData renaming int->abu
open PySem.Heap.DictOf renaming new->aiD
set_option maxHeartbeats 4000000
set_option linter.all false
set_option maxRecDepth 100000
set_option exponentiation.threshold 1000
set_option Elab.async false
set_option genSizeOf false
set_option bootstrap.genMatcherCode false
set_option backward.eqns.nonrecursive false
local macro_rules|`($m:declModifiers def $x $s:optDeclSig $v:declVal)=>if m.raw.getArgs.all (·.getNumArgs==0) then `(command| noncomputable def $x $s:optDeclSig $v:declVal) else Lean.Macro.throwUnsupported
theorem xE2{α:Sort _}{β:α→Sort _}{p:∀a,β a→Prop}{G:Prop}(h:∃a b,p a b)(f:∀a b,p a b→G):G:=h.elim fun a h=>h.elim (f a)
theorem xE3{α:Sort _}{β:α→Sort _}{γ:∀a,β a→Sort _}{p:∀a b,γ a b→Prop}{G:Prop}(h:∃a b c,p a b c)(f:∀a b c,p a b c→G):G:=h.elim fun a h=>xE2 h (f a)
theorem xE4{α:Sort _}{β:α→Sort _}{γ:∀a,β a→Sort _}{δ:∀a b,γ a b→Sort _}{p:∀a b c,δ a b c→Prop}{G:Prop}(h:∃a b c d,p a b c d)(f:∀a b c d,p a b c d→G):G:=h.elim fun a h=>xE3 h (f a)
theorem xE5{α:Sort _}{β:α→Sort _}{γ:∀a,β a→Sort _}{δ:∀a b,γ a b→Sort _}{ε:∀a b c,δ a b c→Sort _}{p:∀a b c d,ε a b c d→Prop}{G:Prop}(h:∃a b c d e,p a b c d e)(f:∀a b c d e,p a b c d e→G):G:=h.elim fun a h=>xE4 h (f a)
theorem xE1{α:Sort _}{p:α→Prop}{G:Prop}(h:∃a,p a)(f:∀a,p a→G):G:=h.elim f
theorem xA2{a b G:Prop}(h:a∧b)(f:a→b→G):G:=f h.1 h.2
theorem xA3{a b c G:Prop}(h:a∧b∧c)(f:a→b→c→G):G:=f h.1 h.2.1 h.2.2
theorem xA4{a b c d G:Prop}(h:a∧b∧c∧d)(f:a→b→c→d→G):G:=xA3 h.2 (f h.1)
theorem xA5{a b c d e G:Prop}(h:a∧b∧c∧d∧e)(f:a→b→c→d→e→G):G:=xA4 h.2 (f h.1)
theorem xA6{a b c d e g G:Prop}(h:a∧b∧c∧d∧e∧g)(f:a→b→c→d→e→g→G):G:=xA5 h.2 (f h.1)
theorem xA7{a b c d e g i G:Prop}(h:a∧b∧c∧d∧e∧g∧i)(f:a→b→c→d→e→g→i→G):G:=xA6 h.2 (f h.1)
theorem xA8{a b c d e g i j G:Prop}(h:a∧b∧c∧d∧e∧g∧i∧j)(f:a→b→c→d→e→g→i→j→G):G:=xA7 h.2 (f h.1)
theorem xA9{a b c d e g i j k G:Prop}(h:a∧b∧c∧d∧e∧g∧i∧j∧k)(f:a→b→c→d→e→g→i→j→k→G):G:=xA8 h.2 (f h.1)
open Lean in
local macro_rules|`(tactic|obtain ⟨$ps,*⟩ := $h:term)=>do
 let ps:=ps.getElems
 let n:=ps.size
 if n<3 then adv
 let q←ps.mapM fun p=>do
  let r←`(rcasesPat|($p))
  `(rintroPat|$r:rcasesPat)
 let isI:=h.raw.isIdent
 let x:Ident←if isI then pure ⟨h.raw⟩ else `(hh)
 let y:Ident←`(hz)
 let mut alts:Array (Nf ``Lean.Parser.Tactic.tacticSeq):=#[]
 for i in [0:n] do
  let k:=n-1-i
  let m:=i+1
  if k≤5&&m≤9 then
   let e:=mkIdent (.mkSimple s!"xE{k}")
   let a:=mkIdent (.mkSimple s!"xA{m}")
   let q1:=q.extract 0 k
   let q2:=q.extract k n
   let t←if k==0 then
      `(tacticSeq|refine $a $x ?_;(try clear $x);rintro $q2:rintroPat*)
    else if m==1 then
      `(tacticSeq|refine $e $x ?_;(try clear $x);rintro $q:rintroPat*)
    else
      `(tacticSeq|refine $e $x ?_;(try clear $x);rintro $q1:rintroPat* $y:ident;refine $a $y ?_;clear $y;rintro $q2:rintroPat*)
   alts:=alts.push t
 alts:=alts.push (←`(tacticSeq|rcases $x:ident with ⟨$ps,*⟩))
 if isI then `(tactic|first $[|$alts]*)
 else `(tactic|(first|(have $x:ident:=$h;first $[|$alts]*)|rcases $h:term with ⟨$ps,*⟩))
open Lean in
local macro_rules|`(tactic|rintro $ps:rintroPat*)=>do
 let big (p:Syntax):Option (Nf `rcasesPat):=
  if p.getKind==``Lean.Parser.Tactic.rintroPat.one&&p[0].getKind==``Lean.Parser.Tactic.rcasesPat.tuple&&p[0][1].getSepArgs.size≥3 then some ⟨p[0]⟩else none
 unless ps.any fun p=>(big p).isSome do adv
 let mut o:Array (Nf `tactic):=#[]
 let mut cur:Array (Nf `rintroPat):=#[]
 let x:Ident←`(hy)
 for p in ps do
  match big p with
  |some t=>
   let ip←`(rintroPat|$x:ident)
   cur:=cur.push ip
   o:=o.push (←`(tactic|rintro $cur:rintroPat*))
   cur:=#[]
   o:=o.push (←`(tactic|obtain $t:rcasesPat := $x))
  |none=>cur:=cur.push p
 if cur.size>0 then o:=o.push (←`(tactic|rintro $cur:rintroPat*))
 `(tactic|($[$o];*))
local macro_rules|`(tactic|omega)=>`(tactic|first|assumption|exact aL _|exact iH _|exact Nat.succ_pos _|exact Cy _|exact yw (by assumption)|exact fM (by assumption) (by assumption)|exact jc (by assumption) (by assumption)|lia)
open Lean in
local macro_rules|`(#version)=>do
 let p:=`PySem.Challenge
 let t:=p.str "cw_pourwright_k71_sorted_on_drives_holds"
 let l:=[p.str "pw_pourwright_k71_sorted_on_drives",p.str "rw_pourwright_k71_sorted_on_drives"]++(aN 730).map (fun i=>t.str s!"o_{i+43}")++[47,70,85,100,115,130,145,167,210,233,289,312,417,500,524,602,680,760,772].map (fun i:Nat=>t.str s!"tree_{i}")++[39,46,773].map (fun i:Nat=>t.str s!"heap_{i}")++[49,71,86,101,116,131,146,168,211,234,290,313,504,525,603,681,761].map (fun i:Nat=>t.str s!"sts_{i}")++[39].map (fun i:Nat=>t.str s!"view_{i}")++[41].map (fun i:Nat=>t.str s!"env_{i}")
 let r <- l.toArray.mapM fun n=>`(command| theorem $(mkIdent (.mkSimple s!"tw{n.hash}")) : True := ⟨⟩)
 return mkNullNode r
namespace PySem.W.Fast
#version
end PySem.W.Fast
set_option backward.match.sparseCases false
namespace L2
open PySem PySem.Spec PyProof.Rows
noncomputable abbrev Key:=Sum Int Str
def Ly:Key->Value->Bool
 | .inl k,v=>abF k v| .inr x,v=>abQ x v
def amF (w:bA):Key->Int
 | .inl k=>hashInt k| .inr x=>hashStr w x
theorem eX:∀ {k:Key} {v:Value},Ly k v=true->(∃ i t,k=rN i/\v=Ci i t)∨(∃ x t,k=yh x/\v=yq x t)
 | .inl i,v,h=>by obtain⟨t,e⟩:=Value.isInt_shape (k:=i) (v:=v) h;exact .inl ⟨i,t,rfl,e⟩| .inr x,v,h=>by obtain⟨t,e⟩:=Value.isStrOf_shape (x:=x) (v:=v) h;exact .inr ⟨x,t,rfl,e⟩
theorem Z2 (i:Int) (t:Tok):Ly (.inl i) (.int i t)=true:=by simp[Ly,abF]
theorem Z1 (x:Str) (t:Tok):Ly (.inr x) (.str x t)=true:=by simp[Ly,abQ]
theorem ajK (a b:Int):decide ((rN a:Key)=rN b)=(a==b):=by
 by_cases e:a=b
 .subst e;simp
 .have h:¬(rN a:Key)=rN b:=fun q=>e (Sum.inl.inj q)
  rw[decide_eq_false h];exact(beq_eq_false_iff_ne.mpr e).symm
theorem ajH (a b:Str):decide ((yh a:Key)=yh b)=decide (a=b):=by
 by_cases e:a=b
 .subst e;simp
 .have h:¬(yh a:Key)=yh b:=fun q=>e (Sum.inr.inj q)
  rw[decide_eq_false h,decide_eq_false e]
theorem ajJ (a:Int) (b:Str):decide ((rN a:Key)=yh b)=false:=decide_eq_false (fun q=>nomatch q)
theorem ajI (a:Str) (b:Int):decide ((yh a:Key)=rN b)=false:=decide_eq_false (fun q=>nomatch q)
def aQ (prog:cg) (w:bA):PySem.KeyKind prog w Key where
 is:=Ly
 hash:=amF w
 inj:=fun v a b ha hb=>by
  rcases eX ha with⟨i,t,rfl,rfl⟩|⟨x,t,rfl,rfl⟩
  .rcases eX hb with⟨j,u,rfl,e⟩|⟨y,u,rfl,e⟩
   .injection e with e1 _;rw[e1]
   .exact nomatch e
  .rcases eX hb with⟨j,u,rfl,e⟩|⟨y,u,rfl,e⟩
   .exact nomatch e
   .injection e with e1 _;rw[e1]
 byValue:=fun k v h=>by rcases eX h with⟨i,t,rfl,rfl⟩|⟨x,t,rfl,rfl⟩<;>rfl
 pyHash:=fun hv h=>by
  rcases eX hv with⟨i,t,rfl,rfl⟩|⟨x,t,rfl,rfl⟩
  .exact wpAny_pyHash_int h
  .exact acv h
 eqBool:=fun hu hv h=>by
  rcases eX hu with⟨i,t,rfl,rfl⟩|⟨x,t,rfl,rfl⟩
  .rcases eX hv with⟨j,u,rfl,rfl⟩|⟨y,u,rfl,rfl⟩
   .rw[ajK]at h;exact wpAny_eqBool_int h
   .rw[ajJ]at h;exact acR i t y u _ _ _ _ h
  .rcases eX hv with⟨j,u,rfl,rfl⟩|⟨y,u,rfl,rfl⟩
   .rw[ajI]at h;exact acQ x t j u _ _ _ _ h
   .rw[ajH]at h;exact wpAny_eqBool_str h
 «strs»:=fun k x t v h=>by
  rcases eX h with⟨i,u,rfl,e⟩|⟨y,u,rfl,e⟩
  .exact nomatch e
  .injection e with e1 _
   subst e1;cases v<;>rfl
theorem RP (prog:cg) (w:bA) (i:Int) (t:Tok):(aQ prog w).is (.inl i) (.int i t)=true:=Z2 i t
theorem RN (prog:cg) (w:bA) (x:Str) (t:Tok):(aQ prog w).is (.inr x) (.str x t)=true:=Z1 x t
section
variable (P:cg) (w:bA)
end
section
variable {P:cg} {w:bA} {h h':Heap} {a:Addr}
end
section
variable {P:cg} {w:bA} {h h':Heap} {x e:Addr}
end
section
variable {fs fs' ex ex':List Addr} {h h1 h2 h':Heap} {a x e:Addr}
end
def rH (A:aX) (h:Heap):Prop:=∀ v,A.handled=some v->∃ x o vs,v= .ref x/\h.get? x=some o/\o.data= .fields vs/\vs[2]?=some .none
section
variable {prog:cg} {w:bA} {A:aX} {E:Value->aj->Prop} {s:aj}
theorem Ky:entryFor table "proto.unchain"=some nq.«proto.unchain»:=entryFor_of_tree (by kernel_rfl)
theorem abt {α:Type} {a:Addr} {o:Obj} {vs:Array Value} {Q:α->aj->Prop} (hh:rH A s.heap) (ho:s.heap.get? a=some o) (hd:o.data= .fields vs) (hz:2<vs.size)
  (hE:∀ h' o',h'.get? a=some o'->o'.cls=o.cls->NT a s.heap h'->E (.ref a) {s with heap:=h' }):ak (aH prog w) A (Nm (.ref a)) Q E s:=by
 obtain⟨oc,od,dt,sl⟩:=o;cases hd;unfold Nm;refine ao (wpAny_handled ?_);cases q:A.handled with
 |none=>exact NP (hE s.heap _ ho rfl (acG ..))|some v=>
  obtain⟨x,ox,ws,rfl,hx,hxd,hx2⟩:=hh v q;show ak _ _ (if(jF x !=jF a)=true then _ else _) _ _ s;by_cases e:(jF x !=jF a)=true
  .rw[if_pos e]
   refine ao (rU (wpAny_runValue (yH Ky ?_)));unfold nq.«proto.unchain»;refine ao (dK hx hxd hx2 ?_);refine aD ?_;show ak _ _ (updateField a 2 (.ref x)>>=_) _ _ s;unfold updateField;refine ao (ao (wpAny_load ho ?_));show ak _ _ (if 2<vs.size then _ else _) _ _ s;rw[if_pos hz];refine wpAny_update ho (NP ?_);exact hE _ _ (CN _ ho rfl) rfl (V1 ..)
  .rw[if_neg e]
   exact NP (hE s.heap _ ho rfl (acG ..))
theorem Zq {α:Type} {it:Addr} {Q:α->aj->Prop} (hh:rH A s.heap) (k:∀ h' a o,h'.get? a=some o->o.cls= .type "StopIteration"->NK it s.heap h'->E (.ref a) {s with heap:=h' }):
  ak (aH prog w) A (do let e<-newExc (.type "StopIteration") [];Nm e) Q E s:=by
 refine ao ?_;simp only[newExc,newTuple];refine ao (tM (ao (m:=Oc _ _) (U6 (a:=iB) (by first|rfl|(simp only[Oc];rfl)) (tM ?_ (by size_fits)))) (by size_fits));refine abt (vs:=#[.ref s.heap.objs.size,.none,.none,.none,.bool false,.none]++ownMembersOf (.type "StopIteration") []) (fun v q=>?_) (dW _ rfl) rfl (by simp[ownMembersOf]) fun h' o' e1 e2 sb=>k _ _ _ e1 e2 fun b o hb e=>?_
 .obtain⟨x,o,vs,e,h1,h2,h3⟩:=hh v q
  exact⟨x,o,vs,e,bV _ (bV _ h1),h2,h3⟩
 .refine(sb.2 b ?_).trans (bV _ (bV _ e))
  have h2:(s.heap.push {cls:=.type "tuple",data:=.seq #[]}).objs.size=s.heap.objs.size+1:=by simp[Heap.push]
  have h3:s.heap.objs.size<=(s.heap.push {cls:=.type "tuple",data:=.seq #[]}).objs.size:=by omega
  rintro rfl;exact absurd (fM (dw e) h3) (lu _)
theorem Uq {it:Addr} {x left c:Int} {Q:Option Value->aj->Prop} (hh:rH A s.heap) (hI:Hq s.heap it x left c) (z:left<=0) (k:∀ h',NK it s.heap h'->Q none {s with heap:=h' }):ak (aH prog w) A (gQ (.ref it)) Q E s:=by have ty:s.TypeIs (.ref it) "range_iterator":=⟨_,hI,rfl⟩;unfold gQ;refine ao (Cq (tQ (name:=aC "__next__") ty adT (qJ adT ty F.entry_range_iterator_next ?_ (F.args_range_iterator_next_1 _))));refine(show ak _ _ (do let a<-iC (.ref it) 0;_) _ _ s from ao (dK hI rfl (x:=fO x) rfl ?_));refine(show ak _ _ (do let a<-iC (.ref it) 1;_) _ _ s from ao (dK hI rfl (x:=fO left) rfl ?_));refine(show ak _ _ (do let a<-iC (.ref it) 2;_) _ _ s from ao (dK hI rfl (x:=fO c) rfl ?_));show ak _ _ (ite (left<=0) _ _) _ _ s;rw[if_pos z];refine ao (qm (ao (Zq (it:=it) hh fun h' a o e1 e2 eb=>?_)));exact ao (HN (T:="StopIteration") (b:=true) ⟨_,e1,e2⟩ Hz (aD (k _ eb)))
end
structure Mod (K:cW) (mg:Str->Option Value) (base:Heap):Prop where
 kin:K.In base
 glob:base.Ns bT mg
 blt:∃ mb,base.Ns Nv mb/\∀ x:Str,x≠"__name__"->mb x=Cm x
 nolimit:base.NoLimit
 an3:∃ mm,base.Ns rQ mm
def frs (l:List Env):List Addr:=l.filterMap (·.frame)
def rG (sc:Scope) (x:Str):Prop:=sc.names.lookup x=some .local∨sc.names.lookup x=some .cell∨sc.names.lookup x=some .free
def Loc (sc:Scope) (x:Str):Prop:=sc.names.lookup x=some .local∨sc.names.lookup x=some .cell
def Look (env:Env) (h:Heap) (m:Str->Option Value) (x:Str) (u:Value):Prop:=
 (env.kindOf x=some .local/\m x=some u)∨((env.kindOf x=some .cell∨env.kindOf x=some .free)/\∃ c,env.cells.lookup x=some c/\h.IsCell c (some u))
section
variable {pins:List (Addr×Obj)} {s:aj} {h':Heap}
theorem RD {N:List Str} (hN:N.Nodup) {i j:Nat} {x:Str} (a:N[i]?=some x) (b:N[j]?=some x):i=j:=by obtain⟨h1,e1⟩:=cF.mp a;obtain⟨h2,e2⟩:=cF.mp b;exact(List.getElem_inj hN).mp (e1.trans e2.symm)
end
theorem thn {α:Type} {t:Sem α} {Q Q':α->aj->Prop} {M:Model} {A:aX} {E:Value->aj->Prop} {s:aj} (h:ak M A t Q E s) (hQ:∀ a s,Q a s->Q' a s):ak M A t Q' E s:=oX h hQ fun _ _ x=>x
section
variable {a b:Expr} {pos:Pos}
variable {rest:List Expr}
end
section
variable {pins:List (Addr×Obj)} {s:aj} {a:Addr}
end
section
variable {pins:List (Addr×Obj)} {s:aj} {E:Value->aj->Prop}
end
section
variable {st:Stmt} {rest:List Stmt} {e:Expr} {pos:Pos}
end
section
variable {pos:Pos}
end
section
variable {pos:Pos}
end
theorem Bf {M:Model} {A:aX} {E:Value->aj->Prop} {s:aj} {tg:Expr} {it:Addr} {u:Value} {o:Obj} {n:String} {vs:Array Value} {Q:Unit->aj->Prop} (ho:s.heap.get? it=some o) (hc:o.cls= .type n) (hd:o.data= .fields vs)
    (hn:["enumerate","zip","dict_itemiterator","dict_reverseitemiterator","odict_iterator","itertools.zip_longest","itertools.pairwise"].contains n=false) (hQ:Q () s):ak M A (HD tg (.ref it) u) Q E s:=by
  unfold HD;cases tg<;>first
    |exact aD hQ
    |(cases u<;>first
        |exact aD hQ
        | (refine ao (wpAny_load ho ?_)
           rw[hc,hd];show ak M A (if(["enumerate","zip","dict_itemiterator","dict_reverseitemiterator","odict_iterator","itertools.zip_longest","itertools.pairwise"].contains n&&vs[0]?==some (fO _))=true then _ else _) Q E s;rw[if_neg (by intro h;rw[hn,Bool.false_and]at h;cases h)];exact aD hQ))
section
variable {tg:Expr}
end
section
variable {a b c:Expr} {pos:Pos}
end
section
variable {a b c:Expr} {pos:Pos}
end
structure QS (h:Heap) (x dx C:Addr) (mA:Str->Option Value):Prop where
 obj:h.get? x=some (qp C dx)
 ns:h.Ns1 dx mA
 ne:dx≠x
theorem ZX {h:Heap} {dx:Addr} {mA:Str->Option Value} (n:h.Ns1 dx mA):∃ od,h.get? dx=some od/\∀ name,Ob name od=some (mA name):=by
 obtain⟨o,es,ep,ho,hd,hk,_,hm⟩:=n;refine⟨o,ho,fun name=>?_⟩;have e:=hm name;unfold nsFind findBy at e;rw[<-Array.find?_toList]at e;unfold Ob;rw[hd];dsimp only;split
 .rename_i y q
  rw[q]at e;exact congrArg some e
 .rename_i q
  rw[q]at e;have a:es.toList.any (·.refKey)=false:=by rw[List.any_eq_false];intro y hy;obtain⟨z,t,hkey⟩:=hk y (Array.mem_toList_iff.mp hy);simp[DictEntry.refKey,hkey]
  have a':¬es.toList.any (·.refKey)=true:=by rw[a];exact dM
  rw[if_neg a'];exact congrArg some e
theorem QS.look {h:Heap} {x dx C:Addr} {mA:Str->Option Value} (I:QS h x dx C mA):∃ od,PySem.W.InstAt h x (qp C dx) C (some od)/\∀ name,Ob name od=some (mA name):=
 let⟨od,ho,hl⟩:=ZX I.ns
 ⟨od,⟨I.obj,rfl,rfl,ho⟩,hl⟩
section
variable {prog:cg} {w:bA} {A:aX} {E:Value->aj->Prop} {s:aj} {K:cW} {x dx C f:Addr} {mA:Str->Option Value} {name:Str} {v:Value}
theorem get_map {expr:Bool} {Q:Value->aj->Prop} (X:K.In s.heap) (I:QS s.heap x dx C mA) (hg:HJ K C name=true) (hh:Ov K C=true)
  (ha:pO K (.ref C) name=some none) (hv:mA name=some v) (hv':acu v=true) (h:Q v {s with toks:=s.toks+1}):
  ak (aH prog w) A (getAttr (.ref x) name expr) Q E s:=by
 obtain⟨od,J,hl⟩:=I.look;exact PySem.W.get_value X J (V0 hg).1 (PySem.W.findObj_own hh ha rfl (by rw[hl,hv])) hv' h
theorem ae0 {pl:Sem Bool} {Q:Value×List Value->aj->Prop} (X:K.In s.heap) (I:QS s.heap x dx C mA) (hg:HJ K C name=true)
  (hf:pO K (.ref C) name=some (some (.ref f))) (ht:Ht K (.ref f)=true) (hv:mA name=none) (h:Q (.ref f,[.ref x]) s):
  ak (aH prog w) A (getMethod (.ref x) name pl) Q E s:=by
 obtain⟨od,J,hl⟩:=I.look;exact PySem.W.method_fn X J (V0 hg).1 (V0 hg).2 hf (beq_iff_eq.mp ht) (by show(Ob name od).map (·.isSome)=some false;rw[hl,hv];rfl) h
theorem agj {ns:List Str} {Q:Unit->aj->Prop} (X:K.In s.heap) (I:QS s.heap x dx C mA)
  (hs:pO K (.ref C) "__setattr__"=some (some (.builtin "object.__setattr__"))) (hp:VK K C=true) (ht:Vq K C name=some none) (hh:Ov K C=true)
  (hw:Vc mA ns) (hsz:ns.length<=sizeLine)
  (h:∀ h',QS h' x dx C (fun y=>if y=name then some v else mA y)->NT dx s.heap h'->Q () {s with heap:=h',toks:=s.toks+2}):
  ak (aH prog w) A (setAttr (.ref x) name v) Q E s:=by
 obtain⟨od,J,hl⟩:=I.look;refine PySem.W.set_plain X J hs (PySem.W.osa_open (s:={s with toks:=s.toks+1}) (r:=none) X J hp ht fun b=>?_);obtain⟨cd,hc,hd'⟩:=PySem.W.any_some hh;have hx:s.heap.get? x=some ⟨.ref C,some dx,.plain,#[]⟩:=I.obj;refine ao (aD (ao (ao (wpAny_loadPart hx (ao (aiJ (s:={s with toks:=s.toks+1}) (PySem.W.looks_clsIn X hc) ?_))))));rw[hd'];refine aD (a:=some dx) (ao (aD (ao ?_)));refine wpAny_nsSet1 (s:={s with toks:=s.toks+1}) I.ns fun h' hn2 hs2=>?_;obtain⟨oD,esD,epD,hoD,hdD,hcD⟩:=hn2.count (aiF name v hw);refine ao (wpAny_lookBehind hoD (by rw[hdD];exact pastItsLine_dict (jc hcD (by rw[aY];omega))) ?_);exact aD (h _ ⟨(hs2.2 _ (bN I.ne)).trans I.obj,hn2,I.ne⟩ hs2)
theorem aeA {R:yc->aj->Prop} {vs:List Value} {kw:List (Str×Value)} (X:K.In s.heap) (hm:Oe K C=true)
  (hi:pO K (.ref C) "__init__"=some (some (.ref f))) (hf:PySem.W.typeIn K (.ref f)=some (.type "function"))
  (h:qj (aH prog w) (A.under (.builtin "type.__call__" ⟨.ref C::vs,kw⟩)) (.call (.ref f) ⟨.ref (s.heap.objs.size+1)::vs,kw⟩) (PySem.W.InitBack (s.heap.objs.size+1) R)
   {s with heap:=(s.heap.push wV).push (qp C s.heap.objs.size)}):
  qj (aH prog w) A (.call (.ref C) ⟨vs,kw⟩) R s:=by
 obtain⟨hh,g,d,t,os⟩:=s;exact PySem.W.make_core (PySem.W.makes_of X hm) (PySem.W.looks_findIn X hi) (fun self=>PySem.W.bind_fn X self hf) (.inl rfl) h
end
section
variable {P:cg} {w:bA} {h h':Heap} {a C dx:Addr}
end
structure Cls (K:cW) (C:Addr):Prop where
 pg:HJ K C Str.empty=true
 hd:Ov K C=true
 po:VK K C=true
 sa:pO K (.ref C) "__setattr__"=some (some (.builtin "object.__setattr__"))
theorem Cls.get {K:cW} {C:Addr} (c:Cls K C) (f:Str):HJ K C f=true:=c.pg
def gC (K:cW) (C:Addr) (f:Str):Prop:=pO K (.ref C) f=some none
theorem gC.taker {K:cW} {C:Addr} {f:Str} (n:gC K C f):Vq K C f=some none:=by unfold Vq;rw[show pO K (.ref C) f=some none from n];rfl
structure Meth (K:cW) (C:Addr) (m:Str) (f:Addr):Prop where
 at_:pO K (.ref C) m=some (some (.ref f))
 fn:Ht K (.ref f)=true
 kp:pN K (.ref f)=true
section
variable {pins:List (Addr×Obj)} {s:aj} {a C dx:Addr} {f:Str} {A:aX} {E:Value->aj->Prop}
theorem ahx {prog:cg} {w:bA} {env:Env} {e:Expr} {f:Str} {pos:Pos} {s:aj} {Q:Value->aj->Prop} (hb:Vi e f env (eval e env)=eval e env)
  (h:ak (aH prog w) A (eval e env) (fun o s₁=>ak (aH prog w) A (getAttr o f true) Q E s₁) E s):ak (aH prog w) A (eval (.Attribute e f pos) env) Q E s:=
 Attribute_any_ h (by rw[arm_eval_Attribute,hb])
end
section
variable {o e value:Expr} {f:Str} {pos pos' tpos:Pos}
end
section
variable {pins:List (Addr×Obj)} {s:aj} {A:aX} {E:Value->aj->Prop} {Q:Value->aj->Prop} {c:Value} {b:Bool}
end
structure cV (k:Nat) (A:aX):Prop where
 hd:16<=k->A.handled=none
 dp:A.depth+3*k+5<recursionLimit
 un:A.units+16*k+200<cLine
 gd:A.guards=some []
theorem cV.mono {j k:Nat} {A:aX} (r:cV k A) (h:j<=k):cV j A:=⟨fun z=>r.hd (jc z h),by have:=r.dp;omega,by have:=r.un;omega,r.gd⟩
theorem cV.deeper {k:Nat} {A:aX} (r:cV (k+1) A) (env:Env):cV k (A.deeper env):=
 ⟨fun z=>r.hd (Ou z),by have:=r.dp;show A.depth+1+3*k+5<_;omega,by have:=r.un;show A.units+3+16*k+200<_;omega,r.gd⟩
theorem Wx {A:aX} {C:Addr} {us:List Value} {kw:List (Str×Value)}:(A.under (.builtin "type.__call__" ⟨.ref C::us,kw⟩)).depth=A.depth+1:=by first|rfl|simp[Vb,Code.weight,Code.isCreation,Code.isGuard,Code.isCaller,abE,Va,guardIds]
theorem Ww {A:aX} {C:Addr} {us:List Value} {kw:List (Str×Value)}:(A.under (.builtin "type.__call__" ⟨.ref C::us,kw⟩)).units=A.units+1:=by first|rfl|simp[Vb,Code.cUnits,abE,Va]
theorem cV.make {k:Nat} {A:aX} (r:cV (k+1) A) (C:Addr) (us:List Value) (kw:List (Str×Value)):cV k (A.under (.builtin "type.__call__" ⟨.ref C::us,kw⟩)):=
 ⟨fun z=>r.hd (Ou z),by have:=r.dp;rw[Wx];omega,by have:=r.un;rw[Ww];omega,r.gd⟩
theorem cV.depth {k:Nat} {A:aX} (r:cV k A):A.depth<recursionLimit:=by have:=r.dp;omega
theorem cV.units {k:Nat} {A:aX} (r:cV k A):A.units+64<cLine:=by have:=r.un;omega
section
variable {e:Expr} {es:List Expr} {pos:Pos}
end
section
variable {pins:List (Addr×Obj)} {s s':aj}
end
section
variable {k:Nat} {f C:Addr} {fd:fG} {ps:List Str} {ds:List Value} {x m:Str} {p pos apos:Pos} {e o:Expr} {es:List Expr}
structure Mk (K:cW) (C f:Addr):Prop where
 makes:Oe K C=true
 init:pO K (.ref C) "__init__"=some (some (.ref f))
 fn:Ht K (.ref f)=true
 kp:pN K (.ref C)=true
end
section
variable {k:Nat} {f C:Addr} {fd:fG} {ps ks:List Str} {x m:Str} {p pos apos kpos:Pos} {e o:Expr} {es:List Expr} {kws:List Nb} {nm:Option Str}
variable {g:List Value->List Value->List Value}
end
structure eZ (N P:List Str) (sc:Scope):Prop where
 kind:sc.kind= .function
 co:sc.isCoroutine=false
 gen:sc.isGenerator=false
 nd:N.Nodup
 pre:N.take P.length=P
 par:∀ x∈P,sc.names.lookup x=some .local∨sc.names.lookup x=some .cell
 ajq:∀ y∈sc.names,y.2≠.free
theorem Mi {kindOf:Str->Option iD} {x:Str}:∀ {binds:List (Str×Value)} {m:Str->Option Value},(∀ v,(x,v)∉binds)->uJ kindOf binds m x=m x
 |[],_,_=>rfl|(n,v)::r,m,h=>by
  unfold uJ;rw[Mi fun w hw=>h w (jZ _ hw)];split
  .have:x≠n:=by rintro rfl;exact h v yM
   simp[this]
  .rfl
theorem Mj {kindOf:Str->Option iD} {x:Str}:∀ {binds:List (Str×Value)} {m:Str->Option Value},(∀ v,(x,v)∉binds)->bindC kindOf binds m x=m x
 |[],_,_=>rfl|(n,v)::r,m,h=>by
  unfold bindC;rw[Mj fun w hw=>h w (jZ _ hw)];split
  .rfl
  .have:x≠n:=by rintro rfl;exact h v yM
   simp[this]
theorem DQ {kindOf:Str->Option iD} {x:Str} {v:Value}:∀ {P:List Str} {vs:List Value} {i:Nat} {m:Str->Option Value},P.Nodup->P[i]?=some x->vs[i]?=some v->kindOf x=some .local->
  uJ kindOf (P.zip vs) m x=some v
 |[],_,_,_,_,h,_,_=>by simp at h|_::_,[],_,_,_,_,h,_=>by simp at h|p::P,w::vs,0,m,nd,h1,h2,hk=>by simp at h1 h2;subst h1;subst h2;show uJ kindOf ((p,w)::P.zip vs) m p=_;unfold uJ;rw[Mi fun v hv=>(oZ.mp nd).1 (Vp hv).1,if_pos hk];simp|p::P,w::vs,i+1,m,nd,h1,h2,hk=>by show uJ kindOf ((p,w)::P.zip vs) m x=_;unfold uJ;exact DQ (i:=i) (oZ.mp nd).2 (by simpa using h1) (by simpa using h2) hk
theorem DR {kindOf:Str->Option iD} {x:Str} {v:Value}:∀ {P:List Str} {vs:List Value} {i:Nat} {m:Str->Option Value},P.Nodup->P[i]?=some x->vs[i]?=some v->kindOf x≠some .local->
  bindC kindOf (P.zip vs) m x=some v
 |[],_,_,_,_,h,_,_=>by simp at h|_::_,[],_,_,_,_,h,_=>by simp at h|p::P,w::vs,0,m,nd,h1,h2,hk=>by simp at h1 h2;subst h1;subst h2;show bindC kindOf ((p,w)::P.zip vs) m p=_;unfold bindC;rw[Mj fun v hv=>(oZ.mp nd).1 (Vp hv).1,if_neg hk];simp|p::P,w::vs,i+1,m,nd,h1,h2,hk=>by show bindC kindOf ((p,w)::P.zip vs) m x=_;unfold bindC;exact DR (i:=i) (oZ.mp nd).2 (by simpa using h1) (by simpa using h2) hk
theorem JW {sc:Scope} {n:Nat} {x:Str} (h:sc.names.lookup x=some .cell):∃ c,(jE n sc.names []).lookup x=some c:=by have q:=adu sc.names n [] (.inl h);exact Ek.mp q
section
variable {x:Str} {p pos:Pos} {e:Expr} {es:List Expr} {id T:String}
end
end L2
namespace HT
open PySem PyProof.Rows
section
open PySem.SeqAt
open PySem.AutoSeq1 (wpAny_loadPart')
open PySem.MeetsSeq PySem.MeetsSeq2 PySem.MeetsSeq3
end
section
variable {prog:cg} {w:bA} {A:aX} {E:Value->aj->Prop} {s:aj}
def pH (n d:Nat):Option Int->Nat
 |none=>d|some v=>if v<0 then(v+(n:Int)).toNat else min v.toNat n
theorem aiy (n d:Nat) (hd:d<=n) (o:Option Int):pH n d o<=n:=by
 cases o with
 |none=>exact hd|some v=>
  show(if v<0 then(v+(n:Int)).toNat else min v.toNat n)<=n;by_cases hv:v<0
  .rw[if_pos hv];omega
  .rw[if_neg hv];exact Nat.min_le_right _ _
theorem Y5 (v:Int) (n d:Nat):(if v<0 then max (v+(n:Int)) 0 else min v (n:Int))=((pH n d (some v):Nat):Int):=by
 show(if v<0 then max (v+(n:Int)) 0 else min v (n:Int))=(((if v<0 then(v+(n:Int)).toNat else min v.toNat n):Nat):Int);by_cases hv:v<0
 .simp only[if_pos hv];omega
 .simp only[if_neg hv];omega
theorem Xr (lo hi:Option Int) (n:Nat):Wc lo hi 1 (n:Int)=(((pH n 0 lo:Nat):Int),((pH n n hi:Nat):Int)):=by
 have h1:¬((1:Int)<0):=by omega
 unfold Wc;simp only[h1,if_false];refine Nk ?_ ?_
 .cases lo with|none=>rfl|some v=>exact Y5 v n 0
 .cases hi with|none=>rfl|some v=>exact Y5 v n n
theorem Wo (i j:Nat):Pb (i:Int) (j:Int) 1=j -i:=by
 unfold Pb;have h1:(1:Int)>0:=by omega
 simp only[h1,if_true,Int.ediv_one];split<;>omega
theorem GF {v:Value} {o:Option Int} {Q:Option Int->aj->Prop} (p:lX v o) (h:Q o s):ak (aH prog w) A (aiR v) Q E s:=by
 cases p with
 |none=>exact slicePart_none h|int i t=>exact slicePart_int h
theorem qH {sl:Addr} {vl vu:Value} {lo hi:Option Int} {n:Nat} {Q:Int×Int×Nat->aj->Prop} (hs:s.heap.IsSliceOf sl vl vu .none) (pl:lX vl lo) (pu:lX vu hi)
  (h:Q (((pH n 0 lo:Nat):Int),1,pH n n hi -pH n 0 lo) s):ak (aH prog w) A (adS (.ref sl) (pure (n:Int))) Q E s:=by
 obtain⟨os,hos,hcs,hds⟩:=id hs;unfold adS aiO;refine ao (ao (dK hos hds (x:=vl) rfl (ao (dK hos hds (x:=vu) rfl (ao (dK hos hds (x:=.none) rfl (aD ?_)))))));refine ao (slicePart_none ?_);show ak _ _ (if((1:Int)==0)=true then _ else _) _ _ s;rw[if_neg (by decide)];refine ao (GF pl (ao (GF pu (ao (aD ?_)))));show ak _ _ (match Wc lo hi 1 (n:Int)with|(lo,hi)=>pure (lo,(1:Int),Pb lo hi 1)) _ _ s;rw[Xr lo hi n];show ak _ _ (pure (((pH n 0 lo:Nat):Int),(1:Int),Pb ((pH n 0 lo:Nat):Int) ((pH n n hi:Nat):Int) 1)) _ _ s;rw[Wo];exact aD h
theorem ad7 (xs:Array Value) (i k:Nat):((aN k).filterMap fun(m:Nat)=>xs[((i:Int)+(m:Int)*1).toNat]?).toArray=((xs.toList.drop i).take k).toArray:=by
 have e:(fun(m:Nat)=>xs[((i:Int)+(m:Int)*1).toNat]?)=fun m=>xs[i+m]?:=by
  funext m;have:((i:Int)+(m:Int)*1).toNat=i+m:=by omega
  rw[this]
 rw[e];have:=pick_run xs i k;rw[List.filterMap_map]at this;have e2:((fun x=>xs[x]?) ∘ fun x=>i+x)=fun m=>xs[i+m]?:=rfl;rw[e2]at this;rw[this]
theorem Bg {t sl:Addr} {items:Array Value} {vl vu:Value} {lo hi:Option Int} {Q:Value->aj->Prop} (ht:IsTup s.heap t items) (hs:s.heap.IsSliceOf sl vl vu .none) (pl:lX vl lo) (pu:lX vu hi)
  (hw:¬(pH items.size 0 lo=0/\pH items.size items.size hi=items.size))
  (h:Q (.ref s.heap.objs.size) {s with heap:=s.heap.push {cls:=.type "tuple",data:=.seq ((items.toList.drop (pH items.size 0 lo)).take (pH items.size items.size hi -pH items.size 0 lo)).toArray}})
  (hsz:items.size<=sizeLine):ak (aH prog w) A (jk (.ref t) (.ref sl)) Q E s:=by
 have YJ:sizeOk (.seq ((items.toList.drop (pH items.size 0 lo)).take (pH items.size items.size hi -pH items.size 0 lo)).toArray):=by show((items.toList.drop (pH items.size 0 lo)).take (pH items.size items.size hi -pH items.size 0 lo)).toArray.size<=sizeLine;rw[cJ,rZ,uU,VR];omega
 have hj:pH items.size items.size hi<=items.size:=aiy _ _ (aL _) hi;obtain⟨os,hos,hcs,hds⟩:=id hs;have hTs:s.TypeIs (.ref sl) "slice":=⟨os,hos,hcs⟩;unfold jk;try with_reducible refine rU ?_
 first|refine ao (aD ?_)|skip
 refine ao (VJ ht.typeIs (by decide) ?_);refine ao (tQ (name:=aC "__getitem__") ht.typeIs CT
  (qJ CT ht.typeIs acH ?_ (acD _ _)))
 show ak _ _ (adR (.ref t)>>=_) _ _ s;refine ao (abY ht ?_);refine ao (NQ hTs ?_);rw[if_pos (by decide)];refine ao (qH hs pl pu ?_);have hno:¬((((pH items.size 0 lo:Nat):Int)==0&&(1:Int)==1&&(pH items.size items.size hi -pH items.size 0 lo)==items.size)=true):=by intro q;rw[bO,bO]at q;have q1:((pH items.size 0 lo:Nat):Int)=0:=eq_of_beq q.1.1;have q2:pH items.size items.size hi -pH items.size 0 lo=items.size:=eq_of_beq q.2;exact hw ⟨by omega,by omega⟩
 show ak _ _ (if(((pH items.size 0 lo:Nat):Int)==0&&(1:Int)==1&&(pH items.size items.size hi -pH items.size 0 lo)==items.size)=true then _ else _) _ _ s;rw[if_neg hno,ad7];first
  |exact ao (m:=O9 _) (tM (aD ⟨_,rfl,aD h⟩) YJ)
  |exact ao (m:=O9 _) (tM (ao (aD (aD ⟨_,rfl,aD h⟩))) YJ)
  |exact ao (ao (m:=O9 _) (tM (aD (aD ⟨_,rfl,aD h⟩)) YJ))
  |exact ao (ao (m:=O9 _) (tM (aD ⟨_,rfl,aD h⟩) YJ))
end
end HT
namespace L2
open PySem PySem.Spec PyProof.Rows
section
variable {e:Expr} {lo hi:Option Expr} {pos p2:Pos}
end
def ixN (n:Nat) (i:Int):Option Nat:=if 0<=i then(if i<n then some i.toNat else none)else if -(n:Int)<=i then some (i+n).toNat else none
theorem ag5 {n:Nat} {i:Int} {j:Nat} (h:ixN n i=some j):Uw i n=some j/\j<n/\-(n:Int)<=i/\i<n:=by
 unfold ixN at h;by_cases h0:0<=i
 .rw[if_pos h0]at h
  by_cases h1:i<n
  .rw[if_pos h1]at h
   have e:i.toNat=j:=cH h;exact⟨by rw[U5 h0 h1,e],by omega,by omega,h1⟩
  .rw[if_neg h1]at h;cases h
 .rw[if_neg h0]at h
  by_cases h1: -(n:Int)<=i
  .rw[if_pos h1]at h
   have e:(i+n).toNat=j:=cH h;exact⟨by rw[seqIndex_neg (by omega) h1,e],by omega,h1,by omega⟩
  .rw[if_neg h1]at h;cases h
section
variable {a b:Expr} {pos:Pos}
theorem MK (lo hi:Option Int) (n:Nat):(yu lo hi none n).1=((HT.pH n 0 lo:Nat):Int)/\(yu lo hi none n).2.1=((HT.pH n n hi:Nat):Int)/\(yu lo hi none n).2.2=1:=by
 refine⟨?_,?_,rfl⟩
 .cases lo with
  |none=>simp[yu,HT.pH]|some i=>
   simp only[yu,HT.pH,acs,show(1:Int)>0 by decide,if_true];by_cases h:i<0
   .simp only[h,if_true]<;>omega
   .simp only[h,if_false]<;>omega
 .cases hi with
  |none=>simp[yu,HT.pH]|some i=>
   simp only[yu,HT.pH,acs,show(1:Int)>0 by decide,if_true];by_cases h:i<0
   .simp only[h,if_true]<;>omega
   .simp only[h,if_false]<;>omega
theorem Kg (its:List Value) (lo hi:Option Int):slicePick its.toArray lo hi none=((its.drop (HT.pH its.length 0 lo)).take (HT.pH its.length its.length hi -HT.pH its.length 0 lo)).toArray:=by obtain⟨h1,h2,h3⟩:=MK lo hi its.toArray.size;unfold slicePick;rw[h1,h2,h3];simp only[sliceRange_one,pick_run,cJ]<;>rfl
variable {o e:Expr} {es:List Expr} {name:Str} {apos cpos:Pos} {T id:String}
end
theorem W8 {α:Type} (l:List α):l.eraseIdx (l.length -1)=l.dropLast:=by
 induction l with
 |nil=>rfl|cons a r ih=>
  cases r with
  |nil=>rfl|cons b r=>
   have e:(a::b::r).length -1=((b::r).length -1)+1:=by have h1:(a::b::r).length=r.length+2:=rfl;have h2:(b::r).length=r.length+1:=rfl;omega
   rw[e,List.eraseIdx_cons_succ,ih];all_goals rfl
theorem Lx {α:Type}:∀ (l:List α) (i:Nat),(l.eraseIdx i).length<=l.length
 |[],_=>aL _|_::_,0=>yt _|_::r,i+1=>acr (Lx r i)
theorem foldl_rep (its:List Value):∀ (k:Nat) (acc:List Value),
  UL (fun x1 x2=>x1++x2) acc.toArray (aV k its.toArray)=(acc++(aV k its).flatten).toArray
 |0,acc=>by simp|k+1,acc=>by
  have e:acc.toArray++its.toArray=(acc++its).toArray:=by simp
  have e2:(acc++its)++(aV k its).flatten=acc++(aV (k+1) its).flatten:=by rw[yN,oU,fL]
  rw[<-e2,<-foldl_rep its k (acc++its),<-e,yN,lA]
section
variable {pins:List (Addr×Obj)} {s:aj} {l b:Addr}
end
theorem len_rep {α:Type} (xs:List α) (k:Nat):(aV k xs).flatten.length=k*xs.length:=by
 induction k with
 |zero=>simp|succ k ih=>rw[yN,oU,gV,ih,Nat.succ_mul,Nat.add_comm]
section
variable {prog:cg} {w:bA} {A:aX} {E:Value->aj->Prop} {s:aj}
end
end L2
namespace Att
open PySem PySem.W PySem.Calls PyProof.Rows
theorem Ft {P:Params} {h:Heap}:∀ (ns:List Int) (vs:List Value),WellAll P h vs (ns.map abu)->oV vs ns:=by
 intro ns;induction ns with
 |nil=>intro vs w;rw[bh]at w;cases w;exact .nil
 |cons n ns ih=>
  intro vs w;rw[aW]at w;cases w with
  |cons a b=>cases a;exact .cons _ _ (ih _ b)
theorem Zu {l:MP} {n:Nat} (hn:l.most=some n) {P:Params} {h:Heap} {args:List WData} {vals:List Value}
  (hpre:l.row.toRowW.claim.pre args=true) (hwl:WellAll P h vals args):
  ∃ a vs ns,vals=[jF a]/\args=[WData.list (ns.map abu)]/\h.get? a=some {cls:=.type "list",data:=.seq vs.toArray}/\oV vs ns/\ns.length<=n:=by
 have hsh:WShape.hasAll [] args [.list .int]=true:=(pre_splitW hpre).1;have hc:l.pre.holds [] {args:=args}=true:=(pre_splitW hpre).2;obtain⟨d,r,rfl,h1,h2⟩:=hasAllW_cons hsh;obtain rfl:=hasAllW_nil h2;obtain⟨xs,rfl,h3⟩:=hasW_list h1;obtain⟨ns,rfl⟩:=items_int h3;have hlen:ns.length<=n:=by
  unfold OpenLaw.pre at hc;have h4:(WTm.not (.lt (.lit (.int (n:Int))) (.len (.arg 0)))).holds [] {args:=[.list (ns.map .int)]}=true:=by have h4:=(holds_andW hc).1;rw[hn]at h4;exact h4
  have h5:=condW_of h4 (w_not (w_lt w_lit (w_len_list (w_arg rfl))));rw[aU]at h5;refine uT fun q=>?_;have q':(n:Int)<((ns.length:Nat):Int):=by omega
  first
   |(rw[decide_eq_true q']at h5;exact absurd h5 (by decide))
   |(simp at h5;omega)
 cases hwl with
 |cons w1 w2=>
  cases w2;cases w1 with
  |list ho hall=>exact⟨_,_,ns,rfl,rfl,ho,Ft ns _ hall,hlen⟩
theorem Zz (l:MP) (args:List WData):l.row.toRowW.claim.post args (.bool true) args=true:=
 postW_of (r:=l.row.toRowW) (X:=(true==true))
  (show aby [] (.bool true) .bool=true by first|rfl|decide|simp[aby,WShape.arms,WShape.armsAll])
  (show(WTm.eq .res (.lit (.bool true))).value [] {args:=args,res:=some (.bool true),after:=args}=some (.bool (true==true))from w_eq_bool (w_res rfl) w_lit) rfl
theorem Tt {l:MP} {n:Nat} {q:cg} {loose:List Str} {XP:(Str->Option Value)->Heap->Prop} {YP:bA->Heap->Prop} {d:DefRec}
  (hn:l.most=some n) (hdf:d.params.defaults=[])
  (call:∀ (w:bA) (s₀ s₁:aj) (mg mb:Str->Option Value) (fa:Addr) (o:Obj) (pm cd doc:Value) (a:Addr) (vs:List Value) (ns:List Int),
   Ground q loose [] XP w s₀ mg mb s₁.heap->YP w s₁.heap->
   s₁.heap.get? fa=some o->o.data= .func (docDef d.name d.params d.body d.scope pm cd doc)->s₁.heap.CodeRec cd d.name->mg d.name=some (.ref fa)->
   s₁.heap.get? a=some {cls:=.type "list",data:=.seq vs.toArray}->oV vs ns->ns.length<=n->s₁.gens= #[]->
   qj (aH l.prog w) callerA (.call (.ref fa) ⟨[.ref a],[]⟩) (fun r s'=>r= .ok (.ret (.bool true))/\OldK s₁.heap s'.heap/\s'.os=s₁.os/\G7 s'.gens) s₁):
  WalkO q loose XP YP l.row.toRowW d [] (fun f vs=>abx f vs):=by
 intro w s₀ s₁ mg mb G Y fa o pm cd doc dV kV ho hd hcd hD hmg hg args vals as hpre hlay hrd hwl hlo;obtain rfl:dV= .none:=Dflts.none hD hdf;obtain rfl:kV= .none:=Dflts.noKw hD;obtain⟨a,vs,ns,rfl,rfl,hobj,hints,hlen⟩:=Zu hn hpre hwl;refine enter_call (U9 (call w s₀ s₁ mg mb fa o pm cd doc a vs ns G Y ho (fd_plain hd) hcd hmg hobj hints hlen hg) fun r s' hq=>?_);obtain⟨rfl,h2,h3,h4⟩:=hq;exact⟨.inl ⟨.bool true,.bool true,[],rfl,fun _=>rfl,.bool true,Zz l _,fun _=>⟨uV,fun _ hm=>(nomatch hm)⟩⟩,h2,h3,h4⟩
section
variable {prog:cg} {w:bA} {A:aX} {E:Value->aj->Prop} {s:aj} {K:cW}
end
end Att
namespace L2
open PySem PySem.Spec PyProof.Rows
noncomputable abbrev KOf {K:cW} {h:Heap} (_:K.In h):cW:=K
def inClass (s:Stmt) (j:Nat):Stmt:=match s with| .ClassDef _ _ _ body _ _ _ _ _ _ _=>body.getD j (.Pass ⟨0,0,0,0⟩)|_=>.Pass ⟨0,0,0,0⟩
def gB (s:Stmt):Arguments:=match s with| .FunctionDef _ a _ _ _ _ _ _ _ _=>a|_=>{posonlyargs:=[],args:=[],vararg:=none,kwonlyargs:=[],kw_defaults:=[],kwarg:=none,defaults:=[]}
def bZ (s:Stmt):List Stmt:=match s with| .FunctionDef _ _ b _ _ _ _ _ _ _=>b|_=>[]
def aK (s:Stmt):Scope:=match s with| .FunctionDef _ _ _ _ _ _ sc _ _ _=>sc|_=>{kind:=.function,names:=[],isGenerator:=false,isCoroutine:=false}
structure Xw (K:cW) (x qual:Str) (st:Stmt) (f:Addr) (fd:fG):Prop where
 ex:∃ (oc:Value) (od:Option Addr) (kV doc pm:Value) (an:Option Addr) (cdv ct:Value) (osl:Array (Option Value)),
  fd=jH x qual (gB st) (bZ st) (aK st) .none kV doc pm an cdv ct/\K.lookup f=some ⟨oc,od,.func fd,osl⟩/\Hy K cdv qual=true
 kp:pN K (.ref f)=true
section
variable {P:cg} {w:bA} {K:cW} {mg:Str->Option Value} {base:Heap}
theorem W5 {x qual:Str} {st:Stmt} {f:Addr} {oc:Value} {od an:Option Addr} {osl:Array (Option Value)} {kV doc pm cdv ct:Value} (l:K.lookup f=some ⟨oc,od,.func (jH x qual (gB st) (bZ st) (aK st) .none kV doc pm an cdv ct),osl⟩)
  (c:Hy K cdv qual=true) (k:pN K (.ref f)=true):Xw K x qual st f (jH x qual (gB st) (bZ st) (aK st) .none kV doc pm an cdv ct):=⟨⟨oc,od,kV,doc,pm,an,cdv,ct,osl,rfl,l,c⟩,k⟩
end
section
variable {κ:Type} [DecidableEq κ]
end
section
variable {P:cg} {w:bA} {h:Heap} {a:Addr}
end
section
variable {pins:List (Addr×Obj)} {s:aj} {a:Addr} {u r:Value} {A:aX} {E:Value->aj->Prop}
end
section
variable {pins:List (Addr×Obj)} {s:aj} {a:Addr} {k:Key} {u:Value} {A:aX} {E:Value->aj->Prop}
end
def am5 (i:Expr):Prop:=∀ ov iv,Nz i false ov iv=operate [ov,iv] (jk ov iv)
theorem X3 {prog:cg} {w:bA} {A:aX} {E:Value->aj->Prop} {s:aj} {env:Env} {value slice:Expr} {pos:Pos} {T id:String} {Q:Value->aj->Prop}
  (hl:Nu (.type T) "__getitem__"=pure (some (.builtin id))) (hs:am5 slice)
  (h:ak (aH prog w) A (eval value env) (fun o s₁=>ak (aH prog w) A (eval slice env) (fun i s₂=>s₂.TypeIs o T/\ak (aH prog w) A (jk o i) Q E s₂) E s₁) E s):
  ak (aH prog w) A (eval (.Subscript value slice pos) env) Q E s:=by
 refine UJ (oX h (fun o s₁ h₁=>oX h₁ (fun i s₂ h₂=>?_) fun _ _ x=>x) fun _ _ x=>x);obtain⟨hT,h₂⟩:=h₂;unfold subscriptTail;refine ao ?_;rw[getitemInPython_of_ne hT.not_modules];refine ao (ab7 hT hl ?_);have fin:ak (aH prog w) A (Nz slice false o i) (fun r s₃=>ak (aH prog w) A (letTemporaryGo value o r>>=fun _=>pure r) Q E s₃) E s₂:=by rw[hs o i];exact wpAny_operating (oX h₂ (fun r s₃ h₃=>ao (wpAny_letTemporaryGo (aD h₃))) fun _ _ x=>x)
 first
  |exact aD (ao fin)
  |exact ao (aD (ao fin))
  |exact ao fin
section
variable {o i e value:Expr} {pos pos' tpos:Pos}
end
section
variable {pos:Pos}
end
section
variable {pins:List (Addr×Obj)} {s:aj} {a:Addr} {u r:Value} {A:aX} {E:Value->aj->Prop}
end
section
variable {o e f:Expr} {apos cpos:Pos}
end
section
variable {pins:List (Addr×Obj)} {s:aj} {a:Addr} {A:aX} {E:Value->aj->Prop}
end
section
variable {pins:List (Addr×Obj)} {s:aj} {a:Addr} {u:Value} {A:aX} {E:Value->aj->Prop}
end
end L2
namespace DW
open PySem PySem.Spec PyProof.Rows PyProof.Rows.KTD L2
def Bk (K:cW) (a:Addr):List (Str×Addr):=match K.lookup a with
 |some o=>(match o.data with
  | .dict es _=>es.toList.filterMap fun e=>(match e.key with| .str x _=>(match e.val with| .ref f=>some (x,f)|_=>none)|_=>none)
  |_=>[])
 |none=>[]
def ams (f:Addr) (v:Value):Bool:=v== .ref f
def Tf (K:cW) (a:Addr):Bool:=tabLook ams (fun b=>K.lookup b) a (Bk K a)&&(Bk K a).all fun p=>pN K (.ref p.2)
section
variable {prog:cg} {w:bA} {A:aX} {E:Value->aj->Prop} {s:aj} {K:cW} {a:Addr} {k:Str} {tk:Tok}
theorem Gd (h:Tf K a=true) (X:K.In s.heap):TabOf (fun f v=>v=jF f) s.heap a (Bk K a):=
 tab_of_look (fun f v e=>eq_of_beq e) X (V5.mp h).1
theorem afi (h:Tf K a=true) (hf:rM k (Bk K a)=some f):pN K (.ref f)=true:=by
 have h2:=Oh.mp (V5.mp h).2;have:∀ {D:List (Str×Addr)},rM k D=some f->∃ p∈D,p.2=f:=by
  intro D;induction D with
  |nil=>intro e;cases e
  |cons p D ih=>
   intro e;by_cases hx:k=p.1
   .simp[rM,hx]at e;exact⟨p,by simp,e⟩
   .simp[rM,hx]at e
    obtain⟨q,hq,e⟩:=ih e;exact⟨q,by simp[hq],e⟩
 obtain⟨p,hp,rfl⟩:=this hf;exact h2 p hp
theorem Gx (T:TabOf R s.heap a D):s.TypeIs (.ref a) "dict":=by obtain⟨_,o,_,_,ho,hc,_⟩:=T;exact⟨o,ho,hc.1⟩
theorem XR (T:TabOf R s.heap a D) (h1:∀ d v,rM k D=some d->R d v->Q (some v) {s with toks:=s.toks+1})
  (h2:rM k D=none->Q none {s with toks:=s.toks+1}):ak (aH prog w) A (M9 a (.str k tk)) Q E s:=by
 obtain⟨_,o,⟨l⟩,ep,ho,hc,hd,hr⟩:=T;unfold M9;refine rU (ao (acv (ao (kt_dictFind_strs (s:={s with toks:=s.toks+1}) ho hd (by simpa using hr.exact) ?_))));have hq:Q (findBy (fun k v=>v.isStr k) ⟨l⟩ k) {s with toks:=s.toks+1}:=by
  rw[show findBy (fun k v=>v.isStr k) ⟨l⟩ k=(l.find? fun e=>e.key.isStr k).map (·.val) by simp[findBy]]
  cases e:rM k D with
  |some d=>obtain⟨v,hv,hf⟩:=hr.find_some e;rw[hv];exact h1 d v e hf|none=>rw[hr.find_none e];exact h2 e
 rw[findBy_of_findIdx?]at hq;cases hi:(⟨l⟩:Array Uv).findIdx? fun e=>e.key.isStr k with
 |none=>rw[hi]at hq;exact aD hq|some i=>rw[hi]at hq;exact ao (acF (s:={s with toks:=s.toks+1}) ho hd (aD hq))
theorem aa8 (T:TabOf R s.heap a D) (hd:rM k D=some d) (h:∀ v,R d v->Q v {s with toks:=s.toks+1}):
  ak (aH prog w) A (jk (.ref a) (.str k tk)) Q E s:=by
 have hT:=Gx T;unfold jk;refine rU (ao (VJ hT (by decide) (ao (tQ (name:=aC "__getitem__") hT Oa (qJ Oa hT entry_dict_getitem ?_ (args_dict_getitem _ _))))));show ak _ _ (M9 a (.str k tk)>>=_) _ _ s;refine ao (XR T (fun d' v e hv=>aD ⟨v,rfl,aD ?_⟩) fun hn=>absurd (hd.symm.trans hn) (by simp));rw[hd]at e;cases e;exact h v hv
theorem aa9 (T:TabOf R s.heap a D) (h:Q (.bool (inKeys k D)) {s with toks:=s.toks+1}):
  ak (aH prog w) A (j7 .In (.str k tk) (.ref a)) Q E s:=by
 have hT:=Gx T;show ak _ _ (do return .bool (<-contains (.ref a) (.str k tk))) Q E s;unfold contains;refine ao (rU (ao (ab7 hT V4.lookup ?_)));show ak _ _ (if(some (Value.builtin "dict.__contains__")==some iB)=true then _ else _) _ E s;rw[if_neg (by rw[beq_builtin_none];exact dM)];refine ao (wpAny_callSpecialUnlessNone?_slot (name:=aC "__contains__") hT V4 (qJ V4 hT entry_dict_contains ?_ (args_dict_contains _ _)));show ak _ _ (M9 a (.str k tk)>>=_) _ _ s;refine ao (XR T (fun d v e _=>?_) fun hn=>?_)
 .rw[show inKeys k D=true by rw[<-UW,e];rfl]at h
  exact aD ⟨_,rfl,pQ (aD h)⟩
 .rw[show inKeys k D=false by rw[<-UW,hn];rfl]at h
  show ak _ _ (aiM a (.str k tk)>>=_) _ _ _;exact ao (wpAny_pendingKey_other T.1 (aD ⟨_,rfl,pQ (aD h)⟩))
end
theorem tu:∀ {D:List (Str×Addr)},inKeys k D=(D.map fun p=>p.1.cps.toList).contains k.cps.toList
 |[]=>rfl|p::D=>by
  show(decide (k=p.1)||inKeys k D)=_;rw[tu,aW,List.contains_cons];congr 1;by_cases h:k=p.1
  .subst h;simp
  .have:¬k.cps.toList=p.1.cps.toList:=fun e=>h (by obtain⟨⟨a⟩⟩:=k;obtain⟨⟨b⟩,d⟩:=p;simp at e;subst e;rfl)
   simp[h];exact fun e=>this (by rw[e])
section
variable {X:Cx} {x:Str} {a:Addr} {i:Expr} {p pos:Pos} {ti:TE}
end
end DW
namespace DW
open PySem PySem.Spec PyProof.Rows L2
def TrX (B:Heap) (e:Addr) (ob:Obj) (vs:Array Value) (fl:Value) (h:Heap):Prop:=
 ∃ T oT ts,h.get? e=some {ob with data:=.fields (vs.setIfInBounds 1 (.ref T))}/\B.get? T=none/\T≠e/\h.get? T=some oT/\oT.data= .fields ts/\ts[3]?=some fl
structure Fy (B:Heap) (l:List Env) (e:Addr) (ob:Obj) (vs:Array Value) (fl:Value) (h:Heap):Prop where
 stay:B.StaysIn h
 new:B.get? e=none
 W6:h.FunFrames B l
 tr:TrX B e ob vs fl h
 two:2<vs.size
theorem Cd {h:Heap} {b e:Addr} {o oe:Obj} {vs:Array Value} (hb:h.get? b=some o) (hn:∀ vs,o.data≠.fields vs) (he:h.get? e=some oe) (hd:oe.data= .fields vs):b≠e:=fun z=>by subst z;rw[hb]at he;cases he;exact hn vs hd
theorem Wq {B:Heap} {b e:Addr} {o:Obj} (hb:B.get? b=some o) (he:B.get? e=none):b≠e:=fun z=>by subst z;rw[hb]at he;cases he
section
variable {M:Model} {A:aX} {E:Value->aj->Prop} {s:aj} {B:Heap} {env:Env} {outer:List Env} {L e:Addr} {ob:Obj} {ws vs:Array Value} {Q:Unit->aj->Prop}
theorem jz {h:Heap} {a:Addr} {f:Obj->Obj}:∀ b,b≠a->(h.update a f).get? b=h.get? b:=fun b hb=>wW _ _ (bN hb)
theorem Y0 {hd:Value} {hn:Bool} (fr:A.frames=some (env::outer)) (F:s.heap.FunFrames B (env::outer)) (hf:env.frame=some L) (he:s.heap.get? e=some {ob with data:=.fields ws}) (st:B.StaysIn s.heap) (new:B.get? e=none)
  (z:2<ws.size) (k:∀ h',Fy B (env::outer) e ob ws (fO L) h'->s.heap.UpToSlots h'->Q () {s with heap:=h' }):
  ak M A (do let a<-frameOf env;let pl<-entryPlaceOf L hn;let b<-ac0 hd a .none (fO L) .none pl;setField (.ref e) 1 b) Q E s:=by
 have eo:e∉(env::outer).filterMap (·.frame):=fun m=>let⟨_,o,ho,nf⟩:=F.mem m;by rw[he]at ho;cases ho;exact nf ws rfl
 refine ao (wpAny_frameOf_fun fr F hf fun g1 sl1=>ao (wpAny_entryPlaceOf fun pl ip=>?_));unfold ac0 newFields;refine ao (tM ?_ (ip.sizeOk5 _ _ _ _ _));have e1:g1.get? e=some {ob with data:=.fields ws}:=by rw[sl1.2.1 e eo];exact he
 have st1:B.StaysIn g1:=fun b o q=>by rw[sl1.2.1 b fun m=>(by rw[(F.mem m).1]at q;cases q)];exact st b o q
 generalize hN:({cls:=.type "traceback",dict:=none,data:=.fields ([hd,.ref L,.none,fO L,.none]++(if pl.isEmpty then aV 6 iB else pl)).toArray}:Obj)=N;have dN:N.data= .fields ([hd,.ref L,.none,fO L,.none]++(if pl.isEmpty then aV 6 iB else pl)).toArray:=by rw[<-hN]
 have nN:N.isFreed=false:=by rw[<-hN];rfl
 have lt:=dw e1;have Te:g1.objs.size≠e:=j8 lt;refine Hx (bV (h:=g1) N e1) rfl (by omega) (k _ ⟨?_,new,?_,?_,z⟩ ?_)
 .intro b o q
  rw[jz b (Wq q new)];exact bV _ (st1 b o q)
 .refine F.of_keeps fun b o hb nf=>?_
  obtain⟨sl,q⟩:=sl1.2.2 b o hb;exact⟨{o with slots:=sl},by rw[jz b (Cd hb nf he rfl)];exact bV _ q,rfl⟩
 .refine⟨g1.objs.size,N,_,CN _ (bV (h:=g1) N e1) rfl,st1.fresh,Te,?_,dN,?_⟩
  .rw[jz _ Te];exact dW g1 nN
  .rcases ip with rfl|⟨_,_,_,_,_,_,_,rfl⟩<;>simp
 .intro b o hb nf
  obtain⟨sl,q⟩:=sl1.2.2 b o hb;exact⟨sl,by rw[jz b (Cd hb nf he rfl)];exact bV _ q⟩
theorem abj (z:2<ws.size):(ws.setIfInBounds 1 x)[1]?=some x:=by rw[Array.getElem?_setIfInBounds];simp;omega
theorem set_same:(ws.setIfInBounds 1 x).setIfInBounds 1 y=ws.setIfInBounds 1 y:=by simp
theorem ajp (fr:A.frames=some (env::outer)) (F:s.heap.FunFrames B (env::outer)) (hf:env.frame=some L) (he:s.heap.get? e=some {ob with data:=.fields ws}) (st:B.StaysIn s.heap) (new:B.get? e=none) (z:2<ws.size)
  (h1:ws[1]?=some .none∨∃ T oT ts,ws[1]?=some (.ref T)/\B.get? T=none/\T≠e/\s.heap.get? T=some oT/\oT.data= .fields ts/\ts[3]?=some .none)
  (k:∀ h',Fy B (env::outer) e ob ws (fO L) h'->s.heap.UpToSlots h'->Q () {s with heap:=h' }):ak M A (noteFrame (.ref e) env) Q E s:=by
 unfold noteFrame;simp only[hf];rcases h1 with h1|⟨T,oT,ts,h1,nT,ne,hT,dT,h3⟩
 .refine ao (dK he rfl h1 ?_)
  rw[if_neg (by decide)];exact Y0 fr F hf he st new z k
 .refine ao (dK he rfl h1 ?_)
  rw[if_pos (by simp:(jF T !=iB)=true)];refine ao (dK hT dT h3 ?_);rw[if_neg (by simp[fO]:¬(iB==fO L)=true)];refine ao (Hx hT dT (adQ.mp h3).1 ?_);refine Y0 (s:={s with heap:=s.heap.update T _}) fr (F.of_keeps fun b o hb nf=>⟨o,by rw[jz b (Cd hb nf hT dT)];exact hb,rfl⟩) hf (by rw[jz e (bN ne)];exact he) (fun b o q=>by rw[jz b (Wq q nT)];exact st b o q) new z fun h' x u=>k h' x ?_;intro b o hb nf;exact u b o (by rw[jz b (Cd hb nf hT dT)];exact hb) nf
theorem ajF {l:List Env} {fl:Value} (x:Fy B l e ob vs fl s.heap) (k:∀ h',Fy B l e ob vs .none h'->s.heap.UpToSlots h'->Q () {s with heap:=h' }):ak M A (setFlight (.ref e) none) Q E s:=by obtain⟨st,new,F,⟨T,oT,ts,he,nT,ne,hT,dT,h3⟩,z⟩:=x;unfold setFlight;have z3:=(adQ.mp h3).1;refine ao (dK he rfl (x:=.ref T) (abj z) ?_);rw[if_pos (by simp:(jF T !=iB)=true)];obtain⟨c,d,dt,sl⟩:=oT;cases dT;refine Hx hT rfl z3 (k _ ⟨fun b o q=>by rw[jz b (Wq q nT)];exact st b o q,new,F.of_keeps fun b o hb nf=>⟨o,by rw[jz b (Cd hb nf hT rfl)];exact hb,rfl⟩,⟨T,_,_,by rw[jz e (bN ne)];exact he,nT,ne,CN _ hT rfl,rfl,by simp[z3]⟩,z⟩ fun b o hb nf=>⟨o.slots,by rw[jz b (Cd hb nf hT rfl)];exact hb⟩)
theorem Yw (fr:A.frames=some (env::outer)) (F:s.heap.FunFrames B (env::outer)) (hf:env.frame=some L) (he:s.heap.get? e=some {ob with data:=.fields ws}) (st:B.StaysIn s.heap) (new:B.get? e=none) (z:2<ws.size)
  (h1:ws[1]?=some .none∨∃ T oT ts,ws[1]?=some (.ref T)/\B.get? T=none/\T≠e/\s.heap.get? T=some oT/\oT.data= .fields ts/\ts[3]?=some .none)
  (k:∀ h',Fy B outer e ob ws .none h'->s.heap.UpToSlots h'->Q () {s with heap:=h' }):ak M A (G6 env (.ref e)) Q E s:=by
 unfold G6;refine ao (ajp fr F hf he st new z h1 fun h' x u=>ajF (s:={s with heap:=h' }) x fun h2 y v=>k h2 ⟨y.stay,y.new,?_,y.tr,y.two⟩ (u.trans v));obtain⟨_,_,q⟩:=y.W6;exact q
theorem TrX.re (y:TrX B e ob (vs.setIfInBounds 1 x) fl h):TrX B e ob vs fl h:=by obtain⟨T,oT,ts,he,r⟩:=y;rw[set_same]at he;exact⟨T,oT,ts,he,r⟩
theorem Fy.re (y:Fy B l e ob (vs.setIfInBounds 1 x) fl h):Fy B l e ob vs fl h:=⟨y.stay,y.new,y.W6,y.tr.re,by have:=y.two;simpa using this⟩
theorem aeH (fr:A.frames=some (env::outer)) (hf:env.frame=some L) (x:Fy B (env::outer) e ob vs .none s.heap) (k:∀ h',Fy B outer e ob vs .none h'->s.heap.UpToSlots h'->Q () {s with heap:=h' }):
  ak M A (G6 env (.ref e)) Q E s:=by
 obtain⟨T,oT,ts,he,r⟩:=x.tr;have z:=x.two;exact Yw fr x.W6 hf he x.stay x.new (by simpa using z) (.inr ⟨T,oT,ts,abj z,r⟩) fun h' y u=>k h' y.re u
end
structure ahE (B:Heap) (l:List Env) (e:Addr) (ob:Obj) (vs:Array Value) (h:Heap):Prop where
 stay:B.StaysIn h
 new:B.get? e=none
 W6:h.FunFrames B l
 two:2<vs.size
 at_:(h.get? e=some {ob with data:=.fields vs}/\vs[1]?=some .none)∨TrX B e ob vs .none h
theorem Fy.z {B:Heap} {l:List Env} {e:Addr} {ob:Obj} {vs:Array Value} {h:Heap} (x:Fy B l e ob vs .none h):ahE B l e ob vs h:=⟨x.stay,x.new,x.W6,x.two,.inr x.tr⟩
section
variable {M:Model} {A:aX} {E:Value->aj->Prop} {s:aj} {B:Heap} {env:Env} {outer:List Env} {L e:Addr} {ob:Obj} {ws vs:Array Value} {Q:Unit->aj->Prop}
theorem agW (fr:A.frames=some (env::outer)) (hf:env.frame=some L) (x:ahE B (env::outer) e ob vs s.heap) (k:∀ h',ahE B outer e ob vs h'->s.heap.UpToSlots h'->Q () {s with heap:=h' }):
  ak M A (G6 env (.ref e)) Q E s:=by
 rcases x.at_ with⟨he,h1⟩|t
 .exact Yw fr x.W6 hf he x.stay x.new x.two (.inl h1) fun h' y u=>k h' y.z u
 .exact aeH fr hf ⟨x.stay,x.new,x.W6,t,x.two⟩ fun h' y u=>k h' y.z u
end
end DW
namespace DW
open PySem PySem.StrLaws PySem.Builtin PySem.Builtin.Str
def fZ (c:Nat):List Nat->List (List Nat)
 |[]=>[[]]|x::xs=>if x=c then []::fZ c xs else match fZ c xs with|p::ps=>(x::p)::ps|[]=>[[x]]
def amu (c:Nat) (x:List Nat):List Nat:=x.takeWhile (·!=c)
def postC (c:Nat) (x:List Nat):List Nat:=(x.dropWhile (·!=c)).drop 1
def ahR (sep:List Nat):List (List Nat)->List Nat
 |[]=>[]|[x]=>x|x::y::r=>x++sep++ahR sep (y::r)
def QV (x:List Nat) (c:Nat) (l:List Nat):List Nat:=l.filter fun i=>x[i]?==some c
theorem Ii (x:Str) (c limit:Nat):∀ (l:List Nat) (st:Array Nat×Nat),l.Pairwise (·<·)->(∀ i∈l,st.2<=i)->st.1.size+l.length<=limit->
  (forIn l st (occBody x ⟨#[c]⟩ x.length limit)).run.fst.toList=st.1.toList++QV x.cps.toList c l
 |[],st,_,_,_=>by simp[QV]|a::l,st,hp,hf,hl=>by
  rw[yG];unfold occBody;simp only[pR]at hp;have h1:=subAt_one x c a;by_cases hc:x.cps.toList[a]?=some c
  .have h2:=h1.mpr hc
   have c1:((st.fst.size<limit/\st.snd<=a)/\a+(⟨#[c]⟩:Str).length<=x.length)/\subAt x ⟨#[c]⟩ a=true:=⟨⟨⟨by simp at hl;omega,hf a (by simp)⟩,h2.1⟩,h2.2⟩;rw[if_pos c1];have ih:=Ii x c limit l (st.fst.push a,a+(⟨#[c]⟩:Str).length) hp.2 (fun i hi=>by have:=hp.1 i hi;show a+1<=i;omega) (by simp at hl ⊢;omega);refine ih.trans ?_;(have hb:(x.cps.toList[a]?==some c)=true:=by rw[hc];simp);unfold QV;rw[HF,if_pos hb];simp only[Array.toList_push,fL,bG,aZ]
  .have c2:¬(((st.fst.size<limit/\st.snd<=a)/\a+(⟨#[c]⟩:Str).length<=x.length)/\subAt x ⟨#[c]⟩ a=true):=fun h=>hc (h1.mp ⟨h.1.2,h.2⟩)
   rw[if_neg c2];have ih:=Ii x c limit l (st.fst,st.snd) hp.2 (fun i hi=>hf i (by simp[hi])) (by simp at hl ⊢;omega);refine ih.trans ?_;have hb:¬(x.cps.toList[a]?==some c)=true:=fun z=>hc (by simpa only[beq_iff_eq]using z);unfold QV;rw[HF,if_neg hb]
theorem Yi (x:Str) (c:Nat):Hp x ⟨#[c]⟩ 0 x.length (x.length+1)=QV x.cps.toList c (gG 0 (x.length+1)):=by rw[occ_eq];have:=Ii x c (x.length+1) (gG 0 (x.length+1 -0)) (#[],0) (List.pairwise_lt_range' (s:=0) (n:=x.length+1 -0)) (fun _ _=>iH _) (by simp);rw[this];simp
theorem xQ (x:Str) (i j:Nat):(strSub x i j).cps.toList=(x.cps.toList.drop i).take (j -i):=strSub_toList x i j
def TV (s:Str):List Nat:=s.cps.toList
theorem Em (x:Str) (c:Nat):∀ (n a:Nat),a+n=x.cps.toList.length->(Hg x 1 a (QV x.cps.toList c (gG a (n+1)))).map TV=fZ c (x.cps.toList.drop a)
 |0,a,h=>by
  have hd:x.cps.toList.drop a=[]:=CQ (by omega);have hn:x.cps.toList[a]?=none:=gW (by omega);have e:QV x.cps.toList c (gG a (0+1))=[]:=by unfold QV;rw[lC,HF,hn];rfl
  rw[e,hd];simp only[Hg,aW,bh,TV,xQ,hd,fZ];simp
 |n+1,a,h=>by
  have ha:a<x.cps.toList.length:=by omega
  have hdr:x.cps.toList.drop a=x.cps.toList[a]::x.cps.toList.drop (a+1):=zQ ha;have ih:=Em x c n (a+1) (by omega);have hg:x.cps.toList[a]?=some x.cps.toList[a]:=bI ha;rw[lC];by_cases hc:x.cps.toList[a]=c
  .have e:QV x.cps.toList c (a::gG (a+1) (n+1))=a::QV x.cps.toList c (gG (a+1) (n+1)):=by unfold QV;rw[HF,hg,hc];simp
   rw[e,hdr];simp only[Hg,aW,ih,fZ,hc,if_true,TV,xQ];simp
  .have e:QV x.cps.toList c (a::gG (a+1) (n+1))=QV x.cps.toList c (gG (a+1) (n+1)):=by unfold QV;rw[HF,hg,if_neg (by simpa only[beq_iff_eq,nH]using hc)]
   rw[e,hdr];simp only[fZ,hc,if_false];have hin:∀ k∈QV x.cps.toList c (gG (a+1) (n+1)),a+1<=k:=fun k hk=>by have:=(yF.mp hk).1;simp[ab6]at this;omega
   generalize QV x.cps.toList c (gG (a+1) (n+1))=cuts at ih hin;have key:∀ j:Nat,a+1<=j->TV (strSub x a j)=x.cps.toList[a]::TV (strSub x (a+1) j):=fun j hj=>by simp only[TV,xQ,hdr];rw[show j -a=(j -(a+1))+1 by omega,acZ]
   (have hl:x.length=x.cps.toList.length:=by simp[fP]);cases cuts with
   |nil=>simp only[Hg,aW,bh]at ih ⊢;rw[<-ih,key _ (by omega)]|cons k r=>simp only[Hg,aW]at ih ⊢;rw[<-ih,key _ (hin k (by simp))]
theorem Rm (x:Str) (c:Nat):(partsBetween x (Hp x ⟨#[c]⟩ 0 x.length (x.length+1)) (⟨#[c]⟩:Str).length).map TV=fZ c (TV x):=by rw[partsBetween_eq,Yi];have:=Em x c x.length 0 (by simp[fP]);simpa[fP,TV]using this
theorem K1:∀ {x:List Nat},c∉x->fZ c x=[x]
 |[],_=>rfl|a::x,h=>by simp only[aO,not_or]at h;unfold fZ;rw[if_neg (bN h.1),K1 h.2]
theorem GD (c:Nat):∀ x:List Nat,(fZ c x).length<=x.length+1
 |[]=>by simp[fZ]|a::x=>by
  have:=GD c x;unfold fZ;split
  .simp;omega
  .cases q:fZ c x with|nil=>simp|cons p ps=>rw[q]at this;simp at this ⊢;omega
end DW
namespace DW
open PySem
noncomputable abbrev nF:=Sum Int (List Nat)
inductive D where
 |non|bl (b:Bool)|int (i:Int)|str (x:List Nat)
 |tup (ds:List D)|lst (ds:List D)|ro (ds:List D)|loc (n:Nat)|vV (ks:List nF) (ds:List D)
inductive Cell where
 |lst (ds:List D)|ins (c:String) (fs:List (String×D))|vV (ks:List nF) (ds:List D)|Jz (ks:List (List nF)) (ds:List D)|exc (c:String) (ks:List String) (ds:List D)|gone|tbl
noncomputable abbrev Mem:=List Cell
noncomputable abbrev dJ:=List (Option D)
noncomputable abbrev QD:=D->Mem->Prop
noncomputable abbrev dZ:=List D->Mem->QD->Prop
noncomputable abbrev QX:=String->List String->List D->Mem->Prop
noncomputable abbrev zx:=List D->Mem->QD->QX->Prop
set_option genInjectivity false
mutual
inductive E where
 |var (i:Nat)|cst (d:D)|gbl (x:Str) (d:D)
 |bin (op:jl) (a b:E)|neg (a:E)|not (a:E)
 |cmp (op:ji) (a b:E)|KN (neg:Bool) (a b:E)|chain (p q:ji) (a b c:E)
 |and (a b:E)|or (a b:E)|ife (c a b:E)
 |call (x:Str) (sp:dZ) (as:Es)|blt (x:String) (as:Es)
 |isin (a:E) (t:String) (ks:Option (List (List Nat)):=none)|Jf (a:E)|ZW (a:E)
 |meth (m:String) (o:E) (as:Es)|sqm (m:String) (o:E) (as:Es)|tix (o:E) (as:Es)|rmv (o:E) (as:Es)|aad (as:Es)
 |idx (a b:E)|slc (m:Bool) (a:E) (lo hi:Es)
 |tup (as:Es)|lst (m:Bool) (as:Es)
 |comp (m:Bool) (tg:Nat) (tt:Bool) (cap:List Nat) (elt:E) (it:It) (cond:Es)
 |frz (a:E)
 |aal (t:Bool)|aan (o i:E)
 |cat (m:Bool) (a b:E)|rep (m:Bool) (a b:E)
 |fld (c f:String) (o:E)|pA (c m:String) (sp:dZ) (o:E) (as:Es)|mk (c:String) (sp:dZ) (as:Es)
inductive Es where
 |nil|cons (e:E) (es:Es)
inductive It where
 |seq (e:E)|rng (as:Es)|zip (a b:E)|enum (a:E)|rvd (a:E)
end
set_option genInjectivity true
inductive XC where
 |dsp (x:Str) (ks:List (List Nat)) (sp:zx) (i:E) (as:Es)
set_option genInjectivity false
mutual
inductive S where
 |set (i:Nat) (e:E)|Ul (is:List Nat) (e:E)
 |dput (o i e:E)|Fd (op:jl) (o i e:E)|wR (o i e:E)|aug (i:Nat) (op:jl) (e:E)
 |exp (e:E)|ret (e:E)
 |ite (c:E) (a b:Ss)|for_ (tg:List Nat) (tt:Bool) (it:It) (b:Ss)|whl (c:E) (b:Ss)
 |wg (c f:String) (o e:E)|Xo (c f:String) (op:jl) (o e:E)|Yk
 |abp (c:XC)
inductive Ss where
 |nil|cons (s:S) (r:Ss)
end
set_option genInjectivity true
def b2i (b:Bool):Int:=if b then 1 else 0
mutual
noncomputable def flat:Nat->D->Bool
 |_,.non=>true|_,.bl _=>true|_,.int _=>true|_,.str x=>x.all (·<1114112)|n+1,.tup ds=>flats n ds|n+1,.lst ds=>flats n ds|_,_=>false
noncomputable def flats:Nat->List D->Bool
 |_,[]=>true|n,d::ds=>flat n d&&flats n ds
end
mutual
noncomputable def kO:D->D->Bool
 | .non,e=>match e with| .non=>true|_=>false
 | .bl a,e=>match e with| .bl b=>a==b| .int j=>b2i a==j|_=>false
 | .int i,e=>match e with| .int j=>i==j| .bl b=>i==b2i b|_=>false
 | .str x,e=>match e with| .str y=>x==y|_=>false
 | .tup ds,e=>match e with| .tup es=>Jx ds es|_=>false
 | .lst ds,e=>match e with| .lst es=>Jx ds es|_=>false
 | .ro ds,_=>false| .loc _,_=>false| .vV ks ds,e=>match e with| .vV ls es=>decide (ks=ls)&&Jx ds es|_=>false
noncomputable def Jx:List D->List D->Bool
 |[],es=>es.isEmpty|d::ds,es=>match es with|[]=>false|e::es=>kO d e&&Jx ds es
end
def ig:List Nat->List Nat->Bool
 |_,[]=>false|[],_::_=>true|x::xs,y::ys=>if x=y then ig xs ys else decide (x<y)
def sc2:D->Bool
 | .int _=>true| .str _=>true|_=>false
mutual
noncomputable def Et:D->D->Option Bool
 | .int i,e=>match e with| .int j=>some (decide (i<j))|_=>none
 | .str x,e=>match e with| .str y=>some (ig x y)|_=>none
 | .tup ds,e=>match e with| .tup es=>if(ds.all sc2&&es.all sc2)=true then wu ds es else none|_=>none
 |_,_=>none
noncomputable def wu:List D->List D->Option Bool
 |[],es=>some (!es.isEmpty)|d::ds,es=>match es with|[]=>some false|e::es=>if kO d e then wu ds es else Et d e
end
noncomputable abbrev Itm:=Int×List Nat
def bH (x:Itm):D:=.tup [.int x.1,.str x.2]
def lG (x y:Itm):Bool:=if x.1=y.1 then ig x.2 y.2 else decide (x.1<y.1)
noncomputable abbrev bQ (l:List Itm):Prop:=l.Pairwise fun a b=>lG b a=false
def au (μ:Mem):D->Option (List D)
 | .lst ds=>some ds| .tup ds=>some ds| .ro ds=>some ds| .loc n=>match μ[n]? with|some (.lst ds)=>some ds|_=>none
 |_=>none
def chars (x:List Nat):List D:=x.map fun c=>D.str [c]
def lenOf (μ:Mem):D->Option Nat
 | .str x=>some x.length|d=>(au μ d).map (·.length)
def bU (μ:Mem):D->Option (List D)
 | .tup _=>none|d=>au μ d
def truth (μ:Mem):D->Option Bool
 | .non=>some false| .bl b=>some b| .int i=>some (i !=0)| .vV ks _=>some (ks.length !=0)|d=>(lenOf μ d).map (·!=0)
def tZ (have_ want:String):Bool:=have_==want||(have_=="bool"&&want=="int")
def tyOf (μ:Mem):D->Option String
 | .non=>some "NoneType"| .bl _=>some "bool"| .int _=>some "int"| .str _=>some "str"| .tup _=>some "tuple"| .lst _=>some "list"| .vV _ _=>some "dict"| .ro _=>none| .loc n=>match μ[n]? with|some (.lst _)=>some "list"|some (.vV _ _)=>some "dict"|some (.Jz _ _)=>some "dict"|_=>none
def wH (t:String) (d:D) (μ:Mem) (Q:QD):Prop:=match tyOf μ d with|some h=>Q (.bl (tZ h t)) μ|none=>False
def Zc (ks:List (List Nat)) (d:D) (μ:Mem) (Q:QD):Prop:=match d with| .str t=>Q (.bl (ks.contains t)) μ|_=>False
def isKey (ks:List (List Nat)) (d:D):Prop:=match d with| .str t=>ks.contains t=true|_=>False
def Gi (d:D) (μ:Mem) (Q:QD):Prop:=match tyOf μ d with|some h=>Q (.bl (tZ h "list"||tZ h "tuple")) μ|none=>False
def Kh (a b c:Int):Int:=if c>0 then(if a<b then(b -a -1)/c+1 else 0)else(if a>b then(a -b -1)/(-c)+1 else 0)
def xW (lo c:Int) (n:Nat):List D:=(aN n).map fun(k:Nat)=>D.int (lo+(k:Int)*c)
def jh (lo:Int) (n:Nat):List D:=(aN n).map fun(k:Nat)=>D.int (lo+(k:Int))
def pG (n:Nat) (i:Int):Option Nat:=if 0<=i then(if i<n then some i.toNat else none)else if -(n:Int)<=i then some (i+n).toNat else none
def ni (n d:Nat):Option Int->Nat
 |none=>d|some v=>if v<0 then(v+(n:Int)).toNat else min v.toNat n
def cutD {α:Type} (xs:List α) (lo hi:Option Int):List α:=(xs.drop (ni xs.length 0 lo)).take (ni xs.length xs.length hi -ni xs.length 0 lo)
def lim:Nat:=16777216
def newL (m:Bool) (ds:List D) (μ:Mem) (Q:QD):Prop:=match m with|true=>Q (.loc μ.length) (μ++[.lst ds])|false=>Q (.lst ds) μ
def newR:Option Bool->List D->Mem->QD->Prop
 |some m,ds,μ,Q=>newL m ds μ Q|none,ds,μ,Q=>Q (.tup ds) μ
def afJ (i j:Int):Prop:=(-(2 ^ 64)<i/\i<2 ^ 64)∨(-(2 ^ 64)<j/\j<2 ^ 64)
def Mr (j:Int):Prop:=0<j/\j<2 ^ 500
def ah4 (i j:Int):Prop:=0<=j/\j<=1000000/\i.natAbs<2 ^ 64
def lq (op:jl) (x y:D) (μ:Mem) (Q:QD):Prop:=
 match x,y with
 | .int i,.int j=>match op with| .Add=>Q (.int (i+j)) μ| .Sub=>Q (.int (i -j)) μ| .Mult=>afJ i j/\Q (.int (i*j)) μ| .FloorDiv=>Mr j/\Q (.int (i/j)) μ| .Mod=>0<j/\Q (.int (i%j)) μ| .Pow=>ah4 i j/\Q (.int (i ^ j.toNat)) μ| .LShift=>(0<=j/\j<=1000/\i.natAbs<2 ^ 64)/\Q (.int (i*2 ^ j.toNat)) μ| .RShift=>0<=j/\Q (.int (i/2 ^ j.toNat)) μ| .BitAnd=>(0<=i/\j=1)/\Q (.int (i%2)) μ|_=>False
 | .str a,.str b=>match op with| .Add=>a.length+b.length<=lim/\Q (.str (a++b)) μ|_=>False
 | .str a,.int k=>match op with| .Mult=>(0<=k/\k<=1000/\1<=a.length/\a.length<=1000)/\Q (.str (aV k.toNat a).flatten) μ|_=>False
 | .lst a,.lst b=>match op with| .Add=>a.length+b.length<=lim/\Q (.lst (a++b)) μ|_=>False
 | .tup a,.tup b=>match op with| .Add=>a.length+b.length<=lim/\Q (.tup (a++b)) μ|_=>False
 |_,_=>False
def fH (μ:Mem):Nat->D->D
 |0,d=>d|n+1,d=>match d with
  | .tup ds=>.tup (ds.map (fH μ n))| .lst ds=>.lst (ds.map (fH μ n))| .loc k=>match μ[k]? with|some (.lst ds)=>.lst (ds.map (fH μ n))|_=>.loc k
  |d=>d
def Zd (neg:Bool) (x y:D) (μ:Mem) (Q:QD):Prop:=flat 60 (fH μ 8 x)=true/\flat 60 (fH μ 8 y)=true/\Q (.bl (neg !=kO (fH μ 8 x) (fH μ 8 y))) μ
def tU:D->Bool
 | .non=>true|_=>false
def Fo:D->Option nF
 | .int i=>some (.inl i)| .str x=>some (.inr x)|_=>none
def lH:List D->Option (List nF)
 |[]=>some []|d::ds=>match Fo d with|some k=>(lH ds).map (k::·)|none=>none
def SQ {κ:Type} [DecidableEq κ] (ks:List κ) (k:κ):Bool:=decide (k∈ks)
def fY {κ:Type} [DecidableEq κ]:List κ->List D->κ->Option D
 |k' ::ks,d::ds,k=>if k'=k then some d else fY ks ds k|_,_,_=>none
def afV (neg:Bool) (x y:D) (μ:Mem) (Q:QD):Prop:=match y with| .loc n=>(match μ[n]? with|some (.vV ks _)=>(match Fo x with|some k=>Q (.bl (neg !=SQ ks k)) μ|none=>False)|some (.Jz ks _)=>(match x with| .tup es=>(match lH es with|some k=>Q (.bl (neg !=SQ ks k)) μ|none=>False)|_=>False)|_=>False)|_=>False
def ahI (d:D) (μ:Mem) (Q:QD):Prop:=match d with| .loc n=>(match μ[n]? with|some (.vV ks _)=>Q (.int ks.length) μ|some (.Jz ks _)=>Q (.int ks.length) μ|_=>False)|_=>False
def Q6 (n:Nat) (y:D) (μ:Mem) (Q:QD):Prop:=match μ[n]? with|some (.lst ds)=>(match y with| .lst []=>Q (.bl (!ds.isEmpty)) μ|_=>False)|_=>False
def dh (op:ji) (x y:D) (μ:Mem) (Q:QD):Prop:=
 match op with
 | .Eq=>flat 60 x=true/\flat 60 y=true/\Q (.bl (kO x y)) μ| .NotEq=>match x with| .loc n=>Q6 n y μ Q|x=>flat 60 x=true/\flat 60 y=true/\Q (.bl (!kO x y)) μ
 | .Lt=>match Et x y with|some b=>Q (.bl b) μ|none=>False
 | .LtE=>match x,y with| .int i,.int j=>Q (.bl (decide (i<=j))) μ| .str a,.str b=>Q (.bl (!ig b a)) μ|_,_=>False
 | .Gt=>match x,y with| .int i,.int j=>Q (.bl (decide (j<i))) μ|_,_=>False
 | .GtE=>match x,y with| .int i,.int j=>Q (.bl (decide (j<=i))) μ|_,_=>False
 | .Is=>match y with| .non=>Q (.bl (tU x)) μ| .bl b=>(match x with| .bl a=>Q (.bl (a==b)) μ|_=>False)|_=>False
 | .IsNot=>match y with| .non=>Q (.bl (!tU x)) μ| .bl b=>(match x with| .bl a=>Q (.bl (a !=b)) μ|_=>False)|_=>False
 | .In=>match y with| .str t=>(match x with| .str a=>(match a with|[c]=>Q (.bl (t.contains c)) μ|_=>False)|_=>False)|y=>(match au μ y with|some ds=>flats 60 ds=true/\flat 60 x=true/\Q (.bl (ds.any fun d=>kO d x)) μ|none=>afV false x y μ Q)
 | .NotIn=>match y with| .str t=>(match x with| .str a=>(match a with|[c]=>Q (.bl (!t.contains c)) μ|_=>False)|_=>False)|y=>(match au μ y with|some ds=>flats 60 ds=true/\flat 60 x=true/\Q (.bl (!ds.any fun d=>kO d x)) μ|none=>afV true x y μ Q)
def allB:List D->Option Bool
 |[]=>some true| .bl b::ds=>(allB ds).map (b&&·)|_::_=>none
def gJ:List D->Option (List Int)
 |[]=>some []| .int i::ds=>(gJ ds).map (i::·)|_::_=>none
def JC (ns:List Int):Nat:=(ns.foldl (fun(a:List Int) x=>if a.any (·==x)then a else a++[x]) []).length
def XH (d:D) (μ:Mem) (Q:QD):Prop:=match(au μ d).bind gJ with|some ns=>ns.length<1000/\Q (.int (JC ns:Nat)) μ|none=>False
def Pz:List String:=["len","all","sum","max","min","list","mlist","tuple","divmod"]
def wB3 (b:String) (d e f:D) (μ:Mem) (Q:QD):Prop:=match b with|"min3"=>(match d,e,f with| .int i,.int j,.int k=>Q (.int (min (min i j) k)) μ|_,_,_=>False)|_=>False
theorem ah9 (hb:b≠"min3"):¬wB3 b d e f μ Q:=by
 unfold wB3;split
 .exact absurd rfl hb
 .exact id
def amc (_:D) (_:Mem) (_:QD):Prop:=False
def bM (b:String) (ds:List D) (μ:Mem) (Q:QD):Prop:=
 match ds with
 |[d]=>match b with
  |"len"=>match lenOf μ d with|some n=>Q (.int n) μ|none=>ahI d μ Q
  |"abs"=>match d with| .int i=>Q (.int (if i<0 then -i else i)) μ|_=>False
  |"all"=>match(bU μ d).bind allB with|some r=>Q (.bl r) μ|none=>False
  |"sum"=>match(au μ d).bind gJ with|some r=>Q (.int r.sum) μ|none=>False
  |"max"=>match(bU μ d).bind gJ with|some (i::is)=>Q (.int (is.foldl max i)) μ|_=>False
  |"min"=>match(bU μ d).bind gJ with|some (i::is)=>Q (.int (is.foldl min i)) μ|_=>False
  |"list"=>match au μ d with|some es=>Q (.lst es) μ|none=>amc d μ Q
  |"mlist"=>match au μ d with|some es=>newL true es μ Q|none=>False
  |"tuple"=>match au μ d with|some es=>Q (.tup es) μ|none=>False
  |_=>False
 |[d,e]=>match b with
  |"divmod"=>match d,e with| .int i,.int j=>Mr j/\Q (.tup [.int (i/j),.int (i%j)]) μ|_,_=>False
  |"max"=>match d,e with| .int i,.int j=>Q (.int (if j>i then j else i)) μ|_,_=>False
  |"min"=>match d,e with| .int i,.int j=>Q (.int (if j<i then j else i)) μ|_,_=>False
  |_=>False
 |[d,e,f]=>wB3 b d e f μ Q|_=>False
def jx {κ:Type} [DecidableEq κ] (ks:List κ) (k:κ):List κ:=if k∈ks then ks else ks++[k]
def nR {κ:Type} [DecidableEq κ] (ks:List κ) (ds:List D) (k:κ) (d:D):List D:=if k∈ks then abJ (fun k' d'=>if k'=k then d else d') ks ds else ds++[d]
def Rb (x y:D) (μ:Mem) (Q:QD):Prop:=match x with
 | .loc n=>match μ[n]? with|some (.vV ks ds)=>(match Fo y with|some k=>(match fY ks ds k with|some d=>Q d μ|none=>False)|none=>False)|some (.Jz ks ds)=>(match y with| .tup es=>(match lH es with|some k=>(match fY ks ds k with|some d=>Q d μ|none=>False)|none=>False)|_=>False)|_=>False
 |_=>False
def Ra (x y v:D) (μ:Mem) (k:Mem->Prop):Prop:=match x with
 | .loc n=>match μ[n]? with|some (.vV ks ds)=>(match Fo y with|some q=>ks.length<lim/\k (μ.set n (.vV (jx ks q) (nR ks ds q v)))|none=>False)|some (.Jz ks ds)=>(match y with| .tup es=>(match lH es with|some q=>ks.length<lim/\k (μ.set n (.Jz (jx ks q) (nR ks ds q v)))|none=>False)|_=>False)|_=>False
 |_=>False
def zy (μ:Mem):D->Option (List D)
 | .lst ds=>some ds| .loc n=>match μ[n]? with|some (.lst ds)=>some ds|_=>none
 |_=>none
def T3 (m:Bool) (x y:D) (μ:Mem) (Q:QD):Prop:=match zy μ x with|some as=>(match zy μ y with|some bs=>as.length+bs.length<=lim/\newL m (as++bs) μ Q|none=>False)|none=>False
def aaP (m:Bool) (x y:D) (μ:Mem) (Q:QD):Prop:=match zy μ x with|some as=>(match y with| .int k=>(as.length*k.toNat<=lim/\-(2 ^ 62)<=k/\k<2 ^ 62)/\newL m (aV k.toNat as).flatten μ Q|_=>False)|none=>False
def jP (μ:Mem) (c:String) (d:D):Option (Nat×List (String×D)):=match d with
 | .loc n=>match μ[n]? with|some (.ins c' fs)=>if c'=c then some (n,fs)else none|_=>none
 |_=>none
def bW (f:String):List (String×D)->Option D
 |[]=>none|(g,d)::r=>if g=f then some d else bW f r
def putD (f:String) (d:D):List (String×D)->List (String×D)
 |[]=>[(f,d)]|(g,e)::r=>if g=f then(g,d)::r else(g,e)::putD f d r
def jg (c f:String) (x:D) (μ:Mem) (Q:QD):Prop:=match jP μ c x with
 |some (_,fs)=>match bW f fs with|some d=>Q d μ|none=>False
 |none=>False
def mK (c f:String) (x v:D) (μ:Mem) (k:Mem->Prop):Prop:=match jP μ c x with|some (n,fs)=>fs.length<1000/\k (μ.set n (.ins c (putD f v fs)))|none=>False
def je (μ:Mem) (c m:String) (x:D):Prop:=match jP μ c x with|some (_,fs)=>bW m fs=none|none=>False
def uf (op:jl) (p q:D) (k:D->Prop):Prop:=match p,q with
 | .int i,.int j=>match op with| .Add=>k (.int (i+j))| .Sub=>k (.int (i -j))|_=>False
 |_,_=>False
def wlT (μ:Mem):D->Option (List D)
 | .tup ds=>some ds|d=>zy μ d
def isCell (μ:Mem):D->Bool
 | .loc n=>match μ[n]? with|some (.lst _)=>true|_=>false
 |_=>false
def bY (m:String) (n:Nat) (xs:List D) (ds:List D) (μ:Mem) (Q:QD):Prop:=
 match ds with
 |[]=>match m with
  |"pop"=>match xs[xs.length -1]? with|some d=>Q d (μ.set n (.lst xs.dropLast))|none=>False
  |_=>False
 |[d]=>match m with
  |"append"=>xs.length<lim/\Q .non (μ.set n (.lst (xs++[d])))|"extend"=>match wlT μ d with|some es=>xs.length+es.length<=lim/\Q .non (μ.set n (.lst (xs++es)))|none=>False
  |"pop"=>match d with| .int k=>(match pG xs.length k with|some p=>(match xs[p]? with|some e=>Q e (μ.set n (.lst (xs.eraseIdx p)))|none=>False)|none=>False)|_=>False
  |_=>False
 |[.int k,d]=>match m with|"insert"=>0<=k/\k<=xs.length/\xs.length<lim/\Q .non (μ.set n (.lst (xs.take k.toNat++d::xs.drop k.toNat)))|_=>False
 |_=>False
def dU (m:String) (o:D) (ds:List D) (μ:Mem) (Q:QD):Prop:=
 match o with
 | .loc n=>match μ[n]? with|some (.lst xs)=>bY m n xs ds μ Q|_=>False
 |_=>False
def ahL:List D->Option (List (List Nat))
 |[]=>some []| .str x::ds=>(ahL ds).map (x::·)|_::_=>none
def txM (m:String):Bool:=["join","split","partition","startswith"].contains m
def ale:D->Bool
 | .str _=>true|_=>false
def ahH (m:String) (t:List Nat) (c:Nat) (μ:Mem) (Q:QD):Prop:=match m with|"split"=>(c<256/\t.length<lim)/\∃ m:Bool,newL m ((fZ c t).map .str) μ Q|"partition"=>if c∈t then Q (.tup [.str (amu c t),.str [c],.str (postC c t)]) μ else Q (.tup [.str t,.str [],.str []]) μ|"startswith"=>Q (.bl (t.head?==some c)) μ|_=>False
def afS (m:String) (x:D) (es:List D) (μ:Mem) (Q:QD):Prop:=match x with| .str t=>(match es with|[.str [c]]=>ahH m t c μ Q|[d]=>(match(bU μ d).bind ahL with|some ws=>m="join"/\(ws.map fK).sum+ws.length*t.length<=lim/\Q (.str (ahR t ws)) μ|none=>False)|_=>False)|_=>False
def Fq (μ:Mem):D->Bool
 | .lst _=>true| .loc n=>match μ[n]? with|some (.lst _)=>true|_=>false
 |_=>false
def afT (m:String) (ns:List Int) (k:Int) (μ:Mem) (Q:QD):Prop:=match m with|"index"=>k∈ns/\Q (.int (ns.idxOf k:Nat)) μ|"count"=>Q (.int (ns.count k:Nat)) μ|_=>False
def amG (μ:Mem):D->Bool
 | .loc n=>match μ[n]? with|some (.vV _ _)=>true|some (.Jz _ _)=>true|_=>false
 |_=>false
def Kv (m:String) (μ:Mem) (d:D):Bool:=if m="get"∨m="pop"∨m="clear" then amG μ d else if txM m=true then ale d else Fq μ d
def ame (x:D) (es:List D) (μ:Mem) (Q:QD):Prop:=match x with| .loc n=>(match μ[n]? with|some (.vV ks ds)=>(match es with|[k,z]=>(match Fo k with|some q=>Q ((fY ks ds q).getD z) μ|none=>False)|_=>False)|some (.Jz ks ds)=>(match es with|[.tup k]=>(match lH k with|some q=>Q ((fY ks ds q).getD .non) μ|none=>False)|_=>False)|_=>False)|_=>False
def amf (x:D) (es:List D) (μ:Mem) (Q:QD):Prop:=match x with| .loc n=>(match μ[n]? with|some (.Jz _ _)=>es=[]/\Q .non (μ.set n (.Jz [] []))|_=>False)|_=>False
def Xb {κ:Type} [DecidableEq κ]:List κ->κ->List κ
 |k' ::ks,k=>if k'=k then Xb ks k else k' ::Xb ks k|[],_=>[]
def Xa {κ:Type} [DecidableEq κ]:List κ->List D->κ->List D
 |k' ::ks,d::ds,k=>if k'=k then Xa ks ds k else d::Xa ks ds k|_,_,_=>[]
def amd (x:D) (es:List D) (μ:Mem) (Q:QD):Prop:=match x with| .loc n=>(match μ[n]? with|some (.vV ks ds)=>(match es with|[k]=>(match Fo k with|some q=>(match fY ks ds q with|some d=>Q d (μ.set n (.vV (Xb ks q) (Xa ks ds q)))|none=>False)|none=>False)|_=>False)|_=>False)|_=>False
def akE (x:D) (es:List D) (μ:Mem) (Q:QD):Prop:=∃ (r:List Itm) (y:Itm) (j:Nat),bU μ x=some (r.map bH)/\es=[bH y]/\r[j]?=some y/\(∀ m,m<j->r[m]?≠some y)/\Q (.int (j:Nat)) μ
def Ms (m:String) (x:D) (es:List D) (μ:Mem) (Q:QD):Prop:=match(bU μ x).bind gJ with|some ns=>(match es with|[.int k]=>afT m ns k μ Q|_=>False)|none=>m="index"/\akE x es μ Q
def Ka (m:String) (x:D) (es:List D) (μ:Mem) (Q:QD):Prop:=if m="get" then ame x es μ Q else if m="clear" then amf x es μ Q else if m="pop" then amd x es μ Q else if txM m=true then afS m x es μ Q else Ms m x es μ Q
def ajR:D->Bool
 | .tup _=>true|_=>false
def Zb (x:D) (es:List D) (μ:Mem) (Q:QD):Prop:=match x with| .tup ds=>(match gJ ds with|some ns=>(match es with|[.int k]=>k∈ns/\Q (.int (ns.idxOf k:Nat)) μ|_=>False)|none=>False)|_=>False
def Q7 (xs:List D) (μ:Mem) (Q:QD):Prop:=match xs with|[x]=>(match bU μ x with|some es=>∃ r:List Itm,es=r.map bH/\r≠[]/\∀ y,y∈r->(∀ z∈r,lG z y=false)->Q (bH y) μ|none=>False)|_=>False
def aaO (x:D) (ds:List D) (μ:Mem) (Q:QD):Prop:=match x with
 | .loc n=>match μ[n]? with|some (.lst xs)=>∃ (r:List Itm) (y:Itm),xs=r.map bH/\ds=[bH y]/\y∈r/\Q .non (μ.set n (.lst ((r.erase y).map bH)))|_=>False
 |_=>False
def d7 (x y:D) (μ:Mem) (Q:QD):Prop:=
 match x,y with
 | .str z,.int i=>match(pG z.length i).bind (z[·]?)with|some c=>Q (.str [c]) μ|none=>False
 |x,.int i=>match au μ x with
  |some ds=>match(pG ds.length i).bind (ds[·]?)with|some d=>Q d μ|none=>False
  |none=>False
 |_,_=>False
def Kc (m:Bool) (x:D) (lo hi:Option Int) (μ:Mem) (Q:QD):Prop:=
 match x with
 | .lst ds=>newL m (cutD ds lo hi) μ Q| .str z=>((∀ i,lo=some i->0<=i)/\(∀ i,hi=some i->0<=i)/\ni z.length 0 lo<=ni z.length z.length hi)/\Q (.str (cutD z lo hi)) μ| .tup ds=>Q (.tup (cutD ds lo hi)) μ| .loc n=>match μ[n]? with|some (.lst ds)=>newL m (cutD ds lo hi) μ Q|_=>False
 |_=>False
def Q8 (d:D) (μ:Mem) (Q:QD):Prop:=
 match d with
 | .loc n=>match μ[n]? with|some (.lst ds)=>Q (.lst ds) (μ.set n .gone)|_=>False
 |d=>Q d μ
def iu (d:D) (μ:Mem) (Q:Bool->Mem->Prop):Prop:=match truth μ d with|some b=>Q b μ|none=>False
def gZ (d:D) (μ:Mem) (Q:Bool->Mem->Prop):Prop:=match d with| .bl b=>Q b μ|_=>False
def Gj (d:D) (μ:Mem) (Q:Int->Mem->Prop):Prop:=match d with| .int i=>Q i μ|_=>False
noncomputable abbrev QI:=List D->(Mem->Prop)->Mem->Prop
def kZ (d:D) (μ:Mem) (Q:QI):Prop:=
 match d with
 | .lst ds=>Q ds (fun _=>True) μ| .tup ds=>Q ds (fun _=>True) μ| .ro ds=>Q ds (fun _=>True) μ| .str x=>Q (chars x) (fun _=>True) μ| .loc n=>match μ[n]? with|some (.lst ds)=>Q ds (fun μ'=>μ'[n]?=some (.lst ds)) μ|_=>False
 |_=>False
def qC (n:Nat) (ds:List D) (μ:Mem) (Q:QI):Prop:=
 match n,ds with
 |1,[.int j]=>j<=lim/\-(2 ^ 62)<=j/\Q (jh 0 j.toNat) (fun _=>True) μ|3,[.int i,.int j,.int c]=>(c≠0/\Kh i j c<=lim/\-(2 ^ 30)<i/\i<2 ^ 30/\-(2 ^ 30)<j/\j<2 ^ 30/\-(2 ^ 30)<c/\c<2 ^ 30)/\Q (xW i c (Kh i j c).toNat) (fun _=>True) μ|2,[.int i,.int j]=>(j -i<=lim/\-(2 ^ 62)<=i/\i<2 ^ 62/\-(2 ^ 62)<=j/\j<2 ^ 62)/\Q (jh i (j -i).toNat) (fun _=>True) μ|_,_=>False
def mJ:List D->List D->List D
 |a::as,b::bs=>.tup [a,b]::mJ as bs|_,_=>[]
def Za (x y:D) (μ:Mem) (Q:QI):Prop:=
 match bU μ x,bU μ y with
 |some as,some bs=>Q (mJ as bs) (fun μ'=>bU μ' x=some as/\bU μ' y=some bs) μ|none,some bs=>(match x with| .tup as=>as.length<=bs.length/\Q (mJ as bs) (fun μ'=>bU μ' y=some bs) μ|_=>False)|_,_=>False
def lO (k:Nat):List D->List D
 |[]=>[]|d::ds=>.tup [.int (k:Int),d]::lO (k+1) ds
def Q9 (x:D) (μ:Mem) (Q:QI):Prop:=match bU μ x with|some as=>Q (lO 0 as) (fun μ'=>bU μ' x=some as) μ|none=>(match x with| .tup as=>Q (lO 0 as) (fun _=>True) μ|_=>False)
def afU (x:D) (μ:Mem) (Q:QI):Prop:=match bU μ x with|some as=>Q as.reverse (fun μ'=>bU μ' x=some as) μ|none=>False
def dg (is:List Nat) (tt:Bool) (d:D) (ρ:dJ) (k:dJ->Prop):Prop:=
 match tt with
 |false=>match is with|[i]=>k (ρ.set i (some d))|_=>False
 |true=>match d with| .tup ds=>ds.length=is.length/\k ((is.zip ds).foldl (fun r p=>r.set p.1 (some p.2)) ρ)|_=>False
def bindC (n:Nat) (tt:Bool) (d:D) (r:dJ) (k:dJ->Prop):Prop:=
 match tt with
 |false=>k (some d::r)|true=>match d with| .tup ds=>ds.length=n/\k (ds.map some++r)|_=>False
def jJ (bnd:D->(dJ->Prop)->Prop) (cw:dJ->Mem->(Bool->Mem->Prop)->Prop) (ew:dJ->Mem->QD->Prop) (g:Mem->Prop):List D->List D->Mem->(List D->Mem->Prop)->Prop
 |[],acc,μ,Q=>g μ/\Q acc μ|d::ds,acc,μ,Q=>g μ/\bnd d fun ρ=>cw ρ μ fun b μ1=>if b=true then ew ρ μ1 fun v μ2=>jJ bnd cw ew g ds (acc++[v]) μ2 Q else jJ bnd cw ew g ds acc μ1 Q
def jf:Es->Nat
 | .nil=>0| .cons _ es=>jf es+1
mutual
@[reducible] noncomputable def wE:E->dJ->Mem->QD->Prop
 | .var i,ρ,μ,Q=>match ρ[i]? with|some (some d)=>Q d μ|_=>False
 | .cst d,_,μ,Q=>Q d μ| .gbl _ d,_,μ,Q=>Q d μ| .bin op a b,ρ,μ,Q=>wE a ρ μ fun x μ1=>wE b ρ μ1 fun y μ2=>lq op x y μ2 Q
 | .neg a,ρ,μ,Q=>wE a ρ μ fun x μ1=>match x with| .int i=>Q (.int (-i)) μ1|_=>False
 | .not a,ρ,μ,Q=>wE a ρ μ fun x μ1=>gZ x μ1 fun b μ2=>Q (.bl (!b)) μ2
 | .cmp op a b,ρ,μ,Q=>wE a ρ μ fun x μ1=>wE b ρ μ1 fun y μ2=>dh op x y μ2 Q
 | .KN n a b,ρ,μ,Q=>wE a ρ μ fun x μ1=>wE b ρ μ1 fun y μ2=>Zd n x y μ2 Q
 | .chain p q a b c,ρ,μ,Q=>wE a ρ μ fun x μ1=>wE b ρ μ1 fun y μ2=>dh p x y μ2 fun r μ3=>gZ r μ3 fun t μ3=>if t=true then wE c ρ μ3 fun z μ4=>dh q y z μ4 Q else Q (.bl false) μ3
 | .and a b,ρ,μ,Q=>wE a ρ μ fun x μ1=>gZ x μ1 fun t μ2=>if t=true then wE b ρ μ2 Q else Q (.bl false) μ2
 | .or a b,ρ,μ,Q=>wE a ρ μ fun x μ1=>gZ x μ1 fun t μ2=>if t=true then Q (.bl true) μ2 else wE b ρ μ2 Q
 | .ife c a b,ρ,μ,Q=>wT c ρ μ fun t μ1=>if t=true then wE a ρ μ1 Q else wE b ρ μ1 Q
 | .call _ sp as,ρ,μ,Q=>wEs as ρ μ fun ds μ1=>sp ds μ1 Q
 | .blt x as,ρ,μ,Q=>wEs as ρ μ fun ds μ1=>bM x ds μ1 Q
 | .isin a t,ρ,μ,Q=>wE a ρ μ fun d μ1=>wH t d μ1 Q
 | .isin a _ (some ks),ρ,μ,Q=>wE a ρ μ fun d μ1=>Zc ks d μ1 Q
 | .Jf a,ρ,μ,Q=>wE a ρ μ fun d μ1=>Gi d μ1 Q
 | .ZW a,ρ,μ,Q=>wE a ρ μ fun d μ1=>XH d μ1 Q
 | .meth m o as,ρ,μ,Q=>wE o ρ μ fun x μ1=>isCell μ1 x=true/\wEs as ρ μ1 fun ds μ2=>dU m x ds μ2 Q
 | .tix o as,ρ,μ,Q=>wE o ρ μ fun x μ1=>ajR x=true/\wEs as ρ μ1 fun ds μ2=>Zb x ds μ2 Q
 | .sqm m o as,ρ,μ,Q=>wE o ρ μ fun x μ1=>Kv m μ1 x=true/\wEs as ρ μ1 fun ds μ2=>Ka m x ds μ2 Q
 | .rmv o as,ρ,μ,Q=>wE o ρ μ fun x μ1=>Fq μ1 x=true/\wEs as ρ μ1 fun ds μ2=>aaO x ds μ2 Q
 | .aad as,ρ,μ,Q=>wEs as ρ μ fun ds μ1=>Q7 ds μ1 Q
 | .idx a b,ρ,μ,Q=>wE a ρ μ fun x μ1=>wE b ρ μ1 fun y μ2=>d7 x y μ2 Q
 | .slc m a lo hi,ρ,μ,Q=>wE a ρ μ fun x μ1=>wO lo ρ μ1 fun l μ2=>wO hi ρ μ2 fun h μ3=>Kc m x l h μ3 Q
 | .tup as,ρ,μ,Q=>wEs as ρ μ fun ds μ1=>ds.length<=lim/\Q (.tup ds) μ1
 | .lst m as,ρ,μ,Q=>wEs as ρ μ fun ds μ1=>ds.length<=lim/\newL m ds μ1 Q
 | .comp m n tt cap elt it cond,ρ,μ,Q=>wI it ρ μ fun ds g μ1=>jJ (fun d k=>bindC n tt d (cap.map fun i=>(ρ[i]?).join) k) (fun ρ' μ' Q'=>wTs cond ρ' μ' Q') (fun ρ' μ' Q'=>wE elt ρ' μ' Q') g ds [] μ1 fun vs μ2=>newL m vs μ2 Q
 | .frz a,ρ,μ,Q=>wE a ρ μ fun d μ1=>Q8 d μ1 Q
 | .aal t,_,μ,Q=>Q (.loc μ.length) (μ++[if t=true then .Jz [] []else .vV [] []])| .aan o i,ρ,μ,Q=>wE o ρ μ fun x μ1=>wE i ρ μ1 fun y μ2=>Rb x y μ2 Q
 | .cat m a b,ρ,μ,Q=>wE a ρ μ fun x μ1=>wE b ρ μ1 fun y μ2=>T3 m x y μ2 Q
 | .rep m a b,ρ,μ,Q=>wE a ρ μ fun x μ1=>wE b ρ μ1 fun y μ2=>aaP m x y μ2 Q
 | .fld c f o,ρ,μ,Q=>wE o ρ μ fun x μ1=>jg c f x μ1 Q
 | .pA c m sp o as,ρ,μ,Q=>wE o ρ μ fun x μ1=>je μ1 c m x/\wEs as ρ μ1 fun ds μ2=>sp (x::ds) μ2 Q
 | .mk c sp as,ρ,μ,Q=>wEs as ρ μ fun ds μ1=>sp (.loc μ1.length::ds) (μ1++[.ins c []]) fun v μ2=>v= .non/\Q (.loc μ1.length) μ2
@[reducible] noncomputable def wEs:Es->dJ->Mem->(List D->Mem->Prop)->Prop
 | .nil,_,μ,Q=>Q [] μ| .cons e es,ρ,μ,Q=>wE e ρ μ fun d μ1=>wEs es ρ μ1 fun ds μ2=>Q (d::ds) μ2
noncomputable def wO:Es->dJ->Mem->(Option Int->Mem->Prop)->Prop
 | .nil,_,μ,Q=>Q none μ| .cons e es,ρ,μ,Q=>wE e ρ μ fun d μ1=>match es with| .nil=>Gj d μ1 fun i μ2=>Q (some i) μ2|_=>False
@[reducible] noncomputable def wT:E->dJ->Mem->(Bool->Mem->Prop)->Prop
 | .not a,ρ,μ,Q=>wT a ρ μ fun b μ1=>Q (!b) μ1
 | .and a b,ρ,μ,Q=>wT a ρ μ fun t μ1=>if t=true then wT b ρ μ1 Q else Q false μ1
 | .or a b,ρ,μ,Q=>wT a ρ μ fun t μ1=>if t=true then Q true μ1 else wT b ρ μ1 Q
 | .var i,ρ,μ,Q=>match ρ[i]? with|some (some d)=>iu d μ Q|_=>False
 | .cst d,_,μ,Q=>iu d μ Q| .cmp op a b,ρ,μ,Q=>wE a ρ μ fun x μ1=>wE b ρ μ1 fun y μ2=>dh op x y μ2 fun r μ3=>gZ r μ3 Q
 | .KN n a b,ρ,μ,Q=>wE a ρ μ fun x μ1=>wE b ρ μ1 fun y μ2=>Zd n x y μ2 fun r μ3=>gZ r μ3 Q
 | .chain p q a b c,ρ,μ,Q=>wE a ρ μ fun x μ1=>wE b ρ μ1 fun y μ2=>dh p x y μ2 fun r μ3=>gZ r μ3 fun t μ3=>if t=true then wE c ρ μ3 fun z μ4=>dh q y z μ4 fun r μ5=>gZ r μ5 Q else Q false μ3
 | .call _ sp as,ρ,μ,Q=>wEs as ρ μ fun ds μ1=>sp ds μ1 fun d μ2=>iu d μ2 Q
 | .pA c m sp o as,ρ,μ,Q=>wE o ρ μ fun x μ1=>je μ1 c m x/\wEs as ρ μ1 fun ds μ2=>sp (x::ds) μ2 fun d μ3=>iu d μ3 Q
 | .fld c f o,ρ,μ,Q=>wE o ρ μ fun x μ1=>jg c f x μ1 fun d μ2=>iu d μ2 Q
 | .idx a b,ρ,μ,Q=>wE a ρ μ fun x μ1=>wE b ρ μ1 fun y μ2=>d7 x y μ2 fun d μ3=>iu d μ3 Q
 | .blt x as,ρ,μ,Q=>wEs as ρ μ fun ds μ1=>bM x ds μ1 fun d μ2=>iu d μ2 Q
 | .sqm m o as,ρ,μ,Q=>wE o ρ μ fun x μ1=>Kv m μ1 x=true/\wEs as ρ μ1 fun ds μ2=>Ka m x ds μ2 fun d μ3=>iu d μ3 Q
 | .isin a t,ρ,μ,Q=>wE a ρ μ fun d μ1=>wH t d μ1 fun r μ2=>gZ r μ2 Q
 | .isin a _ (some ks),ρ,μ,Q=>wE a ρ μ fun d μ1=>Zc ks d μ1 fun r μ2=>gZ r μ2 Q
 | .Jf a,ρ,μ,Q=>wE a ρ μ fun d μ1=>Gi d μ1 fun r μ2=>gZ r μ2 Q
 |_,_,_,_=>False
@[reducible] noncomputable def wTs:Es->dJ->Mem->(Bool->Mem->Prop)->Prop
 | .nil,_,μ,Q=>Q true μ| .cons e es,ρ,μ,Q=>wT e ρ μ fun b μ1=>match es with| .nil=>Q b μ1|_=>False
@[reducible] noncomputable def wI:It->dJ->Mem->QI->Prop
 | .seq e,ρ,μ,Q=>wE e ρ μ fun d μ1=>kZ d μ1 Q
 | .rng as,ρ,μ,Q=>wEs as ρ μ fun ds μ1=>qC (jf as) ds μ1 Q
 | .zip a b,ρ,μ,Q=>wE a ρ μ fun x μ1=>wE b ρ μ1 fun y μ2=>Za x y μ2 Q
 | .enum a,ρ,μ,Q=>wE a ρ μ fun x μ1=>Q9 x μ1 Q
 | .rvd a,ρ,μ,Q=>wE a ρ μ fun x μ1=>afU x μ1 Q
end
set_option genInjectivity false in
structure dO where
 nx:dJ->Mem->Prop
 rt:QD
 bk:dJ->Mem->Prop:=fun _ _=>False
 ct:dJ->Mem->Prop:=fun _ _=>False
 xc:dJ->QX:=fun _ _ _ _ _=>False
def Ea (bnd:D->dJ->(dJ->Prop)->Prop) (bw:dO->dJ->Mem->Prop) (g:Mem->Prop) (Z:dO):List D->dJ->Mem->Prop
 |[],ρ,μ=>g μ/\Z.nx ρ μ|d::ds,ρ,μ=>g μ/\bnd d ρ fun ρ'=>bw {Z with nx:=Ea bnd bw g Z ds,ct:=Ea bnd bw g Z ds,bk:=Z.nx} ρ' μ
def jU (o i v:D) (μ:Mem) (k:Mem->Prop):Prop:=
 match o,i with
 | .loc n,.int j=>match μ[n]? with
  |some (.lst xs)=>match pG xs.length j with|some p=>k (μ.set n (.lst (xs.set p v)))|none=>False
  |_=>False
 |_,_=>False
def KY (x y:D) (μ:Mem) (Q:QD):Prop:=match x,y with| .loc n,.int j=>(match μ[n]? with|some (.lst xs)=>0<=j/\(match xs[j.toNat]? with|some d=>Q d μ|none=>False)|_=>False)|_,_=>False
@[reducible] noncomputable def wXC:XC->(dJ->QX)->dJ->Mem->QD->Prop
 | .dsp _ ks sp i as,X,ρ,μ,Q=>wE i ρ μ fun d μ1=>isKey ks d/\wEs as ρ μ1 fun ds μ2=>sp (d::ds) μ2 Q (X ρ)
mutual
@[reducible] noncomputable def wS:S->dO->dJ->Mem->Prop
 | .set i e,Z,ρ,μ=>wE e ρ μ fun d μ1=>Z.nx (ρ.set i (some d)) μ1
 | .Ul is e,Z,ρ,μ=>wE e ρ μ fun d μ1=>dg is true d ρ fun ρ'=>Z.nx ρ' μ1
 | .dput o i e,Z,ρ,μ=>wE e ρ μ fun v μ1=>wE o ρ μ1 fun x μ2=>wE i ρ μ2 fun y μ3=>Ra x y v μ3 fun μ4=>Z.nx ρ μ4
 | .Fd op o i e,Z,ρ,μ=>wE o ρ μ fun x μ1=>wE i ρ μ1 fun y μ2=>KY x y μ2 fun p μ3=>wE e ρ μ3 fun q μ4=>uf op p q fun v=>jU x y v μ4 fun μ5=>Z.nx ρ μ5
 | .wR o i e,Z,ρ,μ=>wE e ρ μ fun v μ1=>wE o ρ μ1 fun x μ2=>wE i ρ μ2 fun y μ3=>jU x y v μ3 fun μ4=>Z.nx ρ μ4
 | .aug i op e,Z,ρ,μ=>match ρ[i]? with
  |some (some (.int p))=>wE e ρ μ fun y μ1=>Gj y μ1 fun q μ2=>match op with| .Add=>Z.nx (ρ.set i (some (.int (p+q)))) μ2| .Sub=>Z.nx (ρ.set i (some (.int (p -q)))) μ2|_=>False
  |_=>False
 | .exp e,Z,ρ,μ=>wE e ρ μ fun _ μ1=>Z.nx ρ μ1
 | .ret e,Z,ρ,μ=>wE e ρ μ Z.rt| .ite c a b,Z,ρ,μ=>wT c ρ μ fun t μ1=>if t=true then wSs a Z ρ μ1 else wSs b Z ρ μ1
 | .for_ tg tt it b,Z,ρ,μ=>wI it ρ μ fun ds g μ1=>Ea (fun d r k=>dg tg tt d r k) (fun Z' r m=>wSs b Z' r m) g Z ds ρ μ1
 | .whl c b,Z,ρ,μ=>∃ W:Nat->dJ->Mem->Prop,(∃ m,W m ρ μ)/\∀ m ρ μ,W m ρ μ->wT c ρ μ fun t μ1=>if t=true then wSs b {Z with nx:=fun ρ' μ'=>∃ m',m' <m/\W m' ρ' μ',ct:=fun ρ' μ'=>∃ m',m' <m/\W m' ρ' μ',bk:=Z.nx} ρ μ1 else Z.nx ρ μ1
 | .wg c f o e,Z,ρ,μ=>wE e ρ μ fun v μ1=>wE o ρ μ1 fun x μ2=>mK c f x v μ2 fun μ3=>Z.nx ρ μ3
 | .Xo c f op o e,Z,ρ,μ=>wE o ρ μ fun x μ1=>jg c f x μ1 fun p μ1'=>wE e ρ μ1' fun q μ2=>uf op p q fun v=>mK c f x v μ2 fun μ3=>Z.nx ρ μ3
 | .Yk,_,_,_=>False| .abp c,Z,ρ,μ=>wXC c Z.xc ρ μ Z.rt
@[reducible] noncomputable def wSs:Ss->dO->dJ->Mem->Prop
 | .nil,Z,ρ,μ=>Z.nx ρ μ| .cons s r,Z,ρ,μ=>wS s {Z with nx:=fun ρ' μ'=>wSs r Z ρ' μ' } ρ μ
end
theorem XD {s:S} {r:Ss} {Z:dO} {ρ:dJ} {μ:Mem}:wSs (.cons s r) Z ρ μ=wS s {Z with nx:=fun ρ' μ'=>wSs r Z ρ' μ' } ρ μ:=rfl
theorem aaM {i:Nat} {e:E} {Z:dO} {ρ:dJ} {μ:Mem}:wS (.set i e) Z ρ μ=wE e ρ μ fun d μ1=>Z.nx (ρ.set i (some d)) μ1:=rfl
theorem aaN {c:E} {a b:Ss} {Z:dO} {ρ:dJ} {μ:Mem}:wS (.ite c a b) Z ρ μ=wT c ρ μ fun t μ1=>if t=true then wSs a Z ρ μ1 else wSs b Z ρ μ1:=rfl
end DW
namespace DW
open PySem PySem.Spec PyProof.Rows
open L2 (aQ Key frs rG Loc Look Mod rH)
set_option genInjectivity false in
structure Top where
 P:cg
 w:bA
 K:cW
 mg:Str->Option Value
 base:Heap
def keyOf:nF->Key
 | .inl i=>.inl i| .inr x=>.inr ⟨x.toArray⟩
def kD:nF->D
 | .inl i=>.int i| .inr x=>.str x
set_option genInjectivity false in
structure Th where
 cs:List (Addr×Addr)
 ex:List Addr
def Th.snoc (θ:Th) (p:Addr×Addr):Th:=⟨θ.cs++[p],θ.ex⟩
def qy (θ:Th) (μ:Mem) (a:Addr):Prop:=∃ (n:Nat) (p:Addr×Addr) (c:Cell),θ.cs[n]?=some p/\μ[n]?=some c/\c≠.gone/\(a=p.1∨a=p.2)
def J8 (θ:Th) (μ:Mem) (a:Addr):Prop:=a∈θ.ex∨qy θ μ a
def jR (h:Heap):Nat->Addr->List Value->Prop
 |0,a,us=>us.length<=sizeLine/\∃ o n,h.get? a=some o/\o.cls= .type "tuple"/\o.data= .seq us.toArray n/\o.dict=none|1,a,us=>us.length<=sizeLine/\∃ n,h.get? a=some {cls:=.type "list",data:=.seq us.toArray n}|_,a,us=>us.length<=sizeLine/\PlainL h a us.toArray
section
variable (h:Heap) (θ:Th) (μ:Mem)
mutual
noncomputable def Rp:D->Value->Prop
 | .non,u=>u= .none| .bl b,u=>u= .bool b| .int i,u=>∃ t,u= .int i t| .str x,u=>(∃ t,u= .str ⟨x.toArray⟩ t)/\x.length<=sizeLine| .tup ds,u=>∃ a us,u= .ref a/\jR h 0 a us/\¬J8 θ μ a/\dF ds us| .lst ds,u=>∃ a us,u= .ref a/\jR h 1 a us/\¬J8 θ μ a/\dF ds us| .ro ds,u=>∃ a us,u= .ref a/\jR h 2 a us/\¬J8 θ μ a/\dF ds us| .loc n,u=>∃ p,u= .ref p.1/\θ.cs[n]?=some p| .vV _ _,_=>False
noncomputable def dF:List D->List Value->Prop
 |[],us=>us=[]|d::ds,us=>∃ u r,us=u::r/\Rp d u/\dF ds r
end
end
def Fix (o:Obj):Prop:=(∃ xs n,o.data= .seq xs n)∨(o.cls= .type "code"/\∃ vs,o.data= .fields vs)
structure Kp (θ:Th) (μ:Mem) (h:Heap) (θ':Th) (μ':Mem) (h':Heap):Prop where
 pre:∀ (n:Nat) (p:Addr×Addr),θ.cs[n]?=some p->θ'.cs[n]?=some p
 fix:∀ b o,h.get? b=some o->Fix o->¬J8 θ μ b->h'.get? b=some o/\¬J8 θ' μ' b
section
variable {h h' h'':Heap} {θ θ' θ'':Th} {μ μ' TY:Mem} {a:Addr} {us vs:List Value} {d:D} {ds es:List D} {u v:Value} {k n:Nat} {p:Addr×Addr} {c:Cell}
theorem jR.fix (x:jR h k a us):us.length<=sizeLine/\∃ o,h.get? a=some o/\Fix o:=by
 match k,x with
 |0,⟨l,o,n,e,_,d,_⟩=>exact⟨l,o,e,.inl ⟨_,_,d⟩⟩|1,⟨l,n,e⟩=>exact⟨l,_,e,.inl ⟨_,_,rfl⟩⟩|_+2,⟨l,o,n,e,_,_,d⟩=>exact⟨l,o,e,.inl ⟨_,_,d⟩⟩
theorem jR.mono (x:jR h k a us) (f:∀ o,h.get? a=some o->Fix o->h'.get? a=some o):jR h' k a us:=by
 match k,x with
 |0,⟨l,o,n,e,c,d,z⟩=>exact⟨l,o,n,f o e (.inl ⟨_,_,d⟩),c,d,z⟩|1,⟨l,n,e⟩=>exact⟨l,n,f _ e (.inl ⟨_,_,rfl⟩)⟩|_+2,⟨l,o,n,e,c,z,d⟩=>exact⟨l,o,n,f o e (.inl ⟨_,_,d⟩),c,z,d⟩
theorem Kp.sq (g:Kp θ μ h θ' μ' h') (x:jR h k a us) (l:¬J8 θ μ a):jR h' k a us/\¬J8 θ' μ' a:=
 ⟨x.mono fun o e f=>(g.fix a o e f l).1,let⟨_,o,e,f⟩:=x.fix;(g.fix a o e f l).2⟩
mutual
theorem Kp.rp (g:Kp θ μ h θ' μ' h'):∀ {d:D} {u:Value},Rp h θ μ d u->Rp h' θ' μ' d u
 | .non,_,r=>r| .bl _,_,r=>r| .int _,_,r=>r| .str _,_,r=>r| .tup _,_,⟨a,us,e,x,l,r⟩=>⟨a,us,e,(g.sq x l).1,(g.sq x l).2,g.Fi r⟩| .lst _,_,⟨a,us,e,x,l,r⟩=>⟨a,us,e,(g.sq x l).1,(g.sq x l).2,g.Fi r⟩| .ro _,_,⟨a,us,e,x,l,r⟩=>⟨a,us,e,(g.sq x l).1,(g.sq x l).2,g.Fi r⟩| .loc _,_,⟨p,e,x⟩=>⟨p,e,g.pre _ p x⟩| .vV _ _,_,r=>r.elim
theorem Kp.Fi (g:Kp θ μ h θ' μ' h'):∀ {ds:List D} {us:List Value},dF h θ μ ds us->dF h' θ' μ' ds us
 |[],_,r=>r|_::_,_,⟨u,r,e,x,y⟩=>⟨u,r,e,g.rp x,g.Fi y⟩
end
theorem dF.nil:dF h θ μ [] []:=rfl
theorem dF.cons (x:Rp h θ μ d u) (r:dF h θ μ ds us):dF h θ μ (d::ds) (u::us):=⟨u,us,rfl,x,r⟩
theorem dF.one (x:Rp h θ μ d u):dF h θ μ [d] [u]:=dF.cons x dF.nil
theorem dF.length:∀ {ds:List D} {us:List Value},dF h θ μ ds us->us.length=ds.length
 |[],_,r=>by cases(show _=[]from r);rfl
 |_::_,_,⟨u,r,e,_,y⟩=>by rw[e,aY,y.length,aY]
theorem dF.get:∀ {ds:List D} {us:List Value} {i:Nat} {d:D},dF h θ μ ds us->ds[i]?=some d->∃ u,us[i]?=some u/\Rp h θ μ d u
 |_::_,_,0,_,⟨u,r,e,x,_⟩,q=>by cases q;exact⟨u,by rw[e];rfl,x⟩
 |_::_,_,i+1,_,⟨u,r,e,_,y⟩,q=>by rw[e];exact y.get (i:=i) q|[],_,_,_,_,q=>by simp at q
theorem dF.append:∀ {ds es:List D} {us vs:List Value},dF h θ μ ds us->dF h θ μ es vs->dF h θ μ (ds++es) (us++vs)
 |[],_,_,_,r,k=>by cases(show _=[]from r);exact k
 |_::_,_,_,_,⟨u,r,e,x,y⟩,k=>by rw[e];exact⟨u,_,rfl,x,y.append k⟩
theorem dF.take:∀ {ds:List D} {us:List Value} (n:Nat),dF h θ μ ds us->dF h θ μ (ds.take n) (us.take n)
 |_,_,0,_=>rfl|[],_,_+1,r=>by cases(show _=[]from r);rfl
 |_::_,_,n+1,⟨u,r,e,x,y⟩=>by rw[e];exact⟨u,_,rfl,x,y.take n⟩
theorem dF.drop:∀ {ds:List D} {us:List Value} (n:Nat),dF h θ μ ds us->dF h θ μ (ds.drop n) (us.drop n)
 |_,_,0,r=>r|[],_,_+1,r=>by cases(show _=[]from r);rfl
 |_::_,_,n+1,⟨u,r,e,x,y⟩=>by rw[e];exact y.drop n
theorem dF.set (z:Rp h θ μ d v):∀ {ds:List D} {us:List Value} (n:Nat),dF h θ μ ds us->dF h θ μ (ds.set n d) (us.set n v)
 |[],_,_,r=>by cases(show _=[]from r);rfl
 |_::_,_,0,⟨u,r,e,_,y⟩=>by rw[e];exact⟨v,r,rfl,z,y⟩|_::_,_,n+1,⟨u,r,e,x,y⟩=>by rw[e];exact⟨u,_,rfl,x,y.set z n⟩
theorem dF.nil_inv (r:dF h θ μ [] us):us=[]:=r
theorem dF.jB (r:dF h θ μ [d] us):∃ u,us=[u]/\Rp h θ μ d u:=by obtain⟨u,_,e,x,rfl⟩:=r;exact⟨u,e,x⟩
theorem dF.zE {d':D} (r:dF h θ μ [d,d'] us):∃ u u',us=[u,u']/\Rp h θ μ d u/\Rp h θ μ d' u':=by obtain⟨u,_,rfl,x,y⟩:=r;obtain⟨v,rfl,z⟩:=y.jB;exact⟨u,v,rfl,x,z⟩
def aay (h:Heap) (θ:Th) (μ:Mem) (fs:List (String×D)) (dx:Addr):Prop:=
 ∃ mA,h.Ns1 dx mA/\(∀ f d,bW f fs=some d->∃ u,mA (aC f)=some u/\Rp h θ μ d u)/\Vc mA (fs.map fun p=>aC p.1)
def J6 (T:Top) (h:Heap) (θ:Th) (μ:Mem) (a:Addr) (ks:List (List nF)) (ds:List D):Prop:=
 ∃ xs:List (List Key×Addr×Value),(∃ o es ep,h.get? a=some o/\o.ExactDict/\o.data= .dict es ep/\es.toList=xs.map (entryOfKey (Nr (aQ T.P T.w)))/\(xs.map (·.1)).Nodup)/\
  xs.length<=sizeLine/\(a==rQ)=false/\dF h θ μ (ks.map fun k=>.tup (k.map kD)) (xs.map fun x=>.ref x.2.1)/\xs.map (·.1)=ks.map (·.map keyOf)/\dF h θ μ ds (xs.map (·.2.2))
def TG (T:Top) (h:Heap) (θ:Th) (μ:Mem) (a:Addr) (ks:List nF) (ds:List D):Prop:=
 ∃ kvs:List (Key×Value),h.DictOf (aQ T.P T.w) a kvs/\kvs.length<=sizeLine/\(a==rQ)=false/\kvs.map (·.1)=ks.map keyOf/\dF h θ μ ds (kvs.map (·.2))
def ajG:Str:="shortest"
def amD:Str:="shortest"++".<locals>."++"<lambda>"
def qz (T:Top) (h:Heap) (θ:Th) (μ:Mem) (p:Addr×Addr):Cell->Prop
 | .lst ds=>∃ us,jR h 1 p.1 us/\dF h θ μ ds us/\p.2=p.1| .ins c fs=>∃ C,cZ T.K bT (aC c)=some (some (.ref C))/\h.get? p.1=some (qp C p.2)/\p.2≠p.1/\fs.length<=1000/\aay h θ μ fs p.2| .vV ks ds=>TG T h θ μ p.1 ks ds/\p.2=p.1| .Jz ks ds=>J6 T h θ μ p.1 ks ds/\p.2=p.1| .exc c ks ds=>∃ C o vs,cZ T.K bT (aC c)=some (some (.ref C))/\h.get? p.1=some o/\o.cls= .ref C/\PySem.W.notCls o=true/\o.data= .fields vs/\vs[2]?=some .none/\
   ks.length=ds.length/\((ks=[]/\o.dict=none/\p.2=p.1)∨(ks≠[]/\o.dict=some p.2/\p.2≠p.1/\aay h θ μ (ks.zip ds) p.2))
 | .gone=>True| .tbl=>∃ (tc:Addr) (ps:Array Value),PySem.W.tabIn T.K ajG=some (tc,p.1)/\p.2=p.1/\h.get? p.1=some {cls:=.none,data:=.fields ps}/\TriplesOk ps.toList/\
   ∀ pos cv,codeAmong pos ps.toList=some cv->∃ b oc vs tq,cv= .ref b/\h.get? b=some oc/\¬J8 θ μ b/\oc.cls= .type "code"/\oc.data= .fields vs/\vs[1]?=some (.str amD tq)
structure qx (T:Top) (θ:Th) (μ:Mem) (h:Heap):Prop where
 len:θ.cs.length=μ.length
 exc:∀ a∈θ.ex,¬qy θ μ a
 inj:∀ (m n:Nat) (p q:Addr×Addr) (c d:Cell) (a:Addr),θ.cs[m]?=some p->θ.cs[n]?=some q->μ[m]?=some c->μ[n]?=some d->c≠.gone->d≠.gone->(a=p.1∨a=p.2)->(a=q.1∨a=q.2)->m=n
 bnd:∀ a,J8 θ μ a->∃ o,h.get? a=some o
 cell:∀ (n:Nat) (c:Cell) (p:Addr×Addr),μ[n]?=some c->θ.cs[n]?=some p->qz T h θ μ p c
variable {T:Top}
theorem aay.mono {fs:List (String×D)} (g:Kp θ μ h θ' μ' h') (x:aay h θ μ fs a) (e:∀ o,h.get? a=some o->h'.get? a=some o):aay h' θ' μ' fs a:=
 let⟨mA,n,f,w⟩:=x
 ⟨mA,n.at e,fun y d q=>let⟨u,r,t⟩:=f y d q;⟨u,r,g.rp t⟩,w⟩
theorem TG.mono {ks:List nF} (g:Kp θ μ h θ' μ' h') (x:TG T h θ μ a ks ds) (e:∀ o,h.get? a=some o->h'.get? a=some o):TG T h' θ' μ' a ks ds:=
 let⟨kvs,⟨o,es,ep,e1,r⟩,l,y,k,z⟩:=x
 ⟨kvs,⟨o,es,ep,e o e1,r⟩,l,y,k,g.Fi z⟩
theorem J6.mono {ks:List (List nF)} (g:Kp θ μ h θ' μ' h') (x:J6 T h θ μ a ks ds) (e:∀ o,h.get? a=some o->h'.get? a=some o):J6 T h' θ' μ' a ks ds:=
 let⟨xs,⟨o,es,ep,e1,r⟩,l,y,t,k,z⟩:=x
 ⟨xs,⟨o,es,ep,e o e1,r⟩,l,y,g.Fi t,k,g.Fi z⟩
theorem qz.mono (g:Kp θ μ h θ' μ' h') (e:∀ b o,(b=p.1∨b=p.2)->h.get? b=some o->h'.get? b=some o) (x:qz T h θ μ p c):qz T h' θ' μ' p c:=by
 have e1:=fun o=>e p.1 o (.inl rfl);have e2:=fun o=>e p.2 o (.inr rfl);cases c with
 |lst ds=>exact let⟨us,y,r,z⟩:=x;⟨us,y.mono fun o q _=>e1 o q,g.Fi r,z⟩|ins c fs=>exact let⟨C,y,q,r,l,f⟩:=x;⟨C,y,e1 _ q,r,l,f.mono g e2⟩|vV ks ds=>exact⟨x.1.mono g e1,x.2⟩|Jz ks ds=>exact⟨x.1.mono g e1,x.2⟩|exc c ks ds=>obtain⟨C,o,vs,y,q,r1,r2,r3,r4,r5,f⟩:=x;exact⟨C,o,vs,y,e1 _ q,r1,r2,r3,r4,r5,f.imp id fun⟨f1,f2,f3,f4⟩=>⟨f1,f2,f3,f4.mono g e2⟩⟩|gone=>trivial|tbl=>obtain⟨tc,ps,y,q,r,t,f⟩:=x;refine⟨tc,ps,y,q,e1 _ r,t,fun pos cv z=>?_⟩;obtain⟨b,oc,vs,tq,f1,f2,f3,f6,f4,f5⟩:=f pos cv z;obtain⟨f2',f3'⟩:=g.fix b oc f2 (.inr ⟨f6,_,f4⟩) f3;exact⟨b,oc,vs,tq,f1,f2',f3',f6,f4,f5⟩
theorem qx.Fj (w:qx T θ μ h) (hp:h.objs.size<=a):¬J8 θ μ a:=fun l=>let⟨_,q⟩:=w.bnd a l;absurd (fM (dw q) hp) (lu _)
theorem qx.mono (w:qx T θ μ h) (g:Kp θ μ h θ μ h') (lv:∀ b o,qy θ μ b->h.get? b=some o->h'.get? b=some o) (hx:∀ b∈θ.ex,∃ o,h'.get? b=some o):qx T θ μ h' where
 len:=w.len
 exc:=w.exc
 inj:=w.inj
 bnd:=fun a l=>l.elim (hx a) fun l=>let⟨o,q⟩:=w.bnd a (.inr l);⟨o,lv a o l q⟩
 cell:=fun n c p e k=>by
  by_cases hg:c= .gone
  .subst hg;trivial
  .exact(w.cell n c p e k).mono g fun b o z q=>lv b o ⟨n,p,c,k,e,hg,z⟩ q
theorem iV (k:∀ b o,h.get? b=some o->h'.get? b=some o):Kp θ μ h θ μ h':=⟨fun _ _ e=>e,fun b o e _ l=>⟨k b o e,l⟩⟩
theorem qx.kept (w:qx T θ μ h) (k:∀ b o,h.get? b=some o->h'.get? b=some o):qx T θ μ h':=w.mono (iV k) (fun b o _ q=>k b o q) fun b z=>let⟨o,q⟩:=w.bnd b (.inl z);⟨o,k b o q⟩
theorem jQ {α:Type} {l:List α} {x y:α} (h:l[n]?=some y):(l++[x])[n]?=some y:=by rw[cL (cF.mp h).1];exact h
theorem kJ {α:Type} {l:List α} {x y:α} (h:(l++[x])[n]?=some y):l[n]?=some y∨(n=l.length/\x=y):=by
 rcases dH n l.length with hn|hn
 .exact .inl (by rwa[cL hn]at h)
 .rw[jt hn]at h
  have z:=(cF.mp h).1;simp only[List.length_singleton]at z;have e:n=l.length:=by omega
  subst e;exact .inr ⟨rfl,by simpa using h⟩
theorem Ah (w:qx T θ μ h) (l:¬qy θ μ a) (h1:a≠p.1) (h2:a≠p.2):¬qy (θ.snoc p) (μ++[c]) a:=fun⟨m,q,c',e,k,g,z⟩=>by
 rcases kJ e with e|⟨_,rfl⟩
 .rcases kJ k with k|⟨k,_⟩
  .exact l ⟨m,q,c',e,k,g,z⟩
  .have:=(cF.mp e).1
   rw[w.len,k]at this;exact absurd this (lu _)
 .exact z.elim h1 h2
theorem agT (w:qx T θ μ h) (l:¬J8 θ μ a) (h1:a≠p.1) (h2:a≠p.2):¬J8 (θ.snoc p) (μ++[c]) a:=fun z=>z.elim (fun z=>l (.inl z)) (Ah w (fun z=>l (.inr z)) h1 h2)
theorem aeL (w:qx T θ μ h) (k:∀ b o,h.get? b=some o->h'.get? b=some o) (h1:h.objs.size<=p.1) (h2:h.objs.size<=p.2):Kp θ μ h (θ.snoc p) (μ++[c]) h' :=
 ⟨fun _ _ e=>jQ e,fun b o e _ l=>⟨k b o e,agT w l (jL (fM (dw e) h1)) (jL (fM (dw e) h2))⟩⟩
theorem qx.add {ex:List Addr} (w:qx T θ μ h) (kp:Kp θ μ h ⟨θ.cs++[p],ex⟩ (μ++[c]) h') (n1:¬qy θ μ p.1) (n2:¬qy θ μ p.2) (k:∀ b o,qy θ μ b->h.get? b=some o->h'.get? b=some o)
  (hx:∀ b∈ex,(∃ o,h'.get? b=some o)/\¬qy θ μ b/\b≠p.1/\b≠p.2) (th:∀ a,(a=p.1∨a=p.2)->∃ o,h'.get? a=some o) (hc:qz T h' ⟨θ.cs++[p],ex⟩ (μ++[c]) p c):qx T ⟨θ.cs++[p],ex⟩ (μ++[c]) h':=by
 have lt:∀ {m:Nat} {q:Addr×Addr} {d:Cell},θ.cs[m]?=some q->(μ++[c])[m]?=some d->μ[m]?=some d:=fun {m q d} e k=>by
  rcases kJ k with k|⟨k,_⟩
  .exact k
  .have:=(cF.mp e).1
   rw[w.len,k]at this;exact absurd this (lu _)
 have no:∀ {a:Addr} {m:Nat} {q:Addr×Addr} {d:Cell},θ.cs[m]?=some q->(μ++[c])[m]?=some d->d≠.gone->(a=q.1∨a=q.2)->¬(a=p.1∨a=p.2):=fun {a m q d} e k n z x=>by
  rcases x with rfl|rfl
  .exact n1 ⟨m,q,d,e,lt e k,n,z⟩
  .exact n2 ⟨m,q,d,e,lt e k,n,z⟩
 have old:∀ {a},qy ⟨θ.cs++[p],ex⟩ (μ++[c]) a->qy θ μ a∨a=p.1∨a=p.2:=fun⟨m,q,d,e,f,n,z⟩=>by
  rcases kJ e with e|⟨_,rfl⟩
  .exact .inl ⟨m,q,d,e,lt e f,n,z⟩
  .exact .inr z
 refine⟨by simp[w.len],fun a z l=>(old l).elim (hx a z).2.1 fun y=>y.elim (hx a z).2.2.1 (hx a z).2.2.2,fun m n q r c1 c2 a e f k1 k2 n1 n2 z y=>?_,fun a l=>l.elim (fun z=>(hx a z).1) fun l=>(old l).elim (fun l=>let⟨o,x⟩:=w.bnd a (.inr l);⟨o,k a o l x⟩) (th a),fun n c' q e f=>?_⟩
 .rcases kJ e with e1|⟨e1,rfl⟩
  .rcases kJ f with f1|⟨f1,rfl⟩
   .exact w.inj m n q r c1 c2 a e1 f1 (lt e1 k1) (lt f1 k2) n1 n2 z y
   .exact(no e1 k1 n1 z y).elim
  .rcases kJ f with f1|⟨f1,_⟩
   .exact(no f1 k2 n2 y z).elim
   .rw[e1,f1]
 .rcases kJ f with f1|⟨f1,rfl⟩
  .have e1:=lt f1 e
   by_cases g:c' = .gone
   .subst g;trivial
   .exact(w.cell n c' q e1 f1).mono kp fun b o z x=>k b o ⟨n,q,c',f1,e1,g,z⟩ x
  .rcases kJ e with e1|⟨_,rfl⟩
   .have:=(cF.mp e1).1
    rw[f1,w.len]at this;exact absurd this (lu _)
   .exact hc
theorem qx.new (w:qx T θ μ h) (k:∀ b o,h.get? b=some o->h'.get? b=some o) (h1:h.objs.size<=p.1) (h2:h.objs.size<=p.2) (th:∀ a,(a=p.1∨a=p.2)->∃ o,h'.get? a=some o)
  (hc:qz T h' (θ.snoc p) (μ++[c]) p c):qx T (θ.snoc p) (μ++[c]) h' :=
 w.add (aeL w k h1 h2) (fun l=>w.Fj h1 (.inr l)) (fun l=>w.Fj h2 (.inr l)) (fun b o _ e=>k b o e) (fun b z=>⟨let⟨o,x⟩:=w.bnd b (.inl z);⟨o,k b o x⟩,w.exc b z,fun y=>w.Fj h1 (.inl (y▸z)),fun y=>w.Fj h2 (.inl (y▸z))⟩) th hc
theorem qx.ex {ex:List Addr} (w:qx T θ μ h) (kp:Kp θ μ h ⟨θ.cs,ex⟩ μ h') (k:∀ b o,qy θ μ b->h.get? b=some o->h'.get? b=some o) (hx:∀ b∈ex,(∃ o,h'.get? b=some o)/\¬qy θ μ b):qx T ⟨θ.cs,ex⟩ μ h' where
 len:=w.len
 exc:=fun a z=>(hx a z).2
 inj:=w.inj
 bnd:=fun a l=>l.elim (fun z=>(hx a z).1) fun l=>let⟨o,x⟩:=w.bnd a (.inr l);⟨o,k a o l x⟩
 cell:=fun n c q e f=>by
  by_cases g:c= .gone
  .subst g;trivial
  .exact(w.cell n c q e f).mono kp fun b o z x=>k b o ⟨n,q,c,f,e,g,z⟩ x
theorem Px {c':Cell} (hn:μ[n]?=some c) (h1:c≠.gone) (x:qy θ (μ.set n c') a):qy θ μ a:=by
 obtain⟨m,q,b,e,k,g,z⟩:=x;by_cases y:m=n
 .subst y;exact⟨m,q,c,e,hn,h1,z⟩
 .rw[bR (bN y)]at k;exact⟨m,q,b,e,k,g,z⟩
theorem Yt {c':Cell} (hn:μ[n]?=some c) (h1:c≠.gone) (x:J8 θ (μ.set n c') a):J8 θ μ a:=x.imp id (Px hn h1)
theorem Dj {c':Cell} (hn:μ[n]?=some c) (hp:θ.cs[n]?=some p) (h1:c≠.gone) (k:∀ b o,¬(b=p.1∨b=p.2)->h.get? b=some o->h'.get? b=some o):Kp θ μ h θ (μ.set n c') h' :=
 ⟨fun _ _ e=>e,fun b o e _ l=>⟨k b o (fun z=>l (.inr ⟨n,p,c,hp,hn,h1,z⟩)) e,fun z=>l (Yt hn h1 z)⟩⟩
theorem qx.set {c':Cell} (w:qx T θ μ h) (hn:μ[n]?=some c) (hp:θ.cs[n]?=some p) (h1:c≠.gone) (k:∀ b o,¬(b=p.1∨b=p.2)->h.get? b=some o->h'.get? b=some o)
  (th:∀ a,(a=p.1∨a=p.2)->∃ o,h'.get? a=some o) (hc:qz T h' θ (μ.set n c') p c'):qx T θ (μ.set n c') h' where
 len:=by simp[w.len]
 exc:=fun a z l=>w.exc a z (Px hn h1 l)
 inj:=fun m k q r c1 c2 a e f k1 k2 n1 n2 z y=>by
  have old:∀ {m:Nat} {d:Cell},(μ.set n c')[m]?=some d->d≠.gone->∃ d',μ[m]?=some d'/\d'≠.gone:=fun {m d} e g=>by
   by_cases x:m=n
   .subst x;exact⟨c,hn,h1⟩
   .rw[bR (bN x)]at e;exact⟨d,e,g⟩
  obtain⟨d1,x1,y1⟩:=old k1 n1;obtain⟨d2,x2,y2⟩:=old k2 n2;exact w.inj m k q r d1 d2 a e f x1 x2 y1 y2 z y
 bnd:=fun a l=>by
  by_cases y:a=p.1∨a=p.2
  .exact th a y
  .exact let⟨o,x⟩:=w.bnd a (Yt hn h1 l);⟨o,k a o y x⟩
 cell:=fun m b q e f=>by
  by_cases y:m=n
  .subst y
   rw[hp]at f;cases f;rw[cT (cF.mp hn).1]at e;cases e;exact hc
  .rw[bR (bN y)]at e
   by_cases z:b= .gone
   .subst z;trivial
   .exact(w.cell m b q e f).mono (Dj hn hp h1 k) fun b' o z' x=>k b' o (fun y'=>y (w.inj m n q p b c b' f hp e hn z h1 z' y')) x
theorem aaf (w:qx T θ μ h) (hn:μ[n]?=some c) (h1:c≠.gone) (hp:θ.cs[n]?=some p) (z:a=p.1∨a=p.2):¬J8 θ (μ.set n .gone) a:=fun l=>by
 rcases l with l|⟨m,q,b,e,k,g,y⟩
 .exact w.exc a l ⟨n,p,c,hp,hn,h1,z⟩
 by_cases x:m=n
 .subst x
  rw[List.getElem?_set]at k;simp only[if_true]at k;split at k
  .cases k;exact g rfl
  .cases k
 .rw[bR (bN x)]at k
  exact x (w.inj m n q p b c a e hp k hn g h1 y z)
end
end DW
namespace DW
open PySem PySem.Spec PyProof.Rows
open L2 (aQ Key frs rG Loc Look Mod rH)
def Cell.fix:Cell->Bool
 | .exc _ _ _=>true| .tbl=>true|_=>false
def Exk (θ:Th) (h:Heap) (θ':Th):Prop:=(∀ b∈θ.ex,b∈θ'.ex)/\∀ b∈θ'.ex,b∈θ.ex∨h.get? b=none
theorem Exk.rfl {θ:Th} {h:Heap}:Exk θ h θ:=⟨fun _ z=>z,fun _ z=>.inl z⟩
structure G (V:Addr->Prop) (F:List Addr) (θ:Th) (μ:Mem) (s:aj) (θ':Th) (μ':Mem) (s':aj):Prop where
 pre:∀ (n:Nat) (p:Addr×Addr),θ.cs[n]?=some p->θ'.cs[n]?=some p
 keep:∀ b o,s.heap.get? b=some o->¬qy θ μ b->¬V b->¬qy θ' μ' b/\∃ sl,s'.heap.get? b=some {o with slots:=sl}/\(b∉F->sl=o.slots)
 there:∀ b o,s.heap.get? b=some o->∃ o',s'.heap.get? b=some o'
 stay:∀ (n:Nat) (c:Cell),μ[n]?=some c->c.fix=true->μ'[n]?=some c
 os:s'.os=s.os
 ex:Exk θ s.heap θ'
structure E0 (T:Top) (A:aX) (stack:List Env) (θ:Th) (μ:Mem) (s:aj):Prop where
 mod:Mod T.K T.mg T.base
 frames:A.frames=some stack
 bare:G7 s.gens
 bs:∀ b o,T.base.get? b=some o->s.heap.get? b=some o/\¬qy θ μ b
 stk:∀ e∈stack,e.scope.kind≠.module/\∃ L o es ep,e.frame=some L/\T.base.get? L=none/\s.heap.get? L=some o/\o.data= .dict es ep/\¬J8 θ μ L
 dD:qx T θ μ s.heap
 hh:∀ v,A.handled=some v->∃ (n:Nat) (p:Addr×Addr) (c:String) (ks:List String) (ds:List D),v= .ref p.1/\θ.cs[n]?=some p/\μ[n]?=some (.exc c ks ds)
structure Cx where
 T:Top
 A:aX
 N:List Str
 env:Env
 stack:List Env
 calm:Bool
 oc:Str->Bool
noncomputable abbrev Cx.M (X:Cx):Model:=aH X.T.P X.T.w
structure Cx.Ok (X:Cx):Prop where
 kind:X.env.scope.kind= .function
 glob:X.env.globals=bT
 blt:X.env.builtins=Nv
 inj:∀ x y c,X.env.cells.lookup x=some c->X.env.cells.lookup y=some c->x=y
 has:∀ x,(X.env.kindOf x=some .cell∨X.env.kindOf x=some .free)->∃ c,X.env.cells.lookup x=some c
 hd:X.calm=true->X.A.handled=none
 nbL:X.T.base.get? X.env.locals=none
 nbC:∀ x c,X.env.cells.lookup x=some c->X.T.base.get? c=none
structure Iv (X:Cx) (ρ:dJ) (θ:Th) (μ:Mem) (s:aj):Prop where
 ok:X.Ok
 e:E0 X.T X.A X.stack θ μ s
 loc:∃ m,s.heap.Ns X.env.locals m/\∀ (i:Nat) (x:Str) (d:D),X.N[i]?=some x->ρ[i]?=some (some d)->rG X.env.scope x->∃ u,Rp s.heap θ μ d u/\Look X.env s.heap m x u
 cell:∀ x c,X.env.cells.lookup x=some c->(∃ v,s.heap.IsCell c v)/\¬qy θ μ c
 nl:¬qy θ μ X.env.locals
 len:ρ.length=X.N.length
def Cx.own (X:Cx) (b:Addr):Prop:=b=X.env.locals∨∃ x,X.oc x=true/\X.env.cells.lookup x=some b
def Sto (X:Cx) (x:Str):Prop:=X.env.scope.names.lookup x=some .local∨(X.env.scope.names.lookup x=some .cell/\X.oc x=true)
noncomputable abbrev G0 (X:Cx):=G (fun _=>False) (frs X.stack)
noncomputable abbrev GS (X:Cx):=G X.own (frs X.stack)
def Fn (X:Cx) (ρ:dJ) (θ:Th) (μ:Mem) (s:aj) {α β:Type} (R:Heap->Th->Mem->α->β->Prop) (Qd:α->Mem->Prop) (Q:β->aj->Prop):Prop:=
 ∀ {d:α} {u:β} {s':aj} {θ':Th} {μ':Mem},Iv X ρ θ' μ' s'->G0 X θ μ s θ' μ' s'->R s'.heap θ' μ' d u->Qd d μ'->Q u s'
noncomputable abbrev Fin (X:Cx) (ρ:dJ) (θ:Th) (μ:Mem) (s:aj):=Fn X ρ θ μ s Rp
def Jg (X:Cx) {α β:Type} (R:Heap->Th->Mem->α->β->Prop) (t:Sem β) (w:dJ->Mem->(α->Mem->Prop)->Prop):Prop:=
 ∀ {s:aj} {ρ:dJ} {θ:Th} {μ:Mem} {Qd:α->Mem->Prop} {Q:β->aj->Prop} {E:Value->aj->Prop},Iv X ρ θ μ s->w ρ μ Qd->Fn X ρ θ μ s R Qd Q->ak X.M X.A t Q E s
def Alike {α:Type}:Heap->Th->Mem->α->α->Prop:=fun _ _ _ a b=>a=b
noncomputable abbrev WE:=dJ->Mem->QD->Prop
noncomputable abbrev WT:=dJ->Mem->(Bool->Mem->Prop)->Prop
noncomputable abbrev WA:=dJ->Mem->(List D->Mem->Prop)->Prop
noncomputable abbrev PE (X:Cx) (a:Expr) (w:WE):Prop:=Jg X Rp (eval a X.env) w
noncomputable abbrev PT (X:Cx) (a:Expr) (w:WT):Prop:=Jg X Alike (xZ a X.env (eval a X.env)) w
noncomputable abbrev PA (X:Cx) (as:List Expr) (w:WA):Prop:=∀ pos,Jg X dF (M8 (lW pos (c7 as X.env))) w
section
variable {X:Cx} {V:Addr->Prop} {F:List Addr} {ρ:dJ} {θ θ1 θ2:Th} {μ μ1 μ2:Mem} {s s1 s2:aj} {h':Heap} {tk:Nat} {T:Top} {A:aX} {stack:List Env} {b:Addr} {o:Obj} {c c':Cell} {p:Addr×Addr} {n:Nat}
theorem G.refl:G V F θ μ s θ μ s:=⟨fun _ _ e=>e,fun _ o e l _=>⟨l,o.slots,e,fun _=>rfl⟩,fun _ o e=>⟨o,e⟩,fun _ _ e _=>e,rfl,.rfl⟩
theorem G.Wr (g:G V F θ μ s θ1 μ1 s1) (hb:s1.heap.get? b=none):s.heap.get? b=none:=by
 cases e:s.heap.get? b with
 |none=>rfl|some o=>obtain⟨o',q⟩:=g.there b o e;rw[hb]at q;cases q
theorem G.trans (g:G V F θ μ s θ1 μ1 s1) (g':G V F θ1 μ1 s1 θ2 μ2 s2):G V F θ μ s θ2 μ2 s2 where
 pre:=fun n p e=>g'.pre n p (g.pre n p e)
 keep:=fun b o e l v=>
  let⟨l1,sl,e1,f1⟩:=g.keep b o e l v;let⟨l2,sl2,e2,f2⟩:=g'.keep b _ e1 l1 v
  ⟨l2,sl2,e2,fun z=>(f2 z).trans (f1 z)⟩
 there:=fun b o e=>let⟨o',e'⟩:=g.there b o e;g'.there b o' e'
 stay:=fun n c e f=>g'.stay n c (g.stay n c e f) f
 os:=g'.os.trans g.os
 ex:=⟨fun b z=>g'.ex.1 b (g.ex.1 b z),fun b z=>(g'.ex.2 b z).elim (g.ex.2 b) fun q=>.inr (g.Wr q)⟩
theorem G.wide {V':Addr->Prop} (g:G V F θ μ s θ1 μ1 s1) (hv:∀ b o,s.heap.get? b=some o->V b->V' b):G V' F θ μ s θ1 μ1 s1:=
 ⟨g.pre,fun b o e l v=>g.keep b o e l fun z=>v (hv b o e z),g.there,g.stay,g.os,g.ex⟩
theorem G.gs (g:G0 X θ μ s θ1 μ1 s1):GS X θ μ s θ1 μ1 s1:=g.wide fun _ _ _ z=>z.elim
theorem G.kp (g:G V F θ μ s θ1 μ1 s1) (hv:∀ b o,s.heap.get? b=some o->Fix o->¬V b/\b∉F):Kp θ μ s.heap θ1 μ1 s1.heap:=
 ⟨g.pre,fun b o e f l=>by obtain⟨l1,sl,e1,f1⟩:=g.keep b o e (fun z=>l (.inr z)) (hv b o e f).1;rw[f1 (hv b o e f).2]at e1;exact⟨e1,fun z=>z.elim (fun z=>l (.inl ((g.ex.2 b z).resolve_right fun q=>by rw[e]at q;cases q))) l1⟩⟩
theorem cB (k:∀ b o,s.heap.get? b=some o->h'.get? b=some o):G V F θ μ s θ μ {s with heap:=h',toks:=tk}:=
 ⟨fun _ _ e=>e,fun b o e l _=>⟨l,o.slots,k b o e,fun _=>rfl⟩,fun b o e=>⟨o,k b o e⟩,fun _ _ e _=>e,rfl,.rfl⟩
theorem alr (w:qx T θ μ s.heap) (k:∀ b o,s.heap.get? b=some o->h'.get? b=some o) (h1:s.heap.objs.size<=p.1) (h2:s.heap.objs.size<=p.2):G V F θ μ s (θ.snoc p) (μ++[c]) {s with heap:=h',toks:=tk}:=
 ⟨fun _ _ e=>jQ e,fun b o e l _=>⟨Ah w l (jL (fM (dw e) h1)) (jL (fM (dw e) h2)),o.slots,k b o e,fun _=>rfl⟩,
  fun b o e=>⟨o,k b o e⟩,fun _ _ e _=>jQ e,rfl,.rfl⟩
theorem alq (hn:μ[n]?=some c) (hp:θ.cs[n]?=some p) (h1:c≠.gone) (hf:c.fix=false) (k:∀ b o,¬(b=p.1∨b=p.2)->s.heap.get? b=some o->h'.get? b=some o)
  (th:∀ a,(a=p.1∨a=p.2)->∃ o,h'.get? a=some o):G V F θ μ s θ (μ.set n c') {s with heap:=h',toks:=tk}:=
 ⟨fun _ _ e=>e,fun b o e l _=>⟨fun z=>l (Px hn h1 z),o.slots,k b o (fun z=>l ⟨n,p,c,hp,hn,h1,z⟩) e,fun _=>rfl⟩,fun b o e=>by
  by_cases z:b=p.1∨b=p.2
  .exact th b z
  .exact⟨o,k b o z e⟩,fun m d e f=>by
  by_cases z:m=n
  .subst z;rw[hn]at e;cases e;rw[hf]at f;cases f
  .rw[bR (bN z)];exact e,rfl,.rfl⟩
theorem E0.fr (e:E0 T A stack θ μ s) (hb:b∈frs stack):T.base.get? b=none/\¬qy θ μ b/\∃ o es ep,s.heap.get? b=some o/\o.data= .dict es ep:=by obtain⟨v,hv,q⟩:=sG.mp hb;obtain⟨_,L,o,es,ep,q',nb,ho,hd,l⟩:=e.stk v hv;rw[q]at q';cases q';exact⟨nb,fun z=>l (.inr z),o,es,ep,ho,hd⟩
theorem E0.nfr (e:E0 T A stack θ μ s):s.heap.get? b=some o->Fix o->b∉frs stack:=fun h f hb=>by obtain⟨_,_,o',es,ep,h',d⟩:=e.fr hb;rw[h]at h';cases h';rcases f with⟨_,_,f⟩|⟨_,_,f⟩<;>rw[d]at f<;>cases f
theorem E0.kp (e:E0 T A stack θ μ s) (g:G (fun _=>False) (frs stack) θ μ s θ1 μ1 s1):Kp θ μ s.heap θ1 μ1 s1.heap:=g.kp fun _ _ h f=>⟨id,e.nfr h f⟩
theorem E0.bk (e:E0 T A stack θ μ s):∀ b o,T.base.get? b=some o->s.heap.get? b=some o:=fun b o q=>(e.bs b o q).1
theorem E0.vU (e:E0 T A stack θ μ s):T.K.In s.heap:=e.mod.kin.keeps e.bk
theorem E0.lim (e:E0 T A stack θ μ s):s.heap.NoLimit:=e.mod.nolimit.keeps e.bk
theorem E0.hds (e:E0 T A stack θ μ s):rH A s.heap:=fun v q=>by obtain⟨n,p,c,ks,ds,z,hp,hn⟩:=e.hh v q;obtain⟨C,o,vs,_,h1,_,_,h4,h5,_⟩:=e.dD.cell n _ p hn hp;exact⟨p.1,o,vs,z,h1,h4,h5⟩
theorem E0.to (e:E0 T A stack θ μ s) (g:G (fun _=>False) (frs stack) θ μ s θ1 μ1 s1) (w:qx T θ1 μ1 s1.heap) (hb:G7 s1.gens):E0 T A stack θ1 μ1 s1 where
 mod:=e.mod
 frames:=e.frames
 bare:=hb
 bs:=fun b o q=>by obtain⟨e1,l1⟩:=e.bs b o q;obtain⟨l2,sl,e2,f⟩:=g.keep b o e1 l1 id;rw[f fun z=>by rw[(e.fr z).1]at q;cases q]at e2;exact⟨e2,l2⟩
 stk:=fun v m=>by obtain⟨k,L,o,es,ep,f,nb,ho,hd,l⟩:=e.stk v m;obtain⟨l2,sl,e2,_⟩:=g.keep L o ho (fun z=>l (.inr z)) id;exact⟨k,L,_,es,ep,f,nb,e2,hd,fun z=>z.elim (fun z=>(g.ex.2 L z).elim (fun y=>l (.inl y)) fun q=>by rw[ho]at q;cases q) l2⟩
 dD:=w
 hh:=fun v q=>by obtain⟨n,p,c,ks,ds,z,hp,hn⟩:=e.hh v q;exact⟨n,p,c,ks,ds,z,g.pre n p hp,g.stay n _ hn rfl⟩
theorem RB {h h':Heap} {a:Addr} {m:Str->Option Value} (x:h.Ns a m) (f:∀ o,h.get? a=some o->∃ sl,h'.get? a=some {o with slots:=sl}):h'.Ns a m:=
 let⟨o,es,ep,e,r⟩:=x;let⟨_,q⟩:=f o e;⟨_,es,ep,q,r⟩
theorem JV {h h':Heap} {a:Addr} {v:Option Value} (x:h.IsCell a v) (f:∀ o,h.get? a=some o->∃ sl,h'.get? a=some {o with slots:=sl}):h'.IsCell a v:=
 let⟨o,e,r⟩:=x;let⟨_,q⟩:=f o e;⟨_,q,r⟩
theorem Iv.kp (i:Iv X ρ θ μ s) (g:G0 X θ μ s θ1 μ1 s1):Kp θ μ s.heap θ1 μ1 s1.heap:=i.e.kp g
theorem Iv.to (i:Iv X ρ θ μ s) (g:G0 X θ μ s θ1 μ1 s1) (w:qx X.T θ1 μ1 s1.heap) (hb:G7 s1.gens):Iv X ρ θ1 μ1 s1 where
 ok:=i.ok
 e:=i.e.to g w hb
 loc:=by obtain⟨m,hn,hl⟩:=i.loc;refine⟨m,RB hn fun o q=>let⟨_,sl,z,_⟩:=g.keep _ o q i.nl id;⟨sl,z⟩,fun j x d e1 e2 e3=>?_⟩;obtain⟨u,r,l⟩:=hl j x d e1 e2 e3;refine⟨u,(i.kp g).rp r,l.imp id fun⟨k,c,e,z⟩=>⟨k,c,e,JV z fun o q=>let⟨_,sl,z,_⟩:=g.keep _ o q (i.cell x c e).2 id;⟨sl,z⟩⟩⟩
 cell:=fun x c e=>by obtain⟨⟨v,z⟩,l⟩:=i.cell x c e;obtain⟨o,q,hd⟩:=id z;obtain⟨l',sl,q',_⟩:=g.keep c o q l id;exact⟨⟨v,_,q',hd⟩,l'⟩
 nl:=by obtain⟨m,⟨o,_,_,q,_⟩,_⟩:=i.loc;exact(g.keep _ o q i.nl id).1
 len:=i.len
theorem Iv.kept (i:Iv X ρ θ μ s) (k:∀ b o,s.heap.get? b=some o->h'.get? b=some o):Iv X ρ θ μ {s with heap:=h',toks:=tk}:=i.to (cB k) (i.e.dD.kept k) i.e.bare
theorem Iv.tok (i:Iv X ρ θ μ s):Iv X ρ θ μ {s with toks:=tk}:=i.kept fun _ _ e=>e
theorem Iv.dD (i:Iv X ρ θ μ s):qx X.T θ μ s.heap:=i.e.dD
theorem Iv.vU (i:Iv X ρ θ μ s):X.T.K.In s.heap:=i.e.vU
end
section
variable {X:Cx} {α β:Type} {R:Heap->Th->Mem->α->β->Prop} {ρ:dJ} {θ θ1:Th} {μ μ1:Mem} {s s1:aj} {h':Heap} {tk:Nat} {Qa:α->Mem->Prop} {Qb:β->aj->Prop} {Qd:QD} {Q:Value->aj->Prop} {d:D} {u:Value} {ds:List D} {us:List Value} {a:Addr} {c c':Cell} {p:Addr×Addr} {n:Nat} {j:Nat}
theorem Fn.mono (f:Fn X ρ θ μ s R Qa Qb) (g:G0 X θ μ s θ1 μ1 s1):Fn X ρ θ1 μ1 s1 R Qa Qb:=fun i g' r q=>f i (g.trans g') r q
theorem Fn.at {x:α} {y:β} (f:Fn X ρ θ μ s R Qa Qb) (i:Iv X ρ θ μ s) (r:R s.heap θ μ x y) (q:Qa x μ):Qb y s:=f i .refl r q
theorem Fn.hp {x:α} {y:β} (f:Fn X ρ θ μ s R Qa Qb) (i:Iv X ρ θ μ s) (k:∀ b o,s.heap.get? b=some o->h'.get? b=some o) (r:R h' θ μ x y) (q:Qa x μ):Qb y {s with heap:=h',toks:=tk}:=f (i.kept k) (cB k) r q
theorem Fn.tok {x:α} {y:β} (f:Fn X ρ θ μ s R Qa Qb) (i:Iv X ρ θ μ s) (r:R s.heap θ μ x y) (q:Qa x μ):Qb y {s with toks:=tk}:=f i.tok (cB fun _ _ e=>e) r q
def sqD:Nat->List D->D
 |0,ds=>.tup ds|1,ds=>.lst ds|_,ds=>.ro ds
theorem akT {h:Heap} (x:jR h j a us) (l:¬J8 θ μ a) (r:dF h θ μ ds us):Rp h θ μ (sqD j ds) (.ref a):=by
 match j,x with
 |0,x=>exact⟨a,us,rfl,x,l,r⟩|1,x=>exact⟨a,us,rfl,x,l,r⟩|_+2,x=>exact⟨a,us,rfl,x,l,r⟩
theorem Fn.sq (f:Fin X ρ θ μ s Qd Q) (i:Iv X ρ θ μ s) (k:∀ b o,s.heap.get? b=some o->h'.get? b=some o) (hp:s.heap.objs.size<=a) (x:jR h' j a us) (r:dF s.heap θ μ ds us) (q:Qd (sqD j ds) μ):
  Q (.ref a) {s with heap:=h',toks:=tk}:=f.hp i k (akT x (i.dD.Fj hp) ((iV k).Fi r)) q
theorem Iv.new (i:Iv X ρ θ μ s) (k:∀ b o,s.heap.get? b=some o->h'.get? b=some o) (h1:s.heap.objs.size<=p.1) (h2:s.heap.objs.size<=p.2) (th:∀ a,(a=p.1∨a=p.2)->∃ o,h'.get? a=some o)
  (hc:qz X.T h' (θ.snoc p) (μ++[c]) p c):Iv X ρ (θ.snoc p) (μ++[c]) {s with heap:=h',toks:=tk}/\G0 X θ μ s (θ.snoc p) (μ++[c]) {s with heap:=h',toks:=tk}:=by
 have g:G0 X θ μ s (θ.snoc p) (μ++[c]) {s with heap:=h',toks:=tk}:=alr i.dD k h1 h2;exact⟨i.to g (i.dD.new k h1 h2 th hc) i.e.bare,g⟩
theorem Fn.cell (f:Fin X ρ θ μ s Qd Q) (i:Iv X ρ θ μ s) (k:∀ b o,s.heap.get? b=some o->h'.get? b=some o) (h1:s.heap.objs.size<=p.1) (h2:s.heap.objs.size<=p.2) (th:∀ a,(a=p.1∨a=p.2)->∃ o,h'.get? a=some o)
  (hc:qz X.T h' (θ.snoc p) (μ++[c]) p c) (q:Qd (.loc μ.length) (μ++[c])):Q (.ref p.1) {s with heap:=h',toks:=tk}:=by
 obtain⟨i',g⟩:=i.new (tk:=tk) k h1 h2 th hc;exact f i' g (show Rp _ _ _ (.loc μ.length) _ from⟨p,rfl,by rw[<-i.dD.len];simp[Th.snoc]⟩) q
theorem Fn.newL {m:Bool} (f:Fin X ρ θ μ s Qd Q) (i:Iv X ρ θ μ s) (k:∀ b o,s.heap.get? b=some o->h'.get? b=some o) (hp:s.heap.objs.size<=a) (x:jR h' 1 a us) (r:dF s.heap θ μ ds us) (q:newL m ds μ Qd):
  Q (.ref a) {s with heap:=h',toks:=tk}:=by
 cases m with
 |false=>exact f.sq i k hp x r q|true=>obtain⟨_,o,e,_⟩:=x.fix;exact f.cell (p:=(a,a)) (c:=.lst ds) i k hp hp (fun b z=>⟨o,by rcases z with rfl|rfl<;>exact e⟩) ⟨us,x,(aeL i.dD k hp hp).Fi r,rfl⟩ q
theorem Iv.set (i:Iv X ρ θ μ s) (hn:μ[n]?=some c) (hp:θ.cs[n]?=some p) (h1:c≠.gone) (hf:c.fix=false) (k:∀ b o,¬(b=p.1∨b=p.2)->s.heap.get? b=some o->h'.get? b=some o)
  (th:∀ a,(a=p.1∨a=p.2)->∃ o,h'.get? a=some o) (hc:qz X.T h' θ (μ.set n c') p c'):
  Iv X ρ θ (μ.set n c') {s with heap:=h',toks:=tk}/\G0 X θ μ s θ (μ.set n c') {s with heap:=h',toks:=tk}:=by
 have g:G0 X θ μ s θ (μ.set n c') {s with heap:=h',toks:=tk}:=alq hn hp h1 hf k th;exact⟨i.to g (i.dD.set hn hp h1 k th hc) i.e.bare,g⟩
theorem Iv.lst {h:Heap} (i:qx X.T θ μ h) (hn:μ[n]?=some (.lst ds)) (r:Rp h θ μ (.loc n) u):∃ p us,u= .ref p.1/\θ.cs[n]?=some p/\p.2=p.1/\jR h 1 p.1 us/\dF h θ μ ds us:=by obtain⟨p,rfl,e⟩:=r;obtain⟨us,x,y,z⟩:=i.cell n _ p hn e;exact⟨p,us,rfl,e,z,x,y⟩
theorem Iv.aiw {es:List D} {vs:List Value} (i:Iv X ρ θ μ s) (hn:μ[n]?=some (.lst ds)) (hp:θ.cs[n]?=some p) (h2:p.2=p.1) (k:∀ b o,b≠p.1->s.heap.get? b=some o->h'.get? b=some o) (x:jR h' 1 p.1 vs) (r:dF s.heap θ μ es vs):
  Iv X ρ θ (μ.set n (.lst es)) {s with heap:=h',toks:=tk}/\G0 X θ μ s θ (μ.set n (.lst es)) {s with heap:=h',toks:=tk}/\Kp θ μ s.heap θ (μ.set n (.lst es)) h':=by
 obtain⟨_,o,e,_⟩:=x.fix;have k':∀ b o,¬(b=p.1∨b=p.2)->s.heap.get? b=some o->h'.get? b=some o:=fun b o z q=>k b o (fun y=>z (.inl y)) q;have kp:Kp θ μ s.heap θ (μ.set n (.lst es)) h':=Dj hn hp (by simp) k';obtain⟨i',g⟩:=i.set (tk:=tk) (c':=.lst es) hn hp (by simp) rfl k' (fun a z=>⟨o,by rcases z with rfl|rfl<;>first|exact e|(rw[h2];exact e)⟩) ⟨vs,x,kp.Fi r,h2⟩;exact⟨i',g,kp⟩
def QT:D->Nat
 | .tup _=>0| .ro _=>2|_=>1
theorem qG {h:Heap} {ν:Mem} (w:qx X.T θ ν h) (r:Rp h θ ν d u) (e:au ν d=some ds):∃ a us,u= .ref a/\jR h (QT d) a us/\dF h θ ν ds us:=by
 cases d with
 |tup es=>cases e;exact let⟨a,us,q,x,_,y⟩:=r;⟨a,us,q,x,y⟩
 |lst es=>cases e;exact let⟨a,us,q,x,_,y⟩:=r;⟨a,us,q,x,y⟩
 |ro es=>cases e;exact let⟨a,us,q,x,_,y⟩:=r;⟨a,us,q,x,y⟩
 |loc n=>
  simp only[au]at e;split at e
  .rename_i es hn
   cases e;obtain⟨p,us,q,_,_,x,y⟩:=Iv.lst w hn r;exact⟨p.1,us,q,x,y⟩
  .cases e
 |_=>cases e
end
end DW
namespace DW
open PySem PySem.Spec PyProof.Rows
open L2 (aQ Key frs rG Loc Look Mod rH cV)
def Op2 (X:Cx) (t:Value->Value->Sem Value) (w:D->D->Mem->QD->Prop):Prop:=
 ∀ {s:aj} {ρ:dJ} {θ:Th} {μ:Mem} {x y:D} {u v:Value} {Qd:QD} {Q:Value->aj->Prop} {E:Value->aj->Prop},Iv X ρ θ μ s->Rp s.heap θ μ x u->Rp s.heap θ μ y v->w x y μ Qd->Fin X ρ θ μ s Qd Q->ak X.M X.A (t u v) Q E s
def OpA (X:Cx) (t:List Value->Sem Value) (w:List D->Mem->QD->Prop):Prop:=
 ∀ {s:aj} {ρ:dJ} {θ:Th} {μ:Mem} {ds:List D} {us:List Value} {Qd:QD} {Q:Value->aj->Prop} {E:Value->aj->Prop},Iv X ρ θ μ s->dF s.heap θ μ ds us->w ds μ Qd->Fin X ρ θ μ s Qd Q->ak X.M X.A (t us) Q E s
theorem sW:lim=sizeLine:=by rw[gF];rfl
theorem Py:(sizeLine:Nat)<2 ^ 63:=by rw[gF];decide
section
variable {h:Heap} {θ:Th} {μ:Mem} {t:Tok}
theorem BX:Rp h θ μ .non .none:=rfl
theorem X8:Rp h θ μ (.bl b) (.bool b):=rfl
theorem iw:Rp h θ μ (.int i) (.int i t):=⟨t,rfl⟩
theorem jY (e:i=j):Rp h θ μ (.int i) (.int j t):=⟨t,by rw[e]⟩
theorem GR (l:x.length<=sizeLine):Rp h θ μ (.str x) (.str ⟨x.toArray⟩ t):=⟨⟨t,rfl⟩,l⟩
end
section
variable {X:Cx} {wa wb wc:WE} {a b c:Expr} {pos:Pos}
theorem aja {j:Nat} {x:Str} (hN:X.N[j]?=some x) (hv:rG X.env.scope x) (hd:(x==("__debug__":Str))=false) (hcd:(x==("__classdict__":Str))=false):PE X (.Name x pos) (wE (.var j)):=by
 intro s ρ θ μ Qd Q E i h f;rcases e:ρ[j]? with _|_|d
 .simp only[wE,e]at h
 .simp only[wE,e]at h
 .simp only[wE,e]at h
  obtain⟨m,hn,hl⟩:=i.loc;obtain⟨u,r,l⟩:=hl j x d hN e hv;have q:=f.at i r h;rcases l with⟨hk,hm⟩|⟨hk,c,hc,hcell⟩
  .exact UG (ac8 i.ok.kind hk hn hm q) hd
  .rcases hk with hk|hk
   .exact UG (acY i.ok.kind hk hc hcell q) hd
   .exact UG (wpAny_loadName_free i.ok.kind hk hc hcell q hcd) hd
def Gl (X:Cx) (x:Str):Prop:=X.env.kindOf x=some .globalImplicit
variable {ρ:dJ} {θ:Th} {μ:Mem} {s:aj} {x:Str} {u:Value} {Q:Value->aj->Prop} {E:Value->aj->Prop}
theorem vR (i:Iv X ρ θ μ s) (hg:Gl X x) (hm:X.T.mg x=some u) (hd:(x==("__debug__":Str))=false) (h:Q u s):ak X.M X.A (eval (.Name x pos) X.env) Q E s:=
 adP i.ok.kind hg (Calls.loadGlobal_global (by rw[i.ok.glob];exact i.e.mod.glob.keeps i.e.bk) hm h) hd
theorem mz (i:Iv X ρ θ μ s) (hg:Gl X x) (hm:X.T.mg x=none) (hv:Cm x=some u) (hn:x≠"__name__") (hd:(x==("__debug__":Str))=false) (h:Q u s):ak X.M X.A (eval (.Name x pos) X.env) Q E s:=by obtain⟨mb,h1,h2⟩:=i.e.mod.blt;exact adP i.ok.kind hg (Calls.loadGlobal_builtin (by rw[i.ok.glob];exact i.e.mod.glob.keeps i.e.bk) hm (by rw[i.ok.blt];exact h1.keeps i.e.bk) ((h2 x hn).trans hv) h) hd
theorem ahF {i j:Int} (h:afJ i j):IntMulOk i j:=by
 rcases h with⟨h1,h2⟩|⟨h1,h2⟩
 .exact .of_left (intBits_le_64 h1 h2)
 .exact .of_right (intBits_le_64 h1 h2)
theorem cM {h:Heap} {us:List Value} {a:Addr} (x:jR h 0 a us):IsTup h a us.toArray:=let⟨_,o,n,e,c,d,_⟩:=x;⟨o,e,c,n,d⟩
theorem eU {h:Heap} {us:List Value} {a:Addr} {k:Nat} (x:jR h k a us) (hk:k≠0):PlainL h a us.toArray:=by
 match k,x,hk with
 |0,_,hk=>exact absurd rfl hk|1,⟨_,n,e⟩,_=>exact⟨_,n,e,rfl,rfl,rfl⟩|_+2,⟨_,z⟩,_=>exact z
theorem af2 {A:aX} {t b:Addr} {vs ws:List Value} (ht:jR s.heap 0 t vs) (hb:jR s.heap 0 b ws) (h0:vs=[]->Q (.ref b) s) (h1:vs≠[]->ws=[]->Q (.ref t) s)
  (h2:vs≠[]->ws≠[]->Q (.ref s.heap.objs.size) {s with heap:=s.heap.push {cls:=.type "tuple",data:=.seq (vs++ws).toArray}}) (hsz:vs.length+ws.length<=sizeLine):
  ak X.M A (yj .Add (.ref t) (.ref b)) Q E s:=by
 obtain⟨_,⟨c1,d1,a1,s1⟩,n1,g1,e1,f1,_⟩:=ht;obtain⟨_,⟨c2,d2,a2,s2⟩,n2,g2,e2,f2,_⟩:=hb;cases e1;cases f1;cases e2;cases f2;by_cases h:vs=[]
 .subst h
  exact U8 ⟨_,g1,rfl⟩ ⟨_,g2,rfl⟩ Vy Vh V7 V9 (Wb _ _) (tuple_addW0 t b _ ws.toArray n1 n2 d1 d2 s1 s2 rfl) ⟨g1,g2,h0 rfl⟩
 .by_cases hw:ws=[]
  .exact U8 ⟨_,g1,rfl⟩ ⟨_,g2,rfl⟩ Vy Vh V7 V9 (Wb _ _)
    (tuple_addW1 t b vs.toArray ws.toArray n1 n2 d1 d2 s1 s2 (by simpa using h) (by simp[hw])) ⟨g1,g2,h1 h hw⟩
  .refine U8 ⟨_,g1,rfl⟩ ⟨_,g2,rfl⟩ Vy Vh V7 V9 (Wb _ _)
    (tuple_addW2 t b vs.toArray ws.toArray n1 n2 d1 d2 s1 s2 (by simpa using h) (by simpa using hw) (by rw[cJ,cJ];exact hsz)) ⟨g1,g2,?_⟩
   rw[show vs.toArray++ws.toArray=(vs++ws).toArray by simp];exact h2 h hw
theorem oG (h:Heap) {us:List Value} (l:us.length<=sizeLine):jR (h.push {cls:=.type "list",data:=.seq us.toArray}) 1 h.objs.size us/\jR (h.push {cls:=.type "tuple",data:=.seq us.toArray}) 0 h.objs.size us:=
 ⟨⟨l,_,dW _ rfl⟩,l,_,_,dW _ rfl,rfl,rfl,rfl⟩
theorem cU {h:Heap} {o:Obj}:∀ b o',h.get? b=some o'->(h.push o).get? b=some o':=fun _ _ e=>bV _ e
theorem agb {A:aX} {x:List Nat} {n:Int} {t t':Tok} (h:0<=n/\n<=1000/\1<=x.length/\x.length<=1000) (q:∀ t k,Q (.str ⟨(aV n.toNat x).flatten.toArray⟩ t) {s with toks:=k}):
  (aV n.toNat x).flatten.length<=sizeLine/\ak X.M A (yj .Mult (.str ⟨x.toArray⟩ t) (.int n t')) Q E s:=by
 obtain⟨n2,n3,a1,a2⟩:=h;have hal:(⟨x.toArray⟩:Str).length=x.length:=by simp[fP]
 have alk:∀ (m:Nat) (acc:Array Nat),((aV m x.toArray).foldl (·++·) acc).toList=acc.toList++(aV m x).flatten:=by
  intro m;induction m with
  |zero=>intro acc;simp|succ m ih=>intro acc;rw[yN,lA,ih];simp[yN]
 have hle:n.toNat*x.length<=1000*1000:=abX (by omega) a2;have SN:(aV n.toNat x).flatten.length<=sizeLine:=by rw[show(aV n.toNat x).flatten.length=n.toNat*x.length by simp,gF];omega
 have e:(⟨(aV n.toNat (⟨x.toArray⟩:Str).cps).foldl (·++·) #[]⟩:Str)=⟨(aV n.toNat x).flatten.toArray⟩:=by have:=alk n.toNat #[];congr 1;apply Vx.mp;simpa using this
 refine⟨SN,PySem.P.mul_str (by rw[decide_eq_false (by omega),decide_eq_false (by omega)];rfl) (fun _ _=>?_) (fun _ _=>?_) ?_⟩
 .rw[hal]
  have:(1000:Int)<=(2 ^ 63 -1)/n:=(Int.le_ediv_iff_mul_le (by omega)).mpr (by omega);omega
 .rw[hal]
  have h3:x.length*n.toNat<=1000000:=by rw[abI];omega
  unfold aiK;exact decide_eq_false (Nat.not_lt.mpr (jc h3 (by rw[gF];decide)))
 .by_cases n0:n=0
  .subst n0
   exact⟨by decide,q _ _⟩
  by_cases n1:n=1
  .subst n1
   have z:=q t s.toks;rw[show(aV (1:Int).toNat x).flatten=x by simp]at z;exact z
  rw[if_neg (by omega),if_neg (by rw[hal];simp only[uQ,beq_iff_eq];omega),e];exact⟨by simpa[fP]using SN,q _ _⟩
theorem ahv {A:aX} {op:jl} {i j:Int} {t t':Tok} {Qd:QD} (hw:lq op (.int i) (.int j) μ Qd) (q:∀ k,Qd (.int k) μ->Q (.int k s.toks) {s with toks:=s.toks+1}):ak X.M A (yj op (.int i t) (.int j t')) Q E s:=by
 cases op with
 |Add=>exact add_int (q _ hw)|Sub=>exact sub_int (q _ hw)|Mult=>exact mul_int (q _ hw.2) (ahF hw.1)|FloorDiv=>
  obtain⟨⟨h1,h2⟩,hw⟩:=hw;refine floordiv_int (by omega) ?_ (.inl (adH ?_))
  .rw[Wg i (by omega)];exact q _ hw
  .have h4:j.natAbs≠0:=by omega
   have:=(abD h4).mpr (show j.natAbs<2 ^ 500 by omega);omega
 |Mod=>obtain⟨h1,hw⟩:=hw;exact mod_int' (by omega) (by rw[adO i (by omega)];exact q _ hw)|Pow=>exact pow_int_small hw.1.1 hw.1.2.1 hw.1.2.2 (q _ hw.2)|LShift=>obtain⟨h1,hw⟩:=hw;exact lshift_int_small h1.1 (by omega) h1.2.2 (q _ hw)|RShift=>obtain⟨h1,hw⟩:=hw;refine rshift_int h1 ?_;rw[Wg i (Int.le_of_lt (Int.pow_pos (by decide)))];exact q _ hw|BitAnd=>
  obtain⟨⟨h0,rfl⟩,hw⟩:=hw;refine and_int ?_;have e:Vk i 1=i%2:=by obtain⟨n,rfl⟩:=Int.eq_ofNat_of_zero_le h0;rw[show Vk (n:Int) 1=((n&&&1:Nat):Int) by unfold Vk;simp,Nat.and_one_is_mod];omega
  rw[e];exact q _ hw
 |_=>exact hw.elim
theorem akb (op:jl):Op2 X (yj op) (lq op):=by
 intro s ρ θ μ x y u v Qd Q E I rx ry hw f
 match x,y,hw with
 | .int i,.int j,hw=>obtain⟨t,rfl⟩:=rx;obtain⟨t',rfl⟩:=ry;exact ahv hw fun k z=>f.tok I iw z
 | .str a,.str b,hw=>
  obtain⟨⟨t,rfl⟩,hx⟩:=rx;obtain⟨⟨t',rfl⟩,hy⟩:=ry;cases op with
  |Add=>
   (have hl:(a++b).length<=sizeLine:=by rw[gV,<-sW];exact hw.1);refine add_str (fun t' k=>?_) (by rw[<-sW];show a.toArray.size+b.toArray.size<=_;simpa using hw.1);have e:(⟨a.toArray⟩++⟨b.toArray⟩:Str)=⟨(a++b).toArray⟩:=by show Str.mk (a.toArray++b.toArray)=_;simp
   rw[e];exact f.tok I (GR hl) hw.2
  |_=>exact hw.elim
 | .str a,.int n,hw=>
  obtain⟨⟨t,rfl⟩,hx⟩:=rx;obtain⟨t',rfl⟩:=ry;cases op with
  |Mult=>obtain⟨hl,z⟩:=agb (X:=X) (A:=X.A) (Q:=fun v s'=>(∃ t k,v= .str ⟨(aV n.toNat a).flatten.toArray⟩ t/\s'={s with toks:=k})) (E:=E) (t:=t) (t':=t') hw.1 fun t k=>⟨t,k,rfl,rfl⟩;exact oX z (fun v s' ⟨t,k,e,e'⟩=>by subst e e';exact f.tok I (GR hl) hw.2) fun _ _ z=>z
  |_=>exact hw.elim
 | .lst a,.lst b,hw=>
  obtain⟨p,us,rfl,⟨_,n,e⟩,_,r1⟩:=rx;obtain⟨p',us',rfl,⟨_,n',e'⟩,_,r2⟩:=ry;cases op with
  |Add=>(have l:(us++us').length<=sizeLine:=by rw[gV,r1.length,r2.length,<-sW];exact hw.1);refine acq e e' ?_ (by simpa using l);rw[show us.toArray++us'.toArray=(us++us').toArray by simp];exact f.sq I cU (aL _) (oG _ l).1 (r1.append r2) hw.2|_=>exact hw.elim
 | .tup a,.tup b,hw=>
  have rx':=rx;have ry':=ry;obtain⟨p,us,rfl,x1,_,r1⟩:=rx;obtain⟨p',us',rfl,x2,_,r2⟩:=ry;cases op with
  |Add=>
   (have l:us.length+us'.length<=sizeLine:=by rw[r1.length,r2.length,<-sW];exact hw.1);refine af2 x1 x2 (fun z=>?_) (fun _ z=>?_) (fun _ _=>f.sq I cU (aL _) (oG _ (by simpa using l)).2 (r1.append r2) hw.2) l
   .have e:a=[]:=mR.mp (by rw[<-r1.length,z];rfl)
    subst e;exact f.at I ry' hw.2
   .have e:b=[]:=mR.mp (by rw[<-r2.length,z];rfl)
    subst e;exact f.at I rx' (by have:=hw.2;rwa[uP]at this)
  |_=>exact hw.elim
theorem ajm {op:jl} (ha:PE X a wa) (hb:PE X b wb):PE X (.BinOp a op b pos) (fun ρ μ Q=>wa ρ μ fun x μ1=>wb ρ μ1 fun y μ2=>lq op x y μ2 Q):=fun i h f=>wpAny_BinOp (ha i h fun i1 g1 r1 h1=>hb i1 h1 fun i2 g2 r2 h2=>akb op i2 ((i1.kp g2).rp r1) r2 h2 (f.mono (g1.trans g2)))
end
end DW
namespace DW
open PySem PySem.Spec PyProof.Rows
open L2 (aQ Key frs rG Loc Look Mod rH cV)
mutual
noncomputable def pd:D->PyData
 | .non=>.none| .bl b=>.bool b| .int i=>.int i| .str x=>.str ⟨x.toArray⟩| .tup ds=>.tuple (Lh ds)| .lst ds=>.list (Lh ds)|_=>.none
noncomputable def Lh:List D->List PyData
 |[]=>[]|d::ds=>pd d::Lh ds
end
mutual
theorem eO:∀ (n:Nat) (d:D),flat n d=true->(pd d).canLay0=true
 |_,.non,_=>by simp[pd,Cu]|_,.bl _,_=>by simp[pd,Cu]|_,.int _,_=>by simp[pd,Cu]|_,.str x,h=>by simp only[pd,Cu,PyData.strOk];simpa[flat]using h|n+1,.tup ds,h=>by simp only[pd,Cu];exact zq n ds (by simpa[flat]using h)|n+1,.lst ds,h=>by simp only[pd,Cu];exact zq n ds (by simpa[flat]using h)|0,.tup _,h=>by simp[flat]at h|0,.lst _,h=>by simp[flat]at h|_,.ro _,h=>by simp[flat]at h|_,.loc _,h=>by simp[flat]at h|_,.vV _ _,h=>by simp[flat]at h
theorem zq:∀ (n:Nat) (ds:List D),flats n ds=true->VH (Lh ds)=true
 |_,[],_=>by simp[Lh,VH]|n,d::ds,h=>by
  have h':flat n d=true/\flats n ds=true:=by simpa[flats]using h
  simp only[Lh,VH,eO n d h'.1,zq n ds h'.2,abP]
end
mutual
theorem Bl:∀ (n:Nat) (d:D),flat n d=true->(pd d).depth<=n
 |_,.non,_=>by simp[pd,Ck]|_,.bl _,_=>by simp[pd,Ck]|_,.int _,_=>by simp[pd,Ck]|_,.str x,h=>by simp[pd,Ck]|n+1,.tup ds,h=>by simp only[pd,Ck];have:=Dy n ds (by simpa[flat]using h);omega|n+1,.lst ds,h=>by simp only[pd,Ck];have:=Dy n ds (by simpa[flat]using h);omega|0,.tup _,h=>by simp[flat]at h|0,.lst _,h=>by simp[flat]at h|_,.ro _,h=>by simp[flat]at h|_,.loc _,h=>by simp[flat]at h|_,.vV _ _,h=>by simp[flat]at h
theorem Dy:∀ (n:Nat) (ds:List D),flats n ds=true->Vo (Lh ds)<=n
 |_,[],_=>by simp[Lh,Vo]|n,d::ds,h=>by
  have h':flat n d=true/\flats n ds=true:=by simpa[flats]using h
  simp only[Lh,Vo];have h1:=Bl n d h'.1;have h2:=Dy n ds h'.2;omega
end
theorem Gy (x y:List Nat):((⟨x.toArray⟩:Str)==⟨y.toArray⟩)=(x==y):=by
 by_cases h:x=y
 .subst h;simp
 .have h1:¬(⟨x.toArray⟩:Str)=⟨y.toArray⟩:=fun e=>h (by injection e with e;simpa using congrArg Hs e)
  rw[beq_eq_false_iff_ne.mpr h1,beq_eq_false_iff_ne.mpr h]
mutual
theorem zj:∀ (n m:Nat) (d e:D),flat n d=true->flat m e=true->oW (pd d) (pd e)=kO d e
 |_,_,.non,e,_,he=>by cases e<;>simp_all[pd,oW,kO,flat]
 |_,_,.bl a,e,_,he=>by cases e<;>simp_all[pd,oW,kO,flat,b2i]
 |_,_,.int i,e,_,he=>by cases e<;>simp_all[pd,oW,kO,flat,b2i]
 |_,_,.str x,e,_,he=>by cases e<;>simp_all[pd,oW,kO,flat,Gy]
 |n+1,m,.tup ds,e,hd,he=>by
  cases e with
  |tup es=>
   cases m with
   |zero=>simp[flat]at he|succ m=>simp only[pd,oW,kO];exact Qp n m ds es (by simpa[flat]using hd) (by simpa[flat]using he)
  |_=>simp_all[pd,oW,kO,flat]
 |n+1,m,.lst ds,e,hd,he=>by
  cases e with
  |lst es=>
   cases m with
   |zero=>simp[flat]at he|succ m=>simp only[pd,oW,kO];exact Qp n m ds es (by simpa[flat]using hd) (by simpa[flat]using he)
  |_=>simp_all[pd,oW,kO,flat]
 |0,_,.tup _,_,h,_=>by simp[flat]at h|0,_,.lst _,_,h,_=>by simp[flat]at h|_,_,.ro _,_,h,_=>by simp[flat]at h|_,_,.loc _,_,h,_=>by simp[flat]at h|_,_,.vV _ _,_,h,_=>by simp[flat]at h
theorem Qp:∀ (n m:Nat) (ds es:List D),flats n ds=true->flats m es=true->N7 (Lh ds) (Lh es)=Jx ds es
 |_,_,[],es,_,_=>by cases es<;>simp[Lh,N7,Jx]
 |n,m,d::ds,es,hd,he=>by
  cases es with
  |nil=>simp[Lh,N7,Jx]|cons e es=>(have hd':flat n d=true/\flats n ds=true:=by simpa[flats]using hd);(have he':flat m e=true/\flats m es=true:=by simpa[flats]using he);simp only[Lh,N7,Jx];rw[zj n m d e hd'.1 he'.1,Qp n m ds es hd'.2 he'.2]
end
section
variable {h:Heap} {θ:Th} {μ:Mem}
mutual
theorem fJ:∀ (n:Nat) (d:D) (u:Value),Rp h θ μ d u->flat n d=true->∃ as,Reads h u (pd d) as
 |_,.non,_,r,_=>by cases(show _=iB from r);exact⟨_,by unfold pd;exact .none⟩
 |_,.bl b,_,r,_=>by cases(show _=iG b from r);exact⟨_,by unfold pd;exact .bool b⟩
 |_,.int i,_,r,_=>by obtain⟨t,rfl⟩:=r;exact⟨_,by unfold pd;exact .int i t⟩|_,.str x,_,r,_=>by obtain⟨⟨t,rfl⟩,_⟩:=r;exact⟨_,by unfold pd;exact .str _ t⟩|n+1,.tup ds,_,⟨a,us,e,⟨_,o,k,ho,hc,hd,_⟩,_,rs⟩,f=>by obtain⟨as,ra⟩:=uG n ds us rs (by simpa[flat]using f);exact⟨as,by rw[e];unfold pd;exact .tuple ho hc hd (by simpa using ra)⟩|n+1,.lst ds,_,⟨a,us,e,⟨_,k,ho⟩,_,rs⟩,f=>by obtain⟨as,ra⟩:=uG n ds us rs (by simpa[flat]using f);exact⟨a::as,by rw[e];unfold pd;exact .list ho rfl rfl (by simpa using ra)⟩|0,.tup _,_,_,f=>by simp[flat]at f|0,.lst _,_,_,f=>by simp[flat]at f|_,.ro _,_,_,f=>by simp[flat]at f|_,.loc _,_,_,f=>by simp[flat]at f|_,.vV _ _,_,_,f=>by simp[flat]at f
theorem uG:∀ (n:Nat) (ds:List D) (us:List Value),dF h θ μ ds us->flats n ds=true->∃ as,ReadsAll h us (Lh ds) as
 |_,[],us,r,_=>by cases(show _=[]from r);exact⟨_,by unfold Lh;exact .nil⟩
 |n,d::ds,_,⟨u,r,e,h1,h2⟩,f=>by
  have f':flat n d=true/\flats n ds=true:=by simpa[flats]using f
  obtain⟨as,ra⟩:=fJ n d u h1 f'.1;obtain⟨bs,rb⟩:=uG n ds r h2 f'.2;exact⟨as++bs,by rw[e];unfold Lh;exact .cons ra rb⟩
end
end
theorem FZ:∀ (x y:List Nat),ig x y=decide (x<y)
 |[],[]=>by simp[ig]|[],_::_=>by simp[ig]|_::_,[]=>by simp[ig]|a::x,b::y=>by
  unfold ig;by_cases h:a=b
  .subst h
   rw[if_pos rfl,FZ x y];simp[O6]
  .rw[if_neg h]
   simp[O6,h]
def SV (u:Value) (d:D):Prop:=(∃ i t,u= .int i t/\d= .int i)∨∃ x t,u= .str ⟨x.toArray⟩ t/\d= .str x
noncomputable abbrev SVs:List Value->List D->Prop:=Paired SV
theorem akO (h:SV u d) (k:SV v e):xY A s u v (kO d e):=by
 rcases h with⟨i,t,rfl,rfl⟩|⟨x,t,rfl,rfl⟩
 .rcases k with⟨j,t',rfl,rfl⟩|⟨y,t',rfl,rfl⟩
  .simp only[kO];exact acP i t j t'
  .simp only[kO];exact acR i t _ t'
 .rcases k with⟨j,t',rfl,rfl⟩|⟨y,t',rfl,rfl⟩
  .simp only[kO];exact acQ _ t j t'
  .simp only[kO];rw[<-Gy];exact acO _ t _ t'
theorem akN (h:SV u d) (k:SV v e) (hb:Et d e=some b) (prog:cg) (w:bA) (E:Value->aj->Prop) (Q:Value->aj->Prop) (q:Q (.bool b) s):
  ak (aH prog w) A (U4 .Lt u v) Q E s:=by
 rcases h with⟨i,t,rfl,rfl⟩|⟨x,t,rfl,rfl⟩
 .rcases k with⟨j,t',rfl,rfl⟩|⟨y,t',rfl,rfl⟩
  .simp only[Et,nH]at hb
   subst hb;exact(abC q:ak (aH prog w) A (j7 .Lt (.int i t) (.int j t')) Q E s)
  .simp[Et]at hb
 .rcases k with⟨j,t',rfl,rfl⟩|⟨y,t',rfl,rfl⟩
  .simp[Et]at hb
  .simp only[Et,nH]at hb
   subst hb;rw[FZ]at q;exact(PySem.P.lt_str (by simpa using q):ak (aH prog w) A (j7 .Lt (.str ⟨x.toArray⟩ t) (.str ⟨y.toArray⟩ t')) Q E s)
section
open PySem.SeqAt
open PySem.AutoSeq1 (wpAny_loadPart')
open PySem.MeetsSeq PySem.MeetsSeq2 PySem.MeetsSeq3
theorem ZS (d e:D) (ds es:List D):wu (d::ds) (e::es)=if kO d e then wu ds es else Et d e:=by rw[wu]
theorem Rg (l b:Addr) (items items2:Array Value) (n n2:Nat) (dd dd2:Option Addr) (sl sl2:Array (Option Value)) (ns ms:List D) (r:Bool) (hi:SVs items.toList ns) (hj:SVs items2.toList ms) (hr:wu ns ms=some r):
  yd (nq.«tuple.__lt__» ⟨[.ref l,.ref b],[]⟩)
   (fun _ R s=>s.heap.get? l=some {cls:=.type "tuple",dict:=dd,data:=.seq items n,slots:=sl}/\s.heap.get? b=some {cls:=.type "tuple",dict:=dd2,data:=.seq items2 n2,slots:=sl2}/\
    R (.ok (.ret (.bool r))) s):=
 .of_wp fun prog w A R s h=>by
  obtain⟨hp,g,d,tk,os⟩:=s;obtain⟨hl,hb,h⟩:=h;have f2:=adG;have z1:items.size=ns.length:=by rw[<-abO hi];simp
  have z2:items2.size=ms.length:=by rw[<-abO hj];simp
  wp_walk using tO hl,tO hb,acp _ (fun rest b s'=>b.1=none/\s'=⟨hp,g,d,tk,os⟩/\∃ (vs ws:List Value) (ns' ms':List D),rest=vs.zip ws/\
   SVs vs ns'/\SVs ws ms'/\ns'.length+items2.size=ms'.length+items.size/\wu ns' ms'=some r) _
  case turn=>
   rintro⟨y,x⟩ rest b s' ⟨hb',rfl,vs,ws,ns',ms',hz,hvi,hwi,hlen,hR⟩;cases hvi with
   |nil=>rw[HY]at hz;cases hz
   | @cons u du vs' aoc hu amL=>
    cases hwi with
    |nil=>rw[acN]at hz;cases hz
    | @cons v dv ws' aof hv amK=>
     rw[uX]at hz;injection hz with hyx hrest;injection hyx with hy hx;subst hy hx;rw[ZS]at hR;simp only[aY]at hlen;have he:=akO (A:=A.in1) (s:=⟨hp,g,d,tk,os⟩) hu hv;refine ao (he prog w _ _ ?_);cases e:kO du dv with
     |true=>
      rw[e,if_pos rfl]at hR
      wp_walk
      exact⟨rfl,rfl,_,_,_,_,hrest,amL,amK,by omega,hR⟩
     |false=>
      rw[e,if_neg dM]at hR;have hri:=akN (A:=A.in1) (s:=⟨hp,g,d,tk,os⟩) hu hv hR prog w
      wp_walk using hri
      exact⟨_,rfl,by simpa using h⟩
  case fin=>
   rintro⟨b1,b2⟩ s' ⟨hb',rfl,vs,ws,ns',ms',hz,hvi,hwi,hlen,hR⟩;simp only at hb';subst hb';have hv:r=decide (items.size<items2.size):=by
    cases hvi with
    |nil=>
     cases hwi with
     |nil=>simp only[bB]at hlen;simp[wu]at hR;rw[hR];exact(decide_eq_false (by omega)).symm|cons hu hw=>simp only[bB,aY]at hlen;simp[wu]at hR;rw[hR];exact(decide_eq_true (by omega)).symm
    |cons hu hv=>
     cases hwi with
     |nil=>simp only[bB,aY]at hlen;simp[wu]at hR;rw[hR];exact(decide_eq_false (by omega)).symm|cons hu' hw=>rw[uX]at hz;cases hz
   rw[hv]at h
   wp_walk
   exact⟨_,rfl,by simpa[aiS]using h⟩
  case h=>exact⟨rfl,rfl,items.toList,items2.toList,ns,ms,rfl,hi,hj,by omega,hr⟩
end
theorem RQ {prog:cg} {w:bA} {A:aX} {E:Value->aj->Prop} {s:aj} {l b:Addr} {items items2:Array Value} {ns ms:List D} {r:Bool} {Q:Value->aj->Prop} (hl:IsTup s.heap l items) (hb:IsTup s.heap b items2) (hi:SVs items.toList ns) (hj:SVs items2.toList ms)
  (hr:wu ns ms=some r) (hu:A.units<cLine) (h:Q (.bool r) s):ak (aH prog w) A (j7 .Lt (.ref l) (.ref b)) Q E s:=by
 obtain⟨⟨cls,dd,data,sl⟩,ho,hc,n,hd⟩:=id hl;obtain⟨⟨cls2,dd2,data2,sl2⟩,ho2,hc2,n2,hd2⟩:=id hb;simp only at hc hd hc2 hd2;subst hc hd hc2 hd2;exact richCompare_meets_room (op:=.Lt) ⟨_,ho,rfl⟩ ⟨_,ho2,rfl⟩ PySem.F.slot_tuple_lt PySem.F.entry_tuple_lt (PySem.F.args_tuple_lt_2 _ _) (Rg l b items items2 n n2 dd dd2 sl sl2 ns ms r hi hj hr)
  ⟨ho,ho2,show iG r≠Value.notImplemented/\Q (.bool r) s from⟨(fun x=>nomatch x),h⟩⟩ hu
end DW
namespace DW
open PySem PySem.Spec PyProof.Rows
open L2 (aQ Key frs rG Loc Look Mod rH cV)
section
variable {h:Heap} {θ:Th} {μ:Mem} {T:Top} {d:D} {ds:List D} {u:Value} {us:List Value} {a:Addr} {k:nF}
theorem qW:∀ {a b:nF},keyOf a=keyOf b->a=b
 | .inl _,.inl _,h=>by simp only[keyOf,Sum.inl.injEq]at h;rw[h]| .inl _,.inr _,h=>by cases h
 | .inr _,.inl _,h=>by cases h
 | .inr _,.inr _,h=>by simp only[keyOf,Sum.inr.injEq,abH]at h;exact congrArg _ (by simpa using congrArg Hs h)
theorem sX {a b:List nF} (h:a.map keyOf=b.map keyOf):a=b:=List.map_inj_right (fun _ _=>qW)|>.mp h
theorem key_is {P:cg} {w:bA} (e:Fo d=some k) (r:Rp h θ μ d u):(aQ P w).is (keyOf k) u=true:=by
 cases d with
 |int i=>cases e;obtain⟨t,rfl⟩:=r;exact L2.RP P w i t
 |str x=>cases e;obtain⟨⟨t,rfl⟩,_⟩:=r;exact L2.RN P w _ t
 |_=>cases e
theorem R4 {P:cg} {w:bA}:∀ {ds:List D} {ks:List nF} {us:List Value},lH ds=some ks->dF h θ μ ds us->ItemsAre (aQ P w) (ks.map keyOf) us
 |[],ks,us,e,r=>by cases e;cases(show us=[]from r);exact .nil
 |d::ds,ks,us,e,⟨u,r,q,x,y⟩=>by
  simp only[lH]at e;split at e
  .rename_i k hk
   cases e':lH ds with
   |none=>rw[e']at e;cases e
   |some ks'=>rw[e']at e;cases e;rw[q];exact .cons (key_is hk x) (R4 e' y)
  .cases e
theorem zF {P:cg} {w:bA} {ks:List nF} (e:lH ds=some ks) (r:Rp h θ μ (.tup ds) (.ref a)):(Nr (aQ P w)).is h (ks.map keyOf) a:=by obtain⟨b,us,q,⟨_,o,n,h1,h2,h3,_⟩,_,rs⟩:=r;cases q;exact⟨o,us.toArray,n,h1,h2,h3,by simpa using R4 e rs⟩
theorem I5:∀ ks:List nF,lH (ks.map kD)=some ks
 |[]=>rfl| .inl i::ks=>by simp[lH,Fo,kD,I5 ks]| .inr x::ks=>by simp[lH,Fo,kD,I5 ks]
theorem ahQ:∀ {ds:List D} {ks:List nF},lH ds=some ks->ds=ks.map kD
 |[],_,e=>by cases e;rfl
 |d::ds,ks,e=>by
  simp only[lH]at e;split at e
  .rename_i k hk
   cases e':lH ds with
   |none=>rw[e']at e;cases e
   |some ks' =>rw[e']at e;cases e;rw[aW,<-ahQ e'];cases d<;>cases hk<;>rfl
  .cases e
theorem J6.of {ks:List (List nF)} (x:J6 T h θ μ a ks ds):∃ xs:List (List Key×Addr×Value),h.DictOfH (Nr (aQ T.P T.w)) a xs/\
  xs.length<=sizeLine/\(a==rQ)=false/\dF h θ μ (ks.map fun k=>.tup (k.map kD)) (xs.map fun x=>.ref x.2.1)/\xs.map (·.1)=ks.map (·.map keyOf)/\dF h θ μ ds (xs.map (·.2.2)):=by
 obtain⟨xs,⟨o,es,ep,h1,h2,h3,h4,h5⟩,l,y,t,k,z⟩:=x;refine⟨xs,⟨o,es,ep,h1,h2,h3,h4,fun x hx=>?_,h5⟩,l,y,t,k,z⟩;obtain⟨j,hj⟩:=List.getElem?_of_mem hx;have e:(ks.map (·.map keyOf))[j]?=some x.1:=by rw[<-k,fW,hj];rfl
 rw[fW]at e;obtain⟨q,hq,e⟩:=yP.mp e;obtain⟨u,hu,r⟩:=t.get (i:=j) (d:=.tup (q.map kD)) (by rw[fW,hq];rfl);rw[fW,hj]at hu;cases hu;rw[<-e];exact zF (I5 q) r
theorem Bj {β κ κ':Type} [DecidableEq κ] [DecidableEq κ'] (f:κ->κ') (inj:∀ a b,f a=f b->a=b) (key:β->κ') (val:β->Value):∀ (ks:List κ) (ds:List D) (l:List β) (k:κ),l.map key=ks.map f->dF h θ μ ds (l.map val)->
  (∀ d,fY ks ds k=some d->∃ x,l.find? (fun x=>decide (key x=f k))=some x/\Rp h θ μ d (val x))/\(l.find? fun x=>decide (key x=f k)).isSome=SQ ks k/\(fY ks ds k=none->l.find? (fun x=>decide (key x=f k))=none)
 |[],ds,l,k,e,_=>by cases(show l=[] by simpa using e);exact⟨fun d q=>by simp[fY]at q,by simp[SQ],fun _=>rfl⟩
 |c::ks,[],[],_,e,_=>by simp at e|c::ks,[],x::l,_,_,r=>by simp[dF]at r|c::ks,d::ds,[],_,e,_=>by simp at e|c::ks,d::ds,x::l,k,e,⟨u,r,q,h1,h2⟩=>by
  simp only[aW,eH]at e q;obtain⟨rfl,rfl⟩:=q;obtain⟨i1,i2,i3⟩:=Bj f inj key val ks ds l k e.2 h2;rw[List.find?_cons];by_cases z:c=k
  .subst z
   simp only[e.1,decide_true,fY,if_true,acM];exact⟨fun d' y=>by cases y;exact⟨x,rfl,h1⟩,by simp[SQ],fun y=>by cases y⟩
  .simp only[e.1,decide_eq_false (fun y=>z (inj _ _ y)),fY,if_neg z]
   exact⟨i1,by rw[i2];simp[SQ,bN z],i3⟩
end
section
variable {X:Cx} {ρ:dJ} {θ:Th} {μ:Mem} {s:aj} {d e:D} {u v:Value} {ds:List D} {Qd:QD} {Q:Value->aj->Prop} {E:Value->aj->Prop} {a:Addr} {k:Nat} {A:aX}
theorem akM {h:Heap} (r:Rp h θ μ d u) (e:sc2 d=true):SV u d:=by
 cases d with
 |int i=>obtain⟨t,rfl⟩:=r;exact .inl ⟨i,t,rfl,rfl⟩|str x=>obtain⟨⟨t,rfl⟩,_⟩:=r;exact .inr ⟨x,t,rfl,rfl⟩|_=>cases e
theorem Ui {h:Heap}:∀ {ds:List D} {us:List Value},dF h θ μ ds us->ds.all sc2=true->SVs us ds
 |[],us,r,_=>by cases(show us=[]from r);exact .nil
 |d::ds,_,⟨u,r,q,x,y⟩,e=>by simp only[abN,bO]at e;rw[q];exact .cons (akM x e.1) (Ui y e.2)
theorem Sd {h:Heap} (r:Rp h θ μ d u):(u==iB)=tU d:=by
 cases d with
 |non=>cases(show u=iB from r);rfl
 |bl b=>cases(show u=iG b from r);rfl
 |int i=>obtain⟨t,rfl⟩:=r;rfl|str x=>obtain⟨⟨t,rfl⟩,_⟩:=r;rfl|tup ds=>obtain⟨a,_,rfl,_⟩:=r;rfl|lst ds=>obtain⟨a,_,rfl,_⟩:=r;rfl|ro ds=>obtain⟨a,_,rfl,_⟩:=r;rfl|loc n=>obtain⟨p,rfl,_⟩:=r;rfl|_=>exact r.elim
def YC (h:Heap) (d:D) (w:Value):Bool:=open Classical in decide (∃ q as,Reads h w q as/\q.canLay0=true/\oW q (pd d)=true)
theorem Sg {h:Heap} (r:Rp h θ μ e u) (f1:flat 60 e=true) (f2:flat 60 d=true):YC h d u=kO e d:=by
 obtain⟨as,ra⟩:=fJ 60 e u r f1;have c:=eO _ _ f1;unfold YC;rw[<-zj 60 60 e d f1 f2];cases z:oW (pd e) (pd d) with
 |true=>exact @decide_eq_true _ (O8 _) ⟨pd e,as,ra,c,z⟩|false=>exact @decide_eq_false _ (O8 _) fun⟨q,as',ra',c',z'⟩=>by rw[aiI q (pd e) _ _ _ c' ra' ra,z]at z';cases z'
theorem Sv {j:Nat} (hu:A.units+64<cLine) (f2:flat 60 d=true) (rd:Rp s.heap θ μ d v):∀ {ds:List D} {us:List Value},dF s.heap θ μ ds us->flats 60 ds=true->
  (∀ w∈us,xY A.in1 s w v (YC s.heap d w))/\us.any (YC s.heap d)=ds.any fun d'=>kO d' d
 |[],us,r,_=>by cases(show us=[]from r);exact⟨fun _ m=>(gH m).elim,rfl⟩
 |e::ds,_,⟨u,r,q,x,y⟩,f1=>by
  have f1':flat 60 e=true/\flats 60 ds=true:=by simpa[flats]using f1
  obtain⟨i1,i2⟩:=Sv (j:=j) hu f2 rd y f1'.2;subst q;refine⟨fun w m=>?_,by rw[Vg,Vg,i2,Sg x f1'.1 f2]⟩;rcases aO.mp m with rfl|m
  .obtain⟨as,ra⟩:=fJ 60 e w x f1'.1
   obtain⟨bs,rb⟩:=fJ 60 d v rd f2;rw[Sg x f1'.1 f2,<-zj 60 60 e d f1'.1 f2];have hd:=Bl _ _ f2;exact SeqAt.eqAt_reads (pd e) (pd d) A.in1 s w v as bs ra rb (eO _ _ f1'.1) (eO _ _ f2) (by show A.units+1+_<cLine;omega)
  .exact i1 w m
theorem ahS (hu:X.A.units+64<cLine) (i:Iv X ρ θ μ s) (rd:Rp s.heap θ μ d u) (re:Rp s.heap θ μ e v) (neg:Bool) (op:ji) (ho:op=if neg=true then .NotIn else .In)
  (hw:(∃ t c,e= .str t/\d= .str [c]/\Qd (.bl (neg !=t.contains c)) μ)∨(∃ ds,au μ e=some ds/\flats 60 ds=true/\flat 60 d=true/\Qd (.bl (neg !=ds.any fun d'=>kO d' d)) μ)∨afV neg d e μ Qd)
  (bl:∀ {b:Bool},Qd (.bl b) μ->∀ t,Q (.bool b) {s with toks:=t}):ak X.M X.A (j7 op u v) Q E s:=by
 rcases hw with⟨t,c,rfl,rfl,q⟩|⟨ds,hq,f1,f2,q⟩|hD
 .obtain⟨⟨t1,rfl⟩,_⟩:=rd
  obtain⟨⟨t2,rfl⟩,_⟩:=re;have q2:=StrLaws.found_one ⟨t.toArray⟩ c;have q2:_=t.contains c:=q2.trans (by simp);rw[<-q2]at q;subst ho;cases neg with
  |false=>exact in_str (bl (by simpa using q) s.toks)|true=>exact notIn_str (bl (by simpa using q) s.toks)
 .obtain⟨a,us,rfl,x,r⟩:=qG i.dD re hq
  obtain⟨i1,i2⟩:=Sv (j:=0) hu f2 rd r f1;rw[<-i2]at q;subst ho;by_cases hk:QT e=0
  .rw[hk]at x
   cases neg with
   |false=>exact SeqAt.in_tupleAt _ (cM x) (fun y hy=>i1 y (by simpa using hy)) (by rw[Og];exact bl (by simpa using q) s.toks)|true=>exact SeqAt.notIn_tupleAt _ (cM x) (fun y hy=>i1 y (by simpa using hy)) (by rw[Og];exact bl (by simpa using q) s.toks)
  .cases neg with|false=>exact SeqAt.in_listAt _ (eU x hk).isList (fun y hy=>i1 y (by simpa using hy)) (by rw[Og];exact bl (by simpa using q) s.toks)|true=>exact SeqAt.notIn_listAt _ (eU x hk).isList (fun y hy=>i1 y (by simpa using hy)) (by rw[Og];exact bl (by simpa using q) s.toks)
 .unfold afV at hD
  split at hD
  .rename_i n
   obtain⟨p,rfl,hp⟩:=re;split at hD
   .rename_i ks ds hn
    obtain⟨⟨kvs,hd,l,hs,hk,r⟩,_⟩:=i.dD.cell n _ p hn hp;split at hD
    .rename_i k ek
     have z:=(Bj keyOf (fun _ _=>qW) (·.1) (·.2) ks ds kvs k hk r).2.1
     (have z':(M7 kvs (keyOf k)).isSome=SQ ks k:=by rw[<-z];unfold M7;rw[VG]);rw[<-z']at hD;subst ho;cases neg with
     |false=>exact wpAny_in_of (key_is ek rd) hs hd.mapOf (bl (by simpa using hD) _)|true=>exact wpAny_notIn_of (key_is ek rd) hs hd.mapOf (bl (by simpa using hD) _)
    .exact hD.elim
   .rename_i ks ds hn
    obtain⟨hx,_⟩:=i.dD.cell n _ p hn hp;obtain⟨xs,hd,l,hs,_,hk,r⟩:=hx.of;split at hD
    .rename_i es
     split at hD
     .rename_i k ek
      have z:=(Bj (fun k:List nF=>k.map keyOf) (fun _ _=>sX) (·.1) (·.2.2) ks ds xs k hk r).2.1
      (have z':(atKey xs (k.map keyOf)).isSome=SQ ks k:=by rw[<-z];unfold atKey;rw[VG]);rw[<-z']at hD;obtain⟨b,us,rfl,_⟩:=id rd;subst ho;cases neg with
      |false=>exact wpAny_in_heap (Oz (by omega)) (zF ek rd) hs hd (bl (by simpa using hD) _)|true=>exact wpAny_notIn_heap (Oz (by omega)) (zF ek rd) hs hd (bl (by simpa using hD) _)
     .exact hD.elim
    .exact hD.elim
   .exact hD.elim
  .exact hD.elim
theorem DP (hr:cV k X.A) (op:ji):Op2 X (j7 op) (dh op):=by
 intro s ρ θ μ d e u v Qd Q E i rd re hw f;have hu:X.A.units+64<cLine:=hr.units;have bl:∀ {b:Bool},Qd (.bl b) μ->∀ t,Q (.bool b) {s with toks:=t}:=fun q t=>f.tok i X8 q;have eqs:∀ {neg:Bool},(flat 60 d=true/\flat 60 e=true/\Qd (.bl (neg !=kO d e)) μ)->ak X.M X.A (j7 (if neg=true then .NotEq else .Eq) u v) Q E s:=fun {neg} ⟨f1,f2,q⟩=>by
  obtain⟨as,ra⟩:=fJ 60 d u rd f1;obtain⟨bs,rb⟩:=fJ 60 e v re f2;have:=Bl _ _ f1;cases neg with
  |false=>exact adh ra rb (eO _ _ f1) (eO _ _ f2) (by omega) (by rw[zj _ _ _ _ f1 f2];exact bl (by simpa using q) s.toks)|true=>exact adg ra rb (eO _ _ f1) (eO _ _ f2) (by omega) (by rw[zj _ _ _ _ f1 f2];exact bl (by simpa using q) s.toks)
 cases op with
 |Eq=>exact eqs (neg:=false) ⟨hw.1,hw.2.1,by simpa using hw.2.2⟩|NotEq=>
  have hw:(∃ n,d= .loc n/\Q6 n e μ Qd)∨(flat 60 d=true/\flat 60 e=true/\Qd (.bl (!kO d e)) μ):=by
   cases d with
   |loc n=>exact .inl ⟨n,rfl,show Q6 n e μ Qd from hw⟩|_=>exact .inr hw
  rcases hw with⟨n,rfl,hw⟩|hw
  .have hw:Q6 n e μ Qd:=hw
   unfold Q6 at hw;split at hw
   .rename_i ds hn
    obtain⟨p,us,rfl,_,_,x,r⟩:=Iv.lst i.dD hn rd;split at hw
    .obtain⟨b,vs,rfl,y,_,r2⟩:=re
     cases r2.nil_inv;have pl:=eU x (by decide);have pl2:=eU y (by decide);have l:=r.length;cases ds with
     |nil=>cases r.nil_inv;exact aiH (e:=fun _=>true) pl.isList pl2.isList rfl (by omega) (fun j h1 h2=>absurd h1 (by simp)) _ _ _ _ (bl hw s.toks)
     |cons d0 ds=>exact aiP pl.isList pl2.isList (by simp at l ⊢;rw[<-mR,l];simp) (by omega) _ _ _ _ (bl hw s.toks)
    .exact hw.elim
   .exact hw.elim
  .exact eqs (neg:=true) (by simpa using hw)
 |Lt=>
  simp only[dh]at hw
  match d,e,hw with
  | .int a,.int b,hw=>obtain⟨t,rfl⟩:=rd;obtain⟨t',rfl⟩:=re;exact abC (bl hw s.toks)| .str a,.str b,hw=>obtain⟨⟨t,rfl⟩,_⟩:=rd;obtain⟨⟨t',rfl⟩,_⟩:=re;refine lt_str (bl ?_ s.toks);simp only[Et,FZ]at hw;simpa using hw| .tup ds,.tup es,hw=>
   simp only[Et]at hw;split at hw
   .rename_i r hl
    split at hl
    .rename_i hsc
     rw[bO]at hsc;obtain⟨a,us,rfl,x,_,r1⟩:=rd;obtain⟨b,vs,rfl,y,_,r2⟩:=re;exact RQ (cM x) (cM y) (by simpa using Ui r1 hsc.1) (by simpa using Ui r2 hsc.2) hl (by omega) (bl hw s.toks)
    .cases hl
   .exact hw.elim
 |LtE=>
  match d,e,hw with
  | .int a,.int b,hw=>obtain⟨t,rfl⟩:=rd;obtain⟨t',rfl⟩:=re;exact le_int (bl hw s.toks)| .str a,.str b,hw=>obtain⟨⟨t,rfl⟩,_⟩:=rd;obtain⟨⟨t',rfl⟩,_⟩:=re;have hw:Qd (.bl (!ig b a)) μ:=hw;refine PySem.P.le_str (bl ?_ s.toks);rw[FZ]at hw;simpa using hw
 |Gt=>
  match d,e,hw with
  | .int a,.int b,hw=>obtain⟨t,rfl⟩:=rd;obtain⟨t',rfl⟩:=re;exact gt_int (bl hw s.toks)
 |GtE=>
  match d,e,hw with
  | .int a,.int b,hw=>obtain⟨t,rfl⟩:=rd;obtain⟨t',rfl⟩:=re;exact ge_int (bl hw s.toks)
 |Is=>
  match e,hw with
  | .non,hw=>cases(show v=iB from re);exact is_none_gen (by rw[Sd rd];exact bl hw s.toks)
  | .bl b,hw=>
   cases d with
   |bl a=>cases(show u=iG a from rd);cases(show v=iG b from re);exact is_bool (bl hw s.toks)
   |_=>exact hw.elim
 |IsNot=>
  match e,hw with
  | .non,hw=>cases(show v=iB from re);exact isnot_none_gen (by rw[Sd rd];exact bl hw s.toks)
  | .bl b,hw=>
   cases d with
   |bl a=>cases(show u=iG a from rd);cases(show v=iG b from re);exact isnot_bool (bl hw s.toks)
   |_=>exact hw.elim
 |In=>
  refine ahS hu i rd re false _ rfl ?_ bl
  match e,hw with
  | .str t,hw=>
   match d,hw with
   | .str [c],hw=>exact .inl ⟨t,c,rfl,rfl,by have hw:Qd (.bl (t.contains c)) μ:=hw;simpa using hw⟩
  | .non,hw| .bl _,hw| .int _,hw| .tup _,hw| .lst _,hw| .ro _,hw| .loc _,hw| .vV _ _,hw=>
   right;simp only[dh]at hw;split at hw
   .rename_i ds hq;exact .inl ⟨ds,hq,hw.1,hw.2.1,by simpa using hw.2.2⟩
   .exact .inr hw
 |NotIn=>
  refine ahS hu i rd re true _ rfl ?_ bl
  match e,hw with
  | .str t,hw=>
   match d,hw with
   | .str [c],hw=>exact .inl ⟨t,c,rfl,rfl,by have hw:Qd (.bl (!t.contains c)) μ:=hw;simpa using hw⟩
  | .non,hw| .bl _,hw| .int _,hw| .tup _,hw| .lst _,hw| .ro _,hw| .loc _,hw| .vV _ _,hw=>
   right;simp only[dh]at hw;split at hw
   .rename_i ds hq;exact .inl ⟨ds,hq,hw.1,hw.2.1,by simpa using hw.2.2⟩
   .exact .inr hw
end
end DW
namespace DW
open PySem
set_option genInjectivity false in
structure Ctx where
 N:List Str
 names:List (Str×iD)
 iM:List Str
 calm:Bool
 rs:Bool
noncomputable abbrev Ctx.in_ (c:Ctx) (N:List Str) (names:List (Str×iD)):Ctx:=⟨N,names,c.iM,c.calm,false⟩
noncomputable abbrev Ctx.of (N:List Str) (names:List (Str×iD)) (iM:List Str):Ctx:=⟨N,names,iM,true,true⟩
def Ctx.vis (c:Ctx) (x:Str):Bool:=match c.names.lookup x with|some .local=>true|some .cell=>true|some .free=>true|_=>false
def Ctx.loc (c:Ctx) (x:Str):Bool:=match c.names.lookup x with|some .local=>true|some .cell=>true|_=>false
def Ctx.wC (c:Ctx) (x:Str):Bool:=match c.names.lookup x with|some .globalImplicit=>true|_=>false
def Ctx.at_ (c:Ctx) (i:Nat) (x:Str):Bool:=match c.N[i]? with|some y=>decide (y=x)|none=>false
def gY (x:Str):Bool:=(x==("__debug__":Str))||(x==("__classdict__":Str))
def mC:Const->D->Bool
 | .none,.non=>true| .bool a,.bl b=>a==b| .int i,.int j=>i==j| .str s,.str x=>decide (s.cps.toList=x)&&decide (x.length<=16777216)|_,_=>false
def notStar:Expr->Bool
 | .Starred ..=>false|_=>true
def kh:Expr->Bool
 | .Set ..=>false|_=>true
def iT:Expr->Bool
 | .ListComp ..=>false| .SetComp ..=>false| .DictComp ..=>false|_=>true
def eV:Expr->Bool
 | .Name ..=>true| .Constant ..=>true| .BinOp ..=>true| .UnaryOp ..=>true| .Call ..=>true| .Subscript ..=>true| .Attribute ..=>true| .Tuple ..=>true|_=>false
def lQ:Expr->Bool
 | .Name ..=>true| .Subscript ..=>true| .Attribute ..=>true| .Constant ..=>true| .Call (.Name ..) (_::_) _ _=>true| .Call (.Attribute ..) _ _ _=>true|_=>false
theorem Xm (h:lQ (.Call f as ks p)=true):(∃ x q a r,f= .Name x q/\as=a::r)∨∃ o m q,f= .Attribute o m q:=by
 cases f with
 |Name x q=>cases as with|nil=>exact(dM h).elim|cons a r=>exact .inl ⟨x,q,a,r,rfl,rfl⟩
 |Attribute o m q=>exact .inr ⟨o,m,q,rfl⟩|_=>exact(dM h).elim
def afx (x:String):Str:=if x="mlist" then "list" else if x="msorted" then "sorted" else if x="isorted" then "sorted" else if x="dsorted" then "sorted" else if x="min3" then "min" else if x="tsorted" then "sorted" else if x="mtsorted" then "sorted" else aC x
def bL (c:Ctx) (x:Str):Bool:=c.wC x&&c.iM.contains x
def mW (c:Ctx):List Nat->Option (List Str)
 |[]=>some []|i::is=>match c.N[i]?,mW c is with|some x,some r=>some (x::r)|_,_=>none
def JR (c:Ctx) (scope:Scope) (Nc:List Str) (cap:List Str):Bool:=
 (scope.kind== .function)&&scope.names.all (fun y=>y.2 != .cell||(scope.names.lookup y.1==some .cell))&&scope.names.all (fun y=>y.2 != .local||(scope.names.lookup y.1==some .local))&&
 decide (Nc.Nodup)&&cap.all (fun y=>scope.names.lookup y==some .free)&&scope.names.all (fun y=>y.2 != .free||(c.names.lookup y.1==some .cell||c.names.lookup y.1==some .free))
def namesOf:List Expr->Option (List Str)
 |[]=>some []| .Name x _::as=>(namesOf as).map (x::·)|_::_=>none
def Fz (tt:Bool) (a:Expr):Option (List Str):=match tt with
 |false=>match a with| .Name x _=>some [x]|_=>none
 |true=>match a with| .Tuple ts _ _=>namesOf ts|_=>none
def kE (c:Ctx):List Nat->List Expr->Bool
 |[],[]=>true|i::is,a::as=>(match a with| .Name x _=>c.at_ i x&&c.loc x|_=>false)&&kE c is as|_,_=>false
def ZR (c:Ctx) (is:List Nat) (tt:Bool) (a:Expr):Bool:=
 match tt with
 |false=>kE c is [a]|true=>match a with| .Tuple ts _ _=>kE c is ts|_=>false
def tE (tt:Bool):It->Bool
 | .zip _ _=>tt| .enum _=>tt|_=>true
def opt {α:Type} (o:Option α) (f:α->Bool):Bool:=match o with|some x=>f x|none=>false
theorem aA (h:opt o f=true):∃ x,o=some x/\f x=true:=by
 cases o with
 |none=>exact(dM h).elim|some x=>exact⟨x,rfl,h⟩
theorem aq {α:Type} {x:α} {P:Prop} (h:none=some x):P:=(Option.some_ne_none x h.symm).elim
def jW:Expr->Option Str
 | .Name x _=>some x|_=>none
theorem iQ {a:Expr} {t:Str} (h:jW a=some t):∃ p,a= .Name t p:=by
 cases a with
 |Name x p=>cases cH (show some x=some t from h);exact⟨p,rfl⟩
 |_=>exact aq h
def T9:Expr->Option Const
 | .Constant k _ _=>some k|_=>none
theorem T8 {a:Expr} {t:Const} (h:T9 a=some t):∃ j p,a= .Constant t j p:=by
 cases a with
 |Constant k j p=>cases cH (show some k=some t from h);exact⟨j,p,rfl⟩
 |_=>exact aq h
def Ud:Expr->Option (Expr×jl×Expr)
 | .BinOp l o r _=>some (l,o,r)|_=>none
theorem Gn {a:Expr} {t:(Expr×jl×Expr)} (h:Ud a=some t):∃ p,a= .BinOp t.1 t.2.1 t.2.2 p:=by
 cases a with
 |BinOp l o r p=>cases cH (show some (l,o,r)=some t from h);exact⟨p,rfl⟩
 |_=>exact aq h
def vIf:Expr->Option (Expr×Expr×Expr)
 | .IfExp x y z _=>some (x,y,z)|_=>none
theorem afX {a:Expr} {t:(Expr×Expr×Expr)} (h:vIf a=some t):∃ p,a= .IfExp t.1 t.2.1 t.2.2 p:=by
 cases a with
 |IfExp x y z p=>cases cH (show some (x,y,z)=some t from h);exact⟨p,rfl⟩
 |_=>exact aq h
def BJ:Expr->Option (Expr×Expr)
 | .Subscript x y _=>some (x,y)|_=>none
theorem qD {a:Expr} {t:(Expr×Expr)} (h:BJ a=some t):∃ p,a= .Subscript t.1 t.2 p:=by
 cases a with
 |Subscript x y p=>cases cH (show some (x,y)=some t from h);exact⟨p,rfl⟩
 |_=>exact aq h
def T5:Expr->Option (List Expr)
 | .Tuple x _ _=>some x|_=>none
theorem Gk {a:Expr} {t:(List Expr)} (h:T5 a=some t):∃ k p,a= .Tuple t k p:=by
 cases a with
 |Tuple x k p=>cases cH (show some x=some t from h);exact⟨k,p,rfl⟩
 |_=>exact aq h
def aie:Expr->Option (List Expr)
 | .List x _=>some x|_=>none
theorem aaU {a:Expr} {t:(List Expr)} (h:aie a=some t):∃ p,a= .List t p:=by
 cases a with
 |List x p=>cases cH (show some x=some t from h);exact⟨p,rfl⟩
 |_=>exact aq h
def Gp:Expr->Option (Expr×Str)
 | .Attribute x y _=>some (x,y)|_=>none
theorem BK {a:Expr} {t:(Expr×Str)} (h:Gp a=some t):∃ p,a= .Attribute t.1 t.2 p:=by
 cases a with
 |Attribute x y p=>cases cH (show some (x,y)=some t from h);exact⟨p,rfl⟩
 |_=>exact aq h
def aic:Expr->Option Expr
 | .UnaryOp .USub l _=>some l|_=>none
theorem aaT {a:Expr} {t:Expr} (h:aic a=some t):∃ p,a= .UnaryOp .USub t p:=by
 cases a with
 |UnaryOp o l p=>
  cases o with
  |USub=>cases cH (show some l=some t from h);exact⟨p,rfl⟩
  |_=>exact aq h
 |_=>exact aq h
def aib:Expr->Option Expr
 | .UnaryOp .Not l _=>some l|_=>none
theorem aaS {a:Expr} {t:Expr} (h:aib a=some t):∃ p,a= .UnaryOp .Not t p:=by
 cases a with
 |UnaryOp o l p=>
  cases o with
  |Not=>cases cH (show some l=some t from h);exact⟨p,rfl⟩
  |_=>exact aq h
 |_=>exact aq h
def Ua:Expr->Option (Expr×ji×Expr)
 | .Compare l [o] [r] _=>some (l,o,r)|_=>none
theorem Gm {a:Expr} {t:(Expr×ji×Expr)} (h:Ua a=some t):∃ p,a= .Compare t.1 [t.2.1] [t.2.2] p:=by
 cases a with
 |Compare l os rs p=>
  match os,rs,h with
  |[o],[r],h=>cases cH (show some (l,o,r)=some t from h);exact⟨p,rfl⟩
  |[],_,h=>exact aq h|_::_::_,_,h=>exact aq h|[_],[],h=>exact aq h|[_],_::_::_,h=>exact aq h
 |_=>exact aq h
def aaW:Expr->Option (Expr×ji×ji×Expr×Expr)
 | .Compare l [o,q] [m,r] _=>some (l,o,q,m,r)|_=>none
theorem Ze {a:Expr} {t:(Expr×ji×ji×Expr×Expr)} (h:aaW a=some t):∃ p,a= .Compare t.1 [t.2.1,t.2.2.1] [t.2.2.2.1,t.2.2.2.2] p:=by
 cases a with
 |Compare l os rs p=>
  match os,rs,h with
  |[o,q],[m,r],h=>cases cH (show some (l,o,q,m,r)=some t from h);exact⟨p,rfl⟩
  |[],_,h=>exact aq h|[_],_,h=>exact aq h|_::_::_::_,_,h=>exact aq h|[_,_],[],h=>exact aq h|[_,_],[_],h=>exact aq h|[_,_],_::_::_::_,h=>exact aq h
 |_=>exact aq h
def aif:Expr->Option (Expr×Expr)
 | .BoolOp .And (v::w::rest) p=>some (v,match rest with|[]=>w|_::_=>.BoolOp .And (w::rest) p)|_=>none
theorem aaX {a:Expr} {t:Expr×Expr} (h:aif a=some t):(∃ p,a= .BoolOp .And [t.1,t.2] p)∨∃ w z rest p,a= .BoolOp .And (t.1::w::z::rest) p/\t.2= .BoolOp .And (w::z::rest) p:=by
 cases a with
 |BoolOp o vs p=>
  cases o with
  |And=>
   match vs,h with
   |[v,w],h=>cases cH (show some (v,w)=some t from h);exact .inl ⟨p,rfl⟩
   |v::w::z::rest,h=>cases cH (show some (v,.BoolOp .And (w::z::rest) p)=some t from h);exact .inr ⟨w,z,rest,p,rfl,rfl⟩
   |[],h=>exact aq h|[_],h=>exact aq h
  |_=>exact aq h
 |_=>exact aq h
def vOr:Expr->Option (Expr×Expr)
 | .BoolOp .Or (v::w::rest) p=>some (v,match rest with|[]=>w|_::_=>.BoolOp .Or (w::rest) p)|_=>none
theorem afW {a:Expr} {t:Expr×Expr} (h:vOr a=some t):(∃ p,a= .BoolOp .Or [t.1,t.2] p)∨∃ w z rest p,a= .BoolOp .Or (t.1::w::z::rest) p/\t.2= .BoolOp .Or (w::z::rest) p:=by
 cases a with
 |BoolOp o vs p=>
  cases o with
  |Or=>
   match vs,h with
   |[v,w],h=>cases cH (show some (v,w)=some t from h);exact .inl ⟨p,rfl⟩
   |v::w::z::rest,h=>cases cH (show some (v,.BoolOp .Or (w::z::rest) p)=some t from h);exact .inr ⟨w,z,rest,p,rfl,rfl⟩
   |[],h=>exact aq h|[_],h=>exact aq h
  |_=>exact aq h
 |_=>exact aq h
def gD:Expr->Option (Str×List Expr)
 | .Call (.Name y _) as [] _=>some (y,as)|_=>none
theorem dY {a:Expr} {t:(Str×List Expr)} (h:gD a=some t):∃ p q,a= .Call (.Name t.1 p) t.2 [] q:=by
 cases a with
 |Call f as ks q=>
  cases f with
  |Name y p=>
   cases ks with
   |nil=>cases cH (show some (y,as)=some t from h);exact⟨p,q,rfl⟩
   |cons _ _=>exact aq h
  |_=>exact aq h
 |_=>exact aq h
def Uc:Expr->Option (Expr×List Expr)
 | .Call f as [] _=>some (f,as)|_=>none
theorem Ub {a:Expr} {t:Expr×List Expr} (h:Uc a=some t):∃ q,a= .Call t.1 t.2 [] q:=by
 cases a with
 |Call f as ks q=>
  cases ks with
  |nil=>cases cH (show some (f,as)=some t from h);exact⟨q,rfl⟩
  |cons _ _=>exact aq h
 |_=>exact aq h
def ug:Expr->Option (Expr×Str×List Expr×Bool)
 | .Call (.Attribute o m p) as [] q=>some (o,m,as,p.endLine==q.line)|_=>none
theorem qF {a:Expr} {t:(Expr×Str×List Expr×Bool)} (h:ug a=some t):∃ p q,a= .Call (.Attribute t.1 t.2.1 p) t.2.2.1 [] q/\t.2.2.2=(p.endLine==q.line):=by
 cases a with
 |Call f as ks q=>
  cases f with
  |Attribute o m p=>
   cases ks with
   |nil=>cases cH (show some (o,m,as,p.endLine==q.line)=some t from h);exact⟨p,q,rfl,rfl⟩
   |cons _ _=>exact aq h
  |_=>exact aq h
 |_=>exact aq h
def aia:Expr->Option (Expr×Option Expr×Option Expr)
 | .Subscript x (.Slice lo hi none _) _=>some (x,lo,hi)|_=>none
theorem aaQ {a:Expr} {t:(Expr×Option Expr×Option Expr)} (h:aia a=some t):∃ p q,a= .Subscript t.1 (.Slice t.2.1 t.2.2 none p) q:=by
 cases a with
 |Subscript x y q=>
  cases y with
  |Slice lo hi st p=>
   cases st with
   |none=>cases cH (show some (x,lo,hi)=some t from h);exact⟨p,q,rfl⟩
   |some _=>exact aq h
  |_=>exact aq h
 |_=>exact aq h
def Mu:List Expr->Option (Expr×Expr)
 |[x,y]=>some (x,y)|_=>none
theorem zB {a:List Expr} {t:Expr×Expr} (h:Mu a=some t):a=[t.1,t.2]:=by
 match a,h with
 |[x,y],h=>cases cH (show some (x,y)=some t from h);rfl
 |[],h=>exact aq h|[_],h=>exact aq h|_::_::_::_,h=>exact aq h
def T7:Expr->Bool
 | .Dict [] [] _=>true|_=>false
theorem T6 (h:T7 a=true):∃ p,a= .Dict [] [] p:=by
 unfold T7 at h;split at h
 .exact⟨_,rfl⟩
 .cases h
def aaR:List Expr->Option Expr
 |[x]=>some x|_=>none
theorem Rc {a:List Expr} {t:Expr} (h:aaR a=some t):a=[t]:=by
 match a,h with
 |[x],h=>cases cH (show some x=some t from h);rfl
 |[],h=>exact aq h|_::_::_,h=>exact aq h
def aaV:Expr->Option (Expr×Expr×Expr×List Expr×Scope)
 | .ListComp e [g] s _=>if g.is_async=0 then some (e,g.target,g.iter,g.ifs,s)else none|_=>none
theorem KZ {a:Expr} {t:Expr×Expr×Expr×List Expr×Scope} (h:aaV a=some t):∃ p,a= .ListComp t.1 [⟨t.2.1,t.2.2.1,t.2.2.2.1,0⟩] t.2.2.2.2 p:=by
 cases a with
 |ListComp e gs s p=>
  match gs,h with
  |[⟨tg,it,ifs,k⟩],h=>
   have h:(if k=0 then some (e,tg,it,ifs,s)else none)=some t:=h;by_cases q:k=0
   .rw[if_pos q]at h;cases cH h;exact⟨p,by rw[q]⟩
   .rw[if_neg q]at h;exact aq h
  |[],h=>exact aq h|_::_::_,h=>exact aq h
 |_=>exact aq h
def GX:It->Bool
 | .rng as=>decide (jf as<=2)|_=>false
mutual
noncomputable def mE (c:Ctx):E->Expr->Bool
 | .var i,a=>opt (jW a) fun x=>c.at_ i x&&c.vis x&& !gY x
 | .cst d,a=>opt (T9 a) fun k=>mC k d
 | .gbl y d,a=>opt (jW a) fun x=>x==y&&c.wC x&& !gY x
 | .bin op l r,a=>opt (Ud a) fun t=>op==t.2.1&&mE c l t.1&&mE c r t.2.2
 | .neg l,a=>opt (aic a) fun t=>mE c l t
 | .not l,a=>opt (aib a) fun t=>mE c l t
 | .cmp op l r,a=>opt (Ua a) fun t=>op==t.2.1&&mE c l t.1&&mE c r t.2.2&&kh t.2.2
 | .KN n l r,a=>opt (Ua a) fun t=>(t.2.1==(if n then abB else CmpOp.Eq))&&mE c l t.1&&mE c r t.2.2&&kh t.2.2
 | .chain p q l m r,a=>opt (aaW a) fun t=>p==t.2.1&&q==t.2.2.1&&mE c l t.1&&mE c m t.2.2.2.1&&mE c r t.2.2.2.2&&kh t.2.2.2.2&&kh t.2.2.2.1
 | .and x y,a=>opt (aif a) fun t=>mE c x t.1&&mE c y t.2
 | .or x y,a=>opt (vOr a) fun t=>mE c x t.1&&mE c y t.2
 | .ife t x y,a=>opt (vIf a) fun q=>mE c t q.1&&mE c x q.2.1&&mE c y q.2.2
 | .call x _ as,a=>opt (gD a) fun t=>x==t.1&&c.wC x&& !gY x&&qt c as t.2
 | .blt x as,a=>opt (gD a) fun t=>c.calm&&Pz.contains x&&afx x==t.1&&bL c t.1&&qt c as t.2&& !t.2.isEmpty
 | .isin l t,a=>opt (gD a) fun q=>opt (Mu q.2) fun w=>opt (jW w.2) fun z=>(q.1==aC "isinstance")&&bL c q.1&&["int","bool","str","tuple","list","dict"].contains t&&(z==aC t)&&bL c z&&mE c l w.1&&notStar w.1
 | .isin l t (some _),a=>opt (Ua a) fun w=>opt (jW w.2.2) fun z=>(w.2.1== .In)&&(z==aC t)&&c.wC z&& !gY z&&mE c l w.1
 | .Jf l,a=>opt (gD a) fun q=>opt (Mu q.2) fun w=>opt (T5 w.2) fun es=>opt (Mu es) fun z=>opt (jW z.1) fun z1=>opt (jW z.2) fun z2=>(q.1==aC "isinstance")&&bL c q.1&&(z1==aC "list")&&bL c z1&&(z2==aC "tuple")&&bL c z2&&mE c l w.1&&notStar w.1
 | .ZW l,a=>opt (gD a) fun q=>opt (aaR q.2) fun r=>opt (gD r) fun t=>opt (aaR t.2) fun x=>c.calm&&(q.1==aC "len")&&bL c q.1&&(t.1==aC "set")&&bL c t.1&&mE c l x&&notStar x
 | .meth m o as,a=>opt (ug a) fun t=>(if t.2.2.1.isEmpty then ["pop"].contains m else ["append","insert","extend","pop"].contains m)&&t.2.1==aC m&&lQ t.1&&t.2.2.2&&mE c o t.1&&qt c as t.2.2.1&&decide (t.2.2.1.length<30)
 | .tix o as,a=>opt (ug a) fun t=>t.2.1==aC "index"&&lQ t.1&&t.2.2.2&&mE c o t.1&&qt c as t.2.2.1&&decide (t.2.2.1.length<30)&& !t.2.2.1.isEmpty
 | .sqm m o as,a=>opt (ug a) fun t=>["index","count","split"].contains m&&t.2.1==aC m&&lQ t.1&&t.2.2.2&&mE c o t.1&&qt c as t.2.2.1&&decide (t.2.2.1.length<30)&&(t.2.2.1.isEmpty==(m=="clear"))
 | .rmv o as,a=>opt (ug a) fun t=>c.calm&&t.2.1==aC "remove"&&lQ t.1&&t.2.2.2&&mE c o t.1&&qt c as t.2.2.1&&decide (t.2.2.1.length<30)&& !t.2.2.1.isEmpty
 | .aad as,a=>opt (gD a) fun t=>c.calm&&(t.1==aC "min")&&bL c t.1&&qt c as t.2&& !t.2.isEmpty
 | .idx x y,a=>opt (BJ a) fun t=>mE c x t.1&&mE c y t.2&&eV t.2
 | .slc _ x lo hi,a=>opt (aia a) fun t=>mE c x t.1&&mO c lo t.2.1&&mO c hi t.2.2
 | .tup as,a=>opt (T5 a) fun es=>qt c as es&&decide (es.length<=16777216)
 | .lst _ as,a=>opt (aie a) fun es=>qt c as es&&decide (es.length<=16777216)
 | .comp _ n tt cap elt it cond,a=>opt (aaV a) fun t=>(c.calm||(GX it&& !tt))&&opt (Fz tt t.2.1) fun xs=>opt (mW c cap) fun cs=>n==xs.length&&JR c t.2.2.2.2 (xs++cs) cs&&tE tt it&&mI c it t.2.2.1&&ZR (c.in_ (xs++cs) t.2.2.2.2.names) (aN n) tt t.2.1&&mE (c.in_ (xs++cs) t.2.2.2.2.names) elt t.1&&qt (c.in_ (xs++cs) t.2.2.2.2.names) cond t.2.2.2.1&&decide (t.2.2.2.1.length<=1)
 | .frz x,a=>mE c x a| .aal _,a=>T7 a| .aan x y,a=>opt (BJ a) fun t=>c.calm&&mE c x t.1&&mE c y t.2&&eV t.2
 | .cat _ l r,a=>opt (Ud a) fun t=>t.2.1== .Add&&mE c l t.1&&mE c r t.2.2
 | .rep _ l r,a=>opt (Ud a) fun t=>t.2.1== .Mult&&mE c l t.1&&mE c r t.2.2
 | .fld _ f o,a=>opt (Gp a) fun t=>t.2==aC f&&lQ t.1&&mE c o t.1
 | .pA _ m _ o as,a=>opt (ug a) fun t=>t.2.1==aC m&&lQ t.1&&t.2.2.2&&mE c o t.1&&qt c as t.2.2.1&&decide (t.2.2.1.length<30)
 | .mk x _ as,a=>opt (gD a) fun t=>aC x==t.1&&c.wC t.1&& !gY t.1&&qt c as t.2
noncomputable def qt (c:Ctx):Es->List Expr->Bool
 | .nil,as=>as.isEmpty| .cons e es,as=>match as with|[]=>false|a::as=>mE c e a&&notStar a&&qt c es as
noncomputable def mO (c:Ctx):Es->Option Expr->Bool
 | .nil,a=>a.isNone| .cons e es,a=>match a,es with|some a,.nil=>mE c e a|_,_=>false
noncomputable def mI (c:Ctx):It->Expr->Bool
 | .seq e,a=>mE c e a&&kh a| .rng as,a=>opt (gD a) fun t=>(t.1==aC "range")&&bL c t.1&&qt c as t.2&&(t.2.length==1||t.2.length==2||t.2.length==3)
 | .zip l r,a=>opt (gD a) fun t=>opt (Mu t.2) fun w=>(t.1==aC "zip")&&bL c t.1&&mE c l w.1&&mE c r w.2&&notStar w.1&&notStar w.2
 | .enum l,a=>opt (gD a) fun t=>match t.2 with|[l']=>(t.1==aC "enumerate")&&bL c t.1&&mE c l l' &&notStar l' |_=>false
 | .rvd l,a=>opt (gD a) fun t=>match t.2 with|[l']=>(t.1==aC "reversed")&&bL c t.1&&mE c l l' &&notStar l' |_=>false
end
def Df:Expr->Bool
 | .Tuple ..=>false| .List ..=>false|_=>true
def isLocal (c:Ctx) (x:Str):Bool:=c.names.lookup x==some .local
def Qi:E->Bool
 | .comp ..=>true|_=>false
def mXC (c:Ctx):XC->Expr->Bool
 | .dsp x _ _ i as,a=>opt (Uc a) fun t=>opt (BJ t.1) fun u=>opt (jW u.1) fun z=>z==x&&c.wC x&& !gY x&&mE c i u.2&&eV u.2&&qt c as t.2&& !t.2.isEmpty
def Gs:Stmt->Option (Expr×Expr)
 | .Assign [t] v _=>some (t,v)|_=>none
theorem uh {a:Stmt} {t:Expr×Expr} (h:Gs a=some t):∃ p,a= .Assign [t.1] t.2 p:=by
 cases a with
 |Assign ts v p=>
  match ts,h with
  |[x],h=>cases cH (show some (x,v)=some t from h);exact⟨p,rfl⟩
  |[],h=>exact aq h|_::_::_,h=>exact aq h
 |_=>exact aq h
def Ug:Stmt->Option (Expr×jl×Expr)
 | .AugAssign t o v _=>some (t,o,v)|_=>none
theorem Gr {a:Stmt} {t:Expr×jl×Expr} (h:Ug a=some t):∃ p,a= .AugAssign t.1 t.2.1 t.2.2 p:=by
 cases a with
 |AugAssign x o v p=>cases cH (show some (x,o,v)=some t from h);exact⟨p,rfl⟩
 |_=>exact aq h
def aik:Stmt->Option Expr
 | .Expr v _=>some v|_=>none
theorem aa1 {a:Stmt} {t:Expr} (h:aik a=some t):∃ p,a= .Expr t p:=by
 cases a with
 |Expr v p=>cases cH (show some v=some t from h);exact⟨p,rfl⟩
 |_=>exact aq h
def aaZ:Stmt->Option (Option Expr)
 | .Return v _=>some v|_=>none
theorem Rd {a:Stmt} {t:Option Expr} (h:aaZ a=some t):∃ p,a= .Return t p:=by
 cases a with
 |Return v p=>cases cH (show some v=some t from h);exact⟨p,rfl⟩
 |_=>exact aq h
def uIf:Stmt->Option (Expr×List Stmt×List Stmt)
 | .If t x y _=>some (t,x,y)|_=>none
theorem af0 {a:Stmt} {t:Expr×List Stmt×List Stmt} (h:uIf a=some t):∃ p,a= .If t.1 t.2.1 t.2.2 p:=by
 cases a with
 |If u x y p=>cases cH (show some (u,x,y)=some t from h);exact⟨p,rfl⟩
 |_=>exact aq h
def aij:Stmt->Option (Expr×Expr×List Stmt)
 | .For t i b [] _=>some (t,i,b)|_=>none
theorem aa0 {a:Stmt} {t:Expr×Expr×List Stmt} (h:aij a=some t):∃ p,a= .For t.1 t.2.1 t.2.2 [] p:=by
 cases a with
 |For u i b e p=>
  cases e with
  |nil=>cases cH (show some (u,i,b)=some t from h);exact⟨p,rfl⟩
  |cons _ _=>exact aq h
 |_=>exact aq h
def aii:Stmt->Option (Expr×List Stmt)
 | .While t b [] _=>some (t,b)|_=>none
theorem aaY {a:Stmt} {t:Expr×List Stmt} (h:aii a=some t):∃ p,a= .While t.1 t.2 [] p:=by
 cases a with
 |While u b e p=>
  cases e with
  |nil=>cases cH (show some (u,b)=some t from h);exact⟨p,rfl⟩
  |cons _ _=>exact aq h
 |_=>exact aq h
mutual
noncomputable def mS (c:Ctx):S->Stmt->Bool
 | .set i e,a=>opt (Gs a) fun t=>opt (jW t.1) fun x=>c.at_ i x&&c.loc x&&mE c e t.2&&(iT t.2||Qi e)
 | .Ul is e,a=>opt (Gs a) fun t=>opt (T5 t.1) fun ts=>c.calm&&kE c is ts&&mE c e t.2&&iT t.2&&Df t.2
 | .dput o i e,a=>opt (Gs a) fun t=>opt (BJ t.1) fun u=>c.calm&&mE c o u.1&&mE c i u.2&&eV u.2&&mE c e t.2&&iT t.2
 | .Fd op o i e,a=>opt (Ug a) fun t=>opt (BJ t.1) fun u=>op==t.2.1&&(op== .Add||op== .Sub)&&mE c o u.1&&mE c i u.2&&eV u.2&&mE c e t.2.2
 | .wR o i e,a=>opt (Gs a) fun t=>opt (BJ t.1) fun u=>mE c o u.1&&mE c i u.2&&eV u.2&&mE c e t.2&&iT t.2
 | .aug i op e,a=>opt (Ug a) fun t=>opt (jW t.1) fun x=>c.at_ i x&&c.loc x&&op==t.2.1&&(op== .Add||op== .Sub)&&mE c e t.2.2
 | .exp e,a=>opt (aik a) fun v=>mE c e v&&iT v
 | .ret e,a=>opt (aaZ a) fun o=>opt o fun v=>mE c e v
 | .ite t x y,a=>opt (uIf a) fun u=>mE c t u.1&&Fl c x u.2.1&&Fl c y u.2.2
 | .for_ is tt it b,a=>opt (aij a) fun u=>c.calm&&ZR c is tt u.1&&mI c it u.2.1&&Fl c b u.2.2&&kh u.2.1&&tE tt it
 | .whl t b,a=>opt (aii a) fun u=>mE c t u.1&&Fl c b u.2
 | .wg cn f o e,a=>opt (Gs a) fun t=>opt (Gp t.1) fun u=>u.2==aC f&&mE c o u.1&&mE c e t.2
 | .Xo cn f op o e,a=>opt (Ug a) fun t=>opt (Gp t.1) fun u=>u.2==aC f&&op==t.2.1&&(op== .Add||op== .Sub)&&mE c o u.1&&mE c e t.2.2
 | .abp k,a=>opt (aaZ a) fun o=>opt o fun v=>mXC c k v
 | .Yk,_=>true
noncomputable def Fl (c:Ctx):Ss->List Stmt->Bool
 | .nil,as=>as.isEmpty| .cons s r,as=>match as with|[]=>false|a::as=>mS c s a&&Fl c r as
end
set_option genInjectivity false in
inductive Rf where
 |fn (x:Str)|pA (c m:String)|mk (c:String)|fld (c f:String)
 |din (x:Str) (ks:List (List Nat))|dsp (x:Str) (ks:List (List Nat)) (sp:zx)
 |lam
 |fnM (x:Str)|rsi (c:String) (ks:List String)|efl (f:String) (tab:List String)
 |fnX (x:Str) (sp:zx)|ak2 (c m:String) (sp:zx)|mkX (c:String) (sp:zx)|rse (c:String)|hdl (P:String) (tab:List String)|isx (tt:Bool) (ts:List String) (tab:List (String×Bool))
def spN:dZ:=fun _ _ _=>False
mutual
noncomputable def cj (P:Rf->dZ->Prop) (G:Str->D->Prop):E->Prop
 | .gbl x d=>G x d| .bin _ a b=>cj P G a/\cj P G b| .neg a=>cj P G a| .not a=>cj P G a| .cmp _ a b=>cj P G a/\cj P G b| .KN _ a b=>cj P G a/\cj P G b| .chain _ _ a b c=>cj P G a/\cj P G b/\cj P G c| .and a b=>cj P G a/\cj P G b| .or a b=>cj P G a/\cj P G b| .ife a b c=>cj P G a/\cj P G b/\cj P G c| .call x sp as=>P (.fn x) sp/\fQ P G as| .blt _ as=>fQ P G as| .isin a _=>cj P G a| .isin a t (some ks)=>P (.din (aC t) ks) spN/\cj P G a| .Jf a=>cj P G a| .ZW a=>cj P G a| .meth _ o as=>cj P G o/\fQ P G as| .tix o as=>cj P G o/\fQ P G as| .sqm _ o as=>cj P G o/\fQ P G as| .rmv o as=>cj P G o/\fQ P G as| .aad as=>fQ P G as| .idx a b=>cj P G a/\cj P G b| .slc _ a lo hi=>cj P G a/\fQ P G lo/\fQ P G hi| .tup as=>fQ P G as| .lst _ as=>fQ P G as| .comp _ _ _ _ elt it cond=>cj P G elt/\okI P G it/\fQ P G cond| .frz a=>cj P G a| .aan a b=>cj P G a/\cj P G b| .cat _ a b=>cj P G a/\cj P G b| .rep _ a b=>cj P G a/\cj P G b| .fld c f o=>P (.fld c f) spN/\cj P G o| .pA c m sp o as=>P (.pA c m) sp/\cj P G o/\fQ P G as| .mk c sp as=>P (.mk c) sp/\fQ P G as|_=>True
noncomputable def fQ (P:Rf->dZ->Prop) (G:Str->D->Prop):Es->Prop
 | .nil=>True| .cons e es=>cj P G e/\fQ P G es
noncomputable def okI (P:Rf->dZ->Prop) (G:Str->D->Prop):It->Prop
 | .seq e=>cj P G e| .rng as=>fQ P G as| .zip a b=>cj P G a/\cj P G b| .enum a=>cj P G a| .rvd a=>cj P G a
end
def ZD (P:Rf->dZ->Prop) (G:Str->D->Prop):XC->Prop
 | .dsp x ks sp i as=>P (.dsp x ks sp) spN/\cj P G i/\fQ P G as
mutual
noncomputable def okS (P:Rf->dZ->Prop) (G:Str->D->Prop):S->Prop
 | .set _ e=>cj P G e| .Ul _ e=>cj P G e| .dput o i e=>cj P G o/\cj P G i/\cj P G e| .Fd _ o i e=>cj P G o/\cj P G i/\cj P G e| .wR o i e=>cj P G o/\cj P G i/\cj P G e| .aug _ _ e=>cj P G e| .exp e=>cj P G e| .ret e=>cj P G e| .ite c a b=>cj P G c/\lZ P G a/\lZ P G b| .for_ _ _ it b=>okI P G it/\lZ P G b| .whl c b=>cj P G c/\lZ P G b| .wg c f o e=>P (.fld c f) spN/\cj P G o/\cj P G e| .Xo c f _ o e=>P (.fld c f) spN/\cj P G o/\cj P G e| .abp k=>ZD P G k|_=>True
noncomputable def lZ (P:Rf->dZ->Prop) (G:Str->D->Prop):Ss->Prop
 | .nil=>True| .cons s r=>okS P G s/\lZ P G r
end
open PySem.Spec PyProof.Rows
open L2 (aQ Key frs rG Loc Look Mod rH cV)
section
variable {X:Cx} {ρ:dJ} {θ:Th} {μ:Mem} {s:aj} {d e x y:D} {u v w:Value} {ds es:List D} {us vs:List Value} {Qd:QD} {Q:Value->aj->Prop} {E:Value->aj->Prop} {a:Addr} {n k j:Nat} {A:aX} {wa wb wc:WE} {pos:Pos}
theorem ail {Qa:Bool->Mem->Prop} {Qb:Bool->aj->Prop} (i:Iv X ρ θ μ s) (r:Rp s.heap θ μ d u) (h:iu d μ Qa) (f:Fn X ρ θ μ s Alike Qa Qb):ak X.M X.A (G3 u) Qb E s:=by
 have hs:sizeLine=16777216:=gF;unfold iu at h;split at h
 .rename_i b e
  have sq:∀ {ds:List D},au μ d=some ds->b=(ds.length !=0)->ak X.M X.A (G3 u) Qb E s:=fun {ds} e eb=>by
   obtain⟨a,us,rfl,x,r⟩:=qG i.dD r e;have l:=x.fix.1;(have z:(!us.toArray.isEmpty)=b:=by rw[eb,<-r.length];cases us<;>simp);by_cases hk:QT d=0
   .rw[hk]at x
    exact truthy_tuple (cM x) (by simp only[cJ];omega) (by rw[z];exact f.tok i rfl h)
   .exact wpAny_truthy_list (eU x hk).isList (by simp only[cJ];omega) (by rw[z];exact f.tok i rfl h)
  cases d with
  |non=>cases(show u=iB from r);cases e;exact truthy_none (f.at i rfl h)
  |bl c=>cases(show u=iG c from r);cases e;exact pQ (f.at i rfl h)
  |int c=>obtain⟨t,rfl⟩:=r;cases e;exact PySem.P.truthy_int (f.at i rfl h)
  |str c=>obtain⟨⟨t,rfl⟩,l⟩:=r;cases e;refine PySem.P.truthy_str (by simp only[fP,cJ];omega) (f.tok i ?_ h);show(c.length !=0)=_;simp only[fP,cJ];cases c<;>simp;omega
  |tup l=>cases e;exact sq rfl rfl
  |lst l=>cases e;exact sq rfl rfl
  |ro l=>cases e;exact sq rfl rfl
  |loc n=>
   simp only[truth,lenOf]at e;cases q:au μ (.loc n) with
   |none=>rw[q]at e;cases e
   |some ds=>rw[q]at e;cases e;exact sq q rfl
  |_=>exact r.elim
 .exact h.elim
theorem aiW {a:Expr} (ha:PE X a wa) (he:∀ whole,xZ a X.env whole=(do let v<-whole;M6 a.pos;yg [v] (G3 v))):PT X a (fun ρ μ Q=>wa ρ μ fun d μ1=>iu d μ1 Q):=fun i h f=>isTrue_plain (ha i h fun i1 g1 r1 h1=>ail i1 r1 h1 (f.mono g1)) (he _)
theorem aa2 {t:String} (w:qx X.T θ μ s.heap) (r:Rp s.heap θ μ d u) (h:tyOf μ d=some t):t∈["NoneType","bool","int","str","tuple","list","dict"]/\s.TypeIs u t/\∀ a,u= .ref a->∃ o,s.heap.get? a=some o/\o.dict=none:=by
 cases d with
 |non=>cases(show u=iB from r);cases h;exact⟨by simp,rfl,fun _ e=>nomatch e⟩
 |bl c=>cases(show u=iG c from r);cases h;exact⟨by simp,rfl,fun _ e=>nomatch e⟩
 |int i=>obtain⟨t,rfl⟩:=r;cases h;exact⟨by simp,Uz s i t,fun _ e=>nomatch e⟩
 |str y=>obtain⟨⟨t,rfl⟩,_⟩:=r;cases h;exact⟨by simp,Cj s _ t,fun _ e=>nomatch e⟩
 |tup ds=>obtain⟨a,us,rfl,⟨_,o,n,e,c,_,z⟩,_⟩:=r;cases h;exact⟨by simp,⟨o,e,c⟩,fun _ q=>by cases q;exact⟨o,e,z⟩⟩
 |lst ds=>obtain⟨a,us,rfl,⟨_,n,e⟩,_⟩:=r;cases h;exact⟨by simp,⟨_,e,rfl⟩,fun _ q=>by cases q;exact⟨_,e,rfl⟩⟩
 |loc n=>
  obtain⟨p,rfl,hp⟩:=r;simp only[tyOf]at h;split at h
  .rename_i es hn
   obtain⟨us,⟨_,n,e⟩,_⟩:=w.cell _ _ p hn hp;cases h;exact⟨by simp,⟨_,e,rfl⟩,fun _ q=>by cases q;exact⟨_,e,rfl⟩⟩
  .rename_i ks es hn
   obtain⟨⟨_,⟨o,_,_,e,x,_⟩,_⟩,_⟩:=w.cell _ _ p hn hp;cases h;exact⟨by simp,⟨o,e,x.1⟩,fun _ q=>by cases q;exact⟨o,e,x.2.1⟩⟩
  .rename_i ks es hn
   obtain⟨⟨_,⟨o,_,_,e,x,_⟩,_⟩,_⟩:=w.cell _ _ p hn hp;cases h;exact⟨by simp,⟨o,e,x.1⟩,fun _ q=>by cases q;exact⟨o,e,x.2.1⟩⟩
  .cases h
 |ro _=>cases h
 |_=>exact r.elim
theorem Ga {i:Int} (h:pG n i=some j):Uw i n=some j/\j<n/\-(n:Int)<=i/\i<n:=L2.ag5 h
theorem aiB {h:Heap} {i:Int} (r:dF h θ μ ds us) (q:(pG ds.length i).bind (ds[·]?)=some d):∃ j u,us[j]?=some u/\Rp h θ μ d u/\Uw i us.length=some j/\-(us.length:Int)<=i/\i<us.length:=by
 rw[<-r.length]at q;cases e:pG us.length i with
 |none=>rw[e]at q;cases q
 |some j=>rw[e]at q;obtain⟨h1,_,h3,h4⟩:=Ga e;obtain⟨u,hu,ru⟩:=r.get (i:=j) q;exact⟨j,u,hu,ru,h1,h3,h4⟩
theorem ajT {value slice:Expr} (i:Iv X ρ θ μ s) (rd:Rp s.heap θ μ x u) (re:Rp s.heap θ μ y v) (hw:d7 x y μ Qd) (f:Fin X ρ θ μ s Qd Q) (hs:Nz slice false u v=operate [u,v] (jk u v)):
  ak X.M X.A (subscriptTail value slice u v) Q E s:=by
 have hn:=Py;unfold d7 at hw;split at hw
 .rename_i z i'
  obtain⟨⟨t,rfl⟩,hz⟩:=rd;obtain⟨t',rfl⟩:=re;split at hw
  .rename_i c hc
   cases e:pG z.length i' with
   |none=>rw[e]at hc;cases hc
   |some j=>rw[e]at hc;obtain⟨h1,h2,h3,h4⟩:=Ga e;(have hl:(⟨z.toArray⟩:Str).length=z.length:=by simp[fP]);exact tail_any (Cj s _ t) aco.lookup (getItem_str (c:=c) (by have e1:decide (i' < -(2 ^ 63:Int))=false:=decide_eq_false (by omega);have e2:decide (i' ≥2 ^ 63)=false:=decide_eq_false (by omega);rw[e1,e2,Bool.or_false]) (by rw[hl,h1];simpa using hc) (f.tok i (GR (x:=[c]) (by simp[gF])) hw)) hs
  .exact hw.elim
 .rename_i x' i' hne
  obtain⟨t',rfl⟩:=re;split at hw
  .rename_i ds hq
   obtain⟨a,us,rfl,z,r⟩:=qG i.dD rd hq;have l:=z.fix.1;split at hw
   .rename_i d' hd
    obtain⟨j,w,ew,rw',h1,h3,h4⟩:=aiB r hd;have fin:Q w s:=f.at i rw' hw;by_cases hk:QT x=0
    .rw[hk]at z
     exact adt (x:=w) (cM z).typeIs CT.lookup
      (getItem_tuple (j:=j) (Q:=fun r s'=>r=w/\Q r s') (cM z) (by omega) (by omega) (by rw[cJ];exact h1) (by simpa using ew) ⟨rfl,fin⟩) hs
    .have pl:=eU z hk
     by_cases h0:0<=i'
     .have hj:i'.toNat=j:=by rw[U5 h0 h4]at h1;exact cH h1
      exact item_listR pl.isList h0 (by omega) (by rw[hj];simpa using ew) fin hs
     .have hj:(i' +(us.toArray.size:Int)).toNat=j:=by rw[seqIndex_neg (by omega) h3]at h1;rw[cJ];exact cH h1
      exact adt (x:=w) pl.isList.typeIs acE.lookup
       (wpAny_getItem_list_neg (Q:=fun r s'=>r=w/\Q r s') pl.isList (by omega) (by rw[cJ]<;>omega) (by omega) (by rw[hj];simpa using ew) ⟨rfl,fin⟩) hs
   .exact hw.elim
  .exact hw.elim
 .exact hw.elim
def Bv (b:Expr):Prop:=∀ o i,Nz b false o i=operate [o,i] (jk o i)
theorem ajg {a b:Expr} (ha:PE X a wa) (hb:PE X b wb) (hs:Bv b):PE X (.Subscript a b pos) (fun ρ μ Q=>wa ρ μ fun x μ1=>wb ρ μ1 fun y μ2=>d7 x y μ2 Q):=fun i h f=>UJ (ha i h fun i1 g1 r1 h1=>hb i1 h1 fun i2 g2 r2 h2=>ajT i2 ((i1.kp g2).rp r1) r2 h2 (f.mono (g1.trans g2)) (hs _ _))
theorem pL (n d:Nat) (o:Option Int):ni n d o=HT.pH n d o:=by
 cases o with
 |none=>rfl|some v=>first|rfl|(simp only[ni,HT.pH];done)|(simp only[ni,HT.pH];split<;>omega)
theorem part_of {o:Option Int} (h:lX v o):∃ l:Option (Int×Tok),partValue l=v/\l.map (·.1)=o:=by
 cases h with
 |none=>exact⟨none,rfl,rfl⟩|int i t=>exact⟨some (i,t),rfl,rfl⟩
theorem Zn {z:List Nat} {lo hi:Option Int} (h1:∀ i,lo=some i->0<=i) (h2:∀ i,hi=some i->0<=i):
  mU lo hi 1 z.length=mU (some ((ni z.length 0 lo:Nat):Int)) (some ((ni z.length z.length hi:Nat):Int)) 1 z.length:=by
 have e1:∀ (d:Nat) (i:Int),0<=i->((ni z.length d (some i):Nat):Int)=min i z.length:=fun d i a=>by unfold ni;simp only[show¬i<0 by omega,if_false];omega
 have k0:∀ hi,mU none hi 1 z.length=mU (some 0) hi 1 z.length:=fun hi=>by unfold mU;simp[show max (0:Int) (min 0 (z.length:Int))=0 by omega]
 have k1:∀ lo,mU lo none 1 z.length=mU lo (some (z.length:Int)) 1 z.length:=fun lo=>by unfold mU;simp[show¬((z.length:Int)<0) by omega,show max (0:Int) (min (z.length:Int) (z.length:Int))=z.length by omega]
 have k2:∀ (i:Int) hi,0<=i->mU (some i) hi 1 z.length=mU (some (min i z.length)) hi 1 z.length:=fun i hi a=>by unfold mU;simp[show¬(i<0) by omega,show¬(min i (z.length:Int)<0) by omega,show min (min i (z.length:Int)) (z.length:Int)=min i (z.length:Int) by omega]
 have k3:∀ (i:Int) lo,0<=i->mU lo (some i) 1 z.length=mU lo (some (min i z.length)) 1 z.length:=fun i lo a=>by unfold mU;simp[show¬(i<0) by omega,show¬(min i (z.length:Int)<0) by omega,show min (min i (z.length:Int)) (z.length:Int)=min i (z.length:Int) by omega]
 have lo':mU lo hi 1 z.length=mU (some ((ni z.length 0 lo:Nat):Int)) hi 1 z.length:=by
  cases lo with
  |none=>exact k0 hi|some i=>rw[e1 _ i (h1 i rfl)];exact k2 i hi (h1 i rfl)
 rw[lo'];cases hi with
 |none=>exact k1 _|some j=>rw[e1 _ j (h2 j rfl)];exact k3 j _ (h2 j rfl)
theorem Zg {prog:cg} {w:bA} {A:aX} {E:Value->aj->Prop} {s:aj} {t sl:Addr} {its:Array Value} {vl vu:Value} {lo hi:Option Int} {Q:Value->aj->Prop}
  (ht:IsTup s.heap t its) (hs:s.heap.IsSliceOf sl vl vu .none) (pl:lX vl lo) (pu:lX vu hi) (h0:HT.pH its.size 0 lo=0) (h1:HT.pH its.size its.size hi=its.size) (h:Q (.ref t) s):
  ak (aH prog w) A (jk (.ref t) (.ref sl)) Q E s:=by
 have ts:s.TypeIs (.ref sl) "slice":=by obtain⟨os,a,b,_⟩:=id hs;exact⟨os,a,b⟩
 unfold jk
 (try with_reducible refine rU ?_)
 (first|refine ao (aD ?_)|skip)
 refine ao
  (VJ ht.typeIs (by decide) ?_)
 refine ao (tQ
  (name:=aC "__getitem__") ht.typeIs
  CT (qJ
   CT ht.typeIs acH ?_ (acD _ _)))
 show ak _ _ (adR _>>=_) _ _ s;refine ao (abY ht
  (ao (NQ ts ?_)))
 rw[if_pos (by decide)];refine ao (HT.qH hs pl pu ?_);rw[h0,h1];show ak _ _ (if((((0:Nat):Int)==0&&(1:Int)==1&&(its.size -0)==its.size)=true)then _ else _) _ _ s;rw[if_pos (by simp)];first
  |exact ao (ao (m:=adN _) (ao (NQ ht.typeIs (aD (ao (qm (ao (aD ⟨_,rfl,aD h⟩))))))))
  | exact ao (m:=adN _) (ao (NQ ht.typeIs (aD (by
    show ak _ _ (if((Hj "tuple"==Hj "tuple")=true)then _ else _) _ _ s;rw[if_pos (by decide)];first
     |exact ao (qm (aD ⟨_,rfl,aD h⟩))
     |exact ao (qm (ao (aD (aD ⟨_,rfl,aD h⟩))))
     |exact ao (qm (ao (aD ⟨_,rfl,aD h⟩)))))))
theorem agh {vl vu:Value} {lo hi:Option Int} {sl:Addr} (i:Iv X ρ θ μ s) (rd:Rp s.heap θ μ (.tup ds) v) (hs:s.heap.IsSliceOf sl vl vu .none) (pl:lX vl lo) (pu:lX vu hi) (hq:Qd (.tup (cutD ds lo hi)) μ) (f:Fin X ρ θ μ s Qd Q):
  ∃ T id,Nu (.type T) "__getitem__"=pure (some (.builtin id))/\s.TypeIs v T/\ak X.M X.A (jk v (.ref sl)) Q E s:=by
 have rd':=rd;obtain⟨a,us,rfl,x,_,r⟩:=rd;have ht:=cM x;have l:=x.fix.1;have hlen:us.toArray.size=ds.length:=by rw[cJ,r.length]
 refine⟨"tuple",_,CT.lookup,ht.typeIs,?_⟩;by_cases hn:ni ds.length 0 lo=0/\ni ds.length ds.length hi=ds.length
 .rw[show cutD ds lo hi=ds by unfold cutD;rw[hn.1,hn.2];simp]at hq
  exact Zg ht hs pl pu (by rw[hlen,<-pL];exact hn.1) (by rw[hlen,<-pL];exact hn.2) (f.at i rd' hq)
 .refine HT.Bg ht hs pl pu (by rw[hlen,<-pL,<-pL];exact hn) ?_ (by rw[cJ];exact l)
  rw[<-pL,<-pL,hlen];refine f.sq i cU (aL _) (oG _ ?_).2 ((r.drop _).take _) hq;simp only[rZ,uU];omega
theorem aiv {vl vu:Value} {lo hi:Option Int} {sl:Addr} (m:Bool) (i:Iv X ρ θ μ s) (rd:Rp s.heap θ μ d v) (hs:s.heap.IsSliceOf sl vl vu .none) (pl:lX vl lo) (pu:lX vu hi) (hw:Kc m d lo hi μ Qd) (f:Fin X ρ θ μ s Qd Q):
  ∃ T id,Nu (.type T) "__getitem__"=pure (some (.builtin id))/\s.TypeIs v T/\ak X.M X.A (jk v (.ref sl)) Q E s:=by
 have go:∀ {ds:List D} {us:List Value} {a:Addr},v= .ref a->jR s.heap 1 a us->dF s.heap θ μ ds us->newL m (cutD ds lo hi) μ Qd->∃ T id,Nu (.type T) "__getitem__"=pure (some (.builtin id))/\s.TypeIs v T/\ak X.M X.A (jk v (.ref sl)) Q E s:=fun {ds us a} ev x r hq=>by
  subst ev;have pl':=eU x (by decide);have l:=x.fix.1;refine⟨"list",_,acE.lookup,pl'.isList.typeIs,wpAny_getItem_list_slice (E:=E) (Q:=Q) pl'.isList hs pl pu .none (by simp) ?_ (by rw[cJ]<;>omega)⟩;rw[L2.Kg,<-pL,<-pL];refine f.newL i cU (aL _) (oG _ ?_).1 ?_ hq
  .rw[rZ,uU];omega
  .rw[r.length];exact(r.drop _).take _
 cases d with
 |lst ds=>obtain⟨a,us,ev,x,_,r⟩:=rd;exact go ev x r hw|loc n=>
  simp only[Kc]at hw;split at hw
  .rename_i ds hn
   obtain⟨p,us,ev,_,_,x,r⟩:=Iv.lst i.dD hn rd;exact go ev x r hw
  .exact hw.elim
 |str z=>
  obtain⟨⟨t,rfl⟩,hz⟩:=rd;obtain⟨⟨h1,h2,h3⟩,hq⟩:=hw;obtain⟨l,rfl,el⟩:=part_of pl;obtain⟨u',rfl,eu⟩:=part_of pu;have hb:ni z.length z.length hi<=z.length:=by
   cases hi with
   |none=>exact aL _|some j=>unfold ni;simp only[show¬j<0 by have:=h2 j rfl;omega,if_false];omega
  have hpk:Ny ⟨z.toArray⟩ l u' none=mU (some ((ni z.length 0 lo:Nat):Int)) (some ((ni z.length z.length hi:Nat):Int)) 1 z.length:=by unfold Ny;rw[el,eu];have:=Zn (z:=z) h1 h2;simpa[fP]using this
  have hpf:(Ny ⟨z.toArray⟩ l u' none).filterMap ((⟨z.toArray⟩:Str).cps[·]?)=cutD z lo hi:=by rw[hpk];have:=StrLaws.sliced_plain ⟨z.toArray⟩ h3 (by simpa[fP]using hb);simpa[fP,cutD]using this
  refine⟨"str",_,aco.lookup,Cj s _ t,wpAny_getItem_str_slice (l:=l) (u:=u') (st:=none) (by obtain⟨o,a,b,c⟩:=hs;exact⟨o,a,b,c⟩) rfl ?_⟩;have hcl:(cutD z lo hi).length<=sizeLine:=by (have:(cutD z lo hi).length<=z.length:=by unfold cutD;simp;omega);omega
  unfold sliceMade;split
  .rename_i hw
   have:cutD z lo hi=z:=by (have hlen:(Ny ⟨z.toArray⟩ l u' none).length=z.length:=by simpa[fP]using hw);rw[hpk,StrLaws.strSliceIndices_plain h3 hb]at hlen;simp at hlen;unfold cutD;rw[show ni z.length 0 lo=0 by omega,show ni z.length z.length hi=z.length by omega];simp
   rw[this]at hq;exact f.at i (GR hz) hq
  .rw[hpf]
   exact⟨by simpa[fP]using hcl,f.tok i (GR hcl) hq⟩
 |tup ds=>exact agh i rd hs pl pu hw f|_=>exact hw.elim
noncomputable abbrev WO:=dJ->Mem->(Option Int->Mem->Prop)->Prop
noncomputable abbrev PO (X:Cx) (e:Option Expr) (w:WO):Prop:=Jg X (fun _ _ _ o v=>lX v o) (evalPart e X.env) w
theorem agw:PO X none fun _ μ Q=>Q none μ:=fun i h f=>by rw[evalPart_none];exact aD (f.at i .none h)
theorem agv {a:Expr} (ha:PE X a wa):PO X (some a) fun ρ μ Q=>wa ρ μ fun d μ1=>Gj d μ1 fun i μ2=>Q (some i) μ2:=fun i h f=>by
 rw[evalPart_some];refine ha i h fun {d _ _ _ _} i1 g1 r1 h1=>?_;cases d with
 |int k=>obtain⟨t,rfl⟩:=r1;exact f i1 g1 (.int k t) h1|_=>exact h1.elim
theorem ajc {a:Expr} {lo hi:Option Expr} {wl wh:WO} {p2:Pos} (m:Bool) (ha:PE X a wa) (hl:PO X lo wl) (hu:PO X hi wh):
  PE X (.Subscript a (.Slice lo hi none p2) pos) (fun ρ μ Q=>wa ρ μ fun x μ1=>wl ρ μ1 fun l μ2=>wh ρ μ2 fun h μ3=>Kc m x l h μ3 Q):=fun i h f=>by
 refine UJ (ha i h fun i1 g1 r1 h1=>wpAny_Slice (hl i1 h1 fun {_ vl _ _ _} i2 g2 pl h2=>hu i2 h2 fun {_ vu s3 θ3 μ3} i3 g3 pu h3=>?_));rw[evalPart_none];refine aD ?_;have i4:=i3.kept (tk:=s3.toks) (h':=s3.heap.push {cls:=.type "slice",data:=.fields #[vl,vu,.none]}) cU;have g4:G0 X θ3 μ3 s3 θ3 μ3 _:=cB (tk:=s3.toks) (h':=s3.heap.push {cls:=.type "slice",data:=.fields #[vl,vu,.none]}) cU;obtain⟨T,id,hT,ht,hg⟩:=aiv m i4 ((iV cU).rp ((i1.kp (g2.trans g3)).rp r1)) (aiG ..) pl pu h3 (f.mono (((g1.trans g2).trans g3).trans g4));exact tail_any (ops:=[.ref s3.heap.objs.size,_]) ht hT hg (by with_unfolding_all rfl)
theorem Uk {h:Heap} {us vs:List Value} {g:Array Value->Array Value} (x:jR h 1 a us) (hf:g us.toArray=vs.toArray) (l:vs.length<=sizeLine):jR (h.update a (yr g)) 1 a vs/\∀ b o,b≠a->h.get? b=some o->(h.update a (yr g)).get? b=some o:=by obtain⟨_,n,e⟩:=x;have q:=acn e g;rw[hf]at q;exact⟨⟨l,_,q⟩,fun b o hb z=>(wW _ _ (bN hb)).trans z⟩
theorem Rq {ov iv u:Value} {z:D} {K:Mem->Prop} {R:Unit->aj->Prop} (i:Iv X ρ θ μ s) (rx:Rp s.heap θ μ x ov) (ry:Rp s.heap θ μ y iv) (rz:Rp s.heap θ μ z u) (hw:jU x y z μ K)
  (f:∀ {s' μ'},Iv X ρ θ μ' s'->G0 X θ μ s θ μ' s'->K μ'->R () s'):ak X.M X.A (G5 ov iv u) R E s:=by
 have hn:=Py;unfold jU at hw;split at hw
 .rename_i n j
  split at hw
  .rename_i xs hn'
   obtain⟨p,us,rfl,hp,h2,q,r⟩:=Iv.lst i.dD hn' rx;obtain⟨t,rfl⟩:=ry;split at hw
   .rename_i k hk
    rw[<-r.length]at hk;obtain⟨h1,_,h3,h4⟩:=Ga hk;have l:=q.fix.1;obtain⟨q',kp⟩:=Uk q (g:=(·.setIfInBounds k u)) (vs:=us.set k u) (by simp) (by simpa using l)
    obtain⟨i',g,_⟩:=i.aiw (tk:=s.toks) hn' hp h2 kp q' (r.set rz k);have fin:=f i' g hw;obtain⟨_,m,e⟩:=q;by_cases h0:0<=j
    .have hj:j.toNat=k:=by rw[U5 h0 h4]at h1;exact cH h1
     exact PySem.W.ki_setAt e h0 (by omega) (by rw[cJ];exact h4) (by rw[hj];exact fin)
    .have hj:(j+(us.toArray.size:Int)).toNat=k:=by rw[seqIndex_neg (by omega) h3]at h1;rw[cJ];exact cH h1
     exact PySem.W.ki_setBack e (by omega) (by rw[cJ];exact h3) (by omega) (by rw[hj];exact fin)
   .exact hw.elim
  .exact hw.elim
 .exact hw.elim
def Mt (X:Cx) (id:String) (w:D->List D->Mem->QD->Prop):Prop:=
 ∀ {s:aj} {ρ:dJ} {θ:Th} {μ:Mem} {x:D} {ds:List D} {u:Value} {us:List Value} {Qd:QD} {Q:Value->aj->Prop} {E:Value->aj->Prop},Iv X ρ θ μ s->Rp s.heap θ μ x u->dF s.heap θ μ ds us->w x ds μ Qd->Fin X ρ θ μ s Qd Q->
  ak X.M X.A (call (.builtin id) (u::us)) Q E s
theorem Yj (h:n<=sizeLine):H9 n=false:=by unfold H9;exact decide_eq_false (by omega)
theorem dF.dropLast (r:dF s.heap θ μ ds us):dF s.heap θ μ ds.dropLast us.dropLast:=by rw[adf,adf,r.length];exact r.take _
theorem dF.eraseIdx (r:dF s.heap θ μ ds us) (k:Nat):dF s.heap θ μ (ds.eraseIdx k) (us.eraseIdx k):=by rw[adZ,adZ];exact(r.take k).append (r.drop (k+1))
theorem FQ (i:Iv X ρ θ μ s) (rd:Rp s.heap θ μ x u) (hw:dU m x ds μ Qd) (f:Fin X ρ θ μ s Qd Q):∃ n xs a vs,bY m n xs ds μ Qd/\u= .ref a/\jR s.heap 1 a vs/\dF s.heap θ μ xs vs/\
  ∀ {g:Array Value->Array Value} {xs':List D} {vs':List Value} {d:D} {u':Value} {t:Nat},g vs.toArray=vs'.toArray->vs'.length<=sizeLine->dF s.heap θ μ xs' vs'->Rp s.heap θ μ d u'->Qd d (μ.set n (.lst xs'))->Q u' {s with heap:=s.heap.update a (yr g),toks:=t}:=by
 cases x with
 |loc n=>
  simp only[dU]at hw;split at hw
  .rename_i xs hn
   obtain⟨p,vs,rfl,hp,h2,q,r⟩:=Iv.lst i.dD hn rd;refine⟨n,xs,p.1,vs,hw,rfl,q,r,fun {g xs' vs' d u' t} hg l r' rd' hq=>?_⟩;obtain⟨q',kp⟩:=Uk q hg l;obtain⟨i',g',k'⟩:=i.aiw (tk:=t) hn hp h2 kp q' r';exact f i' g' (k'.rp rd') hq
  .exact hw.elim
 |_=>exact hw.elim
theorem ZK:Mt X "list.append" (dU "append"):=fun {s ρ θ μ x ds u us Qd Q E} i rd rs hw f=>by
 obtain⟨n,xs,a,vs,hw,rfl,q,r,fin⟩:=FQ i rd hw f
 match ds,hw with
 |[e],hw=>obtain⟨w,rfl,re⟩:=rs.jB;have hw:xs.length<lim/\Qd .non (μ.set n (.lst (xs++[e]))):=hw;have l:=r.length;rw[sW]at hw;obtain⟨_,m,e1⟩:=q;exact jm Vf ⟨_,e1,rfl⟩ acX (ac7 _ _) (acC a vs.toArray m w (by rw[cJ];omega)) ⟨e1,fin (vs':=vs++[w]) (by simp) (by simp;omega) (r.append (.one re)) BX hw.2⟩|[],hw=>simp[bY]at hw|e1::e2::er,hw=>cases e1<;>cases er<;>simp[bY]at hw
theorem Wv (l:Addr) (as:Array Value) (n:Nat) (b:Addr) (bs:Array Value) (m:Nat) (sl:Array (Option Value)) (h0:¬(!as.isEmpty&&H9 (as.size+bs.size))=true) (h1:as.size<=sizeLine) (h2:(as++bs).size<=sizeLine+1):
  yd (nq.«list.extend» ⟨[.ref l,.ref b],[]⟩) (fun _ R s=>s.heap.get? l=some {cls:=.type "list",data:=.seq as n}/\s.heap.get? b=some {cls:=.type "tuple",dict:=none,data:=.seq bs m,slots:=sl}/\R (.ok (.ret iB)) {s with heap:=s.heap.update l (yr fun x=>x++bs),toks:=s.toks}):=
 .of_wp fun prog w A R s h=>by
  obtain⟨hp,gn,dd,tk,os⟩:=s;obtain⟨hl,hb,h⟩:=h;have z1:=AutoSeq1.sub_tuple_list;have z2:=AutoSeq1.sub_list_tuple;have z3:=adG;have z4:=AutoSeq1.sub_list_list
  wp_walk using(HB hl rfl (hz:=h1) (_hz':=h2)),tO hl,tO hb
  exact⟨_,rfl,h⟩
theorem afP (h:wlT μ d=some ds):au μ d=some ds/\QT d<=1:=by
 cases d with
 |tup l=>exact⟨h,iH _⟩|lst l=>exact⟨h,aL _⟩|loc n=>exact⟨h,aL _⟩|_=>cases h
theorem ZJ:Mt X "list.extend" (dU "extend"):=fun {s ρ θ μ x ds u us Qd Q E} i rd rs hw f=>by
 obtain⟨n,xs,a,vs,hw,rfl,q,r,fin⟩:=FQ i rd hw f
 match ds,hw with
 |[e],hw=>
  obtain⟨w,rfl,re⟩:=rs.jB;simp only[bY]at hw;split at hw
  .rename_i es he
   obtain⟨he,hk⟩:=afP he;obtain⟨b,ws,rfl,q2,r2⟩:=qG i.dD re he;have l:=r.length;have l2:=r2.length;rw[sW]at hw;obtain⟨_,m,e1⟩:=q;have YK:¬(!vs.toArray.isEmpty&&H9 (vs.toArray.size+ws.toArray.size))=true:=by rw[Yj (by rw[cJ,cJ];omega),Bool.and_false];exact dM
   have fin:=fin (g:=fun x=>x++ws.toArray) (t:=s.toks) (vs':=vs++ws) (by simp) (by simp;omega) (r.append r2) BX hw.2;obtain z|z:QT e=0∨QT e=1:=by omega
   .rw[z]at q2
    obtain⟨_,⟨oc,od,oda,osl⟩,m2,e2,c2,d2,nd⟩:=q2;cases c2;cases d2;cases nd;exact jm Ve ⟨_,e1,rfl⟩ acW (ac6 _ _) (Wv a vs.toArray m b ws.toArray m2 osl YK (by rw[cJ];omega) (by simp;omega)) ⟨e1,e2,fin⟩
   .rw[z]at q2
    obtain⟨_,m2,e2⟩:=q2;exact jm Ve ⟨_,e1,rfl⟩ acW (ac6 _ _)
     (AutoSeq1.list_extend_list_list_0 a vs.toArray m b ws.toArray m2 YK (by rw[cJ];omega) (by rw[cJ,cJ];omega)) ⟨e1,e2,fin⟩
  .exact hw.elim
 |[],hw=>simp[bY]at hw|e1::e2::er,hw=>cases e1<;>cases er<;>simp[bY]at hw
theorem aju:Mt X "list.pop" (dU "pop"):=fun {s ρ θ μ x ds u us Qd Q E} i rd rs hw f=>by
 obtain⟨n,xs,a,vs,hw,rfl,q,r,fin⟩:=FQ i rd hw f;have l:=r.length;obtain⟨hl,m,e1⟩:=q;rcases ds with _|⟨d1,_|⟨d2,ds⟩⟩
 .skip
  cases rs.nil_inv;simp only[bY]at hw;split at hw
  .rename_i e he
   obtain⟨w,hw',re⟩:=r.get he;rw[<-l]at hw';refine jm U3 ⟨_,e1,rfl⟩ acj (F.args_list_pop_1 _) (MeetsSeq.list_pop_last a vs.toArray m w (by simpa using hw') (by rw[cJ];omega)) ⟨e1,fin (vs':=vs.dropLast) ?_ (by simp;omega) r.dropLast re hw⟩;show vs.toArray.eraseIdxIfInBounds (vs.toArray.size -1)=vs.dropLast.toArray;rw[cJ,Wi,L2.W8]
  .exact hw.elim
 .obtain⟨k,rfl⟩:∃ k,d1= .int k:=by cases d1<;>first|exact⟨_,rfl⟩|exact(show False from hw).elim
  obtain⟨w,rfl,t,rfl⟩:=rs.jB;simp only[bY]at hw;split at hw
  .rename_i p hp
   split at hw
   .rename_i e he
    obtain⟨w,hw',re⟩:=r.get he;rw[<-l]at hp;obtain⟨h1,_,h3,h4⟩:=Ga hp;have hn:=Py;refine jm U3 ⟨_,e1,rfl⟩ acj (F.args_list_pop_2 _ _)
     (MeetsSeq.list_pop_at a vs.toArray m k t p w (fitsIndex_both (by omega) (by omega)) (by rw[cJ];exact h1) (by simpa using hw') (by rw[cJ];omega)) ⟨e1,fin (vs':=vs.eraseIdx p) ?_ (jc (L2.Lx vs p) hl) (r.eraseIdx p) re hw⟩
    show vs.toArray.eraseIdxIfInBounds p=(vs.eraseIdx p).toArray;rw[Wi]
   .exact hw.elim
  .exact hw.elim
 .cases d1<;>cases ds<;>exact(show False from hw).elim
theorem ZG:Mt X "list.insert" (dU "insert"):=fun {s ρ θ μ x ds u us Qd Q E} i rd rs hw f=>by
 obtain⟨n,xs,a,vs,hw,rfl,q,r,fin⟩:=FQ i rd hw f;have l:=r.length;obtain⟨hl,m,e1⟩:=q
 match ds,hw with
 |[],hw=>simp[bY]at hw|[e],hw=>simp[bY]at hw|[.int k,e],hw=>
  obtain⟨w,w',rfl,⟨t,rfl⟩,re⟩:=rs.zE;have hw:0<=k/\k<=xs.length/\xs.length<lim/\Qd .non (μ.set n (.lst (xs.take k.toNat++e::xs.drop k.toNat))):=hw;obtain⟨k0,k1,k2,hq⟩:=hw;rw[sW]at k2;refine jm abR ⟨_,e1,rfl⟩ F.entry_list_insert (F.args_list_insert_3 _ _ _) (AutoSeq1.list_insert_list_int_val_1 a vs.toArray m k t w' ?_ (by rw[cJ];omega)) ⟨e1,fin (vs':=vs.take k.toNat++w' ::vs.drop k.toNat) ?_ (by simp;omega) ((r.take _).append (.cons re (r.drop _))) BX hq⟩
  .have:Wd k=true:=by have hs:sizeLine=16777216:=gF;unfold Wd;simp;omega
   rw[this];simp
  .dsimp only
   have hk:(if k<0 then(k+(vs.toArray.size:Int)).toNat else min k.toNat vs.toArray.size)=k.toNat:=by rw[if_neg (by omega),cJ];omega
   rw[hk];apply Vx.mp;simp;rw[zO (by simp)]
 |e1::e2::e3::er,hw=>cases e1<;>simp[bY]at hw
end
end DW
namespace DW
open PySem PySem.Spec PyProof.Rows
open L2 (aQ Key frs rG Loc Look Mod rH cV Cls gC Meth Mk QS)
def afH (T:Top) (stack:List Env) (B:Heap) (s:aj) (θ:Th) (μ:Mem) (s':aj) (c:String) (ks:List String) (ds:List D) (e:Value):Prop:=
 ∃ (ea C:Addr) (ob:Obj) (vs:Array Value),e= .ref ea/\cZ T.K bT (aC c)=some (some (.ref C))/\ob.cls= .ref C/\ahE B stack ea ob vs s'.heap/\vs[2]?=some .none/\
  (∀ b o,s.heap.get? b=some o->b∉frs stack->∃ o',B.get? b=some o')/\qx T θ μ B/\s.heap.get? ea=none/\
  ks.length=ds.length/\((ks=[]/\ob.dict=none)∨(ks≠[]/\∃ dx,ob.dict=some dx/\dx≠ea/\(∃ o,B.get? dx=some o)/\¬J8 θ μ dx/\s.heap.get? dx=none/\aay B θ μ (ks.zip ds) dx))
def xM (T:Top) (stack:List Env) (s:aj) (θ:Th) (μ:Mem) (s':aj) (c:String) (ks:List String) (ds:List D) (e:Value):Prop:=∃ B,afH T stack B s θ μ s' c ks ds e
def Xy (X:Cx) (ρ:dJ) (θ:Th) (μ:Mem) (s:aj) (Xd:QX) (E:Value->aj->Prop):Prop:=
 ∀ {c:String} {ks:List String} {ds:List D} {e:Value} {s':aj} {θ':Th} {μ':Mem},Iv X ρ θ' μ' s'->G0 X θ μ s θ' μ' s'->xM X.T X.stack s θ' μ' s' c ks ds e->Xd c ks ds μ'->E e s'
def noX:QX:=fun _ _ _ _=>False
def upX (sp:dZ):zx:=fun ds μ Q _=>sp ds μ Q
structure mY (T:Top) (k:Nat) (f:Addr) (fd:fG) (ps:List Str) (sp:zx):Prop where
 len:∀ {ds μ Q X},sp ds μ Q X->ds.length=ps.length
 run:∀ {A:aX} {stack:List Env} {s:aj} {θ:Th} {μ:Mem} {args:Args} {us:List Value} {ds:List D} {Qd:QD} {Xd:QX} {R:yc->aj->Prop},cV k A->E0 T A stack θ μ s->M5 s fd args (ps.zip us)->dF s.heap θ μ ds us->sp ds μ Qd Xd->
  (∀ {d:D} {u:Value} {s':aj} {θ':Th} {μ':Mem},E0 T A stack θ' μ' s'->G (fun _=>False) (frs stack) θ μ s θ' μ' s'->Rp s'.heap θ' μ' d u->Qd d μ'->R (.ok (.ret u)) s')->
  (∀ {c:String} {ks:List String} {es:List D} {e:Value} {s':aj} {θ':Th} {μ':Mem},E0 T A stack θ' μ' s'->G (fun _=>False) (frs stack) θ μ s θ' μ' s'->xM T stack s θ' μ' s' c ks es e->Xd c ks es μ'->R (.error e) s')->
  qj (aH T.P T.w) A (.call (.ref f) args) R s
def Binds (K:cW) (fd:fG) (ps:List Str):Prop:=∀ (s:aj) (us:List Value),K.In s.heap->us.length=ps.length->M5 s fd ⟨us,[]⟩ (ps.zip us)
section
variable {X:Cx} {ρ:dJ} {θ θ':Th} {μ μ':Mem} {s s1 s':aj} {T:Top} {A:aX} {stack:List Env} {f C:Addr} {fd:fG} {ps:List Str} {sp:zx} {k:Nat} {us first:List Value} {ds:List D} {Qd:QD} {Xd:QX} {Qa:List D->Mem->Prop} {Q XE:Value->aj->Prop} {x:Str} {p pos apos:Pos} {a e o:Expr} {as es:List Expr} {we wo:WE} {ws:WA} {c m fl:String} {d:D} {u v:Value} {n:Nat} {fs:List (String×D)}
theorem afH.mono {B:Heap} {c:String} {ks:List String} {es:List D} {e:Value} (th:∀ b o,s.heap.get? b=some o->∃ o',s1.heap.get? b=some o') (x:afH T stack B s1 θ' μ' s' c ks es e):afH T stack B s θ' μ' s' c ks es e:=by
 obtain⟨ea,C,ob,vs,h1,h2,h3,h4,h5,h6,w,n1,l,r⟩:=x;have no:∀ {b},s1.heap.get? b=none->s.heap.get? b=none:=fun {b} q=>by
  cases e:s.heap.get? b with
  |none=>rfl|some o=>obtain⟨o',z⟩:=th b o e;rw[q]at z;cases z
 exact⟨ea,C,ob,vs,h1,h2,h3,h4,h5,fun b o e n=>let⟨o',e'⟩:=th b o e;h6 b o' e' n,w,no n1,l,r.imp id fun⟨k,dx,a1,a2,a3,a4,a5,a6⟩=>⟨k,dx,a1,a2,a3,a4,no a5,a6⟩⟩
theorem xM.mono {c:String} {ks:List String} {es:List D} {e:Value} (th:∀ b o,s.heap.get? b=some o->∃ o',s1.heap.get? b=some o') (x:xM T stack s1 θ' μ' s' c ks es e):xM T stack s θ' μ' s' c ks es e:=
 let⟨B,y⟩:=x;⟨B,y.mono th⟩
theorem Xy.mono (x:Xy X ρ θ μ s Xd XE) (g:G0 X θ μ s θ' μ' s1):Xy X ρ θ' μ' s1 Xd XE:=fun i g' fl q=>x i (g.trans g') (fl.mono g.there) q
theorem ahc:Xy X ρ θ μ s noX XE:=fun _ _ _ q=>q.elim
theorem mY.mono {j:Nat} (F:mY T j f fd ps sp) (h:j<=k):mY T k f fd ps sp:=⟨F.len,fun r e b rs q fx xx=>F.run (r.mono h) e b rs q fx xx⟩
theorem Un (F:mY X.T k f fd ps sp) (hr:cV k X.A) (hb:Binds X.T.K fd ps) (i:Iv X ρ θ μ s) (r:dF s.heap θ μ ds us) (h:sp ds μ Qd Xd) (fi:Fin X ρ θ μ s Qd Q) (fx:Xy X ρ θ μ s Xd XE):ak X.M X.A (call (.ref f) us) Q XE s:=
 Uy (F.run hr i.e (hb s us i.vU (by rw[r.length];exact F.len h)) r h (fun e g r q=>fi (i.to g e.dD e.bare) g r q) fun e g fl q=>fx (i.to g e.dD e.bare) g fl q)
structure Ar (X:Cx) (as:List Expr) (w:WA):Prop where
 pa:PA X as w
 nil:as=[]->∀ {ρ μ Q},w ρ μ Q->Q [] μ
 st:∀ {e es},as=e::es->c7 (e::es) X.env=(false,eval e X.env)::c7 es X.env
 any:∀ pos,(lW pos (c7 as X.env)).any (·.1)=false
theorem akd:Ar X [] (wEs .nil):=⟨fun _ {_ _ _ _ _ _ _} i h f=>sy (f.at i .nil h),fun _ {_ _ _} h=>h,fun z=>(aci _ _ z.symm).elim,fun _=>rfl⟩
theorem ahy {e':DW.E} {es':Es} (ha:PE X e (wE e')) (hr:Ar X es (wEs es')) (hs:c7 (e::es) X.env=(false,eval e X.env)::c7 es X.env):Ar X (e::es) (wEs (.cons e' es')) where
 pa:=fun pos {s ρ θ μ Qd Q E} i h f=>by rw[hs];show ak _ _ (M8 ((false,eval e X.env)::lW pos (c7 es X.env))) _ _ s;simp only[wEs]at h;exact qM (ha i h fun i1 g1 r1 h1=>hr.pa pos i1 h1 fun i2 g2 r2 h2=>f i2 (g1.trans g2) (.cons ((i1.kp g2).rp r1) r2) h2)
 nil:=fun z=>(aci _ _ z).elim
 st:=fun z=>by cases z;exact hs
 any:=fun pos=>by rw[hs];show(false||(lW pos (c7 es X.env)).any (·.1))=false;rw[hr.any];rfl
theorem Ar.akf (h:Ar X (e::es) ws):(lW pos (c7 es X.env)).any (·.1)=false:=by have:=h.any pos;rw[h.st rfl]at this;exact this
theorem cw_ok (h:Ar X as ws) (hk:pN X.T.K v=true) (i:Iv X ρ θ μ s) (q:ws ρ μ Qa)
  (f:∀ {ds us s' θ' μ'},Iv X ρ θ' μ' s'->G0 X θ μ s θ' μ' s'->dF s'.heap θ' μ' ds us->Qa ds μ'->ak X.M X.A (call v (first++us)) Q XE s'):
  ak X.M X.A (Nj pos v first (lW pos (c7 as X.env)) []) Q XE s:=by
 cases as with
 |nil=>exact PySem.W.callWith_K0 i.vU hk (f i .refl .nil (h.nil rfl q))|cons e es=>exact PySem.W.callWith_K (h₀:=X.T.base) i.e.mod.kin hk (h.pa pos i q fun i1 g1 r1 h1=>⟨i1.vU,f i1 g1 r1 h1⟩) (h.st rfl) h.akf
theorem ahY {id:String} (h:Ar X as ws) (i:Iv X ρ θ μ s) (q:ws ρ μ Qa)
  (f:∀ {ds us s' θ' μ'},Iv X ρ θ' μ' s'->G0 X θ μ s θ' μ' s'->dF s'.heap θ' μ' ds us->Qa ds μ'->ak X.M X.A (call (.builtin id) (first++us)) Q XE s'):
  ak X.M X.A (Nj pos (.builtin id) first (lW pos (c7 as X.env)) []) Q XE s:=by
 refine Calls.callWith_builtin (h.any pos) ?_;cases as with
 |nil=>exact PySem.evalArgs_none (f i .refl .nil (h.nil rfl q))|cons e es=>have key:ak X.M X.A (M8 (lW pos (c7 (e::es) X.env))) (fun us s'=>ak X.M X.A (call (.builtin id) (first++us)) Q XE s') XE s:=h.pa pos i q fun i1 g1 r1 h1=>f i1 g1 r1 h1;rw[h.st rfl]at key ⊢;exact Calls.evalArgs_plain key
def JgX (X:Cx) (t:Sem Value) (w:QX->WE):Prop:=
 ∀ {s:aj} {ρ:dJ} {θ:Th} {μ:Mem} {Qd:QD} {Xd:QX} {Q E:Value->aj->Prop},Iv X ρ θ μ s->w Xd ρ μ Qd->Fin X ρ θ μ s Qd Q->Xy X ρ θ μ s Xd E->ak X.M X.A t Q E s
theorem JgX.calm {t:Sem Value} {w:QX->WE} {w':WE} (h:JgX X t w) (q:∀ ρ μ Q,w' ρ μ Q->w noX ρ μ Q):Jg X Rp t w':=fun i z f=>h i (q _ _ _ z) f ahc
theorem agq (F:mY X.T k f fd ps sp) (hr:cV k X.A) (hb:Binds X.T.K fd ps) (hg:Gl X x) (hm:X.T.mg x=some (.ref f)) (hk:pN X.T.K (.ref f)=true) (ha:Ar X as ws) (hdb:(x==("__debug__":Str))=false):
  JgX X (eval (.Call (.Name x p) as [] pos) X.env) (fun Xd ρ μ Q=>ws ρ μ fun ds μ1=>sp ds μ1 Q Xd):=fun i h fi fx=>
 yL (vR i hg hm hdb (cw_ok (first:=[]) ha hk i h fun i1 g1 r1 h1=>Un F hr hb i1 r1 h1 (fi.mono g1) (fx.mono g1)))
end
end DW
namespace DW
open PySem PySem.Spec PyProof.Rows
open L2 (aQ Key frs rG Loc Look Mod rH cV Cls gC Meth Mk QS)
theorem zV {a b:String} (h:aC a=aC b):a=b:=by
 rw[adq,adq]at h;have h1:a.toList.map Nt=b.toList.map Nt:=by have:=congrArg (fun s:Str=>s.cps.toList) h;simpa using this
 have inj:∀ (x y:List Char),x.map Nt=y.map Nt->x=y:=by
  intro x;induction x with
  |nil=>intro y e;cases y with|nil=>rfl|cons _ _=>simp at e
  |cons c x ih=>
   intro y e;cases y with
   |nil=>simp at e|cons d y=>simp only[aW,eH]at e;have:c=d:=Char.ext (UInt32.toNat_inj.mp e.1);rw[this,ih y e.2]
 exact String.ext (inj _ _ h1)
section
variable {h h':Heap} {θ:Th} {μ:Mem} {f g c:String} {d:D} {u v:Value} {n:Nat} {fs:List (String×D)} {a:Addr} {T:Top}
theorem S7:∀ {fs:List (String×D)},bW f fs=none->aC f∉fs.map (fun p=>aC p.1)
 |[],_=>by simp|(g,d)::r,h=>by
  unfold bW at h;split at h
  .cases h
  .rename_i q
   simp only[aW,aO,not_or];exact⟨fun z=>q (zV z).symm,S7 h⟩
theorem S6:∀ {fs:List (String×D)},bW g (putD f d fs)=if f=g then some d else bW g fs
 |[]=>rfl|(k,e)::r=>by
  unfold putD;by_cases q:k=f
  .subst q
   simp only[if_true,bW];split<;>rfl
  .rw[if_neg q]
   simp only[bW];rw[S6];by_cases z:k=g
   .subst z;rw[if_pos rfl,if_pos rfl,if_neg fun z=>q z.symm]
   .rw[if_neg z,if_neg z]
theorem Yv:∀ {fs:List (String×D)},(putD f d fs).length<=fs.length+1
 |[]=>aL _|(k,e)::r=>by
  unfold putD;split
  .exact yt _
  .exact acr Yv
theorem FT {y:Str}:∀ {fs:List (String×D)},(y=aC f∨y∈fs.map fun p=>aC p.1)->y∈(putD f d fs).map fun p=>aC p.1
 |[],z=>by
  rcases z with rfl|z
  .exact cO.mpr rfl
  .exact absurd z (by simp)
 |(k,e)::r,z=>by
  unfold putD;split
  .rename_i q
   subst q;rcases z with rfl|z
   .exact yM
   .exact z
  .rcases z with rfl|z
   .exact jZ _ (FT (.inl rfl))
   .rcases aO.mp z with rfl|z
    .exact yM
    .exact jZ _ (FT (.inr z))
theorem K9 (r:Rp h θ μ d u):acu u=true:=by
 cases d with
 |non=>cases(show u=_ from r);rfl
 |bl b=>cases(show u=_ from r);rfl
 |int i=>obtain⟨t,rfl⟩:=r;rfl|str x=>obtain⟨⟨t,rfl⟩,_⟩:=r;rfl|tup ds=>obtain⟨a,_,rfl,_⟩:=r;rfl|lst ds=>obtain⟨a,_,rfl,_⟩:=r;rfl|ro ds=>obtain⟨a,_,rfl,_⟩:=r;rfl|loc n=>obtain⟨p,rfl,_⟩:=r;rfl|vV _ _=>exact r.elim
theorem Qj (w:qx T θ μ h) (r:Rp h θ μ d u) (e:jP μ c d=some (n,fs)):∃ p C mA,d= .loc n/\u= .ref p.1/\θ.cs[n]?=some p/\μ[n]?=some (.ins c fs)/\cZ T.K bT (aC c)=some (some (.ref C))/\
  QS h p.1 p.2 C mA/\fs.length<=1000/\(∀ f d,bW f fs=some d->∃ u,mA (aC f)=some u/\Rp h θ μ d u)/\(∀ f,bW f fs=none->mA (aC f)=none)/\Vc mA (fs.map fun p=>aC p.1):=by
 cases d with
 |loc k=>
  obtain⟨p,rfl,hp⟩:=r;simp only[jP]at e;split at e
  .rename_i c' fs0 hn
   split at e
   .rename_i ec
    subst ec;cases e;obtain⟨C,h0,h1,h2,h3,mA,k1,k2,k3⟩:=w.cell _ _ p hn hp;refine⟨p,C,mA,rfl,rfl,hp,hn,h0,⟨h1,k1,h2⟩,h3,k2,fun f q=>?_,k3⟩;by_cases z:mA (aC f)=none
    .exact z
    .exact absurd (k3 _ z) (S7 q)
   .cases e
  .cases e
 |_=>simp[jP]at e
end
section
variable {X:Cx} {ρ:dJ} {θ θ':Th} {μ μ':Mem} {s s1 s':aj} {f C:Addr} {fd:fG} {ps:List Str} {sp:zx} {k n:Nat} {us:List Value} {ds:List D} {Qd:QD} {Xd:QX} {Q XE:Value->aj->Prop} {x:Str} {p pos apos:Pos} {a e o:Expr} {as es:List Expr} {we wo:WE} {ws:WA} {c m:String} {d dv:D} {u v:Value} {K:Mem->Prop}
theorem QM {env:Env} {m:Str} (h:lQ o=true):Vi o m env (eval o env)=eval o env:=by
 cases o with
 |Call f as ks p=>rcases Xm h with⟨x,q,a,r,rfl,rfl⟩|⟨o,m',q,rfl⟩<;>rfl|_=>first|rfl|exact(dM h).elim
theorem ZP {env:Env} {m:Str} {args:List Expr} (hbase:Vi o m env (eval o env)=eval o env) (hform:methodCallForm (args.length+([]:List Nb).length) (lW pos (c7 args env)) (G9 pos (Ho [] env))=true) (hline:(apos.endLine==pos.line)=true):
  eval (.Call (.Attribute o m apos) args [] pos) env=(do
   let ov<-eval o env
   M6 apos.atName
   let(f,first)<-yg [ov] (getMethod ov m (do return(<-importBound o env).getD true))
   Nj pos f first (lW pos (c7 args env)) (G9 pos (Ho [] env))):=by
 have hpos:methodCallPos true o env apos pos=pure pos:=by unfold methodCallPos;simp[hline]
 rw[arm_eval_Call,hbase];unfold methodCall;rw[hform];simp only[calleeOf,if_true,hpos,pure_bind]
theorem Ar.few (h:Ar X as ws) (h30:as.length<30):((lW pos (c7 as X.env)).all (fun x=>!x.1)&&(G9 pos (Ho [] X.env)).all (fun x=>x.1.isSome)
   &&decide (as.length+([]:List Nb).length+(if([]:List Nb).isEmpty then 0 else 1)<30))=true:=by
 have h1:(lW pos (c7 as X.env)).all (fun x=>!x.1)=true:=by have:=h.any pos;rw[List.all_eq_not_any_not];simpa using this
 have h2:(G9 pos (Ho [] X.env)).all (fun x=>x.1.isSome)=true:=rfl;rw[h1,h2];simpa using h30
theorem ago (F:mY X.T k f fd ps sp) (hr:cV k X.A) (hb:Binds X.T.K fd ps) (hn:cZ X.T.K bT (aC c)=some (some (.ref C))) (cl:Cls X.T.K C) (hm:Meth X.T.K C (aC m) f)
  (ho:PE X o wo) (hbs:lQ o=true) (ha:Ar X as ws) (hline:(apos.endLine==pos.line)=true) (h30:as.length<30):
  JgX X (eval (.Call (.Attribute o (aC m) apos) as [] pos) X.env) (fun Xd ρ μ Q=>wo ρ μ fun x μ1=>je μ1 c m x/\ws ρ μ1 fun ds μ2=>sp (x::ds) μ2 Q Xd):=fun i h fi fx=>by
 refine PySem.W.methodCall_KW (pl:=do return(<-importBound o X.env).getD true) (ho i h fun i1 g1 r1 h1=>?_) (ZP (QM hbs) (ha.few h30) hline);obtain⟨h1,h2⟩:=h1;unfold je at h1;split at h1
 .rename_i n fs e
  obtain⟨p,C',mA,rfl,rfl,hp,_,h0,O,_,_,k2,_⟩:=Qj i1.dD r1 e;rw[hn]at h0;cases h0;refine L2.ae0 i1.vU O (cl.get _) hm.at_ hm.fn (k2 _ h1) ?_;exact cw_ok (first:=[.ref p.1]) ha hm.kp i1 h2 fun i2 g2 r2 h2=>Un F hr hb i2 (.cons ((i1.kp g2).rp r1) r2) h2 (fi.mono (g1.trans g2)) (fx.mono (g1.trans g2))
 .exact h1.elim
theorem E0.make {T:Top} {A:aX} {stack:List Env} (e:E0 T A stack θ μ s) {C:Addr} {us:List Value} {kw:List (Str×Value)}:E0 T (A.under (.builtin "type.__call__" ⟨.ref C::us,kw⟩)) stack θ μ s:=
 ⟨e.mod,by first|exact e.frames|(simpa[Vb,Code.envs,Va,pushEnvs]using e.frames),e.bare,e.bs,e.stk,e.dD,e.hh⟩
theorem abm (M:Mk X.T.K C f) (hn:cZ X.T.K bT (aC c)=some (some (.ref C))) (F:mY X.T k f fd ps sp) (hr:cV (k+1) X.A) (hb:Binds X.T.K fd ps) (i:Iv X ρ θ μ s) (r:dF s.heap θ μ ds us)
  (h:sp (.loc μ.length::ds) (μ++[.ins c []]) (fun v μ2=>v= .non/\Qd (.loc μ.length) μ2) Xd) (fi:Fin X ρ θ μ s Qd Q) (fx:Xy X ρ θ μ s Xd XE):ak X.M X.A (call (.ref C) us) Q XE s:=by
 have e1:(s.heap.push wV).get? s.heap.objs.size=some wV:=dW s.heap rfl;have e2:((s.heap.push wV).push (qp C s.heap.objs.size)).get? (s.heap.objs.size+1)=some (qp C s.heap.objs.size):=by have:=dW (s.heap.push wV) (o:=qp C s.heap.objs.size) rfl;rwa[oN]at this
 have e1':((s.heap.push wV).push (qp C s.heap.objs.size)).get? s.heap.objs.size=some wV:=bV _ e1;have e3:((s.heap.push wV).push (qp C s.heap.objs.size)).Ns s.heap.objs.size (fun _=>none):=⟨wV,#[],_,e1',rfl,(fun e he=>absurd he (by simp)),fun _=>rfl⟩;obtain⟨i2,g2⟩:=i.new (c:=.ins c []) (p:=(s.heap.objs.size+1,s.heap.objs.size)) (tk:=s.toks) (h':=(s.heap.push wV).push (qp C s.heap.objs.size)) (fun b o q=>bV _ (bV _ q))
  (yt _) (aL _) (fun a z=>by rcases z with rfl|rfl<;>first|exact⟨_,e2⟩|exact⟨_,e1'⟩) ⟨C,hn,e2,jL (Cy _),iH _,fun _=>none,Heap.Ns1.of_empty e3,fun f d z=>(by cases z),fun y hy=>absurd rfl hy⟩
 have r2:dF _ (θ.snoc (s.heap.objs.size+1,s.heap.objs.size)) (μ++[.ins c []]) (.loc μ.length::ds) (.ref (s.heap.objs.size+1)::us):=.cons ⟨(s.heap.objs.size+1,s.heap.objs.size),rfl,by rw[<-i.dD.len];simp[Th.snoc]⟩ ((i.kp g2).Fi r);refine Uy (L2.aeA (f:=f) i.vU M.makes M.init (beq_iff_eq.mp M.fn) ?_);refine F.run (hr.make C us []) i2.e.make (hb _ (.ref (s.heap.objs.size+1)::us) i2.vU (by rw[r2.length];exact F.len h)) r2 h (fun {d u s' θ' μ'} e g r q=>?_) fun e g fl q=>fx (i2.to g e.dD e.bare) (g2.trans g) (fl.mono g2.there) q;obtain⟨rfl,q⟩:=q;cases(show u=_ from r);exact⟨rfl,fi (d:=.loc μ.length) (i2.to g e.dD e.bare) (g2.trans g) ⟨(s.heap.objs.size+1,s.heap.objs.size),rfl,g.pre _ _ (by rw[<-i.dD.len];simp[Th.snoc])⟩ q⟩
theorem agp (M:Mk X.T.K C f) (hn:cZ X.T.K bT (aC c)=some (some (.ref C))) (F:mY X.T k f fd ps sp) (hr:cV (k+1) X.A) (hb:Binds X.T.K fd ps) (hg:Gl X x) (hm:X.T.mg x=some (.ref C)) (ha:Ar X as ws) (hdb:(x==("__debug__":Str))=false):
  JgX X (eval (.Call (.Name x p) as [] pos) X.env) (fun Xd ρ μ Q=>ws ρ μ fun ds μ1=>sp (.loc μ1.length::ds) (μ1++[.ins c []]) (fun v μ2=>v= .non/\Q (.loc μ1.length) μ2) Xd):=fun i h fi fx=>
 yL (vR i hg hm hdb (cw_ok (first:=[]) ha M.kp i h fun i1 g1 r1 h1=>abm M hn F hr hb i1 r1 h1 (fi.mono g1) (fx.mono g1)))
theorem aji (hn:cZ X.T.K bT (aC c)=some (some (.ref C))) (cl:Cls X.T.K C) (na:gC X.T.K C (aC m)) (ho:PE X o wo) (hbs:lQ o=true):PE X (.Attribute o (aC m) pos) (fun ρ μ Q=>wo ρ μ fun x μ1=>jg c m x μ1 Q):=fun i h f=>
 L2.ahx (QM hbs) (ho i h fun {d u s1 θ1 μ1} i1 g1 r1 h1=>by
  unfold jg at h1;split at h1
  .rename_i n fs e
   split at h1
   .rename_i d' ed
    obtain⟨p,C',mA,rfl,rfl,hp,_,h0,O,_,k1,_⟩:=Qj i1.dD r1 e;rw[hn]at h0;cases h0;obtain⟨u,hu,ru⟩:=k1 _ _ ed;exact L2.get_map i1.vU O (cl.get _) cl.hd na hu (K9 ru) (f i1.tok (g1.trans (cB fun _ _ e=>e)) ru h1)
   .exact h1.elim
  .exact h1.elim)
theorem X7 {Q:Unit->aj->Prop} (hn:cZ X.T.K bT (aC c)=some (some (.ref C))) (cl:Cls X.T.K C) (na:gC X.T.K C (aC m)) (i:Iv X ρ θ μ s) (r:Rp s.heap θ μ d u) (rv:Rp s.heap θ μ dv v) (h:mK c m d dv μ K)
  (f:∀ {s' μ'},Iv X ρ θ μ' s'->G0 X θ μ s θ μ' s'->K μ'->Q () s'):ak X.M X.A (setAttr u (aC m) v) Q XE s:=by
 unfold mK at h;split at h
 .rename_i n fs e
  obtain⟨hl,h⟩:=h;obtain⟨p,C',mA,rfl,rfl,hp,hx,h0,O,_,k1,k2,k3⟩:=Qj i.dD r e;rw[hn]at h0;cases h0;refine L2.agj i.vU O cl.sa cl.po na.taker cl.hd k3 (by rw[aU,gF];omega) fun h' O' sb=>?_;have k':∀ b o,¬(b=p.1∨b=p.2)->s.heap.get? b=some o->h'.get? b=some o:=fun b o z q=>(sb.2 b fun y=>z (.inr y)).trans q;have kp:Kp θ μ s.heap θ (μ.set n (.ins c (putD m dv fs))) h':=Dj hx hp (by simp) k';obtain⟨o2,_,_,q2,_⟩:=O'.ns;obtain⟨i',g⟩:=i.set (c':=.ins c (putD m dv fs)) (tk:=s.toks+2) hx hp (by simp) rfl k' (fun a z=>by rcases z with rfl|rfl<;>first|exact⟨_,O'.obj⟩|exact⟨_,q2⟩)
   ⟨C,hn,O'.obj,O.ne,jc Yv hl,_,O'.ns,fun g d q=>by
    rw[S6]at q;by_cases z:m=g
    .subst z
     rw[if_pos rfl]at q;cases q;exact⟨v,if_pos rfl,kp.rp rv⟩
    .rw[if_neg z]at q
     obtain⟨w,q1,q2⟩:=k1 _ _ q;exact⟨w,by rw[if_neg fun y=>z (zV y).symm];exact q1,kp.rp q2⟩,fun y hy=>by
    by_cases z:y=aC m
    .exact FT (.inl z)
    .exact FT (.inr (k3 y (by simpa only[if_neg z]using hy)))⟩
  exact f i' g h
 .exact h.elim
end
end DW
namespace DW
open PySem PySem.W PyProof.Rows
section
variable {lt:Nat->Nat->Bool} (hA:∀ a b,lt a b=true->lt b a=false) (hT:∀ a b c,lt b a=false->lt c b=false->lt c a=false)
end
end DW
section
set_option backward.match.sparseCases true
namespace DW
open PySem PySem.W PySem.Calls PyProof.Rows
section
variable {prog:cg} {w:bA} {A:aX} {E:Value->aj->Prop} {s:aj} {vs:List Value} {lt:Nat->Nat->Bool}
end
end DW
end
section
set_option backward.match.sparseCases true
namespace DW
open PySem PySem.W PySem.Calls PyProof.Rows
theorem Yr:∀ (x y:List Nat),ig x y=decide (x<y)
 |[],[]=>by simp[ig]|[],_::_=>by simp[ig]|_::_,[]=>by simp[ig]|a::x,b::y=>by
  unfold ig;by_cases h:a=b
  .subst h
   rw[if_pos rfl,Yr x y];simp[O6]
  .rw[if_neg h]
   simp[O6,h]
def IsItem (h:Heap) (v:Value) (x:Itm):Prop:=∃ (a:Addr) (o:Obj) (t u:Tok) (n:Nat),v= .ref a/\h.get? a=some o/\o.cls= .type "tuple"/\o.data= .seq #[.int x.1 t,.str ⟨x.2.toArray⟩ u] n
def ltAt (r:List Itm) (i j:Nat):Bool:=lG (r[i]?.getD (0,[])) (r[j]?.getD (0,[]))
section
variable {prog:cg} {w:bA} {A:aX} {E:Value->aj->Prop}
end
end DW
end
namespace DW
theorem IV:∀ x:List Nat,ig x x=false
 |[]=>rfl|a::x=>by simp[ig,IV x]
theorem Ls:∀ x y:List Nat,ig x y=true->ig y x=false
 |[],[],h=>by simp[ig]at h|[],_::_,_=>rfl|_::_,[],h=>by simp[ig]at h|a::x,b::y,h=>by
  unfold ig at h ⊢;by_cases e:a=b
  .rw[if_pos e]at h
   rw[if_pos e.symm];exact Ls x y h
  .rw[if_neg e]at h
   rw[if_neg (fun z=>e z.symm)];simp at h ⊢;omega
theorem RT:∀ x y:List Nat,ig x y=false->ig y x=false->x=y
 |[],[],_,_=>rfl|[],_::_,h,_=>by simp[ig]at h|_::_,[],_,h=>by simp[ig]at h|a::x,b::y,h,k=>by
  unfold ig at h k;by_cases e:a=b
  .rw[if_pos e]at h
   rw[if_pos e.symm]at k;rw[e,RT x y h k]
  .rw[if_neg e]at h
   rw[if_neg (fun z=>e z.symm)]at k;simp at h k;omega
theorem IK:∀ x y z:List Nat,ig y x=false->ig z y=false->ig z x=false
 |x,y,[],h,k=>by
  cases x with
  |nil=>rfl|cons a x=>
   cases y with
   |nil=>simp[ig]at h|cons b y=>simp[ig]at k
 |[],y,c::z,h,k=>by simp[ig]|a::x,[],c::z,h,k=>by simp[ig]at h|a::x,b::y,c::z,h,k=>by
  unfold ig at h k ⊢;by_cases e:b=a
  .by_cases f:c=b
   .rw[if_pos e]at h;rw[if_pos f]at k;rw[if_pos (f.trans e)]
    exact IK x y z h k
   .rw[if_neg f]at k;subst e;rw[if_neg f];exact k
  .rw[if_neg e]at h
   by_cases f:c=b
   .subst f;rw[if_neg e];exact h
   .rw[if_neg f]at k
    simp at h k;rw[if_neg (by omega)];simp;omega
theorem Ai (x y:Itm) (h:lG x y=true):lG y x=false:=by
 unfold lG at h ⊢;by_cases e:x.1=y.1
 .rw[if_pos e]at h;rw[if_pos e.symm];exact Ls _ _ h
 .rw[if_neg e]at h;rw[if_neg (fun z=>e z.symm)];simp at h ⊢;omega
theorem Ys (x y:Itm) (h:lG x y=false) (k:lG y x=false):x=y:=by
 unfold lG at h k;by_cases e:x.1=y.1
 .rw[if_pos e]at h;rw[if_pos e.symm]at k
  exact Nk e (RT _ _ h k)
 .rw[if_neg e]at h;rw[if_neg (fun z=>e z.symm)]at k;simp at h k;omega
theorem jO (x y z:Itm) (h:lG y x=false) (k:lG z y=false):lG z x=false:=by
 unfold lG at h k ⊢;by_cases e:y.1=x.1
 .by_cases f:z.1=y.1
  .rw[if_pos e]at h;rw[if_pos f]at k;rw[if_pos (f.trans e)];exact IK _ _ _ h k
  .rw[if_neg f]at k;rw[<-e,if_neg f];exact k
 .rw[if_neg e]at h
  by_cases f:z.1=y.1
  .rw[f,if_neg e];exact h
  .rw[if_neg f]at k
   simp at h k;rw[if_neg (by omega)];simp;omega
theorem sV (x:Itm):lG x x=false:=by simp[lG,IV]
theorem Ej:∀ {a b:List Itm},a.Perm b->bQ a->bQ b->a=b
 |[],b,p,_,_=>(List.nil_perm.mp p).symm|x::a,[],p,_,_=>by have:=p.length_eq;simp at this|x::a,y::b,p,h,k=>by
  have hx:=pR.mp h;have hy:=pR.mp k;have e:x=y:=by
   have m1:x∈y::b:=p.subset (by simp);have m2:y∈x::a:=p.symm.subset (by simp);simp at m1 m2;rcases m1 with e|m1
   .exact e
   .rcases m2 with e|m2
    .exact e.symm
    .exact Ys x y (hy.1 x m1) (hx.1 y m2)
  subst e;rw[Ej ((List.perm_cons x).mp p) hx.2 hy.2]
end DW
section
set_option backward.match.sparseCases true
namespace DW
open PySem PySem.W PyProof.Rows
theorem ZV (r:List Itm):∀ a b,ltAt r a b=true->ltAt r b a=false:=fun a b h=>Ai _ _ h
theorem Wy (r:List Itm):∀ a b c,ltAt r b a=false->ltAt r c b=false->ltAt r c a=false:=fun a b c h k=>jO _ _ _ h k
open PySem.Calls
end DW
end
section
set_option backward.match.sparseCases true
namespace DW.TS
open PySem PySem.W PySem.Calls PyProof.Rows
end DW.TS
end
section
set_option backward.match.sparseCases true
namespace DW.TS
open PySem PySem.W PySem.Calls PyProof.Rows
section
variable (a b:Array Keyed)
end
end DW.TS
end
section
set_option backward.match.sparseCases true
namespace DW.TS
open PySem PySem.W PySem.Calls PyProof.Rows
section
variable (a b:Array Keyed)
end
end DW.TS
end
section
set_option backward.match.sparseCases true
namespace DW.TS
open PySem PySem.W PySem.Calls PyProof.Rows
section
variable (lo nrem:Nat)
end
section
variable {prog:cg} {w:bA} {A:aX} {E:Value->aj->Prop} {s:aj} {κ:SortKind} {c:Keyed->Keyed->Bool} {M:Keyed->Prop} {arr akc:Array Keyed} {p:Array (Nat×Nat×Nat)} {g lo nrem:Nat}
end
end DW.TS
end
section
set_option backward.match.sparseCases true
namespace DW.TS
open PySem PySem.W PySem.Calls PyProof.Rows
section
variable {prog:cg} {w:bA} {A:aX} {E:Value->aj->Prop} {s:aj} {κ:SortKind} {c:Keyed->Keyed->Bool} {M:Keyed->Prop} {arr akc:Array Keyed} {p:Array (Nat×Nat×Nat)} {g lo nrem:Nat}
end
end DW.TS
end
section
set_option backward.match.sparseCases true
namespace DW.TS
open PySem PySem.W PySem.Calls PyProof.Rows
section
variable {c:Keyed->Keyed->Bool} {arr akc:Array Keyed} {g lo nrem:Nat}
end
end DW.TS
end
section
set_option backward.match.sparseCases true
namespace DW.TS
open PySem PySem.W PySem.Calls PyProof.Rows
section
variable {prog:cg} {w:bA} {A:aX} {E:Value->aj->Prop} {s:aj} {κ:SortKind} {c:Keyed->Keyed->Bool} {M:Keyed->Prop} {arr akc:Array Keyed} {p:Array (Nat×Nat×Nat)} {g lo nrem:Nat}
end
end DW.TS
end
section
set_option backward.match.sparseCases true
namespace DW
open PySem PySem.W PySem.Calls PyProof.Rows DW.TS
end DW
end
namespace DW
open PySem PySem.Spec PyProof.Rows L2
section
variable {prog:cg} {w:bA} {A:aX} {E:Value->aj->Prop} {s:aj} {d it:Addr} {od:Obj} {es:Array Uv} {ep i:Nat}
theorem agV (hs:(d==rQ)=false) (ho:s.heap.get? d=some od) (hc:od.ExactDict) (hd:od.data= .dict es ep) (hfit:(es.size:Int)<2 ^ 63)
  (h:Q (.int es.size (s.toks+1)) {s with toks:=s.toks+1+1}):ak (aH prog w) A (call (.builtin "len") [.ref d]) Q E s:=by
 have T0:s.TypeIs (.ref d) "dict":=⟨od,ho,hc.1⟩;refine Calls.call_function_entry kind_len plain_len entry_len (args_len1 _) ?_;unfold nq.«len»;refine ao (m:=oneArg "len" _) (aD ?_);refine ao (m:=callSpecial? (.ref d) (aC "__len__")) (tQ (name:=aC "__len__") T0 ade
  (qJ ade T0 PySem.F.entry_dict_len ?_ (PySem.F.args_dict_len_1 _)))
 show ak _ _ (dictSize d>>=_) _ _ s;unfold dictSize;refine ao (ao (acF ho hd (aD ?_)));show ak _ _ (aiN d>>=_) _ _ s;refine ao (wpAny_pendingCount_other hs (wpAny_ret_mkInt ?_));have e0:((es.size:Nat):Int)+((0:Nat):Int)=es.size:=by simp
 rw[e0];refine ao (rU (aD (ao (rR ?_))));show ak _ _ (if((es.size:Nat):Int)<0 then _ else _) _ _ _;rw[if_neg (by omega)];show ak _ _ (if((es.size:Nat):Int)≥2 ^ 63 then _ else _) _ _ _;rw[if_neg (by omega)];exact ao (wpAny_mkInt (aD ⟨_,rfl,h⟩))
end
section
variable {prog:cg} {w:bA} {K:Type} [DecidableEq K] {knd:HeapKind prog w K} {A:aX} {E:Value->aj->Prop} {s:aj}
end
section
variable {pins:List (Addr×Obj)} {s:aj} {a:Addr} {A:aX} {E:Value->aj->Prop}
end
end DW
namespace DW
open PySem PySem.Spec PyProof.Rows
open L2 (aQ Key frs rG Loc Look Mod rH cV)
theorem kept_iter {h h':Heap} {o:Obj} (hk:∀ b ob,b∉[h.objs.size]->(h.push o).get? b=some ob->h'.get? b=some ob):∀ b ob,h.get? b=some ob->h'.get? b=some ob:=fun b ob e=>hk b ob (fun hm=>by have:=cO.mp hm;subst this;exact lu _ (dw e)) (bV _ e)
theorem Ib (xs:Array (Int×Tok)):preSum (fB xs) xs.size=(xs.toList.map (·.1)).sum:=by rw[preSum_eq,zO (by simp)]
theorem agQ (xs:Array (Int×Tok)) (n:Int) (ns:List Int) (h:xs.toList.map (·.1)=n::ns):fB xs (dR (fun i j=>decide (fB xs i<fB xs j)) (xs.size -1))=ns.foldl min n:=by
 have key:∀ k,k<(n::ns).length->fB xs (dR (fun i j=>decide (fB xs i<fB xs j)) k)=(ns.take k).foldl min n:=by
  intro k;have at_:∀ i,fB xs i=((n::ns)[i]?).getD 0:=fun i=>by rw[<-h];simp[fB]
  induction k with
  |zero=>intro _;simp[dR,at_]|succ k ih=>
   intro hk;have ih':=ih (by omega);(have hk':k<ns.length:=by simpa using hk);(have e:ns.take (k+1)=ns.take k++[ns[k]]:=by rw[Wj hk']);rw[e,HX];simp only[lA,yC];rw[<-ih'];simp only[dR];(have a1:fB xs (k+1)=ns[k]:=by rw[at_];simp[hk']);split
   .rename_i hgt
    have hgt:=of_decide_eq_true hgt;rw[a1]at hgt ⊢;omega
   .rename_i hgt
    have hgt:¬(fB xs (k+1)<_):=fun z=>hgt (decide_eq_true z);rw[a1]at hgt;omega
 have hs:xs.size=(n::ns).length:=by rw[<-h];simp
 have:=key (xs.size -1) (by rw[hs];simp);rw[this,hs,zO (by simp)]
theorem agS (xs:Array (Int×Tok)) (n:Int) (ns:List Int) (h:xs.toList.map (·.1)=n::ns):fB xs (dR (fun i j=>decide (fB xs i>fB xs j)) (xs.size -1))=ns.foldl max n:=by
 have key:∀ k,k<(n::ns).length->fB xs (dR (fun i j=>decide (fB xs i>fB xs j)) k)=(ns.take k).foldl max n:=by
  intro k;have at_:∀ i,fB xs i=((n::ns)[i]?).getD 0:=fun i=>by rw[<-h];simp[fB]
  induction k with
  |zero=>intro _;simp[dR,at_]|succ k ih=>
   intro hk;have ih':=ih (by omega);(have hk':k<ns.length:=by simpa using hk);(have e:ns.take (k+1)=ns.take k++[ns[k]]:=by rw[Wj hk']);rw[e,HX];simp only[lA,yC];rw[<-ih'];simp only[dR];(have a1:fB xs (k+1)=ns[k]:=by rw[at_];simp[hk']);split
   .rename_i hgt
    have hgt:=of_decide_eq_true hgt;rw[a1]at hgt ⊢;omega
   .rename_i hgt
    have hgt:¬(fB xs (k+1)>_):=fun z=>hgt (decide_eq_true z);rw[a1]at hgt;omega
 have hs:xs.size=(n::ns).length:=by rw[<-h];simp
 have:=key (xs.size -1) (by rw[hs];simp);rw[this,hs,zO (by simp)]
section
variable {X:Cx} {ρ:dJ} {θ:Th} {μ:Mem} {s:aj} {d e x y:D} {u v w:Value} {ds es:List D} {us vs:List Value} {Qd:QD} {Q:Value->aj->Prop} {E:Value->aj->Prop} {a:Addr} {n k j:Nat} {ws:WA}
theorem gR (w:qx X.T θ μ s.heap) (r:Rp s.heap θ μ d u) (e:bU μ d=some ds):∃ a us,u= .ref a/\PlainL s.heap a us.toArray/\us.length<=sizeLine/\dF s.heap θ μ ds us:=by
 have h:au μ d=some ds/\QT d≠0:=by cases d<;>first|(cases e;done)|exact⟨e,fun z=>by cases z⟩
 obtain⟨a,us,q,z,r⟩:=qG w r h.1;exact⟨a,us,q,eU z h.2,z.fix.1,r⟩
theorem Tr {h:Heap} {z:Bool->Bool->Bool} {t0:Bool} {g:List D->Option Bool} (h0:g []=some t0) (h1:∀ c ds,g (.bl c::ds)=(g ds).map (z c ·)) (h2:∀ d ds b,g (d::ds)=some b->∃ c,d= .bl c):∀ {ds:List D} {us:List Value} {b:Bool},dF h θ μ ds us->g ds=some b->
  ∃ bs:List Bool,us=bs.map iG/\bs.foldr z t0=b
 |[],_,_,r,e=>by cases(show _=[]from r);rw[h0]at e;cases e;exact⟨[],rfl,rfl⟩
 |d::ds,_,b,⟨u,r,q,x,y⟩,e=>by obtain⟨c,rfl⟩:=h2 d ds b e;rw[h1]at e;obtain⟨b',e',rfl⟩:=yP.mp e;obtain⟨bs,rfl,rfl⟩:=Tr h0 h1 h2 y e';cases(show u=iG c from x);exact⟨c::bs,q,rfl⟩
theorem ints_of {h:Heap}:∀ {ds:List D} {us:List Value} {ns:List Int},dF h θ μ ds us->gJ ds=some ns->∃ xs:Array (Int×Tok),us.toArray=Ni xs/\xs.toList.map (·.1)=ns
 |[],_,_,r,e=>by cases(show _=[]from r);cases e;exact⟨#[],by simp[Ni],rfl⟩
 |d::ds,_,ns,⟨u,r,q,x,y⟩,e=>by
  cases d with
  |int i=>obtain⟨t,rfl⟩:=x;subst q;simp only[gJ,yP]at e;obtain⟨ms,e,rfl⟩:=e;obtain⟨xs,e1,e2⟩:=ints_of y e;refine⟨((i,t)::xs.toList).toArray,?_,by simp[e2]⟩;have e1':=congrArg Hs e1;simp only[Ni,ach]at e1';apply Vx.mp;simp only[Ni,ach];simpa using e1'|_=>cases e
theorem ints_map:∀ {ds:List D} {ns:List Int},gJ ds=some ns->ds=ns.map D.int
 |[],ns,h=>by cases h;rfl
 | .int i::ds,ns,h=>by simp only[gJ,yP]at h;obtain⟨r,e,rfl⟩:=h;rw[ints_map e];rfl
theorem bind_some {α β:Type} {o:Option α} {f:α->Option β} {b:β} (h:o.bind f=some b):∃ a,o=some a/\f a=some b:=Option.bind_eq_some_iff.mp h
theorem QJ {c:Value} {b:String} (hb:b≠"min3")
  (h1:∀ {s:aj} {ρ:dJ} {θ:Th} {μ:Mem} {d:D} {u:Value} {Qd:QD} {Q:Value->aj->Prop} {E:Value->aj->Prop},Iv X ρ θ μ s->Rp s.heap θ μ d u->bM b [d] μ Qd->Fin X ρ θ μ s Qd Q->ak X.M X.A (call c [u]) Q E s)
  (h2:∀ {s:aj} {ρ:dJ} {θ:Th} {μ:Mem} {d e:D} {u v:Value} {Qd:QD} {Q:Value->aj->Prop} {E:Value->aj->Prop},Iv X ρ θ μ s->Rp s.heap θ μ d u->Rp s.heap θ μ e v->bM b [d,e] μ Qd->Fin X ρ θ μ s Qd Q->ak X.M X.A (call c [u,v]) Q E s):OpA X (fun us=>call c us) (bM b):=fun {s ρ θ μ ds us Qd Q E} i r hw f=>by
 match ds,hw with
 |[d],hw=>obtain⟨u,rfl,x⟩:=r.jB;exact h1 i x hw f|[d,e],hw=>obtain⟨u,v,rfl,x,y⟩:=r.zE;exact h2 i x y hw f|[d,e,g],hw=>exact(ah9 hb hw).elim
theorem ahs:OpA X (fun us=>call (.builtin "len") us) (bM "len"):=QJ (by decide) (fun {s ρ θ μ d u Qd Q E} i r hw f=>by
 have hs:sizeLine=16777216:=gF;simp only[bM]at hw;split at hw
 .rename_i n hn
  have seq:∀ {ds:List D},au μ d=some ds->n=ds.length->ak X.M X.A (call (.builtin "len") [u]) Q E s:=fun {ds} hq hl=>by
   obtain⟨a,us,rfl,z,r'⟩:=qG i.dD r hq;have l:=z.fix.1;rw[hl,<-r'.length]at hw;by_cases hk:QT d=0
   .rw[hk]at z
    exact len_tuple (cM z) (by simp only[cJ];omega) (f.tok i (jY (by simp only[cJ])) hw)
   .exact Calls.call_len_list (eU z hk).isList (by simp only[cJ];omega) (f.tok i (jY (by simp only[cJ])) hw)
  cases d with
  |str x=>obtain⟨⟨t,rfl⟩,l⟩:=r;cases hn;exact len_str (by simp only[fP,cJ];omega) (f.tok i (jY (by simp[fP])) hw)
  |tup l=>cases hn;exact seq rfl rfl
  |lst l=>cases hn;exact seq rfl rfl
  |ro l=>cases hn;exact seq rfl rfl
  |loc m=>simp only[lenOf]at hn;obtain⟨ds,q,rfl⟩:=yP.mp hn;exact seq q rfl|_=>cases hn
 .unfold ahI at hw
  split at hw
  .rename_i m _
   obtain⟨p,rfl,hp⟩:=r;have len:∀ {o:Obj} {es:Array Uv} {ep n:Nat},s.heap.get? p.1=some o->o.ExactDict->o.data= .dict es ep->es.size=n->(p.1==rQ)=false->n<=sizeLine->Qd (.int n) μ->ak X.M X.A (call (.builtin "len") [.ref p.1]) Q E s:=fun ho hx hd hz hs' hl q=>agV hs' ho hx hd (by rw[hz];omega) (f.tok i (jY (by rw[hz])) q)
   split at hw
   .rename_i ks es hn
    obtain⟨⟨kvs,⟨o,es',ep,ho,hx,hd,_,pr,_⟩,l,hs',hk,_⟩,_⟩:=i.dD.cell m _ p hn hp;(have e1:kvs.length=ks.length:=by have:=congrArg fK hk;simpa using this);rw[<-e1]at hw;exact len ho hx hd (by rw[<-VR];exact pr.length) hs' l hw
   .rename_i ks es hn
    obtain⟨⟨xs,⟨o,es',ep,ho,hx,hd,he,_⟩,l,hs',_,hk,_⟩,_⟩:=i.dD.cell m _ p hn hp;(have e1:xs.length=ks.length:=by have:=congrArg fK hk;simpa using this);rw[<-e1]at hw;exact len ho hx hd (by rw[<-VR,he,aU]) hs' l hw
   .exact hw.elim
  .exact hw.elim) fun i x y hw f=>by simp[bM]at hw
end
end DW
namespace DW
open PySem PySem.Spec PyProof.Rows
open L2 (aQ Key frs rG Loc Look Mod rH cV)
section
variable {X:Cx} {ρ:dJ} {θ:Th} {μ:Mem} {s:aj} {d e x y:D} {u v w:Value} {ds es:List D} {us vs:List Value} {Qd:QD} {Q:Value->aj->Prop} {E:Value->aj->Prop} {a:Addr} {n k j:Nat} {ws:WA}
theorem bit {bs:List Bool} {v:Value} (i:Nat) (e:((bs.map iG).toArray)[i]?=some v):v= .bool (bs.getD i true):=by simp only[adb,fW]at e;obtain⟨b,h1,rfl⟩:=yP.mp e;simp[h1]
theorem Ur (bs:List Bool):(aN bs.length).map (fun i=>bs.getD i true)=bs:=by
 apply oR;intro i;by_cases hi:i<bs.length
 .simp[hi]
 .simp[uT hi,hi]
theorem afC (bs:List Bool):((aN bs.length).all fun i=>bs.getD i true)=bs.foldr and true:=by
 have e:∀ l:List Bool,l.all id=l.foldr and true:=fun l=>by induction l with|nil=>rfl|cons b l ih=>simp only[abN,List.foldr_cons,ih];rfl
 have:=congrArg (fun l:List Bool=>l.all id) (Ur bs);rw[List.all_map]at this;rw[<-e,<-this];rfl
theorem aht (hc:X.calm=true):OpA X (fun us=>call (.builtin "all") us) (bM "all"):=QJ (by decide) (fun {s ρ θ μ d u Qd Q E} i r hw f=>by
 simp only[bM]at hw;split at hw
 .rename_i b hb
  obtain⟨ds,h1,h2⟩:=bind_some hb;obtain⟨a,us,rfl,pl,l,rs⟩:=gR i.dD r h1;obtain⟨bs,rfl,rfl⟩:=Tr (z:=and) (t0:=true) (g:=allB) rfl (fun _ _=>rfl) (fun d ds b h=>by cases d<;>first|exact⟨_,rfl⟩|cases h) rs h2;refine call_all_walk (Ot pl.isList ?_);refine⟨s.heap.objs.size,_,_,_,_,_,fun i=>bs.getD i true,rfl,abw (A:=X.A.in1) (i.ok.hd hc) _ a (jL pl.lt) _,⟨⟨_,dW _ rfl,rfl,rfl⟩,pl.isList.push _⟩,fun i v s' Q' E' hP hQ=>?_,fun h' tk hk=>?_⟩
  .rw[bit i hP];exact pQ hQ
  .refine f.hp i (kept_iter hk) ?_ hw
   show iG _=iG _;rw[cJ,aU,afC]
 .exact hw.elim) fun i x y hw f=>by simp[bM]at hw
theorem ahp (hc:X.calm=true):OpA X (fun us=>call (.builtin "sum") us) (bM "sum"):=QJ (by decide) (fun {s ρ θ μ d u Qd Q E} i r hw f=>by
 simp only[bM]at hw;split at hw
 .rename_i ns hb
  obtain⟨ds,h1,h2⟩:=bind_some hb;obtain⟨a,us,rfl,z,rs⟩:=qG i.dD r h1;obtain⟨zs,e1,e2⟩:=ints_of rs h2;by_cases hk:QT d=0
  .rw[hk]at z
   have hl:s.heap.IsTuple a us.toArray:=cM z;rw[e1]at hl;exact PySem.W.ktm_sumG (i.ok.hd hc) hl fun h' tk t' hk=>f.hp i hk (jY (by rw[Ib,e2])) hw
  .have hl:=(eU z hk).isList
   rw[e1]at hl;exact sum_intListG (i.ok.hd hc) hl fun h' tk t' hk=>f.hp i hk (jY (by rw[Ib,e2])) hw
 .exact hw.elim) fun i x y hw f=>by simp[bM]at hw
theorem ahr (hc:X.calm=true):OpA X (fun us=>call (.builtin "max") us) (bM "max"):=QJ (by decide) (fun {s ρ θ μ d u Qd Q E} i r hw f=>by
 simp only[bM]at hw;split at hw
 .rename_i n ns hb
  obtain⟨ds,h1,h2⟩:=bind_some hb;obtain⟨a,us,rfl,pl,l,rs⟩:=gR i.dD r h1;obtain⟨zs,e1,e2⟩:=ints_of rs h2;have hl:=pl.isList;rw[e1]at hl;refine max_intList (i.ok.hd hc) hl (by rw[show zs.size=(n::ns).length by rw[<-e2];simp];simp) fun v h' tk hv hk=>?_;obtain⟨t,rfl⟩:=intItems_at hv;exact f.hp i hk (jY (agS zs n ns e2).symm) hw
 .exact hw.elim) fun {s ρ θ μ d e u v Qd Q E} i x y hw f=>by
 match d,e,hw with
 | .int a,.int b,hw=>
  obtain⟨t,rfl⟩:=x;obtain⟨t',rfl⟩:=y;refine max_two_ints (i.ok.hd hc) fun h' tk k=>f.hp i k ?_ hw;by_cases hj:b>a
  .rw[if_pos hj,if_pos hj];exact iw
  .rw[if_neg hj,if_neg hj];exact iw
theorem ahq (hc:X.calm=true):OpA X (fun us=>call (.builtin "min") us) (bM "min"):=QJ (by decide) (fun {s ρ θ μ d u Qd Q E} i r hw f=>by
 simp only[bM]at hw;split at hw
 .rename_i n ns hb
  obtain⟨ds,h1,h2⟩:=bind_some hb;obtain⟨a,us,rfl,pl,l,rs⟩:=gR i.dD r h1;obtain⟨zs,e1,e2⟩:=ints_of rs h2;have hl:=pl.isList;rw[e1]at hl;refine min_intList (i.ok.hd hc) hl (by rw[show zs.size=(n::ns).length by rw[<-e2];simp];simp) fun v h' tk hv hk=>?_;obtain⟨t,rfl⟩:=intItems_at hv;exact f.hp i hk (jY (agQ zs n ns e2).symm) hw
 .exact hw.elim) fun {s ρ θ μ d e u v Qd Q E} i x y hw f=>by
 match d,e,hw with
 | .int a,.int b,hw=>
  obtain⟨t,rfl⟩:=x;obtain⟨t',rfl⟩:=y;refine min_two_ints (i.ok.hd hc) fun h' tk k=>f.hp i k ?_ hw;by_cases hj:b<a
  .rw[if_pos hj,if_pos hj];exact iw
  .rw[if_neg hj,if_neg hj];exact iw
theorem RV {m:Bool} (i:Iv X ρ θ μ s) (r:Rp s.heap θ μ d u) (h:au μ d=some ds) (hw:newL m ds μ Qd) (f:Fin X ρ θ μ s Qd Q):ak X.M X.A (call (.type "list") [u]) Q E s:=by
 obtain⟨a,us,rfl,z,rs⟩:=qG i.dD r h;have l:=z.fix.1;have fin:∀ (h':Heap) (c':Nat),(∀ b o',s.heap.get? b=some o'->h'.get? b=some o')->h'.get? s.heap.objs.size=some {cls:=.type "list",dict:=none,data:=.seq us.toArray c',slots:=#[]}->Q (.ref s.heap.objs.size) {s with heap:=h' }:=fun h' c' kp e=>f.newL i kp (aL _) ⟨l,c',e⟩ rs hw
 by_cases hk:QT d=0
 .rw[hk]at z
  obtain⟨o,ho,hc,n,hd⟩:=cM z;exact call_list_seq a (.inr rfl) ho hc hd fin (by simp only[cJ]<;>omega)
 .obtain⟨o,ho,hc,n,hd⟩:=(eU z hk).isList
  exact call_list_seq a (.inl rfl) ho hc hd fin (by simp only[cJ]<;>omega)
theorem aau:OpA X (fun us=>call (.type "list") us) (bM "mlist"):=QJ (by decide) (fun {s ρ θ μ d u Qd Q E} i r hw f=>by
 simp only[bM]at hw;split at hw
 .rename_i ds hq;exact RV i r hq hw f
 .exact hw.elim) fun i x y hw f=>by simp[bM]at hw
theorem aat:OpA X (fun us=>call (.type "tuple") us) (bM "tuple"):=QJ (by decide) (fun {s ρ θ μ d u Qd Q E} i r hw f=>by
 simp only[bM]at hw;split at hw
 .rename_i ds hq
  have r0:=r;obtain⟨a,us,rfl,z,rs⟩:=qG i.dD r hq;have l:=z.fix.1;by_cases hk:QT d=0
  .rw[hk]at z
   (have e:d= .tup ds:=by cases d<;>first|(cases hq;rfl)|cases hk);exact call_tuple_same (items:=us.toArray) (cM z) (f.at i (by rw[<-e];exact r0) hw)
  .refine call_tuple_list (eU z hk).isList (fun h' kp=>?_) (by simp only[cJ]<;>omega)
   have i':Iv X ρ θ μ {s with heap:=h' }:=i.kept (tk:=s.toks) kp;have f':Fin X ρ θ μ {s with heap:=h' } Qd Q:=Fn.mono f (cB (tk:=s.toks) kp);exact f'.sq i' cU (aL _) (oG h' l).2 ((iV kp).Fi rs) hw
 .exact hw.elim) fun i x y hw f=>by simp[bM]at hw
theorem Xl:OpA X (fun us=>call (.builtin "divmod") us) (bM "divmod"):=QJ (by decide) (fun i x hw f=>by simp[bM]at hw) fun {s ρ θ μ d e u v Qd Q E} i x y hw f=>by
 match d,e,hw with
 | .int a,.int b,hw=>obtain⟨t,rfl⟩:=x;obtain⟨t',rfl⟩:=y;have hw:Mr b/\Qd (.tup [.int (a/b),.int (a%b)]) μ:=hw;obtain⟨⟨h1,h2⟩,hq⟩:=hw;have h5:=(abD (show b.natAbs≠0 by omega)).mpr (show b.natAbs<2 ^ 500 by omega);refine divmod_int (by omega) ?_ (.inl (adH (by omega)));rw[Wg a (by omega),adO a (by omega)];exact f.sq i (j:=0) (us:=[.int (a/b) s.toks,.int (a%b) (s.toks+1)]) cU (aL _) ⟨by simp only[aY,bB];rw[gF];decide,_,_,dW s.heap rfl,rfl,rfl,rfl⟩ (.cons iw (.one iw)) hq
theorem Qh {h:Heap} {x:Itm} (r:Rp h θ μ (bH x) u):IsItem h u x:=by obtain⟨a,us,rfl,⟨_,o,n,e,c,dd,_⟩,_,rs⟩:=r;obtain⟨v,w,rfl,⟨t,rfl⟩,⟨⟨t',rfl⟩,_⟩⟩:=rs.zE;exact⟨a,o,t,t',n,rfl,e,c,dd⟩
end
end DW
namespace DW
open PySem PySem.Spec PyProof.Rows
open L2 (aQ Key frs rG Loc Look Mod rH cV)
section
variable {X:Cx} {ρ:dJ} {θ θ':Th} {μ μ':Mem} {s s1 s':aj} {k n:Nat} {ds:List D} {Qd:QD} {Q XE:Value->aj->Prop} {x:Str} {p pos apos:Pos} {a b c e o t:Expr} {as es rest:List Expr} {wa wb wc wo:WE} {ta tb:WT} {ws:WA} {d:D} {u v:Value} {R:D->D->Mem->QD->Prop} {R':D->D->Mem->QD->Prop} {Kb:Bool->Mem->Prop}
def PW (X:Cx) (e:Expr) (w:WT):Prop:=∀ whole,Jg X Alike (xZ e X.env whole) w
theorem PW.pt (h:PW X e ta):PT X e ta:=h _
theorem Fb (r:Rp s.heap θ μ d u) (h:gZ d μ Kb):∃ b,u= .bool b/\d= .bl b/\Kb b μ:=by
 cases d with
 |bl b=>exact⟨b,r,rfl,h⟩|_=>exact h.elim
theorem aje (ha:PE X a wa):PE X (.UnaryOp .USub a pos) (fun ρ μ Q=>wa ρ μ fun x μ1=>match x with| .int i=>Q (.int (-i)) μ1|_=>False):=fun i h f=>
 UnaryOp_ (ha i h fun {d u s1 θ1 μ1} i1 g1 r1 h1=>by
  cases d with
  |int j=>obtain⟨t,rfl⟩:=r1;exact neg_int (f (d:=.int (-j)) i1.tok (g1.trans (cB fun _ _ e=>e)) ⟨_,rfl⟩ h1)|_=>exact h1.elim)
theorem ajd (ha:PE X a wa):PE X (.UnaryOp .Not a pos) (fun ρ μ Q=>wa ρ μ fun x μ1=>gZ x μ1 fun b μ2=>Q (.bl (!b)) μ2):=fun i h f=>UnaryOp_ (ha i h fun {d u s1 θ1 μ1} i1 g1 r1 h1=>by obtain⟨b,rfl,rfl,q⟩:=Fb r1 h1;exact not_of (pQ (f (d:=.bl (!b)) i1 g1 rfl q)))
theorem aiX (ha:PT X a ta):PT X (.UnaryOp .Not a pos) (fun ρ μ Q=>ta ρ μ fun b μ1=>Q (!b) μ1):=fun i h f=>isTrue_not (ha i h fun i1 g1 r1 h1=>by cases r1;exact f i1 g1 rfl h1)
theorem am1 {α:Type} {Q:α->aj->Prop} {f:Value->Value->Sem α} (ha:PE X a wa) (hb:PE X b wb) (i:Iv X ρ θ μ s) (h:wa ρ μ fun x μ1=>wb ρ μ1 fun y μ2=>R x y μ2 Qd)
  (hf:∀ {x y v u s2 θ2 μ2},Iv X ρ θ2 μ2 s2->G0 X θ μ s θ2 μ2 s2->Rp s2.heap θ2 μ2 x v->Rp s2.heap θ2 μ2 y u->R x y μ2 Qd->ak X.M X.A (f v u) Q XE s2):
  ak X.M X.A (eval a X.env) (fun v s₁=>ak X.M X.A (eval b X.env) (fun u s₂=>ak X.M X.A (f v u) Q XE s₂) XE s₁) XE s:=
 ha i h fun i1 g1 r1 h1=>hb i1 h1 fun i2 g2 r2 h2=>hf i2 (g1.trans g2) ((i1.kp g2).rp r1) r2 h2
theorem aee {op:ji} (ho:Op2 X (j7 op) R) (ha:PE X a wa) (hb:PE X b wb) (hm:N6 op b=false):PE X (.Compare a [op] [b] pos) (fun ρ μ Q=>wa ρ μ fun x μ1=>wb ρ μ1 fun y μ2=>R x y μ2 Q):=fun i h f=>wpAny_Compare1 (am1 ha hb i h fun i2 g2 r2 r2' h2=>ho i2 r2 r2' h2 (f.mono g2)) hm
theorem ad1 {op:ji} (ho:Op2 X (j7 op) R) (ha:PE X a wa) (hb:PE X b wb) (hm:N6 op b=false):PT X (.Compare a [op] [b] pos) (fun ρ μ Q=>wa ρ μ fun x μ1=>wb ρ μ1 fun y μ2=>R x y μ2 fun r μ3=>gZ r μ3 Q):=fun i h f=>ada (ha i h fun i1 g1 r1 h1=>hb i1 h1 fun i2 g2 r2 h2=>ho i2 ((i1.kp g2).rp r1) r2 h2 fun i3 g3 r3 h3=>by obtain⟨b,rfl,rfl,q⟩:=Fb r3 h3;exact pQ (f i3 ((g1.trans g2).trans g3) rfl q)) hm
theorem aef {op op':ji} (ho:Op2 X (j7 op) R) (ho':Op2 X (j7 op') R') (ha:PE X a wa) (hb:PE X b wb) (hc:PE X c wc) (hm:Uu [op,op'] [b,c]=false):
  PE X (.Compare a [op,op'] [b,c] pos) (fun ρ μ Q=>wa ρ μ fun x μ1=>wb ρ μ1 fun y μ2=>R x y μ2 fun r μ3=>gZ r μ3 fun t μ3=>if t=true then wc ρ μ3 fun z μ4=>R' y z μ4 Q else Q (.bl false) μ3):=fun i h f=>
 Compare_chain (ha i h fun i1 g1 r1 h1=>chain_link (hb i1 h1 fun i2 g2 r2 h2=>ho i2 ((i1.kp g2).rp r1) r2 h2 fun i3 g3 r3 h3=>by
  obtain⟨t,rfl,rfl,q⟩:=Fb r3 h3;refine pQ ?_;cases t with
  |false=>exact ite_ff (f (d:=.bl false) i3 ((g1.trans g2).trans g3) rfl q)|true=>exact ite_tt (chain_last (hc i3 q fun i4 g4 r4 h4=>ho' i4 (((i2.kp (g3.trans g4))).rp r2) r4 h4 (f.mono (((g1.trans g2).trans g3).trans g4)))))) hm
theorem ad2 {op op':ji} (ho:Op2 X (j7 op) R) (ho':Op2 X (j7 op') R') (ha:PE X a wa) (hb:PE X b wb) (hc:PE X c wc) (hm:Uu [op,op'] [b,c]=false):
  PT X (.Compare a [op,op'] [b,c] pos) (fun ρ μ Q=>wa ρ μ fun x μ1=>wb ρ μ1 fun y μ2=>R x y μ2 fun r μ3=>gZ r μ3 fun t μ3=>if t=true then wc ρ μ3 fun z μ4=>R' y z μ4 fun r μ5=>gZ r μ5 Q else Q false μ3):=fun i h f=>
 isTrue_chain (ha i h fun i1 g1 r1 h1=>test_link (hb i1 h1 fun i2 g2 r2 h2=>ho i2 ((i1.kp g2).rp r1) r2 h2 fun i3 g3 r3 h3=>by
  obtain⟨t,rfl,rfl,q⟩:=Fb r3 h3;refine pQ ?_;cases t with
  |false=>exact ite_ff (f i3 ((g1.trans g2).trans g3) rfl q)|true=>exact ite_tt (test_last (hc i3 q fun i4 g4 r4 h4=>ho' i4 (((i2.kp (g3.trans g4))).rp r2) r4 h4 fun i5 g5 r5 h5=>by obtain⟨t,rfl,rfl,q⟩:=Fb r5 h5;exact pQ (f i5 ((((g1.trans g2).trans g3).trans g4).trans g5) rfl q))))) hm
theorem pw_and1 (ha:PT X a ta):PW X (.BoolOp .And [a] pos) ta:=fun _=>fun i h f=>isTrue_and (ha i h fun {d u s1 θ1 μ1} i1 g1 r1 h1=>by
 cases r1;cases d with
 |true=>exact isTrue_and_nil (f i1 g1 rfl h1)|false=>exact f i1 g1 rfl h1)
theorem pw_or1 (ha:PT X a ta):PW X (.BoolOp .Or [a] pos) ta:=fun _=>fun i h f=>isTrue_or (ha i h fun {d u s1 θ1 μ1} i1 g1 r1 h1=>by
 cases r1;cases d with
 |false=>exact isTrue_or_nil (f i1 g1 rfl h1)|true=>exact f i1 g1 rfl h1)
theorem pw_and (ha:PT X a ta) (hb:PW X (.BoolOp .And (b::rest) pos) tb):PW X (.BoolOp .And (a::b::rest) pos) (fun ρ μ Q=>ta ρ μ fun t μ1=>if t=true then tb ρ μ1 Q else Q false μ1):=fun wh=>fun i h f=>isTrue_and (ha i h fun {d u s1 θ1 μ1} i1 g1 r1 h1=>by
 cases r1;cases d with
 |true=>exact hb wh i1 h1 (f.mono g1)|false=>exact f i1 g1 rfl h1)
theorem pw_or (ha:PT X a ta) (hb:PW X (.BoolOp .Or (b::rest) pos) tb):PW X (.BoolOp .Or (a::b::rest) pos) (fun ρ μ Q=>ta ρ μ fun t μ1=>if t=true then Q true μ1 else tb ρ μ1 Q):=fun wh=>fun i h f=>isTrue_or (ha i h fun {d u s1 θ1 μ1} i1 g1 r1 h1=>by
 cases r1;cases d with
 |true=>exact f i1 g1 rfl h1|false=>exact hb wh i1 h1 (f.mono g1))
theorem aeb {op} (h:PE X a wa):PE X (.BoolOp op [a] pos) wa:=fun i q f=>BoolOp_one (h i q f)
theorem aeg (ha:PE X a wa) (hb:PE X (.BoolOp .And (b::rest) pos) wb):PE X (.BoolOp .And (a::b::rest) pos) (fun ρ μ Q=>wa ρ μ fun x μ1=>gZ x μ1 fun t μ2=>if t=true then wb ρ μ2 Q else Q (.bl false) μ2):=fun i h f=>
 BoolOp_and (ha i h fun {d u s1 θ1 μ1} i1 g1 r1 h1=>by
  obtain⟨t,rfl,rfl,q⟩:=Fb r1 h1;refine pQ ?_;cases t with
  |true=>exact hb i1 q (f.mono g1)|false=>exact f (d:=.bl false) i1 g1 rfl q)
theorem ahO (ha:PE X a wa) (hb:PE X (.BoolOp .Or (b::rest) pos) wb):PE X (.BoolOp .Or (a::b::rest) pos) (fun ρ μ Q=>wa ρ μ fun x μ1=>gZ x μ1 fun t μ2=>if t=true then Q (.bl true) μ2 else wb ρ μ2 Q):=fun i h f=>
 BoolOp_or (ha i h fun {d u s1 θ1 μ1} i1 g1 r1 h1=>by
  obtain⟨t,rfl,rfl,q⟩:=Fb r1 h1;refine pQ ?_;cases t with
  |true=>exact f (d:=.bl true) i1 g1 rfl q|false=>exact hb i1 q (f.mono g1))
theorem aed (ht:PT X t ta) (ha:PE X a wa) (hb:PE X b wb):PE X (.IfExp t a b pos) (fun ρ μ Q=>ta ρ μ fun t μ1=>if t=true then wa ρ μ1 Q else wb ρ μ1 Q):=fun i h f=>
 wpAny_IfExp (ht i h fun {d u s1 θ1 μ1} i1 g1 r1 h1=>by
  cases r1;cases d with
  |true=>exact ha i1 h1 (f.mono g1)|false=>exact hb i1 h1 (f.mono g1))
theorem ajk {q:Const} {j} (h:mC q d=true):PE X (.Constant q j pos) (wE (.cst d)):=fun {s ρ θ μ Qd Q E} i w f=>by
 have w:Qd d μ:=by simpa only[wE]using w
 cases q<;>cases d<;>simp only[mC,dB,bO,beq_iff_eq]at h
 .exact Constant_none (f.at i BX w)
 .subst h;exact Constant_bool (f.at i X8 w)
 .subst h;exact wpAny_Constant_int (f.tok i iw w)
 .rename_i x y
  obtain⟨h1,h2⟩:=h;have h1:=of_decide_eq_true h1;have h2:=of_decide_eq_true h2;subst h1;exact Calls.Constant_str (f.tok i (show Rp _ _ _ (.str _) _ from⟨⟨_,rfl⟩,by rw[gF];exact h2⟩) w)
theorem ajb {k} (h:Ar X as ws):PE X (.Tuple as k pos) (fun ρ μ Q=>ws ρ μ fun ds μ1=>ds.length<=lim/\Q (.tup ds) μ1):=fun i q f=>by
 refine wpAny_Tuple_spliced (h.pa pos i q fun {d u s1 θ1 μ1} i1 g1 r1 h1=>?_);have l:u.length<=sizeLine:=by rw[r1.length,gF];exact h1.1
 exact⟨l,Fn.sq (j:=0) (f.mono g1) i1 cU (aL _) (oG _ l).2 r1 h1.2⟩
theorem ajf {m:Bool} (h:Ar X as ws):PE X (.List as pos) (fun ρ μ Q=>ws ρ μ fun ds μ1=>ds.length<=lim/\newL m ds μ1 Q):=fun i q f=>by
 refine wpAny_List_spliced (h.pa pos i q fun {d u s1 θ1 μ1} i1 g1 r1 h1=>?_);have l:u.length<=sizeLine:=by rw[r1.length,gF];exact h1.1
 exact⟨l,Fn.newL (f.mono g1) i1 cU (aL _) (oG _ l).1 r1 h1.2⟩
end
end DW
namespace DW
open PySem PySem.Spec PyProof.Rows
open L2 (aQ Key frs rG Loc Look Mod rH cV)
section
variable {X:Cx} {ρ:dJ} {θ θ':Th} {μ μ':Mem} {s s1 s':aj} {k n:Nat} {ds:List D} {Qd:QD} {Q XE:Value->aj->Prop} {x y z:Str} {p p2 pos apos:Pos} {a b c e o t:Expr} {as es rest:List Expr} {wa wb wc wo:WE} {ta tb:WT} {ws:WA} {d:D} {u v:Value} {id T m:String} {w:List D->Mem->QD->Prop}
theorem agF (hg:Gl X x) (hm:X.T.mg x=some u) (r:∀ h θ μ,Rp h θ μ d u) (hdb:(x==("__debug__":Str))=false):PE X (.Name x pos) (wE (.gbl x d)):=fun {s ρ θ μ Qd Q E} i q f=>vR i hg hm hdb (f.at i (r _ _ _) (by simpa only[wE]using q))
theorem o7 (hv:Cm x=some (.builtin id)) (hn:x≠"__name__") (hdb:(x==("__debug__":Str))=false) (ho:OpA X (fun us=>call (.builtin id) us) w) (hg:Gl X x) (hm:X.T.mg x=none) (ha:Ar X as ws):
  PE X (.Call (.Name x p) as [] pos) (fun ρ μ Q=>ws ρ μ fun ds μ1=>w ds μ1 Q):=fun i h f=>
 yL (mz i hg hm hv hn hdb (ahY (first:=[]) ha i h fun i1 g1 r1 h1=>ho i1 r1 h1 (f.mono g1)))
theorem Ie (hv:Cm x=some (.type T)) (hn:x≠"__name__") (hdb:(x==("__debug__":Str))=false) (ho:OpA X (fun us=>call (.type T) us) w) (hg:Gl X x) (hm:X.T.mg x=none) (ha:Ar X (e::es) ws):
  PE X (.Call (.Name x p) (e::es) [] pos) (fun ρ μ Q=>ws ρ μ fun ds μ1=>w ds μ1 Q):=fun i h f=>
 yL (mz i hg hm hv hn hdb (Le (ha.pa pos i h fun i1 g1 r1 h1=>ho i1 r1 h1 (f.mono g1)) (ha.st rfl) ha.akf))
theorem agY (K:cW):∀ a∈["NoneType","bool","int","str","tuple","list","dict"],∀ b∈["int","bool","str","tuple","list","dict"],abW K (.type a) (.type b)=some (tZ a b):=by intro a ha b hb;simp only[aO,gH,or_false]at ha hb;rcases ha with rfl|rfl|rfl|rfl|rfl|rfl|rfl<;>rcases hb with rfl|rfl|rfl|rfl|rfl|rfl<;>first|rfl|decide
theorem JZ:∀ b∈["int","bool","str","tuple","list","dict"],Cm (aC b)=some (.type b)/\aC b≠"__name__"/\(aC b==("__debug__":Str))=false:=by intro b hb;simp only[aO,gH,or_false]at hb;rcases hb with rfl|rfl|rfl|rfl|rfl|rfl<;>exact⟨by decide+kernel,by decide+kernel,by decide+kernel⟩
theorem aeT {c:Value} {r:Bool} {A:aX} (i:Iv X ρ θ μ s) (rd:Rp s.heap θ μ d u) (e:tyOf μ d=some T) (hk:abW X.T.K (.type T) c=some r) (h:∀ tk,Q (.bool r) {s with toks:=tk}):ak X.M A (call (.builtin "isinstance") [u,c]) Q XE s:=by
 cases d with
 |non=>cases(show u=iB from rd);cases e;exact rY acB i.vU rP hk (fun z=>nomatch z) h
 |bl y=>cases(show u=iG y from rd);cases e;exact rY acA i.vU rP hk (fun z=>nomatch z) h
 |int j=>obtain⟨t,q⟩:=rd;cases q;cases e;exact rY acg i.vU rP hk (fun z=>nomatch z) h
 |str y=>obtain⟨⟨t,q⟩,_⟩:=rd;cases q;cases e;exact rY acf i.vU rP hk (fun z=>nomatch z) h
 |tup ds=>obtain⟨a,us,rfl,⟨_,o,n,h1,h2,_⟩,_⟩:=rd;cases e;exact rY acL i.vU ⟨o,h1,h2⟩ hk (fun z=>nomatch z) h
 |lst ds=>obtain⟨a,us,rfl,⟨_,n,h1⟩,_⟩:=rd;cases e;exact rY Oq i.vU ⟨_,h1,rfl⟩ hk (fun z=>nomatch z) h
 |loc n=>
  obtain⟨p,rfl,hp⟩:=rd;simp only[tyOf]at e;split at e
  .rename_i es hn
   obtain⟨us,⟨_,n,h1⟩,_⟩:=i.dD.cell _ _ p hn hp;cases e;exact rY Oq i.vU ⟨_,h1,rfl⟩ hk (fun z=>nomatch z) h
  .rename_i ks es hn
   obtain⟨⟨_,⟨o,_,_,h1,x,_⟩,_⟩,_⟩:=i.dD.cell _ _ p hn hp;cases e;exact rY Oo i.vU ⟨o,h1,x.1⟩ hk (fun z=>nomatch z) h
  .rename_i ks es hn
   obtain⟨⟨_,⟨o,_,_,h1,x,_⟩,_⟩,_⟩:=i.dD.cell _ _ p hn hp;cases e;exact rY Oo i.vU ⟨o,h1,x.1⟩ hk (fun z=>nomatch z) h
  .cases e
 |ro _=>cases e
 |_=>exact rd.elim
theorem agE (ha:PE X a wa) (ht:T∈["int","bool","str","tuple","list","dict"]) (g1:Gl X (aC "isinstance")) (g2:Gl X (aC T)) (m1:X.T.mg (aC "isinstance")=none) (m2:X.T.mg (aC T)=none)
  (hs:c7 [a,.Name (aC T) p2] X.env=(false,eval a X.env)::c7 [.Name (aC T) p2] X.env):PE X (.Call (.Name (aC "isinstance") p) [a,.Name (aC T) p2] [] pos) (fun ρ μ Q=>wa ρ μ fun d μ1=>wH T d μ1 Q):=fun {s ρ θ μ Qd Q E} i h f=>by
 obtain⟨b1,b2,b3⟩:=JZ T ht;refine yL (mz (u:=.builtin "isinstance") i g1 m1 (by decide+kernel) (by decide+kernel) (by decide+kernel) (Wh ?_ hs rfl));rw[hs];refine qM (ha i h fun {d u s1 θ1 μ1} i1 g1 r1 h1=>?_);refine qM (mz i1 g2 m2 b1 b2 b3 (sy ?_));unfold wH at h1;split at h1
 .rename_i ty e
  have hty:ty∈["NoneType","bool","int","str","tuple","list","dict"]:=(aa2 i1.dD r1 e).1;exact aeT i1 r1 e (agY _ _ hty _ ht) fun tk=>f (d:=.bl (tZ ty T)) (Iv.tok i1) (g1.trans (cB fun _ _ e=>e)) rfl h1
 .exact h1.elim
theorem ajj {dc:Addr} (hg:Gl X x) (hm:X.T.mg x=some (.ref dc)) (hd:Tf X.T.K dc=true) (ha:PE X a wa) (hdb:(x==("__debug__":Str))=false):
  PE X (.Compare a [.In] [.Name x p] pos) (fun ρ μ Q=>wa ρ μ fun d μ1=>Zc ((Bk X.T.K dc).map fun p=>p.1.cps.toList) d μ1 Q)/\PT X (.Compare a [.In] [.Name x p] pos) (fun ρ μ Q=>wa ρ μ fun d μ1=>Zc ((Bk X.T.K dc).map fun p=>p.1.cps.toList) d μ1 fun r μ2=>gZ r μ2 Q):=by
 refine⟨fun i h f=>wpAny_Compare1 (ha i h fun {d u s1 θ1 μ1} i1 g1 r1 h1=>vR i1 hg hm hdb ?_) rfl,fun i h f=>ada (ha i h fun {d u s1 θ1 μ1} i1 g1 r1 h1=>vR i1 hg hm hdb ?_) rfl⟩
 .unfold Zc at h1
  split at h1
  .obtain⟨⟨tk,rfl⟩,_⟩:=r1
   refine aa9 (Gd hd i1.vU) ?_;rw[tu];exact f (d:=.bl _) (Iv.tok i1) (g1.trans (cB fun _ _ e=>e)) rfl h1
  .exact h1.elim
 .unfold Zc at h1
  split at h1
  .obtain⟨⟨tk,rfl⟩,_⟩:=r1
   refine aa9 (Gd hd i1.vU) ?_;rw[tu];exact pQ (f (Iv.tok i1) (g1.trans (cB fun _ _ e=>e)) rfl h1)
  .exact h1.elim
theorem zT {wm:D->List D->Mem->QD->Prop} {W:Mem->D->Prop} (pa:PlainAttrs T) (slot:Slot T (aC m) id) (hty:typeOf (.builtin id)=pure (.type "method_descriptor")) (hm:Mt X id wm) (hW:∀ {μ d},W μ d->tyOf μ d=some T)
  (ho:PE X o wo) (hbs:lQ o=true) (ha:Ar X as ws) (hline:(apos.endLine==pos.line)=true) (h30:as.length<30):
  PE X (.Call (.Attribute o (aC m) apos) as [] pos) (fun ρ μ Q=>wo ρ μ fun x μ1=>W μ1 x/\ws ρ μ1 fun ds μ2=>wm x ds μ2 Q):=fun i h f=>by
 refine wpAny_Call_method_late (QM hbs) (ha.few h30) hline rfl (ho i h fun {d u s1 θ1 μ1} i1 g1 r1 h1=>?_);obtain⟨_,k1,k2⟩:=aa2 i1.dD r1 (hW h1.1);exact⟨T,id,pa,slot,hty,k1,k2,ahY (first:=[u]) ha i1 h1.2 fun i2 g2 r2 h2=>hm i2 ((i1.kp g2).rp r1) r2 h2 (f.mono (g1.trans g2))⟩
theorem ty_cell (h:isCell μ d=true):tyOf μ d=some "list":=by
 cases d with
 |loc n=>
  simp only[isCell]at h;split at h
  .rename_i e;simp only[tyOf,e]
  .cases h
 |_=>cases h
theorem aa3 (h:Fq μ d=true):tyOf μ d=some "list":=by
 cases d with
 |lst _=>rfl|loc n=>
  simp only[Fq]at h;split at h
  .rename_i e;simp only[tyOf,e]
  .cases h
 |_=>cases h
theorem akF (h:ale d=true):tyOf μ d=some "str":=by
 cases d with
 |str _=>rfl|_=>cases h
theorem agC (hmm:m="append"∨m="insert"∨m="extend"∨m="pop") (ho:PE X o wo) (hbs:lQ o=true) (ha:Ar X as ws) (hline:(apos.endLine==pos.line)=true) (h30:as.length<30):
  PE X (.Call (.Attribute o (aC m) apos) as [] pos) (fun ρ μ Q=>wo ρ μ fun x μ1=>isCell μ1 x=true/\ws ρ μ1 fun ds μ2=>dU m x ds μ2 Q):=by
 rcases hmm with rfl|rfl|rfl|rfl
 .exact zT yQ Vf PySem.F.type_list_append ZK ty_cell ho hbs ha hline h30
 .exact zT yQ abR PySem.F.type_list_insert ZG ty_cell ho hbs ha hline h30
 .exact zT yQ Ve PySem.F.type_list_extend ZJ ty_cell ho hbs ha hline h30
 .exact zT yQ U3 PySem.F.type_list_pop aju ty_cell ho hbs ha hline h30
end
end DW
namespace DW
open PySem PySem.Spec PyProof.Rows
open L2 (aQ Key frs rG Loc Look Mod rH cV)
section
variable {h:Heap} {θ:Th} {μ:Mem} {d:D} {ds:List D} {v:Value}
theorem Yb {β κ κ':Type} [DecidableEq κ] [DecidableEq κ'] {f:κ->κ'} (inj:∀ a b,f a=f b->a=b) {key:β->κ'} {val:β->Value} {k:κ} {up:β->β} {new:β} (hk:∀ x,key (up x)=key x) (hv:∀ x,val (up x)=if key x=f k then v else val x) (nk:key new=f k) (nv:val new=v) (rv:Rp h θ μ d v):
  ∀ {ks:List κ} {ds:List D} {l:List β},l.map key=ks.map f->dF h θ μ ds (l.map val)->(if k∈ks then l.map up else l++[new]).map key=(jx ks k).map f/\dF h θ μ (nR ks ds k d) ((if k∈ks then l.map up else l++[new]).map val):=by
 intro ks ds l e r;unfold jx nR;by_cases c:k∈ks
 .rw[if_pos c,if_pos c,if_pos c]
  refine⟨by rw[<-e,jq];exact qN fun x _=>hk x,?_⟩;clear c;induction l generalizing ks ds with
  |nil=>cases(show ks=[] by simpa using e);rw[bh,bh,List.zipWith_nil_left];exact .nil
  |cons x l ih=>
   cases ks with
   |nil=>simp at e|cons c ks=>
    simp only[aW,eH]at e;cases ds with
    |nil=>simp[dF]at r|cons d' ds=>
     obtain⟨u,us,q,r1,r2⟩:=r;simp only[aW,eH]at q;obtain⟨rfl,rfl⟩:=q;rw[aW,aW,adp];refine .cons ?_ (ih e.2 r2);rw[hv];by_cases z:c=k
     .rw[if_pos z,if_pos (by rw[e.1,z])];exact rv
     .rw[if_neg z,if_neg fun y=>z (inj _ _ (e.1.symm.trans y))];exact r1
 .rw[if_neg c,if_neg c,if_neg c]
  refine⟨by rw[qI,qI,e,acK,acK,nk],?_⟩;rw[qI];exact r.append (.one (by rw[nv];exact rv))
theorem QL {β κ κ':Type} [DecidableEq κ] [DecidableEq κ'] {f:κ->κ'} (inj:∀ a b,f a=f b->a=b) {key:β->κ'} {k:κ}:∀ {ks:List κ} {l:List β},l.map key=ks.map f->((l.any fun x=>decide (key x=f k))=true<->k∈ks):=by
 intro ks l e;rw[Vw];have:(∃ x∈l,key x=f k)<->f k∈l.map key:=by rw[jG]
 simp only[decide_eq_true_eq];rw[this,e,jG];exact⟨fun⟨a,h1,h2⟩=>inj _ _ h2▸h1,fun z=>⟨k,z,rfl⟩⟩
end
section
variable {κ κ':Type} [DecidableEq κ] [DecidableEq κ'] {f:κ->κ'} {ks:List κ} {k:κ} {w:Value} {b:Addr}
theorem Zo (inj:∀ a b,f a=f b->a=b) {kvs:List (κ'×Value)} (hk:kvs.map (·.1)=ks.map f):stored kvs (f k) w=if k∈ks then kvs.map (fun kv=>if kv.1=f k then(kv.1,w)else kv)else kvs++[(f k,w)]:=by
 unfold stored;by_cases c:k∈ks
 .rw[if_pos c,if_pos ((QL inj hk).mpr c)]
 .rw[if_neg c,if_neg fun y=>c ((QL inj hk).mp y)]
theorem Uj (inj:∀ a b,f a=f b->a=b) {xs:List (κ'×Addr×Value)} (hk:xs.map (·.1)=ks.map f):storedH xs (f k) b w=if k∈ks then xs.map (xX (f k) w)else xs++[(f k,b,w)]:=by
 have c2:(atKey xs (f k)).isSome=true<->k∈ks:=by rw[<-QL inj hk];unfold atKey;rw[VG,List.find?_isSome,Vw]
 unfold storedH;by_cases c:k∈ks
 .rw[if_pos c,if_pos (c2.mpr c)]
 .rw[if_neg c,if_neg fun y=>c (c2.mp y)]
theorem agn {h:Heap} {θ:Th} {μ:Mem} {g:κ->D} {xs:List (κ'×Addr×Value)} (ht:dF h θ μ (ks.map g) (xs.map fun x=>.ref x.2.1)) (hb:Rp h θ μ (g k) (.ref b)):dF h θ μ ((jx ks k).map g) ((if k∈ks then xs.map (xX (f k) w)else xs++[(f k,b,w)]).map fun x=>.ref x.2.1):=by
 unfold jx;by_cases c:k∈ks
 .rw[if_pos c,if_pos c,jq,show((fun x:κ'×Addr×Value=>jF x.2.1) ∘ xX (f k) w)=fun x=>jF x.2.1 from funext fun x=>by simp only[Function.comp];unfold xX;split<;>rfl]
  exact ht
 .rw[if_neg c,if_neg c,qI,qI]
  exact ht.append (.one hb)
theorem RX:(jx ks k).length<=ks.length+1:=by unfold jx;split<;>simp
end
section
variable {X:Cx} {ρ:dJ} {θ θ':Th} {μ μ':Mem} {s s1 s':aj} {n:Nat} {ds:List D} {Qd:QD} {Q XE:Value->aj->Prop} {p p2 pos:Pos} {a b o:Expr} {wa wb we wo wi:WE} {d x y z:D} {u v w:Value} {A:aX} {K:Mem->Prop}
theorem Iv.big (i:Iv X ρ θ μ s):rQ<s.heap.objs.size:=Hr (by decide) (show bT<s.heap.objs.size from(i.e.mod.glob.keeps i.e.bk).lt)
theorem ahe {t:Bool} (i:Iv X ρ θ μ s):Iv X ρ (θ.snoc (s.heap.objs.size,s.heap.objs.size)) (μ++[if t=true then .Jz [] []else .vV [] []]) {s with heap:=s.heap.push {cls:=.type "dict",data:=.dict #[]}}/\
  G0 X θ μ s (θ.snoc (s.heap.objs.size,s.heap.objs.size)) (μ++[if t=true then .Jz [] []else .vV [] []]) {s with heap:=s.heap.push {cls:=.type "dict",data:=.dict #[]}}:=by
 have e:=dW s.heap (o:={cls:=.type "dict",data:=.dict #[]}) rfl;have hb:(s.heap.objs.size==rQ)=false:=beq_eq_false_iff_ne.mpr (bN (jL i.big));refine i.new (p:=(s.heap.objs.size,s.heap.objs.size)) (tk:=s.toks) cU (aL _) (aL _) (fun a z=>⟨_,by rcases z with rfl|rfl<;>exact e⟩) ?_;cases t with
 |true=>exact⟨⟨[],⟨_,#[],0,e,⟨rfl,rfl,rfl⟩,rfl,rfl,abV⟩,iH _,hb,.nil,rfl,.nil⟩,rfl⟩|false=>exact⟨⟨[],aiD s.heap,iH _,hb,rfl,.nil⟩,rfl⟩
theorem agG {t:Bool}:PE X (.Dict [] [] pos) (wE (.aal t)):=fun {s ρ θ μ Qd Q E} i h f=>by obtain⟨i',g⟩:=ahe (t:=t) i;simp only[wE]at h;exact wpAny_Dict_empty (f (d:=.loc μ.length) i' g ⟨(s.heap.objs.size,s.heap.objs.size),rfl,by rw[<-i.dD.len];simp[Th.snoc]⟩ h)
theorem afj (hu:A.units+1<cLine) (i:Iv X ρ θ μ s) (rx:Rp s.heap θ μ x u) (ry:Rp s.heap θ μ y v) (h:Rb x y μ Qd) (f:Fin X ρ θ μ s Qd Q):s.TypeIs u "dict"/\ak X.M A (jk u v) Q XE s:=by
 have kk:∀ {p ks ds k d},TG X.T s.heap θ μ p ks ds->Fo y=some k->fY ks ds k=some d->Qd d μ->s.TypeIs (.ref p) "dict"/\ak X.M A (jk (.ref p) v) Q XE s:=fun {p ks ds k d} c ek el q=>by
  obtain⟨kvs,hd,_,_,hk,r⟩:=c;obtain⟨x,e,rd⟩:=(Bj keyOf (fun _ _=>qW) (·.1) (·.2) ks ds kvs k hk r).1 _ el
  exact⟨hd.typeIs,wpAny_getItem_of (key_is ek ry) hd.mapOf (show M7 kvs (keyOf k)=some x.2 by unfold M7;rw[e];rfl) (f.tok i rd q)⟩
 have tt:∀ {p ks ds es k d},J6 X.T s.heap θ μ p ks ds->y= .tup es->lH es=some k->fY ks ds k=some d->Qd d μ->s.TypeIs (.ref p) "dict"/\ak X.M A (jk (.ref p) v) Q XE s:=fun {p ks ds es k d} c ey ek el q=>by
  subst ey;obtain⟨b,us,rfl,_⟩:=id ry;obtain⟨xs,hd,_,_,_,hk,r⟩:=c.of;obtain⟨x,e,rd⟩:=(Bj (fun k:List nF=>k.map keyOf) (fun _ _=>sX) (·.1) (·.2.2) ks ds xs k hk r).1 _ el
  exact⟨hd.typeIs,wpAny_getItem_heap (p:=x.2) (Oz hu) (zF ek ry) hd (show atKey xs (k.map keyOf)=some x.2 by unfold atKey;rw[e];rfl) (f.tok i rd q)⟩
 unfold Rb at h;split at h
 .rename_i n
  obtain⟨p,rfl,hp⟩:=rx;split at h
  .rename_i ks ds hn
   split at h
   .rename_i k ek
    split at h
    .rename_i d el;exact kk (i.dD.cell n _ p hn hp).1 ek el h
    .exact h.elim
   .exact h.elim
  .rename_i ks ds hn
   split at h
   .split at h
    .rename_i k ek
     split at h
     .rename_i d el;exact tt (i.dD.cell n _ p hn hp).1 rfl ek el h
     .exact h.elim
    .exact h.elim
   .exact h.elim
  .exact h.elim
 .exact h.elim
theorem agH (hu:X.A.units+1<cLine) (ho:PE X o wo) (hi:PE X b wi) (hs:Bv b):PE X (.Subscript o b pos) (fun ρ μ Q=>wo ρ μ fun x μ1=>wi ρ μ1 fun y μ2=>Rb x y μ2 Q):=fun i h f=>L2.X3 Oa.lookup hs (ho i h fun i1 g1 r1 h1=>hi i1 h1 fun i2 g2 r2 h2=>afj hu i2 ((i1.kp g2).rp r1) r2 h2 (f.mono (g1.trans g2)))
theorem afh {R:Unit->aj->Prop} (hu:A.units+1<cLine) (i:Iv X ρ θ μ s) (rx:Rp s.heap θ μ x u) (ry:Rp s.heap θ μ y v) (rz:Rp s.heap θ μ z w) (h:Ra x y z μ K)
  (f:∀ {s' μ'},Iv X ρ θ μ' s'->G0 X θ μ s θ μ' s'->K μ'->R () s'):ak X.M A (G5 u v w) R XE s:=by
 unfold Ra at h;split at h
 .rename_i n
  obtain⟨p,rfl,hp⟩:=rx;split at h
  .rename_i ks ds hn
   obtain⟨⟨kvs,hd,l,hs,hk,r⟩,h2⟩:=i.dD.cell n _ p hn hp;split at h
   .rename_i k ek
    (have hl:kvs.length=ks.length:=by simpa using congrArg fK hk);refine wpAny_setItem_pairs (hsz:=l) (key_is ek ry) hd fun h' dd' sb=>?_;have k':∀ b o,¬(b=p.1∨b=p.2)->s.heap.get? b=some o->h'.get? b=some o:=fun b o z q=>(sb.2 b fun y=>z (.inl y)).trans q;have kp:Kp θ μ s.heap θ (μ.set n (.vV (jx ks k) (nR ks ds k z))) h':=Dj hn hp (by simp) k';obtain⟨q1,q2⟩:=Yb (f:=keyOf) (fun _ _=>qW) (key:=fun kv:Key×Value=>kv.1) (val:=fun kv=>kv.2) (k:=k) (v:=w) (up:=fun kv=>if kv.1=keyOf k then(kv.1,w)else kv) (new:=(keyOf k,w)) (fun x=>by split<;>rfl) (fun x=>by split<;>rfl) rfl rfl (kp.rp rz) hk (kp.Fi r);rw[<-Zo (fun _ _=>qW) hk]at q1 q2;obtain⟨o',_,_,eo,_⟩:=id dd';obtain⟨i',g⟩:=i.set (c':=.vV (jx ks k) (nR ks ds k z)) (tk:=s.toks+1) hn hp (by simp) rfl k' (fun a z=>⟨o',by rcases z with rfl|rfl<;>first|exact eo|(rw[h2];exact eo)⟩)
     ⟨⟨_,dd',by have e:=congrArg fK q1;simp only[aU]at e;rw[e,gF];exact jc RX h.1,hs,q1,q2⟩,h2⟩
    exact f i' g h.2
   .exact h.elim
  .rename_i ks ds hn
   obtain⟨hx,h2⟩:=i.dD.cell n _ p hn hp;obtain⟨xs,hd,l,hs,ht,hk,r⟩:=hx.of;split at h
   .rename_i es
    split at h
    .rename_i k ek
     obtain⟨b,us,rfl,_⟩:=id ry;(have hl:xs.length=ks.length:=by simpa using congrArg fK hk);refine wpAny_setItem_heap (hsz:=l) (Oz hu) (zF ek ry) hd fun h' dd' sb=>?_;have k':∀ b o,¬(b=p.1∨b=p.2)->s.heap.get? b=some o->h'.get? b=some o:=fun b o z q=>(sb.2 b fun y=>z (.inl y)).trans q;have kp:Kp θ μ s.heap θ (μ.set n (.Jz (jx ks k) (nR ks ds k z))) h':=Dj hn hp (by simp) k';obtain⟨q1,q2⟩:=Yb (f:=fun k:List nF=>k.map keyOf) (fun _ _=>sX) (key:=fun x:List Key×Addr×Value=>x.1) (val:=fun x=>x.2.2) (k:=k) (v:=w) (up:=xX (k.map keyOf) w) (new:=(k.map keyOf,b,w)) (fun x=>by unfold xX;split<;>rfl) (fun x=>by unfold xX;split<;>rfl) rfl rfl (kp.rp rz) hk (kp.Fi r);have q3:=agn (k:=k) (w:=w) (f:=fun k:List nF=>k.map keyOf) (kp.Fi ht) (b:=b) (by rw[ahQ ek]at ry;exact kp.rp ry);rw[<-Uj (fun _ _=>sX) hk]at q1 q2 q3;obtain⟨o',es2,ep,eo,e1,e2,e3,_,e5⟩:=dd';obtain⟨i',g⟩:=i.set (c':=.Jz (jx ks k) (nR ks ds k z)) (tk:=s.toks+(Nr (aQ X.T.P X.T.w)).draws (k.map keyOf)) hn hp (by simp) rfl k' (fun a z=>⟨o',by rcases z with rfl|rfl<;>first|exact eo|(rw[h2];exact eo)⟩)
      ⟨⟨_,⟨o',es2,ep,eo,e1,e2,e3,e5⟩,by have e:=congrArg fK q1;simp only[aU]at e;rw[e,gF];exact jc RX h.1,hs,q3,q1,q2⟩,h2⟩
     exact f i' g h.2
    .exact h.elim
   .exact h.elim
  .exact h.elim
 .exact h.elim
end
end DW
namespace DW
open PySem PySem.Spec PyProof.Rows
open L2 (aQ Key frs rG Loc Look Mod rH cV)
section
variable {X:Cx} {ρ:dJ} {θ θ':Th} {μ μ':Mem} {s s1 s':aj} {n:Nat} {ds:List D} {Qd:QD} {Q XE:Value->aj->Prop} {p p1 p2 p3 pos:Pos} {a b o x y z k:Expr} {wa wb we:WE} {d:D} {u v w:Value} {ks:List nF} {keys:List (Option Expr)} {values:List Expr} {ws:WA}
theorem ajh (ha:PE X a wa):PE X a (fun ρ μ Q=>wa ρ μ fun d μ1=>Q8 d μ1 Q):=fun {s ρ θ μ Qd Q E} i h f=>ha i h fun {d u s1 θ1 μ1} i1 g1 r1 h1=>by
 cases d with
 |loc n=>
  obtain⟨p,rfl,hp⟩:=id r1;simp only[Q8]at h1;split at h1
  .rename_i ds hn
   obtain⟨us,x,r,e2⟩:=i1.dD.cell n _ p hn hp;obtain⟨_,o,eo,_⟩:=x.fix;have kp:Kp θ1 μ1 s1.heap θ1 (μ1.set n .gone) s1.heap:=Dj hn hp (by simp) fun _ _ _ q=>q;obtain⟨i2,g2⟩:=i1.set (c':=.gone) (h':=s1.heap) (tk:=s1.toks) hn hp (by simp) rfl (fun _ _ _ q=>q) (fun a z=>⟨o,by rcases z with rfl|rfl<;>first|exact eo|(rw[e2];exact eo)⟩) trivial;exact f (d:=.lst ds) i2 (g1.trans g2) ⟨p.1,us,rfl,x,aaf i1.dD hn (by simp) hp (.inl rfl),kp.Fi r⟩ h1
  .exact h1.elim
 |_=>exact f i1 g1 r1 h1
end
end DW
namespace DW
open PySem PySem.Spec PyProof.Rows PySem.SeqAt
open L2 (aQ Key frs rG Loc Look Mod rH cV)
open PySem.AutoSeq1 (wpAny_loadPart')
theorem Ji (a:IsItem h v x) (b:IsItem h v y):x=y:=by
 obtain⟨p,o,t,u,n,rfl,g,_,d⟩:=a;obtain⟨p',o',t',u',n',e,g',_,d'⟩:=b;cases e;rw[g]at g';cases g';rw[d]at d';injection d' with e1 e2;have e3:=congrArg Hs e1;simp only[eH,Value.int.injEq,Value.str.injEq,abH,and_true]at e3;obtain⟨⟨h1,_⟩,h2,_⟩:=e3;have h2':x.2=y.2:=by simpa using congrArg Hs h2
 exact Nk h1 h2'
theorem IsItem.keep (k:∀ b o,h.get? b=some o->h'.get? b=some o) (i:IsItem h v x):IsItem h' v x:=by obtain⟨p,o,t,u,n,e,g,r⟩:=i;exact⟨p,o,t,u,n,e,k _ _ g,r⟩
theorem YB {x:Itm} {t u:Tok}:SVs [Ci x.1 t,yq ⟨x.2.toArray⟩ u] [.int x.1,.str x.2]:=.cons (.inl ⟨_,_,rfl,rfl⟩) (.cons (.inr ⟨_,_,rfl,rfl⟩) .nil)
theorem aeD (x y:Itm):wu [.int x.1,.str x.2] [.int y.1,.str y.2]=some (lG x y):=by
 unfold lG;by_cases e:x.1=y.1
 .rw[if_pos e]
  by_cases e2:x.2=y.2
  .have:ig x.2 y.2=false:=by rw[e2,Yr];simp
   rw[<-e2]at this;simp[wu,kO,e,<-e2,this]
  .simp[wu,kO,e,e2,Et]
 .rw[if_neg e]
  simp[wu,kO,e,Et]
section
variable {prog:cg} {w:bA} {A:aX} {E:Value->aj->Prop}
theorem Zw (hv:IsItem s.heap v x) (hu:IsItem s.heap u y) (hun:A.units<cLine) (h:Q (.bool (lG x y)) s):ak (aH prog w) A (U4 .Lt v u) Q E s:=by obtain⟨a,oa,t1,t2,n,rfl,ga,ca,da⟩:=hv;obtain⟨b,ob,t3,t4,m,rfl,gb,cb,db⟩:=hu;exact RQ (l:=a) (b:=b) ⟨oa,ga,ca,n,da⟩ ⟨ob,gb,cb,m,db⟩ YB YB (aeD x y) hun h
theorem aak (hv:IsItem s.heap v x) (hu:IsItem s.heap u y) (hun:A.units<cLine):xY A s v u (decide (x=y)):=by
 obtain⟨a,oa,t1,t2,n,rfl,ga,ca,da⟩:=id hv;obtain⟨b,ob,t3,t4,m,rfl,gb,cb,db⟩:=id hu;by_cases e:a=b
 .subst e
  have:=Ji hv hu;rw[decide_eq_true this];exact EqAt.same _
 .have rc:=RcAt.tuples (A:=A) (s:=s) (l:=a) (b:=b) (e:=fun j=>match j with|0=>x.1==y.1|_=>decide (x.2=y.2)) ⟨oa,ga,ca,n,da⟩ ⟨ob,gb,cb,m,db⟩ hun (fun j h1 h2=>by
   match j,h1,h2 with
   |0,_,_=>exact acP x.1 t1 y.1 t3|1,_,_=>
    have:=acO (A:=A.in1) (s:=s) ⟨x.2.toArray⟩ t2 ⟨y.2.toArray⟩ t4;have q:((⟨x.2.toArray⟩:Str)==⟨y.2.toArray⟩)=decide (x.2=y.2):=by rw[Gy];by_cases z:x.2=y.2<;>simp[z]
    rw[q]at this;exact this)
  have eb:((aN (min (#[Ci x.1 t1,yq ⟨x.2.toArray⟩ t2]:Array Value).size (#[Ci y.1 t3,yq ⟨y.2.toArray⟩ t4]:Array Value).size)).all (fun j=>match j with|0=>x.1==y.1|_=>decide (x.2=y.2))&&(#[Ci x.1 t1,yq ⟨x.2.toArray⟩ t2]:Array Value).size==(#[Ci y.1 t3,yq ⟨y.2.toArray⟩ t4]:Array Value).size)=decide (x=y):=by have:x=y<->x.1=y.1/\x.2=y.2:=⟨fun z=>by rw[z];exact⟨rfl,rfl⟩,fun z=>Nk z.1 z.2⟩;by_cases z1:x.1=y.1<;>by_cases z2:x.2=y.2<;>simp[this,z1,z2,aN,List.range.loop]
  rw[eb]at rc;exact EqAt.of_refs e rc
theorem aex {I S:Addr} {fp wr:List Addr} {n:Nat} {St:Nat->Heap->Prop} {R:yc->aj->Prop} {h0:Heap} {vs:List Value} {r:List Itm} (W:Walks prog w A.in1 I fp wr n (fun i v=>vs[i]?=some v) St) (hvr:∀ (i:Nat) (v:Value),vs[i]?=some v->∃ x,r[i]?=some x/\IsItem h0 v x)
  (hun:A.in1.units<cLine) (nS:S∉fp) (old:∀ b o,h0.get? b=some o->b∉wr/\b≠S):
  ∀ (k j:Nat) (s:aj) (best:Value) (c:Nat),j+1+k=n->St (j+1) s.heap->(∃ i,i<=j/\vs[i]?=some best/\i=dR (ltAt r) j)->
   s.heap.get? S=some {cls:=.type "list",dict:=none,data:=.seq #[best,best] c,slots:=#[]}->(∀ b o,h0.get? b=some o->s.heap.get? b=some o)->
   (∀ v h' tk,vs[dR (ltAt r) (n -1)]?=some v->(∀ b o,b∉wr->b≠S->s.heap.get? b=some o->h'.get? b=some o)->R (.ok (.ret v)) {s with heap:=h',toks:=tk})->
   qj (aH prog w) A (.builtin "min.loop" ⟨[.ref I,.none,.ref S],[]⟩) R s:=by
 have nSw:S∉wr:=fun z=>nS (W.sub _ z);have nm:(toString "min"++toString ".loop":String)="min.loop":=by decide
 intro k;induction k with
 |zero=>rintro j s best c hn st ⟨i,_,hi,ei⟩ gS _ hR;have ej:j+1=n:=hn;refine yH Vv (by rw[H7 yJ _];show ak _ A.in1 (Hf (.ref S)>>=_) _ _ s;refine ao (nu gS rfl (?_:ak _ A.in1 (tryCatch (gQ (.ref I)) _>>=_) _ _ s));refine ao (N8 (W.done s _ _ (by rw[<-ej];exact st) fun h1 tk ke=>?_));have gS1:=ke S _ nSw gS;refine ao (m:=updateSeq S (fun _=>#[])) (HB gS1 rfl (ao (rR (aD ?_))));exact hR best _ tk (by rw[<-ej,Nat.add_sub_cancel,<-ei];exact hi) fun b o nb nbS e=>(wW _ _ (bN nbS)).trans (ke b o nb e))|succ k ih=>
  rintro j s best c hn st ⟨i,il,hi,ei⟩ gS kp hR;refine yH Vv (by
   rw[H7 yJ _];show ak _ A.in1 (Hf (.ref S)>>=_) _ _ s;refine ao (nu gS rfl (?_:ak _ A.in1 (tryCatch (gQ (.ref I)) _>>=_) _ _ s));refine ao (N8 (W.item (j+1) s _ _ (by omega) st fun v h1 tk hv st1 ke=>?_));have gS1:=ke S _ nSw gS;have kp1:∀ b o,h0.get? b=some o->h1.get? b=some o:=fun b o e=>ke b o (old b o e).1 (kp b o e);obtain⟨x,hx,ix⟩:=hvr _ _ hv;obtain⟨y,hy,iy⟩:=hvr _ _ hi;(have lb:lG x y=ltAt r (j+1) (dR (ltAt r) j):=by rw[<-ei];simp[ltAt,hx,hy]);refine ao (m:=tryCatch (yg [v,v] (U4 .Lt v best>>=_)) _) (N8 (rU (ao (Zw (ix.keep kp1) (iy.keep kp1) hun ?_))));refine ao (rU (pQ (ao (rR (aD ?_)))));rw[lb];cases hb:ltAt r (j+1) (dR (ltAt r) j) with
   |true=>
    simp only[if_true];refine ao (HB gS1 rfl (ao (rR ?_)));rw[nm];refine aD ⟨Cp yJ _,ih (j+1) _ v _ (by omega) (W.frame _ _ _ st1 fun b bf o e=>?_) ⟨j+1,aL _,hv,by simp only[dR,hb,if_true]⟩ (CN _ gS1 rfl) (fun b o e=>?_) fun v' h2 tk2 q ke2=>?_⟩
    .exact(wW _ _ (fun z:S=b=>nS (by rw[z];exact bf))).trans e
    .exact(wW _ _ (bN (old b o e).2)).trans (kp1 b o e)
    .exact hR v' h2 tk2 q fun b o nb nbS e=>ke2 b o nb nbS ((wW _ _ (bN nbS)).trans (ke b o nb e))
   |false=>simp only[dB,if_false];refine ao (rR ?_);rw[nm];refine aD ⟨Cp yJ _,ih (j+1) _ best c (by omega) st1 ⟨i,by omega,hi,by simp only[dR,hb,dB,if_false];exact ei⟩ gS1 kp1 fun v' h2 tk2 q ke2=>?_⟩;exact hR v' h2 tk2 q fun b o nb nbS e=>ke2 b o nb nbS (ke b o nb e))
theorem ZM {I S:Addr} {fp wr:List Addr} {n:Nat} {St:Nat->Heap->Prop} {R:yc->aj->Prop} {h0:Heap} {vs:List Value} {r:List Itm} (W:Walks prog w A.in1 I fp wr n (fun i v=>vs[i]?=some v) St) (hvr:∀ (i:Nat) (v:Value),vs[i]?=some v->∃ x,r[i]?=some x/\IsItem h0 v x)
  (hun:A.in1.units<cLine) (nS:S∉fp) (old:∀ b o,h0.get? b=some o->b∉wr/\b≠S) (hn:0<n) {s:aj} {c:Nat} (st:St 0 s.heap) (gS:s.heap.get? S=some {cls:=.type "list",dict:=none,data:=.seq #[] c,slots:=#[]}) (kp:∀ b o,h0.get? b=some o->s.heap.get? b=some o)
  (hR:∀ v h' tk,vs[dR (ltAt r) (n -1)]?=some v->(∀ b o,b∉wr->b≠S->s.heap.get? b=some o->h'.get? b=some o)->R (.ok (.ret v)) {s with heap:=h',toks:=tk}):
  qj (aH prog w) A (.builtin "min.loop" ⟨[.ref I,.none,.ref S],[]⟩) R s:=by
 have nSw:S∉wr:=fun z=>nS (W.sub _ z);have nm:(toString "min"++toString ".loop":String)="min.loop":=by decide
 refine yH Vv (by
  rw[H7 yJ _];show ak _ A.in1 (Hf (.ref S)>>=_) _ _ s;refine ao (nu gS rfl (?_:ak _ A.in1 (tryCatch (gQ (.ref I)) _>>=_) _ _ s));refine ao (N8 (W.item 0 s _ _ hn st fun v h1 tk hv st1 ke=>?_));have gS1:=ke S _ nSw gS;refine ao (m:=updateSeq S (fun _=>#[v,v])) (HB gS1 rfl ?_);rw[nm];refine aD ⟨Cp yJ _,aex W hvr hun nS old (n -1) 0 _ v _ (by omega) (W.frame _ _ _ st1 fun b bf o e=>?_) ⟨0,aL _,hv,rfl⟩ (CN _ gS1 rfl) (fun b o e=>?_) fun v' h2 tk2 q ke2=>?_⟩
  .exact(wW _ _ (fun z:S=b=>nS (by rw[z];exact bf))).trans e
  .exact(wW _ _ (bN (old b o e).2)).trans (ke b o (old b o e).1 (kp b o e))
  .exact hR v' h2 tk2 q fun b o nb nbS e=>ke2 b o nb nbS ((wW _ _ (bN nbS)).trans (ke b o nb e)))
theorem ZL {l:Addr} {vs:List Value} {r:List Itm} {s:aj} {Q:Value->aj->Prop} (hh:A.handled=none) (hl:s.heap.IsList l vs.toArray) (hvr:∀ (i:Nat) (v:Value),vs[i]?=some v->∃ x,r[i]?=some x/\IsItem s.heap v x) (hn:0<vs.length) (hun:A.in1.units<cLine)
  (h:∀ v h' tk,vs[dR (ltAt r) (vs.length -1)]?=some v->(∀ b o,s.heap.get? b=some o->h'.get? b=some o)->Q v {s with heap:=h',toks:=tk}):ak (aH prog w) A (call (.builtin "min") [.ref l]) Q E s:=by
 have nm:(toString "min"++toString ".loop":String)="min.loop":=by decide
 have hlt:l<s.heap.objs.size:=by obtain⟨o,e,_⟩:=hl;exact dw e
 refine call_function_tree F.kind_min F.plain_min F.entry_min (F.args_min1 _) ?_;refine ao (m:=adW "min" ["key","default"] 0 ⟨[],[]⟩) (U6 (show adW "min" ["key","default"] 0 ⟨[],[]⟩=pure [none,none]from rfl) (ao (aD ?_)));refine ao (Ot hl ?_);have W:=abw (prog:=prog) (w:=w) (A:=A.in1) hh s.heap.objs.size l (jL hlt) vs.toArray;refine ao (tM ?_);rw[nm];have z1:(s.heap.push {cls:=.type "list_iterator",data:=.fields #[.ref l,.int 0 0]}).objs.size=s.heap.objs.size+1:=oN ..;have st0:(s.heap.push {cls:=.type "list_iterator",data:=.fields #[.ref l,.int 0 0]}).IsListIter s.heap.objs.size l 0/\(s.heap.push {cls:=.type "list_iterator",data:=.fields #[.ref l,.int 0 0]}).IsList l vs.toArray:=⟨⟨_,dW _ rfl,rfl,rfl⟩,hl.push _⟩;refine aD ⟨Cp yJ _,ZM (h0:=s.heap) (vs:=vs) (r:=r) (n:=vs.length) (by simpa using W) hvr hun ?_ ?_ hn (by simpa using W.frame _ _ _ st0 fun b _ o e=>bV _ e) (dW _ rfl) ?_ fun v h' tk q ke=>?_⟩
 .intro z
  rw[z1]at z;rcases aO.mp z with z|z
  .exact absurd z (Nat.succ_ne_self _)
  .have z:=cO.mp z
   exact Nat.not_lt.mpr (yt s.heap.objs.size) (by rw[<-z]at hlt;exact hlt)
 .intro b o e
  have:=dw e;rw[z1];exact⟨fun z=>by rw[cO.mp z]at this;exact lu _ this,jL (Om this)⟩
 .exact fun b o e=>bV _ (bV _ e)
 .refine h v h' tk q fun b o e=>ke b o ?_ ?_ (bV _ (bV _ e))
  .intro z;have q:=dw e;rw[cO.mp z]at q;exact lu _ q
  .rw[z1];exact jL (Om (dw e))
end
theorem abq (l:Addr) (its:Array Value) (n:Nat) (x:Value) (p:Value->Bool) (j:Nat) (hj:j<its.size) (yes:p its[j]=true) (hz:its.size<=sizeLine):
  ∀ k i:Nat,i+k=j->(∀ m (hm:m<its.size),i<=m->m<j->p its[m]=false)->yd (nq.«list.remove.loop» ⟨[.ref l,x,fO i],[]⟩)
   (fun A R s=>s.heap.get? l=some {cls:=.type "list",dict:=none,data:=.seq its n,slots:=#[]}/\(∀ y,y∈its->xY A.in1 s y x (p y))/\R (.ok (.ret .none)) {s with heap:=s.heap.update l (yr fun xs=>xs.eraseIdxIfInBounds j)}):=by
 intro k;induction k with
 |zero=>
  intro i ij no prog w A R s hs;obtain⟨hq,g5,d5,t5,o5⟩:=s;obtain⟨gl,eq,hR⟩:=hs;obtain rfl:i=j:=by omega
  wp_walk using tO gl
  have ai:its[((i:Nat):Int).toNat]?=some its[i]:=by simp[hj]
  rw[ai];refine ao (eq _ (VF hj) prog w _ _ ?_);rw[yes];have z2:(its.eraseIdxIfInBounds i).size<=sizeLine+1:=by have:=MeetsSeq.size_erased its i;omega
  wp_walk using(HB gl rfl (hz:=hz) (_hz':=z2)),tO gl
  simpa using hR
 |succ k ih=>
  intro i ij no prog w A R s hs;obtain⟨hq,g5,d5,t5,o5⟩:=s;obtain⟨gl,eq,hR⟩:=hs;have li:i<its.size:=by omega
  wp_walk using tO gl
  have ai:its[((i:Nat):Int).toNat]?=some its[i]:=by simp[li]
  have ci:((i:Int)+1)=((i+1:Nat):Int):=by omega
  rw[ai];refine ao (eq _ (VF li) prog w _ _ ?_);rw[no i li (aL _) (by omega)]
  wp_walk
  rw[ci];exact⟨Cp Pn _,yH adM (by rw[H7 Pn _];exact ih (i+1) (by omega) (fun m hm a b=>no m hm (by omega) b) prog w A R _ ⟨gl,eq,hR⟩)⟩
theorem abr (l:Addr) (its:Array Value) (n:Nat) (x:Value) (p:Value->Bool) (j:Nat) (hj:j<its.size) (yes:p its[j]=true) (no:∀ m (hm:m<its.size),m<j->p its[m]=false) (hz:its.size<=sizeLine):
  yd (nq.«list.remove» ⟨[.ref l,x],[]⟩)
   (fun A R s=>s.heap.get? l=some {cls:=.type "list",dict:=none,data:=.seq its n,slots:=#[]}/\(∀ y,y∈its->xY A.in1 s y x (p y))/\R (.ok (.ret .none)) {s with heap:=s.heap.update l (yr fun xs=>xs.eraseIdxIfInBounds j)}):=by
 intro prog w A R s hs;obtain⟨hq,g5,d5,t5,o5⟩:=s;obtain⟨gl,eq,hR⟩:=hs
 wp_walk using tO gl
 exact⟨Cp Pn _,yH adM (by rw[H7 Pn _];exact abq l its n x p j hj yes hz j 0 (by omega) (fun m hm _ b=>no m hm b) prog w A R _ ⟨gl,eq,hR⟩)⟩
section
open PySem.SeqAt
theorem aac {prog:cg} {w:bA} {A:aX} {E:Value->aj->Prop} {s:aj} {l:Addr} {vs:List Value} {ns:List Int} {k:Int} {t:Tok} {Q:Value->aj->Prop} (hl:s.heap.IsList l vs.toArray) (hi:oV vs ns)
  (hb:ns.length<=sizeLine) (hk:k∈ns) (h:Q (.int (ns.idxOf k:Nat) s.toks) {s with toks:=s.toks+1}):
  ak (aH prog w) A (call (.builtin "list.index") [.ref l,.int k t]) Q E s:=by
 obtain⟨⟨cls,dd,data,sl⟩,ho,hc,n,hd⟩:=id hl;simp only at hc hd;subst hc hd;have hlen:=hi.length;have hj:ns.idxOf k<ns.length:=Wa.mpr hk;rw[gF]at hb;refine jm V8 ⟨_,ho,rfl⟩ adF (adK _ _)
  (list_indexAt l vs.toArray n dd sl (.int k t) (isInt k) (ns.idxOf k) (by simpa[hlen]using hj) (by omega) ?_ ?_) ⟨ho,fun y hy=>(eq_isInt k t hi y (by simpa using hy)).at _ _,h⟩
 .show isInt k vs[ns.idxOf k]=true
  rw[Nh k hi _ (by omega) hj];simpa using Ox hj
 .intro j hjs hlt
  show isInt k vs[j]=false;rw[Nh k hi j (by simpa using hjs) (by omega)];exact ne_of_lt_idxOf hlt _
end
theorem argBest_lt (bt:Nat->Nat->Bool):∀ k,dR bt k<=k
 |0=>aL 0|k+1=>by have:=argBest_lt bt k;simp only[dR];split<;>omega
theorem qw (r:List Itm):∀ k,∀ i,i<=k->ltAt r i (dR (ltAt r) k)=false
 |0,i,h=>by
  have:i=0:=by omega
  subst this;exact sV _
 |k+1,i,h=>by
  simp only[dR];cases hb:ltAt r (k+1) (dR (ltAt r) k) with
  |true=>
   simp only[if_true];rcases dH i (k+1)with q|q
   .have h1:=qw r k i (by omega)
    have h2:=ZV r _ _ hb;exact Wy r _ _ _ h2 h1
   .have:i=k+1:=by omega
    subst this;exact sV _
  |false=>
   simp only[dB,if_false];rcases dH i (k+1)with q|q
   .exact qw r k i (by omega)
   .have:i=k+1:=by omega
    subst this;exact hb
theorem afc {r:List Itm} {y:Itm} (h:y∈r):∃ j:Nat,∃ hj:j<r.length,r[j]=y/\(∀ m (hm:m<r.length),m<j->r[m]≠y)/\r.erase y=r.eraseIdx j:=by
 refine⟨r.idxOf y,Wa.mpr h,Ox _,fun m hm hlt e=>?_,?_⟩
 .have:=ado (p:=(·==y)) hlt
  simp[e]at this
 .rw[List.erase_eq_eraseIdx_of_idxOf rfl]
theorem Lr (f:α->β):∀ (l:List α) (j:Nat),(l.map f).eraseIdx j=(l.eraseIdx j).map f
 |[],j=>by simp|a::l,0=>by simp|a::l,j+1=>by simp[Lr f l j]
section
variable {X:Cx} {ρ:dJ} {θ θ':Th} {μ μ':Mem} {s s1 s':aj} {k n:Nat} {ds:List D} {us:List Value} {Qd:QD} {Q XE:Value->aj->Prop} {d:D} {u v:Value} {m:String} {r:List Itm} {y:Itm} {h:Heap}
theorem Jd (rs:dF h θ μ (r.map bH) us) (i:Nat) (v:Value) (q:us[i]?=some v):∃ x,r[i]?=some x/\IsItem h v x:=by
 have hi:i<us.length:=(cF.mp q).1;have l1:=rs.length;have hr:i<r.length:=by simp at l1;omega
 obtain⟨u,e1,e2⟩:=rs.get (i:=i) (d:=bH r[i]) (by simp[hr]);rw[q]at e1;cases e1;exact⟨r[i],bI hr,Qh e2⟩
def isY (h:Heap) (y:Itm) (q:Value):Bool:=open Classical in decide (IsItem h q y)
theorem Jh (rs:dF h θ μ (r.map bH) us) (i:Nat) (hi:i<us.toArray.size):∃ hi':i<r.length,isY h y us.toArray[i]=decide (r[i]=y):=by
 have hi0:i<us.length:=by simpa using hi
 obtain⟨x,e1,e2⟩:=Jd rs i us[i] (bI hi0);have hi':i<r.length:=(cF.mp e1).1;rw[bI hi']at e1;cases e1;refine⟨hi',?_⟩;have e2:IsItem h us.toArray[i] r[i]:=by simpa using e2
 unfold isY;by_cases c:r[i]=y
 .rw[c]at e2
  rw[decide_eq_true c];exact @decide_eq_true _ (O8 _) e2
 .rw[decide_eq_false c]
  exact @decide_eq_false _ (O8 _) fun q=>c (Ji e2 q)
theorem aeU {A:aX} (rs:dF s.heap θ μ (r.map bH) us) (iy:IsItem s.heap v y) (hun:A.units+1<cLine):∀ q∈us.toArray,xY A.in1 s q v (isY s.heap y q):=fun q hq=>by obtain⟨i,hi,rfl⟩:=Array.mem_iff_getElem.mp hq;obtain⟨hi',e⟩:=Jh (y:=y) rs i hi;obtain⟨x,e1,e2⟩:=Jd rs i us[i] (bI (by simpa using hi));rw[bI hi']at e1;cases e1;rw[e];exact aak (by simpa using e2) iy (by show A.units+1<cLine;omega)
theorem afz (hc:X.calm=true) (hu:X.A.in1.units<cLine):OpA X (fun us=>call (.builtin "min") us) Q7:=fun {s ρ θ μ ds us Qd Q E} i rr hw f=>by
 rcases ds with _|⟨d,_|⟨d2,ds⟩⟩
 .exact(show False from hw).elim
 .obtain⟨u,rfl,rx⟩:=rr.jB
  simp only[Q7]at hw;split at hw
  .rename_i es hq
   obtain⟨it,rfl,hne,hw⟩:=hw;obtain⟨a,vs,rfl,pl,l,rs⟩:=gR i.dD rx hq;have l1:=rs.length;simp only[aU]at l1;have hn:0<it.length:=VP.mpr hne;refine ZL (r:=it) (i.ok.hd hc) pl.isList (Jd rs) (by omega) hu fun w h' tk hw' ke=>?_;(have hk:dR (ltAt it) (vs.length -1)<it.length:=by have:=argBest_lt (ltAt it) (vs.length -1);omega);obtain⟨u,f1,f2⟩:=rs.get (i:=dR (ltAt it) (vs.length -1)) (d:=bH it[dR (ltAt it) (vs.length -1)]) (by simp[hk]);rw[hw']at f1;cases f1;refine f.hp i ke ((iV ke).rp f2) (hw _ (uH hk) fun z hz'=>?_);obtain⟨i,hi,rfl⟩:=CJ.mp hz';have:=qw it (vs.length -1) i (by omega);simpa[ltAt,hi,hk]using this
  .exact hw.elim
 .exact(show False from hw).elim
theorem ZF (hu:X.A.units+64<cLine):Mt X "list.remove" aaO:=fun {s ρ θ μ x ds u us Qd Q E} i rd rs hw f=>by
 unfold aaO at hw;split at hw
 .rename_i n
  split at hw
  .rename_i xs hn
   obtain⟨it,y,rfl,rfl,hy,hq⟩:=hw;obtain⟨p,vs,rfl,hp,h2,q,rr⟩:=Iv.lst i.dD hn rd;obtain⟨w,rfl,rw'⟩:=rs.jB;have iy:=Qh rw';obtain⟨j,hj,ej,nj,ee⟩:=afc hy;have l1:=rr.length;simp only[aU]at l1;obtain⟨l,m,e⟩:=id q;obtain⟨q',kp⟩:=Uk q (g:=fun xs=>xs.eraseIdxIfInBounds j) (vs:=vs.eraseIdx j) (by rw[Wi]) (by have:=List.length_eraseIdx_le vs j;omega);have r3:=rr.eraseIdx j;rw[Lr,<-ee]at r3;obtain⟨i',g,_⟩:=i.aiw (tk:=s.toks) hn hp h2 kp q' r3;refine jm adE ⟨_,e,rfl⟩ PySem.F.entry_list_remove (PySem.F.args_list_remove_2 _ _)
    (abr p.1 vs.toArray m w (isY s.heap y) j (by simp;omega) (by obtain⟨hi',e⟩:=Jh (y:=y) rr j (by simp;omega);rw[e];simp[ej]) (fun k hk lt=>by obtain⟨hi',e⟩:=Jh (y:=y) rr k hk;rw[e];simp[nj k hi' lt]) (by simpa using l)) ⟨e,aeU rr iy (by omega),?_⟩
   exact f i' g BX hq
  .exact hw.elim
 .exact hw.elim
theorem Aq:∀ {ns:List Int} {us:List Value},dF h θ μ (ns.map D.int) us->oV us ns
 |[],_,r=>by cases r.nil_inv;exact .nil
 |n::ns,_,⟨u,r,e,⟨t,z⟩,y⟩=>by rw[e,z];exact .cons n t (Aq y)
theorem X4 {es:List D} (i:Iv X ρ θ μ s) (rd:Rp s.heap θ μ d u) (re:dF s.heap θ μ es us) (hw:Ms m d es μ Qd):
  (∃ a vs ns k t,u= .ref a/\PlainL s.heap a vs.toArray/\oV vs ns/\ns.length<=sizeLine/\us=[.int k t]/\afT m ns k μ Qd)∨(m="index"/\akE d es μ Qd):=by
 unfold Ms at hw;split at hw
 .rename_i ns hb
  obtain⟨ds,q1,q2⟩:=bind_some hb
  match es,hw with
  |[.int k],hw=>obtain⟨w,rfl,⟨t,rfl⟩⟩:=re.jB;obtain⟨a,vs,rfl,pl,l,rs⟩:=gR i.dD rd q1;have il:=rs.length;rw[ints_map q2,aU]at il;exact .inl ⟨a,vs,ns,k,t,rfl,pl,Aq (ints_map q2▸rs),by omega,rfl,hw⟩
 .exact .inr hw
theorem aev (hu:X.A.units+64<cLine):Mt X "list.index" (Ka "index"):=fun {s ρ θ μ x ds u us Qd Q E} i rd re hw f=>by
 rcases X4 (m:="index") i rd re hw with⟨a,vs,ns,k,t,rfl,pl,hi,hz,rfl,h1,h2⟩|⟨-,r,y,j,hl,rfl,ej,nj,hq⟩
 .exact aac pl.isList hi hz h1 (f.tok i iw h2)
 .obtain⟨a,vs,rfl,pl,l,rs⟩:=gR i.dD rd hl
  obtain⟨w,rfl,rw'⟩:=re.jB;have iy:=Qh rw';obtain⟨⟨cls,dd,data,sl⟩,ho,hc,n,hd⟩:=id pl.isList;simp only at hc hd;subst hc hd;have l1:=rs.length;simp only[aU]at l1;have hj:j<r.length:=(cF.mp ej).1;rw[bI hj]at ej;cases ej;have hsl:=l;rw[gF]at hsl;refine jm V8 ⟨_,ho,rfl⟩ adF (adK _ _)
   (list_indexAt a vs.toArray n dd sl w (isY s.heap r[j]) j (by simp;omega) (by omega) (by obtain⟨hi',e⟩:=Jh (y:=r[j]) rs j (by simp;omega);rw[e];simp) (fun k hk lt=>by obtain⟨hi',e⟩:=Jh (y:=r[j]) rs k hk;rw[e];have:=nj k lt;rw[bI hi']at this;exact decide_eq_false fun z=>this (by rw[z]))) ⟨ho,aeU rs iy (by omega),f.tok i iw hq⟩
theorem aew:Mt X "list.count" (Ka "count"):=fun {s ρ θ μ x ds u us Qd Q E} i rd re hw f=>by obtain⟨a,vs,ns,k,t,rfl,pl,hi,hz,rfl,h2⟩:=(X4 (m:="count") i rd re hw).resolve_right fun z=>absurd z.1 (by decide);exact count_list_ints pl.isList hi (f.tok i iw h2)
end
end DW
namespace DW
open PySem PySem.Spec PyProof.Rows PySem.SeqAt PySem.Builtin PySem.Builtin.Str
section
variable {X:Cx} {θ:Th} {μ:Mem} {us:List Value} {Qd:QD} {d:D} {u:Value} {m:String} {h:Heap}
theorem aaL {es:List D} (hm:m≠"join") (rd:Rp h θ μ d u) (re:dF h θ μ es us) (hw:afS m d es μ Qd):
  ∃ t c t1 t2,u= .str ⟨List.toArray t⟩ t1/\t.length<=sizeLine/\us=[.str ⟨#[c]⟩ t2]/\ahH m t c μ Qd:=by
 cases d with
 |str t=>
  obtain⟨⟨t1,rfl⟩,hl⟩:=rd;simp only[afS]at hw;split at hw
  .rename_i c
   obtain⟨y1,rfl,⟨t2,rfl⟩,_⟩:=re.jB;exact⟨t,c,t1,t2,rfl,hl,rfl,hw⟩
  .split at hw
   .exact absurd hw.1 hm
   .exact hw.elim
  .exact hw.elim
 |_=>exact hw.elim
theorem BZ {h:Heap} {θ:Th} {μ:Mem}:∀ (ws:List Str) (t:Nat),(∀ w∈ws,w.length<=sizeLine)->dF h θ μ ((ws.map TV).map .str) (strsFrom t ws)
 |[],_,_=>.nil|w::ws,t,q=>.cons ⟨⟨t,rfl⟩,by simpa[TV,fP]using q w (by simp)⟩ (BZ ws (t+1) fun w hw=>q w (by simp[hw]))
theorem K3 (c:Nat):∀ (x:List Nat),∀ w∈fZ c x,w.length<=x.length
  |[],w,h=>by simp[fZ]at h;simp[h]| a::x,w,h=>by
    have ih:=K3 c x;unfold fZ at h;split at h
    . rcases aO.mp h with rfl|h
      . simp
      . have:=ih w h;simp;omega
    . cases q:fZ c x with
      | nil => rw[q]at h;have:w=[a]:=by simpa using h
               subst this;simp
      | cons p ps=>
        rw[q]at h ih;rcases aO.mp h with rfl|h
        . have:=ih p (by simp);simp;omega
        . have:=ih w (by simp[h]);simp;omega
theorem aeu:Mt X "str.split" (Ka "split"):=fun {s ρ θ μ d e u us Qd Q E} i rd re hw f=>by
 obtain⟨t,c,t1,t2,rfl,hl,rfl,⟨hc,hlt⟩,m,hq⟩:=aaL (by decide) rd re (show afS "split" d e μ Qd from hw);have hlim:lim=sizeLine:=by rw[gF];rfl
 have self:c∉t->Q (.ref s.heap.objs.size) {s with heap:=s.heap.push {cls:=.type "list",data:=.seq [yq ⟨t.toArray⟩ t1].toArray}}:=fun hn=>by rw[K1 hn]at hq;exact f.newL i cU (aL _) (oG _ (by rw[gF];exact Nat.le_of_ble_eq_true rfl)).1 (.one (show Rp _ _ _ (.str t) _ from⟨⟨_,rfl⟩,hl⟩)) hq
 by_cases h1:(decide ((⟨t.toArray⟩:Str).length<(⟨#[c]⟩:Str).length)||decide (strKind ⟨t.toArray⟩<strKind ⟨#[c]⟩))=true
 .refine jm NZ (Cj s _ t1) VD (VL _ _) (meets_str_split_cannot_occur ⟨t.toArray⟩ ⟨#[c]⟩ t1 t2 h1) ?_
  refine self ?_;have hk:strKind ⟨#[c]⟩=1:=by unfold acV;rw[if_pos (by simp;exact hc)]
  have hk2:1<=strKind ⟨t.toArray⟩:=by unfold acV;split<;>(try split)<;>decide
  have:t.length<1:=by
   rw[hk]at h1;simp only[uQ,decide_eq_true_eq]at h1;rcases h1 with h1|h1
   .simpa[fP]using h1
   .omega
  have:t=[]:=mR.mp (by omega);rw[this];simp
 .have h1':(decide ((⟨t.toArray⟩:Str).length<(⟨#[c]⟩:Str).length)||decide (strKind ⟨t.toArray⟩<strKind ⟨#[c]⟩))=false:=by simpa using h1
  by_cases hf:(Hp ⟨t.toArray⟩ ⟨#[c]⟩ 0 (⟨t.toArray⟩:Str).length ((⟨t.toArray⟩:Str).length+1)).isEmpty=true
  .refine jm NZ (Cj s _ t1) VD (VL _ _) (meets_str_split_not_found ⟨t.toArray⟩ ⟨#[c]⟩ t1 t2 h1' rfl hf) ?_
   refine self ?_;intro hm;obtain⟨i,hi,e⟩:=CG hm;rw[Yi,List.isEmpty_iff]at hf;have:i∈QV (⟨t.toArray⟩:Str).cps.toList c (gG 0 ((⟨t.toArray⟩:Str).length+1)):=by unfold QV;rw[yF];refine⟨by simp[ab6,fP];omega,?_⟩;simp[e,hi]
   rw[hf]at this;cases this
  .have hf':(Hp ⟨t.toArray⟩ ⟨#[c]⟩ 0 (⟨t.toArray⟩:Str).length ((⟨t.toArray⟩:Str).length+1)).isEmpty=false:=by simpa using hf
   have hsp:=Rm ⟨t.toArray⟩ c;generalize hP:partsBetween ⟨t.toArray⟩ (Hp ⟨t.toArray⟩ ⟨#[c]⟩ 0 (⟨t.toArray⟩:Str).length ((⟨t.toArray⟩:Str).length+1)) (⟨#[c]⟩:Str).length=P at hsp;(have ht:TV (⟨t.toArray⟩:Str)=t:=by simp[TV]);rw[ht]at hsp;have hPl:P.length<=sizeLine:=by have h2:=congrArg fK hsp;have h3:=GD c t;rw[aU]at h2;omega
   have hPw:∀ w∈P,w.length<=sizeLine:=fun w hw=>by (have:TV w∈fZ c t:=by rw[<-hsp];exact jG.mpr ⟨w,hw,rfl⟩);have:=K3 c t _ this;(have e2:(TV w).length=w.length:=by simp[TV,fP]);omega
   refine jm NZ (Cj s _ t1) VD (VL _ _) (meets_str_split_sep ⟨t.toArray⟩ ⟨#[c]⟩ t1 t2 h1' rfl hf' (by simpa[fP]using hl) (by rw[hP];exact hPl)) ?_;rw[hP];rw[<-hsp]at hq;exact f.newL i cU (aL _) (oG _ (by rw[(BZ (h:=s.heap) (θ:=θ) (μ:=μ) P s.toks hPw).length];simpa using hPl)).1 (BZ P s.toks hPw) hq
end
end DW
namespace DW
open PySem PySem.Spec PyProof.Rows
open L2 (aQ Key frs rG Loc Look Mod rH cV Cls gC)
def am7 (X:Cx) (ρ:dJ) (θ:Th) (μ:Mem) (B h:Heap):Prop:=∃ m,h.Ns X.env.locals m/\∀ (i:Nat) (x:Str) (d:D),X.N[i]?=some x->ρ[i]?=some (some d)->rG X.env.scope x->∃ u,Rp B θ μ d u/\Look X.env h m x u
def Xx (X:Cx) (ρ:dJ) (s:aj) (θ:Th) (μ:Mem) (s':aj) (c:String) (ks:List String) (ds:List D) (e:Value):Prop:=∃ B,afH X.T X.stack B s θ μ s' c ks ds e/\am7 X ρ θ μ B s'.heap
structure afI (X:Cx) (θ:Th) (μ:Mem) (s:aj) (Z:dO) (Q:Flow->aj->Prop) (E:Value->aj->Prop):Prop where
 nx:∀ {ρ' s' θ' μ'},Iv X ρ' θ' μ' s'->GS X θ μ s θ' μ' s'->Z.nx ρ' μ'->Q .next s'
 bk:∀ {ρ' s' θ' μ'},Iv X ρ' θ' μ' s'->GS X θ μ s θ' μ' s'->Z.bk ρ' μ'->Q .brk s'
 ct:∀ {ρ' s' θ' μ'},Iv X ρ' θ' μ' s'->GS X θ μ s θ' μ' s'->Z.ct ρ' μ'->Q .cont s'
 rt:∀ {ρ' d u s' θ' μ'},Iv X ρ' θ' μ' s'->GS X θ μ s θ' μ' s'->Rp s'.heap θ' μ' d u->Z.rt d μ'->Q (.ret u) s'
 xc:∀ {ρ' c ks ds e s' θ' μ'},Iv X ρ' θ' μ' s'->GS X θ μ s θ' μ' s'->Xx X ρ' s θ' μ' s' c ks ds e->Z.xc ρ' c ks ds μ'->E e s'
noncomputable abbrev WS:=dO->dJ->Mem->Prop
def PS (X:Cx) (st:Stmt) (w:WS):Prop:=∀ {s ρ θ μ Z Q E},PassesOwn X.M X.A X.env E->Iv X ρ θ μ s->w Z ρ μ->afI X θ μ s Z Q E->ak X.M X.A (exec st X.env) Q E s
def PSs (X:Cx) (st:List Stmt) (w:WS):Prop:=∀ {s ρ θ μ Z Q E},PassesOwn X.M X.A X.env E->Iv X ρ θ μ s->w Z ρ μ->afI X θ μ s Z Q E->ak X.M X.A (execs st X.env) Q E s
section
variable {X:Cx} {ρ:dJ} {θ θ1 θ':Th} {μ μ1 μ':Mem} {s s1 s':aj} {h':Heap} {tk:Nat} {j n:Nat} {ds:List D} {Qd:QD} {Q:Value->aj->Prop} {E:Value->aj->Prop} {Qs:Flow->aj->Prop} {Z:dO} {x:Str} {p p2 pos tpos:Pos} {a b c e o i:Expr} {wa wb we wo wi:WE} {wt:WT} {ws w1 w2:WS} {d:D} {u v:Value} {T:Top} {A:aX} {stack:List Env} {ad:Addr} {st:Stmt} {body rest orelse:List Stmt}
theorem Xx.at {c:String} {ks:List String} {es:List D} {e:Value} (x:Xx X ρ s θ' μ' s' c ks es e):xM X.T X.stack s θ' μ' s' c ks es e:=let⟨B,y,_⟩:=x;⟨B,y⟩
theorem Xx.mono {c:String} {ks:List String} {es:List D} {e:Value} (th:∀ b o,s.heap.get? b=some o->∃ o',s1.heap.get? b=some o') (x:Xx X ρ s1 θ' μ' s' c ks es e):Xx X ρ s θ' μ' s' c ks es e:=let⟨B,y,z⟩:=x;⟨B,y.mono th,z⟩
theorem xM.loc {c:String} {ks:List String} {es:List D} {e:Value} (i:Iv X ρ θ μ s) (g:G0 X θ μ s θ' μ' s') (fl:xM X.T X.stack s θ' μ' s' c ks es e):Xx X ρ s θ' μ' s' c ks es e:=by
 obtain⟨B,fl⟩:=fl;refine⟨B,fl,?_⟩;obtain⟨ea,C,ob,vs,_,_,_,fz,_,sB,_⟩:=fl;have kp:Kp θ μ s.heap θ' μ' B:=⟨g.pre,fun b o e f l=>by obtain⟨q,l'⟩:=(i.kp g).fix b o e f l;obtain⟨o',z⟩:=sB b o e (i.e.nfr e f);have:=fz.stay b o' z;rw[q]at this;cases this;exact⟨z,l'⟩⟩
 obtain⟨m,hn,hl⟩:=i.loc;refine⟨m,RB hn fun o q=>let⟨_,sl,z,_⟩:=g.keep _ o q i.nl id;⟨sl,z⟩,fun j x d e1 e2 e3=>?_⟩;obtain⟨u,r,l⟩:=hl j x d e1 e2 e3;exact⟨u,kp.rp r,l.imp id fun⟨k,c,e,z⟩=>⟨k,c,e,JV z fun o q=>let⟨_,sl,z,_⟩:=g.keep _ o q (i.cell x c e).2 id;⟨sl,z⟩⟩⟩
theorem afI.mono (f:afI X θ μ s Z Qs E) (g:GS X θ μ s θ1 μ1 s1):afI X θ1 μ1 s1 Z Qs E:=
 ⟨fun i g'=>f.nx i (g.trans g'),fun i g'=>f.bk i (g.trans g'),fun i g'=>f.ct i (g.trans g'),fun i g'=>f.rt i (g.trans g'),fun i g' fl=>f.xc i (g.trans g') (fl.mono g.there)⟩
theorem E0.own (e:E0 T A stack θ μ s) (sb:∀ b o,b≠ad->s.heap.get? b=some o->h'.get? b=some o) (hb:T.base.get? ad=none) (la:¬qy θ μ ad)
  (ha:∀ o,s.heap.get? ad=some o->¬Fix o/\∃ o',h'.get? ad=some o'/\∀ es ep,o.data= .dict es ep->∃ es' ep',o'.data= .dict es' ep'):E0 T A stack θ μ {s with heap:=h',toks:=tk} where
 mod:=e.mod
 frames:=e.frames
 bare:=e.bare
 bs:=fun b o q=>let⟨e1,l⟩:=e.bs b o q;⟨sb b o (fun z=>by rw[z,hb]at q;cases q) e1,l⟩
 stk:=fun v m=>by
  obtain⟨k,L,o,es,ep,f,nb,ho,hd,l⟩:=e.stk v m;by_cases z:L=ad
  .subst z
   obtain⟨_,o',ho',q⟩:=ha o ho;obtain⟨es',ep',hd'⟩:=q es ep hd;exact⟨k,L,o',es',ep',f,nb,ho',hd',l⟩
  .exact⟨k,L,o,es,ep,f,nb,sb L o z ho,hd,l⟩
 dD:=e.dD.mono ⟨fun _ _ e=>e,fun b o q f l=>⟨sb b o (fun z=>by subst z;exact(ha o q).1 f) q,l⟩⟩ (fun b o l q=>sb b o (fun z=>la (z▸l)) q) fun b z=>by
  obtain⟨o,q⟩:=e.dD.bnd b (.inl z);by_cases y:b=ad
  .subst y;exact let⟨_,o',q',_⟩:=ha o q;⟨o',q'⟩
  .exact⟨o,sb b o y q⟩
 hh:=e.hh
theorem ahU (k:X.own ad) (sb:∀ b o,b≠ad->s.heap.get? b=some o->h'.get? b=some o) (th:∃ o',h'.get? ad=some o'):GS X θ μ s θ μ {s with heap:=h',toks:=tk}:=
 ⟨fun _ _ e=>e,fun b o e l v=>⟨l,o.slots,sb b o (fun z=>v (z▸k)) e,fun _=>rfl⟩,fun b o e=>by
  by_cases z:b=ad
  .subst z;exact th
  .exact⟨o,sb b o z e⟩,fun _ _ e _=>e,rfl,.rfl⟩
theorem aeK (sb:∀ b o,b≠ad->s.heap.get? b=some o->h'.get? b=some o) (nf:∀ o,s.heap.get? ad=some o->¬Fix o):Kp θ μ s.heap θ μ h':=⟨fun _ _ e=>e,fun b o e f l=>⟨sb b o (fun z=>nf o (z▸e) f) e,l⟩⟩
theorem pq {o:Obj} {es ep} (h:o.data= .dict es ep):¬Fix o:=fun f=>by rcases f with⟨_,_,f⟩|⟨_,_,f⟩<;>rw[h]at f<;>cases f
theorem yW {o:Obj} {v} (h:o.data= .cell v):¬Fix o:=fun f=>by rcases f with⟨_,_,f⟩|⟨_,_,f⟩<;>rw[h]at f<;>cases f
theorem QC {h:Heap} {a c:Addr} {m:Str->Option Value} {v:Option Value} (hn:h.Ns a m) (hc:h.IsCell c v):c≠a:=fun z=>by subst z;obtain⟨o,_,_,e,d,_⟩:=hn;obtain⟨o',e',d'⟩:=hc;rw[e]at e';cases e';rw[d]at d';cases d'
theorem Iv.kpS (i:Iv X ρ θ μ s) (g:GS X θ μ s θ1 μ1 s1):Kp θ μ s.heap θ1 μ1 s1.heap:=g.kp fun b o q f=>⟨fun z=>by
 rcases z with rfl|⟨x,_,hc⟩
 .obtain⟨m,⟨o',_,_,e,d,_⟩,_⟩:=i.loc
  rw[q]at e;cases e;exact pq d f
 .obtain⟨⟨v,o',e,d⟩,_⟩:=i.cell x b hc
  rw[q]at e;cases e;exact yW d f,i.e.nfr q f⟩
theorem uo {R:Unit->aj->Prop} (I:Iv X ρ θ μ s) (hN:X.N.Nodup) (hi:X.N[j]?=some x) (hx:Sto X x) (r:Rp s.heap θ μ d u) (f:∀ {s'},Iv X (ρ.set j (some d)) θ μ s'->GS X θ μ s θ μ s'->R () s'):ak X.M X.A (storeName X.env x u) R E s:=by
 obtain⟨m,hn,hl⟩:=id I.loc;have hj:j<ρ.length:=by rw[I.len];exact(cF.mp hi).1
 obtain⟨oL,esL,epL,eL,dL,_⟩:=id hn;rcases hx with hk|⟨hk,hoc⟩
 .refine wpAny_storeName_local hk hn (fun h' hn' hs=>?_) (by rw[I.ok.kind];rfl)
  obtain⟨o',es',ep',e',d',_⟩:=id hn';have sb:∀ b o,b≠X.env.locals->s.heap.get? b=some o->h'.get? b=some o:=fun b o z q=>(hs.2 b z).trans q;have kp:Kp θ μ s.heap θ μ h':=aeK sb fun o q=>by rw[eL]at q;cases q;exact pq dL
  refine f ⟨I.ok,I.e.own sb I.ok.nbL I.nl fun o q=>by rw[eL]at q;cases q;exact⟨pq dL,o',e',fun _ _ _=>⟨es',ep',d'⟩⟩,⟨_,hn',fun k y d' e1 e2 e3=>?_⟩,fun y c q=>?_,I.nl,by simpa using I.len⟩ (ahU (.inl rfl) sb ⟨o',e'⟩)
  .by_cases z:k=j
   .subst z
    rw[hi]at e1;cases e1;rw[cT hj]at e2;cases e2;exact⟨u,kp.rp r,.inl ⟨hk,by simp⟩⟩
   .rw[bR (bN z)]at e2
    obtain⟨u',r',q⟩:=hl k y d' e1 e2 e3;refine⟨u',kp.rp r',?_⟩;rcases q with⟨k1,e⟩|⟨k1,c,e,w⟩
    .have:y≠x:=fun q=>z (L2.RD hN e1 (q▸hi))
     exact .inl ⟨k1,by simp[this,e]⟩
    .exact .inr ⟨k1,c,e,w.sameBut hs (QC hn w)⟩
  .obtain⟨⟨v,w⟩,l⟩:=I.cell y c q
   exact⟨⟨v,w.sameBut hs (QC hn w)⟩,l⟩
 .obtain⟨c,hc⟩:=I.ok.has x (.inl hk)
  obtain⟨⟨v0,wc⟩,lc⟩:=I.cell x c hc;refine wpAny_storeName_cell I.ok.kind hk hc wc fun h' wc' hs=>?_;obtain⟨oc,ec,dc⟩:=id wc;obtain⟨o',e',d'⟩:=id wc';have sb:∀ b o,b≠c->s.heap.get? b=some o->h'.get? b=some o:=fun b o z q=>(hs.2 b z).trans q;have kp:Kp θ μ s.heap θ μ h':=aeK sb fun o q=>by rw[ec]at q;cases q;exact yW dc
  refine f (s':={s with heap:=h' }) ⟨I.ok,I.e.own (tk:=s.toks) sb (I.ok.nbC x c hc) lc fun o q=>by rw[ec]at q;cases q;exact⟨yW dc,o',e',fun _ _ z=>by rw[dc]at z;cases z⟩,⟨_,hn.at fun o q=>sb _ o (bN (QC hn wc)) q,fun k y d' e1 e2 e3=>?_⟩,fun y c' q=>?_,I.nl,by simpa using I.len⟩ (ahU (tk:=s.toks) (.inr ⟨x,hoc,hc⟩) sb ⟨o',e'⟩)
  .by_cases z:k=j
   .subst z
    rw[hi]at e1;cases e1;rw[cT hj]at e2;cases e2;exact⟨u,kp.rp r,.inr ⟨.inl hk,c,hc,wc'⟩⟩
   .rw[bR (bN z)]at e2
    obtain⟨u',r',q⟩:=hl k y d' e1 e2 e3;refine⟨u',kp.rp r',?_⟩;rcases q with⟨k1,e⟩|⟨k1,c',e,w⟩
    .exact .inl ⟨k1,e⟩
    .refine .inr ⟨k1,c',e,w.sameBut hs fun q=>?_⟩
     subst q;exact z (L2.RD hN e1 (I.ok.inj x y c' hc e▸hi))
  .obtain⟨⟨v,w⟩,l⟩:=I.cell y c' q
   refine⟨?_,l⟩;by_cases z:c'=c
   .subst z;exact⟨_,wc'⟩
   .exact⟨v,w.sameBut hs z⟩
theorem Iv.quiet (i:Iv X ρ θ μ s):interactive X.env=false:=by simp[interactive,i.ok.kind]
theorem agr:PSs X [] (fun Z ρ μ=>Z.nx ρ μ):=fun _ i h f=>Vn (f.nx i .refl h)
theorem ad3 (h1:PS X st w1) (h2:PSs X rest w2):PSs X (st::rest) (fun Z ρ μ=>w1 {Z with nx:=fun ρ' μ'=>w2 Z ρ' μ' } ρ μ):=fun hp i h f=>wpAny_execs_cons (h1 hp i h ⟨fun i1 g1 q=>h2 hp i1 q (f.mono g1),f.bk,f.ct,f.rt,f.xc⟩)
theorem ai1 (he:PE X e we) (hs:yp e none pos.line X.env=pure false):PS X (.Expr e pos) (fun Z ρ μ=>we ρ μ fun _ μ1=>Z.nx ρ μ1):=fun hp i h f=>wpAny_Expr_any (he i h fun i1 g1 _ q=>f.nx i1 g1.gs q) i.quiet hs
theorem aiZ (he:PE X e we):PS X (.Return (some e) pos) (fun Z ρ μ=>we ρ μ Z.rt):=fun hp i h f=>acz (he i h fun i1 g1 r q=>f.rt i1 g1.gs r q)
theorem akW (hc:PT X c wt) (ha:PSs X body w1) (hb:PSs X orelse w2):PS X (.If c body orelse pos) (fun Z ρ μ=>wt ρ μ fun t μ1=>if t=true then w1 Z ρ μ1 else w2 Z ρ μ1):=fun hp i h f=>
 wpAny_If (hc i h fun {d u s1 θ1 μ1} i1 g1 r1 h1=>by
  cases r1;cases d with
  |true=>exact ha hp i1 h1 (f.mono g1.gs)|false=>exact hb hp i1 h1 (f.mono g1.gs))
theorem aiY (hc:PT X c wt) (hb:PSs X body w1):PS X (.While c body [] pos) (fun Z ρ μ=>∃ W:Nat->dJ->Mem->Prop,(∃ m,W m ρ μ)/\∀ m ρ μ,W m ρ μ->wt ρ μ fun t μ1=>if t=true then w1 {Z with nx:=fun ρ' μ'=>∃ m',m' <m/\W m' ρ' μ',ct:=fun ρ' μ'=>∃ m',m' <m/\W m' ρ' μ',bk:=Z.nx} ρ μ1 else Z.nx ρ μ1):=fun {s ρ θ μ Z Q E} hp i h f=>by
 obtain⟨W,⟨m0,w0⟩,turn⟩:=h;refine wpAny_While (codeAny_whileLoop (fun n s'=>∃ ρ' θ' μ',Iv X ρ' θ' μ' s'/\GS X θ μ s θ' μ' s'/\W n ρ' μ') ?_ m0 ⟨ρ,θ,μ,i,.refl,w0⟩);rintro n s1 ⟨ρ1,θ1,μ1,i1,g1,q1⟩;refine yE hp (hc i1 (turn n ρ1 μ1 q1) fun {t t' s2 θ2 μ2} i2 g2 r2 h2=>?_);cases r2;have g12:=g1.trans g2.gs;cases t with
 |true=>rw[if_pos rfl];refine yE hp (hb hp i2 h2 ?_);have f2:=f.mono g12;exact⟨fun i3 g3 ⟨m',hm,q⟩=>⟨m',hm,_,_,_,i3,g12.trans g3,q⟩,fun i3 g3 q=>f2.nx i3 g3 q,fun i3 g3 ⟨m',hm,q⟩=>⟨m',hm,_,_,_,i3,g12.trans g3,q⟩,f2.rt,f2.xc⟩|false=>rw[if_neg dM];exact Vn (f.nx i2 g12 h2)
def PG (X:Cx) (tg:Expr) (bnd:D->dJ->(dJ->Prop)->Prop):Prop:=∀ {s:aj} {ρ:dJ} {θ:Th} {μ:Mem} {d:D} {u:Value} {k:dJ->Prop} {R:Unit->aj->Prop} {E:Value->aj->Prop},Iv X ρ θ μ s->Rp s.heap θ μ d u->bnd d ρ k->
 (∀ {ρ' s'},Iv X ρ' θ μ s'->GS X θ μ s θ μ s'->k ρ'->R () s')->ak X.M X.A (rK tg X.env u) R E s
theorem agB (hN:X.N.Nodup) (hi:X.N[j]?=some x) (hx:Sto X x):PG X (.Name x pos) (fun d ρ k=>dg [j] false d ρ k):=fun i r h f=>VB (uo i hN hi hx r fun i1 g1=>f i1 g1 h)
def PGs (X:Cx) (ts:List Expr) (is:List Nat):Prop:=∀ {s:aj} {ρ:dJ} {θ:Th} {μ:Mem} {ds:List D} {us:List Value} {k:dJ->Prop} {R:Unit->aj->Prop} {E:Value->aj->Prop},Iv X ρ θ μ s->dF s.heap θ μ ds us->ds.length=is.length->
 k ((is.zip ds).foldl (fun r p=>r.set p.1 (some p.2)) ρ)->(∀ {ρ' s'},Iv X ρ' θ μ s'->GS X θ μ s θ μ s'->k ρ'->R () s')->ak X.M X.A (assignInOrder ((rO ts X.env).map (·.2)) us) R E s
theorem agA:PGs X [] []:=fun {s ρ θ μ ds us k R E} i r l h f=>by cases(show ds=[] by simpa using l);cases r.nil_inv;exact assignInOrder_nil (f i .refl (by simpa using h))
theorem ad9 {ts:List Expr} {is:List Nat} (hN:X.N.Nodup) (hi:X.N[j]?=some x) (hx:Sto X x) (hr:PGs X ts is):PGs X (.Name x pos::ts) (j::is):=fun {s ρ θ μ ds us k R E} i r l h f=>by
 cases ds with
 |nil=>simp at l|cons d ds=>
  obtain⟨u,us,rfl,r1,r2⟩:=r;show ak _ _ (assignInOrder (rK (.Name x pos) X.env::(rO ts X.env).map (·.2)) (u::us)) _ _ _
  refine assignInOrder_cons (VB (uo i hN hi hx r1 fun {s1} i1 g1=>hr (k:=k) i1 (?_:dF s1.heap θ μ ds us) (by simpa using l) (by simpa using h) fun i2 g2 q=>f i2 (g1.trans g2) q));exact(i.kpS g1).Fi r2
theorem ai9 {ts:List Expr} {is:List Nat} {k} (hc:X.calm=true) (h:PGs X ts is) (hn:(rO ts X.env).length=is.length) (hst:(rO ts X.env).findIdx? (·.1)=none):PG X (.Tuple ts k pos) (fun d ρ k=>dg is true d ρ k):=fun {s ρ θ μ d u kk R E} i r hw f=>by
 unfold dg at hw;split at hw
 .rename_i q;cases q
 .split at hw
  .obtain⟨a,us,rfl,x,l,rs⟩:=r
   refine assign_Tuple_tuple (i.ok.hd hc) (cM x) (by rw[hn,<-hw.1];simpa using rs.length.symm) hst fun h' hx=>?_;have ke:∀ b o,s.heap.get? b=some o->h'.get? b=some o:=fun b o e=>hx b o (jL (dw e)) e;have i1:Iv X ρ θ μ {s with heap:=h' }:=i.kept (tk:=s.toks) ke;exact h i1 ((iV ke).Fi rs) hw.1 hw.2 fun i2 g2 q=>f i2 ((cB (tk:=s.toks) ke).trans g2) q
  .exact hw.elim
end
end DW
namespace DW
open PySem PySem.Spec PyProof.Rows
open L2 (aQ Key frs rG Loc Look Mod rH cV Cls gC)
section
variable {X:Cx} {ρ:dJ} {θ θ1 θ':Th} {μ μ1 μ':Mem} {s s1 s':aj} {j n:Nat} {Q:Value->aj->Prop} {E:Value->aj->Prop} {Z:dO} {x:Str} {p p2 pos pos' tpos:Pos} {a b e o i value tg:Expr} {wa wb we wo wi:WE} {d dp dq:D} {u v:Value} {C:Addr} {c m:String} {op:jl} {K:D->Prop} {bnd:D->dJ->(dJ->Prop)->Prop}
theorem ad5 (hN:X.N.Nodup) (hi:X.N[j]?=some x) (hx:Sto X x) (he:PE X e we) (hs:yp e (some (.Name x pos')) pos.line X.env=pure false):PS X (.Assign [.Name x pos'] e pos) (fun Z ρ μ=>we ρ μ fun d μ1=>Z.nx (ρ.set j (some d)) μ1):=fun _ i h f=>wpAny_Assign_Name (he i h fun i1 g1 r1 h1=>uo i1 hN hi hx r1 fun i2 g2=>f.nx i2 (g1.gs.trans g2) h1) hs
theorem ai3 (he:PE X e we) (hg:PG X tg bnd) (hs:swapsWithSole [tg] e pos.line X.env=pure false) (hw:Vd [tg] e X.env=pure none) (h1:(rO [tg] X.env).map (·.2)=[rK tg X.env]):
  PS X (.Assign [tg] e pos) (fun Z ρ μ=>we ρ μ fun d μ1=>bnd d ρ fun ρ'=>Z.nx ρ' μ1):=fun _ i h f=>by
 refine wpAny_Assign_stores (he i h fun i1 g1 r1 q1=>?_) hs hw;rw[h1];exact hg i1 r1 q1 fun i2 g2 q2=>f.nx i2 (g1.gs.trans g2) q2
theorem ad4 {afO:D->D->D->Mem->(Mem->Prop)->Prop} (ajV:∀ {s ρ θ μ x y z u v w K R E},Iv X ρ θ μ s->Rp s.heap θ μ x u->Rp s.heap θ μ y v->Rp s.heap θ μ z w->afO x y z μ K->(∀ {s' μ'},Iv X ρ θ μ' s'->G0 X θ μ s θ μ' s'->K μ'->R () s')->ak X.M X.A (G5 u v w) R E s)
  (ho:PE X o wo) (hi:PE X i wi) (hv:PE X value we) (hs:yp value (some (.Subscript o i pos')) pos.line X.env=pure false):
  PS X (.Assign [.Subscript o i pos'] value pos) (fun Z ρ μ=>we ρ μ fun v μ1=>wo ρ μ1 fun x μ2=>wi ρ μ2 fun y μ3=>afO x y v μ3 fun μ4=>Z.nx ρ μ4):=fun _ i h f=>
 wpAny_Assign_Subscript (hv i h fun i1 g1 r1 h1=>ho i1 h1 fun i2 g2 r2 h2=>hi i2 h2 fun i3 g3 r3 h3=>ajV i3 ((i2.kp g3).rp r2) r3 ((i1.kp (g2.trans g3)).rp r1) h3 fun i4 g4 h4=>f.nx i4 (((g1.trans g2).trans g3).trans g4).gs h4) hs
theorem Xn (rp:Rp s.heap θ μ dp u) (rq:Rp s.heap θ μ dq v) (h:uf op dp dq K) (f:∀ i,K (.int i)->Q (.int i s.toks) {s with toks:=s.toks+1}):ak X.M X.A (inplaceOp op u v) Q E s:=by
 unfold uf at h;split at h
 .obtain⟨t,rfl⟩:=rp
  obtain⟨t',rfl⟩:=rq;cases op with
  |Add=>exact iadd_int (f _ h)|Sub=>exact isub_int (f _ h)|_=>exact h.elim
 .exact h.elim
theorem ad6 (ho:PE X o wo) (hi:PE X i wi) (he:PE X e we) (hx:Bv i)
  (ha:∀ ov iv new,augStore i ov iv new=(do yg [new,ov,iv] (G5 ov iv new);release [new,ov,iv] [];pure .next)):PS X (.AugAssign (.Subscript o i tpos) op e pos)
   (fun Z ρ μ=>wo ρ μ fun x μ1=>wi ρ μ1 fun y μ2=>KY x y μ2 fun p μ3=>we ρ μ3 fun q μ4=>uf op p q fun v=>jU x y v μ4 fun μ5=>Z.nx ρ μ5):=fun _ i h f=>by
 refine wpAny_AugAssign_SubscriptAny (ho i h fun i1 g1 r1 h1=>hi i1 h1 fun {d2 u2 s2 θ2 μ2} i2 g2 r2 h2=>?_) ha;have r1':=(i1.kp g2).rp r1;unfold KY at h2;split at h2
 .rename_i n jj
  split at h2
  .rename_i xs hn
   obtain⟨h0,h2⟩:=h2;split at h2
   .rename_i d ed
    obtain⟨t,rfl⟩:=id r2;obtain⟨p,us,rfl,hp,_,q,r⟩:=Iv.lst i2.dD hn r1';obtain⟨w,hw,rw'⟩:=r.get ed;have hl:=(cF.mp hw).1;have l63:=Py;have lz:=q.fix.1;exact wpAny_getItem_list (eU q (by decide)).isList h0 (by omega) (by simpa using hw) (he i2 h2 fun i3 g3 r3 h3=>Xn ((i2.kp g3).rp rw') r3 h3 fun k hk=>Rq (Iv.tok i3) ((i2.kp g3).rp r1') ((i2.kp g3).rp r2) iw hk fun i4 g4 h4=>f.nx i4 (((g1.trans g2).trans g3).trans ((cB fun _ _ e=>e).trans g4)).gs h4)
   .exact h2.elim
  .exact h2.elim
 .exact h2.elim
theorem aav (h:eV i=true):∀ ov iv new,augStore i ov iv new=(do yg [new,ov,iv] (G5 ov iv new);release [new,ov,iv] [];pure .next):=by intro ov iv new;cases i<;>first|rfl|exact(dM h).elim
theorem ags (hn:cZ X.T.K bT (aC c)=some (some (.ref C))) (cl:Cls X.T.K C) (na:gC X.T.K C (aC m)) (ho:PE X o wo) (he:PE X e we) (hs:yp e (some (.Attribute o (aC m) pos')) pos.line X.env=pure false):
  PS X (.Assign [.Attribute o (aC m) pos'] e pos) (fun Z ρ μ=>we ρ μ fun v μ1=>wo ρ μ1 fun x μ2=>mK c m x v μ2 fun μ3=>Z.nx ρ μ3):=fun _ i h f=>
 plainObj_wpAny_Assign_Attribute (he i h fun i1 g1 r1 h1=>ho i1 h1 fun i2 g2 r2 h2=>X7 hn cl na i2 r2 ((i1.kp g2).rp r1) h2 fun i3 g3 h3=>f.nx i3 ((g1.trans g2).trans g3).gs h3) hs
theorem agu (hn:cZ X.T.K bT (aC c)=some (some (.ref C))) (cl:Cls X.T.K C) (na:gC X.T.K C (aC m)) (ho:PE X o wo) (he:PE X e we):
  PS X (.AugAssign (.Attribute o (aC m) tpos) op e pos) (fun Z ρ μ=>wo ρ μ fun x μ1=>jg c m x μ1 fun p μ1'=>we ρ μ1' fun q μ2=>uf op p q fun v=>mK c m x v μ2 fun μ3=>Z.nx ρ μ3):=fun _ i h f=>
 wpAny_AugAssign_AttributeAny (ho i h fun {d u s1 θ1 μ1} i1 g1 r1 h1=>by
  unfold jg at h1;split at h1
  .rename_i n fs e'
   split at h1
   .rename_i d' ed
    obtain⟨p,C',mA,rfl,rfl,hp,_,h0,O,_,k1,_⟩:=Qj i1.dD r1 e';rw[hn]at h0;cases h0;obtain⟨u,hu,ru⟩:=k1 _ _ ed;refine L2.get_map i1.vU O (cl.get _) cl.hd na hu (K9 ru) (he (Iv.tok i1) h1 fun {d2 u2 s2 θ2 μ2} i2 g2 r2 h2=>?_);have kp:Kp θ1 μ1 s1.heap θ2 μ2 s2.heap:=i1.kp ((cB fun _ _ e=>e).trans g2);exact Xn (kp.rp ru) r2 h2 fun k hk=>X7 hn cl na (Iv.tok i2) (kp.rp r1) iw hk fun i3 g3 h3=>f.nx i3 (g1.trans ((G.trans (cB fun _ _ e=>e) g2).trans ((cB fun _ _ e=>e).trans g3))).gs h3
   .exact h1.elim
  .exact h1.elim)
end
end DW
namespace DW
open PySem PySem.Spec PyProof.Rows
open L2 (aQ Key frs rG Loc Look Mod rH cV Cls gC)
structure Wk (T:Top) (A:aX) (tg:Expr) (it:Addr) (fp fx:List Addr) (xs:List D) (g:Mem->Prop) (S:Nat->Th->Mem->Heap->Prop):Prop where
 obj:∀ {i θ μ h},S i θ μ h->∀ b∈fp,∃ o,h.get? b=some o/\(b∈fx∨¬Fix o)
 exx:∀ {i θ μ h},S i θ μ h->∀ b∈fx,b∈θ.ex
 mono:∀ {i θ μ h θ' μ' h'},S i θ μ h->Kp θ μ h θ' μ' h'->(∀ b∈θ.ex,b∈θ'.ex)->(∀ b∈fp,∀ o,h.get? b=some o->h'.get? b=some o)->S i θ' μ' h'
 item:∀ {i:Nat} {d s θ μ} {Q2:Value->aj->Prop} {E:Value->aj->Prop},S i θ μ s.heap->qx T θ μ s.heap->(∀ b∈fp,¬qy θ μ b)->g μ->xs[i]?=some d->
  (∀ {u h' tk},(∀ b o,b∉fp->s.heap.get? b=some o->h'.get? b=some o)->S (i+1) θ μ h'->Rp h' θ μ d u->Q2 u {s with heap:=h',toks:=tk})->
  ak (aH T.P T.w) A (gQ (.ref it)) (fun r s1=>∃ u,r=some u/\ak (aH T.P T.w) A (HD tg (.ref it) u) (fun _ s2=>Q2 u s2) E s1) E s
 done:∀ {s θ μ} {Q:Option Value->aj->Prop} {E:Value->aj->Prop},S xs.length θ μ s.heap->qx T θ μ s.heap->rH A s.heap->(∀ b∈fp,¬qy θ μ b)->g μ->
  (∀ {h' tk},(∀ b o,b∉fp->s.heap.get? b=some o->h'.get? b=some o)->(∀ b∈fx,∃ o,h'.get? b=some o)->Q none {s with heap:=h',toks:=tk})->ak (aH T.P T.w) A (gQ (.ref it)) Q E s
 self:∀ {i s θ μ} {Q:Value->aj->Prop} {E:Value->aj->Prop},S i θ μ s.heap->Q (.ref it) s->ak (aH T.P T.w) A (Ce (.ref it)) Q E s
def DY (X:Cx) (b:Addr):Prop:=X.T.base.get? b=none/\b∉frs X.stack/\b≠X.env.locals/\∀ x c,X.env.cells.lookup x=some c->c≠b
noncomputable abbrev WI:=dJ->Mem->QI->Prop
def PI (X:Cx) (tg iter:Expr) (wi:WI):Prop:=∀ {s:aj} {ρ:dJ} {θ:Th} {μ:Mem} {R:QI} {Q:Value->aj->Prop} {E:Value->aj->Prop},Iv X ρ θ μ s->wi ρ μ R->
 (∀ {xs g s' θ' μ' it fp fx S},Iv X ρ θ' μ' s'->G0 X θ μ s θ' μ' s'->Wk X.T X.A tg it fp fx xs g S->S 0 θ' μ' s'.heap->(∀ b∈fp,DY X b/\(¬qy θ' μ' b/\(b∈fx∨b∉θ'.ex))/\s.heap.get? b=none)->xs.length<=sizeLine->R xs g μ'->Q (.ref it) s')->
 ak X.M X.A (eval iter X.env) (fun v s1=>ak X.M X.A (Ce v) Q E s1) E s
section
variable {X:Cx} {ρ:dJ} {θ θ1 θ':Th} {μ μ1 μ':Mem} {s s0 s1 s':aj} {h':Heap} {tk:Nat} {fp:List Addr} {b it a:Addr} {F:List Addr} {V:Addr->Prop} {d:D} {ds:List D} {u:Value} {us:List Value}
theorem Iv.pD (i:Iv X ρ θ μ s) (hb:s.heap.objs.size<=b):DY X b/\¬J8 θ μ b:=by
 have old:∀ {c o},s.heap.get? c=some o->c≠b:=fun e z=>absurd (fM (dw e) (z▸hb)) (lu _);refine⟨⟨?_,fun z=>?_,?_,fun x c e=>?_⟩,i.dD.Fj hb⟩
 .cases e:X.T.base.get? b with|none=>rfl|some o=>exact(old (i.e.bs b o e).1 rfl).elim
 .obtain⟨_,_,o,_,_,e,_⟩:=i.e.fr z
  exact old e rfl
 .obtain⟨m,⟨o,_,_,e,_⟩,_⟩:=i.loc
  exact(old e).symm
 .obtain⟨⟨v,o,q,_⟩,_⟩:=i.cell x c e
  exact old q
theorem G.Ij (g:G V F θ μ s θ1 μ1 s1) (hb:s1.heap.get? b=none):s.heap.get? b=none:=g.Wr hb
theorem Wk.ho {T:Top} {A:aX} {tg:Expr} {fx:List Addr} {xs:List D} {g:Mem->Prop} {S:Nat->Th->Mem->Heap->Prop} {k:Nat} (W:Wk T A tg it fp fx xs g S) (st:S k θ μ h') (b:Addr) (hb:b∈fp):b∈θ.ex∨∃ o,h'.get? b=some o/\¬Fix o:=
 let⟨o,x,y⟩:=W.obj st b hb;y.imp (W.exx st b) fun n=>⟨o,x,n⟩
theorem G.none (g:G V F θ μ s θ1 μ1 s1) (hb:s1.heap.objs.size<=b):s.heap.get? b=none:=by
 cases e:s.heap.get? b with
 |none=>rfl|some o=>obtain⟨o',q⟩:=g.there b o e;exact absurd (fM (dw q) hb) (lu _)
theorem zf (g:G V F θ μ s0 θ1 μ1 s) (fr:∀ b∈fp,s0.heap.get? b=none) (k:∀ b o,b∉fp->s.heap.get? b=some o->h'.get? b=some o):G V F θ μ s0 θ1 μ1 {s with heap:=h',toks:=tk}:=by
 have no:∀ b o,s0.heap.get? b=some o->b∉fp:=fun b o e z=>by rw[fr b z]at e;cases e
 exact⟨g.pre,fun b o e l v=>let⟨l',sl,q,z⟩:=g.keep b o e l v;⟨l',sl,k b _ (no b o e) q,z⟩,fun b o e=>let⟨o',q⟩:=g.there b o e;⟨o',k b o' (no b o e) q⟩,g.stay,g.os,g.ex⟩
theorem Iv.turn (i:Iv X ρ θ μ s) (f:∀ b∈fp,DY X b/\¬qy θ μ b) (ho:∀ b∈fp,b∈θ.ex∨∃ o,s.heap.get? b=some o/\¬Fix o) (k:∀ b o,b∉fp->s.heap.get? b=some o->h'.get? b=some o) (hx:∀ b∈θ.ex,b∈fp->∃ o,h'.get? b=some o):Iv X ρ θ μ {s with heap:=h',toks:=tk}/\Kp θ μ s.heap θ μ h':=by
 have kp:Kp θ μ s.heap θ μ h':=⟨fun _ _ e=>e,fun b o e x l=>⟨k b o (fun z=>(ho b z).elim (fun y=>l (.inl y)) fun⟨o',e',n⟩=>by rw[e]at e';cases e';exact n x) e,l⟩⟩;refine⟨⟨i.ok,⟨i.e.mod,i.e.frames,i.e.bare,fun b o e=>?_,fun v m=>?_,i.dD.mono kp (fun b o l e=>k b o (fun z=>(f b z).2 l) e) (fun b z=>by
  by_cases y:b∈fp
  .exact hx b z y
  .exact let⟨o,q⟩:=i.dD.bnd b (.inl z);⟨o,k b o y q⟩),i.e.hh⟩,?_,fun x c e=>?_,i.nl,i.len⟩,kp⟩
 .obtain⟨e1,l⟩:=i.e.bs b o e
  exact⟨k b o (fun z=>by rw[(f b z).1.1]at e;cases e) e1,l⟩
 .obtain⟨k1,L,o,es,ep,q,nb,ho',hd,l⟩:=i.e.stk v m
  exact⟨k1,L,o,es,ep,q,nb,k L o (fun z=>(f L z).1.2.1 (sG.mpr ⟨v,m,q⟩)) ho',hd,l⟩
 .obtain⟨m,hn,hl⟩:=i.loc
  refine⟨m,hn.at fun o e=>k _ o (fun z=>(f _ z).1.2.2.1 rfl) e,fun j x d e1 e2 e3=>?_⟩;obtain⟨u,r,l⟩:=hl j x d e1 e2 e3;refine⟨u,kp.rp r,l.imp id fun⟨k1,c,e,z⟩=>⟨k1,c,e,?_⟩⟩;obtain⟨o,q,w⟩:=z;exact⟨o,k c o (fun z=>(f c z).1.2.2.2 x c e rfl) q,w⟩
 .obtain⟨⟨v,o,q,w⟩,l⟩:=i.cell x c e
  exact⟨⟨v,o,k c o (fun z=>(f c z).1.2.2.2 x c e rfl) q,w⟩,l⟩
theorem ai0 {tg iter:Expr} {body:List Stmt} {pos:Pos} {wi:WI} {bnd:D->dJ->(dJ->Prop)->Prop} {wb:WS} (hi:PI X tg iter wi) (hg:PG X tg bnd) (hb:PSs X body wb) (hs:∀ x,Ol iter X.env x=pure x):
  PS X (.For tg iter body [] pos) (fun Z ρ μ=>wi ρ μ fun ds g μ1=>Ea bnd wb g Z ds ρ μ1):=fun {s ρ θ μ Z Q E} hp i h f=>by
 refine wpAny_For (hi i h fun {xs g s1 θ1 μ1 it fp fx S} i1 g1 W st hf hl h1=>?_) hs;refine codeAny_forLoop_any (fun n s'=>∃ k ρ' θ' μ',n=xs.length -k/\k<=xs.length/\Iv X ρ' θ' μ' s'/\GS X θ μ s θ' μ' s'/\S k θ' μ' s'.heap/\(∀ b∈fp,DY X b/\¬qy θ' μ' b/\(b∈fx∨b∉θ'.ex))/\Ea bnd wb g Z (xs.drop k) ρ' μ') ?_ xs.length
  ⟨0,ρ,θ1,μ1,rfl,iH _,i1,g1.gs,st,fun b z=>⟨(hf b z).1,(hf b z).2.1⟩,h1⟩
 rintro n s2 ⟨k,ρ2,θ2,μ2,rfl,hk,i2,g2,st2,f2,h2⟩;have fr:∀ b∈fp,s.heap.get? b=none:=fun b z=>(hf b z).2.2;by_cases hlt:k<xs.length
 .rw[zQ hlt]at h2
  obtain⟨W3,h2⟩:=h2;refine yE hp (oX (W.item (Q2:=fun u s3=>∃ h' tk,s3={s2 with heap:=h',toks:=tk}/\(∀ b o,b∉fp->s2.heap.get? b=some o->h'.get? b=some o)/\S (k+1) θ2 μ2 h'/\Rp h' θ2 μ2 xs[k] u) st2 i2.dD (fun b z=>(f2 b z).2.1) W3 (bI hlt)
   fun ke st3 r3=>⟨_,_,rfl,ke,st3,r3⟩) (fun r s3 ⟨u,hr,h3⟩=>?_) fun _ _ x=>x)
  subst hr;refine yE hp (oX h3 (fun _ s4 ⟨h',tk,e4,ke,st4,r4⟩=>?_) fun _ _ x=>x);subst e4;obtain⟨i4,kp4⟩:=i2.turn (tk:=tk) (fun b z=>⟨(f2 b z).1,(f2 b z).2.1⟩) (W.ho st2) ke fun b _ z=>let⟨o,x,_⟩:=W.obj st4 b z;⟨o,x⟩;have g4:GS X θ μ s θ2 μ2 {s2 with heap:=h',toks:=tk}:=zf g2 fr ke;refine yE hp (hg i4 r4 h2 fun {ρ5 s5} i5 g5 q5=>yE hp (hb hp i5 q5 ?_));have f5:=f.mono (g4.trans g5);have nxt:∀ {ρ' s' θ' μ'},Iv X ρ' θ' μ' s'->GS X θ2 μ2 s5 θ' μ' s'->Ea bnd wb g Z (xs.drop (k+1)) ρ' μ'->∃ m,m<xs.length -k/\∃ k ρ' θ' μ',m=xs.length -k/\k<=xs.length/\Iv X ρ' θ' μ' s'/\GS X θ μ s θ' μ' s'/\S k θ' μ' s'.heap/\(∀ b∈fp,DY X b/\¬qy θ' μ' b/\(b∈fx∨b∉θ'.ex))/\Ea bnd wb g Z (xs.drop k) ρ' μ':=fun {ρ' s' θ' μ'} i6 g6 q6=>by
   have g56:=g5.trans g6;have own:∀ b∈fp,¬X.own b:=fun b z y=>by
    rcases y with rfl|⟨x,_,e⟩
    .exact(f2 _ z).1.2.2.1 rfl
    .exact(f2 b z).1.2.2.2 x b e rfl
   have kept:∀ b∈fp,∀ o,h'.get? b=some o->s'.heap.get? b=some o/\¬qy θ' μ' b:=fun b z o e=>by obtain⟨l,sl,q,w⟩:=g56.keep b o e (f2 b z).2.1 (own b z);rw[w (f2 b z).1.2.1]at q;exact⟨q,l⟩
   refine⟨xs.length -(k+1),by omega,k+1,ρ',θ',μ',rfl,hlt,i6,g4.trans g56,W.mono st4 (i4.kpS g56) g56.ex.1 fun b z o e=>(kept b z o e).1,fun b z=>⟨(f2 b z).1,?_⟩,q6⟩;obtain⟨o,e,_⟩:=W.obj st4 b z;exact⟨(kept b z o e).2,(f2 b z).2.2.imp id fun y q=>(g56.ex.2 b q).elim y fun q=>by rw[show h'.get? b=none from q]at e;cases e⟩
  exact⟨nxt,fun i6 g6 q=>f5.nx i6 g6 q,nxt,f5.rt,f5.xc⟩
 .have e:k=xs.length:=by omega
  subst e;rw[ace]at h2;obtain⟨W3,h2⟩:=h2;refine yE hp (W.done (Q:=fun r s3=>r=none/\∃ h' tk,s3={s2 with heap:=h',toks:=tk}/\(∀ b o,b∉fp->s2.heap.get? b=some o->h'.get? b=some o)/\∀ b∈fx,∃ o,h'.get? b=some o) st2 i2.dD i2.e.hds (fun b z=>(f2 b z).2.1) W3 (fun ke te=>⟨rfl,_,_,rfl,ke,te⟩)|>fun q=>oX q (fun r s3 ⟨hr,h',tk,e3,ke,te⟩=>?_) fun _ _ x=>x);subst hr e3;obtain⟨i4,_⟩:=i2.turn (tk:=tk) (fun b z=>⟨(f2 b z).1,(f2 b z).2.1⟩) (W.ho st2) ke fun b y z=>te b ((f2 b z).2.2.resolve_right fun q=>q y);exact Vn (f.nx i4 (zf g2 fr ke) h2)
end
end DW
namespace DW
open PySem PySem.Spec PyProof.Rows
open L2 (aQ Key frs rG Loc Look Mod rH cV Bf)
theorem aM {o:Obj} {vs} {n:String} (h:o.data= .fields vs) (c:o.cls= .type n) (hn:n≠"code"):¬Fix o:=fun f=>by
 rcases f with⟨_,_,f⟩|⟨f,_⟩
 .rw[h]at f;cases f
 .rw[c]at f
  injection f with f;exact hn f
theorem Aj {fp:List Addr} {θ:Th} {μ:Mem} {h h':Heap} (ho:∀ b∈fp,∃ o,h.get? b=some o/\¬Fix o) (k:∀ b o,b∉fp->h.get? b=some o->h'.get? b=some o):Kp θ μ h θ μ h' :=
 ⟨fun _ _ e=>e,fun b o e x l=>⟨k b o (fun z=>by obtain⟨o',e',n⟩:=ho b z;rw[e]at e';cases e';exact n x) e,l⟩⟩
section
variable {X:Cx} {tg iter a b c:Expr} {wl:WE} {d0:D} {xs:List D} {g:Mem->Prop} {it ad:Addr} {x:List Nat} {t:Tok} {lo st:Int} {n:Nat} {ws:WA} {p pos:Pos}
theorem afQ (hc:X.calm=true) (hA:X.calm=true->X.A.handled=none) (hg:∀ {μ},g μ->au μ d0=some xs) (hk:QT d0≠0):Wk X.T X.A tg it [it] [] xs g (fun i θ μ h=>h.IsListIter it ad i/\Rp h θ μ d0 (.ref ad)) where
 obj:=fun⟨⟨o,e,c,d⟩,_⟩ b hb=>by cases cO.mp hb;exact⟨o,e,.inr (aM d c (by decide))⟩
 exx:=fun _ _ z=>nomatch z
 mono:=fun⟨⟨o,e,r⟩,y⟩ kp _ k=>⟨⟨o,k _ (by simp) _ e,r⟩,kp.rp y⟩
 item:=fun {i d s θ μ Q2 E} st w nl gm hx f=>by obtain⟨⟨o,e,c,dd⟩,r0⟩:=id st;obtain⟨_,us,q,z,r⟩:=qG w r0 (hg gm);cases q;obtain⟨u,hu,ru⟩:=r.get hx;refine wpAny_pyNext_list_item st.1 (eU z hk).isList (x:=u) (by simpa using hu) fun h' st' sb=>?_;have ke:∀ b o,b∉[it]->s.heap.get? b=some o->h'.get? b=some o:=fun b o hb q=>(sb.2 b (by simpa using hb)).trans q;have kp:Kp θ μ s.heap θ μ h':=Aj (fun b hb=>by cases cO.mp hb;exact⟨o,e,aM dd c (by decide)⟩) ke;obtain⟨o',e',c',d'⟩:=id st';exact⟨u,rfl,Bf (s:={s with heap:=h' }) e' c' d' (by decide) (f (tk:=s.toks) ke ⟨st',kp.rp r0⟩ (kp.rp ru))⟩
 done:=fun {s θ μ Q E} st w hd nl gm f=>by obtain⟨_,us,q,z,r⟩:=qG w st.2 (hg gm);cases q;exact wpAny_pyNext_list_end (hA hc) st.1 (eU z hk).isList (by simp[r.length]) fun h' eb=>f (tk:=s.toks) (fun b o hb q=>eb b o (by simpa using hb) q) fun _ z=>nomatch z
 self:=fun st q=>wpAny_pyIter_listiter st.1 q
theorem ah7 (hc:X.calm=true) (hA:X.calm=true->X.A.handled=none):Wk X.T X.A tg it [it] [] xs g (fun i θ μ h=>h.IsTupleIter it ad i/\Rp h θ μ (.tup xs) (.ref ad)) where
 obj:=fun⟨⟨o,e,c,d⟩,_⟩ b hb=>by cases cO.mp hb;exact⟨o,e,.inr (aM d c (by decide))⟩
 exx:=fun _ _ z=>nomatch z
 mono:=fun⟨⟨o,e,r⟩,y⟩ kp _ k=>⟨⟨o,k _ (by simp) _ e,r⟩,kp.rp y⟩
 item:=fun {i d s θ μ Q2 E} st w nl gm hx f=>by obtain⟨⟨o,e,c,dd⟩,r0⟩:=id st;obtain⟨_,us,q,z,_,r⟩:=id r0;cases q;obtain⟨u,hu,ru⟩:=r.get hx;refine wpAny_pyNext_tuple_item st.1 (show s.heap.IsTuple ad us.toArray from cM z) (x:=u) (by simpa using hu) fun h' st' sb=>?_;have ke:∀ b o,b∉[it]->s.heap.get? b=some o->h'.get? b=some o:=fun b o hb q=>(sb.2 b (by simpa using hb)).trans q;have kp:Kp θ μ s.heap θ μ h':=Aj (fun b hb=>by cases cO.mp hb;exact⟨o,e,aM dd c (by decide)⟩) ke;obtain⟨o',e',c',d'⟩:=id st';exact⟨u,rfl,Bf (s:={s with heap:=h' }) e' c' d' (by decide) (f (tk:=s.toks) ke ⟨st',kp.rp r0⟩ (kp.rp ru))⟩
 done:=fun {s θ μ Q E} st w hd nl gm f=>by obtain⟨_,us,q,z,_,r⟩:=id st.2;cases q;exact wpAny_pyNext_tuple_end (hA hc) st.1 (show s.heap.IsTuple ad us.toArray from cM z) (by simp[r.length]) fun h' eb=>f (tk:=s.toks) (fun b o hb q=>eb b o (by simpa using hb) q) fun _ z=>nomatch z
 self:=fun st q=>wpAny_pyIter_tupleiter st.1 q
theorem aaI {ty:String} (hc:X.calm=true) (hA:X.calm=true->X.A.handled=none) (hty:ty="str_ascii_iterator"∨ty="str_iterator"):Wk X.T X.A tg it [it] [] (chars x) g (fun i θ μ h=>h.IsStrIter it ty ⟨x.toArray⟩ t i) where
 obj:=fun⟨o,e,c,d⟩ b hb=>by cases cO.mp hb;exact⟨o,e,.inr (aM d c (by rcases hty with rfl|rfl<;>decide))⟩
 exx:=fun _ _ z=>nomatch z
 mono:=fun⟨o,e,r⟩ kp _ k=>⟨o,k _ (by simp) _ e,r⟩
 item:=fun {i d s θ μ Q2 E} st w nl gm hx f=>by
  have hn:["enumerate","zip","dict_itemiterator","dict_reverseitemiterator","odict_iterator","itertools.zip_longest","itertools.pairwise"].contains ty=false:=by rcases hty with rfl|rfl<;>decide
  have W:Walks X.T.P X.T.w X.A it [it] [it] (⟨x.toArray⟩:Str).cps.size (SignAt ⟨x.toArray⟩) (fun i h=>h.IsStrIter it ty ⟨x.toArray⟩ t i):=by
   rcases hty with rfl|rfl
   .exact Walks.strAscii (hA hc) it _ t
   .exact Walks.strWide (hA hc) it _ t
  have hx':∃ c,x[i]?=some c/\d= .str [c]:=by simp only[chars,fW]at hx;obtain⟨c,q,rfl⟩:=yP.mp hx;exact⟨c,q,rfl⟩
  obtain⟨c0,q0,rfl⟩:=hx';refine W.item i s _ _ (by simpa using(cF.mp q0).1) st fun v h' tk hv st' ke=>?_;obtain⟨c,u,e1,rfl⟩:=hv;have e1:x[i]?=some c:=by simpa using e1
  rw[q0]at e1;cases e1;obtain⟨o',e',c',d'⟩:=id st';exact⟨_,rfl,Bf (s:={s with heap:=h',toks:=tk}) e' c' d' hn (f (tk:=tk) (fun b o hb q=>ke b o hb q) st' (show Rp _ _ _ (.str [c0]) _ from⟨⟨u,rfl⟩,by rw[gF];simp⟩))⟩
 done:=fun {s θ μ Q E} st w hd nl gm f=>by
  have hl:(chars x).length=x.length:=by simp[chars]
  rw[hl]at st;rcases hty with rfl|rfl
  .exact wpAny_pyNext_ascii_end (hA hc) st (by simp) fun h' eb=>f (tk:=s.toks) (fun b o hb q=>eb b o (by simpa using hb) q) fun _ z=>nomatch z
  .exact wpAny_pyNext_wide_end (hA hc) st (by simp) fun h' eb=>f (tk:=s.toks) (fun b o hb q=>eb b o (by simpa using hb) q) fun _ z=>nomatch z
 self:=fun st q=>by
  rcases hty with rfl|rfl
  .exact wpAny_pyIter_striter_ascii st q
  .exact wpAny_pyIter_striter_wide st q
theorem ai6 (hcl:X.calm=true) (hl:PE X iter wl):PI X tg iter (fun ρ μ Q=>wl ρ μ fun d μ1=>kZ d μ1 Q):=fun {s ρ θ μ R Q E} i h f=>hl i h fun {d u s1 θ1 μ1} i1 g1 r1 h1=>by
 have fk:∀ b∈[s1.heap.objs.size],DY X b/\(¬qy θ1 μ1 b/\(b∈([]:List Addr)∨b∉θ1.ex))/\s.heap.get? b=none:=fun b hb=>by cases cO.mp hb;exact⟨(i1.pD (aL _)).1,⟨fun y=>(i1.pD (aL _)).2 (.inr y),.inr fun y=>(i1.pD (aL _)).2 (.inl y)⟩,g1.none (aL _)⟩
 have sq:∀ {xs g},(∀ {μ},g μ->au μ d=some xs)->au μ1 d=some xs->R xs g μ1->QT d≠0->ak X.M X.A (Ce u) Q E s1:=fun {xs g} hg e q hk=>by obtain⟨a,us,rfl,z,r⟩:=qG i1.dD r1 e;refine Ot (eU z hk).isList ?_;exact f (Iv.kept (tk:=s1.toks) i1 cU) (g1.trans (cB (tk:=s1.toks) cU)) (afQ (ad:=a) hcl i1.ok.hd hg hk) ⟨⟨_,dW _ rfl,rfl,rfl⟩,(iV cU).rp r1⟩ fk (by rw[<-r.length];exact z.fix.1) q
 unfold kZ at h1;split at h1
 .exact sq (fun _=>rfl) rfl h1 (by simp[QT])
 .obtain⟨a,us,rfl,z,_,r⟩:=id r1
  refine H6 (show s1.heap.IsTuple a us.toArray from cM z) ?_;exact f (Iv.kept (tk:=s1.toks) i1 cU) (g1.trans (cB (tk:=s1.toks) cU)) (ah7 (ad:=a) hcl i1.ok.hd) ⟨⟨_,dW _ rfl,rfl,rfl⟩,(iV cU).rp r1⟩ fk (by rw[<-r.length];exact z.fix.1) h1
 .exact sq (fun _=>rfl) rfl h1 (by simp[QT])
 .rename_i x
  obtain⟨⟨t,rfl⟩,hz⟩:=r1;have hl:(chars x).length<=sizeLine:=by simpa[chars]using hz
  cases ha:(⟨x.toArray⟩:Str).cps.all (·<128) with
  |false=>exact wpAny_pyIter_wide ha (f (Iv.kept (tk:=s1.toks) i1 cU) (g1.trans (cB (tk:=s1.toks) cU)) (aaI hcl i1.ok.hd (.inr rfl)) ⟨_,dW _ rfl,rfl,rfl⟩ fk hl h1)|true=>exact wpAny_pyIter_ascii ha (f (Iv.kept (tk:=s1.toks) i1 cU) (g1.trans (cB (tk:=s1.toks) cU)) (aaI hcl i1.ok.hd (.inl rfl)) ⟨_,dW _ rfl,rfl,rfl⟩ fk hl h1)
 .rename_i n
  split at h1
  .rename_i ds hn
   exact sq (fun e=>by simp only[au,e]) (by simp only[au,hn]) h1 (by simp[QT])
  .exact h1.elim
 .exact h1.elim
theorem aaJ (hc:X.calm=true) (hA:X.calm=true->X.A.handled=none):Wk X.T X.A tg it [it] [] (xW lo st n) g (fun i θ μ h=>Hq h it (lo+(i:Nat)*st) ((n:Int) -(i:Nat)) st) where
 obj:=fun e b hb=>by cases cO.mp hb;exact⟨_,e,.inr (aM rfl rfl (by decide))⟩
 exx:=fun _ _ z=>nomatch z
 mono:=fun e kp _ k=>k _ (by simp) _ e
 item:=fun {i d s θ μ Q2 E} st' w nl gm hx f=>by
  have W:=Walks.range (prog:=X.T.P) (w:=X.T.w) (hA hc) it lo st n;have hi:i<n:=by have:=(cF.mp hx).1;simpa[xW]using this
  refine W.item i s _ _ hi st' fun v h' tk hv st2 ke=>?_;obtain⟨t,rfl⟩:=hv;exact⟨_,rfl,Bf (s:={s with heap:=h',toks:=tk}) (n:="range_iterator") st2 rfl rfl (by decide) (f (tk:=tk) (fun b o hb q=>ke b o hb q) st2 (by (have e:d= .int (lo+(i:Int)*st):=by simpa[xW,hi]using hx.symm);rw[e];exact iw))⟩
 done:=fun {s θ μ Q E} st' w hd nl gm f=>by
  have hl:(xW lo st n).length=n:=by simp[xW]
  rw[hl]at st';exact wpAny_pyNext_range_end (hA hc) st' (by omega) fun h' eb=>f (tk:=s.toks) (fun b o hb q=>eb b o (by simpa using hb) q) fun _ z=>nomatch z
 self:=fun st q=>adn st q
theorem Y9:Wk X.T X.A tg it [it] [] (jh lo n) g (fun i θ μ h=>Hq h it (lo+(i:Nat)*1) ((n:Int) -(i:Nat)) 1) where
 obj:=fun e b hb=>by cases cO.mp hb;exact⟨_,e,.inr (aM rfl rfl (by decide))⟩
 exx:=fun _ _ z=>nomatch z
 mono:=fun e kp _ k=>k _ (by simp) _ e
 item:=fun {i d s θ μ Q2 E} st' w nl gm hx f=>by
  have hi:i<n:=by have:=(cF.mp hx).1;simpa[jh]using this
  refine wpAny_pyNext_range_item st' (by omega) fun h' st2 sb=>?_;have e1:lo+((i+1:Nat):Int)*1=lo+(i:Int)*1+1:=by push_cast;omega
  have e2:(n:Int) -((i+1:Nat):Int)=(n:Int) -(i:Int) -1:=by push_cast;omega
  exact⟨_,rfl,Bf (s:={s with heap:=h',toks:=s.toks+1}) (n:="range_iterator") st2 rfl rfl (by decide) (f (tk:=s.toks+1) (fun b o hb q=>(sb.2 b (by simpa using hb)).trans q) (by rw[e1,e2];exact st2) (by (have e:d= .int (lo+(i:Int)):=by simpa[jh,hi]using hx.symm);rw[e];exact jY (by rw[Int.mul_one])))⟩
 done:=fun {s θ μ Q E} st' w hd nl gm f=>by
  have hl:(jh lo n).length=n:=by simp[jh]
  rw[hl]at st';exact L2.Uq hd st' (by omega) fun h' eb=>f (tk:=s.toks) (fun b o hb q=>eb b o (by simpa using hb) q) fun _ z=>nomatch z
 self:=fun st q=>adn st q
theorem range_one {R:QI} {s:aj} {ρ:dJ} {θ:Th} {μ:Mem} {lo hi:Int} {u v w:Tok} {tk:Nat} {Q:Value->aj->Prop} {E:Value->aj->Prop} (i:Iv X ρ θ μ s) (h1: -(2 ^ 62)<=lo) (h2:lo<2 ^ 62) (h3: -(2 ^ 62)<=hi) (h4:hi<2 ^ 62) (hl:hi -lo<=lim)
  (q:R (jh lo (hi -lo).toNat) (fun _=>True) μ)
  (f:∀ {xs g s' θ' μ' it fp fx S},Iv X ρ θ' μ' s'->G0 X θ μ s θ' μ' s'->Wk X.T X.A tg it fp fx xs g S->S 0 θ' μ' s'.heap->(∀ b∈fp,DY X b/\(¬qy θ' μ' b/\(b∈fx∨b∉θ'.ex))/\s.heap.get? b=none)->xs.length<=sizeLine->R xs g μ'->Q (.ref it) s'):
  ak X.M X.A (Ce (.ref s.heap.objs.size)) Q E {s with heap:=s.heap.push {cls:=.type "range",data:=.fields #[.int lo u,.int hi v,.int 1 w]},toks:=tk}:=by
 refine acJ (abA ..) (small_one h1 h2 h3 h4) ?_;have i1:Iv X ρ θ μ {s with heap:=s.heap.push {cls:=.type "range",data:=.fields #[.int lo u,.int hi v,.int 1 w]},toks:=tk}:=i.kept cU;have sz:(s.heap.push {cls:=.type "range",data:=.fields #[.int lo u,.int hi v,.int 1 w]}).objs.size=s.heap.objs.size+1:=oN ..;have g1:G0 X θ μ s θ μ {s with heap:=s.heap.push {cls:=.type "range",data:=.fields #[.int lo u,.int hi v,.int 1 w]},toks:=tk}:=cB cU;refine f (Iv.kept (tk:=tk) i1 cU) (g1.trans (cB (tk:=tk) cU)) (Y9 (lo:=lo) (n:=(hi -lo).toNat)) ?_ (fun b hb=>by cases cO.mp hb;exact⟨(i1.pD (aL _)).1,⟨fun y=>(i1.pD (aL _)).2 (.inr y),.inr fun y=>(i1.pD (aL _)).2 (.inl y)⟩,g1.none (aL _)⟩) ?_ q
 .have e1:lo+((0:Nat):Int)*1=lo:=by simp
  have e2:(((hi -lo).toNat:Nat):Int) -((0:Nat):Int)=O7 lo hi 1:=by rw[rangeSize_one];split<;>omega
  show Hq _ _ (lo+((0:Nat):Int)*1) ((((hi -lo).toNat:Nat):Int) -((0:Nat):Int)) 1;rw[e1,e2];exact dW _ rfl
 .have:lim=16777216:=rfl
  rw[this]at hl;simp only[jh,aU,yK];rw[gF];omega
theorem abn (a b c:Int) (hc:c≠0):0<=Kh a b c:=by
 unfold Kh;split
 .rename_i h
  split
  .have:0<=(b -a -1)/c:=ab5 (by omega) (by omega)
   omega
  .exact Nx _
 .split
  .have:0<=(a -b -1)/(-c):=ab5 (by omega) (by omega)
   omega
  .exact Nx _
theorem aiu {a b c:Int} (h1: -(2 ^ 30)<a) (h2:a<2 ^ 30) (h3: -(2 ^ 30)<b) (h4:b<2 ^ 30) (h5: -(2 ^ 30)<c) (h6:c<2 ^ 30) (h7:Kh a b c<=lim) (hc:c≠0):acU a b c=true:=by
 have h8:=abn a b c hc;have hl:lim=16777216:=rfl;rw[hl]at h7;have e3:O7 a b c=Kh a b c:=rfl;unfold acU;rw[e3];by_cases hp:c>0
 .simp only[hp,if_true,adV,bO,uQ,decide_eq_true_eq,beq_iff_eq];omega
 .simp only[hp,if_false,adV,bO,uQ,decide_eq_true_eq,beq_iff_eq];omega
theorem ai8 {es:List Expr} {e:Expr} (ha:Ar X (e::es) ws) (hg:Gl X (aC "range")) (hm:X.T.mg (aC "range")=none) (hk:es.length=2->X.calm=true):
  PI X tg (.Call (.Name (aC "range") p) (e::es) [] pos) (fun ρ μ Q=>ws ρ μ fun ds μ1=>qC (es.length+1) ds μ1 Q):=fun {s ρ θ μ R Q E} i h f=>by
 refine Call_ (mz i hg hm boot_range (by decide+kernel) (by decide+kernel) (Le (ha.pa pos i h fun {ds us s1 θ1 μ1} i1 g1 r1 h1=>?_) (ha.st rfl) ha.akf));have hl:lim=16777216:=rfl;unfold qC at h1;split at h1
 .obtain⟨u,rfl,⟨t,rfl⟩⟩:=r1.jB
  obtain⟨k1,k2,k3⟩:=h1;exact call_range_1 (range_one (R:=R) i1 (by omega) (by omega) k2 (by rw[hl]at k1;omega) (by omega) (by simpa using k3) fun i2 g2 W st fk l q=>f i2 (g1.trans g2) W st (fun b z=>⟨(fk b z).1,(fk b z).2.1,g1.Ij (fk b z).2.2⟩) l q)
 .rename_i j k c hn
  obtain⟨u,us,rfl,⟨t,rfl⟩,r2⟩:=r1;obtain⟨v,w,rfl,⟨t',rfl⟩,⟨t2,rfl⟩⟩:=r2.zE;obtain⟨⟨q0,q1,q2,q3,q4,q5,q6,q7⟩,q⟩:=h1;refine call_range_3 q0 ?_ (.inl (PyProof.noPylong_small (by omega)));refine acJ (abA ..) (aiu q2 q3 q4 q5 q6 q7 q1 q0) ?_;have i2:Iv X ρ θ1 μ1 {s1 with heap:=s1.heap.push {cls:=.type "range",data:=.fields #[.int j t,.int k t',.int c t2]},toks:=s1.toks}:=i1.kept cU;have g2:G0 X θ μ s θ1 μ1 {s1 with heap:=s1.heap.push {cls:=.type "range",data:=.fields #[.int j t,.int k t',.int c t2]},toks:=s1.toks}:=g1.trans (cB cU);have hc:X.calm=true:=hk (by omega);refine f (Iv.kept (tk:=s1.toks) i2 cU) (g2.trans (cB (tk:=s1.toks) cU)) (aaJ (lo:=j) (st:=c) (n:=(Kh j k c).toNat) hc i1.ok.hd) ?_ (fun b hb=>by cases cO.mp hb;exact⟨(i2.pD (aL _)).1,⟨fun y=>(i2.pD (aL _)).2 (.inr y),.inr fun y=>(i2.pD (aL _)).2 (.inl y)⟩,g2.none (aL _)⟩) ?_ q
  .have e1:j+((0:Nat):Int)*c=j:=by simp
   have e2:(((Kh j k c).toNat:Nat):Int) -((0:Nat):Int)=O7 j k c:=by have:=abn j k c q0;have e3:O7 j k c=Kh j k c:=rfl;rw[e3];omega
   show Hq _ _ (j+((0:Nat):Int)*c) ((((Kh j k c).toNat:Nat):Int) -((0:Nat):Int)) c;rw[e1,e2];exact dW _ rfl
  .simp only[xW,aU,yK]
   rw[hl]at q1;rw[gF];omega
 .obtain⟨u,v,rfl,⟨t,rfl⟩,⟨t',rfl⟩⟩:=r1.zE
  obtain⟨⟨k0,k1,k2,k3,k4⟩,k5⟩:=h1;exact call_range_2 (range_one (R:=R) i1 k1 k2 k3 k4 k0 k5 fun i2 g2 W st fk l q=>f i2 (g1.trans g2) W st (fun b z=>⟨(fk b z).1,(fk b z).2.1,g1.Ij (fk b z).2.2⟩) l q)
 .exact h1.elim
end
end DW
namespace L2
open PySem PySem.Spec PyProof.Rows
theorem qu:∀ (names:List (Str×iD)) (acc:List (Str×Addr)),(∀ y∈names,y.2= .free->∃ c,env.cells.lookup y.1=some c)->
  (∀ y c,acc.lookup y=some c->env.cells.lookup y=some c)->
  ∃ cl:List (Str×Addr),(forIn names acc fun(x:Str×iD) (r:List (Str×Addr))=>match x with
   |(name,kind)=>if(kind== .free)=true then(do let c<-cellOf env name;pure (Cw ((name,c)::r)))else pure (Cw r))=(pure cl:Sem (List (Str×Addr)))/\
   (∀ y c,cl.lookup y=some c->env.cells.lookup y=some c)/\(∀ y,(acc.lookup y).isSome=true->(cl.lookup y).isSome=true)/\∀ y∈names,y.2= .free->(cl.lookup y.1).isSome=true
 |[],acc,_,h2=>⟨acc,by simp,h2,fun _ h=>h,fun y hy=>nomatch hy⟩|(n,k)::r,acc,h1,h2=>by
  by_cases hk:k= .free
  .subst hk
   obtain⟨c,hc⟩:=h1 (n,.free) yM rfl;obtain⟨cl,e1,e2,e3,e4⟩:=qu r ((n,c)::acc) (fun y hy=>h1 y (jZ _ hy)) (fun y d hy=>by
    rw[jM]at hy;split at hy
    .rename_i hb
     rw[eq_of_beq hb];cases hy;exact hc
    .exact h2 y d hy)
   refine⟨cl,?_,e2,fun y hy=>e3 y ?_,fun y hy hf=>?_⟩
   .rw[yG]
    simp only[beq_self_eq_true,if_true];(have:cellOf env n=pure c:=by unfold cellOf;rw[hc]);rw[this,pure_bind,pure_bind];exact e1
   .rw[jM];split<;>simp_all
   .rcases aO.mp hy with rfl|hy
    .exact e3 n (by simp[jM])
    .exact e4 y hy hf
  .obtain⟨cl,e1,e2,e3,e4⟩:=qu r acc (fun y hy=>h1 y (jZ _ hy)) h2
   refine⟨cl,?_,e2,e3,fun y hy hf=>?_⟩
   .rw[yG]
    (have hb:(k==nG)=false:=by simpa using hk);simp only[hb,dB,if_false];rw[pure_bind];exact e1
   .rcases aO.mp hy with rfl|hy
    .exact absurd hf hk
    .exact e4 y hy hf
theorem nA (h:∀ y∈scope.names,y.2= .free->∃ c,env.cells.lookup y.1=some c):
  ∃ cl,Ux scope env=pure cl/\(∀ y c,cl.lookup y=some c->env.cells.lookup y=some c)/\∀ y∈scope.names,y.2= .free->(cl.lookup y.1).isSome=true:=by
 obtain⟨cl,e1,e2,_,e4⟩:=qu scope.names [] h (fun y c hy=>by simp at hy);refine⟨cl,?_,e2,e4⟩;unfold Ux;simp only[bind_pure];exact e1
theorem gk {env:Env}:∀ {names:List (Str×iD)} {x:Str},names.lookup x=some .free->
  (names.map fun(n,k)=>if(k==nG&&env.scope.kind== .function&&env.kindOf n==some .cell)then(n,j9)else(n,k)).lookup x=some .free∨
  (names.map fun(n,k)=>if(k==nG&&env.scope.kind== .function&&env.kindOf n==some .cell)then(n,j9)else(n,k)).lookup x=some .cell
 |[],_,h=>by simp at h|(n,k)::r,x,h=>by
  have ih:=@gk env r x;show Hl x ((if(k==nG&&env.scope.kind== .function&&env.kindOf n==some .cell)=true then(n,j9)else(n,k))::_)=_∨Hl x ((if(k==nG&&env.scope.kind== .function&&env.kindOf n==some .cell)=true then(n,j9)else(n,k))::_)=_;by_cases hc:(k==nG&&env.scope.kind== .function&&env.kindOf n==some .cell)=true
  .rw[if_pos hc]
   cases hx:x==n with
   |true=>right;simp only[jM,hx]|false=>simp only[jM,hx]at h ⊢;exact ih h
  .rw[if_neg hc]
   cases hx:x==n with
   |true=>simp only[jM,hx]at h ⊢;exact .inl h|false=>simp only[jM,hx]at h ⊢;exact ih h
theorem wU {env:Env}:∀ {names:List (Str×iD)} {x:Str},names.lookup x=some .globalImplicit->
  (names.map fun(n,k)=>if(k==nG&&env.scope.kind== .function&&env.kindOf n==some .cell)then(n,j9)else(n,k)).lookup x=some .globalImplicit
 |[],_,h=>by simp at h|(n,k)::r,x,h=>by
  have ih:=@wU env r x;show Hl x ((if(k==nG&&env.scope.kind== .function&&env.kindOf n==some .cell)=true then(n,j9)else(n,k))::_)=_;by_cases hc:(k==nG&&env.scope.kind== .function&&env.kindOf n==some .cell)=true
  .rw[if_pos hc]
   cases hx:x==n with
   |true=>
    simp only[jM,hx]at h;have:k= .free:=by rw[bO,bO]at hc;simpa using hc.1.1
    rw[this]at h;cases h
   |false=>simp only[jM,hx]at h ⊢;exact ih h
  .rw[if_neg hc]
   cases hx:x==n with
   |true=>simp only[jM,hx]at h ⊢;exact h|false=>simp only[jM,hx]at h ⊢;exact ih h
theorem zN (h:scope.names.lookup x=some .globalImplicit):(G4 scope env).names.lookup x=some .globalImplicit:=wU h
theorem rI {env:Env}:∀ {names:List (Str×iD)} {x:Str},names.lookup x=some .cell->
  (names.map fun(n,k)=>if(k==nG&&env.scope.kind== .function&&env.kindOf n==some .cell)then(n,j9)else(n,k)).lookup x=some .cell
 |[],_,h=>by simp at h|(n,k)::r,x,h=>by
  have ih:=@rI env r x;show Hl x ((if(k==nG&&env.scope.kind== .function&&env.kindOf n==some .cell)=true then(n,j9)else(n,k))::_)=_;by_cases hc:(k==nG&&env.scope.kind== .function&&env.kindOf n==some .cell)=true
  .rw[if_pos hc]
   cases hx:x==n with
   |true=>simp only[jM,hx]|false=>simp only[jM,hx]at h ⊢;exact ih h
  .rw[if_neg hc]
   cases hx:x==n with
   |true=>simp only[jM,hx]at h ⊢;exact h|false=>simp only[jM,hx]at h ⊢;exact ih h
theorem iZ:∀ (names:List (Str×iD)) (n:Nat) (acc:List (Str×Addr)),jE n names acc=jE n names []++acc
 |[],n,acc=>rfl|(x,k)::r,n,acc=>by
  unfold jE;split
  .rw[iZ r (n+1) ((x,n)::acc),iZ r (n+1) [(x,n)]];simp
  .exact iZ r n acc
theorem rC:∀ (names:List (Str×iD)) (n:Nat) (y:Str) (c:Addr),(y,c)∈jE n names []->(y,j9)∈names
 |[],n,y,c,h=>by simp[jE]at h|(x,k)::r,n,y,c,h=>by
  unfold jE at h;split at h
  .rename_i hk
   rw[iZ]at h;rcases jd.mp h with z|z
   .exact jZ _ (rC r _ y c z)
   .simp only[aO,gH,or_false,Hw]at z
    obtain⟨rfl,_⟩:=z;rw[eq_of_beq hk];exact yM
  .exact jZ _ (rC r _ y c h)
theorem oA:∀ (names:List (Str×iD)) (n:Nat) (y:Str),(y,j9)∈names->((jE n names []).lookup y).isSome=true
 |[],n,y,h=>by simp at h|(x,k)::r,n,y,h=>by
  unfold jE;rcases aO.mp h with z|z
  .cases z
   rw[if_pos (by rfl),iZ,Ow];cases q:(jE (n+1) r []).lookup x with
   |some c=>rfl|none=>simp[jM]
  .split
   .rw[iZ,Ow]
    have:=oA r (n+1) y z;obtain⟨c,e⟩:=Ek.mp this;rw[e];rfl
   .exact oA r n y z
theorem uZ 
  (hQ:Q (newEnv scope s.heap.objs.size globals (jE (s.heap.objs.size+1) scope.names cl) qual none .none (some env) Nv) {s with heap:=pushCells (s.heap.push {cls:=.type "dict",data:=.dict #[]}) scope.names}):
  ak M A (Vj scope globals cl [] qual none .none (some env)) Q E s:=by
 simp only[Vj,acM,if_true];refine ao (wpAny_alloc ?_);refine ao (wpAny_layCells _ (fun name kind cells=>by cases hkc:kind==j9<;>simp[hkc]) _ _ _ _ ?_);rw[show({s with heap:=s.heap.push {cls:=.type "dict",data:=.dict #[]}}:aj).heap.objs.size=s.heap.objs.size+1 from oN ..];rw[Cr];exact ao (aD (aD hQ))
theorem iz {env:Env}:∀ {names:List (Str×iD)} {x:Str} {k:iD},
  (names.map fun(n,k)=>if(k==nG&&env.scope.kind== .function&&env.kindOf n==some .cell)then(n,j9)else(n,k)).lookup x=some k->
  names.lookup x=some k∨(k= .cell/\names.lookup x=some .free)
 |[],_,_,h=>by simp at h|(n,k0)::r,x,k,h=>by
  have ih:=@iz env r x k;have h':Hl x ((if(k0==nG&&env.scope.kind== .function&&env.kindOf n==some .cell)=true then(n,j9)else(n,k0))::(r.map fun(n,k)=>if(k==nG&&env.scope.kind== .function&&env.kindOf n==some .cell)then(n,j9)else(n,k)))=some k:=h;by_cases hc:(k0==nG&&env.scope.kind== .function&&env.kindOf n==some .cell)=true
  .rw[if_pos hc]at h'
   cases hx:x==n with
   |true=>
    simp only[jM,hx]at h' ⊢;cases h';have:k0= .free:=by rw[bO,bO]at hc;simpa using hc.1.1
    exact .inr ⟨rfl,by rw[this]⟩
   |false=>simp only[jM,hx]at h' ⊢;exact ih h'
  .rw[if_neg hc]at h'
   cases hx:x==n with
   |true=>simp only[jM,hx]at h' ⊢;exact .inl h'|false=>simp only[jM,hx]at h' ⊢;exact ih h'
section
variable {elt iter tg:Expr} {xs:List Str} {scope:Scope} {Nc:List Str} {cap:List Nat} {cl:List (Str×Addr)} {pins:List (Addr×Obj)} {s2:aj} {it:Addr} {fp:List Addr} {tn:Nat->Heap->Prop} {J:It}
theorem zp {prog:cg} {w:bA} {A:aX} {R:yc->aj->Prop} {s:aj} {elt tg iter:Expr} {ifs:List Expr} {scope:Scope} {pos:Pos} {it acc:Value} {env:Env} (J:Nat->aj->Prop)
  (turn:∀ m s0,J m s0->ak (aH prog w) A (gQ it) (fun r s1=>match r with
   |none=>R (.ok .next) s1| some v=>ak (aH prog w) A (HD tg it v) (fun _ s2=>ak (aH prog w) A (rK tg env v) (fun _ s3=>
     ak (aH prog w) A (forIn ifs true fun c r=>if r=true then do let ok<-xZ c env (eval c env);pure (Cw ok)else pure (Cw r)) (fun b s4=>
      if b=true then ak (aH prog w) A (eval elt env) (fun x s5=>ak (aH prog w) A (call (.builtin "list.append") [acc,x]) (fun _ s6=>∃ k,k<m/\J k s6) (Cg (aH prog w) A env fun e z=>R (.error e) z) s5) (Cg (aH prog w) A env fun e z=>R (.error e) z) s4
      else ∃ k,k<m/\J k s4) (Cg (aH prog w) A env fun e z=>R (.error e) z) s3) (Cg (aH prog w) A env fun e z=>R (.error e) z) s2) (Cg (aH prog w) A env fun e z=>R (.error e) z) s1) (Cg (aH prog w) A env fun e z=>R (.error e) z) s0)
  (m:Nat) (h:J m s):qj (aH prog w) A (.compLoop (.ListComp elt [⟨tg,iter,ifs,0⟩] scope pos) 0 it acc env) R s:=by
 refine codeAny_loop rfl J ?_ m h;intro m s0 h0;have q:=turn m s0 h0;show ak _ A (Sem.onRaise (compTurn (.ListComp elt [⟨tg,iter,ifs,0⟩] scope pos) 0 it acc env) _) _ _ s0;apply wpAny_noted;rw[compTurn_list];apply ao;apply wpAny_standAt;refine ao (thn q ?_);rintro(_|v) s1 q
 .exact aD q
 refine ao (thn q ?_);intro _ s2 q;refine ao (thn q ?_);intro _ s3 q;refine ao (thn q ?_);rintro(_|_) s4 q
 .exact aD ⟨rfl,q⟩
 refine ao (ao (thn q ?_));intro x s5 q;refine ao (thn q ?_);intro _ s6 q;exact aD (aD ⟨rfl,q⟩)
end
end L2
namespace DW
open PySem PySem.Spec PyProof.Rows
open L2 (aQ Key frs rG Loc Look Mod rH cV nA gk iz iZ rC oA uZ zp)
def cX (X:Cx) (Nc:List Str) (scope:Scope) (cl:List (Str×Addr)) (C:Addr):Cx:={X with N:=Nc,env:=Ng scope cl C X.env,oc:=fun y=>scope.names.lookup y==some .cell}
structure vZ (X:Cx) (n:Nat) (scope:Scope) (Nc:List Str) (cap:List Nat):Prop where
 kind:scope.kind= .function
 cells:∀ y∈scope.names,y.2= .cell->scope.names.lookup y.1=some .cell
 names:∀ y∈scope.names,y.2= .local->scope.names.lookup y.1=some .local
 nd:Nc.Nodup
 caps:∀ (j:Nat) (y:Str),Nc[n+j]?=some y->∃ i,cap[j]?=some i/\X.N[i]?=some y/\scope.names.lookup y=some .free
 len:Nc.length=n+cap.length
 free:∀ y∈scope.names,y.2= .free->X.env.kindOf y.1=some .cell∨X.env.kindOf y.1=some .free
def PIf (X:Cx) (ifs:List Expr) (w:WT):Prop:=Jg X Alike (forIn ifs true fun c r=>if r=true then do let ok<-xZ c X.env (eval c X.env);pure (Cw ok)else pure (Cw r)) w
noncomputable abbrev QF (cap:List Nat) (ρ:dJ):dJ:=cap.map fun i=>(ρ[i]?).join
section
variable {X:Cx} {ρ:dJ} {θ θ1 θ':Th} {μ μ1 μ':Mem} {s s0 s1 s':aj} {h₁:Heap} {tk n:Nat} {fp:List Addr} {b it D C:Addr} {scope:Scope} {Nc:List Str} {cap:List Nat} {cl cf:List (Str×Addr)} {c elt iter tg:Expr} {ifs:List Expr} {w:WT} {pos:Pos}
theorem agy:PIf X [] (fun _ μ Q=>Q true μ):=fun i h f=>by rw[Cr];exact aD (f i .refl rfl h)
theorem agx (hc:PT X c w):PIf X [c] w:=fun i h f=>by rw[yG];simp only[if_true];refine ao (ao (hc i h fun i1 g1 r1 h1=>aD ?_));show ak _ _ (forIn ([]:List Expr) _ _) _ _ _;rw[Cr];exact aD (f i1 g1 r1 h1)
theorem ahn (T:vZ X n scope Nc cap) (i:Iv X ρ θ μ s) (hD:s.heap.objs.size<=D) (hC:s.heap.objs.size<=C) (old:∀ b o,s.heap.get? b=some o->h₁.get? b=some o) (eD:∃ o,h₁.get? D=some o) (hns:h₁.Ns C fun _=>none)
  (hcl:∀ y c,cf.lookup y=some c->(scope.names.lookup y≠some .cell/\X.env.cells.lookup y=some c)∨(scope.names.lookup y=some .cell/\s.heap.objs.size<=c/\h₁.IsCell c none)) (ajX:∀ y z c,cf.lookup y=some c->cf.lookup z=some c->y=z)
  (aeX:∀ y∈scope.names,(y.2= .free∨y.2= .cell)->(cf.lookup y.1).isSome=true):
  Iv (cX X Nc scope cf C) (aV n none++QF cap ρ) ⟨θ.cs,D::θ.ex⟩ μ {s with heap:=h₁,toks:=tk}/\Kp θ μ s.heap ⟨θ.cs,D::θ.ex⟩ μ h₁:=by
 have kp:Kp θ μ s.heap ⟨θ.cs,D::θ.ex⟩ μ h₁:=⟨fun _ _ e=>e,fun b o e f l=>⟨old b o e,fun z=>by
  rcases z with z|z
  .rcases aO.mp z with rfl|z
   .exact absurd (fM (dw e) hD) (lu _)
   .exact l (.inl z)
  .exact l (.inr z)⟩⟩
 have fr:∀ {b},s.heap.objs.size<=b->X.T.base.get? b=none/\¬qy θ μ b:=fun hb=>⟨(i.pD hb).1.1,fun z=>(i.pD hb).2 (.inr z)⟩;have kinds:∀ y,((Ng scope cf C X.env).kindOf y=some .cell∨(Ng scope cf C X.env).kindOf y=some .free)->scope.names.lookup y=some .free∨scope.names.lookup y=some .cell:=fun y hy=>by
  rcases hy with hy|hy
  .rcases iz (env:=X.env) (show(scope.names.map _).lookup y=some .cell from hy)with z|⟨_,z⟩
   .exact .inr z
   .exact .inl z
  .rcases iz (env:=X.env) (show(scope.names.map _).lookup y=some .free from hy)with z|⟨z,_⟩
   .exact .inl z
   .cases z
 refine⟨⟨⟨T.kind,i.ok.glob,i.ok.blt,ajX,fun y hy=>?_,i.ok.hd,(fr hC).1,fun y c h=>?_⟩,⟨i.e.mod,i.e.frames,i.e.bare,fun b o e=>⟨old b o (i.e.bs b o e).1,(i.e.bs b o e).2⟩,fun v m=>?_,i.dD.ex kp (fun b o _ e=>old b o e) fun b z=>?_,i.e.hh⟩,⟨_,hns,fun j y d h1 h2 h3=>?_⟩,fun y c h=>?_,(fr hC).2,?_⟩,kp⟩
 .rcases kinds y hy with z|z
  .exact Ek.mp (aeX _ (pU z) (.inl rfl))
  .exact Ek.mp (aeX _ (pU z) (.inr rfl))
 .rcases hcl y c h with⟨_,z⟩|⟨_,z,_⟩
  .exact i.ok.nbC y c z
  .exact(fr z).1
 .obtain⟨k,L,o,es,ep,f,nb,ho,hd,l⟩:=i.e.stk v m
  refine⟨k,L,o,es,ep,f,nb,old L o ho,hd,fun z=>?_⟩;rcases z with z|z
  .rcases aO.mp z with rfl|z
   .exact absurd (fM (dw ho) hD) (lu _)
   .exact l (.inl z)
  .exact l (.inr z)
 .rcases aO.mp z with rfl|z
  .exact⟨eD,(fr hD).2⟩
  .exact⟨let⟨o,q⟩:=i.dD.bnd b (.inl z);⟨o,old b o q⟩,i.dD.exc b z⟩
 .by_cases hix:j<n
  .rw[cL (by simpa using hix),adA]at h2
   split at h2<;>cases h2
  .obtain⟨j,rfl⟩:∃ k,j=n+k:=⟨j -n,by omega⟩
   obtain⟨i',e1,e2,e3⟩:=T.caps j y h1;have hv:ρ[i']?=some (some d):=by
    rw[jt (by simp)]at h2;simp only[H8,Nat.add_sub_cancel_left,QF,fW,e1,dz,nH]at h2;cases q:ρ[i']? with
    |none=>rw[q]at h2;cases h2
    |some w'=>rw[q]at h2;simp only[pP]at h2;rw[h2]
   obtain⟨mo,hno,hlo⟩:=i.loc;have hk:=T.free _ (pU e3) rfl;obtain⟨u,r,l⟩:=hlo i' y d e2 hv (hk.elim (fun k=>.inr (.inl k)) fun k=>.inr (.inr k));refine⟨u,kp.rp r,.inr ⟨(gk (env:=X.env) e3).symm,?_⟩⟩;rcases l with⟨k,_⟩|⟨_,c,e,z⟩
   .rcases hk with k' |k' <;>(rw[k]at k';cases k')
   .obtain⟨c',ec⟩:=Ek.mp (aeX _ (pU e3) (.inl rfl))
    have ew:X.env.cells.lookup y=some c':=by
     rcases hcl y c' ec with⟨_,w⟩|⟨w,_⟩
     .exact w
     .rw[e3]at w;cases w
    have e':some c=some c':=e.symm.trans ew;cases e';obtain⟨oc,q1,q2⟩:=z;exact⟨c,ec,oc,old _ _ q1,q2⟩
 .rcases hcl y c h with⟨_,w⟩|⟨_,w,z⟩
  .obtain⟨⟨v,oc,q1,q2⟩,l⟩:=i.cell y c w
   exact⟨⟨v,oc,old _ _ q1,q2⟩,l⟩
  .exact⟨⟨none,z⟩,(fr w).2⟩
 .show(aV n none++QF cap ρ).length=Nc.length
  rw[T.len];simp[QF]
def Th.del (θ:Th) (D:Addr):Th:=⟨θ.cs,θ.ex.filter (·!=D)⟩
theorem mH {D b:Addr} {θ:Th}:b∈(θ.del D).ex<->b∈θ.ex/\b≠D:=by simp[Th.del]
theorem G.exr {V:Addr->Prop} {F:List Addr} {θ2:Th} (g:G V F θ μ s θ1 μ1 s1) (e:θ2.cs=θ1.cs) (x:Exk θ s.heap θ2):G V F θ μ s θ2 μ1 s1:=by obtain⟨cs,ex⟩:=θ2;cases e;exact⟨g.pre,g.keep,g.there,g.stay,g.os,x⟩
theorem ajY {V:Addr->Prop} {D:Addr} (g:G (fun _=>False) (frs X.stack) θ μ s (θ1.del D) μ1 s1) (h:G V (frs X.stack) θ1 μ1 s1 θ' μ' s') (hv:∀ b,V b->s.heap.get? b=none):G (fun _=>False) (frs X.stack) θ μ s (θ'.del D) μ' s' where
 pre:=fun n p e=>h.pre n p (g.pre n p e)
 keep:=fun b o e l v=>by
  obtain⟨l1,sl,e1,f1⟩:=g.keep b o e l v;obtain⟨l2,sl2,e2,f2⟩:=h.keep b _ e1 l1 fun z=>by rw[hv b z]at e;cases e
  exact⟨l2,sl2,e2,fun z=>(f2 z).trans (f1 z)⟩
 there:=fun b o e=>let⟨o',e'⟩:=g.there b o e;h.there b o' e'
 stay:=fun n c e f=>h.stay n c (g.stay n c e f) f
 os:=h.os.trans g.os
 ex:=⟨fun b z=>let⟨y,n⟩:=mH.mp (g.ex.1 b z);mH.mpr ⟨h.ex.1 b y,n⟩,fun b z=>let⟨y,n⟩:=mH.mp z;(h.ex.2 b y).elim (fun q=>g.ex.2 b (mH.mpr ⟨q,n⟩)) fun q=>.inr (g.Wr q)⟩
end
end DW
namespace DW
open PySem PySem.Spec PyProof.Rows
open L2 (aQ Key frs rG Loc Look Mod rH cV nA gk iz iZ rC oA uZ zp)
theorem Ju (caps:dJ):∀ (ds:List D) (pre ρs:dJ),ρs.length=ds.length->((gG pre.length ds.length).zip ds).foldl (fun r p=>r.set p.1 (some p.2)) (pre++ρs++caps)=pre++ds.map some++caps
 |[],pre,ρs,h=>by
  have:ρs=[]:=by simpa using h
  subst this;simp
 |d::ds,pre,ρs,h=>by
  cases ρs with
  |nil=>simp at h|cons r ρs=>have ih:=Ju caps ds (pre++[some d]) ρs (by simpa using h);simp only[gV,aY,bB,U7]at ih;simp only[aY,lC,uX,lA];(have e:(pre++r::ρs++caps).set pre.length (some d)=pre++[some d]++ρs++caps:=by simp);rw[e,ih];simp
theorem ahu {tt:Bool} {n:Nat} {ρs caps:dJ} {d:D} {k:dJ->Prop} (hn:tt=false->n=1) (hl:ρs.length=n) (h:bindC n tt d caps k):dg (aN n) tt d (ρs++caps) fun ρ'=>(∃ ρt:dJ,ρt.length=n/\ρ'=ρt++caps)/\k ρ':=by
 cases tt with
 |false=>
  cases hn rfl
  match ρs,hl with
  |[r],_=>exact⟨⟨[some d],rfl,rfl⟩,h⟩
 |true=>
  cases d with
  |tup ds=>obtain⟨h1,h2⟩:=(show ds.length=n/\k (ds.map some++caps)from h);show ds.length=(aN n).length/\_;have e:=Ju caps ds [] ρs (by rw[hl,h1]);simp only[bB,aZ]at e;rw[uI,<-h1,e];refine⟨by simp,⟨⟨ds.map some,by simp,rfl⟩,h2⟩⟩|_=>exact False.elim h
section
variable {X:Cx} {ρ:dJ} {θ θ' θ0:Th} {μ μ' μ0:Mem} {s s' s0:aj} {n:Nat} {fp fx:List Addr} {it:Addr} {scope:Scope} {Nc:List Str} {cap:List Nat} {cl:List (Str×Addr)} {elt iter tg:Expr} {ifs:List Expr} {cw:WT} {ew:WE} {pos:Pos} {xs:List D} {g:Mem->Prop} {S:Nat->Th->Mem->Heap->Prop} {tt m:Bool} {Qd:QD} {E:Value->aj->Prop}
theorem Tq (T:vZ X n scope Nc cap) (hn:tt=false->n=1) (aae:∀ y c,cl.lookup y=some c->X.env.cells.lookup y=some c) (alm:∀ y∈scope.names,y.2= .free->(cl.lookup y.1).isSome=true)
  (i00:Iv X ρ θ0 μ0 s0) (g0:G0 X θ0 μ0 s0 θ μ s) (i:Iv X ρ θ μ s) (W:Wk X.T X.A tg it fp fx xs g S) (st:S 0 θ μ s.heap) (hf:∀ b∈fp,DY X b/\(¬qy θ μ b/\(b∈fx∨b∉θ.ex))/\s0.heap.get? b=none) (hlen:xs.length<=sizeLine)
  (hG:∀ cl C,PG (cX X Nc scope cl C) tg (fun d ρ k=>dg (aN n) tt d ρ k)) (hT:∀ cl C,PIf (cX X Nc scope cl C) ifs cw) (hE:∀ cl C,PE (cX X Nc scope cl C) elt ew)
  (h:jJ (fun d k=>bindC n tt d (QF cap ρ) k) cw ew g xs [] μ fun vs μ2=>newL m vs μ2 Qd) {RR:Value->Addr->yc->aj->Prop}
  (fin:∀ {C mC d u s' θ' μ'},DY X C->¬J8 θ' μ' C->s0.heap.get? C=none->s'.heap.Ns C mC->Iv X ρ θ' μ' s'->G0 X θ0 μ0 s0 θ' μ' s'->Rp s'.heap θ' μ' d u->Qd d μ'->RR u C (.ok .next) s'):
  ak X.M X.A (newList []) (fun acc s₃=>ak X.M X.A (Vj scope X.env.globals cl [] X.env.qual none .none (some X.env)) (fun cenv s₄=>qj X.M X.A (.compStart (.ListComp elt [⟨tg,iter,ifs,0⟩] scope pos) 0 (.ref it) acc {cenv with scope:=G4 scope X.env}) (RR acc cenv.locals) s₄) E s₃) E s:=by
 refine tM (uZ ?_);generalize hD:s.heap.objs.size=D;generalize hs1:s.heap.push {cls:=.type "list",dict:=none,data:=.seq ([]:List Value).toArray}=h1;have hC:h1.objs.size=D+1:=by rw[<-hs1,<-hD];exact oN ..
 generalize hcf:jE (h1.objs.size+1) scope.names cl=cf;generalize hh₁:pushCells (h1.push {cls:=.type "dict",data:=.dict #[]}) scope.names=h₁;have akY:∀ b o,h1.get? b=some o->h₁.get? b=some o:=fun b o e=>by rw[<-hh₁];exact ab4 _ _ b o (bV _ e)
 have old:∀ b o,s.heap.get? b=some o->h₁.get? b=some o:=fun b o e=>akY b o (by rw[<-hs1];exact bV _ e);have eD:h₁.get? D=some {cls:=.type "list",dict:=none,data:=.seq ([]:List Value).toArray}:=akY _ _ (by rw[<-hs1,<-hD];exact dW _ rfl);have hns:h₁.Ns h1.objs.size (fun _=>none):=by rw[<-hh₁];exact(Heap.Ns.new _ (.type "dict")).keeps (ab4 _ _)
 have e2s:(h1.push {cls:=.type "dict",data:=.dict #[]}).objs.size=h1.objs.size+1:=oN ..;have own:=cellsFrom_ok scope.names (h1.push {cls:=.type "dict",data:=.dict #[]}) (h1.objs.size+1) [] ⟨fun _ _ hm=>(nomatch hm),uV⟩ (by rw[e2s];exact aL _);rw[e2s,hh₁]at own;rw[iZ]at hcf;generalize how:jE (h1.objs.size+1) scope.names []=ow at own hcf;have lk:∀ y c,cf.lookup y=some c->(scope.names.lookup y≠some .cell/\cl.lookup y=some c)∨ow.lookup y=some c:=fun y c h=>by
  rw[<-hcf,Ow]at h;cases q:ow.lookup y with
  |some c'=>rw[q]at h;exact .inr h|none=>rw[q]at h;refine .inl ⟨fun z=>?_,h⟩;have:=oA scope.names (h1.objs.size+1) y (pU z);rw[how,q]at this;cases this
 have owC:∀ y c,ow.lookup y=some c->scope.names.lookup y=some .cell/\h1.objs.size<c/\h₁.IsCell c none:=fun y c h=>by have hm:=pU h;have h2:=rC scope.names _ y c (by rw[how];exact hm);exact⟨T.cells _ h2 rfl,(own.empty y c hm).2,(own.empty y c hm).1⟩
 have afu:∀ y (c:Nat),X.env.cells.lookup y=some c->c<D:=fun y c e=>by obtain⟨⟨v,o,q,_⟩,_⟩:=i.cell y c e;rw[<-hD];exact dw q
 have hcl:∀ y c,cf.lookup y=some c->(scope.names.lookup y≠some .cell/\X.env.cells.lookup y=some c)∨(scope.names.lookup y=some .cell/\h1.objs.size<c/\h₁.IsCell c none):=fun y c h=>(lk y c h).imp (fun z=>⟨z.1,aae y c z.2⟩) (owC y c)
 have ajX:∀ y z c,cf.lookup y=some c->cf.lookup z=some c->y=z:=fun y z c k1 k2=>by
  rcases lk y c k1 with⟨a1,a2⟩|a<;>rcases lk z c k2 with⟨b1,b2⟩|b
  .exact i.ok.inj y z c (aae _ _ a2) (aae _ _ b2)
  .have:=afu y c (aae _ _ a2);have:=(owC z c b).2.1;omega
  .have:=afu z c (aae _ _ b2);have:=(owC y c a).2.1;omega
  .exact abz own.apart (pU a) (pU b)
 have aeX:∀ y∈scope.names,(y.2= .free∨y.2= .cell)->(cf.lookup y.1).isSome=true:=fun y hy hk=>by
  rw[<-hcf,Ow];rcases hk with hk|hk
  .obtain⟨c,e⟩:=Ek.mp (alm y hy hk)
   rw[e];cases ow.lookup y.1<;>rfl
  .have:=oA scope.names (h1.objs.size+1) y.1 (by rw[<-hk];exact hy)
   rw[how]at this;obtain⟨c,e⟩:=Ek.mp this;rw[e];rfl
 clear lk owC own how hcf alm aae;dsimp only at hns ⊢;have Xz:D<h1.objs.size:=by rw[hC];exact Cy D
 have hDC:s.heap.objs.size<=D:=Nat.le_of_eq hD;obtain⟨i0,kp0⟩:=ahn (tk:=s.toks) T i hDC (by omega) old ⟨_,eD⟩ hns (fun y c q=>(hcl y c q).imp id fun⟨a,b,e⟩=>⟨a,by omega,e⟩) ajX aeX;have none_:∀ {b},D<=b->s.heap.get? b=none:=fun {b} hb=>by
  cases e:s.heap.get? b with
  |none=>rfl|some o=>exact absurd (fM (dw e) (hD▸hb)) (lu _)
 have amw:∀ b,(cX X Nc scope cf h1.objs.size).own b->s0.heap.get? b=none:=fun b z=>g0.Ij<|by
  rcases z with rfl|⟨x,hx,e⟩
  .exact none_ (by show D<=h1.objs.size;omega)
  .have hx:scope.names.lookup x=some .cell:=eq_of_beq hx
   rcases hcl x b e with⟨z,_⟩|⟨_,z,_⟩
   .exact absurd hx z
   .exact none_ (by omega)
 have fD:=i.pD hDC;have fC:=i.pD (b:=h1.objs.size) (by omega);have fp':∀ b∈fp,DY (cX X Nc scope cf h1.objs.size) b/\b≠D:=fun b hb=>by
  obtain⟨o,e,_⟩:=W.obj st b hb;have lt:=dw e;rw[hD]at lt;obtain⟨f1,f2,f3,f4⟩:=(hf b hb).1;refine⟨⟨f1,f2,jL (Hr lt Xz),fun y c q=>?_⟩,jL lt⟩;rcases hcl y c q with⟨_,z⟩|⟨_,z,_⟩
  .exact f4 y c z
  .exact j8 (Hr (Hr lt Xz) z)
 have fpD:DY (cX X Nc scope cf h1.objs.size) D:=⟨fD.1.1,fD.1.2.1,by show D≠h1.objs.size;omega,fun y c q=>by
  rcases hcl y c q with⟨_,z⟩|⟨_,z,_⟩
  .exact fD.1.2.2.2 y c z
  .exact j8 (Hr Xz z)⟩
 have loop:qj X.M X.A (.compLoop (.ListComp elt [⟨tg,iter,ifs,0⟩] scope pos) 0 (.ref it) (.ref D) (Ng scope cf h1.objs.size X.env)) (RR (.ref D) h1.objs.size) {s with heap:=h₁,toks:=s.toks}:=by
  refine zp (fun k s'=>∃ j acc us ρs θ' μ' nn,k=xs.length -j/\j<=xs.length/\us.length<=j/\ρs.length=n/\Iv (cX X Nc scope cf h1.objs.size) (ρs++QF cap ρ) θ' μ' s'/\G (fun _=>False) (frs X.stack) θ0 μ0 s0 (θ'.del D) μ' s'/\(D∈θ'.ex/\h1.objs.size∉θ'.ex)/\S j θ' μ' s'.heap/\(∀ b∈fp,¬qy θ' μ' b/\(b∈fx∨b∉θ'.ex))/\
    s'.heap.get? D=some {cls:=.type "list",data:=.seq us.toArray nn}/\¬qy θ' μ' D/\dF s'.heap θ' μ' acc us/\jJ (fun d k=>bindC n tt d (QF cap ρ) k) cw ew g (xs.drop j) acc μ' fun vs μ2=>newL m vs μ2 Qd) ?_ xs.length
   ⟨0,[],[],aV n none,⟨θ.cs,D::θ.ex⟩,μ,0,rfl,iH _,aL _,by simp,i0,G.exr (g0.trans (cB (tk:=s.toks) old)) rfl ⟨fun b z=>mH.mpr ⟨jZ _ (g0.ex.1 b z),fun q=>by obtain⟨o,e⟩:=i.dD.bnd b (.inl (g0.ex.1 b z));rw[q,none_ (aL _)]at e;cases e⟩,fun b z=>by obtain⟨y,n⟩:=mH.mp z;exact g0.ex.2 b ((aO.mp y).resolve_left n)⟩,⟨yM,fun z=>(aO.mp z).elim (j8 Xz) fun z=>fC.2 (.inl z)⟩,W.mono st kp0 (fun b z=>jZ _ z) fun b _ o e=>old b o e,fun b z=>⟨(hf b z).2.1.1,(hf b z).2.1.2.imp id fun y q=>(aO.mp q).elim (fp' b z).2 y⟩,eD,fun z=>fD.2 (.inr z),.nil,h⟩
  .rintro k s1 ⟨j,acc,us,ρs,θ1,μ1,nn,rfl,hj,hu,hρ,i1,g1,ex1,st1,nl1,e1,lD,rs,hw⟩
   have w1:=i1.dD;have own:∀ b,b∈fp∨b=D->¬(cX X Nc scope cf h1.objs.size).own b:=fun b z y=>by
    have f:DY (cX X Nc scope cf h1.objs.size) b:=z.elim (fun z=>(fp' b z).1) fun z=>z▸fpD;rcases y with y|⟨x,_,e⟩
    .exact f.2.2.1 y
    .exact f.2.2.2 x b e rfl
   have dfp:D∉fp:=fun z=>(fp' D z).2 rfl;have frN:∀ b∈fp,s0.heap.get? b=none:=fun b z=>(hf b z).2.2;by_cases hlt:j<xs.length
   .rw[zQ hlt]at hw
    obtain⟨W3,hw⟩:=hw;refine oX (W.item (Q2:=fun u s3=>∃ h' tk,s3={s1 with heap:=h',toks:=tk}/\(∀ b o,b∉fp->s1.heap.get? b=some o->h'.get? b=some o)/\S (j+1) θ1 μ1 h'/\Rp h' θ1 μ1 xs[j] u) st1 w1 (fun b z=>(nl1 b z).1) W3 (bI hlt)
     fun ke st3 r3=>⟨_,_,rfl,ke,st3,r3⟩) (fun r s3 ⟨u,hr,h3⟩=>?_) fun _ _ x=>x
    subst hr;refine oX h3 (fun _ s4 ⟨h',tk,e4,ke,st4,r4⟩=>?_) fun _ _ x=>x;subst e4;obtain⟨i4,kp4⟩:=i1.turn (tk:=tk) (fun b z=>⟨(fp' b z).1,(nl1 b z).1⟩) (W.ho st1) ke fun b _ z=>let⟨o,x,_⟩:=W.obj st4 b z;⟨o,x⟩;have g4:G (fun _=>False) (frs X.stack) θ0 μ0 s0 (θ1.del D) μ1 {s1 with heap:=h',toks:=tk}:=zf g1 frN ke;have e4:=ke D _ dfp e1;have rs4:=kp4.Fi rs;obtain⟨mC,⟨oC,_,_,eC,_⟩,_⟩:=i4.loc;replace eC:h'.get? h1.objs.size=some oC:=eC;have stp:∀ {θ' μ' s'},GS (cX X Nc scope cf h1.objs.size) θ1 μ1 {s1 with heap:=h',toks:=tk} θ' μ' s'->G (fun _=>False) (frs X.stack) θ0 μ0 s0 (θ'.del D) μ' s'/\(D∈θ'.ex/\h1.objs.size∉θ'.ex)/\S (j+1) θ' μ' s'.heap/\(∀ b∈fp,¬qy θ' μ' b/\(b∈fx∨b∉θ'.ex))/\
      s'.heap.get? D=some {cls:=.type "list",data:=.seq us.toArray nn}/\¬qy θ' μ' D/\dF s'.heap θ' μ' acc us:=fun {θ' μ' s'} gs=>by
     have kept:∀ b,(b∈fp∨b=D)->¬qy θ1 μ1 b->b∉frs X.stack->∀ o,h'.get? b=some o->s'.heap.get? b=some o/\¬qy θ' μ' b:=fun b z l f o e=>by obtain⟨l',sl,q,w⟩:=gs.keep b o e l (own b z);rw[w f]at q;exact⟨q,l'⟩
     have kpf:∀ b∈fp,∀ o,h'.get? b=some o->s'.heap.get? b=some o/\¬qy θ' μ' b:=fun b z=>kept b (.inl z) (nl1 b z).1 (hf b z).1.2.1;obtain⟨k1,k2⟩:=kept D (.inr rfl) lD fD.1.2.1 _ e4;refine⟨ajY g4 gs amw,⟨gs.ex.1 D ex1.1,fun y=>(gs.ex.2 _ y).elim ex1.2 fun q=>by rw[show h'.get? _=none from q]at eC;cases eC⟩,W.mono st4 (i4.kpS gs) gs.ex.1 fun b z o e=>(kpf b z o e).1,fun b z=>?_,k1,k2,(i4.kpS gs).Fi rs4⟩;obtain⟨o,e,_⟩:=W.obj st4 b z;exact⟨(kpf b z o e).2,(nl1 b z).2.imp id fun y q=>(gs.ex.2 b q).elim y fun q=>by rw[show h'.get? b=none from q]at e;cases e⟩
    refine hG cf h1.objs.size i4 r4 (ahu hn hρ hw) fun {ρ5 s5} i5 g5 ⟨⟨ρt,hρt,eρ⟩,q5⟩=>?_;subst eρ;refine hT cf h1.objs.size i5 q5 fun {t t' s6 θ6 μ6} i6 g6 r6 h6=>?_;cases r6;cases t with
    |false=>rw[if_neg dM]at h6 ⊢;obtain⟨a1,a2,a3,a4,a5,a6,a7⟩:=stp (g5.trans g6.gs);exact⟨xs.length -(j+1),by omega,j+1,acc,us,ρt,θ6,μ6,nn,rfl,hlt,by omega,hρt,i6,a1,a2,a3,a4,a5,a6,a7,h6⟩|true=>
     rw[if_pos rfl]at h6 ⊢;refine hE cf h1.objs.size i6 h6 fun {d u7 s7 θ7 μ7} i7 g7 r7 h7=>?_;obtain⟨a1,a2,a3,a4,a5,a6,a7⟩:=stp (g5.trans (g6.trans g7).gs);refine jm Vf ⟨_,a5,rfl⟩ acX (ac7 _ _) (acC D us.toArray nn u7 (by rw[cJ];omega)) ⟨a5,?_⟩;have q:=acn a5 (fun a=>a.push u7);rw[show us.toArray.push u7=(us++[u7]).toArray by simp]at q;have kk:∀ b o,b∉[D]->s7.heap.get? b=some o->(s7.heap.update D (yr fun a=>a.push u7)).get? b=some o:=fun b o hb e=>(wW s7.heap _ (bN (by simpa using hb))).trans e;have dx:D∈θ7.ex:=a2.1;(obtain⟨i8,kp8⟩:=i7.turn (fp:=[D]) (tk:=s7.toks) (fun b z=>by cases cO.mp z;exact⟨fpD,a6⟩) (fun b z=>by cases cO.mp z;exact .inl dx) kk fun b _ z=>by cases cO.mp z;exact⟨_,q⟩);exact⟨xs.length -(j+1),by omega,j+1,acc++[d],us++[u7],ρt,θ7,μ7,_,rfl,hlt,by simp;omega,hρt,i8,zf a1 (fp:=[D]) (fun b z=>by cases cO.mp z;exact g0.Ij (none_ (aL _))) kk,a2,
      W.mono a3 kp8 (fun _ z=>z) fun b z o e=>kk b o (fun y=>dfp (cO.mp y▸z)) e,a4,q,a6,(kp8.Fi a7).append (.one (kp8.rp r7)),h7⟩
   .have e:j=xs.length:=by omega
    subst e;rw[ace]at hw;obtain⟨W3,hw⟩:=hw;refine W.done (Q:=_) st1 w1 i1.e.hds (fun b z=>(nl1 b z).1) W3 fun {h' tk} ke te=>?_;obtain⟨i4,kp4⟩:=i1.turn (tk:=tk) (fun b z=>⟨(fp' b z).1,(nl1 b z).1⟩) (W.ho st1) ke fun b y z=>te b ((nl1 b z).2.resolve_right fun q=>q y);have g4:G (fun _=>False) (frs X.stack) θ0 μ0 s0 (θ1.del D) μ1 {s1 with heap:=h',toks:=tk}:=zf g1 frN ke;have e4:=ke D _ dfp e1;have rs4:=kp4.Fi rs;obtain⟨mC,hnC,_⟩:=i4.loc;have hu':us.length<=sizeLine:=jc hu hlen;have exO:∀ b∈(θ1.del D).ex,(∃ o,h'.get? b=some o)/\¬qy θ1 μ1 b/\b≠D:=fun b z=>by obtain⟨y,q⟩:=mH.mp z;exact⟨i4.dD.bnd b (.inl y),i4.dD.exc b y,q⟩
    have dx:D∈θ1.ex:=ex1.1;have cN:h1.objs.size∉(θ1.del D).ex:=fun z=>ex1.2 (mH.mp z).1;cases m with
    |false=>have kpE:Kp θ1 μ1 h' (θ1.del D) μ1 h':=⟨fun _ _ e=>e,fun b o e f l=>⟨e,fun y=>y.elim (fun y=>l (.inl (mH.mp y).1)) fun y=>l (.inr y)⟩⟩;have wE:qx X.T (θ1.del D) μ1 h':=qx.ex i4.dD kpE (fun _ _ _ e=>e) fun b z=>⟨(exO b z).1,(exO b z).2.1⟩;exact fin (d:=.lst acc) (θ':=θ1.del D) (μ':=μ1) (s':={s1 with heap:=h',toks:=tk}) fC.1 (fun y=>y.elim cN i4.nl) (g0.Ij (none_ (yw Xz))) hnC (i00.to g4 wE i4.e.bare) g4 ⟨D,us,rfl,⟨hu',nn,e4⟩,fun y=>y.elim (fun y=>(exO D y).2.2 rfl) lD,kpE.Fi rs4⟩ hw
    |true=>
     have kpE:Kp θ1 μ1 h' ⟨θ1.cs++[(D,D)],(θ1.del D).ex⟩ (μ1++[.lst acc]) h':=⟨fun _ _ e=>jQ e,fun b o e f l=>⟨e,fun y=>y.elim (fun y=>l (.inl (mH.mp y).1)) (Ah i4.dD (p:=(D,D)) (fun y=>l (.inr y)) (fun q=>l (.inl (q▸dx))) fun q=>l (.inl (q▸dx)))⟩⟩;have wE:qx X.T ⟨θ1.cs++[(D,D)],(θ1.del D).ex⟩ (μ1++[.lst acc]) h':=qx.add i4.dD kpE lD lD (fun _ _ _ e=>e) (fun b z=>⟨(exO b z).1,(exO b z).2.1,(exO b z).2.2,(exO b z).2.2⟩) (fun b z=>by have z:b=D:=z.elim id id;rw[z];exact⟨_,e4⟩) ⟨us,⟨hu',nn,e4⟩,kpE.Fi rs4,rfl⟩;have gE:G0 X θ0 μ0 s0 ⟨θ1.cs++[(D,D)],(θ1.del D).ex⟩ (μ1++[.lst acc]) {s1 with heap:=h',toks:=tk}:=⟨fun n p e=>jQ (g4.pre n p e),fun b o e l v=>by obtain⟨l',sl,q,w⟩:=g4.keep b o e l v;(have nD:b≠D:=fun z=>by rw[z,g0.Ij (none_ (aL _))]at e;cases e);exact⟨Ah i4.dD (p:=(D,D)) l' nD nD,sl,q,w⟩,g4.there,fun n c e f=>jQ (g4.stay n c e f),g4.os,g4.ex⟩
     have cD:h1.objs.size≠D:=j8 Xz;exact fin (d:=.loc μ1.length) (θ':=⟨θ1.cs++[(D,D)],(θ1.del D).ex⟩) (μ':=μ1++[.lst acc]) (s':={s1 with heap:=h',toks:=tk}) fC.1 (fun y=>y.elim cN (Ah i4.dD (p:=(D,D)) i4.nl cD cD)) (g0.Ij (none_ (yw Xz))) hnC (i00.to gE wE i4.e.bare) gE ⟨(D,D),rfl,by rw[<-i4.dD.len];simp⟩ (show Qd (.loc μ1.length) (μ1++[.lst acc])from hw)
 exact codeAny_compStart_list loop (W.self (W.mono st kp0 (fun b z=>jZ _ z) fun b _ o e=>old b o e) loop)
theorem Mg (T:vZ X n scope Nc cap) (i:Iv X ρ θ μ s):∃ cl,Ux scope X.env=pure cl/\(∀ y c,cl.lookup y=some c->X.env.cells.lookup y=some c)/\∀ y∈scope.names,y.2= .free->(cl.lookup y.1).isSome=true:=
 nA fun y hy hf=>i.ok.has y.1 (T.free y hy hf)
theorem aah {C:Addr} {h':Heap} {mC:Str->Option Value} {tk:Nat} (i:Iv X ρ θ μ s) (g:G (fun _=>False) (frs X.stack) θ0 μ0 s0 θ μ s) (fC:DY X C) (nl:¬J8 θ μ C) (h0:s0.heap.get? C=none) (hn:s.heap.Ns C mC) (sb:NT C s.heap h'):
  Iv X ρ θ μ {s with heap:=h',toks:=tk}/\G (fun _=>False) (frs X.stack) θ0 μ0 s0 θ μ {s with heap:=h',toks:=tk}/\Kp θ μ s.heap θ μ h':=by
 have k:∀ b o,b∉[C]->s.heap.get? b=some o->h'.get? b=some o:=fun b o z e=>(sb.2 b (by simpa using z)).trans e;obtain⟨o,_,_,e,d,_⟩:=hn;obtain⟨i',kp⟩:=i.turn (fp:=[C]) (tk:=tk) (fun b z=>by cases cO.mp z;exact⟨fC,fun y=>nl (.inr y)⟩) (fun b z=>by cases cO.mp z;exact .inr ⟨o,e,pq d⟩) k fun b y z=>by cases cO.mp z;exact(nl (.inl y)).elim
 exact⟨i',zf g (fp:=[C]) (fun b z=>by cases cO.mp z;exact h0) k,kp⟩
theorem agI {wi:WI} (T:vZ X n scope Nc cap) (hn:tt=false->n=1) (hi:PI X tg iter wi) (hG:∀ cl C,PG (cX X Nc scope cl C) tg (fun d ρ k=>dg (aN n) tt d ρ k)) (hT:∀ cl C,PIf (cX X Nc scope cl C) ifs cw) (hE:∀ cl C,PE (cX X Nc scope cl C) elt ew)
  (hs:∀ v,Ol iter X.env v=pure v):PE X (.ListComp elt [⟨tg,iter,ifs,0⟩] scope pos) (fun ρ μ Q=>wi ρ μ fun ds g μ1=>jJ (fun d k=>bindC n tt d (QF cap ρ) k) cw ew g ds [] μ1 fun vs μ2=>newL m vs μ2 Q):=fun {s ρ θ μ Qd Q E} i h f=>by
 rw[eval_ListComp];obtain⟨cl,e1,e2,e3⟩:=Mg T i;refine adD (use:=none) rfl hs e1 T.kind T.names (hi i h fun {xs g s1 θ1 μ1 it fp fx S} i1 g1 W st hf hl h1=>?_);exact Tq (RR:=fun acc C=>compPost X.M X.A E none Q acc C) T hn e2 e3 i g1 i1 W st hf hl hG hT hE h1 fun {C mC d u s' θ' μ'} fC nl h0 hnC i2 g2 r2 q2=>⟨mC,hnC,fun h' sb=>by obtain⟨i3,g3,kp⟩:=aah (tk:=s'.toks) i2 g2 fC nl h0 hnC sb;exact f i3 g3 (kp.rp r2) q2⟩
theorem Wn {wi:WI} {j:Nat} {t:Str} {pt pos2:Pos} (T:vZ X n scope Nc cap) (hn:tt=false->n=1) (hi:PI X tg iter wi) (hG:∀ cl C,PG (cX X Nc scope cl C) tg (fun d ρ k=>dg (aN n) tt d ρ k)) (hT:∀ cl C,PIf (cX X Nc scope cl C) ifs cw) (hE:∀ cl C,PE (cX X Nc scope cl C) elt ew)
  (hs:∀ v,Ol iter X.env v=pure v) (hN:X.N.Nodup) (hti:X.N[j]?=some t) (htl:X.env.scope.names.lookup t=some .local) (hsw:yp (.ListComp elt [⟨tg,iter,ifs,0⟩] scope pos) (some (.Name t pt)) pos2.line X.env=pure true):
  PS X (.Assign [.Name t pt] (.ListComp elt [⟨tg,iter,ifs,0⟩] scope pos) pos2) (fun Z ρ μ=>wi ρ μ fun ds g μ1=>jJ (fun d k=>bindC n tt d (QF cap ρ) k) cw ew g ds [] μ1 fun vs μ2=>newL m vs μ2 fun d μ3=>Z.nx (ρ.set j (some d)) μ3):=fun {s ρ θ μ Z Q E} hp i h f=>by
 rw[exec_Assign_Name_used _ _ _ _ hsw];obtain⟨cl,e1,e2,e3⟩:=Mg T i;refine ao (wpAny_standAt (ao ?_));show ak _ X.A (do let _<-comprehension (.ListComp elt [⟨tg,iter,ifs,0⟩] scope pos) scope X.env _ (newList []) false (eval iter X.env) (some (rK (.Name t pt) X.env))) _ _ s;refine ao (oX (adD (use:=some (rK (.Name t pt) X.env)) (Q:=fun _ s'=>Q .next s') rfl hs e1 T.kind T.names
  (hi i h fun {xs g s1 θ1 μ1 it fp fx S} i1 g1 W st hf hl h1=>?_)) (fun _ s' q=>aD (aD q)) fun _ _ e=>e)
 refine Tq (Qd:=fun d μ3=>Z.nx (ρ.set j (some d)) μ3) (RR:=fun acc C=>compPost X.M X.A E (some (rK (.Name t pt) X.env)) (fun _ s'=>Q .next s') acc C) T hn e2 e3 i g1 i1 W st hf hl hG hT hE h1 fun {C mC d u s' θ' μ'} fC nl h0 hnC i2 g2 r2 q2=>?_;show ak _ X.A (rK (.Name t pt) X.env u) _ _ s';refine VB (uo i2 hN hti (.inl htl) r2 fun {s4} i4 g4=>?_);obtain⟨o,es,ep,e,d',sk,fd⟩:=id hnC;have own:¬X.own C:=fun y=>by
  rcases y with y|⟨x,_,e⟩
  .exact fC.2.2.1 y
  .exact fC.2.2.2 x C e rfl
 obtain⟨_,sl,q,w⟩:=g4.keep C o e (fun y=>nl (.inr y)) own;have hn4:s4.heap.Ns C mC:=⟨_,es,ep,q,d',sk,fd⟩;refine⟨mC,hn4,fun h' sb=>?_⟩;have k:∀ b o,b∉[C]->s4.heap.get? b=some o->h'.get? b=some o:=fun b o z e=>(sb.2 b (by simpa using z)).trans e;obtain⟨i5,kp⟩:=i4.turn (fp:=[C]) (h':=h') (tk:=s4.toks) (fun b z=>by cases cO.mp z;exact⟨fC,fun y=>nl (.inr y)⟩) (fun b z=>by cases cO.mp z;exact .inr ⟨_,q,pq d'⟩) k fun b y z=>by cases cO.mp z;exact(nl (.inl y)).elim
 exact f.nx i5 (zf (g2.gs.trans g4) (fp:=[C]) (fun b z=>by cases cO.mp z;exact h0) k) q2
end
end DW
namespace DW
open PySem
def aF (N:List Str) (ds:List D):dJ:=ds.map some++aV (N.length -ds.length) none
def cC (Q:QD):dO:=⟨fun _ μ=>Q .non μ,Q,fun _ _=>False,fun _ _=>False,fun _ _ _ _ _=>False⟩
def akH (Q:QD) (X:QX):dO:=⟨fun _ μ=>Q .non μ,Q,fun _ _=>False,fun _ _=>False,fun _=>X⟩
def Keeps (N:List Str) (i:Ss) (sp:dZ):Prop:=∀ ds μ Q,sp ds μ Q->wSs i (cC Q) (aF N ds) μ
def afE (N:List Str) (i:Ss) (sp:zx):Prop:=∀ ds μ Q X,sp ds μ Q X->wSs i (akH Q X) (aF N ds) μ
def K7:dZ:=fun ds μ Q=>∃ ns:List Int,ds=[.ro (ns.map D.int)]/\ns.length<=63/\∀ μ',Q (.bl true) μ'
theorem bK (Inv:List D->dJ->Mem->Prop)
  (hs:∀ d ds ρ μ N,(∀ ρ μ,Inv ds ρ μ->N ρ μ)->Inv (d::ds) ρ μ->g μ/\bnd d ρ fun ρ'=>bw {Z with nx:=N,ct:=N,bk:=Z.nx} ρ' μ)
  (he:∀ ρ μ,Inv [] ρ μ->g μ/\Z.nx ρ μ):∀ (ds:List D) (ρ:dJ) (μ:Mem),Inv ds ρ μ->Ea bnd bw g Z ds ρ μ
 |[],ρ,μ,h=>he ρ μ h|d::ds,ρ,μ,h=>hs d ds ρ μ _ (fun ρ μ q=>bK Inv hs he ds ρ μ q) h
theorem lR (Inv:List D->List D->Mem->Prop)
  (hs:∀ d ds acc μ (Y:D->Mem->Prop) (N:Mem->Prop),(∀ v μ,Inv ds (acc++[v]) μ->Y v μ)->(∀ μ,Inv ds acc μ->N μ)->Inv (d::ds) acc μ->g μ/\bnd d fun ρ=>cw ρ μ fun b μ1=>if b=true then ew ρ μ1 (fun v μ2=>Y v μ2)else N μ1)
  (he:∀ acc μ,Inv [] acc μ->g μ/\Q acc μ):∀ (ds acc:List D) (μ:Mem),Inv ds acc μ->jJ bnd cw ew g ds acc μ Q
 |[],acc,μ,h=>he acc μ h|d::ds,acc,μ,h=>hs d ds acc μ (fun v μ2=>jJ bnd cw ew g ds (acc++[v]) μ2 Q) (fun μ1=>jJ bnd cw ew g ds acc μ1 Q) (fun v μ q=>lR Inv hs he ds (acc++[v]) μ q) (fun μ q=>lR Inv hs he ds acc μ q) h
theorem Bx (p:D->Bool) (f:D->D) (hg:g μ):
  ∀ (ds acc:List D),(∀ d∈ds,∀ (Y:D->Mem->Prop) (N:Mem->Prop),(if p d=true then Y (f d) μ else N μ)->bnd d fun ρ=>cw ρ μ fun b μ1=>if b=true then ew ρ μ1 (fun v μ2=>Y v μ2)else N μ1)->
   Q (acc++(ds.filter p).map f) μ->jJ bnd cw ew g ds acc μ Q
 |[],acc,_,h=>⟨hg,by simpa using h⟩|d::ds,acc,hs,h=>by
  refine⟨hg,hs d (by simp) (fun v μ2=>jJ bnd cw ew g ds (acc++[v]) μ2 Q) (fun μ1=>jJ bnd cw ew g ds acc μ1 Q) ?_⟩;by_cases q:p d=true
  .rw[if_pos q]
   refine Bx p f hg ds _ (fun e he=>hs e (by simp[he])) ?_;rw[adz q]at h;simpa using h
  .rw[if_neg q]
   refine Bx p f hg ds _ (fun e he=>hs e (by simp[he])) ?_;rw[ady q]at h;exact h
theorem d8 (c:α->D) (p:α->Bool) (f:α->D) (hg:g μ):
  ∀ (l:List α) (acc:List D),(∀ x∈l,∀ (Y:D->Mem->Prop) (N:Mem->Prop),(if p x=true then Y (f x) μ else N μ)->bnd (c x) fun ρ=>cw ρ μ fun b μ1=>if b=true then ew ρ μ1 (fun v μ2=>Y v μ2)else N μ1)->
   Q (acc++(l.filter p).map f) μ->jJ bnd cw ew g (l.map c) acc μ Q
 |[],acc,_,h=>⟨hg,by simpa using h⟩|d::ds,acc,hs,h=>by
  refine⟨hg,hs d (by simp) (fun v μ2=>jJ bnd cw ew g (ds.map c) (acc++[v]) μ2 Q) (fun μ1=>jJ bnd cw ew g (ds.map c) acc μ1 Q) ?_⟩;by_cases q:p d=true
  .rw[if_pos q]
   refine d8 c p f hg ds _ (fun e he=>hs e (by simp[he])) ?_;rw[adz q]at h;simpa using h
  .rw[if_neg q]
   refine d8 c p f hg ds _ (fun e he=>hs e (by simp[he])) ?_;rw[ady q]at h;exact h
theorem fj (c:α->D) (f:α->D) (hg:g μ)
  (l:List α) (acc:List D) (hs:∀ x∈l,∀ (Y:D->Mem->Prop) (N:Mem->Prop),Y (f x) μ->bnd (c x) fun ρ=>cw ρ μ fun b μ1=>if b=true then ew ρ μ1 (fun v μ2=>Y v μ2)else N μ1)
  (h:Q (acc++l.map f) μ):jJ bnd cw ew g (l.map c) acc μ Q:=
 d8 c (fun _=>true) f hg l acc (fun x hx Y N q=>hs x hx Y N (by simpa using q)) (by rw[Cz.mpr (by simp)];exact h)
theorem ou (g:α->Int):∀ l:List α,gJ (l.map fun x=>D.int (g x))=some (l.map g)
 |[]=>rfl|x::l=>by simp[gJ,ou g l]
theorem gO (l:List Int):gJ (l.map D.int)=some l:=by have:=ou (fun i:Int=>i) l;simpa using this
theorem dI (h:k<n):pG n (k:Int)=some k:=by
 have:(k:Int)<n:=by omega
 simp[pG,this]
theorem ajO {n:Nat} {i:Int} (h0:0<=i) (h:i<n):pG n i=some i.toNat:=by simp[pG,h0,h]
theorem Mf (xs:List α) (h:0<=i):cutD xs (some i) none=xs.drop i.toNat:=by
 have h2:¬i<0:=by omega
 simp only[cutD,ni,h2,if_false];by_cases q:i.toNat<=xs.length
 .rw[Od q];exact zO (by simp)
 .rw[CQ (by omega),CQ (by omega)];simp
theorem dG (n:Nat):jh 0 n=(aN n).map fun(k:Nat)=>D.int (k:Int):=by simp[jh]
open PySem.Spec PyProof.Rows
open L2 (aQ Key frs rG Loc Look Mod rH cV eZ JW DQ DR)
def fX (T:Top) (N:List Str) (qual:Str) (scope:Scope) (L f:Addr) (cd:Value) (A:aX) (outer:List Env):Cx where
 T:=T
 A:=A.deeper (uK qual scope L f cd)
 N:=N
 env:=uK qual scope L f cd
 stack:=uK qual scope L f cd::outer
 calm:=A.handled.isNone
 oc:=fun _=>true
section
variable {T:Top} {N ps:List Str} {qual:Str} {scope:Scope} {L f b:Addr} {cd:Value} {A:aX} {outer stack:List Env} {s s1 s':aj} {θ θ':Th} {μ μ':Mem} {ds:List D} {us:List Value} {h':Heap} {ρ:dJ} {env:Env} {tk:Nat}
theorem aeS (S:eZ N ps scope) (e0:E0 T A outer θ μ s) (hl:ds.length=ps.length) (r:dF s.heap θ μ ds us)
  (x:InCallC s s.heap.objs.size (uJ (uK qual scope s.heap.objs.size f cd).kindOf (ps.zip us) fun _=>none) (jE (s.heap.objs.size+1) scope.names []) (PySem.bindC (uK qual scope s.heap.objs.size f cd).kindOf (ps.zip us) fun _=>none) s1):
  Iv (fX T N qual scope s.heap.objs.size f cd A outer) (aF N ds) θ μ s1:=by
 have hpl:ps.length<=N.length:=by have:=congrArg fK S.pre;rw[rZ]at this;omega
 obtain⟨h1,tk,rfl⟩:=x.toInCall.same;have hk:=x.toInCall.keep;have kp:Kp θ μ s.heap θ μ h1:=iV hk;have fr:∀ {b},s.heap.objs.size<=b->T.base.get? b=none/\¬qy θ μ b:=fun {b} hb=>by
  refine⟨?_,fun z=>e0.dD.Fj hb (.inr z)⟩;cases e:T.base.get? b with
  |none=>rfl|some o=>exact absurd (fM (dw (e0.bs b o e).1) hb) (lu _)
 obtain⟨oL,es,ep,eL,dL,_⟩:=id x.toInCall.ns;refine⟨⟨S.kind,rfl,rfl,fun y z c h1 h2=>abz x.apart (pU h1) (pU h2),fun y hy=>?_,fun z=>adJ.mp z,(fr (aL _)).1,fun y c h=>(fr (yw (x.above y c (pU h)))).1⟩,
  ⟨e0.mod,ac5 e0.frames,e0.bare,fun b o e=>⟨hk b o (e0.bs b o e).1,(e0.bs b o e).2⟩,fun v m=>?_,e0.dD.kept hk,e0.hh⟩,⟨_,x.toInCall.ns,fun i y d h1 h2 h3=>?_⟩,fun y c h=>⟨⟨_,x.cell y c h⟩,(fr (yw (x.above y c (pU h)))).2⟩,(fr (aL _)).2,?_⟩
 .have hy:scope.names.lookup y=some .cell∨scope.names.lookup y=some .free:=hy
  rcases hy with hy|hy
  .exact JW hy
  .exact absurd rfl (S.ajq _ (pU hy))
 .rcases aO.mp m with rfl|m
  .exact⟨by rw[show(uK qual scope s.heap.objs.size f cd).scope.kind= .function from S.kind];decide,_,oL,es,ep,rfl,(fr (aL _)).1,eL,dL,e0.dD.Fj (aL _)⟩
  .obtain⟨k,L,o,es,ep,q,nb,ho,hd,l⟩:=e0.stk v m
   exact⟨k,L,o,es,ep,q,nb,hk L o ho,hd,l⟩
 .have hi:i<ds.length:=by
   unfold aF at h2;by_cases hi:i<ds.length
   .exact hi
   .rw[jt (by simpa using hi),adA]at h2
    split at h2<;>cases h2
  have ha:ds[i]?=some d:=by
   unfold aF at h2;rw[cL (by simpa using hi),fW]at h2;cases e:ds[i]? with
   |none=>rw[e]at h2;cases h2
   |some a=>rw[e]at h2;cases h2;rfl
  obtain⟨u,hu,rv⟩:=r.get ha;have hp:ps[i]?=some y:=by rw[<-S.pre,List.getElem?_take_of_lt (by omega)];exact h1
  have ndP:ps.Nodup:=by rw[<-S.pre];exact S.nd.sublist (List.take_sublist _ _)
  refine⟨u,kp.rp rv,?_⟩;rcases S.par y (jr hp)with k|k
  .exact .inl ⟨k,DQ ndP hp hu k⟩
  .obtain⟨c,e⟩:=JW (n:=s.heap.objs.size+1) k
   refine .inr ⟨.inl k,c,e,?_⟩;have q:=x.cell y c e;rw[DR ndP hp hu (by show scope.names.lookup y≠_;rw[k];decide)]at q;exact q
 .unfold aF
  show _=N.length;rw[gV,aU,H8];omega
theorem afg (e:E0 T (A.deeper env) (env::outer) θ μ s) (fr:A.frames=some outer):E0 T A outer θ μ s:=
 ⟨e.mod,fr,e.bare,e.bs,fun v m=>e.stk v (jZ _ m),e.dD,e.hh⟩
theorem ae1 {V:Addr->Prop} (k:∀ b o,s.heap.get? b=some o->s1.heap.get? b=some o) (os:s1.os=s.os) (g:G V (frs (env::outer)) θ μ s1 θ' μ' s') (hv:∀ b,V b->s.heap.get? b=none) (hf:∀ b,env.frame=some b->s.heap.get? b=none):G (fun _=>False) (frs outer) θ μ s θ' μ' s' where
 pre:=g.pre
 keep:=fun b o e l _=>by
  obtain⟨l',sl,q,w⟩:=g.keep b o (k b o e) l fun z=>by rw[hv b z]at e;cases e
  refine⟨l',sl,q,fun z=>w fun y=>?_⟩;obtain⟨v,m,q⟩:=sG.mp y;rcases aO.mp m with rfl|m
  .rw[hf b q]at e;cases e
  .exact z (sG.mpr ⟨v,m,q⟩)
 there:=fun b o e=>g.there b o (k b o e)
 stay:=g.stay
 os:=g.os.trans os
 ex:=⟨g.ex.1,fun b z=>(g.ex.2 b z).imp id fun q=>by
  cases e:s.heap.get? b with
  |none=>rfl|some o=>rw[k b o e]at q;cases q⟩
theorem aha {c:String} {ks:List String} {es:List D} {e:Value} {Q:Unit->aj->Prop} {E:Value->aj->Prop} (fr:A.frames=some outer) (hf:env.frame=some L) (e0:E0 T (A.deeper env) (env::outer) θ' μ' s') (g:G (fun _=>False) (frs outer) θ μ s θ' μ' s') (hL:s.heap.get? L=none) (hb:∀ b o,T.base.get? b=some o->s.heap.get? b=some o)
  (fl:xM T (env::outer) s θ' μ' s' c ks es e) (k:∀ h',E0 T A outer θ' μ' {s' with heap:=h' }->G (fun _=>False) (frs outer) θ μ s θ' μ' {s' with heap:=h' }->xM T outer s θ' μ' {s' with heap:=h' } c ks es e->Q () {s' with heap:=h' }):
  ak (aH T.P T.w) (A.deeper env) (G6 env e) Q E s':=by
 obtain⟨B,ea,C,ob,vs,rfl,h2,h3,fx,h5,sB,wB,n1,h6⟩:=fl;refine agW (ac5 fr) hf fx fun h' fx' up=>?_;have st:∀ b o,s'.heap.get? b=some o->(∃ o',B.get? b=some o')->h'.get? b=some o:=fun b o e ⟨o',q⟩=>by have:=fx.stay b o' q;rw[e]at this;cases this;exact fx'.stay b o q
 have frN:∀ b o,s.heap.get? b=some o->b∉frs outer->b∉frs (env::outer):=fun b o e z y=>by
  obtain⟨v,m,q⟩:=sG.mp y;rcases aO.mp m with rfl|m
  .rw[hf]at q;cases q;rw[hL]at e;cases e
  .exact z (sG.mpr ⟨v,m,q⟩)
 have old:∀ b o o',s.heap.get? b=some o->s'.heap.get? b=some o'->b∉frs outer->h'.get? b=some o':=fun b o o' e e' z=>st b o' e' (sB b o e (frN b o e z));have aen:∀ {o:Obj} {es ep},o.data= .dict es ep->∀ vs,o.data≠.fields vs:=fun q vs z=>by rw[q]at z;cases z
 have g':G (fun _=>False) (frs outer) θ μ s θ' μ' {s' with heap:=h' }:=⟨g.pre,fun b o e l v=>by
  obtain⟨l',sl,q,w⟩:=g.keep b o e l v;by_cases z:b∈frs outer
  .obtain⟨v,m,hb⟩:=sG.mp z
   obtain⟨_,L',o2,es,ep,q',_,ho,hd,_⟩:=e0.stk v (jZ _ m);rw[hb]at q';cases q';rw[q]at ho;cases ho;obtain⟨sl2,q2⟩:=up b _ q (aen hd);exact⟨l',sl2,q2,fun y=>(y z).elim⟩
  .exact⟨l',sl,old b o _ e q z,w⟩,fun b o e=>by
  obtain⟨o',q⟩:=g.there b o e;by_cases z:b∈frs outer
  .obtain⟨v,m,hb⟩:=sG.mp z
   obtain⟨_,L',o2,es,ep,q',_,ho,hd,_⟩:=e0.stk v (jZ _ m);rw[hb]at q';cases q';obtain⟨sl2,q2⟩:=up b _ ho (aen hd);exact⟨_,q2⟩
  .exact⟨o',old b o o' e q z⟩,g.stay,g.os,g.ex⟩
 refine k h' ⟨e0.mod,fr,e0.bare,fun b o e=>?_,fun v m=>?_,wB.kept fx'.stay,fun v q=>e0.hh v q⟩ g' ⟨B,ea,C,ob,vs,rfl,h2,h3,fx',h5,fun b o e z=>sB b o e (frN b o e z),wB,n1,h6⟩
 .obtain⟨e1,l⟩:=e0.bs b o e
  refine⟨old b o o (hb b o e) e1 (fun z=>?_),l⟩;obtain⟨v,m,q⟩:=sG.mp z;obtain⟨_,L',_,_,_,q',nb,_⟩:=e0.stk v (jZ _ m);rw[q]at q';cases q';rw[nb]at e;cases e
 .obtain⟨k1,L',o,es,ep,q,nb,ho,hd,l⟩:=e0.stk v (jZ _ m)
  obtain⟨sl,q2⟩:=up L' o ho (aen hd);exact⟨k1,L',_,es,ep,q,nb,q2,hd,l⟩
theorem alw {k:Nat} {name:Str} {params:Arguments} {body:List Stmt} {dV kV doc pm cdv ct oc:Value} {an od:Option Addr} {osl:Array (Option Value)} {sp:zx} {i:Ss} (lk:T.K.lookup f=some ⟨oc,od,.func (jH name qual params body scope dV kV doc pm an cdv ct),osl⟩) (hcd:Hy T.K cdv qual=true)
  (S:eZ N ps scope) (len:∀ {ds μ Q X},sp ds μ Q X->ds.length=ps.length) (hk:afE N i sp) (hbd:∀ (A:aX) (outer:List Env) (L:Addr),cV k (A.deeper (uK qual scope L f cdv))->PSs (fX T N qual scope L f cdv A outer) body (wSs i)):
  mY T (k+1) f (jH name qual params body scope dV kV doc pm an cdv ct) ps sp:=by
 refine⟨len,fun {A outer s θ μ args us ds Qd Xd R} hr e0 hb r hsp fr fe=>?_⟩;have KX:T.K.In s.heap:=e0.vU;have hkind:∀ y∈ps.zip us,scope.names.lookup y.1=some .local∨(scope.names.lookup y.1=some .cell/\((jE (s.heap.objs.size+1) scope.names []).lookup y.1).isSome=true):=fun⟨n,v⟩ hy=>by
  rcases S.par n (Vp hy).1 with q|q
  .exact .inl q
  .exact .inr ⟨q,adu _ _ _ (.inl q)⟩
 refine codeAny_call_function hr.depth (KX _ _ lk) rfl S.co S.gen rfl (PySem.W.codeRec_of KX hcd) (hb _ _ _ _ ?_);refine wpAny_newFunctionEnv_cells S.kind hkind fun env he s1 x=>?_;subst he;refine⟨e0.lim.keeps x.toInCall.keep,codeAny_func ?_⟩;have I:=aeS (N:=N) S e0 (len hsp) r x;have hk':=x.toInCall.keep;have no:∀ {b},s.heap.objs.size<=b->s.heap.get? b=none:=fun {b} hb=>by
  cases e:s.heap.get? b with
  |none=>rfl|some o=>exact absurd (fM (dw e) hb) (lu _)
 have os1:s1.os=s.os:=by obtain⟨_,_,rfl⟩:=x.toInCall.same;rfl
 have own:∀ b,(fX T N qual scope s.heap.objs.size f cdv A outer).own b->s.heap.get? b=none:=fun b z=>by
  rcases z with rfl|⟨y,_,e⟩
  .exact no (aL _)
  .exact no (yw (x.above y b (pU e)))
 have frm:∀ b,(uK qual scope s.heap.objs.size f cdv).frame=some b->s.heap.get? b=none:=fun b z=>by cases z;exact no (aL _)
 exact hbd A outer s.heap.objs.size (hr.deeper _) PassesOwn.leaving I (hk ds μ Qd Xd hsp)
  ⟨fun i g q=>fr (afg i.e e0.frames) (ae1 hk' os1 g own frm) BX q,fun _ _ q=>q.elim,fun _ _ q=>q.elim,fun i g r q=>fr (afg i.e e0.frames) (ae1 hk' os1 g own frm) r q,
   fun i g fl q=>aha e0.frames rfl i.e (ae1 hk' os1 g own frm) (no (aL _)) (fun b o e=>(e0.bs b o e).1) (fl.at.mono fun b o e=>⟨o,hk' b o e⟩) fun h' e g fl=>fe e g fl q⟩
end
end DW
namespace DW
open PySem PySem.Spec PyProof.Rows
section
variable {prog:cg} {w:bA} {A:aX} {E:Value->aj->Prop} {s:aj}
theorem Ik (hit:s.heap.IsTupleIter it t i) (ht:s.heap.IsTuple t items) (hx:items[i]?=some x)
  (hQ:∀ h',h'.IsTupleIter it t (i+1)->NT it s.heap h'->Q x {s with heap:=h' }):ak (aH prog w) A (zP (.ref it)) Q E s:=by
 obtain⟨o,ho,hc,hd⟩:=id hit;obtain⟨ol,hol,_,nl,hdl⟩:=ht;unfold zP;refine ao (tQ (name:=aC "__next__") hit.typeIs Pk
  (qJ Pk hit.typeIs adU ?_ (adY _)))
 show ak _ _ (iC (.ref it) 0>>=_) _ _ s;refine ao (dK ho hd (x:=.ref t) rfl ?_);show ak _ _ (if(jF t==iB)=true then _ else _) _ _ s;rw[if_neg (show¬((jF t==iB)=true)from dM)];show ak _ _ (iC (.ref it) 1>>=_) _ _ s;refine ao (dK ho hd (x:=.int i 0) rfl ?_);show ak _ _ (Hf (.ref t)>>=_) _ _ s;refine ao (nu hol hdl ?_);simp only[qK,hx];refine ao (Hx ho hd (by simp) (aD ⟨x,rfl,aD (hQ _ ?_ (V1 ..))⟩));exact⟨_,CN _ ho (Obj.isFreed_of_fields (acI hd _)),(Obj.cls_mapFields ..).trans hc,by rw[acI hd];simp[fO]⟩
theorem uY (hh:A.handled=none) (hit:s.heap.IsTupleIter it t i) (ht:s.heap.IsTuple t items) (hx:items[i]?=none)
  (hE:∀ h' e,NK it s.heap h'->(∃ o,h'.get? e=some o/\o.cls= .type "StopIteration")->E (.ref e) {s with heap:=h' }):ak (aH prog w) A (zP (.ref it)) Q E s:=by
 obtain⟨o,ho,hc,hd⟩:=id hit;obtain⟨ol,hol,_,nl,hdl⟩:=ht;unfold zP;refine ao (tQ (name:=aC "__next__") hit.typeIs Pk
  (qJ Pk hit.typeIs adU ?_ (adY _)))
 show ak _ _ (iC (.ref it) 0>>=_) _ _ s;refine ao (dK ho hd (x:=.ref t) rfl ?_);show ak _ _ (if(jF t==iB)=true then _ else _) _ _ s;rw[if_neg (show¬((jF t==iB)=true)from dM)];show ak _ _ (iC (.ref it) 1>>=_) _ _ s;refine ao (dK ho hd (x:=.int i 0) rfl ?_);show ak _ _ (Hf (.ref t)>>=_) _ _ s;refine ao (nu hol hdl ?_);simp only[qK,hx];refine ao (qm (ao (Hx ho hd (by simp) ?_)));show ak _ _ (newExc (.type "StopIteration") []>>=_) _ _ _;refine ao ?_;simp only[newExc,newTuple];refine ao (tM ?_ (by size_fits));refine ao (m:=Oc _ _) (U6 (a:=iB) (by first|rfl|(simp only[Oc];rfl)) ?_);refine tM ?_ (by size_fits);simp only[Nm];refine ao (wpAny_handled ?_);first|rw[show A.in1.handled=none from hh]|rw[hh]
 refine ao (aD (NP ?_));exact hE _ _ (((V1 ..).extBut.push _).push _) ⟨_,dW _ rfl,rfl⟩
theorem Y8 {z TI TO i1 i2 l1 l2:Addr} {k1 k2:Nat} {xs ys:Array Value} {x y a b:Value} {Q:Option Value->aj->Prop} (D:G8 z TI TO i1 i2 l1 l2)
  (hz:gP s.heap z TI TO .none) (hTI:eF s.heap TI (.ref i1) (.ref i2)) (hTO:eF s.heap TO a b)
  (h1:s.heap.IsTupleIter i1 l1 k1) (h2:s.heap.IsListIter i2 l2 k2) (hl1:s.heap.IsTuple l1 xs) (hl2:s.heap.IsList l2 ys) (hx:xs[k1]?=some x) (hy:ys[k2]?=some y)
  (hQ:∀ h',gP h' z TI TO (fO s.heap.objs.size)->eF h' TO x y->h'.IsTupleIter i1 l1 (k1+1)->h'.IsListIter i2 l2 (k2+1)->eF h' s.heap.objs.size x y->h'.objs.size=s.heap.objs.size+1->
   (∀ c o,c≠z->c≠TO->c≠i1->c≠i2->s.heap.get? c=some o->h'.get? c=some o)->Q (some (.ref s.heap.objs.size)) {s with heap:=h' }):
  ak (aH prog w) A (gQ (.ref z)) Q E s:=by
 have hT:s.TypeIs (.ref z) "zip":=⟨_,hz,rfl⟩;unfold gQ;refine ao (Cq (tQ (name:=aC "__next__") hT Cv (qJ Cv hT Vu ?_ (Vz _))));show ak _ _ (iC (.ref z) 2>>=_) _ _ _;refine ao (dK hz rfl (x:=.bool false) rfl ?_);show ak _ _ (iC (.ref z) 3>>=_) _ _ _;refine ao (dK hz rfl (x:=.ref TI) rfl ?_);refine ao (nu hTI rfl ?_);show ak _ _ (El (.ref z)>>=_) _ _ _;refine ao ?_;unfold El;refine ao (dK hz rfl (x:=.none) rfl (aD ?_));simp only[if_true];refine ao (qm ?_);refine ao (dK hz rfl (x:=.ref TO) rfl ?_);refine ao (qL hz (by simp) fun g1 z1 m1=>?_);replace z1:gP g1 z TI TO .ellipsis:=z1;refine ao ?_;simp only[Vt,Vm,yG,Cr];refine ao (ao (Hv ?_));show ak _ _ (zP (.ref i1)>>=_) _ _ _;refine ao (Ik (h1.extBut m1.extBut D.i1z) (hl1.extBut m1.extBut D.l1z) hx fun g2 j2 m2=>aD ?_);have t2:eF g2 TO a b:=m2.extBut _ _ D.TOi1 (m1.extBut _ _ D.TOz hTO);refine ao (nu t2 rfl ?_);refine ao (V3 t2 fun g3 t3 m3=>?_);replace t3:eF g3 TO x b:=t3;refine ao (rR (aD ?_));refine ao (ao (Hv ?_));show ak _ _ (zP (.ref i2)>>=_) _ _ _;refine ao (adl (((h2.extBut m1.extBut D.i2z).extBut m2.extBut D.i12.symm).extBut m3.extBut D.TOi2.symm)
  (((hl2.extBut m1.extBut D.l2z).extBut m2.extBut D.l2i1).extBut m3.extBut D.l2TO) hy fun g4 j4 m4=>aD ?_)
 have t4:eF g4 TO x b:=m4.extBut _ _ D.TOi2 t3;refine ao (nu t4 rfl ?_);refine ao (V3 t4 fun g5 t5 m5=>?_);replace t5:eF g5 TO x y:=t5;refine ao (rR (aD (aD ?_)));refine ao (nu t5 rfl ?_);refine ao (wpAny_newTuple ?_);have hsz:g5.objs.size=s.heap.objs.size:=by rw[m5.1,m4.1,m3.1,m2.1,m1.1]
 have z5:gP g5 z TI TO .ellipsis:=m5.extBut _ _ D.TOz.symm (m4.extBut _ _ D.i2z.symm (m3.extBut _ _ D.TOz.symm (m2.extBut _ _ D.i1z.symm z1)));have k5:∀ c o,c≠z->c≠TO->c≠i1->c≠i2->s.heap.get? c=some o->g5.get? c=some o:=fun c o c1 c2 c3 c4 e=>m5.extBut _ _ c2 (m4.extBut _ _ c4 (m3.extBut _ _ c2 (m2.extBut _ _ c3 (m1.extBut _ _ c1 e))))
 have j5:g5.IsTupleIter i1 l1 (k1+1):=((j2.extBut m3.extBut D.TOi1.symm).extBut m4.extBut D.i12).extBut m5.extBut D.TOi1.symm;have j6:g5.IsListIter i2 l2 (k2+1):=j4.extBut m5.extBut D.TOi2.symm;have lz:z<g5.objs.size:=dw z5;show ak _ _ (Pq (.ref z) (.ref g5.objs.size)>>=_) _ _ _;refine ao ?_;unfold Pq;have z6:gP (g5.push {cls:=.type "tuple",data:=.seq #[x,y]}) z TI TO .ellipsis:=bV _ z5;refine ao (qL z6 (by simp) fun g7 z7 m7=>?_);replace z7:gP g7 z TI TO (fO g5.objs.size):=z7;refine qL z7 (by simp) fun g8 z8 m8=>?_;replace z8:gP g8 z TI TO (fO g5.objs.size):=z8;have up:∀ c o,c≠z->g5.get? c=some o->g8.get? c=some o:=fun c o c1 e=>m8.extBut _ _ c1 (m7.extBut _ _ c1 (bV _ e));have t8:eF g8 g5.objs.size x y:=m8.extBut _ _ (j8 lz) (m7.extBut _ _ (j8 lz) (dW _ rfl));have s8:g8.objs.size=g5.objs.size+1:=by rw[m8.1,m7.1,oN]
 rw[hsz]at z8 t8 s8;refine aD ⟨_,rfl,aD ?_⟩;show Q (some (.ref g5.objs.size)) _;rw[hsz];refine hQ g8 z8 (up _ _ D.TOz t5) ?_ (j6.at fun o e=>up _ o D.i2z e) t8 s8 fun c o c1 c2 c3 c4 e=>up c o c1 (k5 c o c1 c2 c3 c4 e);obtain⟨o,e,r⟩:=j5;exact⟨o,up _ o D.i1z e,r⟩
theorem aaF {z TI TO i1 i2 l1 l2:Addr} {k1:Nat} {xs:Array Value} {a b:Value} {Q:Option Value->aj->Prop} (hh:A.handled=none) (D:G8 z TI TO i1 i2 l1 l2)
  (hz:gP s.heap z TI TO .none) (hTI:eF s.heap TI (.ref i1) (.ref i2)) (hTO:eF s.heap TO a b) (h1:s.heap.IsTupleIter i1 l1 k1) (hl1:s.heap.IsTuple l1 xs) (hx:xs[k1]?=none)
  (hQ:∀ h',(∀ c o,c≠z->c≠i1->s.heap.get? c=some o->h'.get? c=some o)->Q none {s with heap:=h' }):ak (aH prog w) A (gQ (.ref z)) Q E s:=by
 have hT:s.TypeIs (.ref z) "zip":=⟨_,hz,rfl⟩;unfold gQ;refine ao (Cq (tQ (name:=aC "__next__") hT Cv (qJ Cv hT Vu ?_ (Vz _))));show ak _ _ (iC (.ref z) 2>>=_) _ _ _;refine ao (dK hz rfl (x:=.bool false) rfl ?_);show ak _ _ (iC (.ref z) 3>>=_) _ _ _;refine ao (dK hz rfl (x:=.ref TI) rfl ?_);refine ao (nu hTI rfl ?_);show ak _ _ (El (.ref z)>>=_) _ _ _;refine ao ?_;unfold El;refine ao (dK hz rfl (x:=.none) rfl (aD ?_));simp only[if_true];refine ao (qm ?_);refine ao (dK hz rfl (x:=.ref TO) rfl ?_);refine ao (qL hz (by simp) fun g1 z1 m1=>?_);replace z1:gP g1 z TI TO .ellipsis:=z1;refine ao ?_;simp only[Vt,Vm,yG,Cr];refine ao (ao (Hv ?_));show ak _ _ (zP (.ref i1)>>=_) _ _ _;refine ao (uY hh (h1.extBut m1.extBut D.i1z) (hl1.extBut m1.extBut D.l1z) hx fun g2 e m2 he=>?_);obtain⟨oe,hoe,hce⟩:=he;have z2:gP g2 z TI TO .ellipsis:=m2 _ _ D.i1z.symm z1;have hez:e≠z:=fun x=>by subst x;rw[z2]at hoe;cases hoe;simp at hce
 refine qL z2 (by simp) fun g3 _ m3=>?_;refine ao (HN (T:="StopIteration") (b:=true) ⟨oe,m3.extBut _ _ hez hoe,hce⟩ Hz ?_);exact aD (hQ _ fun c o c1 c3 x=>m3.extBut _ _ c1 (m2 _ _ c3 (m1.extBut _ _ c1 x)))
theorem aaG {z TI TO i1 i2 l1 l2:Addr} {k1 k2:Nat} {xs ys:Array Value} {a b:Value} {Q:Option Value->aj->Prop} (hh:A.handled=none) (D:G8 z TI TO i1 i2 l1 l2)
  (hz:gP s.heap z TI TO .none) (hTI:eF s.heap TI (.ref i1) (.ref i2)) (hTO:eF s.heap TO a b) (h1:s.heap.IsListIter i1 l1 k1) (h2:s.heap.IsListIter i2 l2 k2) (hl1:s.heap.IsList l1 xs) (hl2:s.heap.IsList l2 ys) (hend:xs[k1]?=none∨ys[k2]?=none)
  (hQ:∀ h',(∀ c o,c≠z->c≠TO->c≠i1->c≠i2->s.heap.get? c=some o->h'.get? c=some o)->(∃ o,h'.get? TO=some o)->Q none {s with heap:=h' }):ak (aH prog w) A (gQ (.ref z)) Q E s:=by
 have hT:s.TypeIs (.ref z) "zip":=⟨_,hz,rfl⟩;unfold gQ;refine ao (Cq (tQ (name:=aC "__next__") hT Cv (qJ Cv hT Vu ?_ (Vz _))));show ak _ _ (iC (.ref z) 2>>=_) _ _ _;refine ao (dK hz rfl (x:=.bool false) rfl ?_);show ak _ _ (iC (.ref z) 3>>=_) _ _ _;refine ao (dK hz rfl (x:=.ref TI) rfl ?_);refine ao (nu hTI rfl ?_);show ak _ _ (El (.ref z)>>=_) _ _ _;refine ao ?_;unfold El;refine ao (dK hz rfl (x:=.none) rfl (aD ?_));simp only[if_true];refine ao (qm ?_);refine ao (dK hz rfl (x:=.ref TO) rfl ?_);refine ao (qL hz (by simp) fun g1 z1 m1=>?_);replace z1:gP g1 z TI TO .ellipsis:=z1;refine ao ?_;simp only[Vt,Vm,yG,Cr];refine ao (ao (Hv ?_));show ak _ _ (zP (.ref i1)>>=_) _ _ _;rcases hx:xs[k1]? with _|x
 .refine ao (ac9 hh (h1.extBut m1.extBut D.i1z) (hl1.extBut m1.extBut D.l1z) hx fun g2 e m2 he=>?_)
  obtain⟨oe,hoe,hce⟩:=he;have z2:gP g2 z TI TO .ellipsis:=m2 _ _ D.i1z.symm z1;have hez:e≠z:=fun x=>by subst x;rw[z2]at hoe;cases hoe;simp at hce
  refine qL z2 (by simp) fun g3 _ m3=>?_;refine ao (HN (T:="StopIteration") (b:=true) ⟨oe,m3.extBut _ _ hez hoe,hce⟩ Hz ?_);exact aD (hQ _ (fun c o c1 _ c3 _ x=>m3.extBut _ _ c1 (m2 _ _ c3 (m1.extBut _ _ c1 x))) ⟨_,m3.extBut _ _ D.TOz (m2 _ _ D.TOi1 (m1.extBut _ _ D.TOz hTO))⟩)
 .have hy:=hend.resolve_left (by rw[hx];simp)
  refine ao (adl (h1.extBut m1.extBut D.i1z) (hl1.extBut m1.extBut D.l1z) hx fun g2 j2 m2=>aD ?_);have t2:eF g2 TO a b:=m2.extBut _ _ D.TOi1 (m1.extBut _ _ D.TOz hTO);refine ao (nu t2 rfl ?_);refine ao (V3 t2 fun g3 t3 m3=>?_);replace t3:eF g3 TO x b:=t3;refine ao (rR (aD ?_));refine ao (ao (Hv ?_));show ak _ _ (zP (.ref i2)>>=_) _ _ _;refine ao (ac9 hh (((h2.extBut m1.extBut D.i2z).extBut m2.extBut D.i12.symm).extBut m3.extBut D.TOi2.symm)
   (((hl2.extBut m1.extBut D.l2z).extBut m2.extBut D.l2i1).extBut m3.extBut D.l2TO) hy fun g4 e m4 he=>?_)
  obtain⟨oe,hoe,hce⟩:=he;have z4:gP g4 z TI TO .ellipsis:=m4 _ _ D.i2z.symm (m3.extBut _ _ D.TOz.symm (m2.extBut _ _ D.i1z.symm z1));have hez:e≠z:=fun x=>by subst x;rw[z4]at hoe;cases hoe;simp at hce
  refine qL z4 (by simp) fun g5 _ m5=>?_;refine ao (HN (T:="StopIteration") (b:=true) ⟨oe,m5.extBut _ _ hez hoe,hce⟩ Hz ?_);exact aD (hQ _ (fun c o c1 c2 c3 c4 x=>m5.extBut _ _ c1 (m4 _ _ c4 (m3.extBut _ _ c2 (m2.extBut _ _ c3 (m1.extBut _ _ c1 x))))) ⟨_,m5.extBut _ _ D.TOz (m4 _ _ D.TOi2 t3)⟩)
end
noncomputable abbrev zt1 (h:Heap) (l1:Addr):Heap:=h.push {cls:=.type "tuple_iterator",data:=.fields #[.ref l1,.int 0 0]}
noncomputable abbrev zt2 (h:Heap) (l1 l2:Addr):Heap:=(zt1 h l1).push {cls:=.type "list_iterator",data:=.fields #[.ref l2,.int 0 0]}
noncomputable abbrev zt3 (h:Heap) (l1 l2:Addr):Heap:=(zt2 h l1 l2).push {cls:=.type "tuple",data:=.seq #[.ref h.objs.size,.ref (zt1 h l1).objs.size]}
noncomputable abbrev zt4 (h:Heap) (l1 l2:Addr):Heap:=(zt3 h l1 l2).push {cls:=.type "tuple",data:=.seq #[.none,.none]}
noncomputable abbrev zt5 (h:Heap) (l1 l2:Addr):Heap:=(zt4 h l1 l2).push {cls:=.type "zip",data:=.fields #[.none,.bool false,.bool false,.ref (zt2 h l1 l2).objs.size,.ref (zt3 h l1 l2).objs.size]}
theorem Wu (l1 l2:Addr) (xs ys:Array Value):
  yd (nq.«zip.__new__» ⟨[.type "zip",.ref l1,.ref l2],[]⟩) (fun _ R s=>s.heap.IsTuple l1 xs/\s.heap.IsList l2 ys/\R (.ok (.ret (.ref (zt4 s.heap l1 l2).objs.size))) {s with heap:=zt5 s.heap l1 l2}):=
 .of_wp fun prog w A R s h=>by
  obtain⟨hp,g,d,tk,os⟩:=s;obtain⟨hl1,hl2,h⟩:=h;have hsub:=sub_zip;have hL1:abG (U0 ⟨hp,g,d,tk,os⟩) l1 xs:=hl1;have hL2:Heap.IsList (U0 ⟨hp.push {cls:=.type "tuple_iterator",data:=.fields #[.ref l1,.int 0 0]},g,d,tk,os⟩) l2 ys:=aiE hl2 _
  wp_walk using H6 hL1,Ot hL2
  exact⟨_,rfl,h⟩
section
variable {prog:cg} {w:bA} {A:aX} {E:Value->aj->Prop} {s:aj}
theorem aas (hl1:s.heap.IsTuple l1 xs) (hl2:s.heap.IsList l2 ys)
  (h:∀ h',gP h' (s.heap.objs.size+4) (s.heap.objs.size+2) (s.heap.objs.size+3) .none->eF h' (s.heap.objs.size+2) (.ref s.heap.objs.size) (.ref (s.heap.objs.size+1))->
   eF h' (s.heap.objs.size+3) .none .none->h'.IsTupleIter s.heap.objs.size l1 0->h'.IsListIter (s.heap.objs.size+1) l2 0->(∀ c o,s.heap.get? c=some o->h'.get? c=some o)->Q (.ref (s.heap.objs.size+4)) {s with heap:=h' }):
  ak (aH prog w) A (call (.type "zip") [.ref l1,.ref l2]) Q E s:=by
 refine callType_new F.called_zip (by decide) (F.typeCall_zip_2 _ _) (F.newCall_zip_2 _ _) (fun obj=>F.args_object_init_3 obj _ _) F.entry_zip_new (Wu l1 l2 xs ys) ⟨hl1,hl2,?_⟩;have z1:(zt1 s.heap l1).objs.size=s.heap.objs.size+1:=oN ..;have z2:(zt2 s.heap l1 l2).objs.size=s.heap.objs.size+2:=by rw[oN,z1]
 have z3:(zt3 s.heap l1 l2).objs.size=s.heap.objs.size+3:=by rw[oN,z2]
 have z4:(zt4 s.heap l1 l2).objs.size=s.heap.objs.size+4:=by rw[oN,z3]
 have g5:(zt5 s.heap l1 l2).get? (zt4 s.heap l1 l2).objs.size=some _:=dW _ rfl;have g4:(zt5 s.heap l1 l2).get? (zt3 s.heap l1 l2).objs.size=some _:=bV _ (dW _ rfl);have g3:(zt5 s.heap l1 l2).get? (zt2 s.heap l1 l2).objs.size=some _:=bV _ (bV _ (dW _ rfl));have g2:(zt5 s.heap l1 l2).get? (zt1 s.heap l1).objs.size=some _:=bV _ (bV _ (bV _ (dW _ rfl)));have g1:(zt5 s.heap l1 l2).get? s.heap.objs.size=some _:=bV _ (bV _ (bV _ (bV _ (dW _ rfl))));show _/\_;rw[z2,z3,z4]at g5;rw[z1,z2]at g3;rw[z3]at g4;rw[z1]at g2;rw[z4];exact⟨⟨_,g5,rfl⟩,h _ g5 g3 g4 ⟨_,g1,rfl,rfl⟩ ⟨_,g2,rfl,rfl⟩ fun c o x=>bV _ (bV _ (bV _ (bV _ (bV _ x))))⟩
end
open AutoSeq1 (wpAny_loadPart')
noncomputable abbrev en2 (h:Heap) (l:Addr):Heap:=(zt1 h l).push {cls:=.type "enumerate",data:=.fields #[.none,.bool false,.ref h.objs.size,fO 0,.none,.none]}
theorem ZQ (l:Addr) (items:Array Value) (n:Nat) (dct:Option Addr) (sl:Array (Option Value)):
  yd (nq.«enumerate.__new__» ⟨[.type "enumerate",.ref l],[]⟩) (fun _ R s=>s.heap.get? l=some {cls:=.type "tuple",dict:=dct,data:=.seq items n,slots:=sl}/\R (.ok (.ret (.ref (zt1 s.heap l).objs.size))) {s with heap:=en2 s.heap l}):=
 .of_wp fun prog w A R s h=>by
  obtain⟨hp,g,d,tk,os⟩:=s;obtain⟨ht,h⟩:=h;have hsub:=sub_enumerate;have hT:abG (U0 ⟨hp,g,d,tk,os⟩) l items:=⟨_,ht,rfl,n,rfl⟩
  wp_walk using tO ht
  refine wpAny_stack_any fun st=>aD ?_;split
  .rename_i c _ _ _ _ _
   cases(c==Hj "enumerate")<;>(wp_walk using tO ht,H6 hT;exact⟨_,rfl,h⟩)
  .wp_walk using tO ht,H6 hT;exact⟨_,rfl,h⟩
section
variable {prog:cg} {w:bA} {A:aX} {E:Value->aj->Prop} {s:aj}
theorem afv (hT:s.heap.IsTuple l items)
  (h:∀ h',qg h' (s.heap.objs.size+1) s.heap.objs.size 0 .none->h'.IsTupleIter s.heap.objs.size l 0->(∀ b o,s.heap.get? b=some o->h'.get? b=some o)->Q (.ref (s.heap.objs.size+1)) {s with heap:=h' }):
  ak (aH prog w) A (call (.type "enumerate") [.ref l]) Q E s:=by
 obtain⟨⟨c,dct,dt,sl⟩,ht,hc,n,hd⟩:=hT;simp only at hc hd;subst hc hd;refine callType_new F.called_enumerate (by decide) (F.typeCall_enumerate_1 _) (F.newCall_enumerate_1 _) (fun obj=>F.args_object_init_2 obj _) F.entry_enumerate_new (ZQ l items n dct sl) ⟨ht,?_⟩;have z1:(zt1 s.heap l).objs.size=s.heap.objs.size+1:=oN ..;have g2:(en2 s.heap l).get? (zt1 s.heap l).objs.size=some _:=dW _ rfl;have g1:(en2 s.heap l).get? s.heap.objs.size=some _:=bV _ (dW _ rfl);show _/\_;rw[z1]at g2 ⊢;exact⟨⟨_,g2,rfl⟩,h _ g2 ⟨_,g1,rfl,rfl⟩ fun b o x=>bV _ (bV _ x)⟩
theorem Ao {h h':Heap} {it l:Addr} {i:Nat} (a:h.IsTupleIter it l i) (k:∀ o,h.get? it=some o->h'.get? it=some o):h'.IsTupleIter it l i:=by obtain⟨o,e,r⟩:=a;exact⟨o,k o e,r⟩
theorem afe {e it l:Addr} {i:Nat} {items:Array Value} {x old:Value} {Q:Option Value->aj->Prop}
  (he:qg s.heap e it i old) (hit:s.heap.IsTupleIter it l i) (ht:s.heap.IsTuple l items) (hx:items[i]?=some x) (hne:e≠it)
  (hQ:∀ h',Ut h' e it ((i:Int)+1) x s.heap.objs.size->h'.IsTupleIter it l (i+1)->h'.get? s.heap.objs.size=some {cls:=.type "tuple",data:=.seq #[.int i s.toks,x]}->
   (∀ b o,b≠e->b≠it->s.heap.get? b=some o->h'.get? b=some o)->Q (some (.ref s.heap.objs.size)) {s with heap:=h',toks:=s.toks+1}):
  ak (aH prog w) A (gQ (.ref e)) Q E s:=by
 have hT:s.TypeIs (.ref e) "enumerate":=⟨_,he,rfl⟩;have el:e<s.heap.objs.size:=dw he;have il:it<s.heap.objs.size:=by obtain⟨o,h0,_⟩:=hit;exact dw h0
 unfold gQ;refine ao (Cq (tQ (name:=aC "__next__") hT O5 (qJ O5 hT adk ?_ (adx _))));show ak _ _ (iC (.ref e) 2>>=_) _ _ _;refine ao (dK he rfl (x:=.ref it) rfl (ao (Ik hit ht hx fun g1 j1 m1=>?_)));have e1:qg g1 e it i old:=m1.extBut _ _ hne he;show ak _ _ (iC (.ref e) 3>>=_) _ _ _;refine ao (dK e1 rfl (x:=fO i) rfl ?_);show ak _ _ (iC (.ref e) 4>>=_) _ _ _;refine ao (dK e1 rfl (x:=.none) rfl ?_);show ak _ _ (mkInt i>>=_) _ _ _;refine ao (wpAny_mkInt ?_);show ak _ _ (setField (.ref e) 3 (fO ((i:Int)+1))>>=_) _ _ _;refine ao (qL e1 (by simp) fun g2 e2 m2=>?_);replace e2:qg g2 e it ((i:Int)+1) old:=e2;show ak _ _ (setField (.ref e) 4 .none>>=_) _ _ _;refine ao (qL e2 (by simp) fun g3 e3 m3=>?_);replace e3:qg g3 e it ((i:Int)+1) old:=e3;show ak _ _ (newTuple [.int i s.toks,x]>>=_) _ _ _;refine ao (wpAny_newTuple ?_);have hsz:g3.objs.size=s.heap.objs.size:=by have a1:g1.objs.size=s.heap.objs.size:=m1.1;have a2:g2.objs.size=g1.objs.size:=m2.1;have a3:g3.objs.size=g2.objs.size:=m3.1;rw[a3,a2,a1]
 have e4:qg (g3.push {cls:=.type "tuple",data:=.seq #[.int i s.toks,x]}) e it ((i:Int)+1) old:=bV _ e3;have t4:(g3.push {cls:=.type "tuple",data:=.seq #[.int i s.toks,x]}).get? g3.objs.size=some {cls:=.type "tuple",data:=.seq #[.int i s.toks,x]}:=dW _ rfl;have k4:∀ b o,b≠e->b≠it->s.heap.get? b=some o->(g3.push {cls:=.type "tuple",data:=.seq #[.int i s.toks,x]}).get? b=some o:=fun b o h1 h2 q=>bV _ (m3.extBut _ _ h1 (m2.extBut _ _ h1 (m1.extBut _ _ h2 q)));have j4:(g3.push {cls:=.type "tuple",data:=.seq #[.int i s.toks,x]}).IsTupleIter it l (i+1):=Ao j1 fun o q=>bV _ (m3.extBut _ _ (bN hne) (m2.extBut _ _ (bN hne) q));rw[hsz]at t4;show ak _ _ (El (.ref e)>>=_) _ _ _;rw[hsz];generalize g3.push {cls:=.type "tuple",data:=.seq #[.int i s.toks,x]}=g4 at e4 t4 k4 j4;refine ao ?_;unfold El;refine ao (dK e4 rfl (x:=.none) rfl (aD ?_));simp only[if_true];refine ao (qm (ao (dK e4 rfl (x:=old) rfl (ao (qL e4 (by simp) fun g5 e5 m5=>?_)))));replace e5:qg g5 e it ((i:Int)+1) x:=e5;show ak _ _ (Pq (.ref e) (.ref s.heap.objs.size)>>=_) _ _ _;refine ao ?_;unfold Pq;refine ao (qL e5 (by simp) fun g6 e6 m6=>?_);replace e6:Ut g6 e it ((i:Int)+1) x s.heap.objs.size:=e6;refine qL e6 (by simp) fun g7 e7 m7=>?_;replace e7:Ut g7 e it ((i:Int)+1) x s.heap.objs.size:=e7;have up:∀ b o,b≠e->g4.get? b=some o->g7.get? b=some o:=fun b o h1 q=>m7.extBut _ _ h1 (m6.extBut _ _ h1 (m5.extBut _ _ h1 q));refine ao (rR (aD ⟨_,rfl,aD (hQ g7 e7 (Ao j4 fun o q=>up _ o (bN hne) q) (up _ _ (j8 el) t4) fun b o h1 h2 q=>up b o h1 (k4 b o h1 h2 q))⟩))
theorem ahd {e it l:Addr} {i:Nat} {items:Array Value} {old:Value} {Q:Option Value->aj->Prop} (hh:A.handled=none) (he:qg s.heap e it i old) (hit:s.heap.IsTupleIter it l i) (ht:s.heap.IsTuple l items) (hx:items[i]?=none)
  (hQ:∀ h',NK it s.heap h'->Q none {s with heap:=h' }):ak (aH prog w) A (gQ (.ref e)) Q E s:=by
 have hT:s.TypeIs (.ref e) "enumerate":=⟨_,he,rfl⟩;unfold gQ;refine ao (Cq (tQ (name:=aC "__next__") hT O5 (qJ O5 hT adk ?_ (adx _))));show ak _ _ (iC (.ref e) 2>>=_) _ _ _;refine ao (dK he rfl (x:=.ref it) rfl (ao (uY hh hit ht hx fun h' x m hx'=>?_)));obtain⟨o,ho,hc⟩:=hx';exact ao (HN (T:="StopIteration") (b:=true) ⟨o,ho,hc⟩ Hz (aD (hQ _ m)))
end
end DW
namespace DW
open PySem PySem.Spec PyProof.Rows
open L2 (aQ Key frs rG Loc Look Mod rH cV Bf)
section
variable {X:Cx} {tg iter a b c l:Expr} {wl:WE} {d0:D} {as:List D} {g:Mem->Prop} {z i1 it ad:Addr} {es:List Expr} {k:Nat} {p pos tp:Pos}
theorem mF:∀ (k:Nat) (ds:List D),(lO k ds).length=ds.length
 |_,[]=>rfl|k,d::ds=>by simp[lO,mF (k+1) ds]
theorem Dw:∀ (k:Nat) (ds:List D) (i:Nat) (d:D),ds[i]?=some d->(lO k ds)[i]?=some (.tup [.int ((k+i:Nat):Int),d])
 |_,[],i,d,h=>by simp at h|k,e::ds,0,d,h=>by simp at h;subst h;simp[lO]|k,e::ds,i+1,d,h=>by have:=Dw (k+1) ds i d (by simpa using h);simp only[lO,aJ];rw[this];congr 4;omega
theorem afR (hc:X.calm=true) (hA:X.calm=true->X.A.handled=none) (hg:∀ {μ},g μ->bU μ d0=some as) (hzi:z≠i1):Wk X.T X.A (.Tuple es k tp) z [z,i1] [] (lO 0 as) g (fun i θ μ h=>(∃ old,qg h z i1 i old)/\h.IsListIter i1 ad i/\Rp h θ μ d0 (.ref ad)) where
 obj:=fun⟨⟨old,hz⟩,⟨o1,e1,c1,d1⟩,_⟩ b hb=>by
  simp only[aO,gH,or_false]at hb;rcases hb with rfl|rfl
  .exact⟨_,hz,.inr (aM rfl rfl (by decide))⟩
  .exact⟨_,e1,.inr (aM d1 c1 (by decide))⟩
 exx:=fun _ _ z=>nomatch z
 mono:=fun⟨⟨old,hz⟩,h1,y⟩ kp _ kk=>⟨⟨old,kk z (by simp) _ hz⟩,h1.at fun o e=>kk i1 (by simp) o e,kp.rp y⟩
 self:=fun⟨⟨old,hz⟩,_⟩ q=>Oj hz q
 item:=fun {i d s θ μ Q2 E} st w nl gm hx f=>by
  obtain⟨⟨old,hz⟩,h1,r0⟩:=st;obtain⟨_,us,q,pl,l,r⟩:=gR w r0 (hg gm);cases q;have hi:i<as.length:=by have:=(cF.mp hx).1;rwa[mF]at this
  rw[Dw 0 as i _ (bI hi)]at hx;cases hx;obtain⟨u1,hu1,ru1⟩:=r.get (bI hi);refine wpAny_pyNext_enum_item hz h1 pl.isList (x:=u1) (by simpa using hu1) hzi fun h' ho hit' hT hsz kk=>⟨_,rfl,?_⟩;refine adL (s:={s with heap:=h',toks:=s.toks+1}) ho fun h2' hz2 hs2=>?_;have ke:∀ b o,b∉[z,i1]->s.heap.get? b=some o->h2'.get? b=some o:=fun b o hb e=>by simp only[aO,gH,or_false,not_or]at hb;exact(hs2.2 b hb.1).trans (kk b o hb.1 hb.2 e)
  have nz:s.heap.objs.size≠z:=j8 (dw hz);have kp:Kp θ μ s.heap θ μ h2':=Aj (fun b hb=>by
   simp only[aO,gH,or_false]at hb;rcases hb with rfl|rfl
   .exact⟨_,hz,aM rfl rfl (by decide)⟩
   .obtain⟨o1,e1,c1,d1⟩:=h1;exact⟨_,e1,aM d1 c1 (by decide)⟩) ke
  exact f (tk:=s.toks+1) ke ⟨⟨u1,by simpa using hz2⟩,hit'.at fun o y=>(hs2.2 i1 (bN hzi)).trans y,kp.rp r0⟩ ⟨s.heap.objs.size,[.int (i:Int) s.toks,u1],rfl,⟨by rw[gF];simp,_,_,(hs2.2 _ nz).trans hT,rfl,rfl,rfl⟩,w.Fj (aL _),.cons (jY (by simp)) (.one (kp.rp ru1))⟩
 done:=fun {s θ μ Q E} st w hd nl gm f=>by obtain⟨⟨old,hz⟩,h1,r0⟩:=st;obtain⟨_,us,q,pl,l,r⟩:=gR w r0 (hg gm);cases q;rw[mF]at hz h1;exact wpAny_pyNext_enum_end (hA hc) hz h1 pl.isList (by simp[r.length]) fun h' eb=>f (tk:=s.toks) (fun b o hb q=>eb b o (fun y=>hb (by simp[y])) q) fun _ z=>nomatch z
theorem aaK (hc:X.calm=true) (hA:X.calm=true->X.A.handled=none) (hzi:z≠i1):Wk X.T X.A (.Tuple es k tp) z [z,i1] [] (lO 0 as) g (fun i θ μ h=>(∃ old,qg h z i1 i old)/\h.IsTupleIter i1 ad i/\Rp h θ μ (.tup as) (.ref ad)) where
 obj:=fun⟨⟨old,hz⟩,⟨o1,e1,c1,d1⟩,_⟩ b hb=>by
  simp only[aO,gH,or_false]at hb;rcases hb with rfl|rfl
  .exact⟨_,hz,.inr (aM rfl rfl (by decide))⟩
  .exact⟨_,e1,.inr (aM d1 c1 (by decide))⟩
 exx:=fun _ _ z=>nomatch z
 mono:=fun⟨⟨old,hz⟩,h1,y⟩ kp _ kk=>⟨⟨old,kk z (by simp) _ hz⟩,Ao h1 fun o e=>kk i1 (by simp) o e,kp.rp y⟩
 self:=fun⟨⟨old,hz⟩,_⟩ q=>Oj hz q
 item:=fun {i d s θ μ Q2 E} st w nl gm hx f=>by
  obtain⟨⟨old,hz⟩,h1,r0⟩:=st;obtain⟨_,us,q,zt,_,r⟩:=id r0;cases q;have hi:i<as.length:=by have:=(cF.mp hx).1;rwa[mF]at this
  rw[Dw 0 as i _ (bI hi)]at hx;cases hx;obtain⟨u1,hu1,ru1⟩:=r.get (bI hi);refine afe hz h1 (show s.heap.IsTuple ad us.toArray from cM zt) (x:=u1) (by simpa using hu1) hzi fun h' ho hit' hT kk=>⟨_,rfl,?_⟩;refine adL (s:={s with heap:=h',toks:=s.toks+1}) ho fun h2' hz2 hs2=>?_;have ke:∀ b o,b∉[z,i1]->s.heap.get? b=some o->h2'.get? b=some o:=fun b o hb e=>by simp only[aO,gH,or_false,not_or]at hb;exact(hs2.2 b hb.1).trans (kk b o hb.1 hb.2 e)
  have nz:s.heap.objs.size≠z:=j8 (dw hz);have kp:Kp θ μ s.heap θ μ h2':=Aj (fun b hb=>by
   simp only[aO,gH,or_false]at hb;rcases hb with rfl|rfl
   .exact⟨_,hz,aM rfl rfl (by decide)⟩
   .obtain⟨o1,e1,c1,d1⟩:=h1;exact⟨_,e1,aM d1 c1 (by decide)⟩) ke
  exact f (tk:=s.toks+1) ke ⟨⟨u1,by simpa using hz2⟩,Ao hit' fun o y=>(hs2.2 i1 (bN hzi)).trans y,kp.rp r0⟩ ⟨s.heap.objs.size,[.int (i:Int) s.toks,u1],rfl,⟨by rw[gF];simp,_,_,(hs2.2 _ nz).trans hT,rfl,rfl,rfl⟩,w.Fj (aL _),.cons (jY (by simp)) (.one (kp.rp ru1))⟩
 done:=fun {s θ μ Q E} st w hd nl gm f=>by obtain⟨⟨old,hz⟩,h1,r0⟩:=st;obtain⟨_,us,q,zt,_,r⟩:=id r0;cases q;rw[mF]at hz h1;exact ahd (hA hc) hz h1 (show s.heap.IsTuple ad us.toArray from cM zt) (by simp[r.length]) fun h' eb=>f (tk:=s.toks) (fun b o hb q=>eb b o (fun y=>hb (by simp[y])) q) fun _ z=>nomatch z
theorem agz (hcl:X.calm=true) (hg:Gl X (aC "enumerate")) (hm:X.T.mg (aC "enumerate")=none) (hl:PE X l wl) (hs:c7 [l] X.env=[(false,eval l X.env)]):
  PI X (.Tuple es k tp) (.Call (.Name (aC "enumerate") p) [l] [] pos) (fun ρ μ Q=>wl ρ μ fun a μ1=>Q9 a μ1 Q):=fun {s ρ θ μ R Q E} i h f=>by
 refine Call_ (mz i hg hm (u:=.type "enumerate") (by decide+kernel) (by decide+kernel) (by decide+kernel) (Le ?_ (by rw[hs];rfl) rfl));rw[hs];refine qM (hl i h fun {d u s1 θ1 μ1} i1 g1 r1 h1=>sy ?_);unfold Q9 at h1;split at h1
 .rename_i as ha
  obtain⟨a,us,rfl,pl,l,r⟩:=gR i1.dD r1 ha;refine call_enumerate_list pl.isList fun h' a1 a2 a3 kk=>?_;have i3:Iv X ρ θ1 μ1 {s1 with heap:=h' }:=Iv.kept (tk:=s1.toks) i1 kk;refine Oj a1 (f i3 (g1.trans (cB (tk:=s1.toks) kk)) (afR (ad:=a) hcl i1.ok.hd (fun e=>e) (j8 (Cy s1.heap.objs.size))) ⟨⟨_,a1⟩,a2,(iV kk).rp r1⟩ (fun b hb=>?_) (by rw[mF,<-r.length];exact l) h1);have hb:s1.heap.objs.size<=b:=by
   simp only[aO,gH,or_false]at hb;rcases hb with rfl|rfl
   .exact yt _
   .exact aL _
  exact⟨(i1.pD hb).1,⟨fun y=>(i1.pD hb).2 (.inr y),.inr fun y=>(i1.pD hb).2 (.inl y)⟩,g1.none hb⟩
 .split at h1
  .rename_i as
   obtain⟨a,us,rfl,zt,_,r⟩:=id r1;refine afv (show s1.heap.IsTuple a us.toArray from cM zt) fun h' a1 a2 kk=>?_;have i3:Iv X ρ θ1 μ1 {s1 with heap:=h' }:=Iv.kept (tk:=s1.toks) i1 kk;refine Oj a1 (f i3 (g1.trans (cB (tk:=s1.toks) kk)) (aaK (ad:=a) hcl i1.ok.hd (j8 (Cy s1.heap.objs.size))) ⟨⟨_,a1⟩,a2,(iV kk).rp r1⟩ (fun b hb=>?_) (by rw[mF,<-r.length];exact zt.fix.1) h1);have hb:s1.heap.objs.size<=b:=by
    simp only[aO,gH,or_false]at hb;rcases hb with rfl|rfl
    .exact yt _
    .exact aL _
   exact⟨(i1.pD hb).1,⟨fun y=>(i1.pD hb).2 (.inr y),.inr fun y=>(i1.pD hb).2 (.inl y)⟩,g1.none hb⟩
  .exact h1.elim
theorem ah8 (hc:X.calm=true) (hA:X.calm=true->X.A.handled=none) (hg:∀ {μ},g μ->bU μ d0=some as):Wk X.T X.A tg it [it] [] as.reverse g (fun i θ μ h=>h.IsRevIter it ad ((as.length:Int) -1 -(i:Int))/\Rp h θ μ d0 (.ref ad)) where
 obj:=fun⟨⟨o,e,c,d⟩,_⟩ b hb=>by cases cO.mp hb;exact⟨o,e,.inr (aM d c (by decide))⟩
 exx:=fun _ _ z=>nomatch z
 mono:=fun⟨st,y⟩ kp _ k=>⟨st.at fun o e=>k it (by simp) o e,kp.rp y⟩
 self:=fun st q=>ac4 st.1 q
 item:=fun {i d s θ μ Q2 E} st w nl gm hx f=>by
  obtain⟨st,r0⟩:=st;obtain⟨_,us,q,pl,l,r⟩:=gR w r0 (hg gm);cases q;have hi:i<as.length:=by simpa using(cF.mp hx).1
  have hj:as.length -1 -i<as.length:=by omega
  rw[List.getElem?_reverse hi]at hx;obtain⟨u,hu,ru⟩:=r.get hx;have e1:(as.length:Int) -1 -(i:Int)=((as.length -1 -i:Nat):Int):=by omega
  obtain⟨o0,e0,c0,d0'⟩:=id st;rw[e1]at st;refine wpAny_pyNext_rev_item st pl.isList (x:=u) (by simpa using hu) fun h' st' sb=>?_;have ke:∀ b o,b∉[it]->s.heap.get? b=some o->h'.get? b=some o:=fun b o hb q=>(sb.2 b (by simpa using hb)).trans q;have kp:Kp θ μ s.heap θ μ h':=Aj (fun b hb=>by cases cO.mp hb;exact⟨o0,e0,aM d0' c0 (by decide)⟩) ke;have e2:((as.length -1 -i:Nat):Int) -1=(as.length:Int) -1 -((i+1:Nat):Int):=by omega
  rw[e2]at st';obtain⟨o,e,c,d⟩:=id st';exact⟨u,rfl,Bf (s:={s with heap:=h' }) e c d (by decide) (f (tk:=s.toks) ke ⟨st',kp.rp r0⟩ (kp.rp ru))⟩
 done:=fun {s θ μ Q E} st w hd nl gm f=>by
  obtain⟨st,r0⟩:=st;have e1:(as.length:Int) -1 -((as.reverse.length:Nat):Int)= -1:=by simp;omega
  rw[e1]at st;exact wpAny_pyNext_rev_end (hA hc) st fun h' eb=>f (tk:=s.toks) (fun b o hb q=>eb b o (by simpa using hb) q) fun _ z=>nomatch z
theorem ai7 (hcl:X.calm=true) (hg:Gl X (aC "reversed")) (hm:X.T.mg (aC "reversed")=none) (hl:PE X l wl) (hs:c7 [l] X.env=[(false,eval l X.env)]):
  PI X tg (.Call (.Name (aC "reversed") p) [l] [] pos) (fun ρ μ Q=>wl ρ μ fun a μ1=>afU a μ1 Q):=fun {s ρ θ μ R Q E} i h f=>by
 refine Call_ (mz i hg hm (u:=.type "reversed") (by decide+kernel) (by decide+kernel) (by decide+kernel) (Le ?_ (by rw[hs];rfl) rfl));rw[hs];refine qM (hl i h fun {d u s1 θ1 μ1} i1 g1 r1 h1=>sy ?_);unfold afU at h1;split at h1
 .rename_i as ha
  obtain⟨a,us,rfl,pl,l,r⟩:=gR i1.dD r1 ha;have hlen:us.toArray.size=as.length:=by simp[r.length]
  refine call_reversed_list pl.isList ?_;have st:(s1.heap.push (revObj a ((us.toArray.size:Int) -1))).IsRevIter s1.heap.objs.size a ((as.length:Int) -1 -((0:Nat):Int)):=⟨_,dW _ rfl,rfl,by rw[hlen];simp[revObj]⟩;exact ac4 st (f (Iv.kept (tk:=s1.toks) i1 cU) (g1.trans (cB (tk:=s1.toks) cU)) (ah8 (ad:=a) hcl i1.ok.hd (fun e=>e)) ⟨st,(iV cU).rp r1⟩
   (fun b hb=>by cases cO.mp hb;exact⟨(i1.pD (aL _)).1,⟨fun y=>(i1.pD (aL _)).2 (.inr y),.inr fun y=>(i1.pD (aL _)).2 (.inl y)⟩,g1.none (aL _)⟩) (by rw[List.length_reverse,<-r.length];exact l) h1)
 .exact h1.elim
end
end DW
namespace DW
open PySem PySem.Spec PyProof.Rows
open L2 (aQ Key frs rG Loc Look Mod rH cV)
section
variable {prog:cg} {w:bA} {A:aX} {R:yc->aj->Prop} {I l S:Addr} {items:Array Value} {val:Nat->Int} {dv:Value}
end
section
variable {X:Cx} {ρ:dJ} {θ:Th} {μ:Mem} {s:aj} {Qd:QD} {Q XE:Value->aj->Prop} {a b:Expr} {wa wb:WE} {d e:D} {u dv:Value} {y:Str} {p pos kpos:Pos} {nm:Option Str}
end
end DW
namespace DW
open PySem
section
variable {P P':Rf->dZ->Prop} {G G':Str->D->Prop} (hp:∀ x sp,P x sp->P' x sp) (hg:∀ x d,G x d->G' x d)
include hp hg
mutual
theorem cj.mono:∀ e:E,cj P G e->cj P' G' e
 | .var _,h=>trivial| .cst _,h=>trivial| .gbl x d,h=>hg x d h| .bin _ a b,h=>⟨cj.mono a h.1,cj.mono b h.2⟩| .neg a,h=>cj.mono a h| .not a,h=>cj.mono a h| .cmp _ a b,h=>⟨cj.mono a h.1,cj.mono b h.2⟩| .KN _ a b,h=>⟨cj.mono a h.1,cj.mono b h.2⟩| .chain _ _ a b c,h=>⟨cj.mono a h.1,cj.mono b h.2.1,cj.mono c h.2.2⟩| .and a b,h=>⟨cj.mono a h.1,cj.mono b h.2⟩| .or a b,h=>⟨cj.mono a h.1,cj.mono b h.2⟩| .ife a b c,h=>⟨cj.mono a h.1,cj.mono b h.2.1,cj.mono c h.2.2⟩| .call x sp as,h=>⟨hp (.fn x) sp h.1,fQ.mono as h.2⟩| .blt _ as,h=>fQ.mono as h| .isin a _,h=>cj.mono a h| .isin a _ (some _),h=>⟨hp _ _ h.1,cj.mono a h.2⟩| .Jf a,h=>cj.mono a h| .ZW a,h=>cj.mono a h| .meth _ o as,h=>⟨cj.mono o h.1,fQ.mono as h.2⟩| .tix o as,h=>⟨cj.mono o h.1,fQ.mono as h.2⟩| .sqm _ o as,h=>⟨cj.mono o h.1,fQ.mono as h.2⟩| .rmv o as,h=>⟨cj.mono o h.1,fQ.mono as h.2⟩| .aad as,h=>fQ.mono as h| .idx a b,h=>⟨cj.mono a h.1,cj.mono b h.2⟩| .slc _ a lo hi,h=>⟨cj.mono a h.1,fQ.mono lo h.2.1,fQ.mono hi h.2.2⟩| .tup as,h=>fQ.mono as h| .lst _ as,h=>fQ.mono as h| .comp _ _ _ _ elt it cond,h=>⟨cj.mono elt h.1,okI.mono it h.2.1,fQ.mono cond h.2.2⟩| .frz a,h=>cj.mono a h| .aan a b,h=>⟨cj.mono a h.1,cj.mono b h.2⟩| .aal _,h=>trivial| .cat _ a b,h=>⟨cj.mono a h.1,cj.mono b h.2⟩| .rep _ a b,h=>⟨cj.mono a h.1,cj.mono b h.2⟩| .fld c f o,h=>⟨hp _ _ h.1,cj.mono o h.2⟩| .pA c m sp o as,h=>⟨hp _ _ h.1,cj.mono o h.2.1,fQ.mono as h.2.2⟩| .mk c sp as,h=>⟨hp _ _ h.1,fQ.mono as h.2⟩
theorem fQ.mono:∀ e:Es,fQ P G e->fQ P' G' e
 | .nil,_=>trivial| .cons e es,h=>⟨cj.mono e h.1,fQ.mono es h.2⟩
theorem okI.mono:∀ e:It,okI P G e->okI P' G' e
 | .seq e,h=>cj.mono e h| .rng as,h=>fQ.mono as h| .zip a b,h=>⟨cj.mono a h.1,cj.mono b h.2⟩| .enum a,h=>cj.mono a h| .rvd a,h=>cj.mono a h
end
theorem ZD.mono:∀ k:XC,ZD P G k->ZD P' G' k
 | .dsp x ks sp i as,h=>⟨hp _ _ h.1,cj.mono hp hg i h.2.1,fQ.mono hp hg as h.2.2⟩
end
mutual
theorem okS.mono:∀ (s:S) {P P':Rf->dZ->Prop} {G G':Str->D->Prop} (hp:∀ x sp,P x sp->P' x sp) (hg:∀ x d,G x d->G' x d),okS P G s->okS P' G' s
 | .set _ e,_,_,_,_,hp,hg,h=>cj.mono hp hg e h| .Ul _ e,_,_,_,_,hp,hg,h=>cj.mono hp hg e h| .dput o i e,_,_,_,_,hp,hg,h=>⟨cj.mono hp hg o h.1,cj.mono hp hg i h.2.1,cj.mono hp hg e h.2.2⟩| .Fd _ o i e,_,_,_,_,hp,hg,h=>⟨cj.mono hp hg o h.1,cj.mono hp hg i h.2.1,cj.mono hp hg e h.2.2⟩| .wR o i e,_,_,_,_,hp,hg,h=>⟨cj.mono hp hg o h.1,cj.mono hp hg i h.2.1,cj.mono hp hg e h.2.2⟩| .aug _ _ e,_,_,_,_,hp,hg,h=>cj.mono hp hg e h| .exp e,_,_,_,_,hp,hg,h=>cj.mono hp hg e h| .ret e,_,_,_,_,hp,hg,h=>cj.mono hp hg e h| .ite c a b,_,_,_,_,hp,hg,h=>⟨cj.mono hp hg c h.1,lZ.mono a hp hg h.2.1,lZ.mono b hp hg h.2.2⟩| .for_ _ _ it b,_,_,_,_,hp,hg,h=>⟨okI.mono hp hg it h.1,lZ.mono b hp hg h.2⟩| .whl c b,_,_,_,_,hp,hg,h=>⟨cj.mono hp hg c h.1,lZ.mono b hp hg h.2⟩| .wg c f o e,_,_,_,_,hp,hg,h=>⟨hp _ _ h.1,cj.mono hp hg o h.2.1,cj.mono hp hg e h.2.2⟩| .Xo c f _ o e,_,_,_,_,hp,hg,h=>⟨hp _ _ h.1,cj.mono hp hg o h.2.1,cj.mono hp hg e h.2.2⟩| .Yk,_,_,_,_,_,_,_=>trivial| .abp k,_,_,_,_,hp,hg,h=>ZD.mono hp hg k h
theorem lZ.mono:∀ (s:Ss) {P P':Rf->dZ->Prop} {G G':Str->D->Prop} (hp:∀ x sp,P x sp->P' x sp) (hg:∀ x d,G x d->G' x d),lZ P G s->lZ P' G' s
 | .nil,_,_,_,_,_,_,_=>trivial| .cons s r,_,_,_,_,hp,hg,h=>⟨okS.mono s hp hg h.1,lZ.mono r hp hg h.2⟩
end
open PySem.W PySem.Spec PySem.Calls PyProof.Rows Builtin.Getset_descriptor
section
variable {prog:cg} {w:bA} {A:aX} {E:Value->aj->Prop} {s:aj} {K:cW} {x C:Addr} 
end
end DW
namespace DW
open PySem PySem.W PySem.Spec PyProof.Rows Builtin.ObjectAttr
end DW
namespace DW
open PySem PySem.Spec PyProof.Rows
open L2 (aQ Key frs rG Loc Look Mod rH cV Cls gC Meth Mk rI gk zN)
def alH (K:cW) (mg:Str->Option Value) (P:String) (tab:List String):Prop:=∃ CP,mg (aC P)=some (.ref CP)/\∀ c∈tab,∃ C,cZ K bT (aC c)=some (some (.ref C))/\PySem.W.exmOne K (.ref C) (.ref CP)=some true
def alI (K:cW) (mg:Str->Option Value) (x:Str) (ks:List (List Nat)):Prop:=∃ a,mg x=some (.ref a)/\Tf K a=true/\(Bk K a).map (fun p=>p.1.cps.toList)=ks
def ah3 (T:Top) (k:Nat) (x:Str) (ks:List (List Nat)) (sp:zx):Prop:=∃ a,T.mg x=some (.ref a)/\Tf T.K a=true/\(Bk T.K a).map (fun p=>p.1.cps.toList)=ks/\
 ∀ ds μ Q Xq,sp ds μ Q Xq->∃ t r fa fd ps sp',ds= .str t::r/\rM (⟨t.toArray⟩:Str) (Bk T.K a)=some fa/\Binds T.K fd ps/\mY T k fa fd ps sp'/\sp' r μ Q Xq
def rE (T:Top) (k:Nat):Rf->dZ->Prop
 | .fn x,sp=>∃ (fa:Addr) (fd:fG) (ps:List Str),T.mg x=some (.ref fa)/\pN T.K (.ref fa)=true/\Binds T.K fd ps/\mY T k fa fd ps (upX sp)| .pA c m,sp=>∃ (C fa:Addr) (fd:fG) (ps:List Str),cZ T.K bT (aC c)=some (some (.ref C))/\Cls T.K C/\Meth T.K C (aC m) fa/\Binds T.K fd ps/\mY T k fa fd ps (upX sp)| .mk c,sp=>∃ (C fa:Addr) (fd:fG) (ps:List Str) (j:Nat),cZ T.K bT (aC c)=some (some (.ref C))/\T.mg (aC c)=some (.ref C)/\Mk T.K C fa/\Binds T.K fd ps/\mY T j fa fd ps (upX sp)/\j+1<=k| .fld c f,_=>∃ C:Addr,cZ T.K bT (aC c)=some (some (.ref C))/\Cls T.K C/\gC T.K C (aC f)| .fnX x sp,_=>∃ (fa:Addr) (fd:fG) (ps:List Str),T.mg x=some (.ref fa)/\pN T.K (.ref fa)=true/\Binds T.K fd ps/\mY T k fa fd ps sp| .ak2 c m sp,_=>∃ (C fa:Addr) (fd:fG) (ps:List Str),cZ T.K bT (aC c)=some (some (.ref C))/\Cls T.K C/\Meth T.K C (aC m) fa/\Binds T.K fd ps/\mY T k fa fd ps sp| .mkX c sp,_=>∃ (C fa:Addr) (fd:fG) (ps:List Str) (j:Nat),cZ T.K bT (aC c)=some (some (.ref C))/\T.mg (aC c)=some (.ref C)/\Mk T.K C fa/\Binds T.K fd ps/\mY T j fa fd ps sp/\j+1<=k| .din x ks,_=>alI T.K T.mg x ks| .dsp x ks sp,_=>ah3 T k x ks sp| .hdl P tab,_=>alH T.K T.mg P tab|_,_=>False
def vL (X:Cx) (y:Rf) (sp:dZ):Prop:=∃ k,cV k X.A/\rE X.T k y sp
def nC (X:Cx) (x:Str) (d:D):Prop:=∃ u:Value,X.T.mg x=some u/\∀ h θ μ,Rp h θ μ d u
structure rF (X:Cx) (c:Ctx):Prop where
 N:X.N=c.N
 nd:c.N.Nodup
 vis:∀ x,c.vis x=true->rG X.env.scope x
 loc:∀ x,c.loc x=true->Sto X x
 isl:∀ x,isLocal c x=true->X.env.scope.names.lookup x=some .local
 wC:∀ x,c.wC x=true->Gl X x
 clo:∀ x,(c.names.lookup x=some .cell∨c.names.lookup x=some .free)->(X.env.kindOf x=some .cell∨X.env.kindOf x=some .free)
 blt:∀ x,c.iM.contains x=true->X.T.mg x=none
 calm:c.calm=true->X.calm=true
 room:∃ k,cV k X.A
 st:c.rs=true->(∃ outer,X.stack=X.env::outer)/\X.env.frame=some X.env.locals
section
variable {X:Cx} {c:Ctx} {i:Nat} {x:Str} {e a:Expr} {es:List Expr} {env:Env} {op:ji} {scope:Scope} {xs cs:List Str} {cap:List Nat} {tt:Bool} {w w':WE} {t t':WT}
theorem Bs (h:c.at_ i x=true):c.N[i]?=some x:=by
 unfold Ctx.at_ at h;split at h
 .rename_i y e;rw[e,of_decide_eq_true h]
 .cases h
theorem nU (h:notStar e=true):c7 (e::es) env=(false,eval e env)::c7 es env:=by cases e<;>first|rfl|exact(dM h).elim
theorem Tc:∀ {es:Es} {as:List Expr},qt c es as=true->jf es=as.length
 | .nil,as,h=>by
  have:as=[]:=by simpa[qt]using h
  subst this;rfl
 | .cons e es,as,h=>by
  cases as with
  |nil=>simp[qt]at h|cons a as=>simp only[qt,bO]at h;simp[jf,Tc h.2]
theorem mj (h:gY x=false):(x==("__debug__":Str))=false/\(x==("__classdict__":Str))=false:=by unfold gY at h;exact Bool.or_eq_false_iff.mp h
theorem GK (h:kh e=true):N6 op e=false:=by cases e<;>first|rfl|exact(dM h).elim
theorem Dt (h:kh e=true):∀ v,Ol e env v=pure v:=by intro v;cases e<;>first|rfl|exact(dM h).elim
theorem sH (h:eV e=true):Bv e:=by intro o i;cases e<;>first|rfl|exact(dM h).elim
theorem zG {t n} (h:iT e=true):yp e t n env=pure false:=by cases e<;>first|rfl|exact(dM h).elim
theorem PT.wk (h:PT X a t) (q:∀ ρ μ Q,t' ρ μ Q->t ρ μ Q):PT X a t':=fun i z f=>h i (q _ _ _ z) f
theorem Rw:PT X a (fun _ _ _=>False):=fun _ z _=>z.elim
theorem pw_no (h:∀ op vs pos,a≠.BoolOp op vs pos):∀ op vs pos,a= .BoolOp op vs pos->PW X a t:=fun op vs pos e=>absurd e (h op vs pos)
structure Snd (X:Cx) (e:DW.E) (a:Expr):Prop where
 pe:PE X a (wE e)
 pt:PT X a (wT e)
 pw:∀ op vs pos,a= .BoolOp op vs pos->PW X a (wT e)
theorem Br:∀ {cap:List Nat} {cs:List Str},mW c cap=some cs->cs.length=cap.length/\∀ (j:Nat) (y:Str),cs[j]?=some y->∃ i,cap[j]?=some i/\c.N[i]?=some y
 |[],cs,h=>by simp only[mW,nH]at h;subst h;exact⟨rfl,fun j y e=>by simp at e⟩|i::is,cs,h=>by
  simp only[mW]at h;split at h
  .rename_i x r e1 e2
   simp only[nH]at h;subst h;obtain⟨h1,h2⟩:=Br e2;refine⟨by simp[h1],fun j y e=>?_⟩;cases j with
   |zero=>simp at e;subst e;exact⟨i,rfl,e1⟩|succ j=>obtain⟨i',a1,a2⟩:=h2 j y (by simpa using e);exact⟨i',by simpa using a1,a2⟩
  .cases h
theorem JQ (C:rF X c) (h1:mW c cap=some cs) (h:JR c scope (xs++cs) cs=true):vZ X xs.length scope (xs++cs) cap:=by
 simp only[JR,bO,Oh]at h;obtain⟨⟨⟨⟨⟨k1,k2⟩,k3⟩,k5⟩,k6⟩,k7⟩:=h;obtain⟨hl,hg⟩:=Br h1;refine⟨by simpa using k1,fun y hy hc=>?_,fun y hy hloc=>?_,of_decide_eq_true k5,fun j y e=>?_,by simp[hl],fun y hy hf=>?_⟩
 .have:=k2 y hy
  rw[hc]at this;simpa using this
 .have:=k3 y hy
  rw[hloc]at this;simpa using this
 .have e':cs[j]?=some y:=by rw[jt (by omega)]at e;simpa using e
  obtain⟨i,a1,a2⟩:=hg j y e';refine⟨i,a1,by rw[C.N];exact a2,?_⟩;have:=k6 y (jr e');simpa using this
 .have:=k7 y hy
  rw[hf]at this;refine C.clo y.1 ?_;simpa using this
theorem rB (C:rF X c) (h:JR c scope (xs++cs) cs=true) (cl:List (Str×Addr)) (Ca:Addr):rF (cX X (xs++cs) scope cl Ca) (c.in_ (xs++cs) scope.names):=by
 simp only[JR,bO,Oh]at h;obtain⟨⟨⟨⟨⟨k1,k2⟩,k3⟩,k5⟩,k6⟩,k7⟩:=h;have cel:∀ y,scope.names.lookup y=some .cell->(G4 scope X.env).names.lookup y=some .cell:=fun y z=>rI z;have lk:∀ y,scope.names.lookup y=some .local->(G4 scope X.env).names.lookup y=some .local:=fun y z=>lookup_relabel_local z;refine⟨rfl,of_decide_eq_true k5,fun y hy=>?_,fun y hy=>?_,fun y hy=>?_,fun y hy=>?_,fun y hy=>?_,C.blt,C.calm,C.room,fun z=>nomatch z⟩
 .unfold Ctx.vis at hy
  split at hy
  .rename_i z;exact .inl (lk y z)
  .rename_i z;exact .inr (.inl (cel y z))
  .rename_i z
   rcases gk (env:=X.env) z with q|q
   .exact .inr (.inr q)
   .exact .inr (.inl q)
  .cases hy
 .unfold Ctx.loc at hy
  split at hy
  .rename_i z;exact .inl (lk y z)
  .rename_i z;exact .inr ⟨cel y z,by show(scope.names.lookup y==some .cell)=true;rw[z];rfl⟩
  .cases hy
 .exact lk y (by simpa[isLocal]using hy)
 .unfold Ctx.wC at hy
  split at hy
  .rename_i z
   show(G4 scope X.env).names.lookup y=some .globalImplicit;exact zN z
  .cases hy
 .rcases hy with hy|hy
  .exact .inl (cel y hy)
  .exact(gk (env:=X.env) hy).symm
theorem Iw (C:rF X c):∀ {is:List Nat} {ts:List Expr},kE c is ts=true->PGs X ts is/\(rO ts X.env).length=is.length/\(rO ts X.env).findIdx? (·.1)=none
 |[],[],_=>⟨agA,rfl,rfl⟩|[],_::_,h=>by simp[kE]at h|_::_,[],h=>by simp[kE]at h|i::is,t::ts,h=>by
  simp only[kE,bO]at h;obtain⟨h1,h2⟩:=h;cases t with
  |Name x p=>
   simp only[bO]at h1;obtain⟨k1,k2,k3⟩:=Iw C h2;refine⟨ad9 (by rw[C.N];exact C.nd) (by rw[C.N];exact Bs h1.1) (C.loc x h1.2) k1,?_,?_⟩
   .show(rO ts X.env).length+1=_
    rw[k2];rfl
   .show List.findIdx? (fun x=>x.1) ((false,rK (.Name x p) X.env)::rO ts X.env)=none
    rw[List.findIdx?_cons];simp[k3]
  |_=>simp at h1
theorem Ye (C:rF X c) {is:List Nat} (hcm:tt=true->c.calm=true) (h:ZR c is tt a=true):PG X a (fun d r k=>dg is tt d r k):=by
 cases tt with
 |false=>
  match is,h with
  |[i],h=>
   cases a with
   |Name x p=>simp only[ZR,kE,bO,Hu]at h;intro s ρ θ μ d u k R E i1 r q f;exact agB (j:=i) (pos:=p) (C.N▸C.nd) (C.N▸Bs h.1) (C.loc x h.2) i1 r q f|_=>simp[ZR,kE]at h
  |[],h=>simp[ZR,kE]at h|_::_::_,h=>simp[ZR,kE]at h
 |true=>
  cases a with
  |Tuple ts k p=>rcases Iw C (show kE c is ts=true from h)with⟨h1,h2,h3⟩;exact ai9 (C.calm (hcm rfl)) h1 h2 h3|_=>simp[ZR]at h
theorem tgn (h:Fz tt a=some xs):tt=false->xs.length=1:=fun z=>by
 subst z;cases a with
 |Name x p=>cases h;rfl
 |_=>cases h
end
end DW
namespace DW
open PySem PySem.Spec PyProof.Rows
open L2 (aQ Key frs rG Loc Look Mod rH cV)
section
variable {X:Cx} {ρ:dJ} {θ:Th} {μ:Mem} {s:aj} {d x y:D} {u v w:Value} {ds es as bs:List D} {us vs:List Value} {Qd:QD} {Q:Value->aj->Prop} {E:Value->aj->Prop} {a b e:Expr} {wa wb we:WE} {ws:WA} {j k n:Nat} {p2 pos:Pos} {m:Bool}
theorem aaH {h:Heap} (w:qx X.T θ μ h) (r:Rp h θ μ d u) (e:zy μ d=some ds):∃ a us,u= .ref a/\jR h 1 a us/\dF h θ μ ds us:=by
 cases d with
 |lst es=>cases e;exact let⟨a,us,q,x,_,y⟩:=r;⟨a,us,q,x,y⟩
 |loc n=>
  simp only[zy]at e;split at e
  .rename_i es hn
   cases e;obtain⟨p,us,q,_,_,x,y⟩:=Iv.lst w hn r;exact⟨p.1,us,q,x,y⟩
  .cases e
 |_=>cases e
theorem aj9 (m:Bool):Op2 X (yj .Add) (T3 m):=fun {s ρ θ μ x y u v Qd Q E} i rx ry hw f=>by
 unfold T3 at hw;split at hw
 .rename_i as ha
  split at hw
  .rename_i bs hb
   obtain⟨p,us,rfl,⟨_,n,e⟩,r1⟩:=aaH i.dD rx ha;obtain⟨p',us',rfl,⟨_,n',e'⟩,r2⟩:=aaH i.dD ry hb;(have l:(us++us').length<=sizeLine:=by rw[gV,r1.length,r2.length,<-sW];exact hw.1);refine acq e e' ?_ (by simpa using l);rw[show us.toArray++us'.toArray=(us++us').toArray by simp];exact f.newL i cU (aL _) (oG _ l).1 (r1.append r2) hw.2
  .exact hw.elim
 .exact hw.elim
theorem dF.rep {h:Heap} (r:dF h θ μ ds us):∀ k:Nat,dF h θ μ (aV k ds).flatten (aV k us).flatten
 |0=>by simpa using dF.nil|k+1=>by rw[yN,yN,oU,oU];exact r.append (dF.rep r k)
theorem aiC (m:Bool):Op2 X (yj .Mult) (aaP m):=fun {s ρ θ μ x y u v Qd Q E} i rx ry hw f=>by
 unfold aaP at hw;split at hw
 .rename_i as ha
  split at hw
  .rename_i k
   obtain⟨l,its,rfl,⟨_,n,e⟩,r⟩:=aaH i.dD rx ha;obtain⟨t,rfl⟩:=ry;obtain⟨⟨k1,k2,k3⟩,hq⟩:=hw;(have hz:its.length*k.toNat<=sizeLine:=by rw[r.length,<-sW];exact k1);(have hlen:its.toArray.size*k.toNat<=sizeLine:=by rw[cJ];exact hz);have hcap:¬its.toArray.size*k.toNat>(2 ^ 63 -1)/8:=by (have:(sizeLine:Nat)<=(2 ^ 63 -1)/8:=by decide);omega
   have hfit:¬(!Wd k)=true:=by rw[fitsIndex_both (by omega) (by omega)];exact dM
   have YK:¬H9 (its.toArray.size*k.toNat)=true:=by rw[Yj hlen];exact dM
   have hnew:UL (fun x1 x2=>x1++x2) #[] (aV (if its.toArray.isEmpty=true then 0 else k.toNat) its.toArray)=(aV k.toNat its).flatten.toArray:=by
    have f0:∀ m:Nat,UL (fun x1 x2=>x1++x2) #[] (aV m its.toArray)=(aV m its).flatten.toArray:=fun m=>by have:=L2.foldl_rep its m [];rw[aZ]at this;exact this
    rw[f0];cases its with
    |nil=>simp|cons a r'=>rw[if_neg (by simp)]
   refine wpAny_binaryOp_repeat_ref (T:="list") (U:="int") (by decide) ⟨_,e,rfl⟩ (fun s'=>Uz s' k t) noFill_list_mul F.fills_int_mul ab3 repeat_list F.slot_int_index.lookup
    (jm ab3 (Uz s k t) F.entry_int_rmul (F.args_int_rmul_2 _ _) (int___rmul___int_list k t l its.toArray n)
     ⟨e,rfl,⟨_,e,rfl⟩,jm F.slot_list_mul ⟨_,e,rfl⟩ F.entry_list_mul (F.args_list_mul_2 _ _) (AutoListH.list___mul___list_int_3 l its.toArray n k t hfit hcap YK) ⟨e,?_⟩⟩)
   rw[hnew];exact f.newL i cU (aL _) (oG _ (by rw[L2.len_rep,abI];exact hz)).1 (r.rep k.toNat) hq
  .exact hw.elim
 .exact hw.elim
theorem aea {op:jl} {R:D->D->Mem->QD->Prop} (ho:Op2 X (yj op) R) (ha:PE X a wa) (hb:PE X b wb):PE X (.BinOp a op b pos) (fun ρ μ Q=>wa ρ μ fun x μ1=>wb ρ μ1 fun y μ2=>R x y μ2 Q):=fun i h f=>wpAny_BinOp (ha i h fun i1 g1 r1 h1=>hb i1 h1 fun i2 g2 r2 h2=>ho i2 ((i1.kp g2).rp r1) r2 h2 (f.mono (g1.trans g2)))
end
section
variable {X:Cx} {i j k:Nat} {x y z:Str} {a b e:Expr} {px py pz pt pt2 pos pos':Pos} {kt k2} {wa we:WE} {ws:WA} {op:jl} {env:Env}
theorem ai2 (hN:X.N.Nodup) (hi:X.N[i]?=some x) (hx:Sto X x) (he:PE X e we):PS X (.AugAssign (.Name x pos') op e pos) (fun Z ρ μ=>match ρ[i]? with
  |some (some (.int p))=>we ρ μ fun y μ1=>Gj y μ1 fun q μ2=>match op with| .Add=>Z.nx (ρ.set i (some (.int (p+q)))) μ2| .Sub=>Z.nx (ρ.set i (some (.int (p -q)))) μ2|_=>False
  |_=>False):=fun {s ρ θ μ Z Q E} _ I h f=>by
 dsimp only at h;split at h
 .rename_i p hp
  obtain⟨m,hn,hl⟩:=I.loc;have vis:rG X.env.scope x:=hx.imp id fun z=>.inl z.1;obtain⟨u,r,l⟩:=hl i x _ hi hp vis;obtain⟨t,rfl⟩:=r;refine wpAny_AugAssign_Name ?_;have go:ak X.M X.A (eval e X.env) (fun w s₂=>ak X.M X.A (inplaceOp op (.int p t) w) (fun r s₃=>ak X.M X.A (storeName X.env x r) (fun _=>Q .next) E s₃) E s₂) E s:=he I h fun {d v s1 θ1 μ1} i1 g1 r1 h1=>by
   cases d with
   |int q=>
    obtain⟨t',rfl⟩:=r1;refine Xn (s:=s1) (θ:=θ1) (μ:=μ1) (dp:=.int p) (dq:=.int q) (K:=fun d=>Z.nx (ρ.set i (some d)) μ1) (op:=op) ⟨t,rfl⟩ ⟨t',rfl⟩ ?_ fun k hk=>?_
    .cases op<;>first|exact h1|exact h1.elim
    .exact uo (Iv.tok i1) hN hi hx iw fun {s3} i3 g3=>f.nx i3 ((g1.gs.trans (cB fun _ _ e=>e)).trans g3) hk
   |_=>exact h1.elim
  rcases l with⟨hk,hm⟩|⟨hk,c,hc,hcell⟩
  .exact ac8 I.ok.kind hk hn hm go
  .rcases hk with hk|hk
   .exact acY I.ok.kind hk hc hcell go
   .have z:X.env.scope.names.lookup x=some .free:=hk
    rcases hx with q|⟨q,_⟩<;>rw[q]at z<;>cases z
 .exact h.elim
end
end DW
namespace DW
open PySem PySem.Spec PyProof.Rows
open L2 (aQ Key frs rG Loc Look Mod rH cV Bf)
section
variable {X:Cx} {V:Addr->Prop} {F:List Addr} {ρ:dJ} {θ:Th} {μ:Mem} {s:aj} {h':Heap} {tk:Nat} {l:List Addr}
theorem Iv.exA (i:Iv X ρ θ μ s) (k:∀ b o,s.heap.get? b=some o->h'.get? b=some o) (hx:∀ b∈l,s.heap.objs.size<=b/\∃ o,h'.get? b=some o):
  Iv X ρ ⟨θ.cs,l++θ.ex⟩ μ {s with heap:=h',toks:=tk}/\G0 X θ μ s ⟨θ.cs,l++θ.ex⟩ μ {s with heap:=h',toks:=tk}/\Kp θ μ s.heap ⟨θ.cs,l++θ.ex⟩ μ h':=by
 have nn:∀ b∈l,s.heap.get? b=none:=fun b z=>by
  cases e:s.heap.get? b with
  |none=>rfl|some o=>exact absurd (fM (dw e) (hx b z).1) (lu _)
 have kp:Kp θ μ s.heap ⟨θ.cs,l++θ.ex⟩ μ h':=⟨fun _ _ e=>e,fun b o e f q=>⟨k b o e,fun z=>by
  rcases z with z|z
  .rcases jd.mp z with z|z
   .rw[nn b z]at e;cases e
   .exact q (.inl z)
  .exact q (.inr z)⟩⟩
 have g:G0 X θ μ s ⟨θ.cs,l++θ.ex⟩ μ {s with heap:=h',toks:=tk}:=
  ⟨fun _ _ e=>e,fun b o e q _=>⟨q,o.slots,k b o e,fun _=>rfl⟩,fun b o e=>⟨o,k b o e⟩,fun _ _ e _=>e,rfl,⟨fun b z=>jd.mpr (.inr z),fun b z=>(jd.mp z).elim (fun z=>.inr (nn b z)) .inl⟩⟩
 refine⟨i.to g (i.dD.ex kp (fun b o _ e=>k b o e) fun b z=>?_) i.e.bare,g,kp⟩;rcases jd.mp z with z|z
 .exact⟨(hx b z).2,fun y=>i.dD.Fj (hx b z).1 (.inr y)⟩
 .exact⟨let⟨o,x⟩:=i.dD.bnd b (.inl z);⟨o,k b o x⟩,i.dD.exc b z⟩
end
theorem Gh:∀ (ds es:List D),(mJ ds es).length=min ds.length es.length
 |[],es=>by simp[mJ]|_::_,[]=>by simp[mJ]|d::ds,e::es=>by simp[mJ,Gh ds es]
theorem Q5:∀ (ds es:List D) (i:Nat) (x:D),(mJ ds es)[i]?=some x->∃ d e,ds[i]?=some d/\es[i]?=some e/\x= .tup [d,e]
 |[],es,i,x,h=>by simp[mJ]at h|_::_,[],i,x,h=>by simp[mJ]at h|d::ds,e::es,0,x,h=>⟨d,e,rfl,rfl,by simpa[mJ]using h.symm⟩|d::ds,e::es,i+1,x,h=>by obtain⟨y,z,h1,h2,h3⟩:=Q5 ds es i x (by simpa[mJ]using h);exact⟨y,z,by simpa using h1,by simpa using h2,h3⟩
def TF (t:Bool) (h:Heap) (it a:Addr) (i:Nat):Prop:=if t then h.IsTupleIter it a i else h.IsListIter it a i
theorem TF.fld {t:Bool} {h:Heap} {it a:Addr} {i:Nat} (x:TF t h it a i):∃ o n vs,h.get? it=some o/\o.cls= .type n/\o.data= .fields vs/\n≠"code":=by
 cases t
 .obtain⟨o,e,c,d⟩:h.IsListIter it a i:=x
  exact⟨o,_,_,e,c,d,by decide⟩
 .obtain⟨o,e,c,d⟩:h.IsTupleIter it a i:=x
  exact⟨o,_,_,e,c,d,by decide⟩
theorem TF.at {t:Bool} {h h':Heap} {it a:Addr} {i:Nat} (x:TF t h it a i) (k:∀ o,h.get? it=some o->h'.get? it=some o):TF t h' it a i:=by
 cases t
 .obtain⟨o,e,r⟩:h.IsListIter it a i:=x
  exact(⟨o,k o e,r⟩:h'.IsListIter it a i)
 .obtain⟨o,e,r⟩:h.IsTupleIter it a i:=x
  exact(⟨o,k o e,r⟩:h'.IsTupleIter it a i)
section
variable {X:Cx} {a b l r:Addr} {wl wr:WE} {d0 e0:D} {as bs:List D} {g:Mem->Prop} {z TI TO i1 i2:Addr} {es:List Expr} {k:Nat} {p pos tp:Pos} {t:Bool}
def am2 (t:Bool) (d0 e0:D) (a b z TI TO i1 i2:Addr) (i:Nat) (θ:Th) (μ:Mem) (h:Heap):Prop:=
 gP h z TI TO .none/\eF h TI (.ref i1) (.ref i2)/\(∃ c d,eF h TO c d)/\TF t h i1 a i/\h.IsListIter i2 b i/\TI∈θ.ex/\TO∈θ.ex/\Rp h θ μ d0 (.ref a)/\Rp h θ μ e0 (.ref b)
theorem ah6 (hc:X.calm=true) (hA:X.calm=true->X.A.handled=none) (hg:∀ {μ},g μ->(t=false->bU μ d0=some as)/\bU μ e0=some bs) (ht:t=true->d0= .tup as/\as.length<=bs.length) (D:G8 z TI TO i1 i2 a b):
  Wk X.T X.A (.Tuple es k tp) z [z,TI,TO,i1,i2] [TI,TO] (mJ as bs) g (am2 t d0 e0 a b z TI TO i1 i2) where
 obj:=fun⟨hz,hTI,⟨_,_,hTO⟩,h1,⟨o2,e2,c2,d2⟩,_⟩ c hc=>by
  obtain⟨o1,n1,v1,e1,c1,d1,m1⟩:=h1.fld;simp only[aO,gH,or_false]at hc;rcases hc with rfl|rfl|rfl|rfl|rfl
  .exact⟨_,hz,.inr (aM rfl rfl (by decide))⟩
  .exact⟨_,hTI,.inl (by simp)⟩
  .exact⟨_,hTO,.inl (by simp)⟩
  .exact⟨_,e1,.inr (aM d1 c1 m1)⟩
  .exact⟨_,e2,.inr (aM d2 c2 (by decide))⟩
 exx:=fun⟨_,_,_,_,_,x,y,_⟩ c hc=>by
  simp only[aO,gH,or_false]at hc;rcases hc with rfl|rfl
  .exact x
  .exact y
 mono:=fun⟨hz,hTI,⟨c,d,hTO⟩,h1,h2,x,y,r1,r2⟩ kp ex kk=>⟨kk z (by simp) _ hz,kk TI (by simp) _ hTI,⟨c,d,kk TO (by simp) _ hTO⟩,h1.at fun o e=>kk i1 (by simp) o e,h2.at fun o e=>kk i2 (by simp) o e,ex _ x,ex _ y,kp.rp r1,kp.rp r2⟩
 self:=fun st q=>acd st.1 q
 item:=fun {i d s θ μ Q2 E} st w nl gm hx f=>by
  obtain⟨hz,hTI,⟨c,d',hTO⟩,h1,h2,xI,xO,r1,r2⟩:=st;obtain⟨da,db,ha,hb,rfl⟩:=Q5 as bs i d hx;obtain⟨_,ys,q,pl2,l2,rs2⟩:=gR w r2 (hg gm).2;cases q;obtain⟨u2,hu2,ru2⟩:=rs2.get hb;have go:∀ u1,Rp s.heap θ μ da u1->∀ h',gP h' z TI TO (fO s.heap.objs.size)->eF h' TO u1 u2->TF t h' i1 a (i+1)->h'.IsListIter i2 b (i+1)->eF h' s.heap.objs.size u1 u2->h'.objs.size=s.heap.objs.size+1->
    (∀ c o,c≠z->c≠TO->c≠i1->c≠i2->s.heap.get? c=some o->h'.get? c=some o)->∃ u,some (jF s.heap.objs.size)=some u/\ak (aH X.T.P X.T.w) X.A (HD (.Tuple es k tp) (.ref z) u) (fun _ s2=>Q2 u s2) E {s with heap:=h' }:=by
   intro u1 ru1 h' a1 a2 a3 a4 a5 a6 a7;refine⟨_,rfl,wpAny_letOwnedTupleGo_zip (s:={s with heap:=h' }) a1 fun h2' hz2 hs2=>?_⟩;have nz:s.heap.objs.size≠z:=j8 (dw hz);have ke:∀ b o,b∉[z,TI,TO,i1,i2]->s.heap.get? b=some o->h2'.get? b=some o:=fun b o hb e=>by simp only[aO,gH,or_false,not_or]at hb;exact hs2.extBut _ _ hb.1 (a7 b o hb.1 hb.2.2.1 hb.2.2.2.1 hb.2.2.2.2 e)
   have kp:Kp θ μ s.heap θ μ h2':=⟨fun _ _ e=>e,fun b o e fx l=>⟨ke b o (fun hb=>by
    simp only[aO,gH,or_false]at hb;rcases hb with rfl|rfl|rfl|rfl|rfl
    .rw[hz]at e;cases e;exact aM rfl rfl (by decide) fx
    .exact l (.inl xI)
    .exact l (.inl xO)
    .obtain⟨o1,n1,v1,e1,c1,d1,m1⟩:=h1.fld
     rw[e1]at e;cases e;exact aM d1 c1 m1 fx
    .obtain⟨o2,e2,c2,d2⟩:=h2
     rw[e2]at e;cases e;exact aM d2 c2 (by decide) fx) e,l⟩⟩
   refine f (tk:=s.toks) ke ⟨hz2,hs2.extBut _ _ D.TIz (a7 _ _ D.TIz D.TITO D.TIi1 D.TIi2 hTI),⟨_,_,hs2.extBut _ _ D.TOz a2⟩,a3.at fun o e=>hs2.extBut _ _ D.i1z e,a4.extBut hs2.extBut D.i2z,xI,xO,kp.rp r1,kp.rp r2⟩
    ⟨s.heap.objs.size,[u1,u2],rfl,⟨by rw[gF];simp,_,_,hs2.extBut _ _ nz a5,rfl,rfl,rfl⟩,w.Fj (aL _),.cons (kp.rp ru1) (.one (kp.rp ru2))⟩
  cases t with
  |false=>obtain⟨_,xs,q,pl1,l1,rs1⟩:=gR w r1 ((hg gm).1 rfl);cases q;obtain⟨u1,hu1,ru1⟩:=rs1.get ha;exact wpAny_pyNext_zip_item D hz hTI hTO h1 h2 pl1.isList pl2.isList (x:=u1) (y:=u2) (by simpa using hu1) (by simpa using hu2) (go u1 ru1)
  |true=>obtain⟨rfl,hle⟩:=ht rfl;obtain⟨_,xs,q,z1,_,rs1⟩:=id r1;cases q;obtain⟨u1,hu1,ru1⟩:=rs1.get ha;exact Y8 D hz hTI hTO h1 h2 (show s.heap.IsTuple a xs.toArray from cM z1) pl2.isList (x:=u1) (y:=u2) (by simpa using hu1) (by simpa using hu2) (go u1 ru1)
 done:=fun {s θ μ Q E} st w hd nl gm f=>by
  obtain⟨hz,hTI,⟨c,d',hTO⟩,h1,h2,xI,xO,r1,r2⟩:=st;obtain⟨_,ys,q,pl2,l2,rs2⟩:=gR w r2 (hg gm).2;cases q;have k2:=rs2.length;have nd:TI≠z/\TI≠TO/\TI≠i1/\TI≠i2:=⟨D.TIz,D.TITO,D.TIi1,D.TIi2⟩;have fin:(∀ h',(∀ c o,c≠z->c≠TO->c≠i1->c≠i2->s.heap.get? c=some o->h'.get? c=some o)->(∃ o,h'.get? TO=some o)->Q none {s with heap:=h' }):=fun h' kk to=>by
   refine f (tk:=s.toks) (fun b o hb e=>?_) fun b hb=>?_
   .simp only[aO,gH,or_false,not_or]at hb
    exact kk b o hb.1 hb.2.2.1 hb.2.2.2.1 hb.2.2.2.2 e
   .simp only[aO,gH,or_false]at hb
    rcases hb with rfl|rfl
    .exact⟨_,kk _ _ nd.1 nd.2.1 nd.2.2.1 nd.2.2.2 hTI⟩
    .exact to
  rw[Gh]at h1 h2;cases t with
  |false=>obtain⟨_,xs,q,pl1,l1,rs1⟩:=gR w r1 ((hg gm).1 rfl);cases q;have k1:=rs1.length;refine aaG (hA hc) D hz hTI hTO h1 h2 pl1.isList pl2.isList ?_ fin;simp only[adb,List.getElem?_eq_none_iff];omega
  |true=>obtain⟨rfl,hle⟩:=ht rfl;obtain⟨_,xs,q,z1,_,rs1⟩:=id r1;cases q;have k1:=rs1.length;exact aaF (hA hc) D hz hTI hTO h1 (show s.heap.IsTuple a xs.toArray from cM z1) (by simp;omega) fun h' kk=>fin h' (fun c o c1 _ c3 _ e=>kk c o c1 c3 e) ⟨_,kk _ _ D.TOz D.TOi1 hTO⟩
theorem ai5 {lx rx:Expr} (hcl:X.calm=true) (hg:Gl X (aC "zip")) (hm:X.T.mg (aC "zip")=none) (hl:PE X lx wl) (hr:PE X rx wr) (hs:c7 [lx,rx] X.env=[(false,eval lx X.env),(false,eval rx X.env)]) (hs2:c7 [rx] X.env=[(false,eval rx X.env)]):
  PI X (.Tuple es k tp) (.Call (.Name (aC "zip") p) [lx,rx] [] pos) (fun ρ μ Q=>wl ρ μ fun x μ1=>wr ρ μ1 fun y μ2=>Za x y μ2 Q):=fun {s ρ θ μ R Q E} i h f=>by
 refine Call_ (mz i hg hm (u:=.type "zip") (by decide+kernel) (by decide+kernel) (by decide+kernel) (Le ?_ (by rw[hs,hs2]) (by rw[hs2];rfl)));rw[hs];refine qM (hl i h fun {x u s1 θ1 μ1} i1 g1 r1 h1=>qM (hr i1 h1 fun {y v s2 θ2 μ2} i2 g2 r2 h2=>sy ?_));replace r1:=(i1.kp g2).rp r1;have go:∀ {t:Bool} {as bs:List D} {g:Mem->Prop} {a b:Addr} {h':Heap},(∀ {μ},g μ->(t=false->bU μ x=some as)/\bU μ y=some bs)->(t=true->x= .tup as/\as.length<=bs.length)->u= .ref a->v= .ref b->a<s2.heap.objs.size->b<s2.heap.objs.size->bs.length<=sizeLine->R (mJ as bs) g μ2->
   gP h' (s2.heap.objs.size+4) (s2.heap.objs.size+2) (s2.heap.objs.size+3) .none->eF h' (s2.heap.objs.size+2) (.ref s2.heap.objs.size) (.ref (s2.heap.objs.size+1))->
   eF h' (s2.heap.objs.size+3) .none .none->TF t h' s2.heap.objs.size a 0->h'.IsListIter (s2.heap.objs.size+1) b 0->(∀ c o,s2.heap.get? c=some o->h'.get? c=some o)->ak X.M X.A (Ce (.ref (s2.heap.objs.size+4))) Q E {s2 with heap:=h' }:=by
  intro t as bs g a b h' hg ht eu ev ha hb lb hR a1 a2 a3 a4 a5 kk;subst eu ev;obtain⟨i3,g3,kp3⟩:=Iv.exA (l:=[s2.heap.objs.size+2,s2.heap.objs.size+3]) (tk:=s2.toks) i2 kk fun c hc=>by
   simp only[aO,gH,or_false]at hc;rcases hc with rfl|rfl
   .exact⟨uR _ _,_,a2⟩
   .exact⟨uR _ _,_,a3⟩
  have D:G8 (s2.heap.objs.size+4) (s2.heap.objs.size+2) (s2.heap.objs.size+3) s2.heap.objs.size (s2.heap.objs.size+1) a b:=by have na:∀ j,a≠s2.heap.objs.size+j:=fun j=>jL (fM ha (uR _ _));have nb:∀ j,b≠s2.heap.objs.size+j:=fun j=>jL (fM hb (uR _ _));refine⟨?_,?_,?_,?_,?_,?_,?_,?_,?_,?_,na 4,na 3,na 0,na 1,nb 4,nb 3,nb 0,nb 1⟩<;>(intro q;have q':(_:Nat)=_:=q;omega)
  refine acd a1 (f i3 ((g1.trans g2).trans g3) (ah6 hcl i2.ok.hd hg ht D) ⟨a1,a2,⟨_,_,a3⟩,a4,a5,by simp,by simp,kp3.rp r1,kp3.rp r2⟩ (fun q hq=>?_) (by rw[Gh];omega) hR);have hq0:=hq;have:s2.heap.objs.size<=q:=by
   simp only[aO,gH,or_false]at hq;rcases hq with rfl|rfl|rfl|rfl|rfl
   .exact uR _ _
   .exact uR _ _
   .exact uR _ _
   .exact aL _
   .exact uR _ _
  obtain⟨f1,f2⟩:=i2.pD this;refine⟨f1,⟨fun y=>f2 (.inr y),?_⟩,(g1.trans g2).none this⟩;simp only[aO,gH,or_false]at hq;rcases hq with rfl|rfl|rfl|rfl|rfl
  .refine .inr fun y=>?_
   rcases jd.mp y with y|y
   .simp at y
   .exact f2 (.inl y)
  .exact .inl (by simp)
  .exact .inl (by simp)
  .refine .inr fun y=>?_
   rcases jd.mp y with y|y
   .simp at y
   .exact f2 (.inl y)
  .refine .inr fun y=>?_
   rcases jd.mp y with y|y
   .simp at y
   .exact f2 (.inl y)
 unfold Za at h2;split at h2
 .rename_i as bs ha hb
  obtain⟨a,us,eu,p1,l1,q1⟩:=gR i2.dD r1 ha;obtain⟨b,vs,ev,p2,l2,q2⟩:=gR i2.dD r2 hb;obtain⟨oa,ga,_⟩:=p1.isList;obtain⟨ob,gb,_⟩:=p2.isList;subst eu ev;exact call_zip_2 p1.isList p2.isList fun h' a1 a2 a3 a4 a5 _ kk=>go (t:=false) (fun z=>⟨fun _=>z.1,z.2⟩) (fun z=>nomatch z) rfl rfl (dw ga) (dw gb) (by rw[<-q2.length];exact l2) h2 a1 a2 a3 a4 a5 kk
 .rename_i bs ha hb
  split at h2
  .rename_i as
   obtain⟨b,vs,ev,p2,l2,q2⟩:=gR i2.dD r2 hb;obtain⟨a,us,eu,z1,_,q1⟩:=id r1;obtain⟨oa,ga,_⟩:=id (cM z1);obtain⟨ob,gb,_⟩:=p2.isList;subst eu ev;exact aas (show s2.heap.IsTuple a us.toArray from cM z1) p2.isList fun h' a1 a2 a3 a4 a5 kk=>go (t:=true) (fun z=>⟨fun y=>(nomatch y),z⟩) (fun _=>⟨rfl,h2.1⟩) rfl rfl (dw ga) (dw gb) (by rw[<-q2.length];exact l2) h2.2 a1 a2 a3 a4 a5 kk
  .exact h2.elim
 .exact h2.elim
end
end DW
namespace DW
section
open PySem PySem.SeqAt
open AutoSeq1 (wpAny_loadPart')
open MeetsSeq MeetsSeq2 MeetsSeq3 SeqRoads2
theorem Ke (l:Addr) (items:Array Value) (n:Nat) (dd:Option Addr) (sl:Array (Option Value)) (x:Value) (e:Value->Bool) (j:Nat) (hj:j<items.size)
  (hit:e items[j]=true) (hno:∀ m (hm:m<items.size),m<j->e items[m]=false):
  yd (nq.«tuple.index» ⟨[.ref l,x],[]⟩)
   (fun A R s=>s.heap.get? l=some {cls:=.type "tuple",dict:=dd,data:=.seq items n,slots:=sl}/\(∀ y,y∈items->xY A.in1 s y x (e y))/\R (.ok (.ret (.int j s.toks))) {s with toks:=s.toks+1}):=
 .of_wp fun prog w A R s h=>by
  obtain⟨hp,g,d,tk,os⟩:=s;obtain⟨hl,he,h⟩:=h;unfold nq.«tuple.index»;simp only[aiT,aiL]
  wp_walk using tO hl,acp _ (fun rest b s'=>b.1=none/\s'=⟨hp,g,d,tk,os⟩/\∃ i:Nat,i<=j/\rest=gG i (items.size -i)) _
  case turn=>
   rintro y rest b s' ⟨hb,rfl,i,hi,hr⟩;(have hlt:i<items.size:=by omega);rw[show items.size -i=(items.size -(i+1))+1 by omega,lC]at hr;obtain⟨rfl,rfl⟩:=List.cons.inj hr;(have ei:items[y]?=some items[y]:=by simp[hlt]);simp only[ei];refine ao (he _ (VF hlt) prog w _ _ ?_);rcases dH y j with c|c
   .rw[hno y hlt c]
    wp_walk
    exact⟨rfl,rfl,y+1,c,rfl⟩
   .have:y=j:=by omega
    subst this;rw[hit]
    wp_walk
    exact⟨_,rfl,h⟩
  case fin=>rintro⟨b1,b2⟩ s' ⟨hb,rfl,i,hi,hr⟩;have:=congrArg fK hr;simp at this;omega
  case h=>exact⟨rfl,rfl,0,iH _,by simp⟩
end
open PySem PySem.Spec PyProof.Rows PySem.SeqAt
open L2 (aQ Key frs rG Loc Look Mod rH cV)
section
variable {prog:cg} {w:bA} {A:aX} {E:Value->aj->Prop} {s:aj}
set_option maxHeartbeats 3200000 in
theorem QG 
  (hh:A.handled=none) (hl:s.heap.IsTuple l items) (hi:oV items.toList ns) (hb:items.size+1<scanBound)
  (h:∀ (h':Heap) (tk:Nat),h'.SetOf (M4 prog w) s.heap.objs.size (fun k'=>(uM (fun i=>ns.getD i 0) items.size).any (·==k')) (uM (fun i=>ns.getD i 0) items.size).length->
   (∀ b o,b<s.heap.objs.size->s.heap.get? b=some o->h'.get? b=some o)->Q (.ref s.heap.objs.size) {s with heap:=h',toks:=tk}):
  ak (aH prog w) A (call (.type "set") [.ref l]) Q E s:=by
 obtain⟨c,tl,hmro⟩:=uW.mro;have hmade:=uW.made;have hsub:=uW.sub;refine Uy (codeAny_of_tree ?_);show ak _ _ (callAny (.type "set") _) _ _ _;refine aD ⟨Code.quiet_builtin _ (by decide+kernel),yH PySem.F.entry_type_call ?_⟩;rw[Around.under_plain (weight_type_call_type "set" [.ref l] []) rfl];have h1:=uW.notType;have h2:=uW.canCreate;have hct:=PySem.F.typeCall_set_1 (.ref l);repeat (any_goals (first|assumption|wp_step))
 refine U9 (code_set_new_1 (.ref l) (E:=E) (Q₁:=fun obj s1=>∃ led:Bool,obj= .ref s.heap.objs.size/\s1={s with heap:=s.heap.push {cls:=.type "set",dict:=none,data:=.set #[] 0 (.fresh 0 0 led)}}) fun led=>⟨led,rfl,rfl⟩) fun r s1 hr=>?_;cases r with
 |error e=>exact hr|ok fl=>
  cases fl with
  |ret obj=>
   obtain⟨led,rfl,rfl⟩:=hr;have hS:(s.heap.push {cls:=.type "set",dict:=none,data:=.set #[] 0 (.fresh 0 0 led)}).get? s.heap.objs.size=some {cls:=.type "set",dict:=none,data:=.set #[] 0 (.fresh 0 0 led)}:=dW _ rfl;have hT:Shared.TypeIs {s with heap:=s.heap.push {cls:=.type "set",dict:=none,data:=.set #[] 0 (.fresh 0 0 led)}} (.ref s.heap.objs.size) "set":=⟨_,hS,rfl⟩;have hli:=uW.init.lookup;have hbi:=uW.init.bind (.ref s.heap.objs.size);(repeat (any_goals (first|assumption|wp_step)));refine U9 (codeAny_call_builtin (R:=wants (fun r s2=>r= .none/\∃ h' tk,s2={s with heap:=h',toks:=tk}/\
     h'.SetOf (M4 prog w) s.heap.objs.size (fun k'=>(uM (fun i=>ns.getD i 0) items.size).any (·==k')) (uM (fun i=>ns.getD i 0) items.size).length/\
     (∀ b o,b<s.heap.objs.size->s.heap.get? b=some o->h'.get? b=some o)) E) uW.init.plain PySem.F.entry_set_init (check_set_init_1 hT ?_)) fun r2 s2 hr2=>?_
   .obtain⟨ol,hol,hcl,nl,hdl⟩:=hl
    obtain⟨ocls,odict,odata,oslots⟩:=ol;simp only at hcl hdl;subst hcl;subst hdl;have hol':(s.heap.push {cls:=.type "set",dict:=none,data:=.set #[] 0 (.fresh 0 0 led)}).get? l=some {cls:=.type "tuple",dict:=odict,data:=.seq items nl,slots:=oslots}:=bV _ hol;have hsls:=PySem.F.sub_tuple_set;have hslf:=PySem.F.sub_tuple_frozenset;(have hne:(Hj "tuple"==Hj "dict")=false:=by decide);have hl1:(s.heap.push {cls:=.type "set",dict:=none,data:=.set #[] 0 (.fresh 0 0 led)}).IsTuple l items:=⟨_,hol',rfl,nl,rfl⟩;unfold nq.«set.__init__» noKeywords aiQ;generalize hPI:Ce=PI
    wp_walk
    subst hPI;refine H6 hl1 ?_;refine ao (wpAny_runValue ?_);have hlS:l<s.heap.objs.size:=dw hol;(have hh3:A.in1.in1.in1.handled=none:=by simp[hh]);have hneI:l≠(s.heap.push {cls:=.type "set",dict:=none,data:=.set #[] 0 (.fresh 0 0 led)}).objs.size:=by rw[oN];exact jL (Om hlS)
    have hSf:s.heap.objs.size∉[(s.heap.push {cls:=.type "set",dict:=none,data:=.set #[] 0 (.fresh 0 0 led)}).objs.size,l]:=by rw[oN];simp only[aO,cO,gH,or_false,not_or];exact⟨jL (Cy _),j8 hlS⟩
    have hval:∀ (i:Nat) (v:Value),items[i]?=some v->∃ t,v= .int ((fun i=>ns.getD i 0) i) t:=fun i v hv=>IntsAre.int_at hi i v (by rw[Array.getElem?_toList];exact hv)
    refine codeAny_set_update_loopS ((Walks.tuple hh3 _ l hneI items).toS) s.heap.objs.size
     hSf (fun i=>ns.getD i 0) hval hb (items.size -0) 0 _ (by omega) (iH _)
     ⟨⟨_,dW _ rfl,rfl,rfl⟩,⟨_,bV _ hol',rfl,nl,rfl⟩⟩ ?hS0 ?hR
    case hS0=>
     have hget:((s.heap.push {cls:=.type "set",dict:=none,data:=.set #[] 0 (.fresh 0 0 led)}).push {cls:=.type "tuple_iterator",data:=.fields #[.ref l,.int 0 0]}).get? s.heap.objs.size
       =some {cls:=.type "set",dict:=none,data:=.set #[] 0 (.fresh 0 0 led)}:=bV _ hS
     exact SetOf_congr ((setObjOf_fresh (knd:=M4 prog w) led).setOf hget (by unfold scanBound;omega)) (fun _=>rfl) rfl
    case hR=>
     intro s' hm hS';obtain⟨h',g',d',tk',os'⟩:=s';have eg:g'=s.gens:=hm.gens;have ed:d'=s.drawn:=hm.drawn;have eo:os'=s.os:=hm.os;subst eg;subst ed;subst eo;show ak _ _ _ _ _ _;refine aD ?_;show ak _ _ (ret iB) _ _ _;refine aD ⟨rfl,h',tk',rfl,hS',fun b o hb e=>?_⟩;have hb1:b≠s.heap.objs.size:=jL hb;have hb2:b≠(s.heap.push {cls:=.type "set",dict:=none,data:=.set #[] 0 (.fresh 0 0 led)}).objs.size:=by rw[oN];exact jL (Om hb)
     exact hm.heap b o (by simp only[aO,cO,gH,or_false,not_or];exact⟨hb1,hb2⟩) (bV _ (bV _ e))
   .cases r2 with
    |error e=>exact hr2|ok fl2=>
     cases fl2 with
     |ret r=>obtain⟨rfl,h',tk,rfl,hS',hk'⟩:=hr2;(repeat (any_goals (first|assumption|wp_step)));exact h _ _ hS' hk'|_=>exact hr2.elim
  |_=>exact hr.elim
end
theorem Kw (ns:List Int):(uM (fun i=>ns.getD i 0) ns.length).length=JC ns:=by
 have e:(aN ns.length).map (fun i=>ns.getD i 0)=ns:=by
  apply oR;intro i;by_cases c:i<ns.length
  .simp[c]
  .simp[c,uT c]
 unfold uM JC;rw[e];rfl
theorem af6 {prog:cg} {w:bA} {A:aX} {E:Value->aj->Prop} {s:aj} {l:Addr} {vs:List Value} {ns:List Int} {k:Int} {t:Tok} {Q:Value->aj->Prop} (hl:IsTup s.heap l vs.toArray) (hi:oV vs ns)
  (hk:k∈ns) (h:Q (.int (ns.idxOf k:Nat) s.toks) {s with toks:=s.toks+1}):
  ak (aH prog w) A (call (.builtin "tuple.index") [.ref l,.int k t]) Q E s:=by
 obtain⟨⟨cls,dd,data,sl⟩,ho,hc,n,hd⟩:=id hl;simp only at hc hd;subst hc hd;have hlen:=hi.length;have hj:ns.idxOf k<ns.length:=Wa.mpr hk;refine jm adC ⟨_,ho,rfl⟩ PySem.F.entry_tuple_index (PySem.F.args_tuple_index_2 _ _)
  (Ke l vs.toArray n dd sl (.int k t) (isInt k) (ns.idxOf k) (by simpa[hlen]using hj) ?_ ?_) ⟨ho,fun y hy=>(eq_isInt k t hi y (by simpa using hy)).at _ _,h⟩
 .show isInt k vs[ns.idxOf k]=true
  rw[Nh k hi _ (by omega) hj];simpa using Ox hj
 .intro j hjs hlt
  show isInt k vs[j]=false;rw[Nh k hi j (by simpa using hjs) (by omega)];exact ne_of_lt_idxOf hlt _
section
variable {X:Cx} {ρ:dJ} {θ:Th} {μ:Mem} {s:aj} {d:D} {u:Value} {a:Expr} {wa:WE} {T:String} {XE:Value->aj->Prop} {Q:Value->aj->Prop} {p p1 p2 pos pos2 tp:Pos} {k:Nat}
theorem akG {d:D} (h:ajR d=true):tyOf μ d=some "tuple":=by
 cases d with
 |tup _=>rfl|_=>cases h
theorem ajt:Mt X "tuple.index" Zb:=fun {s ρ θ μ x ds u us Qd Q E} i rd re hw f=>by
 cases x with
 |tup es=>
  simp only[Zb]at hw;split at hw
  .rename_i ns hb
   match ds,hw with
   |[.int k],hw=>obtain⟨w,rfl,rw'⟩:=re.jB;obtain⟨t,rfl⟩:=rw';obtain⟨a,vs,rfl,z,_,rs⟩:=rd;cases ints_map hb;exact af6 (cM z) (Aq rs) hw.1 (f.tok i iw hw.2)
  .exact hw.elim
 |_=>exact hw.elim
theorem aeM (K:cW):∀ a∈["NoneType","bool","int","str","tuple","list","dict"],abU K (.type a) [.type "list",.type "tuple"]=some (tZ a "list"||tZ a "tuple"):=by intro a ha;simp only[aO,gH,or_false]at ha;rcases ha with rfl|rfl|rfl|rfl|rfl|rfl|rfl<;>first|rfl|decide
theorem Z7 {r:Bool} {A:aX} {tp:Addr} {dd:Option Addr} {its:List Value} {n:Nat} {sl:Array (Option Value)} (i:Iv X ρ θ μ s) (rd:Rp s.heap θ μ d u) (e:tyOf μ d=some T) (htp:s.heap.get? tp=some ⟨.type "tuple",dd,.seq its.toArray n,sl⟩) (hk:abU X.T.K (.type T) its=some r)
  (h:∀ tk,Q (.bool r) {s with toks:=tk}):ak X.M A (call (.builtin "isinstance") [u,.ref tp]) Q XE s:=by
 cases d with
 |non=>cases(show u=iB from rd);cases e;exact rW acB i.vU rP htp hk (fun z=>nomatch z) h
 |bl y=>cases(show u=iG y from rd);cases e;exact rW acA i.vU rP htp hk (fun z=>nomatch z) h
 |int j=>obtain⟨t,q⟩:=rd;cases q;cases e;exact rW acg i.vU rP htp hk (fun z=>nomatch z) h
 |str y=>obtain⟨⟨t,q⟩,_⟩:=rd;cases q;cases e;exact rW acf i.vU rP htp hk (fun z=>nomatch z) h
 |tup ds=>obtain⟨a,us,rfl,⟨_,o,n,h1,h2,_⟩,_⟩:=rd;cases e;exact rW acL i.vU ⟨o,h1,h2⟩ htp hk (fun z=>nomatch z) h
 |lst ds=>obtain⟨a,us,rfl,⟨_,n,h1⟩,_⟩:=rd;cases e;exact rW Oq i.vU ⟨_,h1,rfl⟩ htp hk (fun z=>nomatch z) h
 |loc n=>
  obtain⟨p,rfl,hp⟩:=rd;simp only[tyOf]at e;split at e
  .rename_i es hn
   obtain⟨us,⟨_,n,h1⟩,_⟩:=i.dD.cell _ _ p hn hp;cases e;exact rW Oq i.vU ⟨_,h1,rfl⟩ htp hk (fun z=>nomatch z) h
  .rename_i ks es hn
   obtain⟨⟨_,⟨o,_,_,h1,x,_⟩,_⟩,_⟩:=i.dD.cell _ _ p hn hp;cases e;exact rW Oo i.vU ⟨o,h1,x.1⟩ htp hk (fun z=>nomatch z) h
  .rename_i ks es hn
   obtain⟨⟨_,⟨o,_,_,h1,x,_⟩,_⟩,_⟩:=i.dD.cell _ _ p hn hp;cases e;exact rW Oo i.vU ⟨o,h1,x.1⟩ htp hk (fun z=>nomatch z) h
  .cases e
 |ro _=>cases e
 |_=>exact rd.elim
theorem aec (ha:PE X a wa) (g1:Gl X (aC "isinstance")) (g2:Gl X (aC "list")) (g3:Gl X (aC "tuple")) (m1:X.T.mg (aC "isinstance")=none) (m2:X.T.mg (aC "list")=none) (m3:X.T.mg (aC "tuple")=none)
  (hs:c7 [a,.Tuple [.Name (aC "list") p1,.Name (aC "tuple") p2] k tp] X.env=(false,eval a X.env)::c7 [.Tuple [.Name (aC "list") p1,.Name (aC "tuple") p2] k tp] X.env):
  PE X (.Call (.Name (aC "isinstance") p) [a,.Tuple [.Name (aC "list") p1,.Name (aC "tuple") p2] k tp] [] pos) (fun ρ μ Q=>wa ρ μ fun d μ1=>Gi d μ1 Q):=fun {s ρ θ μ Qd Q E} i h f=>by
 obtain⟨b1,b2,b3⟩:=JZ "list" (by simp);obtain⟨c1,c2,c3⟩:=JZ "tuple" (by simp);refine yL (mz (u:=.builtin "isinstance") i g1 m1 (by decide+kernel) (by decide+kernel) (by decide+kernel) (Wh ?_ hs rfl));rw[hs];refine qM (ha i h fun {d u s1 θ1 μ1} i1 g1 r1 h1=>?_);refine qM (Tuple_ (k:=k) (qM (mz i1 g2 m2 b1 b2 b3 (qM (mz i1 g3 m3 c1 c2 c3 (sy ?_))))));refine tM ?_ (by show 2<=sizeLine;decide);refine sy ?_;have i2:=i1.kept (tk:=s1.toks) (h':=s1.heap.push {cls:=.type "tuple",data:=.seq #[.type "list",.type "tuple"]}) cU;have g4:G0 X θ1 μ1 s1 θ1 μ1 _:=cB (tk:=s1.toks) (h':=s1.heap.push {cls:=.type "tuple",data:=.seq #[.type "list",.type "tuple"]}) cU;unfold Gi at h1;split at h1
 .rename_i ty e
  have hty:ty∈["NoneType","bool","int","str","tuple","list","dict"]:=(aa2 i1.dD r1 e).1;exact Z7 (its:=[.type "list",.type "tuple"]) i2 ((iV cU).rp r1) e (dW _ rfl) (aeM _ _ hty) fun tk=>f (d:=.bl (tZ ty "list"||tZ ty "tuple")) (Iv.tok i2) ((g1.trans g4).trans (cB fun _ _ e=>e)) rfl h1
 .exact h1.elim
theorem agD (hc:X.calm=true) (ha:PE X a wa) (g1:Gl X (aC "len")) (g2:Gl X (aC "set")) (m1:X.T.mg (aC "len")=none) (m2:X.T.mg (aC "set")=none) (hs:c7 [a] X.env=[(false,eval a X.env)]):
  PE X (.Call (.Name (aC "len") p) [.Call (.Name (aC "set") p2) [a] [] pos2] [] pos) (fun ρ μ Q=>wa ρ μ fun d μ1=>XH d μ1 Q):=fun {s ρ θ μ Qd Q E} i h f=>by
 refine yL (mz (u:=.builtin "len") i g1 m1 (by decide+kernel) (by decide+kernel) (by decide+kernel) (Wh ?_ rfl rfl));refine qM (Call_ (mz (u:=.type "set") i g2 m2 (by decide+kernel) (by decide+kernel) (by decide+kernel) (Le ?_ (by rw[hs];rfl) rfl)));rw[hs];refine qM (ha i h fun {d u s1 θ1 μ1} i1 g1 r1 h1=>sy ?_);unfold XH at h1;split at h1
 .rename_i ns e
  obtain⟨hl,h1⟩:=h1;obtain⟨ds,q,e⟩:=bind_some e;obtain⟨ad,us,rfl,z,r⟩:=qG i1.dD r1 q;cases ints_map e;have hi:=Aq r;have el:us.length=ns.length:=hi.length;have sb:ns.length+1<scanBound:=by unfold scanBound;omega
  have fin:∀ (h':Heap) (tk:Nat),h'.SetOf (M4 X.T.P X.T.w) s1.heap.objs.size (fun k'=>(uM (fun i=>ns.getD i 0) us.length).any (·==k')) (uM (fun i=>ns.getD i 0) us.length).length->(∀ b o,b<s1.heap.objs.size->s1.heap.get? b=some o->h'.get? b=some o)->
    ak X.M X.A (M8 []) (fun vs s2=>ak X.M X.A (call (.builtin "len") (.ref s1.heap.objs.size::vs)) Q E s2) E {s1 with heap:=h',toks:=tk}:=by
   intro h' tk hS hk;rw[el,Kw]at hS;refine sy ?_;obtain⟨o,es,ep,t,ho,hex,hd,_,_,hb,hf,en⟩:=hS;have k:∀ b o,s1.heap.get? b=some o->h'.get? b=some o:=fun b u e=>hk b u (dw e) e;refine call_len_set ho hex hd hf (by unfold scanBound at hb;omega) ?_;rw[en];exact f (d:=.int (JC ns:Nat)) (Iv.tok (i1.kept (tk:=tk) k)) (g1.trans ((cB (tk:=tk) k).trans (cB fun _ _ e=>e))) iw h1
  by_cases hz:QT d=0
  .have z':jR s1.heap 0 ad us:=by rw[<-hz];exact z
   exact QG (items:=us.toArray) (ns:=ns) (i1.ok.hd hc) (show s1.heap.IsTuple ad us.toArray from cM z') (by simpa using hi) (by simp only[cJ];omega) fun h' tk hS hk=>fin h' tk (by simpa using hS) hk
  .exact call_set_list (items:=us.toArray) (ns:=ns) (i1.ok.hd hc) (eU z hz).isList (by simpa using hi) (by simp only[cJ];omega) fun h' tk hS hk=>fin h' tk (by simpa using hS) hk
 .exact h1.elim
end
end DW
namespace DW
open PySem PySem.Spec PyProof.Rows
open L2 (aQ Key frs rG Loc Look Mod rH cV Cls gC)
open PySem.W (hideAll hideAll_get of_hideAll hideAll_none funFrames_hide)
section
variable {X:Cx} {ρ:dJ} {θ θ1 θ':Th} {μ μ1 μ':Mem} {s s1 s':aj} {h h' B:Heap} {tk:Nat} {l:List Addr} {T:Top} {ea C:Addr} {ob:Obj} {ws:Array Value} {c:String} {ks:List String} {ds:List D} {e:Value}
end
end DW
namespace DW
open PySem PySem.Spec PyProof.Rows
open L2 (aQ Key frs rG Loc Look Mod rH cV Cls gC)
section
variable {X:Cx} {ρ:dJ} {θ θ':Th} {μ μ':Mem} {s s1 s':aj} {d:D} {u v:Value} {o a cl:Expr} {wo wa w:WE} {f:String} {tab:List String} {tb:List (String×Bool)} {tt:Bool} {ts:List String} {p p2 pos pos2:Pos} {c:Ctx} {es:List Expr} {vs:List Value}
end
end DW
namespace DW
open PySem PySem.Spec PyProof.Rows
open AutoSeq1 (wpAny_loadPart')
section
variable {prog:cg} {w:bA} {A:aX} {E:Value->aj->Prop} {s:aj}
end
end DW
namespace DW
open PySem PySem.Spec PyProof.Rows
open L2 (aQ Key frs rG Loc Look Mod rH cV)
section
variable {X:Cx} {ρ:dJ} {θ:Th} {μ:Mem} {l:List Nat} {rest:List (Sem Value)} {K:List Nat->Prop} {s1 s2:Str} {j1 j2:Nat} {p p1 p2 p3 p4 pos pos2:Pos} {v u z:Expr} {i j:Int} {pre mid:List Nat} {w:WE} {m:Bool}
end
end DW
namespace DW
open PySem PySem.Spec PyProof.Rows
open L2 (aQ Key frs rG Loc Look Mod rH cV Cls gC Meth Mk)
section
variable {X:Cx} {ρ:dJ} {θ:Th} {μ:Mem} {s:aj} {m n k:Nat} {h:Heap}
theorem Jv:∀ (ds:List D),flats m (ds.map (fH μ n))=true->∀ d∈ds,flat m (fH μ n d)=true
 |[],_,d,h=>by simp at h|e::ds,h,d,hd=>by
  have h':flat m (fH μ n e)=true/\flats m (ds.map (fH μ n))=true:=by simpa[flats]using h
  rcases aO.mp hd with rfl|hd
  .exact h'.1
  .exact Jv ds h'.2 d hd
theorem readsAll_map:∀ (ds:List D) (us:List Value),dF h θ μ ds us->(∀ d∈ds,∀ u,Rp h θ μ d u->∃ as,Reads h u (pd (fH μ n d)) as)->∃ as,ReadsAll h us (Lh (ds.map (fH μ n))) as
 |[],_,r,_=>by cases r.nil_inv;exact⟨_,by rw[bh];unfold Lh;exact .nil⟩
 |d::ds,_,⟨u,r,e,x,y⟩,hh=>by obtain⟨as,ra⟩:=hh d (by simp) u x;obtain⟨bs,rb⟩:=readsAll_map ds r y fun e he=>hh e (by simp[he]);exact⟨as++bs,by rw[e,aW];unfold Lh;exact .cons ra rb⟩
theorem rJ (w:qx X.T θ μ h):∀ (n m:Nat) (d:D) (u:Value),Rp h θ μ d u->flat m (fH μ n d)=true->∃ as,Reads h u (pd (fH μ n d)) as
 |0,m,d,u,r,f=>fJ m d u r f|n+1,m,d,u,r,f=>by
  have ls:∀ {a:Addr} {us:List Value} {ds:List D},jR h 1 a us->dF h θ μ ds us->flat m (.lst (ds.map (fH μ n)))=true->∃ as,Reads h (.ref a) (pd (.lst (ds.map (fH μ n)))) as:=by
   intro a us ds x rs f;cases m with
   |zero=>simp[flat]at f|succ m=>obtain⟨_,k,ho⟩:=x;obtain⟨as,ra⟩:=readsAll_map ds us rs fun d hd u r=>rJ w n m d u r (Jv ds (by simpa[flat]using f) d hd);exact⟨a::as,by unfold pd;exact .list ho rfl rfl (by simpa using ra)⟩
  cases d with
  |tup ds=>
   replace f:flat m (.tup (ds.map (fH μ n)))=true:=f;obtain⟨a,us,rfl,⟨_,o,k,ho,hc,hd,_⟩,_,rs⟩:=r;cases m with
   |zero=>simp[flat]at f|succ m=>obtain⟨as,ra⟩:=readsAll_map ds us rs fun d hd u r=>rJ w n m d u r (Jv ds (by simpa[flat]using f) d hd);exact⟨as,by show Reads _ _ (pd (.tup (ds.map (fH μ n)))) _;unfold pd;exact .tuple ho hc hd (by simpa using ra)⟩
  |lst ds=>obtain⟨a,us,rfl,x,_,rs⟩:=r;exact ls x rs f|loc k=>
   (have e:fH μ (n+1) (.loc k)=match μ[k]? with|some (.lst ds)=>.lst (ds.map (fH μ n))|_=>.loc k:=rfl);rw[e]at f ⊢;cases hk:μ[k]? with
   |none=>rw[hk]at f;simp[flat]at f|some c=>
    rw[hk]at f;cases c with
    |lst ds=>obtain⟨p,us,rfl,_,_,x,rs⟩:=Iv.lst w hk r;exact ls x rs f|_=>simp[flat]at f
  |non=>exact fJ m _ u r f|bl _=>exact fJ m _ u r f|int _=>exact fJ m _ u r f|str _=>exact fJ m _ u r f|ro _=>exact fJ m _ u r f|vV _ _=>exact fJ m _ u r f
theorem afd (hr:cV k X.A) (neg:Bool):Op2 X (j7 (if neg then .NotEq else .Eq)) (Zd neg):=by
 intro s ρ θ μ d e u v Qd Q E i rd re ⟨f1,f2,q⟩ f;have hu:X.A.units+64<cLine:=hr.units;obtain⟨as,ra⟩:=rJ i.dD 8 60 d u rd f1;obtain⟨bs,rb⟩:=rJ i.dD 8 60 e v re f2;have dp:=Bl _ _ f1;cases neg with
 |true=>refine adg ra rb (eO _ _ f1) (eO _ _ f2) (by omega) ?_;rw[zj _ _ _ _ f1 f2];exact f.at i X8 (by simpa using q)|false=>refine adh ra rb (eO _ _ f1) (eO _ _ f2) (by omega) ?_;rw[zj _ _ _ _ f1 f2];exact f.at i X8 (by simpa using q)
end
section
variable {X:Cx} {c:Ctx} {x y:Str} {e a:Expr} {es as:List Expr} {ws:WA} {b:String} {p pos:Pos}
theorem afy:OpA X (fun us=>call (.type "list") us) (bM "list"):=QJ (by decide) (fun {s ρ θ μ d u Qd Q E} i r hw f=>by
 simp only[bM]at hw;split at hw
 .rename_i ds hq;exact RV (m:=false) i r hq hw f
 .exact hw.elim) fun i x y hw f=>by simp[bM]at hw
theorem ajl (hx:b∈Pz) (ey:y=afx b) (hc:X.calm=true) (g:Gl X y) (m:X.T.mg y=none) (ha:Ar X (e::es) ws):PE X (.Call (.Name y p) (e::es) [] pos) (fun ρ μ Q=>ws ρ μ fun ds μ1=>bM b ds μ1 Q):=by
 subst ey;simp only[Pz,aO,gH,or_false]at hx;rcases hx with rfl|rfl|rfl|rfl|rfl|rfl|rfl|rfl|rfl
 .exact o7 (by decide+kernel) (by decide+kernel) (by decide+kernel) ahs g m ha
 .exact o7 (by decide+kernel) (by decide+kernel) (by decide+kernel) (aht hc) g m ha
 .exact o7 (by decide+kernel) (by decide+kernel) (by decide+kernel) (ahp hc) g m ha
 .exact o7 (by decide+kernel) (by decide+kernel) (by decide+kernel) (ahr hc) g m ha
 .exact o7 (by decide+kernel) (by decide+kernel) (by decide+kernel) (ahq hc) g m ha
 .exact Ie (by decide+kernel) (by decide+kernel) (by decide+kernel) (afy) g m ha
 .exact Ie (by decide+kernel) (by decide+kernel) (by decide+kernel) aau g m ha
 .exact Ie (by decide+kernel) (by decide+kernel) (by decide+kernel) aat g m ha
 .exact o7 (by decide+kernel) (by decide+kernel) (by decide+kernel) Xl g m ha
theorem alB {it:It} {tt:Bool} (h:(c.calm||(GX it&& !tt))=true):c.calm=true∨GX it=true:=by
 rcases acT.mp h with h|h
 .exact .inl h
 .exact .inr (V5.mp h).1
theorem alA {it:It} {tt:Bool} (h:(c.calm||(GX it&& !tt))=true):tt=true->c.calm=true:=fun z=>by subst z;simpa using h
def isTup:Expr->Bool
 | .Tuple ..=>true|_=>false
theorem Gg {is:List Nat} {tt:Bool} {t:Expr} {it:It} (h:ZR c is tt t=true) (hz:tE tt it=true):tE (isTup t) it=true:=by
 cases it with
 |enum l=>simp only[tE]at hz ⊢;subst hz;cases t<;>first|rfl|exact(dM h).elim
 |zip l r=>simp only[tE]at hz ⊢;subst hz;cases t<;>first|rfl|exact(dM h).elim
 |_=>rfl
theorem aeB {it:It} (h:mI c it a=true):kh a=true:=by
 cases it with
 |seq e=>simp only[mI,bO]at h;exact h.2|_=>obtain⟨t,e,_⟩:=aA h;obtain⟨p,q,rfl⟩:=dY e;rfl
theorem akV {w:WE} (he:∀ whole,xZ a X.env whole=(do let v<-whole;M6 a.pos;yg [v] (G3 v))) (pe:PE X a w):PT X a (fun ρ μ Q=>w ρ μ fun d μ1=>gZ d μ1 Q):=fun i q f=>isTrue_plain (pe i q fun i1 g1 r1 h1=>by obtain⟨b,rfl,rfl,q⟩:=Fb r1 h1;exact pQ (f i1 g1 rfl q)) (he _)
theorem pw_tru {e':DW.E} (pe:PE X a (wE e')) (he:∀ whole,xZ a X.env whole=(do let v<-whole;M6 a.pos;yg [v] (G3 v))) (h:∀ ρ μ Q,wT e' ρ μ Q->wE e' ρ μ fun d μ1=>iu d μ1 Q) (hb:∀ op vs pos,a≠.BoolOp op vs pos):Snd X e' a:=⟨pe,PT.wk (aiW pe he) h,pw_no hb⟩
theorem pw_nev {e':DW.E} (pe:PE X a (wE e')) (h:∀ ρ μ Q,¬wT e' ρ μ Q) (hb:∀ op vs pos,a≠.BoolOp op vs pos):Snd X e' a:=⟨pe,PT.wk Rw fun ρ μ Q z=>h ρ μ Q z,pw_no hb⟩
end
mutual
theorem sE:∀ (e:E) {X:Cx} {c:Ctx} {a:Expr},rF X c->mE c e a=true->cj (vL X) (nC X) e->Snd X e a
 | .var i,X,c,a,C,h,_=>by have h:(opt (jW a) fun x=>c.at_ i x&&c.vis x&& !gY x)=true:=h;obtain⟨x,e,hh⟩:=aA h;obtain⟨pos,rfl⟩:=iQ e;have h:=hh;simp only[bO,su]at h;obtain⟨⟨h1,h2⟩,h3⟩:=h;obtain⟨o1,o2⟩:=mj h3;exact pw_tru (aja (C.N▸Bs h1) (C.vis x h2) o1 o2) (fun _=>rfl) (fun ρ μ Q q=>by simp only[wT]at q;simp only[wE];exact q) (fun _ _ _ z=>by cases z)| .cst d,X,c,a,C,h,_=>by have h:(opt (T9 a) fun k=>mC k d)=true:=h;obtain⟨k,e,hh⟩:=aA h;obtain⟨j,pos,rfl⟩:=T8 e;have h:=hh;exact pw_tru (ajk h) (fun _=>rfl) (fun ρ μ Q q=>q) (fun _ _ _ z=>by cases z)| .gbl y d,X,c,a,C,h,ok=>by have h:(opt (jW a) fun x=>x==y&&c.wC x&& !gY x)=true:=h;obtain⟨x,e,hh⟩:=aA h;obtain⟨pos,rfl⟩:=iQ e;have h:=hh;simp only[bO,su,beq_iff_eq]at h;obtain⟨⟨rfl,h2⟩,h3⟩:=h;obtain⟨u,m,r⟩:=(show nC X x d from ok);exact pw_nev (agF (C.wC x h2) m r (mj h3).1) (fun _ _ _ z=>z) (fun _ _ _ z=>by cases z)| .bin op l r,X,c,a,C,h,ok=>by have h:(opt (Ud a) fun t=>op==t.2.1&&mE c l t.1&&mE c r t.2.2)=true:=h;obtain⟨⟨l',op',r'⟩,e,hh⟩:=aA h;obtain⟨pos,rfl⟩:=Gn e;have h:=hh;simp only[bO,beq_iff_eq]at h;obtain⟨⟨rfl,h1⟩,h2⟩:=h;exact pw_nev (ajm (sE l C h1 ok.1).pe (sE r C h2 ok.2).pe) (fun _ _ _ z=>z) (fun _ _ _ z=>by cases z)| .cat m l r,X,c,a,C,h,ok=>by have h:(opt (Ud a) fun t=>t.2.1== .Add&&mE c l t.1&&mE c r t.2.2)=true:=h;obtain⟨⟨l',op',r'⟩,e,hh⟩:=aA h;obtain⟨pos,rfl⟩:=Gn e;have h:=hh;simp only[bO,beq_iff_eq]at h;obtain⟨⟨rfl,h1⟩,h2⟩:=h;exact pw_nev (aea (aj9 m) (sE l C h1 ok.1).pe (sE r C h2 ok.2).pe) (fun _ _ _ z=>z) (fun _ _ _ z=>by cases z)| .rep m l r,X,c,a,C,h,ok=>by have h:(opt (Ud a) fun t=>t.2.1== .Mult&&mE c l t.1&&mE c r t.2.2)=true:=h;obtain⟨⟨l',op',r'⟩,e,hh⟩:=aA h;obtain⟨pos,rfl⟩:=Gn e;have h:=hh;simp only[bO,beq_iff_eq]at h;obtain⟨⟨rfl,h1⟩,h2⟩:=h;exact pw_nev (aea (aiC m) (sE l C h1 ok.1).pe (sE r C h2 ok.2).pe) (fun _ _ _ z=>z) (fun _ _ _ z=>by cases z)| .neg l,X,c,a,C,h,ok=>by have h:(opt (aic a) fun t=>mE c l t)=true:=h;obtain⟨l',e,hh⟩:=aA h;obtain⟨pos,rfl⟩:=aaT e;have h:=hh;exact pw_nev (aje (sE l C h ok).pe) (fun _ _ _ z=>z) (fun _ _ _ z=>by cases z)| .not l,X,c,a,C,h,ok=>by have h:(opt (aib a) fun t=>mE c l t)=true:=h;obtain⟨l',e,hh⟩:=aA h;obtain⟨pos,rfl⟩:=aaS e;have h:=hh;have S1:=sE l C h ok;exact⟨ajd S1.pe,aiX S1.pt,pw_no (fun _ _ _ z=>by cases z)⟩| .cmp op l r,X,c,a,C,h,ok=>by have h:(opt (Ua a) fun t=>op==t.2.1&&mE c l t.1&&mE c r t.2.2&&kh t.2.2)=true:=h;obtain⟨⟨l',op',r'⟩,e,hh⟩:=aA h;obtain⟨pos,rfl⟩:=Gm e;have h:=hh;simp only[bO,beq_iff_eq]at h;obtain⟨⟨⟨rfl,h1⟩,h2⟩,h3⟩:=h;have S1:=sE l C h1 ok.1;have S2:=sE r C h2 ok.2;obtain⟨k,hr⟩:=C.room;exact⟨aee (DP hr op) S1.pe S2.pe (GK h3),ad1 (DP hr op) S1.pe S2.pe (GK h3),pw_no (fun _ _ _ z=>by cases z)⟩| .KN n l r,X,c,a,C,h,ok=>by have h:(opt (Ua a) fun t=>(t.2.1==(if n then abB else CmpOp.Eq))&&mE c l t.1&&mE c r t.2.2&&kh t.2.2)=true:=h;obtain⟨⟨l',op',r'⟩,e,hh⟩:=aA h;obtain⟨pos,rfl⟩:=Gm e;have h:=hh;simp only[bO,beq_iff_eq]at h;obtain⟨⟨⟨rfl,h1⟩,h2⟩,h3⟩:=h;have S1:=sE l C h1 ok.1;have S2:=sE r C h2 ok.2;obtain⟨k,hr⟩:=C.room;exact⟨aee (afd hr n) S1.pe S2.pe (GK h3),ad1 (afd hr n) S1.pe S2.pe (GK h3),pw_no (fun _ _ _ z=>by cases z)⟩| .chain p q l m r,X,c,a,C,h,ok=>by
  have h:(opt (aaW a) fun t=>p==t.2.1&&q==t.2.2.1&&mE c l t.1&&mE c m t.2.2.2.1&&mE c r t.2.2.2.2&&kh t.2.2.2.2&&kh t.2.2.2.1)=true:=h;obtain⟨⟨l',p',q',m',r'⟩,e,hh⟩:=aA h;obtain⟨pos,rfl⟩:=Ze e;have h:=hh;simp only[bO,beq_iff_eq]at h;obtain⟨⟨⟨⟨⟨⟨rfl,rfl⟩,h1⟩,h2⟩,h3⟩,h4⟩,h5⟩:=h;have S1:=sE l C h1 ok.1;have S2:=sE m C h2 ok.2.1;have S3:=sE r C h3 ok.2.2;obtain⟨k,hr⟩:=C.room;have hm:Uu [p,q] [m',r']=false:=by show N6 q r'=false;exact GK h4
  exact⟨aef (DP hr p) (DP hr q) S1.pe S2.pe S3.pe hm,ad2 (DP hr p) (DP hr q) S1.pe S2.pe S3.pe hm,pw_no (fun _ _ _ z=>by cases z)⟩
 | .and x y,X,c,a,C,h,ok=>by
  have h:(opt (aif a) fun t=>mE c x t.1&&mE c y t.2)=true:=h;obtain⟨⟨v,y'⟩,e,h⟩:=aA h;simp only[bO]at h;have S1:=sE x C h.1 ok.1;have S2:=sE y C h.2 ok.2;rcases aaX e with⟨pos,rfl⟩|⟨w,z,rest,pos,rfl,rfl⟩
  .have pw:PW X (.BoolOp .And [v,y'] pos) (wT (.and x y)):=pw_and S1.pt (pw_and1 S2.pt)
   exact⟨aeg S1.pe (aeb S2.pe),pw.pt,fun _ _ _ _=>pw⟩
  .have pw:PW X (.BoolOp .And (v::w::z::rest) pos) (wT (.and x y)):=pw_and S1.pt (S2.pw _ _ _ rfl)
   exact⟨aeg S1.pe S2.pe,pw.pt,fun _ _ _ _=>pw⟩
 | .or x y,X,c,a,C,h,ok=>by
  have h:(opt (vOr a) fun t=>mE c x t.1&&mE c y t.2)=true:=h;obtain⟨⟨v,y'⟩,e,h⟩:=aA h;simp only[bO]at h;have S1:=sE x C h.1 ok.1;have S2:=sE y C h.2 ok.2;rcases afW e with⟨pos,rfl⟩|⟨w,z,rest,pos,rfl,rfl⟩
  .have pw:PW X (.BoolOp .Or [v,y'] pos) (wT (.or x y)):=pw_or S1.pt (pw_or1 S2.pt)
   exact⟨ahO S1.pe (aeb S2.pe),pw.pt,fun _ _ _ _=>pw⟩
  .have pw:PW X (.BoolOp .Or (v::w::z::rest) pos) (wT (.or x y)):=pw_or S1.pt (S2.pw _ _ _ rfl)
   exact⟨ahO S1.pe S2.pe,pw.pt,fun _ _ _ _=>pw⟩
 | .ife t x y,X,c,a,C,h,ok=>by have h:(opt (vIf a) fun q=>mE c t q.1&&mE c x q.2.1&&mE c y q.2.2)=true:=h;obtain⟨⟨t',x',y'⟩,e,hh⟩:=aA h;obtain⟨pos,rfl⟩:=afX e;have h:=hh;simp only[bO]at h;exact pw_nev (aed (sE t C h.1.1 ok.1).pt (sE x C h.1.2 ok.2.1).pe (sE y C h.2 ok.2.2).pe) (fun _ _ _ z=>z) (fun _ _ _ z=>by cases z)| .call x sp as,X,c,a,C,h,ok=>by have h:(opt (gD a) fun t=>x==t.1&&c.wC x&& !gY x&&qt c as t.2)=true:=h;obtain⟨⟨y,args⟩,e,hh⟩:=aA h;obtain⟨p,pos,rfl⟩:=dY e;have h:=hh;simp only[bO,su,beq_iff_eq]at h;obtain⟨⟨⟨rfl,h1⟩,h2⟩,h3⟩:=h;obtain⟨k,hr,fa,fd,ps,q1,q2,q3,q4⟩:=ok.1;exact pw_tru (JgX.calm (agq q4 hr q3 (C.wC x h1) q1 q2 (TP as C h3 ok.2) (mj h2).1) fun _ _ _ z=>z) (fun _=>rfl) (fun ρ μ Q q=>q) (fun _ _ _ z=>by cases z)| .blt x as,X,c,a,C,h,ok=>by
  have h:(opt (gD a) fun t=>c.calm&&Pz.contains x&&afx x==t.1&&bL c t.1&&qt c as t.2&& !t.2.isEmpty)=true:=h;obtain⟨⟨y,args⟩,e,hh⟩:=aA h;obtain⟨p,pos,rfl⟩:=dY e;have h:=hh;simp only[bO,su,beq_iff_eq,bL]at h;obtain⟨⟨⟨⟨⟨hc,h0⟩,h1⟩,h2,h3⟩,h4⟩,h5⟩:=h;cases args with
  |nil=>simp at h5|cons a1 es=>exact pw_tru (ajl (by simpa using h0) h1.symm (C.calm hc) (C.wC y h2) (C.blt y h3) (TP as C h4 ok)) (fun _=>rfl) (fun ρ μ Q q=>q) (fun _ _ _ z=>by cases z)
 | .isin l t,X,c,a,C,h,ok=>by have h:(opt (gD a) fun q=>opt (Mu q.2) fun w=>opt (jW w.2) fun z=>(q.1==aC "isinstance")&&bL c q.1&&["int","bool","str","tuple","list","dict"].contains t&&(z==aC t)&&bL c z&&mE c l w.1&&notStar w.1)=true:=h;obtain⟨⟨y,args⟩,e,hh⟩:=aA h;obtain⟨p,pos,rfl⟩:=dY e;have h:=hh;obtain⟨⟨l',zz⟩,e2,hh⟩:=aA h;obtain rfl:=zB e2;have h:=hh;obtain⟨z,e3,h⟩:=aA h;obtain⟨p2,e4⟩:=iQ e3;simp only at e4;subst e4;simp only[bO,beq_iff_eq,bL]at h;obtain⟨⟨⟨⟨⟨⟨rfl,h1,h2⟩,h3⟩,rfl⟩,h5,h6⟩,h7⟩,h8⟩:=h;have pe:PE X (.Call (.Name (aC "isinstance") p) [l',.Name (aC t) p2] [] pos) (wE (.isin l t)):=agE (sE l C h7 ok).pe (by simpa using h3) (C.wC _ h1) (C.wC _ h5) (C.blt _ h2) (C.blt _ h6) (nU (es:=[.Name (aC t) p2]) h8);exact⟨pe,akV (fun _=>rfl) pe,pw_no (fun _ _ _ z=>by cases z)⟩| .isin l t (some ks),X,c,a,C,h,ok=>by have h:(opt (Ua a) fun w=>opt (jW w.2.2) fun z=>(w.2.1== .In)&&(z==aC t)&&c.wC z&& !gY z&&mE c l w.1)=true:=h;obtain⟨⟨l',op',r'⟩,e,hh⟩:=aA h;obtain⟨pos,rfl⟩:=Gm e;have h:=hh;obtain⟨z,e3,h⟩:=aA h;obtain⟨p2,e4⟩:=iQ e3;simp only at e4;subst e4;simp only[bO,beq_iff_eq,su]at h;obtain⟨⟨⟨⟨h0,h1⟩,h2⟩,h3⟩,h4⟩:=h;subst h0 h1;obtain⟨⟨_,_,a,hm,hd,rfl⟩,ok2⟩:=ok;obtain⟨k1,k2⟩:=ajj (p:=p2) (pos:=pos) (C.wC _ h2) hm hd (sE l C h4 ok2).pe (mj h3).1;exact⟨k1,k2,pw_no (fun _ _ _ z=>by cases z)⟩| .meth m o as,X,c,a,C,h,ok=>by
  have h:(opt (ug a) fun t=>(if t.2.2.1.isEmpty then ["pop"].contains m else ["append","insert","extend","pop"].contains m)&&t.2.1==aC m&&lQ t.1&&t.2.2.2&&mE c o t.1&&qt c as t.2.2.1&&decide (t.2.2.1.length<30))=true:=h;obtain⟨⟨o',m',args,ln⟩,e,hh⟩:=aA h;obtain⟨apos,pos,rfl,e2⟩:=qF e;have h:=hh;simp only[bO,beq_iff_eq]at h;obtain⟨⟨⟨⟨⟨⟨h0,rfl⟩,h3⟩,h4⟩,h5⟩,h6⟩,h7⟩:=h;have hm:m="append"∨m="insert"∨m="extend"∨m="pop":=by
   split at h0
   .exact .inr (.inr (.inr (by simpa using h0)))
   .simpa using h0
  exact pw_nev (agC hm (sE o C h5 ok.1).pe h3 (TP as C h6 ok.2) (by rw[<-e2];exact h4) (of_decide_eq_true h7)) (fun _ _ _ z=>z) (fun _ _ _ z=>by cases z)
 | .sqm m o as,X,c,a,C,h,ok=>by
  have h:(opt (ug a) fun t=>["index","count","split"].contains m&&t.2.1==aC m&&lQ t.1&&t.2.2.2&&mE c o t.1&&qt c as t.2.2.1&&decide (t.2.2.1.length<30)&&(t.2.2.1.isEmpty==(m=="clear")))=true:=h;obtain⟨⟨o',m',args,ln⟩,e,hh⟩:=aA h;obtain⟨apos,pos,rfl,e2⟩:=qF e;have h:=hh;simp only[bO,beq_iff_eq]at h;obtain⟨⟨⟨⟨⟨⟨⟨h0,rfl⟩,h3⟩,h4⟩,h5⟩,h6⟩,h7⟩,h8⟩:=h;have hl:(apos.endLine==pos.line)=true:=by rw[<-e2];exact h4
  have h7':=of_decide_eq_true h7;have h0:m="index"∨m="count"∨m="split":=by simpa using h0
  obtain⟨k,hr⟩:=C.room;have hu:=hr.units;refine pw_tru ?_ (fun _=>rfl) (fun ρ μ Q q=>q) (fun _ _ _ z=>by cases z);rcases h0 with rfl|rfl|rfl
  .exact zT (W:=fun μ d=>Kv "index" μ d=true) yQ V8 PySem.F.type_list_index (aev hu) aa3 (sE o C h5 ok.1).pe h3 (TP as C h6 ok.2) hl h7'
  .exact zT (W:=fun μ d=>Kv "count" μ d=true) yQ PySem.F.slot_list_count PySem.F.type_list_count aew aa3 (sE o C h5 ok.1).pe h3 (TP as C h6 ok.2) hl h7'
  .exact zT (W:=fun μ d=>Kv "split" μ d=true) PySem.F.plainAttrs_str NZ PySem.F.type_str_split aeu akF (sE o C h5 ok.1).pe h3 (TP as C h6 ok.2) hl h7'
 | .Jf l,X,c,a,C,h,ok=>by have h:(opt (gD a) fun q=>opt (Mu q.2) fun w=>opt (T5 w.2) fun es=>opt (Mu es) fun z=>opt (jW z.1) fun z1=>opt (jW z.2) fun z2=>(q.1==aC "isinstance")&&bL c q.1&&(z1==aC "list")&&bL c z1&&(z2==aC "tuple")&&bL c z2&&mE c l w.1&&notStar w.1)=true:=h;obtain⟨⟨y,args⟩,e,hh⟩:=aA h;obtain⟨p,pos,rfl⟩:=dY e;obtain⟨⟨l',tt⟩,e2,hh⟩:=aA hh;obtain rfl:=zB e2;obtain⟨es,e3,hh⟩:=aA hh;obtain⟨k,tp,e4⟩:=Gk e3;simp only at e4;subst e4;obtain⟨⟨n1,n2⟩,e5,hh⟩:=aA hh;obtain rfl:=zB e5;obtain⟨z1,e6,hh⟩:=aA hh;obtain⟨p1,e7⟩:=iQ e6;obtain⟨z2,e8,hh⟩:=aA hh;obtain⟨p2,e9⟩:=iQ e8;simp only at e7 e9;subst e7 e9;have h:=hh;simp only[bO,beq_iff_eq,bL]at h;obtain⟨⟨⟨⟨⟨⟨⟨rfl,h1,h2⟩,rfl⟩,h4,h5⟩,rfl⟩,h7,h8⟩,h9⟩,h10⟩:=h;exact pw_tru (aec (sE l C h9 ok).pe (C.wC _ h1) (C.wC _ h4) (C.wC _ h7) (C.blt _ h2) (C.blt _ h5) (C.blt _ h8) (nU h10)) (fun _=>rfl) (fun ρ μ Q q=>q) (fun _ _ _ z=>by cases z)| .ZW l,X,c,a,C,h,ok=>by have h:(opt (gD a) fun q=>opt (aaR q.2) fun r=>opt (gD r) fun t=>opt (aaR t.2) fun x=>c.calm&&(q.1==aC "len")&&bL c q.1&&(t.1==aC "set")&&bL c t.1&&mE c l x&&notStar x)=true:=h;obtain⟨⟨y,args⟩,e,hh⟩:=aA h;obtain⟨p,pos,rfl⟩:=dY e;obtain⟨r,e2,hh⟩:=aA hh;obtain rfl:=Rc e2;obtain⟨⟨z,args2⟩,e3,hh⟩:=aA hh;obtain⟨p2,pos2,e4⟩:=dY e3;simp only at e4;subst e4;obtain⟨x,e5,hh⟩:=aA hh;obtain rfl:=Rc e5;have h:=hh;simp only[bO,beq_iff_eq,bL]at h;obtain⟨⟨⟨⟨⟨⟨hc,rfl⟩,h1,h2⟩,rfl⟩,h4,h5⟩,h6⟩,h7⟩:=h;exact pw_nev (agD (C.calm hc) (sE l C h6 ok).pe (C.wC _ h1) (C.wC _ h4) (C.blt _ h2) (C.blt _ h5) (by rw[nU h7];rfl)) (fun _ _ _ z=>z) (fun _ _ _ z=>by cases z)| .tix o as,X,c,a,C,h,ok=>by have h:(opt (ug a) fun t=>t.2.1==aC "index"&&lQ t.1&&t.2.2.2&&mE c o t.1&&qt c as t.2.2.1&&decide (t.2.2.1.length<30)&& !t.2.2.1.isEmpty)=true:=h;obtain⟨⟨o',m',args,ln⟩,e,hh⟩:=aA h;obtain⟨apos,pos,rfl,e2⟩:=qF e;have h:=hh;simp only[bO,beq_iff_eq]at h;obtain⟨⟨⟨⟨⟨⟨rfl,h3⟩,h4⟩,h5⟩,h6⟩,h7⟩,h8⟩:=h;exact pw_nev (zT (W:=fun μ d=>ajR d=true) PySem.F.plainAttrs_tuple adC PySem.F.type_tuple_index ajt akG (sE o C h5 ok.1).pe h3 (TP as C h6 ok.2) (by rw[<-e2];exact h4) (of_decide_eq_true h7)) (fun _ _ _ z=>z) (fun _ _ _ z=>by cases z)| .rmv o as,X,c,a,C,h,ok=>by have h:(opt (ug a) fun t=>c.calm&&t.2.1==aC "remove"&&lQ t.1&&t.2.2.2&&mE c o t.1&&qt c as t.2.2.1&&decide (t.2.2.1.length<30)&& !t.2.2.1.isEmpty)=true:=h;obtain⟨⟨o',m',args,ln⟩,e,hh⟩:=aA h;obtain⟨apos,pos,rfl,e2⟩:=qF e;have h:=hh;simp only[bO,beq_iff_eq]at h;obtain⟨⟨⟨⟨⟨⟨⟨hc,rfl⟩,h3⟩,h4⟩,h5⟩,h6⟩,h7⟩,h8⟩:=h;obtain⟨k,hr⟩:=C.room;exact pw_nev (zT (W:=fun μ d=>Fq μ d=true) yQ adE PySem.F.type_list_remove (ZF hr.units) aa3 (sE o C h5 ok.1).pe h3 (TP as C h6 ok.2) (by rw[<-e2];exact h4) (of_decide_eq_true h7)) (fun _ _ _ z=>z) (fun _ _ _ z=>by cases z)| .aad as,X,c,a,C,h,ok=>by have h:(opt (gD a) fun t=>c.calm&&(t.1==aC "min")&&bL c t.1&&qt c as t.2&& !t.2.isEmpty)=true:=h;obtain⟨⟨y,args⟩,e,hh⟩:=aA h;obtain⟨p,pos,rfl⟩:=dY e;have h:=hh;simp only[bO,su,beq_iff_eq,bL]at h;obtain⟨⟨⟨⟨hc,rfl⟩,h2,h3⟩,h4⟩,h5⟩:=h;obtain⟨k,hr⟩:=C.room;exact pw_nev (o7 (id:="min") (by decide+kernel) (by decide+kernel) (by decide+kernel) (afz (C.calm hc) (by have:=hr.units;show X.A.units+1<cLine;omega)) (C.wC _ h2) (C.blt _ h3) (TP as C h4 ok)) (fun _ _ _ z=>z) (fun _ _ _ z=>by cases z)| .fld cn f o,X,c,a,C,h,ok=>by have h:(opt (Gp a) fun t=>t.2==aC f&&lQ t.1&&mE c o t.1)=true:=h;obtain⟨⟨o',f'⟩,e,hh⟩:=aA h;obtain⟨pos,rfl⟩:=BK e;have h:=hh;simp only[bO,beq_iff_eq]at h;obtain⟨⟨rfl,h2⟩,h3⟩:=h;obtain⟨_,_,K,hc,hC,hN⟩:=ok.1;exact pw_tru (aji hc hC hN (sE o C h3 ok.2).pe h2) (fun _=>rfl) (fun ρ μ Q q=>q) (fun _ _ _ z=>by cases z)| .pA cn m sp o as,X,c,a,C,h,ok=>by have h:(opt (ug a) fun t=>t.2.1==aC m&&lQ t.1&&t.2.2.2&&mE c o t.1&&qt c as t.2.2.1&&decide (t.2.2.1.length<30))=true:=h;obtain⟨⟨o',m',args,ln⟩,e,hh⟩:=aA h;obtain⟨apos,pos,rfl,e2⟩:=qF e;have h:=hh;simp only[bO,beq_iff_eq]at h;obtain⟨⟨⟨⟨⟨rfl,h3⟩,h4⟩,h5⟩,h6⟩,h7⟩:=h;obtain⟨k,hr,K,fa,fd,ps,q0,q1,q2,q3,q4⟩:=ok.1;exact pw_tru (JgX.calm (ago q4 hr q3 q0 q1 q2 (sE o C h5 ok.2.1).pe h3 (TP as C h6 ok.2.2) (by rw[<-e2];exact h4) (of_decide_eq_true h7)) fun _ _ _ z=>z) (fun _=>rfl) (fun ρ μ Q q=>q) (fun _ _ _ z=>by cases z)| .mk x sp as,X,c,a,C,h,ok=>by have h:(opt (gD a) fun t=>aC x==t.1&&c.wC t.1&& !gY t.1&&qt c as t.2)=true:=h;obtain⟨⟨y,args⟩,e,hh⟩:=aA h;obtain⟨p,pos,rfl⟩:=dY e;have h:=hh;simp only[bO,su,beq_iff_eq]at h;obtain⟨⟨⟨rfl,h1⟩,h2⟩,h3⟩:=h;obtain⟨k,hr,K,fa,fd,ps,j,q0,q1,q2,q3,q4,q5⟩:=ok.1;exact pw_nev (JgX.calm (agp q2 q0 q4 (hr.mono q5) q3 (C.wC _ h1) q1 (TP as C h3 ok.2) (mj h2).1) fun _ _ _ z=>z) (fun _ _ _ z=>z) (fun _ _ _ z=>by cases z)| .idx x y,X,c,a,C,h,ok=>by have h:(opt (BJ a) fun t=>mE c x t.1&&mE c y t.2&&eV t.2)=true:=h;obtain⟨⟨x',y'⟩,e,hh⟩:=aA h;obtain⟨pos,rfl⟩:=qD e;have h:=hh;simp only[bO]at h;exact pw_tru (ajg (sE x C h.1.1 ok.1).pe (sE y C h.1.2 ok.2).pe (sH h.2)) (fun _=>rfl) (fun ρ μ Q q=>q) (fun _ _ _ z=>by cases z)| .slc m x lo hi,X,c,a,C,h,ok=>by have h:(opt (aia a) fun t=>mE c x t.1&&mO c lo t.2.1&&mO c hi t.2.2)=true:=h;obtain⟨⟨x',lo',hi'⟩,e,hh⟩:=aA h;obtain⟨p2,pos,rfl⟩:=aaQ e;have h:=hh;simp only[bO]at h;exact pw_nev (ajc m (sE x C h.1.1 ok.1).pe (sO lo C h.1.2 ok.2.1) (sO hi C h.2 ok.2.2)) (fun _ _ _ z=>z) (fun _ _ _ z=>by cases z)| .tup as,X,c,a,C,h,ok=>by have h:(opt (T5 a) fun es=>qt c as es&&decide (es.length<=16777216))=true:=h;obtain⟨es,e,hh⟩:=aA h;obtain⟨k,pos,rfl⟩:=Gk e;have h:=hh;simp only[bO]at h;exact pw_nev (ajb (TP as C h.1 ok)) (fun _ _ _ z=>z) (fun _ _ _ z=>by cases z)| .lst m as,X,c,a,C,h,ok=>by have h:(opt (aie a) fun es=>qt c as es&&decide (es.length<=16777216))=true:=h;obtain⟨es,e,hh⟩:=aA h;obtain⟨pos,rfl⟩:=aaU e;have h:=hh;simp only[bO]at h;exact pw_nev (ajf (TP as C h.1 ok)) (fun _ _ _ z=>z) (fun _ _ _ z=>by cases z)| .comp m n tt cap elt it cond,X,c,a,C,h,ok=>by have h:(opt (aaV a) fun t=>(c.calm||(GX it&& !tt))&&opt (Fz tt t.2.1) fun xs=>opt (mW c cap) fun cs=>n==xs.length&&JR c t.2.2.2.2 (xs++cs) cs&&tE tt it&&mI c it t.2.2.1&&ZR (c.in_ (xs++cs) t.2.2.2.2.names) (aN n) tt t.2.1&&mE (c.in_ (xs++cs) t.2.2.2.2.names) elt t.1&&qt (c.in_ (xs++cs) t.2.2.2.2.names) cond t.2.2.2.1&&decide (t.2.2.2.1.length<=1))=true:=h;obtain⟨⟨Qq,tg,iter,ifs,scope⟩,e,hh⟩:=aA h;obtain⟨pos,rfl⟩:=KZ e;have h:=hh;simp only[bO]at h;obtain⟨hcm,h⟩:=h;obtain⟨xs,hxs,h⟩:=aA h;obtain⟨cs,hcs,h⟩:=aA h;simp only[bO,beq_iff_eq]at h;obtain⟨⟨⟨⟨⟨⟨⟨hn,h1⟩,hz⟩,h2⟩,hg⟩,h3⟩,h4⟩,h5⟩:=h;have h5:=of_decide_eq_true h5;subst hn;exact pw_nev (agI (JQ C hcs h1) (tgn hxs) (sI it C h2 ok.2.1 (Gg hg hz) (alB hcm)) (fun cl Ca=>Ye (rB C h1 cl Ca) (alA hcm) hg) (fun cl Ca=>sTs cond (rB C h1 cl Ca) h4 h5 ok.2.2) (fun cl Ca=>(sE elt (rB C h1 cl Ca) h3 ok.1).pe) (Dt (aeB h2))) (fun _ _ _ z=>z) (fun _ _ _ z=>by cases z)| .frz x,X,c,a,C,h,ok=>by have S:=sE x C h ok;exact⟨ajh S.pe,PT.wk Rw fun _ _ _ z=>z,fun op vs pos e=>fun wh=>fun i z f=>z.elim⟩| .aal t,X,c,a,C,h,ok=>by obtain⟨p,rfl⟩:=T6 h;exact pw_nev agG (fun _ _ _ z=>z) (fun _ _ _ z=>by cases z)| .aan x y,X,c,a,C,h,ok=>by have h:(opt (BJ a) fun t=>c.calm&&mE c x t.1&&mE c y t.2&&eV t.2)=true:=h;obtain⟨⟨x',y'⟩,e,hh⟩:=aA h;obtain⟨pos,rfl⟩:=qD e;have h:=hh;simp only[bO]at h;obtain⟨⟨⟨hc,h1⟩,h2⟩,h3⟩:=h;obtain⟨k,hr⟩:=C.room;exact pw_nev (agH (by have:=hr.units;omega) (sE x C h1 ok.1).pe (sE y C h2 ok.2).pe (sH h3)) (fun _ _ _ z=>z) (fun _ _ _ z=>by cases z)
theorem TP:∀ (es:Es) {X:Cx} {c:Ctx} {as:List Expr},rF X c->qt c es as=true->fQ (vL X) (nC X) es->Ar X as (wEs es)
 | .nil,X,c,as,C,h,_=>by
  have:as=[]:=by simpa[qt]using h
  subst this;exact akd
 | .cons e es,X,c,as,C,h,ok=>by
  cases as with
  |nil=>simp[qt]at h|cons a as=>simp only[qt,bO]at h;exact ahy (sE e C h.1.1 ok.1).pe (TP es C h.2 ok.2) (nU h.1.2)
theorem sO:∀ (es:Es) {X:Cx} {c:Ctx} {a:Option Expr},rF X c->mO c es a=true->fQ (vL X) (nC X) es->PO X a (wO es)
 | .nil,X,c,a,C,h,_=>by
  cases a with
  |none=>exact agw|some _=>simp[mO]at h
 | .cons e es,X,c,a,C,h,ok=>by
  cases a with
  |none=>simp[mO]at h|some a=>
   cases es with
   |nil=>exact agv (sE e C (by simpa[mO]using h) ok.1).pe|cons _ _=>simp[mO]at h
theorem sTs:∀ (es:Es) {X:Cx} {c:Ctx} {as:List Expr},rF X c->qt c es as=true->as.length<=1->fQ (vL X) (nC X) es->PIf X as (wTs es)
 | .nil,X,c,as,C,h,_,_=>by
  have:as=[]:=by simpa[qt]using h
  subst this;exact agy
 | .cons e es,X,c,as,C,h,hl,ok=>by
  cases as with
  |nil=>simp[qt]at h|cons a as=>
   simp only[qt,bO]at h;have:as=[]:=by
    cases as with
    |nil=>rfl|cons _ _=>simp at hl
   subst this;have:es= .nil:=by
    cases es with
    |nil=>rfl|cons _ _=>simp[qt]at h
   subst this;exact agx (sE e C h.1.1 ok.1).pt
theorem sI:∀ (it:It) {X:Cx} {c:Ctx} {a tg:Expr},rF X c->mI c it a=true->okI (vL X) (nC X) it->tE (isTup tg) it=true->(c.calm=true∨GX it=true)->PI X tg a (wI it)
 | .seq e,X,c,a,tg,C,h,ok,_,hcm=>by simp only[mI,bO]at h;exact ai6 (C.calm (hcm.resolve_right dM)) (sE e C h.1 ok).pe| .rng as,X,c,a,tg,C,h,ok,_,hcm=>by
  have h:(opt (gD a) fun t=>(t.1==aC "range")&&bL c t.1&&qt c as t.2&&(t.2.length==1||t.2.length==2||t.2.length==3))=true:=h;obtain⟨⟨y,args⟩,e,hh⟩:=aA h;obtain⟨p,pos,rfl⟩:=dY e;have h:=hh;simp only[bO,uQ,beq_iff_eq,bL]at h;obtain⟨⟨⟨rfl,h1,h2⟩,h3⟩,h4⟩:=h;have hl:=Tc h3;cases args with
  |nil=>simp at h4|cons a1 es=>intro i q f;exact ai8 (TP as C h3 ok) (C.wC _ h1) (C.blt _ h2) (fun z=>C.calm (hcm.resolve_right fun y=>by have y:=of_decide_eq_true y;rw[hl]at y;simp[z]at y)) i (by simp only[wI,hl,aY]at q;exact q) f
 | .zip l r,X,c,a,tg,C,h,ok,ht,hcm=>by
  have h:(opt (gD a) fun t=>opt (Mu t.2) fun w=>(t.1==aC "zip")&&bL c t.1&&mE c l w.1&&mE c r w.2&&notStar w.1&&notStar w.2)=true:=h;obtain⟨⟨y,args⟩,e,hh⟩:=aA h;obtain⟨p,pos,rfl⟩:=dY e;have h:=hh;obtain⟨⟨l',r'⟩,e2,hh⟩:=aA h;obtain rfl:=zB e2;have h:=hh;simp only[bO,beq_iff_eq,bL]at h;obtain⟨⟨⟨⟨⟨rfl,h1,h2⟩,h3⟩,h4⟩,h5⟩,h6⟩:=h;simp only[tE]at ht;cases tg with
  |Tuple es k tp=>exact ai5 (C.calm (hcm.resolve_right dM)) (C.wC _ h1) (C.blt _ h2) (sE l C h3 ok.1).pe (sE r C h4 ok.2).pe (by rw[nU h5,nU h6];rfl) (by rw[nU h6];rfl)|_=>exact(dM ht).elim
 | .enum l,X,c,a,tg,C,h,ok,ht,hcm=>by
  have h:(opt (gD a) fun t=>match t.2 with|[l']=>(t.1==aC "enumerate")&&bL c t.1&&mE c l l' &&notStar l' |_=>false)=true:=h;obtain⟨⟨y,args⟩,e,hh⟩:=aA h;obtain⟨p,pos,rfl⟩:=dY e;have h:=hh
  match args,h with
  |[l'],h=>
   simp only[bO,beq_iff_eq,bL]at h;obtain⟨⟨⟨rfl,h1,h2⟩,h3⟩,h5⟩:=h;simp only[tE]at ht;cases tg with
   |Tuple es k tp=>exact agz (C.calm (hcm.resolve_right dM)) (C.wC _ h1) (C.blt _ h2) (sE l C h3 ok).pe (by rw[nU h5];rfl)|_=>exact(dM ht).elim
  |[],h=>exact(dM h).elim|_::_::_,h=>exact(dM h).elim
 | .rvd l,X,c,a,tg,C,h,ok,_,hcm=>by
  have h:(opt (gD a) fun t=>match t.2 with|[l']=>(t.1==aC "reversed")&&bL c t.1&&mE c l l' &&notStar l' |_=>false)=true:=h;obtain⟨⟨y,args⟩,e,hh⟩:=aA h;obtain⟨p,pos,rfl⟩:=dY e;have h:=hh
  match args,h with
  |[l'],h=>simp only[bO,beq_iff_eq,bL]at h;obtain⟨⟨⟨rfl,h1,h2⟩,h3⟩,h5⟩:=h;exact ai7 (C.calm (hcm.resolve_right dM)) (C.wC _ h1) (C.blt _ h2) (sE l C h3 ok).pe (by rw[nU h5];rfl)|[],h=>exact(dM h).elim|_::_::_,h=>exact(dM h).elim
end
end DW
namespace DW
open PySem PySem.Spec PyProof.Rows
open L2 (aQ Key frs rG Loc Look Mod rH cV Cls gC)
open PySem.W (exmOne exm_one)
section
variable {X:Cx} {ρ ρ0:dJ} {θ θ0:Th} {μ μ0:Mem} {s s0:aj} {h h' B:Heap} {tk:Nat} {ea C:Addr} {ob:Obj} {vs:Array Value} {c:String} {ks:List String} {ds:List D} {V:Addr->Prop} {p:Addr×Addr} {o:Obj}
end
section
variable {X:Cx} {i:Nat} {n P:Str} {np hpos pos:Pos} {b₀:Stmt} {suite body:List Stmt} {CP:Addr} {wb wh:WS} {tab:List String} {outer:List Env}
end
end DW
namespace DW
open PySem PySem.Spec PyProof.Rows
open L2 (aQ Key frs rG Loc Look Mod rH cV Cls gC Meth Mk)
theorem abb {t e:Expr} {n env} (h:iT e=true):swapsWithSole [t] e n env=pure false:=zG h
theorem MJ {tg v:Expr} {env} (h:Df v=true):Vd [tg] v env=pure none:=by unfold Vd;cases tg<;>first|rfl|(cases v<;>first|rfl|exact(dM h).elim)
section
variable {X:Cx} {x:Str} {ks:List (List Nat)} {sp:zx} {i e:Expr} {es:List Expr} {wi:WE} {ws:WA} {w:QX->WE} {p p2 pos:Pos} {k:Nat} {body:List Stmt} {hd:ExceptHandler} {wb:WS} {a:Stmt} {w1 w2:WS}
theorem PS.wk (h:PS X a w1) (q:∀ Z ρ μ,w2 Z ρ μ->w1 Z ρ μ):PS X a w2:=fun hp i z f=>h hp i (q _ _ _ z) f
theorem aiU (hr:cV k X.A) (R:ah3 X.T k x ks sp) (hg:Gl X x) (hi:PE X i wi) (hx:Bv i) (ha:Ar X (e::es) ws) (hdb:(x==("__debug__":Str))=false):
  JgX X (eval (.Call (.Subscript (.Name x p) i p2) (e::es) [] pos) X.env) (fun Xd ρ μ Q=>wi ρ μ fun d μ1=>isKey ks d/\ws ρ μ1 fun ds μ2=>sp (d::ds) μ2 Q Xd):=fun {s ρ θ μ Qd Xd Q E} i0 h fi fx=>by
 obtain⟨a,hm,hd,rfl,R⟩:=R;have ev:eval (.Call (.Subscript (.Name x p) i p2) (e::es) [] pos) X.env=(do Nj pos (<-eval (.Subscript (.Name x p) i p2) X.env) [] (lW pos (c7 (e::es) X.env)) (G9 pos (Ho [] X.env))):=rfl;rw[ev];refine ao (L2.X3 Oa.lookup hx (vR i0 hg hm hdb (hi i0 h fun {d u s1 θ1 μ1} i1 g1 r1 h1=>?_)));obtain⟨hk,h1⟩:=h1;unfold isKey at hk;split at hk
 .rename_i t
  obtain⟨⟨tk,rfl⟩,_⟩:=id r1;rw[show t=(⟨t.toArray⟩:Str).cps.toList from rfl,<-tu,<-UW]at hk;obtain⟨fa,hfa⟩:=Ek.mp hk;refine⟨Gx (Gd hd i1.vU),aa8 (Gd hd i1.vU) hfa fun u' hu=>?_⟩;subst hu;refine cw_ok (first:=[]) ha (afi hd hfa) (Iv.tok i1) h1 fun {ds us s2 θ2 μ2} i2 g2 r2 h2=>?_;obtain⟨t',r',fa',fd,ps,sp',e1,e2,hb,F,h3⟩:=R _ _ _ _ h2;cases e1;rw[hfa]at e2;cases e2;have g:G0 X θ μ s θ2 μ2 s2:=g1.trans ((cB fun _ _ e=>e).trans g2);exact Un F hr hb i2 r2 h3 (fi.mono g) (fx.mono g)
 .exact hk.elim
theorem agt (h:JgX X (eval e X.env) w):PS X (.Return (some e) pos) (fun Z ρ μ=>w (Z.xc ρ) ρ μ Z.rt):=fun hp i q f=>acz (h i q (fun i1 g1 r q=>f.rt i1 g1.gs r q) fun i1 g1 fl q=>f.xc i1 g1.gs (fl.loc i g1) q)
end
theorem sXC:∀ (k:XC) {X:Cx} {c:Ctx} {a:Expr},rF X c->mXC c k a=true->ZD (vL X) (nC X) k->JgX X (eval a X.env) (fun Xd ρ μ Q=>wXC k (fun _=>Xd) ρ μ Q)
 | .dsp x ks sp i as,X,c,a,C,h,ok=>by
  replace h:(opt (Uc a) fun t=>opt (BJ t.1) fun u=>opt (jW u.1) fun z=>z==x&&c.wC x&& !gY x&&mE c i u.2&&eV u.2&&qt c as t.2&& !t.2.isEmpty)=true:=h;obtain⟨⟨f',args⟩,e,hh⟩:=aA h;obtain⟨pos,rfl⟩:=Ub e;obtain⟨⟨g',i'⟩,e,hh⟩:=aA hh;obtain⟨p2,e4⟩:=qD e;simp only at e4;subst e4;obtain⟨z,e,hh⟩:=aA hh;obtain⟨p,e4⟩:=iQ e;simp only at e4;subst e4;simp only[bO,su,beq_iff_eq]at hh;obtain⟨⟨⟨⟨⟨⟨rfl,h1⟩,h2⟩,h3⟩,h4⟩,h5⟩,h6⟩:=hh;obtain⟨k,hr,R⟩:=ok.1;cases args with
  |nil=>simp at h6|cons e es=>exact aiU hr R (C.wC _ h1) (sE i C h3 ok.2.1).pe (sH h4) (TP as C h5 ok.2.2) (mj h2).1
mutual
theorem sS:∀ (st:S) {X:Cx} {c:Ctx} {a:Stmt},rF X c->mS c st a=true->okS (vL X) (nC X) st->PS X a (wS st)
 | .set i e,X,c,a,C,h,ok=>by
  replace h:(opt (Gs a) fun t=>opt (jW t.1) fun x=>c.at_ i x&&c.loc x&&mE c e t.2&&(iT t.2||Qi e))=true:=h;obtain⟨⟨tg,v⟩,e1,hh⟩:=aA h;obtain⟨x,e2,hh⟩:=aA hh;obtain⟨p,rfl⟩:=iQ (a:=tg) e2;obtain⟨pos,rfl⟩:=uh e1;replace h:=hh;simp only[bO]at h;obtain⟨⟨⟨h1,h2⟩,h3⟩,h4⟩:=h;have l1:=C.loc x h2;have hN:X.N.Nodup:=C.N▸C.nd;have hi:X.N[i]?=some x:=C.N▸Bs h1;have S:=sE e C h3 ok;by_cases hn:iT v=true
  .exact ad5 hN hi l1 S.pe (zG hn)
  .have h4:Qi e=true:=by
    rcases acT.mp h4 with z|z
    .exact absurd z hn
    .exact z
   cases e with
   |comp m n tt cap elt it cond=>
    have hv:mE c (.comp m n tt cap elt it cond) v=true->∃ Qq tg iter ifs scope T4,v= .ListComp Qq [⟨tg,iter,ifs,0⟩] scope T4/\((c.calm||(GX it&& !tt))&&opt (Fz tt tg) fun xs=>opt (mW c cap) fun cs=>n==xs.length&&JR c scope (xs++cs) cs&&tE tt it&&mI c it iter&&ZR (c.in_ (xs++cs) scope.names) (aN n) tt tg&&mE (c.in_ (xs++cs) scope.names) elt Qq&&qt (c.in_ (xs++cs) scope.names) cond ifs&&decide (ifs.length<=1))=true:=fun z=>by obtain⟨⟨Qq,tg,iter,ifs,scope⟩,e,hh⟩:=aA z;obtain⟨T4,e⟩:=KZ e;exact⟨Qq,tg,iter,ifs,scope,T4,e,hh⟩
    obtain⟨Qq,tg,iter,ifs,scope,T4,rfl,h9⟩:=hv h3;replace h3:=h9;have hsw:yp (.ListComp Qq [⟨tg,iter,ifs,0⟩] scope T4) (some (.Name x p)) pos.line X.env=pure (X.env.blockKind== .function&&X.env.kindOf x==some .local&&p.line==(abM Qq [⟨tg,iter,ifs,0⟩] scope T4).pos.line&& !(scope.names.any fun(n,k)=>n==x&&(k== .local||k== .cell))):=rfl;cases hb:(X.env.blockKind== .function&&X.env.kindOf x==some .local&&p.line==(abM Qq [⟨tg,iter,ifs,0⟩] scope T4).pos.line&& !(scope.names.any fun(n,k)=>n==x&&(k== .local||k== .cell))) with
    |false=>rw[hb]at hsw;exact ad5 hN hi l1 S.pe hsw|true=>
     rw[hb]at hsw;have hl:X.env.scope.names.lookup x=some .local:=by simp only[bO,beq_iff_eq]at hb;exact hb.1.1.2
     simp only[bO]at h3;obtain⟨hcm,h3⟩:=h3;obtain⟨xs,hxs,h3⟩:=aA h3;obtain⟨cs,hcs,h3⟩:=aA h3;simp only[bO,beq_iff_eq]at h3;obtain⟨⟨⟨⟨⟨⟨⟨hn,k1⟩,kz⟩,k2⟩,kg⟩,k3⟩,k4⟩,k5⟩:=h3;have k5:=of_decide_eq_true k5;subst hn;have ok':cj (vL X) (nC X) elt/\okI (vL X) (nC X) it/\fQ (vL X) (nC X) cond:=ok;exact Wn (JQ C hcs k1) (tgn hxs) (sI it C k2 ok'.2.1 (Gg kg kz) (alB hcm)) (fun cl Ca=>Ye (rB C k1 cl Ca) (alA hcm) kg) (fun cl Ca=>sTs cond (rB C k1 cl Ca) k4 k5 ok'.2.2) (fun cl Ca=>(sE elt (rB C k1 cl Ca) k3 ok'.1).pe) (Dt (aeB k2)) hN hi hl hsw
   |_=>cases h4
 | .Ul is e,X,c,a,C,h,ok=>by replace h:(opt (Gs a) fun t=>opt (T5 t.1) fun ts=>c.calm&&kE c is ts&&mE c e t.2&&iT t.2&&Df t.2)=true:=h;obtain⟨⟨tg,v⟩,e1,hh⟩:=aA h;obtain⟨ts,e2,hh⟩:=aA hh;obtain⟨k,p,rfl⟩:=Gk (a:=tg) e2;obtain⟨pos,rfl⟩:=uh e1;replace h:=hh;simp only[bO]at h;obtain⟨⟨⟨⟨hcm,h1⟩,h2⟩,h3⟩,h4⟩:=h;exact ai3 (sE e C h2 ok).pe (Ye (a:=.Tuple ts k p) C (is:=is) (tt:=true) (fun _=>hcm) (show ZR c is true (.Tuple ts k p)=true from h1)) (abb h3) (MJ h4) rfl| .aug i op e,X,c,a,C,h,ok=>by replace h:(opt (Ug a) fun t=>opt (jW t.1) fun x=>c.at_ i x&&c.loc x&&op==t.2.1&&(op== .Add||op== .Sub)&&mE c e t.2.2)=true:=h;obtain⟨⟨tg,op',v⟩,e1,hh⟩:=aA h;obtain⟨x,e2,hh⟩:=aA hh;obtain⟨p,rfl⟩:=iQ (a:=tg) e2;obtain⟨pos,rfl⟩:=Gr e1;replace h:=hh;simp only[bO,uQ,beq_iff_eq]at h;obtain⟨⟨⟨⟨h1,h2⟩,rfl⟩,h3⟩,h4⟩:=h;exact PS.wk (ai2 (C.N▸C.nd) (C.N▸Bs h1) (C.loc x h2) (sE e C h4 ok).pe) fun Z ρ μ q=>by simp only[wS]at q;exact q
 | .dput o i e,X,c,a,C,h,ok=>by replace h:(opt (Gs a) fun t=>opt (BJ t.1) fun u=>c.calm&&mE c o u.1&&mE c i u.2&&eV u.2&&mE c e t.2&&iT t.2)=true:=h;obtain⟨⟨tg,v⟩,e1,hh⟩:=aA h;obtain⟨⟨o',i'⟩,e2,hh⟩:=aA hh;obtain⟨p,rfl⟩:=qD (a:=tg) e2;obtain⟨pos,rfl⟩:=uh e1;replace h:=hh;simp only[bO]at h;obtain⟨⟨⟨⟨⟨hc,h1⟩,h2⟩,h3⟩,h4⟩,h5⟩:=h;obtain⟨k,hr⟩:=C.room;exact ad4 (afO:=Ra) (fun i rx ry rz h f=>afh (by have:=hr.units;omega) i rx ry rz h f) (sE o C h1 ok.1).pe (sE i C h2 ok.2.1).pe (sE e C h4 ok.2.2).pe (zG h5)| .Fd op o i e,X,c,a,C,h,ok=>by replace h:(opt (Ug a) fun t=>opt (BJ t.1) fun u=>op==t.2.1&&(op== .Add||op== .Sub)&&mE c o u.1&&mE c i u.2&&eV u.2&&mE c e t.2.2)=true:=h;obtain⟨⟨tg,op',v⟩,e1,hh⟩:=aA h;obtain⟨⟨o',i'⟩,e2,hh⟩:=aA hh;obtain⟨p,rfl⟩:=qD (a:=tg) e2;obtain⟨pos,rfl⟩:=Gr e1;replace h:=hh;simp only[bO,uQ,beq_iff_eq]at h;obtain⟨⟨⟨⟨⟨rfl,h0⟩,h1⟩,h2⟩,h3⟩,h4⟩:=h;exact ad6 (sE o C h1 ok.1).pe (sE i C h2 ok.2.1).pe (sE e C h4 ok.2.2).pe (sH h3) (aav h3)| .wR o i e,X,c,a,C,h,ok=>by replace h:(opt (Gs a) fun t=>opt (BJ t.1) fun u=>mE c o u.1&&mE c i u.2&&eV u.2&&mE c e t.2&&iT t.2)=true:=h;obtain⟨⟨tg,v⟩,e1,hh⟩:=aA h;obtain⟨⟨o',i'⟩,e2,hh⟩:=aA hh;obtain⟨p,rfl⟩:=qD (a:=tg) e2;obtain⟨pos,rfl⟩:=uh e1;replace h:=hh;simp only[bO]at h;obtain⟨⟨⟨⟨h1,h2⟩,h3⟩,h4⟩,h5⟩:=h;exact ad4 (afO:=jU) (fun i rx ry rz h f=>Rq i rx ry rz h f) (sE o C h1 ok.1).pe (sE i C h2 ok.2.1).pe (sE e C h4 ok.2.2).pe (zG h5)| .exp e,X,c,a,C,h,ok=>by replace h:(opt (aik a) fun v=>mE c e v&&iT v)=true:=h;obtain⟨v,e1,hh⟩:=aA h;obtain⟨pos,rfl⟩:=aa1 e1;replace h:=hh;simp only[bO]at h;exact ai1 (sE e C h.1 ok).pe (zG h.2)| .ret e,X,c,a,C,h,ok=>by replace h:(opt (aaZ a) fun o=>opt o fun v=>mE c e v)=true:=h;obtain⟨o,e1,hh⟩:=aA h;obtain⟨v,rfl,hh⟩:=aA hh;obtain⟨pos,rfl⟩:=Rd e1;replace h:=hh;exact aiZ (sE e C h ok).pe| .ite t x y,X,c,a,C,h,ok=>by replace h:(opt (uIf a) fun u=>mE c t u.1&&Fl c x u.2.1&&Fl c y u.2.2)=true:=h;obtain⟨⟨t',x',y'⟩,e1,hh⟩:=aA h;obtain⟨pos,rfl⟩:=af0 e1;replace h:=hh;simp only[bO]at h;exact akW (sE t C h.1.1 ok.1).pt (sSs x C h.1.2 ok.2.1) (sSs y C h.2 ok.2.2)| .for_ is tt it b,X,c,a,C,h,ok=>by replace h:(opt (aij a) fun u=>c.calm&&ZR c is tt u.1&&mI c it u.2.1&&Fl c b u.2.2&&kh u.2.1&&tE tt it)=true:=h;obtain⟨⟨t',i',b'⟩,e1,hh⟩:=aA h;obtain⟨pos,rfl⟩:=aa0 e1;replace h:=hh;simp only[bO]at h;obtain⟨⟨⟨⟨⟨hcm,h1⟩,h2⟩,h3⟩,h4⟩,hz⟩:=h;exact ai0 (sI it C h2 ok.1 (Gg h1 hz) (.inl hcm)) (Ye C (fun _=>hcm) h1) (sSs b C h3 ok.2) (Dt h4)| .whl t b,X,c,a,C,h,ok=>by replace h:(opt (aii a) fun u=>mE c t u.1&&Fl c b u.2)=true:=h;obtain⟨⟨t',b'⟩,e1,hh⟩:=aA h;obtain⟨pos,rfl⟩:=aaY e1;replace h:=hh;simp only[bO]at h;exact aiY (sE t C h.1 ok.1).pt (sSs b C h.2 ok.2)| .wg cn f o e,X,c,a,C,h,ok=>by replace h:(opt (Gs a) fun t=>opt (Gp t.1) fun u=>u.2==aC f&&mE c o u.1&&mE c e t.2)=true:=h;obtain⟨⟨tg,v⟩,e1,hh⟩:=aA h;obtain⟨⟨o',f'⟩,e2,hh⟩:=aA hh;obtain⟨p,rfl⟩:=BK (a:=tg) e2;obtain⟨pos,rfl⟩:=uh e1;replace h:=hh;simp only[bO,beq_iff_eq]at h;obtain⟨⟨rfl,h1⟩,h2⟩:=h;obtain⟨_,_,K,hc,hC,hN⟩:=ok.1;exact ags hc hC hN (sE o C h1 ok.2.1).pe (sE e C h2 ok.2.2).pe (by cases v<;>rfl)| .Xo cn f op o e,X,c,a,C,h,ok=>by replace h:(opt (Ug a) fun t=>opt (Gp t.1) fun u=>u.2==aC f&&op==t.2.1&&(op== .Add||op== .Sub)&&mE c o u.1&&mE c e t.2.2)=true:=h;obtain⟨⟨tg,op',v⟩,e1,hh⟩:=aA h;obtain⟨⟨o',f'⟩,e2,hh⟩:=aA hh;obtain⟨p,rfl⟩:=BK (a:=tg) e2;obtain⟨pos,rfl⟩:=Gr e1;replace h:=hh;simp only[bO,uQ,beq_iff_eq]at h;obtain⟨⟨⟨⟨rfl,rfl⟩,h1⟩,h2⟩,h3⟩:=h;obtain⟨_,_,K,hc,hC,hN⟩:=ok.1;exact agu hc hC hN (sE o C h2 ok.2.1).pe (sE e C h3 ok.2.2).pe| .Yk,X,c,a,C,h,ok=>fun _ _ q _=>q.elim
 | .abp k,X,c,a,C,h,ok=>by replace h:(opt (aaZ a) fun o=>opt o fun v=>mXC c k v)=true:=h;obtain⟨o,e1,hh⟩:=aA h;obtain⟨v,rfl,hh⟩:=aA hh;obtain⟨pos,rfl⟩:=Rd e1;replace h:=hh;exact PS.wk (agt (sXC k C h ok)) fun Z ρ μ q=>by cases k<;>exact q
theorem sSs:∀ (st:Ss) {X:Cx} {c:Ctx} {as:List Stmt},rF X c->Fl c st as=true->lZ (vL X) (nC X) st->PSs X as (wSs st)
 | .nil,X,c,as,C,h,_=>by
  have:as=[]:=by simpa[Fl]using h
  subst this;exact agr
 | .cons s r,X,c,as,C,h,ok=>by
  cases as with
  |nil=>simp[Fl]at h|cons a as=>simp only[Fl,bO]at h;exact ad3 (sS s C h.1 ok.1) (sSs r C h.2 ok.2)
end
end DW
namespace DW
open PySem PySem.Spec PyProof.Rows
open L2 (aQ Key frs rG Loc Look Mod rH cV Cls gC Meth Mk eZ Xw W5 gB bZ aK)
noncomputable abbrev dX (T:Top) (k:Nat):Rf->dZ->Prop:=rE T (k+16)
def jo (T:Top) (x:Str) (d:D):Prop:=∃ u:Value,T.mg x=some u/\∀ h θ μ,Rp h θ μ d u
theorem rE.up {T:Top} {j k:Nat} {x:Rf} {sp:dZ} (h:rE T j x sp) (hk:j<=k):rE T k x sp:=by
 cases x with
 |fn x=>obtain⟨fa,fd,ps,h1,h2,h3,h4⟩:=h;exact⟨fa,fd,ps,h1,h2,h3,h4.mono hk⟩|pA c m=>obtain⟨C,fa,fd,ps,h0,h1,h2,h3,h4⟩:=h;exact⟨C,fa,fd,ps,h0,h1,h2,h3,h4.mono hk⟩|mk c=>obtain⟨C,fa,fd,ps,i,h0,h1,h2,h3,h4,h5⟩:=h;exact⟨C,fa,fd,ps,i,h0,h1,h2,h3,h4,jc h5 hk⟩|fld c f=>exact h|fnX x sp=>obtain⟨fa,fd,ps,h1,h2,h3,h4⟩:=h;exact⟨fa,fd,ps,h1,h2,h3,h4.mono hk⟩|ak2 c m sp=>obtain⟨C,fa,fd,ps,h0,h1,h2,h3,h4⟩:=h;exact⟨C,fa,fd,ps,h0,h1,h2,h3,h4.mono hk⟩|mkX c sp=>obtain⟨C,fa,fd,ps,i,h0,h1,h2,h3,h4,h5⟩:=h;exact⟨C,fa,fd,ps,i,h0,h1,h2,h3,h4,jc h5 hk⟩|din x ks=>exact h|dsp x ks sp=>obtain⟨a,h1,h2,h3,h4⟩:=h;refine⟨a,h1,h2,h3,fun ds μ Q X q=>?_⟩;obtain⟨t,r,fa,fd,ps,sp',e1,e2,e3,e4,e5⟩:=h4 ds μ Q X q;exact⟨t,r,fa,fd,ps,sp',e1,e2,e3,e4.mono hk,e5⟩|hdl P tab=>exact h|_=>exact h.elim
theorem dX.up {T:Top} {j k:Nat} {x:Rf} {sp:dZ} (h:dX T j x sp) (hk:j<=k):dX T k x sp:=rE.up h (Nat.add_le_add_right hk 16)
theorem Qm {T:Top} {x:Str} {i:Int} {t:Tok} (h:T.mg x=some (.int i t)):jo T x (.int i):=⟨_,h,fun _ _ _=>⟨t,rfl⟩⟩
theorem mY.calm {T:Top} {k:Nat} {f:Addr} {fd:fG} {ps:List Str} {sp:dZ} (F:mY T k f fd ps (fun ds μ Q X=>sp ds μ Q/\X=noX)):mY T k f fd ps (upX sp):=
 ⟨fun q=>F.len ⟨q,rfl⟩,fun r e b rs q fx _=>F.run (Xd:=noX) r e b rs ⟨q,rfl⟩ fx fun _ _ _ q=>q.elim⟩
section
variable {T:Top} {k:Nat} {x qual:Str} {st:Stmt} {f:Addr} {fd:fG} {N ps iM:List Str} {i:Ss} {cm:Bool}
theorem body_okX {sp:zx} (hcm:cm=true->16<=k) (F:Xw T.K x qual st f fd) (S:eZ N ps (aK st)) (hmt:Fl ⟨N,(aK st).names,iM,cm,true⟩ i (bZ st)=true) (zc:∀ y,iM.contains y=true->T.mg y=none)
  (ok:lZ (rE T k) (jo T) i) (len:∀ {ds μ Q X},sp ds μ Q X->ds.length=ps.length) (hk:afE N i sp):mY T (k+1) f fd ps sp:=by
 obtain⟨oc,od,kV,doc,pm,an,cdv,ct,osl,rfl,lk,hcd⟩:=F.ex;refine alw lk hcd S len hk fun A outer L hr=>?_;refine sSs i (X:=fX T N qual (aK st) L f cdv A outer) (c:=⟨N,(aK st).names,iM,cm,true⟩) ⟨rfl,S.nd,fun y hy=>?_,fun y hy=>?_,fun y hy=>?_,fun y hy=>?_,fun y hy=>hy,fun y hy=>zc y hy,fun z=>adJ.mpr (hr.hd (hcm z)),⟨k,hr⟩,fun _=>⟨⟨_,rfl⟩,rfl⟩⟩ hmt (lZ.mono i (fun y sp' z=>⟨k,hr,z⟩) (fun y d z=>z) ok)
 .unfold Ctx.vis at hy
  split at hy
  .rename_i z;exact .inl z
  .rename_i z;exact .inr (.inl z)
  .rename_i z;exact .inr (.inr z)
  .cases hy
 .unfold Ctx.loc at hy
  split at hy
  .rename_i z;exact .inl z
  .rename_i z;exact .inr ⟨z,rfl⟩
  .cases hy
 .have hy':(aK st).names.lookup y=some .local:=by simpa[isLocal]using hy
  exact hy'
 .unfold Ctx.wC at hy
  split at hy
  .rename_i z;exact z
  .cases hy
theorem Qo {sp:dZ} (F:Xw T.K x qual st f fd) (S:eZ N ps (aK st)) (hmt:Fl (Ctx.of N (aK st).names iM) i (bZ st)=true) (zc:∀ y,iM.contains y=true->T.mg y=none)
  (ok:lZ (dX T k) (jo T) i) (har:∀ ds μ Q,sp ds μ Q->ds.length=ps.length) (hk:Keeps N i sp):mY T (k+16+1) f fd ps (upX sp):=
 mY.calm (body_okX (fun _=>Nat.le_add_left 16 k) F S hmt zc ok (fun q=>har _ _ _ q.1) fun ds μ Q X h=>by rw[h.2];exact hk ds μ Q h.1)
theorem Xw.bnd (F:Xw T.K x qual st f fd) (h:∀ (kV doc pm:Value) (an:Option Addr) (cdv ct:Value) (us:List Value),us.length=ps.length->uL (jH x qual (gB st) (bZ st) (aK st) .none kV doc pm an cdv ct) ⟨us,[]⟩=pure (ps.zip us)):Binds T.K fd ps:=by obtain⟨oc,od,kV,doc,pm,an,cdv,ct,osl,rfl,lk,hcd⟩:=F.ex;exact fun s us _ hl=>.of_eq (h kV doc pm an cdv ct us hl)
theorem alv {y:Str} {sp:dZ} (F:Xw T.K x qual st f fd) (S:eZ N ps (aK st)) (hmt:Fl (Ctx.of N (aK st).names iM) i (bZ st)=true) (zc:∀ y,iM.contains y=true->T.mg y=none)
  (ok:lZ (dX T k) (jo T) i) (har:∀ ds μ Q,sp ds μ Q->ds.length=ps.length) (hk:Keeps N i sp) (hm:T.mg y=some (.ref f)) (hb:Binds T.K fd ps):dX T (k+1) (.fn y) sp:=
 ⟨f,fd,ps,hm,F.kp,hb,(Qo F S hmt zc ok har hk).mono (by omega:k+16+1<=k+1+16)⟩
end
theorem Rt {h:Heap} {θ:Th} {μ:Mem}:∀ {vs:List Value} {ns:List Int},oV vs ns->dF h θ μ (ns.map D.int) vs
 |_,_,.nil=>.nil|_,_,.cons n t r=>.cons ⟨t,rfl⟩ (Rt r)
theorem Sh:∀ {vs:List Value} {ns:List Int},oV vs ns->vs.length=ns.length
 |_,_,.nil=>rfl|_,_,.cons n t r=>by rw[aY,aY,Sh r]
theorem aeJ {P:cg} {w:bA} {K:cW} {mg mb:Str->Option Value} {k:Nat} {fa a:Addr} {fd:fG} {x:Str} {s₁:aj} {vs:List Value} {ns:List Int}
  (KX:K.In s₁.heap) (hns:s₁.heap.Ns bT mg) (hb:s₁.heap.Ns Nv mb) (hbb:∀ x:Str,x≠"__name__"->mb x=Cm x) (hlim:s₁.heap.NoLimit) (hsy:∃ mm,s₁.heap.Ns rQ mm) (hg:s₁.gens= #[])
  (ha:s₁.heap.get? a=some {cls:=.type "list",data:=.seq vs.toArray}) (hi:oV vs ns) (hl:ns.length<=63) (hr:cV k callerA)
  (F:mY ⟨P,w,K,mg,s₁.heap⟩ k fa fd [x] (upX K7)) (hbind:∀ (s:aj) (u:Value),M5 s fd ⟨[u],[]⟩ [(x,u)]):
  qj (aH P w) callerA (.call (.ref fa) ⟨[.ref a],[]⟩) (fun r s'=>r= .ok (.ret (.bool true))/\OldK s₁.heap s'.heap/\s'.os=s₁.os/\G7 s'.gens) s₁:=by
 have nl:∀ b,¬qy ⟨[],[]⟩ [] b:=fun b ⟨n,p,c,h,_⟩=>by simp at h
 have nv:∀ b,¬J8 ⟨[],[]⟩ [] b:=fun b z=>z.elim (fun z=>by simp at z) (nl b);have e0:E0 ⟨P,w,K,mg,s₁.heap⟩ callerA [] ⟨[],[]⟩ [] s₁:=⟨⟨KX,hns,⟨mb,hb,hbb⟩,hlim,hsy⟩,rfl,.of_eq hg,fun b o e=>⟨e,nl b⟩,fun e m=>by simp at m,
  ⟨rfl,fun b z=>by simp at z,fun m n p q c d b h=>by simp at h,fun b z=>(nv b z).elim,fun n c p h=>by simp at h⟩,fun v q=>nomatch q⟩
 have hle:vs.length<=sizeLine:=by rw[Sh hi];exact jc hl (by decide)
 have r:dF s₁.heap ⟨[],[]⟩ [] [.ro (ns.map D.int)] [.ref a]:=.one ⟨a,vs,rfl,⟨hle,⟨_,_,ha,rfl,rfl,rfl⟩⟩,nv a,Rt hi⟩;refine F.run (us:=[.ref a]) (Qd:=fun d _=>d= .bl true) (Xd:=noX) hr e0 (hbind s₁ (.ref a)) r ⟨ns,rfl,hl,fun _=>rfl⟩ (fun {d u s' θ' μ'} e g r q=>?_) (fun _ _ _ q=>q.elim);subst q;obtain rfl:u=iG true:=r;refine⟨rfl,OldK.of_keep fun b o q=>?_,g.os,e.bare⟩;obtain⟨_,sl,q',z⟩:=g.keep b o q (nl b) id;rw[z (by simp[frs])]at q';exact q'
theorem aeI {l:MP} {k:Nat} {q:cg} {loose:List Str} {XP:(Str->Option Value)->Heap->Prop} {YP:bA->Heap->Prop} {d:DefRec} {K:Params->cW} (hI:importsNone q=true) (hn:l.most=some 63) (hk:k<=200) (hdf:d.params.defaults=[])
  (hY:∀ (w:bA) (h:Heap),YP w h->(K w.params).In h)
  (F:∀ (w:bA) (mg:Str->Option Value) (fa:Addr) (h:Heap),(K w.params).In h->h.Ns bT mg->mg d.name=some (.ref fa)->
   ∃ fd:fG,(∀ (s:aj) (u:Value),M5 s fd ⟨[u],[]⟩ [("script",u)])/\∀ base:Heap,(K w.params).In base->base.Ns bT mg->mY ⟨l.prog,w,K w.params,mg,base⟩ k fa fd ["script"] (upX K7)):
  PySem.W.WalkO q loose XP YP l.row.toRowW d [] (fun f vs=>abx f vs):=by
 have hr:cV 200 callerA:=⟨fun _=>rfl,by decide,by decide,rfl⟩;refine Att.Tt hn hdf fun w s₀ s₁ mg mb fa o pm cd doc a vs ns G Y ho hd hcd hmg hobj hints hlen hg=>?_;have KX:=hY w _ Y;obtain⟨fd,hb,hF⟩:=F w mg fa _ KX G.T.g hmg;exact aeJ KX G.T.g G.T.b G.T.builtins G.T.nolimit (let⟨mm,z,_⟩:=(G.T.seer hI).mods;⟨mm,z⟩) hg hobj hints hlen (hr.mono hk) (hF _ KX G.T.g) hb
section
variable {T:Top} {k:Nat} {h:Heap} {x y:Str} {ks:List (List Nat)} {sp:dZ} {spx:zx}
end
section
variable {α:Type} {P:List α->Prop}
theorem len1 (h:∀ a,P [a]):∀ us:List α,us.length=1->P us
 |[a],_=>h a
theorem len2 (h:∀ a b,P [a,b]):∀ us:List α,us.length=2->P us
 |[a,b],_=>h a b
theorem ajB (h:∀ a b c,P [a,b,c]):∀ us:List α,us.length=3->P us
 |[a,b,c],_=>h a b c
end
def cP (K:cW) (x:Str) (st:Stmt):Prop:=∃ (f:Addr) (fd:fG),cZ K bT x=some (some (.ref f))/\Xw K x x st f fd
theorem afk {K:cW} {x:Str} {st:Stmt} {f:Addr} {oc:Value} {od an:Option Addr} {osl:Array (Option Value)} {kV doc pm cdv ct:Value} (a:cZ K bT x=some (some (.ref f)))
  (l:K.lookup f=some ⟨oc,od,.func (jH x x (gB st) (bZ st) (aK st) .none kV doc pm an cdv ct),osl⟩) (c:Hy K cdv x=true) (k:pN K (.ref f)=true):cP K x st:=⟨f,_,a,W5 l c k⟩
theorem Jj {K:cW} {x:Str} {i:Int} {t:Tok} (h:cZ K bT x=some (some (.int i t))):∃ t,cZ K bT x=some (some (.int i t)):=⟨t,h⟩
def J5 (K:cW):List Str->Prop
 |[]=>True|x::xs=>cZ K bT x=some none/\J5 K xs
theorem YQ {K:cW} {h:Heap} {mg:Str->Option Value} (X:K.In h) (G:h.Ns bT mg):∀ {xs:List Str},J5 K xs->∀ y,xs.contains y=true->mg y=none
 |[],_,y,h=>by simp at h|x::xs,F,y,h=>by
  by_cases e:y=x
  .subst e;exact PySem.W.mg_none_of X G F.1
  .exact YQ X G F.2 y (by simpa[e]using h)
theorem alx {T:Top} {h:Heap} {k:Nat} {x:Str} {st:Stmt} {N ps iM:List Str} {i:Ss} {sp:dZ} (D:cP T.K x st) (X:T.K.In h) (G:h.Ns bT T.mg) (S:eZ N ps (aK st)) (hmt:Fl (Ctx.of N (aK st).names iM) i (bZ st)=true) (zc:∀ y,iM.contains y=true->T.mg y=none)
  (hbd:∀ (kV doc pm:Value) (an:Option Addr) (cdv ct:Value) (us:List Value),us.length=ps.length->uL (jH x x (gB st) (bZ st) (aK st) .none kV doc pm an cdv ct) ⟨us,[]⟩=pure (ps.zip us))
  (har:∀ ds μ Q,sp ds μ Q->ds.length=ps.length) (hk:Keeps N i sp) (ok:lZ (dX T k) (jo T) i):dX T (k+1) (.fn x) sp:=by
 obtain⟨f,fd,a,F⟩:=D;exact alv F S hmt zc ok har hk (uO X G a) (Xw.bnd F hbd)
def Gf (K:cW) (y x:Str):Prop:=∃ f:Addr,cZ K bT y=some (some (.ref f))/\cZ K bT x=some (some (.ref f))
theorem Xp {K:cW} {y x:Str} {f:Addr} (a:cZ K bT y=some (some (.ref f))) (b:cZ K bT x=some (some (.ref f))):Gf K y x:=⟨f,a,b⟩
theorem dX.other {T:Top} {h:Heap} {k:Nat} {x y:Str} {sp:dZ} (A:Gf T.K y x) (X:T.K.In h) (G:h.Ns bT T.mg) (u:dX T k (.fn x) sp):dX T k (.fn y) sp:=by obtain⟨f,a,b⟩:=A;obtain⟨fa,fd,ps,h1,h2⟩:=u;exact⟨fa,fd,ps,by rw[uO X G a,<-uO X G b];exact h1,h2⟩
def spP (sp:Nat->dZ):Nat->dZ
 |0=>spN|d+1=>sp d
theorem W7 {T:Top} {k:Nat} {f:Addr} {fd:fG} {ps:List Str}:mY T k f fd ps (upX spN):=⟨fun z=>z.elim,fun _ _ _ _ z=>z.elim⟩
def ClsAt (K:cW) (c:String):Prop:=∃ C:Addr,cZ K bT (aC c)=some (some (.ref C))/\Cls K C/\Oe K C=true/\pN K (.ref C)=true
theorem afs {K:cW} {c:String} {C:Addr} (a:cZ K bT (aC c)=some (some (.ref C))) (pg:HJ K C Str.empty=true) (hd:Ov K C=true) (po:VK K C=true)
  (sa:pO K (.ref C) "__setattr__"=some (some (.builtin "object.__setattr__"))) (mk:Oe K C=true) (kc:pN K (.ref C)=true):ClsAt K c:=⟨C,a,⟨pg,hd,po,sa⟩,mk,kc⟩
def J4 (K:cW) (c f:String):Prop:=∃ C:Addr,cZ K bT (aC c)=some (some (.ref C))/\pO K (.ref C) (aC f)=some none
theorem agN {K:cW} {c f:String} {C:Addr} (a:cZ K bT (aC c)=some (some (.ref C))) (n:pO K (.ref C) (aC f)=some none):J4 K c f:=⟨C,a,n⟩
theorem ajZ {T:Top} {k:Nat} {c f:String} (Cl:ClsAt T.K c) (N:J4 T.K c f):dX T k (.fld c f) spN:=by obtain⟨C,h1,h2,_⟩:=Cl;obtain⟨C',h3,h4⟩:=N;rw[h1]at h3;cases h3;exact⟨C,h1,h2,h4⟩
def eY (K:cW) (c m:String) (q:Str) (st:Stmt):Prop:=∃ (C f:Addr) (fd:fG),cZ K bT (aC c)=some (some (.ref C))/\pO K (.ref C) (aC m)=some (some (.ref f))/\Ht K (.ref f)=true/\Xw K (aC m) q st f fd
theorem aes {K:cW} {c m:String} {q:Str} {st:Stmt} {C f:Addr} {oc:Value} {od an:Option Addr} {osl:Array (Option Value)} {kV doc pm cdv ct:Value} (a:cZ K bT (aC c)=some (some (.ref C)))
  (b:pO K (.ref C) (aC m)=some (some (.ref f))) (i:Ht K (.ref f)=true) (l:K.lookup f=some ⟨oc,od,.func (jH (aC m) q (gB st) (bZ st) (aK st) .none kV doc pm an cdv ct),osl⟩)
  (cd:Hy K cdv q=true) (k:pN K (.ref f)=true):eY K c m q st:=⟨C,f,_,a,b,i,W5 l cd k⟩
section
variable {T:Top} {k:Nat} {c m:String} {q:Str} {st:Stmt} {N ps iM:List Str} {i:Ss} {sp:dZ} {h:Heap}
theorem Wt (D:eY T.K c m q st) (Cl:ClsAt T.K c) (S:eZ N ps (aK st)) (hmt:Fl (Ctx.of N (aK st).names iM) i (bZ st)=true) (zc:∀ y,iM.contains y=true->T.mg y=none)
  (hbd:∀ (kV doc pm:Value) (an:Option Addr) (cdv ct:Value) (us:List Value),us.length=ps.length->uL (jH (aC m) q (gB st) (bZ st) (aK st) .none kV doc pm an cdv ct) ⟨us,[]⟩=pure (ps.zip us))
  (har:∀ ds μ Q,sp ds μ Q->ds.length=ps.length) (hk:Keeps N i sp) (ok:lZ (dX T k) (jo T) i):dX T (k+1) (.pA c m) sp:=by
 obtain⟨C,f,fd,h1,h2,h3,F⟩:=D;obtain⟨C',h4,h5,_⟩:=Cl;rw[h1]at h4;cases h4;exact⟨C,f,fd,ps,h1,h5,⟨h2,h3,F.kp⟩,Xw.bnd F hbd,(Qo F S hmt zc ok har hk).mono (by omega:k+16+1<=k+1+16)⟩
theorem Yq {i:Nat->Ss} {sp:Nat->dZ} (D:eY T.K c m q st) (Cl:ClsAt T.K c) (S:eZ N ps (aK st)) (hmt:∀ d,Fl (Ctx.of N (aK st).names iM) (i d) (bZ st)=true) (zc:∀ y,iM.contains y=true->T.mg y=none)
  (hbd:∀ (kV doc pm:Value) (an:Option Addr) (cdv ct:Value) (us:List Value),us.length=ps.length->uL (jH (aC m) q (gB st) (bZ st) (aK st) .none kV doc pm an cdv ct) ⟨us,[]⟩=pure (ps.zip us))
  (har:∀ d ds μ Q,sp d ds μ Q->ds.length=ps.length) (hk:∀ d,Keeps N (i d) (sp d)) (ok:∀ d j,k<=j->dX T j (.pA c m) (spP sp d)->lZ (dX T j) (jo T) (i d)):∀ d,dX T (k+d+1) (.pA c m) (sp d)
 |0=>by refine Wt D Cl S (hmt 0) zc hbd (har 0) (hk 0) (ok 0 k (aL _) ?_);obtain⟨C,f,fd,h1,h2,h3,F⟩:=D;obtain⟨C',h4,h5,_⟩:=Cl;rw[h1]at h4;cases h4;exact⟨C,f,fd,ps,h1,h5,⟨h2,h3,F.kp⟩,Xw.bnd F hbd,W7⟩
 |d+1=>Wt D Cl S (hmt (d+1)) zc hbd (har (d+1)) (hk (d+1)) (ok (d+1) (k+d+1) (by omega) (Yq D Cl S hmt zc hbd har hk ok d))
theorem ak4 (X:T.K.In h) (G:h.Ns bT T.mg) (D:eY T.K c "__init__" q st) (Cl:ClsAt T.K c) (S:eZ N ps (aK st)) (hmt:Fl (Ctx.of N (aK st).names iM) i (bZ st)=true) (zc:∀ y,iM.contains y=true->T.mg y=none)
  (hbd:∀ (kV doc pm:Value) (an:Option Addr) (cdv ct:Value) (us:List Value),us.length=ps.length->uL (jH (aC "__init__") q (gB st) (bZ st) (aK st) .none kV doc pm an cdv ct) ⟨us,[]⟩=pure (ps.zip us))
  (har:∀ ds μ Q,sp ds μ Q->ds.length=ps.length) (hk:Keeps N i sp) (ok:lZ (dX T k) (jo T) i):dX T (k+2) (.mk c) sp:=by
 obtain⟨C,f,fd,h1,h2,h3,F⟩:=D;obtain⟨C',h4,h5,h6,h7⟩:=Cl;rw[h1]at h4;cases h4;exact⟨C,f,fd,ps,k+16+1,h1,uO X G h1,⟨h6,h2,h3,h7⟩,Xw.bnd F hbd,Qo F S hmt zc ok har hk,by omega⟩
end
end DW
namespace DW
open PySem
def tags:List (List Nat):=[[],[],[97],[98],[97,98],[98,97],[122],[97,98,99,100,101,102,103,104]]
def keyOk (k:Int):Prop:=-(10 ^ 40)<k/\k<10 ^ 40
def gM (x:Itm):Prop:=keyOk x.1/\x.2∈tags
def Lz (μ:Mem) (n:Nat):Prop:=∃ b:Int,μ[n]?=some (.lst [.int b])
def bx (μ:Mem) (n:Nat) (b:Int):Mem:=μ.set n (.lst [.int b])
def vN:dZ:=fun ds μ Q=>match ds with|[.ro xs,.int k]=>∃ ns:List Int,xs=ns.map D.int/\ns.length<1000/\0<=k/\∀ b,Q (.loc μ.length) (μ++[.lst [.int b]])|_=>False
def cR:dZ:=fun ds μ Q=>match ds with|[.loc n,.int m]=>Lz μ n/\0<m/\m<2 ^ 500/\∀ d b,0<=d->d<m->Q (.int d) (bx μ n b)|_=>False
def vM:dZ:=fun ds μ Q=>match ds with|[.loc n,.int m]=>Lz μ n/\0<=m/\m<1000/\∀ (r:List Itm) b,(r.length:Int)<=m->(∀ x∈r,gM x)->Q (.lst (r.map bH)) (bx μ n b)|_=>False
def Yp:List Str:=["box","many","left","digit"]
def YH:Ss:=(.cons (.Ul [2,3] (.blt "divmod" (.cons (.idx (.var 0) (.cst (.int 0))) (.cons (.var 1) .nil)))) (.cons (.wR (.var 0) (.cst (.int 0)) (.var 2)) (.cons (.ret (.var 3)) .nil)))
theorem jw (h:Lz μ n):Lz (bx μ n b) n:=by obtain⟨c,h⟩:=h;exact⟨b,by unfold bx;rw[cT (cF.mp h).1]⟩
theorem Dr:Lz (μ++[.lst [.int b]]) μ.length:=⟨b,by simp⟩
theorem Y6:bx (bx μ n b) n c=bx μ n c:=by simp[bx]
theorem ag2:Keeps Yp YH cR:=by
 intro ds μ Q h;unfold cR at h;split at h
 .obtain⟨⟨b,hb⟩,h0,hm,h⟩:=h
  rename_i n m;have hc:Mr m:=⟨h0,hm⟩;simp[YH,Yp,aF,cC,wSs,wS,wT,wE,wEs,d7,au,hb,pG,bM,hc,dg,jU];exact h _ _ (Int.emod_nonneg _ (by omega)) (Int.emod_lt_of_pos _ h0)
 .exact h.elim
def FJ:dZ:=fun ds μ Q=>∃ x y:Itm,ds=[bH x,bH y]/\Q (.bl (lG x y)) μ
def BL:dZ:=fun ds μ Q=>∃ x y:Itm,ds=[bH x,bH y]/\Q (.bl (lG x y)) μ
def ahf (μ:Mem) (n:Nat):Bool:=match μ[n]? with|some (.vV _ _)=>true|_=>false
theorem aj4 (h:ahf μ n=true):tyOf μ (.loc n)=some "dict":=by
 unfold ahf at h;simp only[tyOf];split at h
 .rename_i e;rw[e]
 .cases h
def lV:dZ:=fun ds μ Q=>match ds with|[.int _]=>Q (.bl true) μ|[.loc n]=>ahf μ n=true/\Q (.bl false) μ|[.ro _]=>False|[_]=>Q (.bl false) μ|_=>False
def posR (x:Itm) (l:List Itm):Nat->Nat
 |0=>0|n+1=>match l[n]? with|some y=>if lG x y=true then posR x l n else n+1|none=>n+1
def sZ (x:Itm) (l:List Itm):List Itm:=l.take (posR x l l.length)++x::l.drop (posR x l l.length)
def GC (r:List Itm):List Itm:=r.foldl (fun l x=>sZ x l) []
def oJ:dZ:=fun ds μ Q=>∃ r:List Itm,ds=[.lst (r.map bH)]/\r.length<1000/\Q (.lst ((GC r).map bH)) (μ++[.gone])
def aep:List Str:=["one","other"]
def aeW:Ss:=(.cons (.ret (.cmp .Lt (.var 0) (.var 1))) .nil)
def RK:List Str:=["one","other"]
def Sy:Ss:=(.cons (.ret (.or (.cmp .Lt (.idx (.var 0) (.cst (.int 0))) (.idx (.var 1) (.cst (.int 0)))) (.and (.cmp .Eq (.idx (.var 0) (.cst (.int 0))) (.idx (.var 1) (.cst (.int 0)))) (.cmp .Lt (.idx (.var 0) (.cst (.int 1))) (.idx (.var 1) (.cst (.int 1))))))) .nil)
def mq:List Str:=["row","found","item","at"]
def mD:Ss:=(.cons (.set 1 (.lst true .nil)) (.cons (.for_ [2] false (.seq (.var 0)) (.cons (.set 3 (.blt "len" (.cons (.var 1) .nil))) (.cons (.whl (.and (.cmp .Gt (.var 3) (.cst (.int 0))) (.call "_law_under" BL (.cons (.var 2) (.cons (.idx (.var 1) (.bin .Sub (.var 3) (.cst (.int 1)))) .nil)))) (.cons (.set 3 (.bin .Sub (.var 3) (.cst (.int 1)))) .nil)) (.cons (.exp (.meth "insert" (.var 1) (.cons (.var 3) (.cons (.var 2) .nil)))) .nil)))) (.cons (.ret (.frz (.var 1))) .nil)))
def Ad:List Str:=["thing"]
def Bb:Ss:=(.cons (.ret (.and (.isin (.var 0) "int") (.not (.isin (.var 0) "bool")))) .nil)
theorem ajM:Keeps aep aeW FJ:=by
 rintro ds μ Q ⟨x,y,rfl,h⟩;simp[aeW,aep,aF,cC,wSs,wS,wT,wE,wEs,bH,dh,Et,wu,kO,sc2];by_cases e:x.1=y.1
 .simp[lG,e]at h
  by_cases e2:x.2=y.2
  .rw[e2,IV]at h
   simp[e,e2];exact h
  .simp[e,e2];exact h
 .simp[lG,e]at h
  simp[e];exact h
theorem aeP:Keeps RK Sy BL:=by
 rintro ds μ Q ⟨x,y,rfl,h⟩;simp[Sy,RK,aF,cC,wSs,wS,wT,wE,wEs,bH,dh,d7,au,pG,Et,gZ,flat,kO];by_cases e:x.1=y.1
 .simp[lG,e]at h
  simp[e];exact h
 .simp[lG,e]at h
  by_cases e2:x.1<y.1
  .simp[e2]at h ⊢;exact h
  .simp[e2]at h ⊢;simp[e];exact h
theorem R8:Keeps Ad Bb lV:=by
 intro ds μ Q h;unfold lV at h;split at h
 .simpa[Bb,Ad,aF,cC,wSs,wS,wE,wH,tyOf,tZ,gZ]using h
 .simpa[Bb,Ad,aF,cC,wSs,wS,wE,wH,aj4 h.1,tZ,gZ]using h.2
 .exact h.elim
 .rename_i d h1 h2 h3
  cases d with
  |int i=>exact absurd rfl (h1 i)|loc i=>exact absurd rfl (h2 i)|ro i=>exact absurd rfl (h3 i)|_=>simpa[Bb,Ad,aF,cC,wSs,wS,wE,wH,tyOf,tZ,gZ]using h
 .exact h.elim
theorem Pr (x:Itm) (l:List Itm):∀ n,posR x l n<=n
 |0=>aL 0|n+1=>by
  unfold posR;split
  .split
   .exact Ou (Pr x l n)
   .exact aL _
  .exact aL _
theorem Jk (x:Itm) (l:List Itm):(sZ x l).length=l.length+1:=by have:=Pr x l l.length;simp[sZ];omega
theorem aez:y∈sZ x l<->y=x∨y∈l:=by
 have:y∈l<->y∈l.take (posR x l l.length)∨y∈l.drop (posR x l l.length):=by rw[<-jd,O4]
 simp[sZ,this];constructor
 .rintro(h|h|h)
  .exact .inr (.inl h)
  .exact .inl h
  .exact .inr (.inr h)
 .rintro(h|h|h)
  .exact .inr (.inl h)
  .exact .inl h
  .exact .inr (.inr h)
theorem abg (r:List Itm):∀ l:List Itm,(r.foldl (fun l x=>sZ x l) l).length=l.length+r.length/\∀ y,y∈r.foldl (fun l x=>sZ x l) l<->y∈l∨y∈r:=by
 induction r with
 |nil=>intro l;simp|cons x r ih=>
  intro l;obtain⟨h1,h2⟩:=ih (sZ x l);refine⟨by rw[lA,h1,Jk];simp;omega,fun y=>?_⟩;rw[lA,h2,aez];simp;constructor
  .rintro((h|h)|h)
   .exact .inr (.inl h)
   .exact .inl h
   .exact .inr (.inr h)
  .rintro(h|h|h)
   .exact .inl (.inr h)
   .exact .inl (.inl h)
   .exact .inr h
theorem agd (r:List Itm):(GC r).length=r.length:=by simpa[GC]using(abg r []).1
theorem qX:Keeps mq mD oJ:=by
 rintro ds μ Q ⟨r,rfl,hl,h⟩;simp[mD,mq,aF,cC,wSs,wS,wE,wEs,wI,newL,kZ,lim];refine bK (fun ds ρ μ'=>∃ (l r2:List Itm) (u v:Option D),ds=r2.map bH/\μ'=μ++[.lst (l.map bH)]/\l.length+r2.length<1000/\r2.foldl (fun l x=>sZ x l) l=GC r/\ρ=[some (.lst (r.map bH)),some (.loc μ.length),u,v]) ?_ ?_ _ _ _ ⟨[],r,none,none,rfl,rfl,by simpa using hl,rfl,rfl⟩
 .rintro d ds ρ μ' N hN ⟨l,r2,u,v,e,rfl,h1,h2,rfl⟩
  cases r2 with
  |nil=>simp at e|cons x r2=>
   simp at e;obtain⟨rfl,rfl⟩:=e;refine⟨trivial,?_⟩;simp[dg,bM,lenOf,au];refine⟨fun m ρ μ'=>m<=l.length/\posR x l m=posR x l l.length/\μ'=μ++[.lst (l.map bH)]/\ρ=[some (.lst (r.map bH)),some (.loc μ.length),some (bH x),some (.int m)],⟨l.length,by simp⟩,?_⟩;rintro m ρ μ' ⟨hm,hq,rfl,rfl⟩;simp[wT,wE,wEs,dh,gZ,lq];cases m with
   |zero=>
    simp[isCell,dU,bY,lim];refine⟨by simp at h1;omega,?_⟩;refine hN _ _ ⟨sZ x l,r2,_,_,rfl,?_,?_,?_,rfl⟩
    .simp[sZ,<-hq,posR]
    .rw[Jk];simp at h1;omega
    .simpa using h2
   |succ m=>
    (have hml:m<l.length:=by omega);(have e1:((m+1:Nat):Int) -1=(m:Int):=by omega);(have e2:(l.map bH)[m]?=some (bH l[m]):=by simp[hml]);(have e3:0<((m+1:Nat):Int):=by omega);simp only[e3,e1];simp[d7,au,dI hml,e2,hml];have e4:posR x l (m+1)=if lG x l[m]=true then posR x l m else m+1:=by simp[posR,hml]
    refine⟨x,l[m],rfl,?_⟩;simp[iu,truth];by_cases hx:lG x l[m]=true
    .simp[hx]
     refine⟨m,by omega,by omega,?_,?_⟩
     .rw[<-hq,e4,if_pos hx]
     .simp
    .simp[hx,isCell,dU,bY,lim]
     rw[if_neg hx]at e4;refine⟨by omega,by omega,by simp at h1;omega,?_⟩;refine hN _ _ ⟨sZ x l,r2,_,_,rfl,?_,?_,?_,rfl⟩
     .have:((m:Int)+1).toNat=m+1:=by omega
      simp[sZ,<-hq,e4,this,abL,N5]
     .rw[Jk];simp at h1;omega
     .simpa using h2
 .rintro ρ μ' ⟨l,r2,u,v,e,rfl,h1,h2,rfl⟩
  cases r2 with
  |cons x r2=>simp at e|nil=>refine⟨trivial,?_⟩;simp at h2;subst h2;simpa[Q8]using h
end DW
namespace DW
theorem Z9 (x:Itm) (l:List Itm):(sZ x l).Perm (x::l):=by unfold sZ;refine(yI).trans ?_;rw[O4]
theorem Kf (r:List Itm):∀ l:List Itm,(r.foldl (fun l x=>sZ x l) l).Perm (l++r):=by
 induction r with
 |nil=>intro l;simp|cons x r ih=>intro l;rw[lA];refine(ih _).trans (((Z9 x l).append_right r).trans ?_);exact yI.symm
theorem uq (r:List Itm):(GC r).Perm r:=by simpa[GC]using Kf r []
theorem Lf (x:Itm) (l:List Itm):∀ n,n<=l.length->(∀ i (h:i<l.length),posR x l n<=i->i<n->lG x l[i]=true)/\(∀ i (h:i<l.length),i+1=posR x l n->lG x l[i]=false)
 |0,_=>⟨fun i h h1 h2=>by omega,fun i h h1=>by simp[posR]at h1⟩|n+1,hn=>by
  have hl:n<l.length:=by omega
  have e:l[n]?=some l[n]:=bI hl;unfold posR;rw[e];simp only;by_cases c:lG x l[n]=true
  .rw[if_pos c]
   obtain⟨h1,h2⟩:=Lf x l n (by omega);refine⟨fun i h a b=>?_,h2⟩;by_cases z:i=n
   .subst z;exact c
   .exact h1 i h a (by omega)
  .rw[if_neg c]
   refine⟨fun i h a b=>by omega,fun i h a=>?_⟩;(have:i=n:=by omega);subst this;simpa using c
theorem Sq (x:Itm) (l:List Itm) (h:bQ l):bQ (sZ x l):=by
 obtain⟨h1,h2⟩:=Lf x l l.length (aL _);have hp:=Pr x l l.length;unfold sZ;generalize posR x l l.length=t at h1 h2 hp;have hl:=Pa.mp h;have lo:∀ y∈l.take t,lG x y=false:=by
  intro y hy;obtain⟨i,hi,rfl⟩:=CJ.mp hy;have hi2:i<t/\i<l.length:=by simp at hi;omega
  rw[List.getElem_take];have hz:=h2 (t -1) (by omega) (by omega);by_cases q:i=t -1
  .subst q;exact hz
  .exact jO _ _ _ (hl i (t -1) hi2.2 (by omega) (by omega)) hz
 have hi:∀ y∈l.drop t,lG y x=false:=by
  intro y hy;obtain⟨i,hi,rfl⟩:=CJ.mp hy;rw[List.getElem_drop];have:t+i<l.length:=by simp at hi;omega
  exact Ai _ _ (h1 (t+i) this (by omega) this)
 have parts:=h;rw[<-O4 t l]at parts;obtain⟨p1,p2,p3⟩:=O1.mp parts;refine O1.mpr ⟨p1,pR.mpr ⟨fun y hy=>hi y hy,p2⟩,fun a ha b hb=>?_⟩;simp at hb;rcases hb with rfl|hb
 .exact lo a ha
 .exact p3 a ha b hb
theorem xR (r:List Itm):bQ (GC r):=by
 have:∀ (r l:List Itm),bQ l->bQ (r.foldl (fun l x=>sZ x l) l):=by
  intro r;induction r with
  |nil=>intro l h;exact h|cons x r ih=>intro l h;exact ih _ (Sq x l h)
 exact this r [] .nil
theorem abf (p:a.Perm r) (h:bQ a):a=GC r:=Ej (p.trans (uq r).symm) h (xR r)
def Adj (r:List Itm):Prop:=∀ i (h:i+1<r.length),lG (r[i+1]'h) (r[i]'(by omega))=false
theorem GZ (h:bQ r):Adj r:=fun i hi=>(Pa.mp h) i (i+1) (by omega) hi (by omega)
open PySem
end DW
namespace DW.KQ
open PySem DW
theorem Ez {r:List Itm} (h:∀ x∈r,gM x):flat 60 (.lst (r.map bH))=true:=by
 unfold flat
 induction r with
 |nil=>rfl|cons x r ih=>
  rw[aW,flats,ih fun y hy=>h y (by simp[hy])];have:flat 59 (bH x)=true:=by
   have ht:=(h x (by simp)).2;have:∀ t∈tags,t.all (·<1114112)=true:=by decide
   simp[bH,flat,flats];simpa using this _ ht
  simp[this]
mutual
theorem Jy:∀ (n:Nat) (d:D),flat n d=true->kO d d=true
 |n,.non,_=>rfl|n,.bl b,_=>by simp[kO]|n,.int i,_=>by simp[kO]|n,.str x,_=>by simp[kO]|0,.tup ds,h=>by simp[flat]at h|n+1,.tup ds,h=>by rw[kO];exact Dv n ds (by simpa[flat]using h)|0,.lst ds,h=>by simp[flat]at h|n+1,.lst ds,h=>by rw[kO];exact Dv n ds (by simpa[flat]using h)|n,.ro ds,h=>by simp[flat]at h|n,.loc ds,h=>by simp[flat]at h|n,.vV ks ds,h=>by simp[flat]at h
theorem Dv:∀ (n:Nat) (ds:List D),flats n ds=true->Jx ds ds=true
 |n,[],_=>rfl|n,d::ds,h=>by simp only[flats,bO]at h;simp[Jx,Jy n d h.1,Dv n ds h.2]
end
end DW.KQ
namespace DW
open PySem DW.KQ
theorem aai (h:gM x):flat 60 (bH x)=true:=by
 have:∀ t∈tags,t.all (·<1114112)=true:=by decide
 have:=this _ h.2;simp[bH,flat,flats];simpa using this
end DW
namespace DW
open PySem
def cY:dZ:=fun ds μ Q=>match ds with|[.int _]=>Q (.bl true) μ|[.loc n]=>ahf μ n=true/\Q (.bl false) μ|[.ro _]=>False|[_]=>Q (.bl false) μ|_=>False
def Ws:List Str:=["thing"]
def W2:Ss:=(.cons (.ret (.and (.isin (.var 0) "int") (.not (.isin (.var 0) "bool")))) .nil)
theorem WQ:Keeps Ws W2 cY:=by have e:cY=lV:=rfl;rw[e];exact R8
open DW.KQ
structure LL (μ:Mem) (b n:Nat) (ls:List Nat) (rs:List (List Itm)):Prop where
 lo:b<=n
 at_:μ[n]?=some (.lst (ls.map D.loc))
 len:ls.length=rs.length
 sub:∀ l∈ls,b<=l/\l≠n
 row:∀ (i l:Nat) (r:List Itm),ls[i]?=some l->rs[i]?=some r->μ[l]?=some (.lst (r.map bH))
theorem LL.app (h:LL μ b n ls rs) (ν:Mem):LL (μ++ν) b n ls rs:=
 ⟨h.lo,by rw[cL (cF.mp h.at_).1];exact h.at_,h.len,h.sub,fun i l r h1 h2=>by have:=h.row i l r h1 h2;rw[cL (cF.mp this).1];exact this⟩
def cG (rs:List (List Itm)):List D:=rs.map fun r=>.lst (r.map bH)
theorem Er {α β:Type} {l:List α} {m:List β} {p:α×β} (h:p∈l.zip m):∃ i:Nat,l[i]?=some p.1/\m[i]?=some p.2:=by
 obtain⟨i,hi,rfl⟩:=CJ.mp h;refine⟨i,?_⟩;have h1:i<l.length/\i<m.length:=by simp at hi;omega
 simp[h1.1,h1.2]
theorem ag4 (xs:List α) (x:α):(pG (xs++[x]).length (-1)).bind ((xs++[x])[·]?)=some x:=by
 have e:pG (xs++[x]).length (-1)=some xs.length:=by
  have h1:¬(0:Int)<=-1:=by decide
  have h2: -(((xs++[x]).length:Nat):Int)<=-1:=by simp;omega
  have h3:((-1:Int)+((xs++[x]).length:Int)).toNat=xs.length:=by simp;omega
  simp only[pG,h1,h2,if_true,if_false,h3]
 rw[e];simp
end DW
namespace DW
open PySem
theorem Gu (μ:Mem) (n:Nat) (ds:List D):fH μ (n+1) (.tup ds)= .tup (ds.map (fH μ n)):=rfl
theorem Rh (μ:Mem) (n:Nat) (ds:List D):fH μ (n+1) (.lst ds)= .lst (ds.map (fH μ n)):=rfl
theorem Ri (h:μ[k]?=some (.lst ds)) (n:Nat):fH μ (n+1) (.loc k)= .lst (ds.map (fH μ n)):=by show(match μ[k]? with|some (.lst ds)=>D.lst (ds.map (fH μ n))|_=>.loc k)=_;rw[h]
theorem Gw (μ:Mem) (n:Nat) (i:Int):fH μ n (.int i)= .int i:=by cases n<;>rfl
theorem aa6 (μ:Mem) (n:Nat) (x:List Nat):fH μ n (.str x)= .str x:=by cases n<;>rfl
theorem MF (μ:Mem) (n:Nat) (x:Itm):fH μ n (bH x)=bH x:=by
 cases n with
 |zero=>rfl|succ n=>simp[bH,Gu,Gw,aa6]
theorem Gv (μ:Mem) (n:Nat) (f:α->D) (h:∀ x,fH μ n (f x)=f x) (l:List α):(l.map f).map (fH μ n)=l.map f:=by rw[jq];exact qN fun x _=>h x
end DW
namespace DW.Mq
open PySem DW DW.KQ
noncomputable abbrev Hd:=Option Itm
def hdD:Hd->D
 |none=>.non|some x=>bH x
def o9:Option Nat->D
 |none=>.non|some p=>.int (p:Int)
def mid (s b:Nat):Nat:=s+(b -s+1)/2
theorem iI (h:1<b -s):s<mid s b/\mid s b<b:=by unfold mid;omega
def J0 (hs:List Hd):Option Nat->Option Nat->Option Nat
 |none,r=>r|some p,none=>some p|some p,some q=>match hs[q]?.join,hs[p]?.join with|some y,some x=>if lG y x=true then some q else some p|_,_=>some p
def oF (hs:List Hd) (s b:Nat):Option Nat:=
 if 1<b -s then J0 hs (oF hs s (mid s b)) (oF hs (mid s b) b)else if(hs[s]?.join).isSome=true/\s<b then some s else none
 termination_by b -s
 decreasing_by
 .have:=iI (by assumption);omega
 .have:=iI (by assumption);omega
def zu (p s b:Nat):List (Nat×Nat):=
 if 1<b -s then(s,b)::(if p<mid s b then zu p s (mid s b)else zu p (mid s b) b)else []
 termination_by b -s
 decreasing_by
 .have:=iI (by assumption);omega
 .have:=iI (by assumption);omega
def Rj (x:Nat×Nat):D:=.tup [.int (x.1:Int),.int (x.2:Int)]
inductive Mp:Nat->Nat->Nat->Nat->Prop
 |refl (s b:Nat):Mp s b s b
 |left {s b s' b':Nat} (h:1<b -s) (i:Mp s (mid s b) s' b'):Mp s b s' b'
 |right {s b s' b':Nat} (h:1<b -s) (i:Mp (mid s b) b s' b'):Mp s b s' b'
theorem Mp.sub (h:Mp s b s' b'):s<=s'/\b'<=b:=by
 induction h with
 |refl s b=>omega|left h i ih=>have:=iI h;omega|right h i ih=>have:=iI h;omega
theorem Mp.l (h:Mp s b s' b') (hh:1<b' -s'):Mp s b s' (mid s' b'):=by
 induction h with
 |refl s b=>exact .left hh (.refl _ _)|left h i ih=>exact .left h (ih hh)|right h i ih=>exact .right h (ih hh)
theorem Mp.r (h:Mp s b s' b') (hh:1<b' -s'):Mp s b (mid s' b') b':=by
 induction h with
 |refl s b=>exact .right hh (.refl _ _)|left h i ih=>exact .left h (ih hh)|right h i ih=>exact .right h (ih hh)
theorem oE (h:1<b -s):oF hs s b=J0 hs (oF hs s (mid s b)) (oF hs (mid s b) b):=by rw[oF,if_pos h]
theorem oh (h:¬1<b -s):oF hs s b=if(hs[s]?.join).isSome=true/\s<b then some s else none:=by rw[oF,if_neg h]
def Is (hs:List Hd) (p:Nat):Prop:=∃ x,hs[p]?=some (some x)
theorem ahw (h:J0 hs l r=some p):l=some p∨r=some p:=by
 unfold J0 at h;split at h
 .exact .inr h
 .exact .inl h
 .split at h
  .split at h
   .exact .inr h
   .exact .inl h
  .exact .inl h
theorem tC (hs:List Hd):∀ (n s b:Nat),b -s<=n->∀ p,oF hs s b=some p->Is hs p/\s<=p/\p<b
 |0,s,b,hn,p,h=>by
  rw[oh (by omega)]at h;split at h
  .rename_i c;omega
  .cases h
 |n+1,s,b,hn,p,h=>by
  by_cases c:1<b -s
  .rw[oE c]at h
   have hm:=iI c;rcases ahw h with h|h
   .obtain⟨h1,h2,h3⟩:=tC hs n s (mid s b) (by omega) p h;exact⟨h1,by omega,by omega⟩
   .obtain⟨h1,h2,h3⟩:=tC hs n (mid s b) b (by omega) p h;exact⟨h1,by omega,by omega⟩
  .rw[oh c]at h
   split at h
   .rename_i q
    cases h;refine⟨?_,by omega,q.2⟩;obtain⟨q1,_⟩:=q;cases e:hs[s]? with
    |none=>rw[e]at q1;simp at q1|some o=>cases o with|none=>rw[e]at q1;simp at q1|some x=>exact⟨x,e⟩
   .cases h
theorem QH (hs:List Hd) (p:Nat) (x:Hd):∀ (n s b:Nat),b -s<=n->¬(s<=p/\p<b)->oF (hs.set p x) s b=oF hs s b
 |0,s,b,hn,h=>by
  rw[oh (by omega),oh (by omega)];have:¬s<b:=by omega
  simp[this]
 |n+1,s,b,hn,h=>by
  by_cases c:1<b -s
  .have hm:=iI c
   rw[oE c,oE c,QH hs p x n s (mid s b) (by omega) (by omega),QH hs p x n (mid s b) b (by omega) (by omega)];cases e1:oF hs s (mid s b) with
   |none=>rfl|some q1=>
    cases e2:oF hs (mid s b) b with
    |none=>rfl|some q2=>obtain⟨_,a1,a2⟩:=tC hs n s (mid s b) (by omega) q1 e1;obtain⟨_,a3,a4⟩:=tC hs n (mid s b) b (by omega) q2 e2;have n1:(hs.set p x)[q1]?=hs[q1]?:=bR (by omega);have n2:(hs.set p x)[q2]?=hs[q2]?:=bR (by omega);simp only[J0,n1,n2]
  .rw[oh c,oh c]
   by_cases c2:s<b
   .have n1:(hs.set p x)[s]?=hs[s]?:=bR (by omega)
    rw[n1]
   .simp[c2]
theorem Xu:∀ (n s b:Nat),b -s<=n->s<=p->p<b->∀ x∈zu p s b,Mp s b x.1 x.2/\1<x.2 -x.1/\x.1<=p/\p<x.2
 |0,s,b,hn,h1,h2,x,hx=>by omega|n+1,s,b,hn,h1,h2,x,hx=>by
  rw[zu]at hx;by_cases c:1<b -s
  .have hm:=iI c
   rw[if_pos c]at hx;rcases aO.mp hx with rfl|hx
   .exact⟨.refl _ _,c,h1,h2⟩
   .by_cases q:p<mid s b
    .rw[if_pos q]at hx
     obtain⟨i,r⟩:=Xu n s (mid s b) (by omega) h1 q x hx;exact⟨.left c i,r⟩
    .rw[if_neg q]at hx
     obtain⟨i,r⟩:=Xu n (mid s b) b (by omega) (by omega) h2 x hx;exact⟨.right c i,r⟩
  .rw[if_neg c]at hx;simp at hx
theorem ajS (h:Mp s b s' b') (hp:s'<=p/\p<b') (hh:1<b' -s'):(s',b')∈zu p s b:=by
 induction h with
 |refl s b=>rw[zu,if_pos hh];simp|left h i ih=>have:=i.sub;rw[zu,if_pos h,if_pos (by omega)];exact jZ _ (ih hp hh)|right h i ih=>have:=i.sub;rw[zu,if_pos h,if_neg (by omega)];exact jZ _ (ih hp hh)
theorem Bt (p:Nat):∀ (n s b:Nat),b -s<=n->(zu p s b).length<=b -s
 |0,s,b,hn=>by rw[zu,if_neg (by omega)];simp|n+1,s,b,hn=>by
  rw[zu];by_cases c:1<b -s
  .have hm:=iI c
   rw[if_pos c];by_cases q:p<mid s b
   .rw[if_pos q];have:=Bt p n s (mid s b) (by omega);simp;omega
   .rw[if_neg q];have:=Bt p n (mid s b) b (by omega);simp;omega
  .rw[if_neg c];simp
theorem J3 (p:Nat):∀ (n s b:Nat),b -s<=n->(zu p s b).Pairwise (fun x y=>y.2 -y.1<x.2 -x.1)/\∀ x∈zu p s b,x.2 -x.1<=b -s
 |0,s,b,hn=>by rw[zu,if_neg (by omega)];simp|n+1,s,b,hn=>by
  rw[zu];by_cases c:1<b -s
  .have hm:=iI c
   rw[if_pos c];by_cases q:p<mid s b
   .rw[if_pos q]
    obtain⟨h1,h2⟩:=J3 p n s (mid s b) (by omega);refine⟨pR.mpr ⟨fun y hy=>?_,h1⟩,fun x hx=>?_⟩
    .have:=h2 y hy;show y.2 -y.1<b -s;omega
    .rcases aO.mp hx with rfl|hx
     .exact aL _
     .have:=h2 x hx;omega
   .rw[if_neg q]
    obtain⟨h1,h2⟩:=J3 p n (mid s b) b (by omega);refine⟨pR.mpr ⟨fun y hy=>?_,h1⟩,fun x hx=>?_⟩
    .have:=h2 y hy;show y.2 -y.1<b -s;omega
    .rcases aO.mp hx with rfl|hx
     .exact aL _
     .have:=h2 x hx;omega
  .rw[if_neg c];simp
def Fr (S:List Nat) (μ μ':Mem):Prop:=μ.length<=μ'.length/\∀ m,m<μ.length->m∉S->μ'[m]?=μ[m]?
theorem Fr.refl {S:List Nat} {μ:Mem}:Fr S μ μ:=⟨aL _,fun _ _ _=>rfl⟩
theorem Fr.trans {S:List Nat} {μ μ' TY:Mem} (a:Fr S μ μ') (b:Fr S μ' TY):Fr S μ TY:=
 ⟨jc a.1 b.1,fun m hm hs=>(b.2 m (fM hm a.1) hs).trans (a.2 m hm hs)⟩
theorem Fr.more {S S':List Nat} {μ μ':Mem} (a:Fr S μ μ') (h:∀ m∈S,m∈S'):Fr S' μ μ':=⟨a.1,fun m hm hs=>a.2 m hm fun z=>hs (h m z)⟩
theorem Fr.set {S:List Nat} {μ:Mem} {n:Nat} {c:Cell} (h:n∈S):Fr S μ (μ.set n c):=⟨by simp,fun m _ hs=>bR fun e=>hs (by subst e;exact h)⟩
theorem Fr.app {S:List Nat} {μ ν:Mem}:Fr S μ (μ++ν):=⟨by simp,fun m hm _=>cL hm⟩
noncomputable abbrev WF:=Nat->Nat->Option (Option Nat)
structure Fe (μ:Mem) (o h w:Nat) (hs:List Hd) (f:WF) (n:Int):Prop where
 at_:μ[o]?=some (.ins "Contest" [("heads",.loc h),("winners",.loc w),("played",.int n)])
 hd:μ[h]?=some (.lst (hs.map hdD))
 wn:∃ ks ds,μ[w]?=some (.Jz ks ds)/\ks.length=ds.length/\(ks.length:Int)<=n/\∀ s b:Nat,fY ks ds [.inl (s:Int),.inl (b:Int)]=(f s b).map o9
 ne:o≠h/\o≠w/\h≠w
def Alw (hs:List Hd) (f:WF):Prop:=∀ s b,Mp 0 hs.length s b->1<b -s->f s b=some (oF hs s b)
def Zf (f:WF) (s b:Nat) (v:Option Nat):WF:=fun s' b'=>if s'=s/\b'=b then some v else f s' b'
theorem aB {μ:Mem} {n:Nat} {c:Cell} (h:μ[n]?=some c):n<μ.length:=(cF.mp h).1
theorem Fe.fr {μ μ':Mem} {o h w:Nat} {hs:List Hd} {f:WF} {n:Int} {S:List Nat} (C:Fe μ o h w hs f n) (F:Fr S μ μ') (ho:o∉S) (hh:h∉S) (hw:w∉S):Fe μ' o h w hs f n:=by obtain⟨ks,ds,k1,k2⟩:=C.wn;exact⟨(F.2 o (aB C.at_) ho).trans C.at_,(F.2 h (aB C.hd) hh).trans C.hd,⟨ks,ds,(F.2 w (aB k1) hw).trans k1,k2⟩,C.ne⟩
theorem aam [DecidableEq κ] (k:κ) (d:D):∀ (ks:List κ) (ds:List D),ks.length=ds.length->∀ k',fY (jx ks k) (nR ks ds k d) k'=if k'=k then some d else fY ks ds k':=by
 have rep:∀ (ks:List κ) (ds:List D),ks.length=ds.length->∀ k',fY ks (abJ (fun q d'=>if q=k then d else d') ks ds) k'=if k'=k/\k∈ks then some d else fY ks ds k':=by
  intro ks;induction ks with
  |nil=>intro ds _ k';simp[fY]|cons q ks ih=>
   intro ds hl k';cases ds with
   |nil=>simp at hl|cons d' ds=>
    simp only[adp,fY];by_cases c:q=k'
    .subst c
     by_cases c2:q=k
     .subst c2;simp
     .simp[c2]
    .rw[if_neg c,if_neg c,ih ds (by simpa using hl) k']
     by_cases c2:k'=k
     .subst c2
      (have:(k'∈q::ks)<->k'∈ks:=by simp[bN c]);simp[this]
     .simp[c2]
 have app:∀ (ks:List κ) (ds:List D),ks.length=ds.length->k∉ks->∀ k',fY (ks++[k]) (ds++[d]) k'=if k'=k then some d else fY ks ds k':=by
  intro ks;induction ks with
  |nil=>
   intro ds hl _ k';cases ds with
   |nil=>
    simp only[aZ,fY];by_cases c:k=k'
    .subst c;simp
    .rw[if_neg c,if_neg (bN c)]
   |cons _ _=>simp at hl
  |cons q ks ih=>
   intro ds hl hn k';cases ds with
   |nil=>simp at hl|cons d' ds=>
    simp only[aO,not_or]at hn;simp only[bG,fY];by_cases c:q=k'
    .subst c
     rw[if_pos rfl,if_pos rfl,if_neg (bN hn.1)]
    .rw[if_neg c,if_neg c]
     exact ih ds (by simpa using hl) hn.2 k'
 intro ks ds hl k';unfold jx nR;by_cases c:k∈ks
 .rw[if_pos c,if_pos c,rep ks ds hl k']
  by_cases c2:k'=k
  .simp[c2,c]
  .simp[c2]
 .rw[if_neg c,if_neg c]
  exact app ks ds hl c k'
theorem Td [DecidableEq κ] (k:κ) (d:D) (ks:List κ) (ds:List D) (hl:ks.length=ds.length):(jx ks k).length=(nR ks ds k d).length/\(jx ks k).length<=ks.length+1:=by
 unfold jx nR;split
 .simp[hl]
 .simp[hl]
def aR (q:Nat):D:=.int (q:Int)
def wv (hs:List Hd) (f:WF) (s b:Nat):Option Nat:=if 1<b -s then(f s b).getD none else oF hs s b
def cQ:dZ:=fun ds μ Q=>match ds with|[.int i,.int n]=>Q (.bl (decide (0<=i/\i<n))) μ|_=>False
def zJ:dZ:=fun ds μ Q=>∃ s b:Nat,ds=[aR s,aR b]/\s<=b/\Q (aR (mid s b)) μ
def oH:dZ:=fun ds μ Q=>∃ p m:Nat,ds=[aR p,aR m]/\p<m/\m<=1000/\Q (.lst ((zu p 0 m).map Rj)) (μ++[.gone])
def f9:dZ:=fun ds μ Q=>∃ (o h w:Nat) (hs:List Hd) (f:WF) (n:Int) (p:Nat),ds=[.loc o,aR p]/\Fe μ o h w hs f n/\p<hs.length/\Q .non μ
def gU:dZ:=fun ds μ Q=>∃ (o h w:Nat) (hs:List Hd) (f:WF) (n:Int) (s b:Nat),ds=[.loc o,aR s,aR b]/\Fe μ o h w hs f n/\s<=b/\b<=hs.length/\hs.length<=1000/\(1<b -s->∃ v,f s b=some v)/\Q (o9 (wv hs f s b)) μ
def pI:dZ:=fun ds μ Q=>∃ (o h w:Nat) (hs:List Hd) (f:WF) (n:Int) (l r:Option Nat),ds=[.loc o,o9 l,o9 r]/\Fe μ o h w hs f n/\(∀ p,l=some p->Is hs p)/\(∀ p,r=some p->Is hs p)/\Q (o9 (J0 hs l r)) μ
def m9:dZ:=fun ds μ Q=>∃ (o h w:Nat) (hs:List Hd) (f:WF) (n:Int) (s b:Nat),ds=[.loc o,aR s,aR b]/\Fe μ o h w hs f n/\1<b -s/\b<=hs.length/\hs.length<=1000/\n<10000/\
 (1<mid s b -s->f s (mid s b)=some (oF hs s (mid s b)))/\(1<b -mid s b->f (mid s b) b=some (oF hs (mid s b) b))/\∀ μ',Fr [o,w] μ μ'->Fe μ' o h w hs (Zf f s b (oF hs s b)) (n+1)->Q .non μ'
def cA (d:Nat):dZ:=fun ds μ Q=>∃ (o h w:Nat) (hs:List Hd) (f:WF) (n:Int) (s b:Nat),ds=[.loc o,aR s,aR b]/\Fe μ o h w hs f n/\b -s<=2 ^ d/\s<=b/\b<=hs.length/\hs.length<=1000/\n+((b -s:Nat):Int)<10000/\
 ∀ μ' f',Fr [o,w] μ μ'->Fe μ' o h w hs f' (n+((b -s -1:Nat):Int))->(∀ s' b',Mp s b s' b'->1<b' -s'->f' s' b'=some (oF hs s' b'))->(∀ s' b',¬(s<=s'/\b'<=b)->f' s' b'=f s' b')->Q .non μ'
def tG:dZ:=fun ds μ Q=>∃ (o:Nat) (hs:List Hd),ds=[.loc o,.lst (hs.map hdD)]/\μ[o]?=some (.ins "Contest" [])/\hs.length<=64/\
 ∀ μ' h w f,Fr [o] μ μ'->Fe μ' o h w hs f ((hs.length -1:Nat):Int)->Alw hs f->μ.length<=h->μ.length<=w->Q .non μ'
def lU:dZ:=fun ds μ Q=>∃ (o h w:Nat) (hs:List Hd) (f:WF) (n:Int),ds=[.loc o]/\Fe μ o h w hs f n/\Alw hs f/\hs.length<=64/\Q (o9 (oF hs 0 hs.length)) μ
def tH:dZ:=fun ds μ Q=>∃ (o h w:Nat) (hs:List Hd) (f:WF) (n:Int) (p:Nat) (x:Hd),ds=[.loc o,aR p]/\Fe μ o h w hs f n/\hs[p]?=some x/\Q (hdD x) μ
def uD:dZ:=fun ds μ Q=>∃ (o h w:Nat) (hs:List Hd) (f:WF) (n:Int) (p:Nat) (x:Hd),ds=[.loc o,aR p,hdD x]/\Fe μ o h w hs f n/\Alw hs f/\p<hs.length/\hs.length<=64/\n<5000/\
 ∀ μ' f',Fr [o,h,w] μ μ'->Fe μ' o h w (hs.set p x) f' (n+((zu p 0 hs.length).length:Int))->Alw (hs.set p x) f'->Q .non μ'
def Ym:List Str:=["start","behind"]
def YD:Ss:=(.cons (.ret (.bin .Add (.var 0) (.bin .FloorDiv (.bin .Add (.bin .Sub (.var 1) (.var 0)) (.cst (.int 1))) (.cst (.int 2))))) .nil)
def pW:List Str:=["place","many","told","start","behind","middle"]
def p7:Ss:=(.cons (.set 2 (.lst true .nil)) (.cons (.set 3 (.cst (.int 0))) (.cons (.set 4 (.var 1)) (.cons (.whl (.cmp .Gt (.bin .Sub (.var 4) (.var 3)) (.cst (.int 1))) (.cons (.exp (.meth "append" (.var 2) (.cons (.tup (.cons (.var 3) (.cons (.var 4) .nil))) .nil))) (.cons (.set 5 (.call "midst" zJ (.cons (.var 3) (.cons (.var 4) .nil)))) (.cons (.ite (.cmp .Lt (.var 0) (.var 5)) (.cons (.set 4 (.var 5)) .nil) (.cons (.set 3 (.var 5)) .nil)) .nil)))) (.cons (.ret (.frz (.var 2))) .nil)))))
def u9:List Str:=["self","heads"]
def vC:Ss:=(.cons (.wg "Contest" "heads" (.var 0) (.blt "mlist" (.cons (.var 1) .nil))) (.cons (.wg "Contest" "winners" (.var 0) (.aal true)) (.cons (.wg "Contest" "played" (.var 0) (.cst (.int 0))) (.cons (.exp (.pA "Contest" "play_all" (cA 6) (.var 0) (.cons (.cst (.int 0)) (.cons (.blt "len" (.cons (.fld "Contest" "heads" (.var 0)) .nil)) .nil)))) .nil))))
def tR:List Str:=["self"]
def tV:Ss:=(.cons (.ret (.pA "Contest" "winner" gU (.var 0) (.cons (.cst (.int 0)) (.cons (.blt "len" (.cons (.fld "Contest" "heads" (.var 0)) .nil)) .nil)))) .nil)
def vd:List Str:=["self","place"]
def vD:Ss:=(.cons (.exp (.pA "Contest" "check_place" f9 (.var 0) (.cons (.var 1) .nil))) (.cons (.ret (.idx (.fld "Contest" "heads" (.var 0)) (.var 1))) .nil))
def xg:List Str:=["self","place","head","start","behind"]
def xH:Ss:=(.cons (.exp (.pA "Contest" "check_place" f9 (.var 0) (.cons (.var 1) .nil))) (.cons (.wR (.fld "Contest" "heads" (.var 0)) (.var 1) (.var 2)) (.cons (.for_ [3,4] true (.rvd (.call "stretches_above" oH (.cons (.var 1) (.cons (.blt "len" (.cons (.fld "Contest" "heads" (.var 0)) .nil)) .nil)))) (.cons (.exp (.pA "Contest" "play" m9 (.var 0) (.cons (.var 3) (.cons (.var 4) .nil)))) .nil)) .nil)))
def lF:List Str:=["self","thing"]
def lK:Ss:=(.cons (.ite (.not (.call "is_below" cQ (.cons (.var 1) (.cons (.blt "len" (.cons (.fld "Contest" "heads" (.var 0)) .nil)) .nil)))) (.cons .Yk .nil) .nil) .nil)
def gw:List Str:=["self","start","behind","middle"]
def gA (d:Nat):Ss:=(.cons (.ite (.cmp .Gt (.bin .Sub (.var 2) (.var 1)) (.cst (.int 1))) (.cons (.set 3 (.call "midst" zJ (.cons (.var 1) (.cons (.var 2) .nil)))) (.cons (.exp (.pA "Contest" "play_all" (spP cA d) (.var 0) (.cons (.var 1) (.cons (.var 3) .nil)))) (.cons (.exp (.pA "Contest" "play_all" (spP cA d) (.var 0) (.cons (.var 3) (.cons (.var 2) .nil)))) (.cons (.exp (.pA "Contest" "play" m9 (.var 0) (.cons (.var 1) (.cons (.var 2) .nil)))) .nil)))) .nil) .nil)
def u6:List Str:=["self","start","behind","middle"]
def vB:Ss:=(.cons (.set 3 (.call "midst" zJ (.cons (.var 1) (.cons (.var 2) .nil)))) (.cons (.dput (.fld "Contest" "winners" (.var 0)) (.tup (.cons (.var 1) (.cons (.var 2) .nil))) (.pA "Contest" "better" pI (.var 0) (.cons (.pA "Contest" "winner" gU (.var 0) (.cons (.var 1) (.cons (.var 3) .nil))) (.cons (.pA "Contest" "winner" gU (.var 0) (.cons (.var 3) (.cons (.var 2) .nil))) .nil)))) (.cons (.Xo "Contest" "played" .Add (.var 0) (.cst (.int 1))) .nil)))
def qQ:List Str:=["self","start","behind","alone"]
def qY:Ss:=(.cons (.ite (.cmp .Gt (.bin .Sub (.var 2) (.var 1)) (.cst (.int 1))) (.cons (.ret (.aan (.fld "Contest" "winners" (.var 0)) (.tup (.cons (.var 1) (.cons (.var 2) .nil))))) .nil) .nil) (.cons (.set 3 (.comp false 1 false [0] (.var 0) (.rng (.cons (.var 1) (.cons (.var 2) .nil))) (.cons (.cmp .IsNot (.idx (.fld "Contest" "heads" (.var 1)) (.var 0)) (.cst .non)) .nil))) (.cons (.ret (.ife (.var 3) (.idx (.var 3) (.cst (.int 0))) (.cst .non))) .nil)))
def iU:List Str:=["self","left","right"]
def iW:Ss:=(.cons (.ite (.or (.cmp .Is (.var 1) (.cst .non)) (.cmp .Is (.var 2) (.cst .non))) (.cons (.ret (.ife (.cmp .Is (.var 1) (.cst .non)) (.var 2) (.var 1))) .nil) .nil) (.cons (.ret (.ife (.call "less" FJ (.cons (.idx (.fld "Contest" "heads" (.var 0)) (.var 2)) (.cons (.idx (.fld "Contest" "heads" (.var 0)) (.var 1)) .nil))) (.var 2) (.var 1))) .nil))
theorem agR {s b:Nat} (h:s<=b):(s:Int)+((b:Int) -(s:Int)+1)/2=(mid s b:Nat):=by unfold mid;omega
theorem ag0:Keeps Ym YD zJ:=by rintro ds μ Q ⟨s,b,rfl,hs,h⟩;simp[YD,Ym,aF,cC,wSs,wS,wE,wEs,lq,aR,Mr];rw[agR hs];exact h
theorem Ak:Keeps pW p7 oH:=by
 rintro ds μ Q ⟨p,m,rfl,hp,hm,h⟩;simp only[p7,pW,aF,cC,wSs,wS,wE,wEs,newL,aW,bh,aY,bB,bG,aZ,aG,aJ];refine⟨by decide,?_⟩;refine⟨fun k ρ μ'=>∃ (acc:List (Nat×Nat)) (s b:Nat) (a:Option D),k=b -s/\s<=p/\p<b/\b<=m/\acc++zu p s b=zu p 0 m/\μ'=μ++[.lst (acc.map Rj)]/\ρ=[some (aR p),some (aR m),some (.loc μ.length),some (aR s),some (aR b),a],⟨m,[],0,m,none,by omega,by omega,hp,by omega,by simp,rfl,rfl⟩,?_⟩;rintro k ρ μ' ⟨acc,s,b,a,rfl,h1,h2,h3,he,rfl,rfl⟩;simp[wT,wE,wEs,lq,dh,gZ,aR];by_cases c:1<b -s
 .have c':(1:Int)<(b:Int) -(s:Int):=by omega
  have hmd:=iI c;rw[if_pos c'];have hl:acc.length<1000:=by have:=Bt p m 0 m (by omega);rw[<-he,zu,if_pos c]at this;simp at this;omega
  simp[wS,wSs,wE,wEs,isCell,dU,bY,lim];refine⟨by omega,s,b,rfl,by omega,?_⟩;have e1:acc++[(s,b)]++(if p<mid s b then zu p s (mid s b)else zu p (mid s b) b)=zu p 0 m:=by rw[<-he];rw[zu.eq_1 p s b,if_pos c];simp
  by_cases q:p<mid s b
  .have q':(p:Int)<(mid s b:Int):=by omega
   rw[if_pos q]at e1;simp[aR,Et,wT,wE,dh,gZ,q'];exact⟨mid s b -s,by omega,acc++[(s,b)],s,mid s b,by omega,by omega,q,by omega,e1,by simp[Rj],rfl,rfl⟩
  .have q':¬(p:Int)<(mid s b:Int):=by omega
   rw[if_neg q]at e1;simp[aR,Et,wT,wE,dh,gZ,q'];exact⟨b -mid s b,by omega,acc++[(s,b)],mid s b,b,by omega,by omega,h2,by omega,e1,by simp[Rj],rfl,rfl⟩
 .have c':¬(1:Int)<(b:Int) -(s:Int):=by omega
  rw[if_neg c'];rw[zu,if_neg c]at he;simp at he;subst he;simpa[Q8]using h
theorem Fe.ins {μ:Mem} {o h w:Nat} {hs:List Hd} {f:WF} {n:Int} (C:Fe μ o h w hs f n):jP μ "Contest" (.loc o)=some (o,[("heads",.loc h),("winners",.loc w),("played",.int n)]):=by simp[jP,C.at_]
theorem tY:Keeps lF lK f9:=by rintro ds μ Q ⟨o,h,w,hs,f,n,p,rfl,C,hp,q⟩;simpa[lK,lF,aF,cC,wSs,wS,wT,wE,wEs,bM,lenOf,au,jg,C.ins,bW,C.hd,cQ,aR,iu,truth,hp]using q
theorem Ja:Keeps vd vD tH:=by rintro ds μ Q ⟨o,h,w,hs,f,n,p,x,rfl,C,hx,q⟩;have hp:p<hs.length:=(cF.mp hx).1;simp only[vD,vd,aF,cC,wSs,wS,wE,wEs,aW,bh,aY,bB,bG,aZ,aG,aJ];refine⟨by simp[je,C.ins,bW],o,h,w,hs,f,n,p,rfl,C,hp,?_⟩;simp[jg,C.ins,bW,d7,aR,au,C.hd,dI hp,hx];exact q
theorem Dk:Keeps qQ qY gU:=by
 rintro ds μ Q ⟨o,h,w,hs,f,n,s,b,rfl,C,sb,bl,hl,hf,q⟩;simp[qY,qQ,aF,cC,wSs,wS,wT,wE,wEs,lq,dh,gZ,aR];by_cases c:1<b -s
 .have c':(1:Int)<(b:Int) -(s:Int):=by omega
  obtain⟨v,hv⟩:=hf c;obtain⟨ks,ds,k1,k2,k3,k4⟩:=C.wn;rw[if_pos c'];have k5:=k4 s b;rw[hv]at k5;simp[jg,C.ins,bW,Rb,k1,lH,Fo,k5,lim];simpa[wv,c,hv]using q
 .have c':¬(1:Int)<(b:Int) -(s:Int):=by omega
  rw[if_neg c'];simp only[wv,if_neg c,oh c]at q;simp[wI,wE,wEs,qC,jf,lim];refine⟨by omega,?_⟩;by_cases c2:s<b
  .have e:b -s=1:=by omega
   (have hs1:s<hs.length:=by omega);have e2:hs[s]?=some hs[s]:=bI hs1;rw[e];simp[jh,jJ,bindC,wTs,wT,wE,jg,C.ins,bW,d7,au,C.hd,dI hs1,hs1,dh,gZ];cases hx:hs[s] with
   |none=>simp[e2,hx]at q;simpa[hdD,tU,newL,iu,truth,lenOf,au,o9]using q|some x=>simp[e2,hx,c2]at q;simpa[hdD,bH,tU,newL,iu,truth,lenOf,au,o9,d7,pG]using q
  .have e:b -s=0:=by omega
   rw[e];simp[c2]at q;simpa[jh,jJ,newL,iu,truth,lenOf,au,o9]using q
theorem Dm:Keeps iU iW pI:=by
 rintro ds μ Q ⟨o,h,w,hs,f,n,l,r,rfl,C,hl,hr,q⟩;cases l with
 |none=>simpa[iW,iU,aF,cC,wSs,wS,wT,wE,wEs,dh,gZ,o9,tU,J0]using q|some p=>
  cases r with
  |none=>simpa[iW,iU,aF,cC,wSs,wS,wT,wE,wEs,dh,gZ,o9,tU,J0]using q|some p2=>
   obtain⟨x,hx⟩:=hl p rfl;obtain⟨y,hy⟩:=hr p2 rfl;have h1:p<hs.length:=(cF.mp hx).1;have h2:p2<hs.length:=(cF.mp hy).1;simp[iW,iU,aF,cC,wSs,wS,wT,wE,wEs,dh,gZ,o9,tU,jg,C.ins,bW,d7,au,C.hd,dI h1,dI h2,hx,hy,hdD];refine⟨y,x,rfl,?_⟩;simp only[J0,hx,hy,pP]at q;by_cases c:lG y x=true
   .simpa[c,iu,truth,o9]using q
   .simpa[c,iu,truth,o9]using q
theorem ahm {μ:Mem} {o h w:Nat} {hs:List Hd} {f:WF} {n:Int} (C:Fe μ o h w hs f n) {ks:List (List nF)} {ds:List D} (hw:μ[w]?=some (.Jz ks ds)) (hl:ks.length=ds.length) (hn:(ks.length:Int)<=n) (hk:∀ s b:Nat,fY ks ds [.inl (s:Int),.inl (b:Int)]=(f s b).map o9) (s b:Nat) (v:Option Nat):
  Fe ((μ.set w (.Jz (jx ks [.inl (s:Int),.inl (b:Int)]) (nR ks ds [.inl (s:Int),.inl (b:Int)] (o9 v)))).set o (.ins "Contest" [("heads",.loc h),("winners",.loc w),("played",.int (n+1))])) o h w hs (Zf f s b v) (n+1):=by
 obtain⟨n1,n2,n3⟩:=C.ne;have l1:=aB C.at_;have l3:=aB hw;refine⟨by simp[l1],?_,⟨jx ks [.inl (s:Int),.inl (b:Int)],nR ks ds [.inl (s:Int),.inl (b:Int)] (o9 v),?_,(Td _ _ _ _ hl).1,?_,fun s' b'=>?_⟩,C.ne⟩
 .rw[bR n1,bR (bN n3)];exact C.hd
 .rw[bR n2];simp[l3]
 .have:=(Td [rN (s:Int),rN (b:Int)] (o9 v) ks ds hl).2;omega
 .rw[aam _ _ ks ds hl,hk s' b']
  unfold Zf;by_cases c:s'=s/\b'=b
  .obtain⟨rfl,rfl⟩:=c;simp
  .rw[if_neg c,if_neg]
   intro e;apply c;simp at e;omega
theorem I8:Keeps u6 vB m9:=by
 rintro ds μ Q ⟨o,h,w,hs,f,n,s,b,rfl,C,hsb,hb,hl,hn,f1,f2,q⟩;have hm:=iI hsb;obtain⟨ks,ds,k1,k2,k3,k4⟩:=C.wn;simp only[vB,u6,aF,cC,wSs,wS,wE,wEs,aW,bh,aY,bB,bG,aZ,aG,aJ];refine⟨s,b,rfl,by omega,?_⟩;have w1:wv hs f s (mid s b)=oF hs s (mid s b):=by
  unfold wv;split
  .rename_i c;rw[f1 c];rfl
  .rfl
 have w2:wv hs f (mid s b) b=oF hs (mid s b) b:=by
  unfold wv;split
  .rename_i c;rw[f2 c];rfl
  .rfl
 have isI:∀ m,bW m [("heads",D.loc h),("winners",D.loc w),("played",D.int n)]=none->je μ "Contest" m (.loc o):=fun m hm=>by simp[je,C.ins,hm]
 simp only[bC,bD,aJ,aG,aV];simp;refine⟨isI _ (by simp[bW]),isI _ (by simp[bW]),?_⟩;refine⟨o,h,w,hs,f,n,s,mid s b,rfl,C,by omega,by omega,hl,fun c=>⟨_,f1 c⟩,?_⟩;rw[w1];refine⟨isI _ (by simp[bW]),?_⟩;refine⟨o,h,w,hs,f,n,mid s b,b,rfl,C,by omega,by omega,hl,fun c=>⟨_,f2 c⟩,?_⟩;rw[w2];refine⟨o,h,w,hs,f,n,_,_,rfl,C,fun p e=>(tC hs (mid s b -s) s (mid s b) (aL _) p e).1,fun p e=>(tC hs (b -mid s b) (mid s b) b (aL _) p e).1,?_⟩;rw[<-oE hsb];have C2:=ahm C k1 k2 k3 k4 s b (oF hs s b);obtain⟨n1,n2,n3⟩:=C.ne;have amH:jP (μ.set w (.Jz (jx ks [.inl (s:Int),.inl (b:Int)]) (nR ks ds [.inl (s:Int),.inl (b:Int)] (o9 (oF hs s b))))) "Contest" (.loc o)=some (o,[("heads",.loc h),("winners",.loc w),("played",.int n)]):=by have:(μ.set w (Cell.Jz (jx ks [.inl (s:Int),.inl (b:Int)]) (nR ks ds [.inl (s:Int),.inl (b:Int)] (o9 (oF hs s b)))))[o]?=μ[o]?:=bR (bN n2);simp[jP,this,C.at_]
 simp[jg,C.ins,bW,Ra,k1,lH,Fo,aR,lim];refine⟨by omega,?_⟩;simp[amH,bW,uf,mK,putD];refine q _ ?_ C2;exact(Fr.set (by simp)).trans (Fr.set (by simp))
theorem Fp:Keeps tR tV lU:=by
 rintro ds μ Q ⟨o,h,w,hs,f,n,rfl,C,A,hl,q⟩;simp only[tV,tR,aF,cC,wSs,wS,wE,wEs,aW,bh,aY,bB,bG,aZ,aG];refine⟨by simp[je,C.ins,bW],?_⟩;simp[jg,C.ins,bW,bM,lenOf,au,C.hd];refine⟨o,h,w,hs,f,n,0,hs.length,rfl,C,by omega,by omega,by omega,fun c=>⟨_,A _ _ (.refl _ _) c⟩,?_⟩;have e:wv hs f 0 hs.length=oF hs 0 hs.length:=by
  unfold wv;split
  .rename_i c;rw[A _ _ (.refl _ _) c];rfl
  .rfl
 rw[e];exact q
theorem yZ (d:Nat):Keeps gw (gA d) (cA d):=by
 rintro ds μ Q ⟨o,h,w,hs,f,n,s,b,rfl,C,hd,sb,hb,hl,hn,q⟩;have isI:∀ {μ f n} m,Fe μ o h w hs f n->bW m [("heads",D.loc h),("winners",D.loc w),("played",D.int n)]=none->je μ "Contest" m (.loc o):=fun m C hm=>by simp[je,C.ins,hm]
 obtain⟨ne1,ne2,ne3⟩:=C.ne;simp[gA,gw,aF,cC,wSs,wS,wT,wE,wEs,lq,dh,gZ,aR];by_cases c:1<b -s
 .have c':(1:Int)<(b:Int) -(s:Int):=by omega
  have hm:=iI c;rw[if_pos c'];refine⟨s,b,rfl,by omega,isI _ C (by simp[bW]),?_⟩;cases d with
  |zero=>omega|succ d=>
   (have h2:2 ^ (d+1)=2*2 ^ d:=by rw[Nat.pow_succ];omega);(have h3:mid s b -s<=2 ^ d/\b -mid s b<=2 ^ d:=by unfold mid;omega);refine⟨o,h,w,hs,f,n,s,mid s b,rfl,C,h3.1,by omega,by omega,hl,by omega,fun μ1 f1 F1 C1 a1 b1=>?_⟩;refine⟨isI _ C1 (by simp[bW]),?_⟩;refine⟨o,h,w,hs,f1,_,mid s b,b,rfl,C1,h3.2,by omega,by omega,hl,by omega,fun μ2 f2 F2 C2 a2 b2=>?_⟩;refine⟨isI _ C2 (by simp[bW]),?_⟩;have l1:1<mid s b -s->f2 s (mid s b)=some (oF hs s (mid s b)):=fun c1=>by rw[b2 _ _ (by omega)];exact a1 _ _ (.refl _ _) c1
   refine⟨o,h,w,hs,f2,_,s,b,rfl,C2,c,hb,hl,by omega,l1,fun c1=>a2 _ _ (.refl _ _) c1,fun μ3 F3 C3=>?_⟩;refine q μ3 _ ((F1.trans F2).trans F3) (by (have e:n+((mid s b -s -1:Nat):Int)+((b -mid s b -1:Nat):Int)+1=n+((b -s -1:Nat):Int):=by omega);rw[e]at C3;exact C3) ?_ ?_
   .intro s' b' it c1
    unfold Zf;by_cases e:s'=s/\b'=b
    .rw[if_pos e,e.1,e.2]
    .rw[if_neg e]
     cases it with
     |refl=>exact absurd ⟨rfl,rfl⟩ e|left _ i=>have:=i.sub;rw[b2 _ _ (by omega)];exact a1 _ _ i c1|right _ i=>exact a2 _ _ i c1
   .intro s' b' hh
    unfold Zf;rw[if_neg (by rintro⟨rfl,rfl⟩;exact hh ⟨aL _,aL _⟩),b2 _ _ (by omega),b1 _ _ (by omega)]
 .have c':¬(1:Int)<(b:Int) -(s:Int):=by omega
  rw[if_neg c'];refine q μ f Fr.refl (by (have e:n+((b -s -1:Nat):Int)=n:=by omega);rw[e];exact C) (fun s' b' it c1=>?_) fun _ _ _=>rfl
  have:=it.sub;omega
theorem I9:Keeps u9 vC tG:=by
 rintro ds μ Q ⟨o,hs,rfl,ho,h2,q⟩;have lo:=aB ho;have e1:∀ ν:Mem,(μ++ν)[o]?=some (.ins "Contest" []):=fun ν=>by rw[cL lo];exact ho
 have st:∀ (ν:Mem) (c:Cell),((μ.set o c)++ν)[o]?=some c:=fun ν c=>by rw[cL (by simpa using lo)];simp[lo]
 simp[vC,u9,aF,cC,wSs,wS,wE,wEs,bM,au,newL,mK,jP,e1,putD];rw[OJ _ _ lo];simp[st];rw[OJ _ _ (by simpa using lo)];simp[st];rw[OJ _ _ (by simpa using lo)];have C:Fe (μ.set o (.ins "Contest" [("heads",.loc μ.length),("winners",.loc (μ.length+1)),("played",.int 0)])++[Cell.lst (hs.map hdD),Cell.Jz [] []]) o μ.length (μ.length+1) hs (fun _ _=>none) 0:=by
  refine⟨st _ _,?_,⟨[],[],?_,rfl,by simp,fun _ _=>by simp[fY]⟩,by omega,by omega,by omega⟩
  .rw[jt (by simp)];simp
  .rw[jt (by simp)];simp
 have p1:putD "winners" (D.loc (μ.length+1)) [("heads",D.loc μ.length)]=[("heads",.loc μ.length),("winners",.loc (μ.length+1))]:=by simp[putD]
 have p2:putD "played" (D.int 0) [("heads",D.loc μ.length),("winners",D.loc (μ.length+1))]=[("heads",.loc μ.length),("winners",.loc (μ.length+1)),("played",.int 0)]:=by simp[putD]
 rw[p1,p2];refine⟨by simp,by simp[je,C.ins,bW],?_⟩;simp[C.ins,bW,jg,lenOf,au,C.hd];refine⟨o,μ.length,μ.length+1,hs,_,0,0,hs.length,rfl,C,by omega,by omega,by omega,by omega,by omega,fun μ' f' F C' a b=>?_⟩;refine q μ' μ.length (μ.length+1) f' ?_ (by
  have e:(0:Int)+((hs.length -0 -1:Nat):Int)=((hs.length -1:Nat):Int):=by omega
  rw[e]at C';exact C') (fun s b it c=>a s b it c) (aL _) (yt _)
 refine⟨?_,fun m hm hS=>?_⟩
 .have:=F.1;simp at this;omega
 .have hS':m≠o:=by simpa using hS
  rw[F.2 m (by simp;omega) (by simp;omega),cL (by simpa using hm),bR (bN hS')]
theorem Ks:Keeps xg xH uD:=by
 rintro ds μ Q ⟨o,h,w,hs,f,n,p,x,rfl,C,A,hp,hl,hn,q⟩;obtain⟨ne1,ne2,ne3⟩:=C.ne;simp only[xH,xg,aF,cC,wSs,wS,wE,wEs,aW,bh,aY,bB,bG,aZ,aG,aJ];refine⟨by simp[je,C.ins,bW],o,h,w,hs,f,n,p,rfl,C,hp,?_⟩;have C1:Fe (μ.set h (.lst ((hs.set p x).map hdD))) o h w (hs.set p x) f n:=by
  obtain⟨ks,ds,k1,k2⟩:=C.wn;refine⟨?_,?_,⟨ks,ds,?_,k2⟩,C.ne⟩
  .rw[bR (bN ne1)];exact C.at_
  .simp[aB C.hd]
  .rw[bR ne3];exact k1
 have ajV:((hs.map hdD).set p (hdD x))=(hs.set p x).map hdD:=by rw[uN]
 have g1:bW "heads" [("heads",D.loc h),("winners",D.loc w),("played",D.int n)]=some (.loc h):=by simp[bW]
 have lm:(hs.map hdD).length=hs.length:=by simp
 simp only[jg,C.ins,g1,jU,aR,C.hd,lm,dI hp,ajV];simp only[wI,wE,wEs,jg,C1.ins,g1,bM,lenOf,au,C1.hd,aG,aJ,dz,aU,Vl];refine⟨p,hs.length,rfl,hp,by omega,?_⟩;simp only[afU,bU,au];have C2:Fe (μ.set h (.lst ((hs.set p x).map hdD))++[Cell.gone]) o h w (hs.set p x) f n:=C1.fr (S:=[]) Fr.app (by simp) (by simp) (by simp);have dsc:=(J3 p hs.length 0 hs.length (by omega)).1;have ain:=Xu (p:=p) hs.length 0 hs.length (by omega) (by omega) hp;have aoH:=Bt p hs.length 0 hs.length (by omega);have start:∀ s b,Mp 0 hs.length s b->1<b -s->(s,b)∉zu p 0 hs.length->f s b=some (oF (hs.set p x) s b):=fun s b it c hno=>by rw[QH hs p x (b -s) s b (aL _) fun z=>hno (ajS it z c)];exact A s b it c
 have er:(zu p 0 hs.length).reverse.map Rj=((zu p 0 hs.length).map Rj).reverse:=by simp
 rw[<-List.map_reverse];refine bK (fun ds ρ μ'=>∃ (l dn:List (Nat×Nat)) (f':WF) (a c:Option D),ds=l.map Rj/\l.reverse++dn=zu p 0 hs.length/\Fr [o,w] (μ.set h (.lst ((hs.set p x).map hdD))++[Cell.gone]) μ'/\Fe μ' o h w (hs.set p x) f' (n+(dn.length:Int))/\
  (∀ s b,Mp 0 hs.length s b->1<b -s->(s,b)∉l->f' s b=some (oF (hs.set p x) s b))/\ρ=[some (.loc o),some (.int (p:Int)),some (hdD x),a,c]) ?_ ?_ _ _ _ ⟨(zu p 0 hs.length).reverse,[],f,none,none,rfl,by simp,Fr.refl,by simpa using C2,fun s b it c hno=>start s b it c (by simpa using hno),rfl⟩
 .rintro d ds ρ μ1 N hN ⟨l,dn,f',a,c,e,hl2,F,C',al,rfl⟩
  cases l with
  |nil=>simp at e|cons y l=>
   obtain⟨s,b⟩:=y;simp only[aW,eH]at e;obtain⟨rfl,rfl⟩:=e;refine⟨by simp[bU,au],?_⟩;(have hmem:(s,b)∈zu p 0 hs.length:=by rw[<-hl2];simp);have it:Mp 0 hs.length s b:=(ain _ hmem).1;have sb:1<b -s:=(ain _ hmem).2.1;have hsub:=it.sub;have hm:=iI sb;have big:∀ y∈l,b -s<y.2 -y.1:=fun y hy=>by rw[<-hl2]at dsc;(have:(l.reverse++(s,b)::dn).Pairwise (fun x y=>y.2 -y.1<x.2 -x.1):=by simpa using dsc);exact(O1.mp this).2.2 y (by simpa using hy) (s,b) (by simp)
   simp[Rj,dg];refine⟨by simp[je,C'.ins,bW],?_⟩;(have hlen:(hs.set p x).length=hs.length:=by simp);have dl:dn.length<=64:=by have:=congrArg fK hl2;simp at this;omega
   refine⟨o,h,w,hs.set p x,f',_,s,b,rfl,C',sb,by omega,by omega,by omega,fun c1=>al _ _ (it.l sb) c1 ?_,fun c1=>al _ _ (it.r sb) c1 ?_,fun μ2 F2 C2'=>?_⟩
   .intro hmm
    rcases aO.mp hmm with e|hmm
    .simp only[Hw]at e;omega
    .have:=big _ hmm;simp only at this;omega
   .intro hmm
    rcases aO.mp hmm with e|hmm
    .simp only[Hw]at e;omega
    .have:=big _ hmm;simp only at this;omega
   .refine hN _ _ ⟨l,(s,b)::dn,_,_,_,rfl,by simpa using hl2,F.trans F2,by (have e:n+((dn.length:Nat):Int)+1=n+(((s,b)::dn).length:Int):=by simp;omega);rw[e]at C2';exact C2',fun s' b' it' c1 hno=>?_,rfl⟩
    unfold Zf;by_cases e:s'=s/\b'=b
    .rw[if_pos e,e.1,e.2]
    .rw[if_neg e]
     refine al s' b' it' c1 fun hmm=>?_;rcases aO.mp hmm with e2|hmm
     .simp only[Hw]at e2;exact e e2
     .exact hno hmm
 .rintro ρ μ1 ⟨l,dn,f',a,c,e,hl2,F,C',al,rfl⟩
  cases l with
  |cons y l=>simp at e|nil=>
   refine⟨by simp[bU,au],?_⟩;simp at hl2;subst hl2;refine q μ1 f' ?_ C' fun s b it c1=>al s b (by simpa using it) c1 (by simp);refine((Fr.set (S:=[o,h,w]) (by simp)).trans Fr.app).trans (F.more ?_);intro m hm;simp at hm ⊢;rcases hm with rfl|rfl
   .exact .inl rfl
   .exact .inr (.inr rfl)
def Bef (x:Itm) (p:Nat) (y:Itm) (q:Nat):Prop:=lG y x=false/\(lG x y=true∨p<q)
theorem vJ:∀ (n s b:Nat),b -s<=n->oF hs s b=none->∀ q,s<=q->q<b->¬Is hs q
 |0,s,b,hn,h,q,h1,h2=>by omega|n+1,s,b,hn,h,q,h1,h2=>by
  by_cases c:1<b -s
  .have hm:=iI c
   rw[oE c]at h;have hl:oF hs s (mid s b)=none/\oF hs (mid s b) b=none:=by
    cases e1:oF hs s (mid s b) with
    |none=>rw[e1]at h;exact⟨rfl,h⟩|some p1=>
     rw[e1]at h;cases e2:oF hs (mid s b) b with
     |none=>rw[e2]at h;cases h
     |some p2=>
      rw[e2]at h;simp only[J0]at h;split at h
      .split at h<;>cases h
      .cases h
   by_cases cq:q<mid s b
   .exact vJ n s (mid s b) (by omega) hl.1 q h1 cq
   .exact vJ n (mid s b) b (by omega) hl.2 q (by omega) h2
  .rw[oh c]at h
   (have e:q=s:=by omega);subst e;rintro⟨x,hx⟩;rw[if_pos ⟨by simp[hx],by omega⟩]at h;cases h
theorem tD:∀ (n s b:Nat),b -s<=n->∀ p,oF hs s b=some p->∀ q,s<=q->q<b->q≠p->∀ x y,hs[p]?=some (some x)->hs[q]?=some (some y)->Bef x p y q
 |0,s,b,hn,p,h,q,h1,h2,_,_,_,_,_=>by omega|n+1,s,b,hn,p,h,q,h1,h2,hqp,x,y,hx,hy=>by
  by_cases c:1<b -s
  .have hm:=iI c
   rw[oE c]at h;cases e1:oF hs s (mid s b) with
   |none=>
    rw[e1]at h;by_cases cq:q<mid s b
    .exact absurd ⟨y,hy⟩ (vJ n s (mid s b) (by omega) e1 q h1 cq)
    .exact tD n (mid s b) b (by omega) p h q (by omega) h2 hqp x y hx hy
   |some p1=>
    rw[e1]at h;cases e2:oF hs (mid s b) b with
    |none=>
     rw[e2]at h;cases h;by_cases cq:q<mid s b
     .exact tD n s (mid s b) (by omega) p e1 q h1 cq hqp x y hx hy
     .exact absurd ⟨y,hy⟩ (vJ n (mid s b) b (by omega) e2 q (by omega) h2)
    |some p2=>
     rw[e2]at h;obtain⟨⟨x1,hx1⟩,b1,b2⟩:=tC hs n s (mid s b) (by omega) p1 e1;obtain⟨⟨y2,hy2⟩,b3,b4⟩:=tC hs n (mid s b) b (by omega) p2 e2;simp only[J0,hx1,hy2,pP]at h;by_cases cc:lG y2 x1=true
     .rw[if_pos cc]at h
      cases h;rw[hy2]at hx;cases hx;by_cases cq:q<mid s b
      .have hle:lG y x1=false:=by
        by_cases e:q=p1
        .subst e;rw[hx1]at hy;cases hy;exact sV _
        .exact(tD n s (mid s b) (by omega) p1 e1 q h1 cq e x1 y hx1 hy).1
       have lt:lG x y=true:=by
        cases e:lG x y with
        |true=>rfl|false=>have:=jO x1 y x hle e;rw[cc]at this;cases this
       exact⟨Ai _ _ lt,.inl lt⟩
      .exact tD n (mid s b) b (by omega) p e2 q (by omega) h2 hqp x y hy2 hy
     .rw[if_neg cc]at h
      cases h;rw[hx1]at hx;cases hx;by_cases cq:q<mid s b
      .exact tD n s (mid s b) (by omega) p e1 q h1 cq hqp x y hx1 hy
      .have hle:lG y y2=false:=by
        by_cases e:q=p2
        .subst e;rw[hy2]at hy;cases hy;exact sV _
        .exact(tD n (mid s b) b (by omega) p2 e2 q (by omega) h2 e y2 y hy2 hy).1
       exact⟨jO x y2 y (by simpa using cc) hle,.inr (by omega)⟩
  .rw[oh c]at h
   split at h
   .rename_i z;cases h;omega
   .cases h
def Lc (d:D):Prop:=(∃ n,d= .loc n)∨∃ l,d= .lst l
theorem jV (h:Lc d) (hs:au μ d=some ds) (hi:pG ds.length i=some p) (hp:ds[p]?=some e):d7 d (.int i) μ Q=Q e μ:=by
 rcases h with⟨n,rfl⟩|⟨l,rfl⟩
 .simp[d7,hs,hi,hp]
 .simp[d7,hs,hi,hp]
theorem Fr.new {S:List Nat} {μ0 μ μ':Mem} (a:Fr [] μ0 μ) (b:Fr S μ μ') (h:∀ m∈S,μ0.length<=m):Fr [] μ0 μ' :=
 ⟨jc a.1 b.1,fun m hm _=>by rw[b.2 m (fM hm a.1) (fun z=>by have:=h m z;omega),a.2 m hm (by simp)]⟩
theorem Fr.agk {μ0 μ:Mem} {t:Nat} (a:Fr [] μ0 μ) (c:Cell) (h:μ0.length<=t):Fr [] μ0 (μ.set t c):=a.new (S:=[t]) (Fr.set (by simp)) (by simpa using h)
theorem Fr.Yc (a:Fr [] μ0 μ) (ν:Mem):Fr [] μ0 (μ++ν):=a.trans Fr.app
theorem Fr.get {μ0 μ:Mem} {i:Nat} {c:Cell} (a:Fr [] μ0 μ) (g:μ0[i]?=some c):μ[i]?=some c:=by rw[a.2 i (aB g) (by simp)];exact g
theorem Fr.seq {μ0 μ:Mem} {d:D} {es:List D} (a:Fr [] μ0 μ) (g:au μ0 d=some es):au μ d=some es:=by
 cases d with
 |loc n=>
  simp only[au]at g ⊢;split at g
  .rename_i q;rw[a.get q];exact g
  .cases g
 |_=>exact g
end DW.Mq
namespace DW.POU
open PySem DW DW.KQ DW.Mq
def rD (μ:Mem) (d:D) (r:List Itm):Prop:=Lc d/\au μ d=some (r.map bH)
def vK (μ:Mem) (d:D) (rs:List (List Itm)):Prop:=Lc d/\∃ es:List D,au μ d=some es/\es.length=rs.length/\∀ (i:Nat) (e:D) (r:List Itm),es[i]?=some e->rs[i]?=some r->rD μ e r
theorem rD.fr (h:rD μ0 d r) (a:Fr [] μ0 μ):rD μ d r:=⟨h.1,a.seq h.2⟩
theorem vK.fr (h:vK μ0 d rs) (a:Fr [] μ0 μ):vK μ d rs:=by obtain⟨h1,es,h2,h3,h4⟩:=h;exact⟨h1,es,a.seq h2,h3,fun i e r x y=>(h4 i e r x y).fr a⟩
theorem Um (μ:Mem) (rs:List (List Itm)):vK μ (.lst (cG rs)) rs:=by refine⟨.inr ⟨_,rfl⟩,cG rs,rfl,by simp[cG],fun i e r x y=>?_⟩;simp only[cG,fW,y,dz,nH]at x;subst x;exact⟨.inr ⟨_,rfl⟩,rfl⟩
theorem ajC (hl:Lc d) (h:au μ d=some es):bU μ d=some es:=by rcases hl with⟨n,rfl⟩|⟨l,rfl⟩<;>exact h
theorem WK (hl:Lc d) (h:au μ d=some es):lenOf μ d=some es.length:=by
 rcases hl with⟨n,rfl⟩|⟨l,rfl⟩
 .show Hh (·.length) (au μ (.loc n))=_;rw[h];rfl
 .show Hh (·.length) (au μ (.lst l))=_;rw[h];rfl
theorem XF {μ:Mem} {d:D} {es:List D} {Q:QI} (hl:Lc d) (h:au μ d=some es) (q:∀ g:Mem->Prop,(∀ μ',Fr [] μ μ'->g μ')->Q es g μ):kZ d μ Q:=by
 rcases hl with⟨n,rfl⟩|⟨l,rfl⟩
 .simp only[au]at h
  split at h
  .rename_i ds e
   cases h;simp only[kZ,e];exact q _ fun μ' F=>F.get e
  .cases h
 .simp only[au,nH]at h
  subst h;exact q _ fun _ _=>trivial
theorem MN (h:rD μ d r) (hk:k<r.length) (q:Q (bH r[k]) μ):d7 d (.int (k:Int)) μ Q:=by rw[jV h.1 h.2 (p:=k) (e:=bH r[k]) (by rw[aU];exact dI hk) (by simp[hk])];exact q
theorem abk (h:vK μ d rs) (hk:k<rs.length) (q:∀ e,rD μ e rs[k]->Q e μ):d7 d (.int (k:Int)) μ Q:=by
 obtain⟨h1,es,h2,h3,h4⟩:=h;have hk':k<es.length:=by omega
 rw[jV h1 h2 (p:=k) (e:=es[k]) (dI hk') (by simp[hk'])];exact q _ (h4 k _ _ (bI hk') (bI hk))
def hds (rs:List (List Itm)):List Hd:=rs.map List.head?
def wX:Nat->List (List Itm)->List (Itm×Nat)
 |0,_=>[]|n+1,rs=>match oF (hds rs) 0 (hds rs).length with|none=>[]|some p=>match rs[p]? with|some (x::t)=>(x,p)::wX n (rs.set p t)|_=>[]
def CV (rs:List (List Itm)):List (Itm×Nat):=wX rs.flatten.length rs
def CZ (rs:List (List Itm)):List Itm:=(CV rs).map (·.1)
def pTr (rs:List (List Itm)):List Nat:=(CV rs).map (·.2)
theorem JX (h:oF (hds rs) 0 (hds rs).length=some p):p<rs.length/\∃ x t,rs[p]?=some (x::t):=by
 obtain⟨⟨x,hx⟩,_,hp⟩:=tC _ _ 0 _ (aL _) p h;have hp':p<rs.length:=by simpa[hds]using hp
 refine⟨hp',?_⟩;simp only[hds,fW,bI hp',dz,nH]at hx;cases e:rs[p] with
 |nil=>rw[e]at hx;cases hx
 |cons y t=>exact⟨y,t,by rw[bI hp',e]⟩
theorem yR (h:oF (hds rs) 0 (hds rs).length=some p) (e:rs[p]?=some (x::t)):wX (n+1) rs=(x,p)::wX n (rs.set p t):=by rw[wX,h];simp only[e]
theorem yU (h:oF (hds rs) 0 (hds rs).length=none):wX n rs=[]:=by
 cases n with
 |zero=>rfl|succ n=>rw[wX,h]
theorem zL:∀ (rs:List (List Itm)) (p:Nat) (x:Itm) (t:List Itm),rs[p]?=some (x::t)->(rs.set p t).flatten.length+1=rs.flatten.length
 |[],p,x,t,h=>by simp at h|r::rs,0,x,t,h=>by simp only[aG,nH]at h;subst h;simp only[bD,oU,gV,aY];omega|r::rs,p+1,x,t,h=>by have:=zL rs p x t (by simpa using h);simp only[bC,oU,gV];omega
theorem ag7 (rs:List (List Itm)) (p:Nat) (t:List Itm):hds (rs.set p t)=(hds rs).set p t.head?:=by simp[hds,uN]
def Rst (rs rest:List (List Itm)) (tk:List Nat):Prop:=rest.length=rs.length/\tk.length=rs.length/\∀ (i:Nat) (r:List Itm),rs[i]?=some r->∃ k,tk[i]?=some k/\k<=r.length/\rest[i]?=some (r.drop k)
theorem Rst.start (rs:List (List Itm)):Rst rs rs (rs.map fun _=>0):=⟨rfl,by simp,fun i r h=>⟨0,by simp[h],iH _,by simpa using h⟩⟩
theorem Rst.step (R:Rst rs rest tk) (hp:p<rs.length) (e:rest[p]?=some (x::t)):
  ∃ k,tk[p]?=some k/\k<rs[p].length/\rs[p][k]?=some x/\rs[p][k+1]?=t.head?/\Rst rs (rest.set p t) (tk.set p (k+1)):=by
 obtain⟨R1,R2,R3⟩:=R;obtain⟨k,k1,k2,k3⟩:=R3 p _ (bI hp);rw[e]at k3;simp only[nH]at k3;have hk:k<rs[p].length:=by
  rcases dH k rs[p].length with q|q
  .exact q
  .rw[CQ q]at k3;cases k3
 have e1:rs[p].drop k=rs[p][k]::rs[p].drop (k+1):=zQ hk;rw[e1]at k3;simp only[eH]at k3;obtain⟨rfl,rfl⟩:=k3;refine⟨k,k1,hk,bI hk,by rw[ab2],by simpa using R1,by simpa using R2,fun i r h=>?_⟩;by_cases c:i=p
 .subst c
  rw[bI hp]at h;simp only[nH]at h;subst h;refine⟨k+1,?_,hk,?_⟩
  .rw[cT (by omega)]
  .rw[cT (by omega)]
 .obtain⟨k',a,b,c'⟩:=R3 i r h
  exact⟨k',by rw[bR (bN c)];exact a,b,by rw[bR (bN c)];exact c'⟩
def ur:dZ:=fun ds μ Q=>∃ (d:D) (r:List Itm),ds=[d]/\rD μ d r/\r.length<1000/\∀ b:Bool,(b=true<->Adj r)->Q (.bl b) μ
def mZ:dZ:=fun ds μ Q=>∃ (d:D) (rs:List (List Itm)),ds=[d]/\vK μ d rs/\(∀ r∈rs,Adj r/\r.length<1000)/\Q .non μ
def xV:dZ:=fun ds μ Q=>∃ (d:D) (r:List Itm) (k:Nat),ds=[d,aR k]/\rD μ d r/\Q (hdD r[k]?) μ
def X5:dZ:=fun ds μ Q=>∃ (d:D) (rs:List (List Itm)),ds=[d]/\vK μ d rs/\(∀ r∈rs,Adj r/\r.length<1000)/\rs.length<=64/\rs.length*(rs.flatten.length+1)<5000/\rs.flatten.length<5000/\
 ∀ (μ':Mem) (a b:Nat),Fr [] μ μ'->μ.length<=a->μ.length<=b->a≠b->μ'[a]?=some (.lst ((CZ rs).map bH))->μ'[b]?=some (.lst ((pTr rs).map aR))->Q (.tup [.loc a,.loc b]) μ'
def zX:List Str:=["row","place"]
def Av:Ss:=(.cons (.for_ [1] false (.rng (.cons (.cst (.int 1)) (.cons (.blt "len" (.cons (.var 0) .nil)) .nil))) (.cons (.ite (.call "less" FJ (.cons (.idx (.var 0) (.var 1)) (.cons (.idx (.var 0) (.bin .Sub (.var 1) (.cst (.int 1)))) .nil))) (.cons (.ret (.cst (.bl false))) .nil) .nil) .nil)) (.cons (.ret (.cst (.bl true))) .nil))
def u0:List Str:=["runs","at","run"]
def vq:Ss:=(.cons (.for_ [1,2] true (.enum (.var 0)) (.cons (.ite (.not (.call "rises" ur (.cons (.var 2) .nil))) (.cons .Yk .nil) .nil) .nil)) .nil)
def Lp:List Str:=["run","taken"]
def LK:Ss:=(.cons (.ret (.ife (.cmp .Lt (.var 1) (.blt "len" (.cons (.var 0) .nil))) (.idx (.var 0) (.var 1)) (.cst .non))) .nil)
def aeo:List Str:=["runs","taken","contest","row","trace","number"]
def Mv:Ss:=(.cons (.set 1 (.comp true 1 false [] (.cst (.int 0)) (.seq (.var 0)) .nil)) (.cons (.set 2 (.mk "Contest" tG (.cons (.comp false 1 false [] (.call "head_of" xV (.cons (.var 0) (.cons (.cst (.int 0)) .nil))) (.seq (.var 0)) .nil) .nil))) (.cons (.set 3 (.lst true .nil)) (.cons (.set 4 (.lst true .nil)) (.cons (.set 5 (.pA "Contest" "first" lU (.var 2) .nil)) (.cons (.whl (.cmp .IsNot (.var 5) (.cst .non)) (.cons (.exp (.meth "append" (.var 3) (.cons (.pA "Contest" "head" tH (.var 2) (.cons (.var 5) .nil)) .nil))) (.cons (.exp (.meth "append" (.var 4) (.cons (.var 5) .nil))) (.cons (.Fd .Add (.var 1) (.var 5) (.cst (.int 1))) (.cons (.exp (.pA "Contest" "put" uD (.var 2) (.cons (.var 5) (.cons (.call "head_of" xV (.cons (.idx (.var 0) (.var 5)) (.cons (.idx (.var 1) (.var 5)) .nil))) .nil)))) (.cons (.set 5 (.pA "Contest" "first" lU (.var 2) .nil)) .nil)))))) (.cons (.ret (.tup (.cons (.var 3) (.cons (.var 4) .nil)))) .nil)))))))
def aeV:Ss:=(.cons (.exp (.call "check_rising" mZ (.cons (.var 0) .nil))) Mv)
theorem PB:Keeps zX Av ur:=by
 rintro ds μ Q ⟨d,r,rfl,hd,hl,h⟩;have SN:=WK hd.1 hd.2;simp[Av,zX,aF,cC,wSs,wS,wE,wEs,wI,wT,bM,SN,qC,jf];refine⟨⟨by simp only[lim];omega,by omega⟩,?_⟩;refine bK (fun ds ρ μ'=>∃ (m:Nat) (u:Option D),ds=(gG m (r.length -1 -m)).map (fun(k:Nat)=>D.int (1+(k:Int)))/\(∀ i (h:i+1<r.length),i<m->lG (r[i+1]'h) (r[i]'(by omega))=false)/\μ'=μ/\ρ=[some d,u]) ?_ ?_ _ _ _ ⟨0,none,?_,fun i h1 h2=>by omega,rfl,rfl⟩
 .rintro d' ds ρ μ' N hN ⟨m,u,e,hm,rfl,rfl⟩
  have hm2:m<r.length -1:=by
   by_cases q:m<r.length -1
   .exact q
   .rw[show r.length -1 -m=0 by omega]at e;simp at e
  have e0:gG m (r.length -1 -m)=m::gG (m+1) (r.length -1 -(m+1)):=by rw[show r.length -1 -m=(r.length -1 -(m+1))+1 by omega,lC]
  rw[e0]at e;simp at e;obtain⟨rfl,rfl⟩:=e;refine⟨trivial,?_⟩;have h1:m+1<r.length:=by omega
  have h2:m<r.length:=by omega
  have e1:(1+(m:Int))=((m+1:Nat):Int):=by omega
  have e2:1+(m:Int) -1=(m:Int):=by omega
  simp only[dg,bD,bC,aG,aJ,lq,e2];rw[e1];refine MN hd h1 (MN hd h2 ?_);refine⟨r[m+1],r[m],rfl,?_⟩;simp[iu,truth];by_cases q:lG r[m+1] r[m]=true
  .rw[if_pos q]
   refine h false ⟨fun z=>Bool.noConfusion z,fun z=>?_⟩;have:=z m h1;rw[q]at this;cases this
  .rw[if_neg q]
   refine hN _ _ ⟨m+1,_,rfl,fun i a b=>?_,rfl,rfl⟩;by_cases z:i=m
   .subst z;simpa using q
   .exact hm i a (by omega)
 .rintro ρ μ' ⟨m,u,e,hm,rfl,rfl⟩
  have hm2:r.length -1 -m=0:=by have:=congrArg fK e;simp at this;omega
  exact⟨trivial,h true ⟨fun _ i a=>hm i a (by omega),fun _=>rfl⟩⟩
 .simp only[jh]
  rw[uI];congr 1
theorem Z6:Keeps Lp LK xV:=by
 rintro ds μ Q ⟨d,r,k,rfl,hd,h⟩;have SN:=WK hd.1 hd.2;simp only[LK,Lp,aF,cC,wSs,wS,wT,wE,wEs,aR,bM,SN,aW,bh,aY,bB,bG,aZ,aG,aJ,dh,Et,gZ,aU];by_cases c:k<r.length
 .have c':(k:Int)<(r.length:Int):=by omega
  simp only[c',decide_true,if_true];refine MN hd c ?_;rw[bI c]at h;exact h
 .have c':¬(k:Int)<(r.length:Int):=by omega
  simp only[c',decide_false,dB,if_false];rw[gW (by omega)]at h;exact h
theorem I6:Keeps u0 vq mZ:=by
 rintro ds μ Q ⟨d,rs,rfl,hd,ha,h⟩;obtain⟨h1,es,h2,h3,h4⟩:=hd;have hls:=ajC h1 h2;simp only[vq,u0,aF,cC,wSs,wS,wE,wEs,wI,Q9,hls,aW,bh,aY,bB,bG,aZ,aG,aV];refine bK (fun ds ρ μ'=>∃ (j:Nat) (a b:Option D),ds=lO j (es.drop j)/\μ'=μ/\ρ=[some d,a,b]) ?_ ?_ _ _ _ ⟨0,none,none,by simp,rfl,rfl⟩
 .rintro d' ds ρ μ' N hN ⟨j,a,b,e,rfl,rfl⟩
  refine⟨hls,?_⟩;have hj:j<es.length:=by
   rcases dH j es.length with q|q
   .exact q
   .rw[CQ q]at e;simp[lO]at e
  rw[zQ hj]at e;simp only[lO,eH]at e;obtain⟨rfl,rfl⟩:=e;simp only[dg,uX,acN,lA,yC,bD,bC,aG,aJ,wT,wE,wEs];have hj':j<rs.length:=by omega
  have hr:=ha _ (uH hj');refine⟨rfl,es[j],rs[j],rfl,h4 j _ _ (bI hj) (bI hj'),hr.2,fun b hb=>?_⟩;have hb':b=true:=hb.mpr hr.1;subst hb';simp only[iu,truth,rT,dB,if_false,wSs];exact hN _ _ ⟨j+1,_,_,rfl,rfl,rfl⟩
 .rintro ρ μ' ⟨j,a,b,e,rfl,rfl⟩
  exact⟨hls,h⟩
theorem zeros {es:List D} {rs:List (List Itm)} (h:es.length=rs.length):(es.map fun _=>D.int 0)=(rs.map fun _=>0).map aR:=by simp only[ab1,List.map_replicate,h,aR];rfl
theorem W4 {μ:Mem} {es:List D} {rs:List (List Itm)} (h3:es.length=rs.length):(es.zip rs).map (fun p=>hdD p.2[0]?)=(hds rs).map hdD:=by have e:(es.zip rs).map Prod.snd=rs:=ab9 (by omega);rw[<-e];simp only[hds,jq];rw[e];refine qN fun p _=>?_;simp[List.head?_eq_getElem?]
theorem Uh {Z:dO} {μ:Mem} {d:D} {rs:List (List Itm)} (hd:vK μ d rs) (hn:rs.length<=64) (hm:rs.length*(rs.flatten.length+1)<5000) (hf:rs.flatten.length<5000)
  (h:∀ (μ':Mem) (a b:Nat),Fr [] μ μ'->μ.length<=a->μ.length<=b->a≠b->μ'[a]?=some (.lst ((CZ rs).map bH))->μ'[b]?=some (.lst ((pTr rs).map aR))->Z.rt (.tup [.loc a,.loc b]) μ'):
  wSs Mv Z [some d,none,none,none,none,none] μ:=by
 have hd':=hd;obtain⟨h1,es,h2,h3,h4⟩:=hd';simp only[Mv,wSs,wS,wE,wEs,wI,aW,bh,aY,bB,bG,aZ,aG,aV];refine XF h1 h2 fun g hg=>?_;refine Bx (fun _=>true) (fun _=>D.int 0) (hg _ Fr.refl) _ _ ?_ ?_
 .intro e he Y N z
  simpa[bindC,wTs]using z
 rw[Cz.mpr (by simp),aZ,zeros h3];simp only[newL,bD,bC,aG,aJ];have F1:Fr [] μ (μ++[Cell.lst ((rs.map fun _=>0).map aR)]):=Fr.app;have t1:(μ++[Cell.lst ((rs.map fun _=>0).map aR)])[μ.length]?=some (.lst ((rs.map fun _=>0).map aR)):=by simp
 have l1:(μ++[Cell.lst ((rs.map fun _=>0).map aR)]).length=μ.length+1:=by simp
 generalize μ++[Cell.lst ((rs.map fun _=>0).map aR)]=μ1 at F1 t1 l1;refine XF h1 (F1.seq h2) fun g hg=>?_;have ez:es=(es.zip rs).map Us:=(ab8 (by omega)).symm;rw[ez];refine fj Us (fun p=>hdD p.2[0]?) (hg _ Fr.refl) _ _ ?_ ?_
 .intro p hp Y N z
  obtain⟨i,i1,i2⟩:=Er hp;simp only[bindC,wTs,wE,wEs,bh,aG,if_true];exact⟨p.1,p.2,0,rfl,(h4 i _ _ i1 i2).fr F1,z⟩
 rw[aZ,W4 (μ:=μ) h3];have lh:(hds rs).length=rs.length:=by simp[hds]
 refine⟨μ1.length,hds rs,rfl,by simp,by omega,fun μ2 hh ww f F2 C A hlo wlo=>⟨rfl,?_⟩⟩;have F2':Fr [] μ μ2:=(F1.Yc _).new F2 (by simp;omega);have o1:μ1.length=μ.length+1:=l1;have t2:μ2[μ.length]?=some (.lst ((rs.map fun _=>0).map aR)):=by rw[F2.2 μ.length (by simp;omega) (by simp;omega),cL (by omega)];exact t1
 simp only[gV,aY,bB]at hlo wlo;rw[o1]at C hlo wlo ⊢;have ne:=C.ne;simp only[bD,bC,aG,aJ,newL,gV,aY,bB];refine⟨by simp only[lim];omega,by simp only[lim];omega,?_⟩;have hcl:=aB C.hd;obtain⟨_,_,hw0,_⟩:=C.wn;have wcl:=aB hw0;have ocl:=aB C.at_;have C2:Fe (μ2++[Cell.lst []]++[Cell.lst []]) (μ.length+1) hh ww (hds rs) f (((hds rs).length -1:Nat):Int):=(C.fr (S:=[]) Fr.app (by simp) (by simp) (by simp)).fr (S:=[]) Fr.app (by simp) (by simp) (by simp);have F3:Fr [] μ (μ2++[Cell.lst []]++[Cell.lst []]):=(F2'.Yc _).Yc _;have t3:(μ2++[Cell.lst []]++[Cell.lst []])[μ.length]?=some (.lst ((rs.map fun _=>0).map aR)):=by rw[fL,cL (aB t2)];exact t2
 have a3:(μ2++[Cell.lst []]++[Cell.lst []])[μ2.length]?=some (.lst ((([]:List (Itm×Nat)).map (·.1)).map bH)):=by simp
 have b3:(μ2++[Cell.lst []]++[Cell.lst []])[μ2.length+1]?=some (.lst ((([]:List (Itm×Nat)).map (·.2)).map aR)):=by rw[jt (by simp)];simp
 generalize μ2++[Cell.lst []]++[Cell.lst []]=μ3 at C2 F3 t3 a3 b3;have al:μ.length+1<μ2.length:=ocl;generalize μ2.length=na at*;refine⟨by simp[je,C2.ins,bW],_,hh,ww,hds rs,f,_,rfl,C2,A,by omega,?_⟩;refine⟨fun M ρ μ'=>∃ (rest:List (List Itm)) (tk:List Nat) (dn:List (Itm×Nat)) (f:WF) (n:Int),M=rest.flatten.length/\Rst rs rest tk/\dn++wX M rest=CV rs/\dn.length+M=rs.flatten.length/\n<=((rs.length*(dn.length+1):Nat):Int)/\0<=n/\Fr [] μ μ'/\Fe μ' (μ.length+1) hh ww (hds rest) f n/\Alw (hds rest) f/\
   μ'[μ.length]?=some (.lst (tk.map aR))/\μ'[na]?=some (.lst ((dn.map (·.1)).map bH))/\μ'[na+1]?=some (.lst ((dn.map (·.2)).map aR))/\ρ=[some d,some (.loc μ.length),some (.loc (μ.length+1)),some (.loc na),some (.loc (na+1)),some (o9 (oF (hds rest) 0 (hds rest).length))],
  ⟨_,rs,_,[],f,_,rfl,Rst.start rs,by simp[CV],by simp,by simp;omega,by omega,F3,C2,A,t3,a3,b3,rfl⟩,?_⟩
 rintro M ρ μ' ⟨rest,tk,dn,f',n,rfl,R,ep,el,hnn,hn0,F,C',A',t',a',b',rfl⟩;clear C2 C A F3 t3 a3 b3 F2' F2 t2 hw0 t1;simp only[wT,wE,aG,aJ,dh,gZ];cases hb:oF (hds rest) 0 (hds rest).length with
 |none=>simp only[o9,tU,rT,dB,if_false,aG,aJ,aY,bB];rw[yU hb,uP]at ep;subst ep;refine⟨by decide,h μ' na (na+1) F (by omega) (by omega) (by omega) a' b'⟩|some p=>
  obtain⟨hp,x,t,hx⟩:=JX hb;have hp':p<rs.length:=by rw[<-R.1];exact hp
  obtain⟨k,k1,k2,k3,k4,R'⟩:=R.step hp' hx;have sf:=zL rest p x t hx;have hps:=yR (n:=(rest.set p t).flatten.length) hb hx;rw[sf]at hps;rw[hps]at ep;have lr:(hds rest).length=rs.length:=by simp[hds,R.1]
  have hxd:(hds rest)[p]?=some (some x):=by simp[hds,hx]
  simp only[o9,tU,abT,if_true,wSs,wS,wE,wEs,aG,aJ];have ca:isCell μ' (.loc na)=true:=by simp[isCell,a']
  refine⟨ca,by simp[je,C'.ins,bW],_,hh,ww,hds rest,f',n,p,some x,rfl,C',hxd,?_⟩;simp only[dU,a',bY,hdD,aU];refine⟨by simp only[lim];omega,?_⟩;have hal:na<μ'.length:=aB a';have hbl:na+1<μ'.length:=aB b';have ea:(dn.map (·.1)).map bH++[bH x]=((dn++[(x,p)]).map (·.1)).map bH:=by simp
  rw[ea];have C4:=C'.fr (S:=[na]) (Fr.set (n:=na) (c:=.lst (((dn++[(x,p)]).map (·.1)).map bH)) (by simp)) (by simp;omega) (by simp;omega) (by simp;omega)
  have F4:=F.agk (.lst (((dn++[(x,p)]).map (·.1)).map bH)) (t:=na) (by omega)
  have t4:(μ'.set na (.lst (((dn++[(x,p)]).map (·.1)).map bH)))[μ.length]?=some (.lst (tk.map aR)):=by rw[bR (by omega)];exact t'
  have b4:(μ'.set na (.lst (((dn++[(x,p)]).map (·.1)).map bH)))[na+1]?=some (.lst ((dn.map (·.2)).map aR)):=by rw[bR (by omega)];exact b'
  have a4:(μ'.set na (.lst (((dn++[(x,p)]).map (·.1)).map bH)))[na]?=some (.lst (((dn++[(x,p)]).map (·.1)).map bH)):=cT hal
  generalize μ'.set na (.lst (((dn++[(x,p)]).map (·.1)).map bH))=μ4 at C4 F4 t4 b4 a4
  have cb:isCell μ4 (.loc (na+1))=true:=by simp[isCell,b4]
  refine⟨cb,?_⟩;simp only[b4,bY,aU];refine⟨by simp only[lim];omega,?_⟩;have hal:na<μ4.length:=aB a4;have hbl:na+1<μ4.length:=aB b4;have eb:(dn.map (·.2)).map aR++[D.int (p:Int)]=((dn++[(x,p)]).map (·.2)).map aR:=by simp[aR]
  rw[eb];have C5:=C4.fr (S:=[na+1]) (Fr.set (n:=na+1) (c:=.lst (((dn++[(x,p)]).map (·.2)).map aR)) (by simp)) (by simp;omega) (by simp;omega) (by simp;omega)
  have F5:=F4.agk (.lst (((dn++[(x,p)]).map (·.2)).map aR)) (t:=na+1) (by omega)
  have t5:(μ4.set (na+1) (.lst (((dn++[(x,p)]).map (·.2)).map aR)))[μ.length]?=some (.lst (tk.map aR)):=by rw[bR (by omega)];exact t4
  have a5:(μ4.set (na+1) (.lst (((dn++[(x,p)]).map (·.2)).map aR)))[na]?=some (.lst (((dn++[(x,p)]).map (·.1)).map bH)):=by rw[bR (by omega)];exact a4
  have b5:(μ4.set (na+1) (.lst (((dn++[(x,p)]).map (·.2)).map aR)))[na+1]?=some (.lst (((dn++[(x,p)]).map (·.2)).map aR)):=cT hbl
  generalize μ4.set (na+1) (.lst (((dn++[(x,p)]).map (·.2)).map aR))=μ5 at C5 F5 t5 b5 a5
  have htl:μ.length<μ5.length:=aB t5;have hpk:p<tk.length:=by rw[R.2.1];exact hp'
  have ktk:tk[p]=k:=by rw[bI hpk]at k1;exact cH k1
  have kt:(tk.map aR)[((p:Int)).toNat]?=some (.int (k:Int)):=by simp[k1,aR]
  simp only[KY,t5,kt,uf,jU,aU,dI hpk];refine⟨by omega,?_⟩;have et:(tk.map aR).set p (D.int ((k:Int)+1))=(tk.set p (k+1)).map aR:=by rw[uN];simp[aR]
  rw[et];have C6:=C5.fr (S:=[μ.length]) (Fr.set (n:=μ.length) (c:=.lst ((tk.set p (k+1)).map aR)) (by simp)) (by simp) (by simp;omega) (by simp;omega);have F6:=F5.agk (.lst ((tk.set p (k+1)).map aR)) (t:=μ.length) (aL _);have t6:(μ5.set μ.length (.lst ((tk.set p (k+1)).map aR)))[μ.length]?=some (.lst ((tk.set p (k+1)).map aR)):=cT htl;have a6:(μ5.set μ.length (.lst ((tk.set p (k+1)).map aR)))[na]?=some (.lst (((dn++[(x,p)]).map (·.1)).map bH)):=by rw[bR (by omega)];exact a5
  have b6:(μ5.set μ.length (.lst ((tk.set p (k+1)).map aR)))[na+1]?=some (.lst (((dn++[(x,p)]).map (·.2)).map aR)):=by rw[bR (by omega)];exact b5
  generalize μ5.set μ.length (.lst ((tk.set p (k+1)).map aR))=μ6 at C6 F6 t6 b6 a6;refine⟨by simp[je,C6.ins,bW],?_⟩;refine abk (hd.fr F6) hp' fun e he=>?_;have amN:p<(tk.set p (k+1)).length:=by simpa using hpk
  rw[jV (ds:=(tk.set p (k+1)).map aR) (p:=p) (e:=aR (k+1)) (.inl ⟨_,rfl⟩) (by simp only[au,t6]) (by rw[aU];exact dI amN) (by simp[hpk])];refine⟨e,rs[p],k+1,rfl,he,?_⟩;rw[k4];have abl:=Bt p (hds rest).length 0 (hds rest).length (by omega);have mb:rs.length*(dn.length+1)<=rs.length*(rs.flatten.length+1):=Nat.mul_le_mul_left _ (by omega);refine⟨_,hh,ww,hds rest,f',n,p,t.head?,rfl,C6,A',by omega,by omega,by omega,fun μ7 f7 F7 C7 A7=>?_⟩;rw[<-ag7]at C7 A7;have F7':Fr [] μ μ7:=F6.new F7 (by simp;omega);have t7:μ7[μ.length]?=some (.lst ((tk.set p (k+1)).map aR)):=by rw[F7.2 _ (aB t6) (by simp;omega)];exact t6
  have a7:μ7[na]?=some (.lst (((dn++[(x,p)]).map (·.1)).map bH)):=by rw[F7.2 _ (aB a6) (by simp;omega)];exact a6
  have b7:μ7[na+1]?=some (.lst (((dn++[(x,p)]).map (·.2)).map aR)):=by rw[F7.2 _ (aB b6) (by simp;omega)];exact b6
  simp only[bD,bC,aG,aJ];have lr2:(hds (rest.set p t)).length=rs.length:=by simp[hds,R.1]
  refine⟨by simp[je,C7.ins,bW],_,hh,ww,_,f7,_,rfl,C7,A7,by omega,?_⟩;refine⟨(rest.set p t).flatten.length,by omega,rest.set p t,tk.set p (k+1),dn++[(x,p)],f7,_,rfl,R',by simpa using ep,by rw[gV];show dn.length+1+_=_;omega,?_,by omega,F7',C7,A7,t7,a7,b7,rfl⟩;have e9:(dn++[(x,p)]).length=dn.length+1:=by simp
  rw[e9,Nat.mul_succ];omega
theorem ajL:Keeps aeo aeV X5:=by rintro ds μ Q ⟨d,rs,rfl,hd,ha,hn,hm,hf,h⟩;simp only[aeV,aeo,aF,cC,wSs,wS,wE,wEs,aW,bh,aY,bB,bG,aZ,aG,aV];exact⟨d,rs,rfl,hd,ha,Uh hd hn hm hf h⟩
theorem afw (h:0<rs.flatten.length):∃ p,oF (hds rs) 0 (hds rs).length=some p:=by
 cases e:oF (hds rs) 0 (hds rs).length with
 |some p=>exact⟨p,rfl⟩|none=>
  exfalso;have hq:=vJ _ 0 _ (aL _) e;have:∀ r∈rs,r=[]:=fun r hr=>by
   obtain⟨i,hi,rfl⟩:=CJ.mp hr;cases er:rs[i] with
   |nil=>rfl|cons x t=>exact absurd ⟨x,by simp[hds,hi,er]⟩ (hq i (iH _) (by simpa[hds]using hi))
  rw[adw.mpr this]at h;simp at h
def lY:Nat->List (List Itm)->List (Itm×Nat)
 |_,[]=>[]|k,r::rs=>r.map (fun x=>(x,k))++lY (k+1) rs
def pairs (rs:List (List Itm)):List (Itm×Nat):=lY 0 rs
theorem pairs_len:∀ (rs:List (List Itm)) (k:Nat),(lY k rs).length=rs.flatten.length
 |[],_=>rfl|r::rs,k=>by simp only[lY,gV,aU,oU,pairs_len rs (k+1)]
theorem Lj:∀ (rs:List (List Itm)) (k:Nat),(lY k rs).map (·.1)=rs.flatten
 |[],_=>rfl|r::rs,k=>by simp[lY,Lj rs (k+1),HW]
theorem Li:∀ (rs:List (List Itm)) (k p:Nat) (x:Itm) (t:List Itm),rs[p]?=some (x::t)->(lY k rs).Perm ((x,k+p)::lY k (rs.set p t))
 |[],k,p,x,t,h=>by simp at h|r::rs,k,0,x,t,h=>by simp only[aG,nH]at h;subst h;simp only[lY,bD,aW,bG,Nat.add_zero];exact yx _|r::rs,k,p+1,x,t,h=>by have:=Li rs (k+1) p x t (by simpa using h);rw[show k+1+p=k+(p+1) by omega]at this;simp only[lY,bC];exact(this.append_left _).trans yI
theorem Lq:∀ (rs:List (List Itm)) (k:Nat) (y:Itm) (q:Nat),(y,q)∈lY k rs->∃ i r,rs[i]?=some r/\y∈r/\q=k+i
 |[],k,y,q,h=>by simp[lY]at h|r::rs,k,y,q,h=>by
  rw[lY]at h;rcases jd.mp h with h|h
  .obtain⟨z,hz,e⟩:=jG.mp h
   simp only[Hw]at e;obtain⟨rfl,rfl⟩:=e;exact⟨0,r,rfl,hz,rfl⟩
  .obtain⟨i,r',h1,h2,h3⟩:=Lq rs (k+1) y q h
   exact⟨i+1,r',h1,h2,by omega⟩
theorem ae7 (h:oF (hds rs) 0 (hds rs).length=none):rs.flatten.length=0:=by
 rcases Nat.eq_zero_or_pos rs.flatten.length with q|q
 .exact q
 .obtain⟨p,e⟩:=afw q
  rw[e]at h;cases h
theorem yS:∀ (n:Nat) (rs:List (List Itm)),rs.flatten.length<=n->(wX n rs).Perm (pairs rs)
 |0,rs,h=>by have:pairs rs=[]:=mR.mp (by rw[pairs,pairs_len];omega);rw[this];exact yx _|n+1,rs,h=>by
  cases hb:oF (hds rs) 0 (hds rs).length with
  |none=>have:pairs rs=[]:=mR.mp (by rw[pairs,pairs_len];exact ae7 hb);rw[yU hb,this]|some p=>obtain⟨hp,x,t,hx⟩:=JX hb;have sf:=zL rs p x t hx;rw[yR hb hx];have h1:=yS n (rs.set p t) (by omega);have h2:=Li rs 0 p x t hx;rw[U7]at h2;exact(h1.cons _).trans h2.symm
theorem Rx (rs:List (List Itm)):(CV rs).Perm (pairs rs):=yS _ _ (aL _)
theorem CX (rs:List (List Itm)):(CZ rs).Perm rs.flatten:=by
 have:=(Rx rs).map (·.1)
 rw[pairs,Lj]at this;exact this
def ple (u v:Itm×Nat):Prop:=lG v.1 u.1=false/\(u.1=v.1->u.2<=v.2)
theorem Uo {rs:List (List Itm)} {p:Nat} {x:Itm} {t:List Itm} (hr:∀ r∈rs,bQ r) (e:rs[p]?=some (x::t)):∀ r∈rs.set p t,bQ r:=by
 intro r h;rcases adI h with h|h
 .exact hr r h
 .subst h
  exact(pR.mp (hr _ (jr e))).2
theorem zR:∀ (n:Nat) (rs:List (List Itm)),rs.flatten.length<=n->(∀ r∈rs,bQ r)->(wX n rs).Pairwise ple
 |0,rs,_,_=>uV|n+1,rs,h,hr=>by
  cases hb:oF (hds rs) 0 (hds rs).length with
  |none=>rw[yU hb];exact uV|some p=>
   obtain⟨hp,x,t,hx⟩:=JX hb;have sf:=zL rs p x t hx;rw[yR hb hx];have hr':=Uo hr hx;refine pR.mpr ⟨fun v hv=>?_,zR n _ (by omega) hr'⟩;obtain⟨y,q⟩:=v;obtain⟨i,r,h1,h2,h3⟩:=Lq _ 0 y q ((yS n (rs.set p t) (by omega)).mem_iff.mp hv);rw[U7]at h3;subst h3;by_cases c:q=p
   .subst c
    rw[cT hp]at h1;cases h1;exact⟨(pR.mp (hr _ (jr hx))).1 y h2,fun _=>aL _⟩
   .rw[bR (bN c)]at h1
    have hq:=(cF.mp h1).1;cases r with
    |nil=>simp at h2|cons y0 t0=>
     (have hxh:(hds rs)[p]?=some (some x):=by simp[hds,hx]);(have hyh:(hds rs)[q]?=some (some y0):=by simp[hds,h1]);have hbf:=tD _ 0 _ (aL _) p hb q (iH _) (by simpa[hds]using hq) c x y0 hxh hyh;have hyy:lG y y0=false:=by
      rcases aO.mp h2 with rfl|h2
      .exact sV y
      .exact(pR.mp (hr _ (jr h1))).1 y h2
     refine⟨jO _ _ _ hbf.1 hyy,fun e=>?_⟩;rcases hbf.2 with z|z
     .have e:x=y:=e
      rw[e,hyy]at z;cases z
     .exact yw z
theorem Kl (hr:∀ r∈rs,bQ r):(CV rs).Pairwise ple:=zR _ _ (aL _) hr
theorem Ry (hr:∀ r∈rs,bQ r):bQ (CZ rs):=by refine List.pairwise_map.mpr ((Kl hr).imp fun h=>h.1)
end DW.POU
namespace DW
open PySem
def Pu:List Str:=["script","k","here","number","j","part"]
def Qk:Ss:=(.cons (.set 2 (.bin .Add (.bin .Mult (.cst (.int 7919)) (.var 1)) (.cst (.int 13)))) (.cons (.ite (.cmp .Lt (.var 1) (.blt "len" (.cons (.var 0) .nil))) (.cons (.set 2 (.idx (.var 0) (.var 1))) .nil) .nil) (.cons (.ite (.cmp .Eq (.bin .Mod (.var 2) (.cst (.int 2))) (.cst (.int 0))) (.cons (.ret (.lst true (.cons (.bin .FloorDiv (.var 2) (.cst (.int 2))) .nil))) .nil) .nil) (.cons (.set 3 (.cst (.int 0))) (.cons (.for_ [4] false (.rng (.cons (.cst (.int 16)) .nil)) (.cons (.set 5 (.bin .Mod (.bin .Add (.bin .Add (.bin .Mult (.bin .Mod (.var 2) (.cst (.int 2147483647))) (.cst (.int 48271))) (.bin .Mult (.cst (.int 7919)) (.var 4))) (.cst (.int 1))) (.cst (.int 2147483647)))) (.cons (.set 5 (.bin .Mod (.bin .Mult (.var 5) (.var 5)) (.cst (.int 2147483629)))) (.cons (.set 3 (.bin .Add (.bin .Mult (.var 3) (.cst (.int 2147483647))) (.bin .Mod (.bin .Mult (.var 5) (.bin .Add (.var 5) (.cst (.int 13)))) (.cst (.int 2147483647))))) .nil)))) (.cons (.ret (.lst true (.cons (.var 3) .nil))) .nil))))))
theorem Mh (ns:List Int) (k c:Int) (μ:Mem) (Q:QD) (h:∀ b,Q (.loc μ.length) (μ++[.lst [.int b]])):
  wSs (.cons (.ite (.cmp .Eq (.bin .Mod (.var 2) (.cst (.int 2))) (.cst (.int 0))) (.cons (.ret (.lst true (.cons (.bin .FloorDiv (.var 2) (.cst (.int 2))) .nil))) .nil) .nil) (.cons (.set 3 (.cst (.int 0))) (.cons (.for_ [4] false (.rng (.cons (.cst (.int 16)) .nil)) (.cons (.set 5 (.bin .Mod (.bin .Add (.bin .Add (.bin .Mult (.bin .Mod (.var 2) (.cst (.int 2147483647))) (.cst (.int 48271))) (.bin .Mult (.cst (.int 7919)) (.var 4))) (.cst (.int 1))) (.cst (.int 2147483647)))) (.cons (.set 5 (.bin .Mod (.bin .Mult (.var 5) (.var 5)) (.cst (.int 2147483629)))) (.cons (.set 3 (.bin .Add (.bin .Mult (.var 3) (.cst (.int 2147483647))) (.bin .Mod (.bin .Mult (.var 5) (.bin .Add (.var 5) (.cst (.int 13)))) (.cst (.int 2147483647))))) .nil)))) (.cons (.ret (.lst true (.cons (.var 3) .nil))) .nil))))
   (cC Q) [some (.ro (ns.map D.int)),some (.int k),some (.int c),none,none,none] μ:=by
 simp[wSs,wS,wT,wE,wEs,wI,cC,lq,dh,flat,gZ];by_cases hc:kO (.int (c%2)) (.int 0)=true
 .simp[hc,Mr,lim,newL,h]
 .simp only[hc,if_neg,dB,not_false_eq_true,qC,jf]
  refine⟨by decide,by decide,?_⟩;refine bK (fun ds ρ μ'=>μ'=μ/\(∀ d∈ds,∃ i:Int,d= .int i/\0<=i/\i<1000)/\∃ v w x,ρ=[some (.ro (ns.map D.int)),some (.int k),some (.int c),some (.int v),w,x]) ?_ ?_ _ _ _ ⟨rfl,?_,0,none,none,rfl⟩
  .rintro d ds ρ μ' N hN ⟨rfl,hd,v,w,x,rfl⟩
   obtain⟨i,rfl,i0,i1⟩:=hd d (by simp);refine⟨trivial,?_⟩;simp[dg,lq];refine⟨.inr (by omega),.inl (by omega),?_⟩;generalize (c%2147483647*48271+7919*i+1)=z;(have hz0:0<=z%2147483647:=by omega);(have hz1:z%2147483647<2147483647:=by omega);refine⟨.inl (by omega),?_⟩;generalize z%2147483647*(z%2147483647)=y;(have hy0:0<=y%2147483629:=by omega);(have hy1:y%2147483629<2147483629:=by omega);refine⟨.inr (by omega),.inl (by omega),?_⟩;exact hN _ _ ⟨rfl,fun d q=>hd d (by simp[q]),_,_,_,rfl⟩
  .rintro ρ μ' ⟨rfl,-,v,w,x,rfl⟩
   refine⟨trivial,?_⟩;simp[lim,newL];exact h _
  .intro d hd
   simp only[jh,jG,oY]at hd;obtain⟨j,hj,rfl⟩:=hd;exact⟨_,rfl,by omega,by omega⟩
theorem ag3:Keeps Pu Qk vN:=by
 intro ds μ Q h;unfold vN at h;split at h
 .obtain⟨ns,rfl,hl,hk,h⟩:=h
  rename_i k;unfold Qk;rw[XD,aaM];simp only[Pu,aF,wE,lq,aW,bh,aY,bB,bG,aZ,aG,aJ,aV,bC,bD];refine⟨.inl (by omega),?_⟩;rw[XD,aaN];simp only[wT,wE,wEs,bM,lenOf,au,dz,aG,aJ,dh,Et,gZ,aU];by_cases c:k<(ns.length:Int)
  .simp only[c,decide_true,if_true]
   have e:pG (ns.map D.int).length k=some k.toNat:=ajO hk (by simpa using c);(have h2:k.toNat<ns.length:=by omega);simp only[wSs,wS,wE,d7,au,e,oO,aG,aJ,fW,bI h2,dz,bC,bD];exact Mh ns k _ μ Q h
  .simp only[c,decide_false,dB,if_false]
   exact Mh ns k _ μ Q h
 .exact h.elim
def nxt (l:List Int):List Int:=match l with|[]=>[0]|a::r=>r.map (a+·)++[0]
def lvl (d:Nat):Nat->List Int
 |0=>1::aV (d -1) 0|n+1=>nxt (lvl d n)
def tot (d n:Nat):Int:=(lvl d n).sum
theorem agK (h:l≠[]):(nxt l).length=l.length:=by
 cases l with
 |nil=>exact absurd rfl h|cons a r=>simp[nxt]
theorem sU (h:1<=d):∀ n,(lvl d n).length=d
 |0=>by simp[lvl];omega|n+1=>by have:=sU h n;rw[lvl,agK,this];intro z;rw[z]at this;simp at this;omega
theorem Iz (h:1<=d) (n:Nat):lvl d n≠[]:=by intro z;have:=sU h n;rw[z]at this;simp at this;omega
theorem XJ (h1:3<=d) (h2:d<=6):(10:Int) ^ 9<=tot d 60:=by
 have:d=3∨d=4∨d=5∨d=6:=by omega
 rcases this with rfl|rfl|rfl|rfl<;>decide+kernel
def tW (l:List Int):D:=.tup (l.map D.int)
def jA:dZ:=fun ds μ Q=>∃ m:Int,ds=[.int m]/\3<=m/\m<=6/\Q .non μ
def qd:dZ:=fun ds μ Q=>∃ l:List Int,ds=[tW l]/\l≠[]/\l.length<1000/\Q (tW (nxt l)) μ
def ux:dZ:=fun ds μ Q=>∃ (d n:Nat),ds=[.int (d:Int),.int (n:Int)]/\3<=d/\d<=6/\n<1000/\Q (tW (lvl d n)) μ
def nW:dZ:=fun ds μ Q=>∃ (d:Nat) (m:Int),ds=[.int (d:Int),.int m]/\3<=d/\d<=6/\m<=10 ^ 9/\∀ n:Nat,n<=60->m<=tot d n->(∀ j,j<n->tot d j<m)->Q (.int (n:Int)) μ
def BP:dZ:=fun ds μ Q=>∃ (d n:Nat),ds=[.int (d:Int),.int (n:Int)]/\3<=d/\d<=6/\n<1000/\Q (tW (lvl d n)) μ
def u5:List Str:=["thing"]
def vA:Ss:=(.cons (.ite (.or (.not (.call "is_whole" cY (.cons (.var 0) .nil))) (.not (.chain .LtE .LtE (.gbl "LEAST_DRIVES" (.int 3)) (.var 0) (.gbl "MOST_DRIVES" (.int 6))))) (.cons .Yk .nil) .nil) .nil)
def zY:List Str:=["layout"]
def Aw:Ss:=(.cons (.ret (.blt "tuple" (.cons (.cat false (.comp false 1 false [0] (.bin .Add (.idx (.var 1) (.cst (.int 0))) (.var 0)) (.seq (.slc false (.var 0) (.cons (.cst (.int 1)) .nil) .nil)) .nil) (.lst false (.cons (.cst (.int 0)) .nil))) .nil))) .nil)
def Yn:List Str:=["drives","number","told","count"]
def YF:Ss:=(.cons (.exp (.call "check_drives" jA (.cons (.var 0) .nil))) (.cons (.set 2 (.blt "tuple" (.cons (.cat false (.lst false (.cons (.cst (.int 1)) .nil)) (.comp false 1 false [] (.cst (.int 0)) (.rng (.cons (.bin .Sub (.var 0) (.cst (.int 1))) .nil)) .nil)) .nil))) (.cons (.for_ [3] false (.rng (.cons (.var 1) .nil)) (.cons (.set 2 (.call "next_level" qd (.cons (.var 2) .nil))) .nil)) (.cons (.ret (.var 2)) .nil))))
def Eo:List Str:=["drives","many","now","number"]
def Ew:Ss:=(.cons (.set 2 (.call "level" ux (.cons (.var 0) (.cons (.cst (.int 0)) .nil)))) (.cons (.set 3 (.cst (.int 0))) (.cons (.whl (.cmp .Lt (.blt "sum" (.cons (.var 2) .nil)) (.var 1)) (.cons (.set 2 (.call "next_level" qd (.cons (.var 2) .nil))) (.cons (.aug 3 .Add (.cst (.int 1))) .nil))) (.cons (.ret (.var 3)) .nil))))
def RL:List Str:=["drives","number","found","turn","first"]
def SJ:Ss:=(.cons (.set 2 (.cat false (.lst false (.cons (.cst (.int 1)) .nil)) (.rep false (.lst false (.cons (.cst (.int 0)) .nil)) (.bin .Sub (.var 0) (.cst (.int 1)))))) (.cons (.for_ [3] false (.rng (.cons (.var 1) .nil)) (.cons (.set 4 (.idx (.var 2) (.cst (.int 0)))) (.cons (.set 2 (.cat false (.comp false 1 false [4] (.bin .Add (.var 1) (.var 0)) (.seq (.slc false (.var 2) (.cons (.cst (.int 1)) .nil) .nil)) .nil) (.lst false (.cons (.cst (.int 0)) .nil)))) .nil))) (.cons (.ret (.blt "tuple" (.cons (.var 2) .nil))) .nil)))
theorem I7:Keeps u5 vA jA:=by rintro ds μ Q ⟨m,rfl,h1,h2,h⟩;simpa[vA,u5,aF,cC,wSs,wS,wT,wE,wEs,cY,gZ,dh,iu,truth,h1,h2]using h
theorem PJ:Keeps zY Aw qd:=by
 rintro ds μ Q ⟨l,rfl,h0,hl,h⟩;cases l with
 |nil=>exact absurd rfl h0|cons a r=>
  have hl':r.length+1<1000:=by simpa using hl
  simp[Aw,zY,aF,cC,wSs,wS,wE,wEs,wI,wO,Gj,Kc,kZ,tW];have ec:cutD (D.int a::r.map D.int) (some 1) none=r.map D.int:=by rw[Mf _ (by decide)];rfl
  rw[ec];refine fj D.int (fun x=>D.int (a+x)) trivial _ _ ?_ ?_
  .intro x hx Y N z
   simpa[bindC,wTs,d7,au,pG,lq]using z
  .simp[newL,lim,T3,zy,bM,au]
   refine⟨by omega,?_⟩;simpa[tW,nxt,HW]using h
theorem ag1:Keeps Yn YF ux:=by
 rintro ds μ Q ⟨d,n,rfl,h1,h2,hn,h⟩;simp only[YF,Yn,aF,cC,wSs,wS,wE,wEs,aW,bh,aY,bB,bG,aZ,aG,aJ];refine⟨d,rfl,by omega,by omega,?_⟩;simp[newL,lim,wI,wE,wEs,lq,qC,jf];refine⟨by omega,by omega,?_⟩;rw[dG];refine fj (fun(k:Nat)=>D.int (k:Int)) (fun _=>D.int 0) trivial _ _ ?_ ?_
 .intro x hx Y N z
  simpa[bindC,wTs]using z
 .simp[T3,zy,bM,au,lim]
  refine⟨by omega,by omega,?_⟩;rw[dG];refine bK (fun ds ρ μ'=>∃ (j:Nat) (a:Option D),ds=(gG j (n -j)).map (fun(k:Nat)=>D.int (k:Int))/\j<=n/\ρ=[some (.int (d:Int)),some (.int (n:Int)),some (tW (lvl d j)),a]/\μ'=μ) ?_ ?_ _ _ _ ⟨0,none,by simp[uI],by omega,by simp[tW,lvl,ab1],rfl⟩
  .rintro x ds ρ μ1 N hN ⟨j,a,e,hj,rfl,rfl⟩
   have hjn:j<n:=by
    rcases dH j n with q|q
    .exact q
    .rw[show n -j=0 by omega]at e;simp at e
   rw[show n -j=(n -(j+1))+1 by omega,lC]at e;simp only[aW,eH]at e;obtain⟨rfl,rfl⟩:=e;refine⟨trivial,?_⟩;simp[dg];refine⟨lvl d j,rfl,Iz (by omega) j,by rw[sU (by omega)];omega,?_⟩;exact hN _ _ ⟨j+1,_,rfl,by omega,rfl,rfl⟩
  .rintro ρ μ1 ⟨j,a,e,hj,rfl,rfl⟩
   have hjn:j=n:=by
    rcases dH j n with q|q
    .rw[show n -j=(n -(j+1))+1 by omega,lC]at e;simp at e
    .omega
   subst hjn;exact⟨trivial,h⟩
theorem R6:Keeps Eo Ew nW:=by
 rintro ds μ Q ⟨d,m,rfl,h1,h2,hm,h⟩;simp only[Ew,Eo,aF,cC,wSs,wS,wE,wEs,aW,bh,aY,bB,bG,aZ,aG,aJ];refine⟨d,0,rfl,h1,h2,by omega,?_⟩;simp only[aV,bC,bD];refine⟨fun M ρ μ'=>∃ n:Nat,M=60 -n/\n<=60/\(∀ j,j<n->tot d j<m)/\ρ=[some (.int (d:Int)),some (.int m),some (tW (lvl d n)),some (.int (n:Int))]/\μ'=μ,⟨60,0,rfl,by omega,by simp,rfl,rfl⟩,?_⟩;rintro M ρ μ' ⟨n,rfl,hn,hj,rfl,rfl⟩;simp[wT,wE,wEs,bM,tW,au,gO,dh,Et,gZ];by_cases c:(lvl d n).sum<m
 .have hn':n<60:=by
   rcases dH n 60 with q|q
   .exact q
   .have e:n=60:=by omega
    subst e;have:=XJ h1 h2;unfold tot at this;omega
  simp[c];refine⟨lvl d n,rfl,Iz (by omega) n,by rw[sU (by omega)];omega,?_⟩;simp[Gj];refine⟨60 -(n+1),by omega,n+1,rfl,by omega,?_,rfl,by simp⟩;intro j hj';rcases dH j n with q|q
  .exact hj j q
  .have:j=n:=by omega
   subst this;exact c
 .simp[c]
  exact h n hn (by unfold tot;omega) hj
theorem aeQ:Keeps RL SJ BP:=by
 rintro ds μ Q ⟨d,n,rfl,h1,h2,hn,h⟩;simp[SJ,RL,aF,cC,wSs,wS,wE,wEs,wI,lq,T3,aaP,zy,newL,lim,qC,jf];refine⟨⟨by omega,by omega,by omega⟩,by omega,by omega,?_⟩;rw[dG];refine bK (fun ds ρ μ'=>∃ (j:Nat) (a b:Option D),ds=(gG j (n -j)).map (fun(k:Nat)=>D.int (k:Int))/\j<=n/\ρ=[some (.int (d:Int)),some (.int (n:Int)),some (.lst ((lvl d j).map D.int)),a,b]/\μ'=μ) ?_ ?_ _ _ _ ⟨0,none,none,by simp[uI],by omega,by simp[lvl,ad0],rfl⟩
 .rintro x ds ρ μ1 N hN ⟨j,a,b,e,hj,rfl,rfl⟩
  have hjn:j<n:=by
   rcases dH j n with q|q
   .exact q
   .rw[show n -j=0 by omega]at e;simp at e
  rw[show n -j=(n -(j+1))+1 by omega,lC]at e;simp only[aW,eH]at e;obtain⟨rfl,rfl⟩:=e;have hl:=sU (d:=d) (by omega) j;have hne:=Iz (d:=d) (by omega) j;have ln:lvl d (j+1)=nxt (lvl d j):=rfl;generalize lvl d j=l at hl hne ln;cases l with
  |nil=>exact absurd rfl hne|cons a r=>
   (have hl':r.length+1=d:=by simpa using hl);refine⟨trivial,?_⟩;simp[dg,d7,au,pG,wO,wE,Gj,Kc,newL,kZ];(have ec:cutD (D.int a::r.map D.int) (some 1) none=r.map D.int:=by rw[Mf _ (by decide)];rfl);rw[ec];refine fj D.int (fun x=>D.int (a+x)) trivial _ _ ?_ ?_
   .intro x hx Y N z
    simpa[bindC,wTs,lq]using z
   .simp[T3,zy]
    refine⟨by omega,?_⟩;refine hN _ _ ⟨j+1,some (.int (j:Int)),some (.int a),rfl,by omega,?_,rfl⟩;rw[ln];simp[nxt,HW]
 .rintro ρ μ1 ⟨j,a,b,e,hj,rfl,rfl⟩
  have hjn:j=n:=by
   rcases dH j n with q|q
   .rw[show n -j=(n -(j+1))+1 by omega,lC]at e;simp at e
   .omega
  subst hjn;refine⟨trivial,?_⟩;simpa[wE,wEs,bM,au,tW]using h
end DW
namespace DW.HOU
open PySem DW DW.KQ DW.Mq DW.POU
structure pF (μ:Mem) (o L T:Nat) (ls:List Nat) (Zl:List (List (List Itm))) (mv:Int) (Zh:List D):Prop where
 at_:μ[o]?=some (.ins "House" [("laid",.loc L),("poured",.int mv),("history",.loc T)])
 la:μ[L]?=some (.lst (ls.map D.loc))
 hi:μ[T]?=some (.lst Zh)
 len:ls.length=Zl.length
 row:∀ (i l:Nat) (rs:List (List Itm)),ls[i]?=some l->Zl[i]?=some rs->μ[l]?=some (.lst (cG rs))
 nd:(o::L::T::ls).Nodup
noncomputable abbrev fp (o L T:Nat) (ls:List Nat):List Nat:=o::L::T::ls
theorem pF.fr {μ μ':Mem} {o L T:Nat} {ls:List Nat} {Zl:List (List (List Itm))} {mv:Int} {Zh:List D} {S:List Nat} (h:pF μ o L T ls Zl mv Zh) (F:Fr S μ μ') (hS:∀ m∈fp o L T ls,m∉S):pF μ' o L T ls Zl mv Zh:=
 ⟨(F.2 o (aB h.at_) (hS o (by simp))).trans h.at_,(F.2 L (aB h.la) (hS L (by simp))).trans h.la,(F.2 T (aB h.hi) (hS T (by simp))).trans h.hi,h.len,fun i l rs a b=>by have:=h.row i l rs a b;exact(F.2 l (aB this) (hS l (by have:=jr a;simp[this]))).trans this,h.nd⟩
theorem pF.app {μ ν:Mem} {o L T:Nat} {ls:List Nat} {Zl:List (List (List Itm))} {mv:Int} {Zh:List D} (h:pF μ o L T ls Zl mv Zh):pF (μ++ν) o L T ls Zl mv Zh:=h.fr (S:=[]) Fr.app (by simp)
theorem pF.ins {μ:Mem} {o L T:Nat} {ls:List Nat} {Zl:List (List (List Itm))} {mv:Int} {Zh:List D} (h:pF μ o L T ls Zl mv Zh):jP μ "House" (.loc o)=some (o,[("laid",.loc L),("poured",.int mv),("history",.loc T)]):=by simp[jP,h.at_]
theorem pF.isI (h:pF μ o L T ls Zl mv Zh) (m:String) (hm:bW m [("laid",D.loc L),("poured",D.int mv),("history",D.loc T)]=none:=by simp[bW]):je μ "House" m (.loc o):=by simp[je,h.ins,hm]
theorem pF.EY (h:pF μ o L T ls Zl mv Zh) (q:Q (.loc L) μ):jg "House" "laid" (.loc o) μ Q:=by simpa[jg,h.ins,bW]using q
theorem pF.YX (h:pF μ o L T ls Zl mv Zh) (q:Q (.int mv) μ):jg "House" "poured" (.loc o) μ Q:=by simpa[jg,h.ins,bW]using q
theorem pF.ahX (h:pF μ o L T ls Zl mv Zh) (q:Q (.loc T) μ):jg "House" "history" (.loc o) μ Q:=by simpa[jg,h.ins,bW]using q
theorem pF.lane (h:pF μ o L T ls Zl mv Zh) (hd:d<Zl.length):∃ l,ls[d]?=some l/\μ[l]?=some (.lst (cG Zl[d]))/\∀ (Q:QD),Q (.loc l) μ->d7 (.loc L) (.int (d:Int)) μ Q:=by
 have hd':d<ls.length:=by rw[h.len];exact hd
 refine⟨ls[d],bI hd',h.row d _ _ (bI hd') (bI hd),fun Q q=>?_⟩;rw[jV (ds:=ls.map D.loc) (p:=d) (e:=.loc ls[d]) (.inl ⟨_,rfl⟩) (by simp only[au,h.la]) (by rw[aU];exact dI hd') (by simp[hd'])];exact q
theorem pF.put (h:pF μ o L T ls Zl mv Zh) (hl:ls[d]?=some l) (rs:List (List Itm)):pF (μ.set l (.lst (cG rs))) o L T ls (Zl.set d rs) mv Zh:=by
 have hd:d<ls.length:=(cF.mp hl).1;have hd':d<Zl.length:=by rw[<-h.len];exact hd
 have hm:l∈ls:=jr hl;have nd:=h.nd;simp only[oZ,aO,not_or]at nd;obtain⟨⟨n1,n2,n3⟩,⟨n4,n5⟩,n6,n7⟩:=nd;have ll:l<μ.length:=aB (h.row d l _ hl (bI hd'));refine⟨?_,?_,?_,by simp[h.len],fun i l' rs' a b=>?_,h.nd⟩
 .rw[bR (fun z:l=o=>n3 (by rw[<-z];exact hm))];exact h.at_
 .rw[bR (fun z:l=L=>n5 (by rw[<-z];exact hm))];exact h.la
 .rw[bR (fun z:l=T=>n6 (by rw[<-z];exact hm))];exact h.hi
 .by_cases c:i=d
  .subst c
   rw[hl]at a;cases a;rw[cT hd']at b;cases b;rw[cT ll]
  .rw[bR (bN c)]at b
   have hne:l≠l':=fun z=>by
    subst z;have hi:=(cF.mp a).1;have e1:ls[i]=ls[d]:=by rw[bI hi]at a;rw[bI hd]at hl;rw[cH a,cH hl]
    rcases Nat.lt_or_gt_of_ne c with y|y
    .exact Pa.mp n7 i d hi hd y e1
    .exact Pa.mp n7 d i hd hi y e1.symm
   rw[bR hne];exact h.row i l' rs' a b
theorem pF.akU (h:pF μ o L T ls Zl mv Zh):pF (μ.set T (.lst Zh')) o L T ls Zl mv Zh':=by
 have nd:=h.nd;simp only[oZ,aO,not_or]at nd;obtain⟨⟨n1,n2,n3⟩,⟨n4,n5⟩,n6,n7⟩:=nd;refine⟨?_,?_,cT (aB h.hi),h.len,fun i l rs a b=>?_,h.nd⟩
 .rw[bR (bN n2)];exact h.at_
 .rw[bR (bN n4)];exact h.la
 .rw[bR (fun z:T=l=>n6 (by rw[z];exact jr a))];exact h.row i l rs a b
theorem pF.putN (h:pF μ o L T ls Zl mv Zh) (q:∀ μ',μ'=μ.set o (.ins "House" [("laid",.loc L),("poured",.int mv'),("history",.loc T)])->pF μ' o L T ls Zl mv' Zh->k μ'):mK "House" "poured" (.loc o) (.int mv') μ k:=by have nd:=h.nd;simp only[oZ,aO,not_or]at nd;obtain⟨⟨n1,n2,n3⟩,⟨n4,n5⟩,n6,n7⟩:=nd;have:=q _ rfl ⟨cT (aB h.at_),by rw[bR n1];exact h.la,by rw[bR n2];exact h.hi,h.len,fun i l rs a b=>by rw[bR (fun z:o=l=>n3 (by rw[z];exact jr a))];exact h.row i l rs a b,h.nd⟩;simpa[mK,h.ins,putD]using this
theorem Dg {α β:Type} {f:α->β} (hf:∀ a b,f a=f b->a=b):∀ {l:List α},l.Nodup->(l.map f).Nodup
 |[],_=>by simp|a::l,h=>by simp only[oZ,aW,jG,not_exists,not_and]at h ⊢;exact⟨fun x hx e=>h.1 (hf _ _ e▸hx),Dg hf h.2⟩
def ajD (d:Nat) (n:Nat):D:=.tup [.str [108,97,121],aR d,aR n]
def Zy (src:List Nat) (t n:Nat):D:=.tup [.str [112,111,117,114],.tup (src.map aR),aR t,aR n]
def iJ (Zl:List (List (List Itm))) (src:List Nat):List (List Itm):=src.map fun d=>((Zl[d]?.getD []).head?).getD []
def pops (Zl:List (List (List Itm))) (src:List Nat):List (List (List Itm)):=src.foldl (fun l d=>l.set d (l[d]?.getD []).tail) Zl
def Km (Zl:List (List (List Itm))) (src:List Nat) (t:Nat):List (List (List Itm)):=(pops Zl src).set t ((pops Zl src)[t]?.getD []++[CZ (iJ Zl src)])
theorem qO:∀ (src:List Nat) (Zl:List (List (List Itm))),(pops Zl src).length=Zl.length
 |[],_=>rfl|d::src,Zl=>by show(pops (Zl.set d _) src).length=_;rw[qO src];simp
def mG (μ:Mem) (d:D) (ns:List Nat):Prop:=(Lc d∨∃ l,d= .tup l)/\au μ d=some (ns.map aR)
theorem mG.fr {μ μ':Mem} {d:D} {ns:List Nat} {S:List Nat} (h:mG μ d ns) (F:Fr S μ μ') (hd:∀ n,d= .loc n->n∉S):mG μ' d ns:=by
 refine⟨h.1,?_⟩;have h2:=h.2;cases d with
 |loc n=>
  simp only[au]at h2 ⊢;split at h2
  .rename_i q;rw[F.2 n (aB q) (hd n rfl),q];exact h2
  .cases h2
 |_=>exact h2
theorem zW (h:mG μ d ns) (q:∀ g:Mem->Prop,(∀ μ',mG μ' d ns->g μ')->Q (ns.map aR) g μ):kZ d μ Q:=by
 obtain⟨h1,h2⟩:=h;rcases h1 with(⟨n,rfl⟩|⟨l,rfl⟩)|⟨l,rfl⟩
 .simp only[au]at h2
  split at h2
  .rename_i ds e
   cases h2;simp only[kZ,e];refine q _ fun μ' F=>?_;have:=F.2;simp only[au]at this;split at this
   .rename_i ds e';rw[e'];cases this;rfl
   .cases this
  .cases h2
 .simp only[au,nH]at h2
  subst h2;exact q _ fun _ _=>trivial
 .simp only[au,nH]at h2
  subst h2;exact q _ fun _ _=>trivial
theorem aej (h:mG μ d ns):lenOf μ d=some ns.length:=by
 obtain⟨h1,h2⟩:=h;rcases h1 with(⟨n,rfl⟩|⟨l,rfl⟩)|⟨l,rfl⟩
 .show Hh (·.length) (au μ (.loc n))=_;rw[h2];simp
 .show Hh (·.length) (au μ (.lst l))=_;rw[h2];simp
 .show Hh (·.length) (au μ (.tup l))=_;rw[h2];simp
def alG (Zl:List (List (List Itm))):Prop:=∀ lane∈Zl,∀ r∈lane,bQ r/\r.length<500
def dj:dZ:=fun ds μ Q=>∃ (o L T:Nat) (ls:List Nat) (Zl:List (List (List Itm))) (mv:Int) (Zh:List D) (d:Nat),ds=[.loc o,aR d]/\pF μ o L T ls Zl mv Zh/\d<Zl.length/\Q .non μ
def wN:dZ:=fun ds μ Q=>∃ (o m:Nat),ds=[.loc o,.int (m:Int)]/\μ[o]?=some (.ins "House" [])/\3<=m/\m<=6/\∀ μ' L T ls,Fr [o] μ μ'->pF μ' o L T ls (aV m []) 0 []->(∀ x∈L::T::ls,μ.length<=x)->Q .non μ'
def nY:dZ:=fun ds μ Q=>∃ (o L T:Nat) (ls:List Nat) (Zl:List (List (List Itm))) (mv:Int) (Zh:List D) (d:Nat) (e:D) (r:List Itm),ds=[.loc o,aR d,e]/\pF μ o L T ls Zl mv Zh/\d<Zl.length/\rD μ e r/\(∀ n,e= .loc n->n∉fp o L T ls)/\bQ r/\r.length<500/\(Zl[d]?.getD []).length<500/\Zh.length<500/\
 ∀ μ',Fr (fp o L T ls) μ μ'->pF μ' o L T ls (Zl.set d (Zl[d]?.getD []++[r])) mv (Zh++[ajD d r.length])->Q .non μ'
def jX:dZ:=fun ds μ Q=>∃ (o L T:Nat) (ls:List Nat) (Zl:List (List (List Itm))) (mv:Int) (Zh:List D) (e:D) (src:List Nat),ds=[.loc o,e]/\pF μ o L T ls Zl mv Zh/\mG μ e src/\2<=src.length/\src.length<=6/\src.Nodup/\(∀ d∈src,d<Zl.length)/\Q .non μ
def jK:dZ:=fun ds μ Q=>∃ (o L T:Nat) (ls:List Nat) (Zl:List (List (List Itm))) (mv:Int) (Zh:List D) (e:D) (src:List Nat),ds=[.loc o,e]/\pF μ o L T ls Zl mv Zh/\mG μ e src/\(∀ d∈src,d<Zl.length/\Zl[d]?.getD []≠[])/\Q .non μ
def wM:dZ:=fun ds μ Q=>∃ (o L T:Nat) (ls:List Nat) (Zl:List (List (List Itm))) (mv:Int) (Zh:List D) (e:D) (src:List Nat) (t:Nat),ds=[.loc o,e,aR t]/\pF μ o L T ls Zl mv Zh/\mG μ e src/\(∀ n,e= .loc n->n∉fp o L T ls)/\2<=src.length/\src.length<=6/\src.Nodup/\(∀ d∈src,d<Zl.length/\Zl[d]?.getD []≠[])/\t<Zl.length/\t∉src/\
 alG Zl/\(iJ Zl src).flatten.length<800/\(Zl[t]?.getD []).length<500/\Zh.length<500/\
 ∀ (μ':Mem) (n:Nat),Fr (fp o L T ls) μ μ'->pF μ' o L T ls (Km Zl src t) (mv+(iJ Zl src).flatten.length) (Zh++[Zy src t (iJ Zl src).flatten.length])->μ.length<=n->μ'[n]?=some (.lst ((CZ (iJ Zl src)).map bH))->Q (.loc n) μ'
def wL:dZ:=fun ds μ Q=>∃ (o L T:Nat) (ls:List Nat) (Zl:List (List (List Itm))) (mv:Int) (Zh:List D) (d:Nat),ds=[.loc o,aR d]/\pF μ o L T ls Zl mv Zh/\d<Zl.length/\(Zl[d]?.getD []).length<600/\∀ (μ':Mem) (n:Nat) (ns:List Nat),Fr [] μ μ'->LL μ' μ.length n ns (Zl[d]?.getD [])->Q (.loc n) μ'
def uz:dZ:=fun ds μ Q=>∃ (o L T:Nat) (ls:List Nat) (Zl:List (List (List Itm))) (mv:Int) (Zh:List D),ds=[.loc o]/\pF μ o L T ls Zl mv Zh/\Q (.tup (Zl.map fun lane=>aR lane.length)) μ
def mL:dZ:=fun ds μ Q=>∃ (o L T:Nat) (ls:List Nat) (Zl:List (List (List Itm))) (mv:Int) (Zh:List D),ds=[.loc o]/\pF μ o L T ls Zl mv Zh/\Q (.int mv) μ
def Ac:List Str:=["self","drives"]
def Mz:Ss:=(.cons (.wg "House" "laid" (.var 0) (.comp true 1 false [] (.lst true .nil) (.rng (.cons (.var 1) .nil)) .nil)) (.cons (.wg "House" "poured" (.var 0) (.cst (.int 0))) (.cons (.wg "House" "history" (.var 0) (.lst true .nil)) .nil)))
def Ba:Ss:=(.cons (.exp (.call "check_drives" jA (.cons (.var 1) .nil))) Mz)
def Ep:List Str:=["self","drive","run"]
def XK:Ss:=(.cons (.exp (.meth "append" (.idx (.fld "House" "laid" (.var 0)) (.var 1)) (.cons (.blt "list" (.cons (.var 2) .nil)) .nil))) (.cons (.exp (.meth "append" (.fld "House" "history" (.var 0)) (.cons (.tup (.cons (.cst (.str [108,97,121])) (.cons (.var 1) (.cons (.blt "len" (.cons (.var 2) .nil)) .nil)))) .nil))) .nil))
def Ey:Ss:=(.cons (.exp (.pA "House" "check_drive" dj (.var 0) (.cons (.var 1) .nil))) (.cons (.exp (.call "check_rising" mZ (.cons (.lst false (.cons (.var 2) .nil)) .nil))) XK))
def Ab:List Str:=["self","sources","target","row","drive"]
def Mx:Ss:=(.cons (.set 3 (.frz (.idx (.call "pour_pours" X5 (.cons (.comp false 1 false [0] (.idx (.idx (.fld "House" "laid" (.var 1)) (.var 0)) (.cst (.int 0))) (.seq (.var 1)) .nil) .nil)) (.cst (.int 0))))) (.cons (.for_ [4] false (.seq (.var 1)) (.cons (.exp (.meth "pop" (.idx (.fld "House" "laid" (.var 0)) (.var 4)) (.cons (.cst (.int 0)) .nil))) .nil)) (.cons (.exp (.meth "append" (.idx (.fld "House" "laid" (.var 0)) (.var 2)) (.cons (.var 3) .nil))) (.cons (.Xo "House" "poured" .Add (.var 0) (.blt "len" (.cons (.var 3) .nil))) (.cons (.exp (.meth "append" (.fld "House" "history" (.var 0)) (.cons (.tup (.cons (.cst (.str [112,111,117,114])) (.cons (.blt "tuple" (.cons (.var 1) .nil)) (.cons (.var 2) (.cons (.blt "len" (.cons (.var 3) .nil)) .nil))))) .nil))) (.cons (.ret (.blt "mlist" (.cons (.var 3) .nil))) .nil))))))
def Az:Ss:=(.cons (.exp (.pA "House" "check_sources" jX (.var 0) (.cons (.var 1) .nil))) (.cons (.exp (.pA "House" "check_drive" dj (.var 0) (.cons (.var 2) .nil))) (.cons (.ite (.cmp .In (.var 2) (.var 1)) (.cons .Yk .nil) .nil) (.cons (.exp (.pA "House" "check_not_bare" jK (.var 0) (.cons (.var 1) .nil))) Mx))))
def Aa:List Str:=["self","drive"]
def Mw:Ss:=(.cons (.ret (.comp true 1 false [] (.blt "mlist" (.cons (.var 0) .nil)) (.seq (.idx (.fld "House" "laid" (.var 0)) (.var 1))) .nil)) .nil)
def Ay:Ss:=(.cons (.exp (.pA "House" "check_drive" dj (.var 0) (.cons (.var 1) .nil))) Mw)
def w7:List Str:=["self"]
def xG:Ss:=(.cons (.ret (.blt "tuple" (.cons (.comp false 1 false [] (.blt "len" (.cons (.var 0) .nil)) (.seq (.fld "House" "laid" (.var 0))) .nil) .nil))) .nil)
def nJ:List Str:=["self"]
def nP:Ss:=(.cons (.ret (.fld "House" "poured" (.var 0))) .nil)
def nM:List Str:=["self","thing"]
def nQ:Ss:=(.cons (.ite (.not (.call "is_below" cQ (.cons (.var 1) (.cons (.blt "len" (.cons (.fld "House" "laid" (.var 0)) .nil)) .nil)))) (.cons .Yk .nil) .nil) .nil)
def lE:List Str:=["self","thing","drive"]
def lJ:Ss:=(.cons (.ite (.or (.not (.Jf (.var 1))) (.cmp .Lt (.blt "len" (.cons (.var 1) .nil)) (.cst (.int 2)))) (.cons .Yk .nil) .nil) (.cons (.for_ [2] false (.seq (.var 1)) (.cons (.exp (.pA "House" "check_drive" dj (.var 0) (.cons (.var 2) .nil))) .nil)) (.cons (.ite (.cmp .Lt (.ZW (.var 1)) (.blt "len" (.cons (.var 1) .nil))) (.cons .Yk .nil) .nil) .nil)))
def kj:List Str:=["self","sources","drive"]
def kI:Ss:=(.cons (.for_ [2] false (.seq (.var 1)) (.cons (.ite (.not (.idx (.fld "House" "laid" (.var 0)) (.var 2))) (.cons .Yk .nil) .nil) .nil)) .nil)
theorem Zv {μ μ':Mem} {d:D} {r:List Itm} {S:List Nat} (h:rD μ d r) (F:Fr S μ μ') (hd:∀ n,d= .loc n->n∉S):rD μ' d r:=by
 refine⟨h.1,?_⟩;have h2:=h.2;cases d with
 |loc n=>
  simp only[au]at h2 ⊢;split at h2
  .rename_i q;rw[F.2 n (aB q) (hd n rfl),q];exact h2
  .cases h2
 |_=>exact h2
theorem wA:Keeps nM nQ dj:=by
 rintro ds μ Q ⟨o,L,T,ls,Zl,mv,Zh,d,rfl,H,hd,q⟩;simp only[nQ,nM,aF,cC,wSs,wS,wT,wE,wEs,aW,bh,aY,bB,bG,aZ,aG,aJ];refine H.EY ?_;simp only[bM,lenOf,au,H.la,dz,aU,H.len,aR];have e:decide (0<=(d:Int)/\(d:Int)<(Zl.length:Int))=true:=by simp;omega
 unfold Mq.cQ;dsimp only;rw[e];simpa[iu,truth]using q
theorem wz:Keeps nJ nP mL:=by rintro ds μ Q ⟨o,L,T,ls,Zl,mv,Zh,rfl,H,q⟩;simp only[nP,nJ,aF,cC,wSs,wS,wE,aW,bh,bG,aZ,aG];exact H.YX q
theorem Kr:Keeps w7 xG uz:=by
 rintro ds μ Q ⟨o,L,T,ls,Zl,mv,Zh,rfl,H,q⟩;simp only[xG,w7,aF,cC,wSs,wS,wE,wEs,wI,aW,bh,bG,aZ,aG];refine H.EY ?_;simp only[kZ,H.la];have ez:ls.map D.loc=(ls.zip Zl).map fun p=>D.loc p.1:=by
  have e:(ls.zip Zl).map Us=ls:=ab8 (by rw[H.len];exact aL _);conv=>lhs;rw[<-e]
  rw[jq];rfl
 rw[ez];refine fj (fun p:Nat×List (List Itm)=>D.loc p.1) (fun p=>aR p.2.length) (by rw[H.la,ez]) _ _ ?_ ?_
 .intro p hp Y N z
  obtain⟨i,i1,i2⟩:=Er hp;simp only[bindC,wTs,wE,wEs,aG,bM,lenOf,au,H.row i _ _ i1 i2,dz,if_true,cG,aU];exact z
 .rw[aZ]
  have e2:(ls.zip Zl).map (fun p=>aR p.2.length)=Zl.map fun lane=>aR lane.length:=by have e:(ls.zip Zl).map Prod.snd=Zl:=ab9 (by rw[H.len];exact aL _);(conv=>rhs;rw[<-e]);rw[jq];rfl
  rw[e2];simp only[newL,bM,au];exact q
theorem Zi (H:pF μ o L T ls Zl mv Zh) (hd:d<Zl.length) (hl:(Zl[d]?.getD []).length<600)
  (q:∀ (μ':Mem) (n:Nat) (ns:List Nat),Fr [] μ μ'->LL μ' μ.length n ns (Zl[d]?.getD [])->Z.rt (.loc n) μ'):wSs Mw Z [some (.loc o),some (aR d)] μ:=by
 simp only[Mw,wSs,wS,wE,wEs,wI,aW,bh,aG,aJ];refine H.EY ?_;obtain⟨l,l1,l2,l3⟩:=H.lane hd;refine l3 _ ?_;rw[bI hd]at hl q;simp only[fV]at hl q;simp only[kZ,l2];generalize Zl[d]=rs at hl q l2;refine lR (fun ds acc μ'=>∃ j:Nat,j<=rs.length/\ds=cG (rs.drop j)/\acc=(aN j).map (fun k=>D.loc (μ.length+k))/\μ'=μ++(rs.take j).map (fun r=>Cell.lst (r.map bH))) ?_ ?_ _ _ _ ⟨0,iH _,rfl,rfl,by simp⟩
 .rintro e ds acc μ' Y N hY hN ⟨j,hj,e1,rfl,rfl⟩
  have hj2:j<rs.length:=by
   rcases dH j rs.length with z|z
   .exact z
   .rw[CQ z]at e1;simp[cG]at e1
  rw[zQ hj2]at e1;simp only[cG,aW,eH]at e1;obtain⟨rfl,rfl⟩:=e1;refine⟨by rw[cL (aB l2)];exact l2,?_⟩;simp only[bindC,wTs,wE,wEs,aG,bM,au,newL,if_true];refine hY _ _ ⟨j+1,hj2,rfl,?_,?_⟩
  .rw[yD];simp;omega
  .have et:rs.take (j+1)=rs.take j++[rs[j]]:=by rw[List.take_add_one,bI hj2];rfl
   rw[et,qI,<-fL];rfl
 .rintro acc μ' ⟨j,hj,e1,rfl,rfl⟩
  have hj2:j=rs.length:=by have:=congrArg fK e1;simp[cG]at this;omega
  subst hj2;refine⟨by rw[cL (aB l2)];exact l2,?_⟩;simp only[newL,List.take_length];refine q _ _ ((aN rs.length).map fun k=>μ.length+k) (Fr.app.Yc _) ⟨by simp,?_,by simp,fun x hx=>?_,fun i x r a b=>?_⟩
  .simp[HW]
  .simp at hx
   obtain⟨k,hk,rfl⟩:=hx;simp;omega
  .have hi:i<rs.length:=(cF.mp b).1
   (have ex:x=μ.length+i:=by simp[hi]at a;omega);subst ex;rw[fL,jt (by omega),show μ.length+i -μ.length=i by omega,cL (by simpa using hi)];simp[b]
theorem PL:Keeps Aa Ay wL:=by rintro ds μ Q ⟨o,L,T,ls,Zl,mv,Zh,d,rfl,H,hd,hl,q⟩;have tz:=fun(Z:dO)=>Zi (Z:=Z) H hd hl;simp only[Ay];generalize Mw=E at tz;simp only[Aa,aF,cC,wSs,wS,wE,wEs,wI,aW,bh,aY,bB,bG,aZ,aG,aJ];refine⟨H.isI _,o,L,T,ls,Zl,mv,Zh,d,rfl,H,hd,?_⟩;exact tz _ q
theorem Zk (ho:μ[o]?=some (.ins "House" [])) (h3:3<=m) (h6:m<=6) (q:∀ μ' L T ls,Fr [o] μ μ'->pF μ' o L T ls (aV m []) 0 []->(∀ x∈L::T::ls,μ.length<=x)->Z.nx [some (.loc o),some (.int (m:Int))] μ'):wSs Mz Z [some (.loc o),some (.int (m:Int))] μ:=by
 have lo:=aB ho;simp only[Mz,wSs,wS,wE,wEs,wI,qC,jf,aW,bh,aG,aJ];refine⟨by simp only[lim];omega,by omega,?_⟩;rw[qK,dG];refine lR (fun ds acc μ'=>∃ j:Nat,j<=m/\ds=(gG j (m -j)).map (fun(k:Nat)=>D.int (k:Int))/\acc=(aN j).map (fun k=>D.loc (μ.length+k))/\μ'=μ++aV j (Cell.lst [])) ?_ ?_ _ _ _ ⟨0,iH _,by simp[uI],rfl,by simp⟩
 .rintro e ds acc μ' Y N hY hN ⟨j,hj,e1,rfl,rfl⟩
  have hj2:j<m:=by
   rcases dH j m with z|z
   .exact z
   .rw[show m -j=0 by omega]at e1;simp at e1
  rw[show m -j=(m -(j+1))+1 by omega,lC]at e1;simp only[aW,eH]at e1;obtain⟨rfl,rfl⟩:=e1;refine⟨trivial,?_⟩;simp only[bindC,wTs,newL,if_true];refine⟨by simp[lim],hY _ _ ⟨j+1,hj2,rfl,?_,?_⟩⟩
  .rw[yD];simp
  .rw[ac3];simp
 .rintro acc μ' ⟨j,hj,e1,rfl,rfl⟩
  have hj2:j=m:=by have:=congrArg fK e1;simp at this;omega
  subst hj2;refine⟨trivial,?_⟩;have i0:∀ ν:Mem,(μ++ν)[o]?=some (.ins "House" []):=fun ν=>by rw[cL lo];exact ho
  have lj:∀ (c:Cell),(μ++aV j (Cell.lst [])++[c]).length=μ.length+j+1:=fun c=>by simp;omega
  have lj0:(μ++aV j (Cell.lst [])).length=μ.length+j:=by simp
  simp only[newL,lj0];generalize hM:μ++aV j (Cell.lst [])++[Cell.lst ((aN j).map fun k=>D.loc (μ.length+k))]=M;have lM:M.length=μ.length+j+1:=by rw[<-hM];exact lj _
  have M0:M[o]?=some (.ins "House" []):=by rw[<-hM,fL];exact i0 _
  have w:∀ (N:Mem) (nm:String) (v:D) (fs:List (String×D)) (k:Mem->Prop),N[o]?=some (.ins "House" fs)->fs.length<1000->k (N.set o (.ins "House" (putD nm v fs)))->mK "House" nm (.loc o) v N k:=fun N nm v fs k h h2 h3=>by simpa[mK,jP,h,lim]using Nq h2 h3
  have p1:putD "laid" (D.loc (μ.length+j)) []=[("laid",.loc (μ.length+j))]:=rfl;have p2:putD "poured" (D.int 0) [("laid",D.loc (μ.length+j))]=[("laid",.loc (μ.length+j)),("poured",.int 0)]:=by simp[putD]
  have p3:∀ x:Nat,putD "history" (D.loc x) [("laid",D.loc (μ.length+j)),("poured",D.int 0)]=[("laid",.loc (μ.length+j)),("poured",.int 0),("history",.loc x)]:=fun x=>by simp[putD]
  have oM:o<M.length:=by omega
  refine w _ _ _ _ _ M0 (by simp) ?_;rw[p1];refine w _ _ _ _ _ (cT oM) (by simp) ?_;rw[p2,List.set_set];refine⟨by decide,?_⟩;refine w _ _ _ [("laid",.loc (μ.length+j)),("poured",.int 0)] _ (by rw[cL (by simp;omega)];exact cT oM) (by simp) ?_;rw[p3,Vl,lM];have gl:∀ i:Nat,i<j->M[μ.length+i]?=some (.lst []):=fun i hi=>by rw[<-hM,fL,jt (by omega),show μ.length+i -μ.length=i by omega,cL (by simpa using hi)];simp[hi]
  have gL:M[μ.length+j]?=some (.lst ((aN j).map fun k=>D.loc (μ.length+k))):=by rw[<-hM,jt (by simp)];simp
  refine q _ (μ.length+j) (μ.length+j+1) ((aN j).map fun k=>μ.length+k) ?_ ⟨?_,?_,?_,by simp,fun i l rs a b=>?_,?_⟩ ?_
  .refine⟨by simp;omega,fun x hx hn=>?_⟩
   have hne:o≠x:=fun z=>hn (by simp[z]);rw[bR hne,cL (by simp;omega),bR hne,<-hM,fL,cL hx]
  .exact cT (by simp;omega)
  .rw[bR (by omega),cL (by simp;omega),bR (by omega),gL]
   simp[HW]
  .rw[bR (by omega),jt (by simp;omega)]
   simp[lM]
  .have hi:i<j:=by have:=(cF.mp a).1;simpa using this
   (have el:l=μ.length+i:=by simp[hi]at a;omega);(have er:rs=[]:=by simp[hi]at b;exact b);subst el;subst er;rw[bR (by omega),cL (by simp;omega),bR (by omega),gl i hi];rfl
  .simp only[oZ,aO,jG,oY,not_or,not_exists,not_and]
   refine⟨⟨by omega,by omega,fun x hx=>by omega⟩,⟨by omega,fun x hx=>by omega⟩,fun x hx=>by omega,?_⟩;exact Dg (fun a b h=>by omega) List.nodup_range
  .intro x hx
   simp only[aO,jG,oY]at hx;rcases hx with rfl|rfl|⟨k,hk,rfl⟩<;>omega
theorem PX:Keeps Ac Ba wN:=by rintro ds μ Q ⟨o,m,rfl,ho,h3,h6,q⟩;have tz:=fun(Z:dO)=>Zk (Z:=Z) ho h3 h6;simp only[Ba];generalize Mz=E at tz;simp only[Ac,aF,cC,wSs,wS,wE,wEs,aW,bh,aY,bB,bG,aZ,aG,aJ];exact⟨m,rfl,by omega,by omega,tz _ q⟩
theorem La (rs:List (List Itm)) (r:List Itm):cG rs++[.lst (r.map bH)]=cG (rs++[r]):=by simp[cG]
theorem Qn {o L T:Nat} {ls:List Nat} {d l:Nat} (h:ls[d]?=some l):l∈fp o L T ls:=by simp[jr h]
theorem aa4 (H:pF μ o L T ls Zl mv Zh) (hd:d<Zl.length) (he:rD μ e r) (hne:∀ n,e= .loc n->n∉fp o L T ls) (rl:r.length<500) (hl:(Zl[d]?.getD []).length<500) (hh:Zh.length<500)
  (q:∀ μ',Fr (fp o L T ls) μ μ'->pF μ' o L T ls (Zl.set d (Zl[d]?.getD []++[r])) mv (Zh++[ajD d r.length])->Z.nx [some (.loc o),some (aR d),some e] μ'):wSs XK Z [some (.loc o),some (aR d),some e] μ:=by
 simp only[XK,wSs,wS,wE,wEs,aY,bB,aG,aJ];refine H.EY ?_;obtain⟨l,l1,l2,l3⟩:=H.lane hd;rw[bI hd]at hl q;simp only[fV]at hl q;simp only[aR];refine l3 _ ?_;refine⟨by simp[isCell,l2],?_⟩;simp only[bM,he.2,dU,l2,bY];refine⟨by simp only[cG,aU,lim];omega,?_⟩;rw[La];have H2:=H.put l1 (Zl[d]++[r]);have F2:Fr (fp o L T ls) μ (μ.set l (.lst (cG (Zl[d]++[r])))):=Fr.set (Qn l1);have he2:=Zv he F2 hne;generalize μ.set l (.lst (cG (Zl[d]++[r])))=μ2 at H2 F2 he2;refine H2.ahX ?_;refine⟨by simp[isCell,H2.hi],?_⟩;have SN:=WK he2.1 he2.2;rw[SN];simp only[aU];refine⟨by simp[lim],?_⟩;simp only[H2.hi];refine⟨by simp only[lim];omega,?_⟩;exact q _ (F2.trans (Fr.set (by simp))) (H2.akU (Zh':=Zh++[ajD d r.length]))
theorem R7:Keeps Ep Ey nY:=by
 rintro ds μ Q ⟨o,L,T,ls,Zl,mv,Zh,d,e,r,rfl,H,hd,he,hne,ris,rl,hl,hh,q⟩;have tz:=fun(Z:dO)=>aa4 (Z:=Z) H hd he hne rl hl hh;simp only[Ey];generalize XK=E at tz;simp only[Ep,aF,cC,wSs,wS,wE,wEs,newL,aW,bh,aY,bB,bG,aZ,aG,aJ];refine⟨H.isI _,o,L,T,ls,Zl,mv,Zh,d,rfl,H,hd,by simp[lim],?_⟩;refine⟨.lst [e],[r],rfl,⟨.inr ⟨_,rfl⟩,[e],rfl,rfl,fun i e' r' a b=>?_⟩,fun r' h'=>?_,?_⟩
 .have:i=0:=by have:=(cF.mp a).1;simp at this;omega
  subst this;simp at a b;subst a;subst b;exact he
 .have:r'=r:=by simpa using h'
  subst this;exact⟨GZ ris,by omega⟩
 .exact tz _ q
theorem in_nums {src:List Nat} {t:Nat}:((src.map aR).any fun d=>kO d (.int (t:Int)))=decide (t∈src):=by
 induction src with
 |nil=>rfl|cons a l ih=>
  simp only[aW,Vg,ih,aR,kO,aO];by_cases c:t=a
  .subst c;simp
  .have:¬((a:Int)=(t:Int)):=by omega
   simp[this,c]
theorem Dc (n:Nat) (l:List Nat):flats n (l.map aR)=true:=by
 induction l with
 |nil=>rfl|cons a l ih=>simp[flats,flat,aR,ih]
theorem agM {μ:Mem} {e:D} {src:List Nat} {t:Nat} {Q:QD} (h:mG μ e src) (q:Q (.bl (decide (t∈src))) μ):dh .In (.int (t:Int)) e μ Q:=by
 rw[<-in_nums]at q;obtain⟨h1,h2⟩:=h;rcases h1 with(⟨n,rfl⟩|⟨l,rfl⟩)|⟨l,rfl⟩
 .simp only[dh,h2];exact⟨Dc 60 _,rfl,q⟩
 .simp only[dh,h2];exact⟨Dc 60 _,rfl,q⟩
 .simp only[dh,h2];exact⟨Dc 60 _,rfl,q⟩
theorem Y4:∀ (l:List Int) (a:List Int),(a++l).Nodup->(l.foldl (fun(a:List Int) x=>if a.any (·==x)then a else a++[x]) a)=a++l
 |[],a,_=>by simp|x::l,a,h=>by
  have hx:(a.any (·==x))=false:=by rw[Bool.eq_false_iff];intro z;rw[Vw]at z;obtain⟨y,hy,e⟩:=z;have:=eq_of_beq e;subst this;exact(Oi.mp h).2.2 y hy y (by simp) rfl
  rw[lA,hx];simp only[dB,if_false];rw[Y4 l (a++[x]) (by simpa using h)];simp
theorem W9 (h:l.Nodup):JC l=l.length:=by unfold JC;rw[Y4 l [] (by simpa using h)];rfl
theorem tX:Keeps lE lJ jX:=by
 rintro ds μ Q ⟨o,L,T,ls,Zl,mv,Zh,e,src,rfl,H,he,l2,l6,nd,hlt,q⟩;have SN:=aej he;have hty:∃ s,tyOf μ e=some s/\(tZ s "list"||tZ s "tuple")=true:=by
  obtain⟨h1,h2⟩:=he;rcases h1 with(⟨n,rfl⟩|⟨l,rfl⟩)|⟨l,rfl⟩
  .simp only[au]at h2
   split at h2
   .rename_i z
    exact⟨"list",by simp only[tyOf,z],rfl⟩
   .cases h2
  .exact⟨"list",rfl,rfl⟩
  .exact⟨"tuple",rfl,rfl⟩
 obtain⟨s,hs1,hs2⟩:=hty;simp only[lJ,lE,aF,cC,wSs,wS,wT,wE,wEs,wI,Gi,hs1,hs2,gZ,bM,SN,aW,bh,aY,bB,bG,aZ,aG,aJ,rT,dB,if_false,dh,Et,aV];have c2:¬((src.length:Int)<2):=by omega
 simp only[c2,decide_false,dB,if_false];refine zW he fun g hg=>?_;refine bK (fun ds ρ μ'=>∃ (l:List Nat) (a:Option D),ds=l.map aR/\(∀ d∈l,d<Zl.length)/\μ'=μ/\ρ=[some (.loc o),some e,a]) ?_ ?_ _ _ _ ⟨src,none,rfl,hlt,rfl,rfl⟩
 .rintro d ds ρ μ' N hN ⟨l,a,e1,hin,rfl,rfl⟩
  cases l with
  |nil=>simp at e1|cons x l=>simp only[aW,eH]at e1;obtain⟨rfl,rfl⟩:=e1;refine⟨hg _ he,?_⟩;simp only[dg,bD,bC,aG,aJ];refine⟨H.isI _,o,L,T,ls,Zl,mv,Zh,x,rfl,H,hin x (by simp),?_⟩;exact hN _ _ ⟨l,_,rfl,fun d hd=>hin d (by simp[hd]),rfl,rfl⟩
 .rintro ρ μ' ⟨l,a,e1,hin,rfl,rfl⟩
  refine⟨hg _ he,?_⟩;have ei:gJ (src.map aR)=some (src.map fun(k:Nat)=>(k:Int)):=ou (fun(k:Nat)=>(k:Int)) src;have dn:JC (src.map fun(k:Nat)=>(k:Int))=src.length:=by rw[W9,aU];exact Dg (fun a b h=>by omega) nd
  simp only[wT,wE,wEs,aG,aJ,XH,he.2,oO,ei,dn,bM,SN,dh,Et,gZ,aU];refine⟨by omega,?_⟩;have c3:¬((src.length:Int)<(src.length:Int)):=by omega
  simp only[c3,decide_false,dB,if_false];exact q
theorem sY:Keeps kj kI jK:=by
 rintro ds μ Q ⟨o,L,T,ls,Zl,mv,Zh,e,src,rfl,H,he,hlt,q⟩;simp only[kI,kj,aF,cC,wSs,wS,wE,wEs,wI,aW,bh,aY,bB,bG,aZ,aG,aJ,aV];refine zW he fun g hg=>?_;refine bK (fun ds ρ μ'=>∃ (l:List Nat) (a:Option D),ds=l.map aR/\(∀ d∈l,d<Zl.length/\Zl[d]?.getD []≠[])/\μ'=μ/\ρ=[some (.loc o),some e,a]) ?_ ?_ _ _ _ ⟨src,none,rfl,hlt,rfl,rfl⟩
 .rintro d ds ρ μ' N hN ⟨l,a,e1,hin,rfl,rfl⟩
  cases l with
  |nil=>simp at e1|cons x l=>
   simp only[aW,eH]at e1;obtain⟨rfl,rfl⟩:=e1;refine⟨hg _ he,?_⟩;obtain⟨hx,hxn⟩:=hin x (by simp);obtain⟨l',l1,l2,l3⟩:=H.lane hx;rw[bI hx]at hxn;simp only[fV]at hxn;simp only[dg,bD,bC,aG,aJ,wT,wE,aR];refine H.EY ?_;refine l3 _ ?_;simp only[iu,truth,lenOf,au,l2,dz,cG,aU];have e0:((Zl[x]).length !=0)=true:=by
    cases q':Zl[x] with
    |nil=>exact absurd q' hxn|cons a r=>rfl
   simp only[e0,rT,dB,if_false,wSs];exact hN _ _ ⟨l,_,rfl,fun d hd=>hin d (by simp[hd]),rfl,rfl⟩
 .rintro ρ μ' ⟨l,a,e1,hin,rfl,rfl⟩
  exact⟨hg _ he,q⟩
theorem qP:∀ (src:List Nat) (Zl:List (List (List Itm))) (d:Nat),d∉src->(pops Zl src)[d]?=Zl[d]?
 |[],_,_,_=>rfl|x::src,Zl,d,h=>by show(pops (Zl.set x _) src)[d]?=_;rw[qP src _ d (fun z=>h (by simp[z])),bR (fun z=>h (by simp[z]))]
theorem ZC (src:List Nat) (Zl:List (List (List Itm))) (x:Nat):pops Zl (src++[x])=(pops Zl src).set x ((pops Zl src)[x]?.getD []).tail:=by unfold pops;rw[HX];rfl
theorem Zj (H:pF μ o L T ls Zl mv Zh) (he:mG μ e src) (hne:∀ n,e= .loc n->n∉fp o L T ls) (l2:2<=src.length) (l6:src.length<=6) (nd:src.Nodup) (hlt:∀ d∈src,d<Zl.length/\Zl[d]?.getD []≠[]) (ht:t<Zl.length) (hts:t∉src) (ok:alG Zl) (fl:(iJ Zl src).flatten.length<800) (tl:(Zl[t]?.getD []).length<500) (hh:Zh.length<500)
  (q:∀ (μ':Mem) (n:Nat),Fr (fp o L T ls) μ μ'->pF μ' o L T ls (Km Zl src t) (mv+(iJ Zl src).flatten.length) (Zh++[Zy src t (iJ Zl src).flatten.length])->μ.length<=n->μ'[n]?=some (.lst ((CZ (iJ Zl src)).map bH))->Z.rt (.loc n) μ'):wSs Mx Z [some (.loc o),some e,some (.int (t:Int)),v3,v4] μ:=by
 simp only[Mx,wSs,wS,wT,wE,wEs,wI,aW,bh,aY,bB,aG,aJ];refine zW he fun g hg=>?_;refine d8 aR (fun _=>true) (fun d=>D.lst ((((Zl[d]?.getD []).head?).getD []).map bH)) (hg _ he) _ _ ?_ ?_
 .intro d hd Y N z
  obtain⟨hx,hxn⟩:=hlt d hd;obtain⟨l',l1,l2,l3⟩:=H.lane hx;rw[bI hx]at hxn z;simp only[fV,if_true]at hxn z;simp only[bindC,wTs,aW,bh,aG,aJ,pP,if_true,aR];refine H.EY ?_;refine l3 _ ?_;cases q':Zl[d] with
  |nil=>exact absurd q' hxn|cons r rs=>rw[q']at l2 z;rw[jV (ds:=cG (r::rs)) (p:=0) (e:=.lst (r.map bH)) (.inl ⟨_,rfl⟩) (by simp only[au,l2]) (by simp[cG,pG]) (by simp[cG])];simpa using z
 rw[Cz.mpr (by simp),aZ];have ef:(src.map fun d=>D.lst ((((Zl[d]?.getD []).head?).getD []).map bH))=cG (iJ Zl src):=by simp[cG,iJ]
 rw[ef];simp only[newL];have okf:∀ r∈iJ Zl src,bQ r/\r.length<500:=fun r hr=>by
  simp only[iJ,jG]at hr;obtain⟨d,hd,rfl⟩:=hr;obtain⟨hx,hxn⟩:=hlt d hd;rw[bI hx]at hxn ⊢;simp only[fV]at hxn ⊢;cases q':Zl[d] with
  |nil=>exact absurd q' hxn|cons r rs=>exact ok _ (uH hx) r (by rw[q'];simp)
 have lf:(iJ Zl src).length=src.length:=by simp[iJ]
 have mb:(iJ Zl src).length*((iJ Zl src).flatten.length+1)<=6*800:=abX (by omega) (by omega);refine⟨_,iJ Zl src,rfl,Um _ _,fun r hr=>⟨GZ (okf r hr).1,by have:=(okf r hr).2;omega⟩,by omega,by omega,by omega,fun μ1 a b F1 al bl ab ha hb=>?_⟩;have i0:∀ (Q:QD),Q (.loc a) μ1->d7 (.tup [.loc a,.loc b]) (.int 0) μ1 Q:=fun Q z=>by simpa[d7,au,pG]using z
 refine i0 _ ?_;simp only[Q8,ha,bD,bC,aG,aJ];have F2:Fr [] μ (μ1.set a Cell.gone):=F1.agk _ al;have H2:pF (μ1.set a Cell.gone) o L T ls Zl mv Zh:=H.fr F2 (by simp);have he2:mG (μ1.set a Cell.gone) e src:=he.fr F2 (by simp);generalize μ1.set a Cell.gone=μ2 at F2 H2 he2;have lr:(CZ (iJ Zl src)).length=(iJ Zl src).flatten.length:=(CX _).length_eq;generalize hR:CZ (iJ Zl src)=R at lr q;refine zW he2 fun g hg=>?_;refine bK (fun ds ρ μ'=>∃ (pre suf:List Nat) (v:Option D),src=pre++suf/\ds=suf.map aR/\Fr (fp o L T ls) μ2 μ'/\pF μ' o L T ls (pops Zl pre) mv Zh/\mG μ' e src/\ρ=[some (.loc o),some e,some (.int (t:Int)),some (.lst (R.map bH)),v]) ?_ ?_ _ _ _ ⟨[],src,_,rfl,rfl,Fr.refl,H2,he2,rfl⟩
 .rintro d ds ρ μ' N hN ⟨pre,suf,v,es,e1,F',H',he',rfl⟩
  cases suf with
  |nil=>simp at e1|cons x suf=>
   simp only[aW,eH]at e1;obtain⟨rfl,rfl⟩:=e1;refine⟨hg _ he',?_⟩;obtain⟨hx,hxn⟩:=hlt x (by rw[es];simp);have hxp:x∉pre:=fun z=>by rw[es]at nd;exact(Oi.mp nd).2.2 x z x (by simp) rfl
   (have hxl:x<(pops Zl pre).length:=by rw[qO];exact hx);obtain⟨l',l1,l2,l3⟩:=H'.lane hxl;have eg:(pops Zl pre)[x]=Zl[x]:=by have:=qP pre Zl x hxp;rw[bI hxl,bI hx]at this;exact cH this
   rw[bI hx]at hxn;simp only[fV]at hxn;simp only[dg,bD,bC,aG,aJ,aR];refine H'.EY ?_;refine l3 _ ?_;rw[eg]at l2;cases q':Zl[x] with
   |nil=>exact absurd q' hxn|cons r rs=>rw[q']at l2;(have ex:(cG (r::rs)).eraseIdx 0=cG rs:=by simp[cG]);refine⟨by simp[isCell,l2],?_⟩;simp only[dU,l2,bY];(have i1:pG (cG (r::rs)).length 0=some 0:=by simp[pG,cG]);(have i2:(cG (r::rs))[0]?=some (.lst (r.map bH)):=by simp[cG]);simp only[i1,i2,ex];have H3:=H'.put l1 rs;have F3:Fr (fp o L T ls) μ' (μ'.set l' (.lst (cG rs))):=Fr.set (Qn l1);refine hN _ _ ⟨pre++[x],suf,_,by simp[es],rfl,F'.trans F3,?_,he'.fr F3 hne,rfl⟩;rw[ZC,bI hxl,eg,q'];exact H3
 .rintro ρ μ' ⟨pre,suf,v,es,e1,F',H',he',rfl⟩
  cases suf with
  |cons x suf=>simp at e1|nil=>
   simp only[uP]at es;subst es;refine⟨hg _ he',?_⟩;(have htl:t<(pops Zl src).length:=by rw[qO];exact ht);obtain⟨l',l1,l2,l3⟩:=H'.lane htl;have eg:(pops Zl src)[t]=Zl[t]:=by have:=qP src Zl t hts;rw[bI htl,bI ht]at this;exact cH this
   rw[bI ht]at tl;simp only[fV]at tl;simp only[aG,aJ];refine H'.EY ?_;refine l3 _ ?_;refine⟨by simp[isCell,l2],?_⟩;simp only[dU,l2,bY];refine⟨by rw[eg];simp only[cG,aU,lim];omega,?_⟩;rw[La];have H3:=H'.put l1 ((pops Zl src)[t]++[R]);have F3:Fr (fp o L T ls) μ' (μ'.set l' (.lst (cG ((pops Zl src)[t]++[R])))):=Fr.set (Qn l1);have he3:=he'.fr F3 hne;have F3':=F'.trans F3;generalize μ'.set l' (.lst (cG ((pops Zl src)[t]++[R])))=μ3 at H3 he3 F3';refine H3.YX ?_;(have lnR:∀ ν:Mem,lenOf ν (.lst (R.map bH))=some R.length:=fun ν=>by simp[lenOf,au]);simp only[bM,lnR,uf];refine H3.putN fun μ4 e4 H4=>?_;(have F4:Fr (fp o L T ls) μ3 μ4:=by rw[e4];exact Fr.set (by simp));have he4:=he3.fr F4 hne;have F4':=F3'.trans F4;clear e4;refine H4.ahX ?_;refine⟨by simp[isCell,H4.hi],?_⟩;simp only[he4.2,lnR,aY,bB];refine⟨by simp[lim],?_⟩;simp only[H4.hi];refine⟨by simp only[lim];omega,?_⟩;have H5:=H4.akU (Zh':=Zh++[Zy src t R.length]);have F5:Fr (fp o L T ls) μ4 (μ4.set T (.lst (Zh++[Zy src t R.length]))):=Fr.set (by simp);have F5':=F4'.trans F5;have em:(D.tup [D.str [112,111,117,114],D.tup (src.map aR),D.int (t:Int),D.int (R.length:Int)])=Zy src t R.length:=rfl;rw[em];generalize μ4.set T (.lst (Zh++[Zy src t R.length]))=μ5 at H5 F5 F5';have sqR:∀ ν:Mem,au ν (.lst (R.map bH))=some (R.map bH):=fun ν=>rfl;simp only[newL,sqR];have hS:(pops Zl src).set t ((pops Zl src)[t]++[R])=Km Zl src t:=by unfold Km;rw[hR,bI htl];rfl
   rw[hS,lr]at H5;have F0:Fr (fp o L T ls) μ μ2:=F2.more (by simp);refine q _ _ ((F0.trans F5').trans Fr.app) H5.app ?_ (by simp);have:=F2.1;have:=F5'.1;omega
theorem PN:Keeps Ab Az wM:=by rintro ds μ Q ⟨o,L,T,ls,Zl,mv,Zh,e,src,t,rfl,H,he,hne,l2,l6,nd,hlt,ht,hts,ok,fl,tl,hh,q⟩;have tz:=fun(Z:dO)=>Zj (v3:=none) (v4:=none) (Z:=Z) H he hne l2 l6 nd hlt ht hts ok fl tl hh;simp only[Az];generalize Mx=E at tz;simp only[Ab,aF,cC,wSs,wS,wT,wE,wEs,wI,aW,bh,aY,bB,bG,aZ,aG,aJ,aV];refine⟨H.isI _,o,L,T,ls,Zl,mv,Zh,e,src,rfl,H,he,l2,l6,nd,fun d hd=>(hlt d hd).1,?_⟩;refine⟨H.isI _,o,L,T,ls,Zl,mv,Zh,t,rfl,H,ht,?_⟩;simp only[aR];refine agM he ?_;simp only[gZ,decide_eq_false hts,dB,if_false];refine⟨H.isI _,o,L,T,ls,Zl,mv,Zh,e,src,rfl,H,he,hlt,?_⟩;exact tz _ q
end DW.HOU
namespace DW.PHA
open PySem DW DW.KQ DW.Mq DW.POU DW.HOU
noncomputable abbrev jT:=List (List (List Itm))
def ln (a:jT):List Int:=a.map fun l=>(l.length:Int)
def lg (a:jT):List (List Int):=a.map fun l=>l.map fun r=>(r.length:Int)
theorem Yd:∀ (src:List Nat) (a:jT) (d:Nat),src.Nodup->d∈src->(pops a src)[d]?=a[d]?.map List.tail
 |[],_,_,_,h=>by cases h
 |x::src,a,d,nd,h=>by
  rw[oZ]at nd;show(pops (a.set x _) src)[d]?=_;rcases aO.mp h with rfl|h
  .rw[qP src _ d nd.1]
   by_cases hd:d<a.length
   .rw[cT hd];simp[hd]
   .simp[uT hd]
  .have hne:x≠d:=fun z=>nd.1 (z▸h)
   rw[Yd src _ d nd.2 h,bR hne]
def Je (S:List Nat) (t:Nat) (a:jT):Nat->jT
 |0=>a|x+1=>Km (Je S t a x) S t
def tk (S:List Nat) (a:jT) (j:Nat):List (List Itm):=S.map fun i=>((a[i]?.getD [])[j]?).getD []
structure Ph (a:jT) (S:List Nat) (t x:Nat):Prop where
 nd:S.Nodup
 ts:t∉S
 tl:t<a.length
 sl:∀ i∈S,i<a.length/\x<=(a[i]?.getD []).length
section
variable {a:jT} {S:List Nat} {t x:Nat}
structure At (S:List Nat) (t:Nat) (a b:jT) (y:Nat):Prop where
 len:b.length=a.length
 src:∀ i∈S,b[i]?=some ((a[i]?.getD []).drop y)
 tgt:b[t]?=some (a[t]?.getD []++(aN y).map fun j=>CZ (tk S a j))
 oth:∀ i,i∉S->i≠t->b[i]?=a[i]?
theorem At.iJ {b:jT} {y:Nat} (h:At S t a b y):iJ b S=tk S a y:=by unfold HOU.iJ tk;refine qN fun i hi=>?_;rw[h.src i hi,fV,ab2]
theorem vo (h:Ph a S t x):∀ y,y<=x->At S t a (Je S t a y) y
 |0,_=>⟨rfl,fun i hi=>by simp[Je,(h.sl i hi).1],by simp[Je,h.tl],fun _ _ _=>rfl⟩|y+1,hy=>by
  have ih:=vo h y (by omega);have hf:=ih.iJ;show At S t a (Km (Je S t a y) S t) (y+1);generalize Je S t a y=b at ih hf;unfold Km;rw[hf];have hb:t<(pops b S).length:=by rw[qO,ih.len];exact h.tl
  refine⟨by rw[Vl,qO,ih.len],fun i hi=>?_,?_,fun i h1 h2=>?_⟩
  .have hne:t≠i:=fun z=>h.ts (z▸hi)
   rw[bR hne,Yd S b i h.nd hi,ih.src i hi];simp[List.tail_drop]
  .rw[cT hb,qP S b t h.ts,ih.tgt,yD]
   simp
  .rw[bR (bN h2),qP S b i h1]
   exact ih.oth i h1 h2
def mvP (S:List Nat) (a:jT):Nat->Int
 |0=>0|x+1=>mvP S a x+((tk S a x).flatten.length:Int)
end
def tkL (S:List Nat) (l:List (List Int)) (j:Nat):Int:=(S.map fun i=>((l[i]?.getD [])[j]?).getD 0).sum
def mvL (S:List Nat) (l:List (List Int)):Nat->Int
 |0=>0|x+1=>mvL S l x+tkL S l x
theorem Lw (a:jT) (i:Nat):(lg a)[i]?.getD []=(a[i]?.getD []).map fun r=>(r.length:Int):=by unfold lg;rw[fW];cases a[i]?<;>rfl
theorem S8:∀ rs:List (List Itm),((rs.flatten.length:Nat):Int)=(rs.map fun r=>(r.length:Int)).sum
 |[]=>rfl|r::rs=>by have:=S8 rs;simp only[oU,gV,aW,List.sum_cons];omega
theorem aa5 (S:List Nat) (a:jT) (j:Nat):(((tk S a j).flatten.length:Nat):Int)=tkL S (lg a) j:=by rw[S8];unfold tk tkL;rw[jq];congr 1;refine qN fun i _=>?_;rw[Lw];simp only[acS,fW];cases(a[i]?.getD [])[j]?<;>rfl
theorem aer (S:List Nat) (a:jT):∀ x,mvP S a x=mvL S (lg a) x
 |0=>rfl|x+1=>by unfold mvP mvL;rw[aer S a x,aa5]
def stL (S:List Nat) (t:Nat) (l:List (List Int)) (x:Nat):List (List Int):=(aN l.length).map fun i=>if i=t then(aN x).map fun j=>tkL S l j else(l[i]?.getD []).drop x
theorem aei (rs:List (List Itm)):(CZ rs).length=rs.flatten.length:=(CX rs).length_eq
theorem ajz {a:jT} {S:List Nat} {t x:Nat} (h:Ph a S t x) (hS:∀ i,i<a.length->i≠t->i∈S) (h0:a[t]?.getD []=[]):lg (Je S t a x)=stL S t (lg a) x:=by
 have A:=vo h x (aL _);apply oR;intro i;unfold stL;have hl:(lg a).length=a.length:=by simp[lg]
 by_cases hi:i<a.length
 .rw[fW,OD (by rw[hl];exact hi),dz]
  unfold lg;rw[fW];by_cases c:i=t
  .subst c
   rw[if_pos rfl,A.tgt,h0,aZ,dz,jq];congr 1;refine qN fun j _=>?_;show((CZ (tk S a j)).length:Int)=_;rw[aei,aa5];rfl
  .rw[if_neg c,A.src i (hS i hi c),dz,N5]
   have:=Lw a i;unfold lg at this;rw[this]
 .have h1:(lg (Je S t a x)).length=a.length:=by simp[lg,A.len]
  rw[gW (by rw[h1];omega),gW (by simp[hl];omega)]
theorem ajw {a:jT} {S:List Nat} {t x:Nat} (h:Ph a S t x) (hS:∀ i,i<a.length->i≠t->i∈S) (h0:a[t]?.getD []=[]):ln (Je S t a x)=(aN a.length).map fun i=>if i=t then(x:Int)else(((a[i]?.getD []).length:Nat):Int) -(x:Int):=by
 have A:=vo h x (aL _);apply oR;intro i;unfold ln;by_cases hi:i<a.length
 .rw[fW,fW,OD hi,dz]
  by_cases c:i=t
  .subst c
   rw[if_pos rfl,A.tgt,h0,dz];simp
  .rw[if_neg c,A.src i (hS i hi c),dz,uU]
   have:=(h.sl i (hS i hi c)).2;congr 1;omega
 .rw[gW (by simp[A.len];omega),gW (by simp;omega)]
theorem W0 {a:jT} {S:List Nat} {t x:Nat} (h:Ph a S t x) (hS:∀ i,i<a.length->i≠t->i∈S) (hr:∀ l∈a,∀ r∈l,bQ r):∀ l∈Je S t a x,∀ r∈l,bQ r:=by
 have A:=vo h x (aL _);intro l hl r hr';obtain⟨i,hi,rfl⟩:=CG hl;have hi':i<a.length:=by rw[<-A.len];exact hi
 have mem:∀ k,k<a.length->∀ r∈a[k]?.getD [],bQ r:=fun k hk r ali=>by rw[bI hk,fV]at ali;exact hr _ (uH hk) r ali
 by_cases c:i=t
 .subst c
  have e:=A.tgt;rw[bI hi]at e;rw[cH e]at hr';rcases jd.mp hr' with q|q
  .exact mem i hi' r q
  .obtain⟨j,_,rfl⟩:=jG.mp q
   refine Ry fun r hr=>?_;obtain⟨k,hk,rfl⟩:=jG.mp hr;cases e2:(a[k]?.getD [])[j]? with
   |none=>exact uV|some r=>exact mem k (h.sl k hk).1 r (jr e2)
 .have e:=A.src i (hS i hi' c)
  rw[bI hi]at e;rw[cH e]at hr';exact mem i hi' r (V2 hr')
end DW.PHA
namespace DW
open PySem
def ju (n:Nat):D:=.int (n:Int)
def gt (l:List Int) (i:Nat):Int:=l[i]?.getD 0
def TQ (t:Nat) (S:List Nat) (x:Int):D:=.tup [ju t,.tup (S.map ju),.int x]
def Z8 (l:List Int) (t:Nat) (S:List Nat) (x:Int):Prop:=t<l.length/\gt l t=0/\1<=x/\2<=S.length/\S.Pairwise (·<·)/\∀ s∈S,s<l.length/\x<=gt l s
def sub (l:List Int) (A:List Nat) (x:Int):List Int:=(aN l.length).map fun i=>if i∈A then gt l i -x else gt l i
def RZ (l:List Int) (t:Nat) (S:List Nat) (x:Int):List Int:=(aN l.length).map fun i=>if i=t then x else if i∈S then gt l i -x else gt l i
theorem alo {l:List Int} {i:Nat} (h:i<l.length):l[i]?=some (gt l i):=by simp[gt,h]
theorem af9 (l:List Int) (x:Int):sub l [] x=l:=by
 apply oR;intro i;by_cases h:i<l.length
 .simp[sub,h,gt]
 .simp[sub,h,uT h]
theorem af8 {l:List Int} {A:List Nat} {x:Int} {s:Nat} (hs:s<l.length):(sub l A x).set s (gt l s -x)=sub l (A++[s]) x:=by
 apply oR;intro i;by_cases h:i<l.length
 .by_cases e:i=s
  .subst e
   rw[cT (by simpa[sub]using h)];simp[sub,h]
  .rw[bR (bN e)]
   simp[sub,h,e]
 .simp[sub,h,uT h]
theorem aga {l:List Int} {t:Nat} {S:List Nat} {x:Int} (ht:t<l.length):(sub l S x).set t x=RZ l t S x:=by
 apply oR;intro i;by_cases h:i<l.length
 .by_cases e:i=t
  .subst e
   rw[cT (by simpa[sub]using h)];simp[RZ,h]
  .rw[bR (bN e)]
   simp[RZ,sub,h,e]
 .simp[sub,RZ,h,uT h]
def cQ:dZ:=fun ds μ Q=>match ds with|[.int i,.int n]=>Q (.bl (decide (0<=i/\i<n))) μ|_=>False
def uy:dZ:=fun ds μ Q=>∃ (S:List Nat) (l:List Int) (x:Int),ds=[.tup (S.map ju),tW l,.int x]/\2<=S.length/\S.Pairwise (·<·)/\(∀ s∈S,s<l.length/\x<=gt l s)/\Q (.bl true) μ
def Eh:dZ:=fun ds μ Q=>∃ (t:Nat) (S:List Nat) (x:Int) (l:List Int),ds=[TQ t S x,tW l]/\Z8 l t S x/\Q (.bl true) μ
def abh:dZ:=fun ds μ Q=>∃ (l:List Int) (t:Nat) (S:List Nat) (x:Int),ds=[tW l,TQ t S x]/\Z8 l t S x/\∀ c,Q (tW (RZ l t S x)) (μ++[c])
def Ip:List Str:=["thing","many"]
def Jp:Ss:=(.cons (.ret (.and (.call "is_whole" cY (.cons (.var 0) .nil)) (.chain .LtE .Lt (.cst (.int 0)) (.var 0) (.var 1)))) .nil)
def wZ:List Str:=["thing","layout","times","last","drive"]
def xu:Ss:=(.cons (.ite (.or (.not (.isin (.var 0) "tuple")) (.cmp .Lt (.blt "len" (.cons (.var 0) .nil)) (.cst (.int 2)))) (.cons (.ret (.cst (.bl false))) .nil) .nil) (.cons (.set 3 (.neg (.cst (.int 1)))) (.cons (.for_ [4] false (.seq (.var 0)) (.cons (.ite (.or (.not (.call "is_below" cQ (.cons (.var 4) (.cons (.blt "len" (.cons (.var 1) .nil)) .nil)))) (.or (.cmp .LtE (.var 4) (.var 3)) (.cmp .Lt (.idx (.var 1) (.var 4)) (.var 2)))) (.cons (.ret (.cst (.bl false))) .nil) .nil) (.cons (.set 3 (.var 4)) .nil))) (.cons (.ret (.cst (.bl true))) .nil))))
def Io:List Str:=["thing","layout"]
def Jo:Ss:=(.cons (.ite (.or (.not (.isin (.var 0) "tuple")) (.cmp .NotEq (.blt "len" (.cons (.var 0) .nil)) (.cst (.int 3)))) (.cons (.ret (.cst (.bl false))) .nil) .nil) (.cons (.ite (.or (.not (.call "is_below" cQ (.cons (.idx (.var 0) (.cst (.int 0))) (.cons (.blt "len" (.cons (.var 1) .nil)) .nil)))) (.cmp .NotEq (.idx (.var 1) (.idx (.var 0) (.cst (.int 0)))) (.cst (.int 0)))) (.cons (.ret (.cst (.bl false))) .nil) .nil) (.cons (.ite (.or (.not (.call "is_whole" cY (.cons (.idx (.var 0) (.cst (.int 2))) .nil))) (.cmp .Lt (.idx (.var 0) (.cst (.int 2))) (.cst (.int 1)))) (.cons (.ret (.cst (.bl false))) .nil) .nil) (.cons (.ret (.call "are_sources" uy (.cons (.idx (.var 0) (.cst (.int 1))) (.cons (.var 1) (.cons (.idx (.var 0) (.cst (.int 2))) .nil))))) .nil))))
def ahP:List Str:=["layout","phase","told","drive"]
def ahT:Ss:=(.cons (.ite (.not (.call "is_phase" Eh (.cons (.var 1) (.cons (.var 0) .nil)))) (.cons .Yk .nil) .nil) (.cons (.set 2 (.blt "mlist" (.cons (.var 0) .nil))) (.cons (.for_ [3] false (.seq (.idx (.var 1) (.cst (.int 1)))) (.cons (.Fd .Sub (.var 2) (.var 3) (.idx (.var 1) (.cst (.int 2)))) .nil)) (.cons (.wR (.var 2) (.idx (.var 1) (.cst (.int 0))) (.idx (.var 1) (.cst (.int 2)))) (.cons (.ret (.blt "tuple" (.cons (.var 2) .nil))) .nil)))))
theorem WW:Keeps Ip Jp cQ:=by
 intro ds μ Q h;unfold cQ at h;split at h
 .rename_i i n
  simp[Jp,Ip,aF,cC,wSs,wS,wE,wEs,cY,gZ,dh,Et];by_cases h0:0<=i
  .simpa[h0]using h
  .simpa[h0]using h
 .exact h.elim
theorem Kq:Keeps wZ xu uy:=by
 rintro ds μ Q ⟨S,l,x,rfl,h2,hs,hg,h⟩;have h2':¬((S.length:Int)<2):=by omega
 simp[xu,wZ,aF,cC,wSs,wS,wT,wE,wEs,wI,kZ,wH,tyOf,tZ,gZ,bM,lenOf,au,dh,Et,h2'];refine bK (fun ds ρ μ'=>∃ (T:List Nat) (b:Int) (a:Option D),ds=T.map ju/\T.Pairwise (·<·)/\(∀ s∈T,s<l.length/\x<=gt l s/\b<(s:Int))/\ρ=[some (.tup (S.map ju)),some (tW l),some (.int x),some (.int b),a]/\μ'=μ) ?_ ?_ _ _ _ ⟨S,-1,none,rfl,hs,fun s hs'=>⟨(hg s hs').1,(hg s hs').2,by omega⟩,rfl,rfl⟩
 .rintro d ds ρ μ1 N hN ⟨T,b,a,e,hs,hg,rfl,rfl⟩
  cases T with
  |nil=>simp at e|cons s T=>simp only[aW,eH]at e;obtain⟨rfl,rfl⟩:=e;obtain⟨g1,g2,g3⟩:=hg s (by simp);refine⟨trivial,?_⟩;(have g4:¬((s:Int)<=b):=by omega);(have g6:gt l s=l[s]:=by simp[gt,g1]);(have g5:¬(l[s]<x):=by omega);simp[dg,wT,wE,wEs,cQ,ju,iu,truth,dh,gZ,tW,lenOf,au,bM,g1,g4,d7,pG,Et,g5];exact hN _ _ ⟨T,(s:Int),some (ju s),rfl,(pR.mp hs).2,fun s' hs'=>⟨(hg s' (by simp[hs'])).1,(hg s' (by simp[hs'])).2.1,by have:=(pR.mp hs).1 s' hs';omega⟩,rfl,rfl⟩
 .rintro ρ μ1 ⟨T,b,a,e,hs,hg,rfl,rfl⟩
  exact⟨trivial,h⟩
theorem WR:Keeps Io Jo Eh:=by
 rintro ds μ Q ⟨t,S,x,l,rfl,⟨h1,h2,h3,h4,h5,h6⟩,h⟩;have h3':¬(x<1):=by omega
 have e2:l[t]=0:=by simpa[gt,h1]using h2
 simp[Jo,Io,aF,cC,wSs,wS,wT,wE,wEs,wH,tyOf,tZ,gZ,bM,lenOf,au,dh,flat,kO,d7,pG,TQ,tW,cQ,cY,iu,truth,ju,h1,e2,Et,h3'];exact⟨S,l,x,rfl,h4,h5,h6,h⟩
theorem alb:Keeps ahP ahT abh:=by
 rintro ds μ Q ⟨l,t,S,x,rfl,hp,h⟩;simp only[ahT,ahP,aF,cC,wSs,wS,wT,wE,wEs,aW,bh,aY,bB,bG,aZ,aG,aJ];refine⟨t,S,x,l,rfl,hp,?_⟩;obtain⟨h1,h2,h3,h4,h5,h6⟩:=hp;simp[iu,truth,bM,au,tW,newL,wI,wE,d7,TQ,pG,kZ];refine bK (fun ds ρ μ'=>∃ (A T:List Nat) (a:Option D),S=A++T/\ds=T.map ju/\ρ=[some (.tup (l.map D.int)),some (TQ t S x),some (.loc μ.length),a]/\μ'=μ++[.lst ((sub l A x).map D.int)]) ?_ ?_ _ _ _ ⟨[],S,none,rfl,rfl,by simp[TQ],by rw[af9]⟩
 .rintro d ds ρ μ1 N hN ⟨A,T,a,rfl,e,rfl,rfl⟩
  cases T with
  |nil=>simp at e|cons s T=>
   simp only[aW,eH]at e;obtain⟨rfl,rfl⟩:=e;obtain⟨g1,g2⟩:=h6 s (by simp);have hA:s∉A:=fun z=>by have:=(O1.mp h5).2.2 s z s (by simp);omega
   (have ls:s<(sub l A x).length:=by simpa[sub]using g1);(have es:(sub l A x)[s]?=some (gt l s):=by simp[sub,g1,hA]);refine⟨trivial,?_⟩;simp[dg,ju,KY,es,wE,d7,TQ,au,pG,uf,jU,g1];rw[if_pos ls];refine hN _ _ ⟨A++[s],T,some (ju s),by simp,rfl,by simp[TQ,ju],?_⟩;rw[<-af8 g1];simp
 .rintro ρ μ1 ⟨A,T,a,rfl,e,rfl,rfl⟩
  have:T=[]:=by simpa using e.symm
  subst this;rw[uP]at*;refine⟨trivial,?_⟩;have lt:t<(sub l A x).length:=by simpa[sub]using h1
  simp[wE,wEs,d7,TQ,au,pG,ju,jU,bM];rw[if_pos lt];have:=h (.lst ((RZ l t A x).map D.int));rw[<-aga h1]at this;simpa[tW]using this
end DW
namespace DW.K62
open PySem DW DW.KQ
def akX:List Int->Int
 |[]=>0|i::is=>is.foldl min i
def tg (l:List Int):Nat:=l.idxOf 0
def oth (l:List Int):List Nat:=(aN l.length).filter fun d=>d !=tg l
def tms (l:List Int):Int:=akX ((oth l).map (gt l))
def nxL (l:List Int):List Int:=RZ l (tg l) (oth l) (tms l)
def ak8 (l:List Int):List Int:=(aN l.length).map fun d=>gt l d+tms l*(if d=tg l then 1 else 0) -tms l*(if d∈oth l then 1 else 0)
noncomputable instance anL (l:List Int) (t:Nat) (S:List Nat) (x:Int):Decidable (Z8 l t S x):=by unfold Z8;infer_instance
def okS (l:List Int):Bool:=decide (0∈l)&&decide (Z8 l (tg l) (oth l) (tms l))&&decide ((aN l.length).filter (fun d=>gt l d==0)=[tg l])&&decide ((aN l.length).filter (fun d=>decide (0<gt l d))=oth l)&&decide (ak8 l=nxL l)&&decide (l.length<=6)
def QZ:Nat->List Int->Bool
 |0,l=>decide (l.sum=1)|n+1,l=>decide (1<l.sum)&&okS l&&QZ n (nxL l)
theorem aho {d n:Nat} (h3:3<=d) (h6:d<=6) (hn:n<13):QZ n (lvl d n)=true:=by
 have:d=3∨d=4∨d=5∨d=6:=by omega
 rcases this with rfl|rfl|rfl|rfl
 .revert n;decide+kernel
 .revert n;decide+kernel
 .revert n;decide+kernel
 .revert n;decide+kernel
def phs:Nat->List Int->List D
 |0,_=>[]|n+1,l=>TQ (tg l) (oth l) (tms l)::phs n (nxL l)
theorem FN:∀ (n:Nat) (l:List Int),(phs n l).length=n
 |0,_=>rfl|n+1,l=>by simp[phs,FN n]
structure Ok (l:List Int):Prop where
 z:(0:Int)∈l
 ph:Z8 l (tg l) (oth l) (tms l)
 ba:(aN l.length).filter (fun d=>gt l d==0)=[tg l]
 fu:(aN l.length).filter (fun d=>decide (0<gt l d))=oth l
 le:ak8 l=nxL l
 len:l.length<=6
theorem Ok.of {l:List Int} (h:okS l=true):Ok l:=by simp only[okS,bO,decide_eq_true_eq]at h;exact⟨h.1.1.1.1.1,h.1.1.1.1.2,h.1.1.1.2,h.1.1.2,h.1.2,h.2⟩
def uw:dZ:=fun ds μ Q=>∃ (n:Nat) (l:List Int),ds=[tW l]/\QZ n l=true/\n<=12/\∀ (μ':Mem) (c:Nat),(∀ (i:Nat) (x:Cell),μ[i]?=some x->μ'[i]?=some x)->μ.length<=c->μ'[c]?=some (.lst (phs n l))->Q (.loc c) μ'
def wY:List Str:=["layout","told","now","target","sources","phase"]
def xr:Ss:=(.cons (.set 1 (.lst true .nil)) (.cons (.set 2 (.var 0)) (.cons (.whl (.cmp .Gt (.blt "sum" (.cons (.var 2) .nil)) (.cst (.int 1))) (.cons (.set 3 (.tix (.var 2) (.cons (.cst (.int 0)) .nil))) (.cons (.set 4 (.blt "tuple" (.cons (.comp false 1 false [3] (.var 0) (.rng (.cons (.blt "len" (.cons (.var 2) .nil)) .nil)) (.cons (.cmp .NotEq (.var 0) (.var 1)) .nil)) .nil))) (.cons (.set 5 (.tup (.cons (.var 3) (.cons (.var 4) (.cons (.blt "min" (.cons (.comp false 1 false [2] (.idx (.var 1) (.var 0)) (.seq (.var 4)) .nil) .nil)) .nil))))) (.cons (.exp (.meth "append" (.var 1) (.cons (.var 5) .nil))) (.cons (.set 2 (.call "led" abh (.cons (.var 2) (.cons (.var 5) .nil)))) .nil)))))) (.cons (.ret (.var 1)) .nil))))
theorem alC {l:List Int} {s:Nat} (h:s<l.length) {μ:Mem} {Q:QD} (q:Q (.int (gt l s)) μ):d7 (tW l) (.int (s:Int)) μ Q:=by simpa[d7,tW,au,dI h,alo h,gt,h]using q
theorem ajA (l:List Int) (μ:Mem):lenOf μ (tW l)=some l.length:=by simp[lenOf,au,tW]
theorem aiq (l:List Int) (μ:Mem):(au μ (tW l)).bind gJ=some l:=by simp[au,tW,gO]
theorem aey {l:List Int} {μ:Mem} {Q:QD} (h:Ok l) (q:Q (.int (tms l)) μ):bM "min" [.lst ((oth l).map fun s=>D.int (gt l s))] μ Q:=by
 have e:gJ ((oth l).map fun s=>D.int (gt l s))=some ((oth l).map (gt l)):=ou (gt l) _;simp only[bM,bU,au,oO,e];unfold tms at q;cases z:(oth l).map (gt l) with
 |nil=>have:=h.ph.2.2.2.1;have:=congrArg fK z;simp at this;simp[this]at*|cons i is=>rw[z]at q;exact q
theorem abo (n:Nat) (p:Nat->Bool) {bnd:D->(dJ->Prop)->Prop} {cw:dJ->Mem->(Bool->Mem->Prop)->Prop} {ew:dJ->Mem->QD->Prop} {Q:List D->Mem->Prop} {μ:Mem} (hs:∀ d,d<n->∀ (Y:D->Mem->Prop) (N:Mem->Prop),(if p d=true then Y (ju d) μ else N μ)->bnd (ju d) fun ρ=>cw ρ μ fun b μ1=>if b=true then ew ρ μ1 (fun v μ2=>Y v μ2)else N μ1) (h:Q (((aN n).filter p).map ju) μ):jJ bnd cw ew (fun _=>True) ((aN n).map fun(k:Nat)=>D.int (k:Int)) [] μ Q:=
 d8 ju p ju trivial (aN n) [] (fun d hd Y N z=>hs d (by simpa using hd) Y N z) (by rw[aZ];exact h)
theorem ajo {l:List Int} {s:Nat} (h:s∈oth l):s<l.length:=by simp[oth]at h;exact h.1
theorem aj2 (a b:Nat):kO (.int (a:Int)) (.int (b:Int))=decide (a=b):=by
 by_cases c:a=b
 .subst c;simp[kO]
 .have:¬(a:Int)=(b:Int):=by omega
  simp[kO,this,c]
theorem Ko:Keeps wY xr uw:=by
 rintro ds μ Q ⟨n,l,rfl,hc,hn,q⟩;simp only[xr,wY,aF,cC,wSs,wS,wT,wE,wEs,wI,qC,jf,newL,aW,bh,aY,bB,bG,aZ,aG,aJ,aV,bD,bC,if_true];refine⟨by decide,?_⟩;refine⟨fun m ρ μ'=>∃ (l':List Int) (acc:List D) (v3 v4 v5:Option D),QZ m l'=true/\acc++phs m l'=phs n l/\(∀ (i:Nat) (x:Cell),μ[i]?=some x->μ'[i]?=some x)/\μ'[μ.length]?=some (.lst acc)/\ρ=[some (tW l),some (.loc μ.length),some (tW l'),v3,v4,v5],⟨n,l,[],none,none,none,hc,rfl,fun i x e=>by rw[cL ((cF.mp e).1)];exact e,by simp,rfl⟩,?_⟩;rintro m ρ μ' ⟨l',acc,v3,v4,v5,hc',ha,F,hcell,rfl⟩;have lB:∀ (ν:Mem) (l:List Int) (Q:QD),bM "sum" [tW l] ν Q=Q (.int l.sum) ν:=fun ν l Q=>by simp only[bM,aiq]
 simp only[aG,aJ,lB,dh,gZ];cases m with
 |zero=>
  have hs:l'.sum=1:=by simpa[QZ]using hc'
  have:¬(1:Int)<l'.sum:=by omega
  simp only[this,decide_false,dB,if_false];refine q _ _ F (aL _) ?_;rw[hcell,<-ha];simp[phs]
 |succ m=>
  simp only[QZ,bO,decide_eq_true_eq]at hc';obtain⟨⟨hs,ho⟩,hc2⟩:=hc';have h:=Ok.of ho;have hl:=h.len;simp only[hs,decide_true,if_true];have ti:∀ (ν:Mem) (Q:QD),Q (.int (tg l':Int)) ν->Zb (tW l') [.int 0] ν Q:=fun ν Q q=>by simp only[Zb,tW,gO];exact⟨h.z,q⟩
  refine⟨rfl,ti _ _ ?_⟩;have lN:∀ (ν:Mem) (l:List Int) (Q:QD),bM "len" [tW l] ν Q=Q (.int (l.length:Int)) ν:=fun ν l Q=>by simp only[bM,ajA]
  have tN:∀ (ν:Mem) (ds:List D) (Q:QD),bM "tuple" [.lst ds] ν Q=Q (.tup ds) ν:=fun ν ds Q=>by simp only[bM,au]
  simp only[bD,bC,aG,aJ,lN,tN,qK,dG];refine⟨by simp only[lim];omega,by omega,?_⟩;refine abo l'.length (fun d=>d !=tg l') ?_ ?_
  .intro d hd Y N z
   simp only[bindC,wTs,wT,wE,wEs,aW,bh,aG,aJ,pP,ju,dh,gZ,aj2];refine⟨rfl,rfl,?_⟩;(have e:(!decide (d=tg l'))=(d !=tg l'):=by by_cases c:d=tg l' <;>simp[c]);rw[e];exact z
  have eo:(aN l'.length).filter (fun d=>d !=tg l')=oth l':=rfl;rw[eo];simp only[kZ];refine fj ju (fun s=>D.int (gt l' s)) trivial _ _ ?_ ?_
  .intro s hs Y N z
   simp only[bindC,wTs,wE,aG,aJ,pP,if_true,ju];exact alC (ajo hs) z
  rw[aZ];refine aey h ?_;refine⟨by decide,by simp only[isCell,hcell],?_⟩;simp only[dU,hcell,bY];have al:acc.length+(m+1)=n:=by have:=congrArg fK ha;simpa[FN]using this
  refine⟨by simp only[lim];omega,?_⟩;refine⟨l',tg l',oth l',tms l',rfl,h.ph,fun c=>?_⟩;have hml:=(cF.mp hcell).1;refine⟨m,by omega,nxL l',acc++[TQ (tg l') (oth l') (tms l')],_,_,_,hc2,by rw[fL];exact ha,fun i x e=>?_,?_,rfl⟩
  .have hi:=(cF.mp e).1
   have:=F i x e;rw[cL (by simp;exact(cF.mp this).1),bR (by omega)];exact this
  .rw[cL (by simpa using hml),cT hml];rfl
end DW.K62
namespace DW.PHA
open PySem DW DW.KQ DW.Mq DW.POU DW.HOU DW.K62
theorem Rn {α:Type}:∀ (Zl:List (List α)) (d:Nat) (r:α) (rs:List α),Zl[d]?=some (r::rs)->Zl.flatten.Perm (r::(Zl.set d rs).flatten)
 |[],d,r,rs,h=>by simp at h|l::Zl,0,r,rs,h=>by simp at h;subst h;simp|l::Zl,d+1,r,rs,h=>by simp only[aJ]at h;simp only[oU,bC];exact((Rn Zl d r rs h).append_left l).trans yI
theorem Ia {α:Type}:∀ (Zl:List (List α)) (d:Nat) (l:List α) (r:α),Zl[d]?=some l->(Zl.set d (l++[r])).flatten.Perm (r::Zl.flatten)
 |[],d,l,r,h=>by simp at h|a::Zl,0,l,r,h=>by simp at h;subst h;simp only[bD,oU,fL];exact yI|a::Zl,d+1,l,r,h=>by simp only[aJ]at h;simp only[oU,bC];exact((Ia Zl d l r h).append_left a).trans yI
theorem ae3 {Zl:List (List (List Itm))} {d:Nat} {l:List (List Itm)} {src:List Nat} (h:d∉src):iJ (Zl.set d l) src=iJ Zl src:=by unfold iJ;refine qN fun x hx=>?_;rw[bR (fun z=>h (by rw[z];exact hx))]
theorem CW:∀ (src:List Nat) (Zl:List (List (List Itm))),src.Nodup->(∀ d∈src,d<Zl.length/\Zl[d]?.getD []≠[])->Zl.flatten.Perm (iJ Zl src++(pops Zl src).flatten)
 |[],Zl,_,_=>yx _|d::src,Zl,nd,h=>by
  rw[oZ]at nd;obtain⟨hd,hn⟩:=h d (by simp);rw[bI hd]at hn;simp only[fV]at hn;have e0:Zl[d]?=some Zl[d]:=bI hd;cases q:Zl[d] with
  |nil=>exact absurd q hn|cons r rs=>
   rw[q]at e0;have ih:=CW src (Zl.set d rs) nd.2 fun x hx=>by have hne:d≠x:=fun z=>nd.1 (by rw[z];exact hx);obtain⟨h1,h2⟩:=h x (by simp[hx]);refine⟨by simpa using h1,?_⟩;rw[bR hne];exact h2
   rw[ae3 nd.1]at ih;(have e1:iJ Zl (d::src)=r::iJ Zl src:=by simp[iJ,e0]);(have e2:pops Zl (d::src)=pops (Zl.set d rs) src:=by simp[pops,e0]);rw[e1,e2];exact(Rn Zl d r rs e0).trans (ih.cons r)
theorem Zx {Zl:List (List (List Itm))} {src:List Nat} {t:Nat} (nd:src.Nodup) (h:∀ d∈src,d<Zl.length/\Zl[d]?.getD []≠[]) (ht:t<Zl.length):(Km Zl src t).flatten.Perm (CZ (iJ Zl src)::(pops Zl src).flatten):=by
 have htl:t<(pops Zl src).length:=by rw[qO];exact ht
 unfold Km;rw[bI htl];exact Ia _ _ _ _ (bI htl)
theorem Z4 {Zl:List (List (List Itm))} {src:List Nat} {t:Nat} (nd:src.Nodup) (h:∀ d∈src,d<Zl.length/\Zl[d]?.getD []≠[]) (ht:t<Zl.length):(Km Zl src t).flatten.flatten.Perm Zl.flatten.flatten:=by refine((Zx nd h ht).flatten).trans ?_;refine List.Perm.trans ?_ (CW src Zl nd h).flatten.symm;rw[oU,VN];exact(CX _).append_right _
section
variable {a:jT}
theorem vh:(ln a).length=a.length:=by simp[ln]
theorem YL {i:Nat} (h:i<a.length):gt (ln a) i=((a[i]?.getD []).length:Int):=by simp[gt,ln,h]
noncomputable abbrev S_ (a:jT):List Nat:=oth (ln a)
noncomputable abbrev t_ (a:jT):Nat:=tg (ln a)
noncomputable abbrev x_ (a:jT):Nat:=(tms (ln a)).toNat
theorem Ag {i:Nat}:i∈S_ a<->i<a.length/\i≠t_ a:=by unfold S_ oth;rw[yF,oY,vh];simp
theorem Ph.of (h:Ok (ln a)):Ph a (S_ a) (t_ a) (x_ a):=by obtain⟨h1,h2,h3,h4,h5,h6⟩:=h.ph;refine⟨h5.imp fun h=>jL h,fun z=>(Ag.mp z).2 rfl,by rw[<-vh];exact h1,fun i hi=>?_⟩;have hi':=(Ag.mp hi).1;have:=(h6 i hi).2;rw[YL hi']at this;exact⟨hi',by unfold x_;omega⟩
theorem x_eq (h:Ok (ln a)):((x_ a:Nat):Int)=tms (ln a):=by have:=h.ph.2.2.1;unfold x_;omega
theorem XS (h:Ok (ln a)):a[t_ a]?.getD []=[]:=by
 have h1:t_ a<a.length:=by rw[<-vh];exact h.ph.1
 have:=h.ph.2.1;rw[YL h1]at this;exact mR.mp (by omega)
theorem vX:∀ i,i<a.length->i≠t_ a->i∈S_ a:=fun i h1 h2=>Ag.mpr ⟨h1,h2⟩
theorem Lk (h:Ok (ln a)):ln (Je (S_ a) (t_ a) a (x_ a))=nxL (ln a):=by
 rw[ajw (Ph.of h) vX (XS h)];unfold nxL RZ;rw[vh];refine qN fun i hi=>?_;have hi:=oY.mp hi;by_cases c:i=t_ a
 .rw[if_pos c,if_pos c,x_eq h]
 .rw[if_neg c,if_neg c,if_pos (vX i hi c),YL hi,x_eq h]
theorem Yz {S:List Nat} {t x:Nat} (h:Ph a S t x):∀ y,y<=x->(Je S t a y).flatten.flatten.Perm a.flatten.flatten
 |0,_=>yx _|y+1,hy=>by have A:=vo h y (by omega);refine(Z4 h.nd (fun i hi=>⟨by rw[A.len];exact(h.sl i hi).1,?_⟩) (by rw[A.len];exact h.tl)).trans (Yz h y (by omega));rw[A.src i hi,fV];intro z;have e:=congrArg fK z;rw[uU,bB]at e;have:=(h.sl i hi).2;omega
end
def GJ:Nat->jT->jT
 |0,a=>a|n+1,a=>GJ n (Je (S_ a) (t_ a) a (x_ a))
def Fg:Nat->jT->Int->Int
 |0,_,m=>m|n+1,a,m=>Fg n (Je (S_ a) (t_ a) a (x_ a)) (m+mvP (S_ a) a (x_ a))
def lnL (l:List (List Int)):List Int:=l.map fun x=>(x.length:Int)
theorem ajx (a:jT):lnL (lg a)=ln a:=by simp[lnL,lg,ln]
theorem Xk {n:Nat} {l:List Int} (h:QZ (n+1) l=true):1<l.sum/\Ok l/\QZ n (nxL l)=true:=by simp only[QZ,bO,decide_eq_true_eq]at h;exact⟨h.1.1,Ok.of h.1.2,h.2⟩
theorem X6:∀ (n:Nat) (a:jT),QZ n (ln a)=true->(∀ l∈a,∀ r∈l,bQ r)->(ln (GJ n a)).sum=1/\(∀ l∈GJ n a,∀ r∈l,bQ r)/\(GJ n a).flatten.flatten.Perm a.flatten.flatten/\(GJ n a).length=a.length
 |0,a,h,hr=>⟨by simpa[QZ,GJ]using h,hr,yx _,rfl⟩|n+1,a,h,hr=>by obtain⟨_,h1,h2⟩:=Xk h;have P:=Ph.of h1;obtain⟨q1,q2,q3,q4⟩:=X6 n _ (by rw[Lk h1];exact h2) (W0 P vX hr);exact⟨q1,q2,q3.trans (Yz P _ (aL _)),q4.trans (vo P _ (aL _)).len⟩
theorem Yh:∀ {a:jT},(ln a).sum=1->∃ i r,a[i]?=some [r]/\a.flatten=[r]/\(ln a).idxOf 1=i
 |[],h=>by simp[ln]at h|l::a,h=>by
  have h':(l.length:Int)+(ln a).sum=1:=by simpa[ln]using h
  have nn:0<=(ln a).sum:=by
   clear h h';induction a with
   |nil=>simp[ln]|cons b a ih=>(have e:(ln (b::a)).sum=(b.length:Int)+(ln a).sum:=by simp[ln]);rw[e];omega
  rcases dH 0 l.length with c|c
  .have e0:(ln a).sum=0:=by omega
   (have e1:l.length=1:=by omega);obtain⟨r,rfl⟩:=adi.mp e1;refine⟨0,r,rfl,?_,by simp[ln]⟩;have:a.flatten=[]:=by
    clear h h' nn;induction a with
    |nil=>rfl|cons b a ih=>
     (have e:(ln (b::a)).sum=(b.length:Int)+(ln a).sum:=by simp[ln]);have nn:0<=(ln a).sum:=by
      clear ih e e0;induction a with
      |nil=>simp[ln]|cons b a ih=>(have e:(ln (b::a)).sum=(b.length:Int)+(ln a).sum:=by simp[ln]);rw[e];omega
     rw[e]at e0;have hb:b=[]:=mR.mp (by omega);subst hb;simpa using ih (by omega)
   simp[this]
  .have hl:l=[]:=mR.mp (by omega)
   subst hl;obtain⟨i,r,h1,h2,h3⟩:=Yh (a:=a) (by simpa using h');refine⟨i+1,r,by simpa using h1,by simpa using h2,?_⟩;rw[show ln ([]::a)=0::ln a from rfl,List.idxOf_cons,h3];rfl
theorem agi {n:Nat} {a:jT} (h:QZ n (ln a)=true) (hr:∀ l∈a,∀ r∈l,bQ r):∃ i r,(GJ n a)[i]?=some [r]/\(ln (GJ n a)).idxOf 1=i/\r=GC a.flatten.flatten:=by obtain⟨q1,q2,q3,q4⟩:=X6 n a h hr;obtain⟨i,r,h1,h2,h3⟩:=Yh q1;refine⟨i,r,h1,h3,abf ?_ (q2 _ (jr h1) r (by simp))⟩;rw[h2]at q3;simpa using q3
end DW.PHA
namespace DW.J9
open PySem DW DW.KQ
def Fst (l:List Int) (b:Nat):Prop:=b<l.length/\∀ i,i<l.length->l.getD i 0<=l.getD b 0/\(i<b->l.getD i 0<l.getD b 0)
theorem Fst.uniq {l:List Int} {b c:Nat} (h:Fst l b) (k:Fst l c):b=c:=by
 rcases acy b c with q|q|q
 .have h1:=(k.2 b h.1).2 q
  have h2:=(h.2 c k.1).1;omega
 .exact q
 .have h1:=(h.2 c k.1).2 q
  have h2:=(k.2 b h.1).1;omega
theorem getD_get {α:Type} {l:List α} {i:Nat} (z:α) (h:i<l.length):l.getD i z=l[i]:=by simp[Pj,h]
theorem foldl_max:∀ (l:List Int) (a:Int),a<=l.foldl max a/\(∀ x∈l,x<=l.foldl max a)/\(l.foldl max a=a∨l.foldl max a∈l)
 |[],a=>⟨Nx _,by simp,.inl rfl⟩|x::l,a=>by
  obtain⟨h1,h2,h3⟩:=foldl_max l (max a x);simp only[lA];refine⟨by omega,fun y hy=>?_,?_⟩
  .rcases aO.mp hy with rfl|hy
   .omega
   .exact h2 y hy
  .rcases h3 with h3|h3
   .rw[h3]
    rcases Int.le_total a x with q|q
    .right;rw[Int.max_eq_right q];simp
    .left;exact Int.max_eq_left q
   .right;simp[h3]
theorem FW (a:Int) (r:List Int):r.foldl max a∈(a::r)/\Fst (a::r) ((a::r).idxOf (r.foldl max a)):=by
 obtain⟨h1,h2,h3⟩:=foldl_max r a;have hm:r.foldl max a∈(a::r):=by
  rcases h3 with h3|h3
  .rw[h3];simp
  .simp[h3]
 have hle:∀ x∈(a::r),x<=r.foldl max a:=fun x hx=>by
  rcases aO.mp hx with rfl|hx
  .exact h1
  .exact h2 x hx
 generalize r.foldl max a=m at hm hle;generalize (a::r)=l at hm hle;refine⟨hm,?_⟩;have hlt:=List.idxOf_lt_length_of_mem hm;have hb:l.getD (l.idxOf m) 0=m:=by rw[getD_get _ hlt];exact Ox hlt
 refine⟨hlt,fun i hi=>?_⟩;rw[hb,getD_get _ hi];have hi1:=hle _ (uH hi);refine⟨hi1,fun q=>?_⟩;have:l[i]≠m:=fun z=>by
  have:=ado (p:=(·==m)) (xs:=l) q
  simp[z]at this
 omega
def deal:Nat->List Int->List Nat×List Int
 |0,l=>([],l)|n+1,l=>let p:=deal n l;let b:=p.2.idxOf (p.2.tail.foldl max (p.2.headD 0));(p.1++[b],p.2.set b (p.2.getD b 0 -1))
theorem kW:∀ (n:Nat) (l:List Int),(deal n l).1.length=n/\(deal n l).2.length=l.length
 |0,l=>⟨rfl,rfl⟩|n+1,l=>by simp[deal,kW n l]
theorem LR {n:Nat} {l:List Int} (hl:l≠[]) {b:Nat} (h:Fst (deal n l).2 b):deal (n+1) l=((deal n l).1++[b],(deal n l).2.set b ((deal n l).2.getD b 0 -1)):=by
 have e:=(kW n l).2;have hne:(deal n l).2≠[]:=fun z=>by rw[z]at e;exact hl (mR.mp e.symm)
 obtain⟨a,r,er⟩:=Pg hne;have hf:=(FW a r).2;have:b=(deal n l).2.idxOf ((deal n l).2.tail.foldl max ((deal n l).2.headD 0)):=by rw[er]at h ⊢;exact h.uniq hf
 simp only[deal];rw[<-this]
theorem Ge:∀ (n:Nat) (l:List Int),l≠[]->∀ b∈(deal n l).1,b<l.length
 |0,l,_,b,hb=>by simp[deal]at hb|n+1,l,hl,b,hb=>by
  have e:=(kW n l).2;have hne:(deal n l).2≠[]:=fun z=>by rw[z]at e;exact hl (mR.mp e.symm)
  simp only[deal,jd,cO]at hb;rcases hb with hb|rfl
  .exact Ge n l hl b hb
  .obtain⟨a,r,er⟩:=Pg hne
   rw[<-e,er];exact(FW a r).2.1
theorem JD:∀ (n:Nat) (l:List Int),l≠[]->∀ d,d<l.length->(deal n l).2.getD d 0=l.getD d 0 -((deal n l).1.count d:Int)
 |0,l,_,d,_=>by simp[deal]|n+1,l,hl,d,hd=>by
  have e:=(kW n l).2;have ih:=JD n l hl d hd;have hne:(deal n l).2≠[]:=fun z=>by rw[z]at e;exact hl (mR.mp e.symm)
  have hb:(deal n l).2.idxOf ((deal n l).2.tail.foldl max ((deal n l).2.headD 0))<(deal n l).2.length:=by obtain⟨a,r,er⟩:=Pg hne;rw[er];exact(FW a r).2.1
  simp only[deal];generalize (deal n l).2.idxOf ((deal n l).2.tail.foldl max ((deal n l).2.headD 0))=b at hb;have hd2:d<(deal n l).2.length:=by omega
  rw[List.count_append,List.count_singleton];by_cases q:b=d
  .subst q
   simp[Pj,hd2]at ih ⊢;omega
  .simp[Pj,q]at ih ⊢
   omega
end DW.J9
namespace DW.PHA
open PySem DW DW.KQ DW.Mq DW.POU DW.HOU DW.K62
def HS (μ:Mem) (o L T:Nat) (ls:List Nat) (a:jT) (mv:Int) (k:Nat):Prop:=∃ Zh,pF μ o L T ls a mv Zh/\Zh.length<=k
theorem HS.fr {μ μ':Mem} {o L T:Nat} {ls:List Nat} {a:jT} {mv:Int} {k:Nat} {S:List Nat} (h:HS μ o L T ls a mv k) (F:Fr S μ μ') (hS:∀ m∈fp o L T ls,m∉S):HS μ' o L T ls a mv k:=by obtain⟨Zh,h1,h2⟩:=h;exact⟨Zh,h1.fr F hS,h2⟩
theorem HS.lt {μ:Mem} {o L T:Nat} {ls:List Nat} {a:jT} {mv:Int} {k:Nat} (h:HS μ o L T ls a mv k):∀ m∈fp o L T ls,m<μ.length:=by
 obtain⟨Zh,h,_⟩:=h;intro m hm;simp only[aO]at hm;rcases hm with rfl|rfl|rfl|hm
 .exact aB h.at_
 .exact aB h.la
 .exact aB h.hi
 .obtain⟨i,hi,rfl⟩:=CG hm
  have hi':i<a.length:=by rw[<-h.len];exact hi
  exact aB (h.row i _ _ (bI hi) (bI hi'))
section
variable {a:jT} {S:List Nat} {t x:Nat}
theorem Ph.less (h:Ph a S t x) {y:Nat} (hy:y<=x):Ph a S t y:=⟨h.nd,h.ts,h.tl,fun i hi=>⟨(h.sl i hi).1,jc hy (h.sl i hi).2⟩⟩
theorem aiz {b:jT} {l:List (List Itm)} {r:List Itm} (hl:l∈b) (hr:r∈l):r.length<=b.flatten.flatten.length:=by
 have hm:r∈b.flatten:=Vs.mpr ⟨l,hl,hr⟩;generalize b.flatten=c at hm;induction c with
 |nil=>cases hm
 |cons s c ih=>
  rw[oU,gV];rcases aO.mp hm with rfl|hm
  .omega
  .have:=ih hm;omega
theorem ag9 {b:jT} (nd:S.Nodup) (h:∀ d∈S,d<b.length/\b[d]?.getD []≠[]):(iJ b S).flatten.length<=b.flatten.flatten.length:=by have:=(CW S b nd h).flatten.length_eq;rw[VN,gV]at this;omega
end
def Ei:dZ:=fun ds μ Q=>∃ (o L T:Nat) (ls:List Nat) (a:jT) (mv:Int) (k x t:Nat) (S:List Nat),ds=[.loc o,TQ t S (x:Int)]/\HS μ o L T ls a mv k/\Ph a S t x/\(∀ i,i<a.length->i≠t->i∈S)/\2<=S.length/\S.length<=6/\(∀ l∈a,∀ r∈l,bQ r)/\a.flatten.flatten.length<=400/\(a[t]?.getD []).length+x<=400/\k+x<=499/\
 ∀ μ',Fr (fp o L T ls) μ μ'->HS μ' o L T ls (Je S t a x) (mv+mvP S a x) (k+x)->Q .non μ'
def Ir:List Str:=["house","phase","count"]
def Jq:Ss:=(.cons (.for_ [2] false (.rng (.cons (.idx (.var 1) (.cst (.int 2))) .nil)) (.cons (.exp (.pA "House" "pour" wM (.var 0) (.cons (.idx (.var 1) (.cst (.int 1))) (.cons (.idx (.var 1) (.cst (.int 0))) .nil)))) .nil)) .nil)
theorem ad8 (t:Nat) (S:List Nat) (x:Int) (μ:Mem) (Q:QD):(d7 (TQ t S x) (.int 0) μ Q=Q (.int (t:Int)) μ)/\(d7 (TQ t S x) (.int 1) μ Q=Q (.tup (S.map fun(k:Nat)=>D.int (k:Int))) μ)/\(d7 (TQ t S x) (.int 2) μ Q=Q (.int x) μ):=⟨rfl,rfl,rfl⟩
theorem WX:Keeps Ir Jq Ei:=by
 rintro ds μ Q ⟨o,L,T,ls,a,mv,k,x,t,S,rfl,H,P,hS,s2,s6,hr,tot,tl,hk,q⟩;simp only[Jq,Ir,aF,cC,wSs,wS,wE,wEs,wI,qC,jf,aW,bh,aY,bB,bG,aZ,aG,aJ,aV,(ad8 _ _ _ _ _).2.2];refine⟨by simp only[lim];omega,by omega,?_⟩;rw[qK,dG];refine bK (fun ds ρ μ'=>∃ (y:Nat) (v:Option D),ds=(gG y (x -y)).map (fun(j:Nat)=>D.int (j:Int))/\y<=x/\Fr (fp o L T ls) μ μ'/\HS μ' o L T ls (Je S t a y) (mv+mvP S a y) (k+y)/\ρ=[some (.loc o),some (TQ t S (x:Int)),v]) ?_ ?_ _ _ _ ⟨0,none,by simp[uI],by omega,Fr.refl,by simpa[Je,mvP]using H,rfl⟩
 .rintro d ds ρ μ1 N hN ⟨y,v,e,hy,F,H1,rfl⟩
  have hyx:y<x:=by
   rcases dH y x with z|z
   .exact z
   .rw[show x -y=0 by omega]at e;simp at e
  rw[show x -y=(x -(y+1))+1 by omega,lC]at e;simp only[aW,eH]at e;obtain⟨rfl,rfl⟩:=e;refine⟨trivial,?_⟩;simp only[dg,bD,bC,aG,aJ,(ad8 _ _ _ _ _).1,(ad8 _ _ _ _ _).2.1];have A:=vo P y hy;obtain⟨Zh,hH,hh⟩:=H1;have hf:=A.iJ;have ris:=W0 (P.less hy) hS hr;have an2:(Je S t a y).flatten.flatten.length<=400:=by rw[(Yz P y hy).length_eq];exact tot
  have ne:∀ d∈S,d<(Je S t a y).length/\(Je S t a y)[d]?.getD []≠[]:=fun d hd=>by refine⟨by rw[A.len];exact(P.sl d hd).1,?_⟩;rw[A.src d hd,fV];intro z;have e:=congrArg fK z;rw[uU,bB]at e;have:=(P.sl d hd).2;omega
  have fl:=ag9 P.nd ne;refine⟨hH.isI "pour",o,L,T,ls,Je S t a y,mv+mvP S a y,Zh,_,S,t,rfl,hH,⟨.inr ⟨_,rfl⟩,rfl⟩,(fun n z=>by cases z),s2,s6,P.nd,ne,by rw[A.len];exact P.tl,P.ts,fun l hl r hr'=>⟨ris l hl r hr',by have:=aiz hl hr';omega⟩,by omega,?_,by omega,fun μ' n F' H' _ _=>?_⟩
  .rw[A.tgt];simp;omega
  .have e:mv+mvP S a (y+1)=mv+mvP S a y+((tk S a y).flatten.length:Int):=by show mv+(mvP S a y+((tk S a y).flatten.length:Int))=_;omega
   rw[hf,<-e]at H';exact hN _ _ ⟨y+1,_,rfl,by omega,F.trans F',⟨_,H',by rw[gV];simp;omega⟩,rfl⟩
 .rintro ρ μ1 ⟨y,v,e,hy,F,H1,rfl⟩
  have hyx:y=x:=by
   rcases dH y x with z|z
   .rw[show x -y=(x -(y+1))+1 by omega,lC]at e;simp at e
   .omega
  subst hyx;exact⟨trivial,q _ F H1⟩
def Ed:dZ:=fun ds μ Q=>∃ (o L T:Nat) (ls:List Nat) (a:jT) (mv:Int) (k i:Nat) (r:List Itm),ds=[.loc o]/\HS μ o L T ls a mv k/\a[i]?=some [r]/\(ln a).idxOf 1=i/\(1:Int)∈ln a/\∀ μ' c,Fr [] μ μ'->μ.length<=c->μ'[c]?=some (.lst (r.map bH))->Q (.loc c) μ'
def Il:List Str:=["house"]
def Jl:Ss:=(.cons (.ret (.idx (.pA "House" "runs" wL (.var 0) (.cons (.tix (.pA "House" "lying" uz (.var 0) .nil) (.cons (.cst (.int 1)) .nil)) .nil)) (.cst (.int 0)))) .nil)
theorem WL:Keeps Il Jl Ed:=by
 rintro ds μ Q ⟨o,L,T,ls,a,mv,k,i,r,rfl,⟨Zh,hH,hk⟩,hi,hix,hm,q⟩;simp only[Jl,Il,aF,cC,wSs,wS,wE,wEs,aW,bh,aY,bB,bG,aZ,aG,aV];refine⟨hH.isI "runs",hH.isI "lying",o,L,T,ls,a,mv,Zh,rfl,hH,rfl,?_⟩;have e:gJ (a.map fun lane=>aR lane.length)=some (ln a):=ou (fun(l:List (List Itm))=>(l.length:Int)) a;simp only[Zb,e];refine⟨hm,?_⟩;rw[hix];have hil:i<a.length:=(cF.mp hi).1;refine⟨o,L,T,ls,a,mv,Zh,i,rfl,hH,hil,by rw[hi];simp,fun μ' n ns F hL=>?_⟩;rw[hi,fV]at hL;have hl:ns.length=1:=hL.len;obtain⟨c,rfl⟩:=adi.mp hl;have hc:=hL.row 0 c r rfl rfl;have hat:=hL.at_;have hs:au μ' (.loc n)=some [.loc c]:=by simp[au,hat]
 simp only[d7,hs];exact q μ' c F (hL.sub c (by simp)).1 hc
open DW.J9
def put (a:jT) (d:Nat) (r:List Itm):jT:=a.set d (a[d]?.getD []++[r])
theorem vO (a:jT) (d:Nat) (r:List Itm):(put a d r).length=a.length:=by simp[put]
theorem Wm (a:jT) (d:Nat) (r:List Itm) (i:Nat) (h:i<a.length):(put a d r)[i]?=some (if i=d then a[i]?.getD []++[r]else a[i]?.getD []):=by
 unfold put;by_cases c:i=d
 .subst c;rw[cT h,if_pos rfl]
 .rw[bR (bN c),if_neg c];simp[h]
def lk (l:List Int) (x:Nat):Nat:=(l.getD x 0).toNat
def stE (l:List Int) (i j:Nat):jT:=(aN l.length).map fun x=>aV (if x<i then lk l x else if x=i then j else 0) []
theorem Gz {l:List Int} {i j x:Nat} (h:x<l.length):(stE l i j)[x]?=some (aV (if x<i then lk l x else if x=i then j else 0) []):=by simp[stE,h]
theorem agc {l:List Int} {i j:Nat} (hi:i<l.length):put (stE l i j) i []=stE l i (j+1):=by
 apply oR;intro x;by_cases hx:x<l.length
 .rw[Wm _ _ _ _ (by simpa[stE]using hx),Gz hx,Gz hx,fV]
  by_cases c:x=i
  .subst c;simp[ac3]
  .simp[c]
 .rw[gW (by rw[vO];simp[stE];omega),gW (by simp[stE];omega)]
theorem abe {l:List Int} {i:Nat}:stE l i (lk l i)=stE l (i+1) 0:=by
 unfold stE;refine qN fun x _=>?_;congr 1;by_cases c:x<i
 .rw[if_pos c,if_pos (by omega)]
 .by_cases c2:x=i
  .subst c2;rw[if_neg c,if_pos rfl,if_pos (by omega)]
  .rw[if_neg c,if_neg c2,if_neg (by omega)];split<;>rfl
theorem Zr {l:List Int}:stE l 0 0=aV l.length []:=by
 apply oR;intro x;by_cases hx:x<l.length
 .rw[Gz hx];simp[hx]
 .rw[gW (by simp[stE];omega),gW (by simp;omega)]
def lay0 (l:List Int):jT:=stE l l.length 0
theorem Yx {l:List Int} {x:Nat} (h:x<l.length):(lay0 l)[x]?=some (aV (lk l x) []):=by unfold lay0;rw[Gz h,if_pos h]
def eN:List Nat->List (List Itm)->jT->jT
 |d::ds,r::rs,a=>eN ds rs (put a d r)|_,_,a=>a
def xK:List Nat->List Int->List (List Int)->List (List Int)
 |d::ds,r::rs,a=>xK ds rs (a.set d (a[d]?.getD []++[r]))|_,_,a=>a
theorem ajy (a:jT) (d:Nat) (r:List Itm):lg (put a d r)=(lg a).set d ((lg a)[d]?.getD []++[(r.length:Int)]):=by unfold put;rw[Lw];unfold lg;rw[uN];simp
theorem Yu:∀ (ds:List Nat) (rs:List (List Itm)) (a:jT),lg (eN ds rs a)=xK ds (rs.map fun r=>(r.length:Int)) (lg a)
 |[],_,_=>by simp[eN,xK]|d::ds,[],_=>by simp[eN,xK]|d::ds,r::rs,a=>by simp only[eN,aW,xK];rw[Yu ds rs,ajy]
theorem vW:∀ (ds:List Nat) (rs:List (List Itm)) (a:jT),(eN ds rs a).length=a.length
 |[],_,_=>by simp[eN]|d::ds,[],_=>by simp[eN]|d::ds,r::rs,a=>by simp only[eN];rw[vW ds rs,vO]
theorem Ti:∀ (ds:List Nat) (rs:List (List Itm)) (a:jT) (x:Nat),ds.length=rs.length->x<a.length->((eN ds rs a)[x]?.getD []).length=(a[x]?.getD []).length+ds.count x
 |[],[],a,x,_,_=>by simp[eN]|d::ds,[],a,x,h,_=>by simp at h|[],r::rs,a,x,h,_=>by simp at h|d::ds,r::rs,a,x,h,hx=>by
  simp only[eN];rw[Ti ds rs (put a d r) x (by simpa using h) (by rw[vO];exact hx),Wm a d r x hx,fV,ab0];by_cases c:x=d
  .subst c;simp;omega
  .have c':(d==x)=false:=by simpa using bN c
   simp[c,c']
theorem Tg:∀ (ds:List Nat) (rs:List (List Itm)) (a:jT),(∀ r∈rs,bQ r)->(∀ l∈a,∀ r∈l,bQ r)->∀ l∈eN ds rs a,∀ r∈l,bQ r
 |[],_,a,_,h=>by simpa[eN]using h|d::ds,[],a,_,h=>by simpa[eN]using h|d::ds,r::rs,a,hr,h=>by
  simp only[eN];refine Tg ds rs _ (fun x hx=>hr x (by simp[hx])) fun l hl x hx=>?_;unfold put at hl;rcases adI hl with hl|rfl
  .exact h l hl x hx
  .rcases jd.mp hx with q|q
   .cases e:a[d]? with|none=>rw[e]at q;simp at q|some l=>rw[e,fV]at q;exact h l (jr e) x q
   .rw[cO.mp q];exact hr r (by simp)
theorem Ma:∀ (ds:List Nat) (rs:List (List Itm)) (a:jT),ds.length=rs.length->(∀ d∈ds,d<a.length)->(eN ds rs a).flatten.Perm (rs++a.flatten)
 |[],[],a,_,_=>by simp[eN]|d::ds,[],a,h,_=>by simp at h|[],r::rs,a,h,_=>by simp at h|d::ds,r::rs,a,h,hd=>by
  simp only[eN];refine(Ma ds rs (put a d r) (by simpa using h) fun x hx=>by rw[vO];exact hd x (by simp[hx])).trans ?_;have hdl:=hd d (by simp);have e:a[d]?=some (a[d]?.getD []):=by simp[hdl]
  have:=Ia a d _ r e;exact(this.append_left rs).trans yI
theorem Z0 (l:List Int):(lay0 l).flatten.flatten=[]:=by rw[adw];intro r hr;obtain⟨x,hx,hr⟩:=Vs.mp hr;unfold lay0 stE at hx;obtain⟨i,_,rfl⟩:=jG.mp hx;exact adB hr
def LvF (d m n:Nat):Prop:=n<=60/\(m:Int)<=tot d n/\∀ j,j<n->tot d j<(m:Int)
def tmB:Nat->List Int->Bool
 |0,_=>true|n+1,l=>decide (tms l<=40)&&tmB n (nxL l)
def akZ (d m n:Nat):Bool:=(deal m (lvl d n)).2.all (fun x=>decide (0<=x/\x<=20))&&tmB n (lvl d n)
theorem aj3:∀ d∈[3,4,5,6],∀ n:Nat,n<9->∀ m:Nat,m<41->(m:Int)<=tot d n->(∀ j,j<n->tot d j<(m:Int))->akZ d m n=true:=by decide+kernel
theorem amm:∀ d∈[3,4,5,6],(40:Int)<tot d 8:=by decide+kernel
theorem ak5 {d:Nat} (h3:3<=d) (h6:d<=6):d∈[3,4,5,6]:=by
 have:d=3∨d=4∨d=5∨d=6:=by omega
 rcases this with rfl|rfl|rfl|rfl<;>simp
theorem aeC {d m n:Nat} (h3:3<=d) (h6:d<=6) (hm:m<=40) (h:LvF d m n):n<=8:=by
 rcases dH 8 n with q|q
 .have:=h.2.2 8 q;have:=amm d (ak5 h3 h6);omega
 .exact q
structure Dl (d m n:Nat):Prop where
 n8:n<=8
 nn:∀ x∈(deal m (lvl d n)).2,0<=x/\x<=20
 tb:tmB n (lvl d n)=true
 ck:QZ n (lvl d n)=true
theorem Dl.of {d m n:Nat} (h3:3<=d) (h6:d<=6) (hm:m<=40) (h:LvF d m n):Dl d m n:=by have h8:=aeC h3 h6 hm h;have:=aj3 d (ak5 h3 h6) n (by omega) m (by omega) h.2.1 h.2.2;simp only[akZ,bO,Oh,decide_eq_true_eq]at this;exact⟨h8,this.1,this.2,aho h3 h6 (by omega)⟩
def pC (d n:Nat) (runs:List (List Itm)):jT:=eN (deal runs.length (lvl d n)).1 runs (lay0 (deal runs.length (lvl d n)).2)
theorem vP {d n:Nat} (h3:3<=d):lvl d n≠[]/\(lvl d n).length=d:=⟨Iz (by omega) n,sU (by omega) n⟩
structure L0 (d n:Nat) (runs:List (List Itm)):Prop where
 ln:ln (pC d n runs)=lvl d n
 len:(pC d n runs).length=d
 ris:∀ l∈pC d n runs,∀ r∈l,bQ r
 per:(pC d n runs).flatten.flatten.Perm runs.flatten
theorem L0.of {d n:Nat} {runs:List (List Itm)} (h3:3<=d) (h6:d<=6) (hm:runs.length<=40) (h:LvF d runs.length n) (hr:∀ r∈runs,bQ r):L0 d n runs:=by
 have D:=Dl.of h3 h6 hm h;obtain⟨ne,ll⟩:=vP (d:=d) (n:=n) h3;obtain⟨l1,l2⟩:=J9.kW runs.length (lvl d n);have hlt:=J9.Ge runs.length (lvl d n) ne;have hget:=J9.JD runs.length (lvl d n) ne;have nn:=D.nn
 suffices H:PHA.ln (eN (deal runs.length (lvl d n)).1 runs (lay0 (deal runs.length (lvl d n)).2))=lvl d n/\(eN (deal runs.length (lvl d n)).1 runs (lay0 (deal runs.length (lvl d n)).2)).length=d/\(∀ l∈eN (deal runs.length (lvl d n)).1 runs (lay0 (deal runs.length (lvl d n)).2),∀ r∈l,bQ r)/\(eN (deal runs.length (lvl d n)).1 runs (lay0 (deal runs.length (lvl d n)).2)).flatten.flatten.Perm runs.flatten from⟨H.1,H.2.1,H.2.2.1,H.2.2.2⟩
 generalize deal runs.length (lvl d n)=p at l1 l2 hlt hget nn;have z:(lay0 p.2).length=d:=by simp[lay0,stE,l2,ll]
 refine⟨?_,by rw[vW,z],Tg _ _ _ hr fun l hl r hr'=>?_,?_⟩
 .apply oR
  intro x;by_cases hx:x<d
  .have hx2:x<p.2.length:=by omega
   have c:=Ti p.1 runs (lay0 p.2) x l1 (by omega);rw[Yx hx2,fV,H8]at c;have g:=hget x (by omega);have n0:=(nn (p.2.getD x 0) (by rw[J9.getD_get _ hx2];exact uH hx2)).1;(have hxl:x<(eN p.1 runs (lay0 p.2)).length:=by rw[vW,z];exact hx);unfold PHA.ln;rw[fW,bI hxl,dz];rw[bI hxl,fV]at c;rw[c];(have e:(lvl d n)[x]?=some ((lvl d n).getD x 0):=by rw[J9.getD_get _ (by omega)];exact bI (by omega));rw[e];congr 1;unfold lk;omega
  .rw[gW (by rw[vh,vW,z];omega),gW (by omega)]
 .unfold lay0 stE at hl
  obtain⟨i,_,rfl⟩:=jG.mp hl;rw[adB hr'];exact uV
 .have:=(Ma p.1 runs (lay0 p.2) l1 fun x hx=>by rw[z,<-ll];exact hlt x hx).flatten
  rw[VN,Z0,uP]at this;exact this
end DW.PHA
namespace DW.J9
open PySem DW DW.KQ
def kY (d m n:Nat):Prop:=n<=60/\(m:Int)<=tot d n/\∀ j,j<n->tot d j<(m:Int)
theorem kY.uniq {d m n n':Nat} (h:kY d m n) (k:kY d m n'):n=n':=by
 rcases acy n n' with q|q|q
 .have:=k.2.2 n q;have:=h.2.1;omega
 .exact q
 .have:=h.2.2 n' q;have:=k.2.1;omega
def jN (f:List Nat):List D:=f.map fun(b:Nat)=>D.int (b:Int)
def isD (l:List Int):List D:=l.map D.int
def dl (d m n:Nat):List Nat×List Int:=deal m (lvl d n)
def amZ (d:Nat) (f:List Nat):D:=.tup ((aN d).map fun k=>D.int (f.count k:Nat))
def jC:dZ:=fun ds μ Q=>∃ d m:Nat,ds=[.int (d:Int),.int (m:Int)]/\3<=d/\d<=6/\m<=100/\∀ n,kY d m n->Q (.loc (μ.length+1)) (μ++[.lst (isD (dl d m n).2),.lst (jN (dl d m n).1)])
def K5:dZ:=fun ds μ Q=>∃ d m:Nat,ds=[.int (d:Int),.int (m:Int)]/\3<=d/\d<=6/\m<=100/\∀ n ν,kY d m n->Q (.tup [amZ d (dl d m n).1,.tup (isD (dl d m n).2)]) (μ++ν)
def uE:dZ:=fun ds μ Q=>∃ d m:Nat,ds=[.int (d:Int),.int (m:Int)]/\3<=d/\d<=6/\m<=100/\∀ n:Nat,kY d m n->Q (.int (n:Int)) μ
def K8:dZ:=fun ds μ Q=>∃ d m:Nat,ds=[.int (d:Int),.int (m:Int)]/\3<=d/\d<=6/\m<=100/\∀ n,kY d m n->Q (.tup [.loc (μ.length+1),.loc μ.length]) (μ++[.lst (isD (dl d m n).2),.lst (jN (dl d m n).1)])
def pX:List Str:=["drives","many","lacks","told","run","drive"]
def p8:Ss:=(.cons (.set 2 (.blt "mlist" (.cons (.call "level" ux (.cons (.var 0) (.cons (.call "level_for" nW (.cons (.var 0) (.cons (.var 1) .nil))) .nil))) .nil))) (.cons (.set 3 (.lst true .nil)) (.cons (.for_ [4] false (.rng (.cons (.var 1) .nil)) (.cons (.set 5 (.sqm "index" (.var 2) (.cons (.blt "max" (.cons (.var 2) .nil)) .nil))) (.cons (.Fd .Sub (.var 2) (.var 5) (.cst (.int 1))) (.cons (.exp (.meth "append" (.var 3) (.cons (.var 5) .nil))) .nil)))) (.cons (.ret (.var 3)) .nil))))
def RG:List Str:=["drives","many","laid_on","laid","wanted"]
def Sw:Ss:=(.cons (.set 2 (.frz (.call "drives_in_order" jC (.cons (.var 0) (.cons (.var 1) .nil))))) (.cons (.set 3 (.comp false 1 false [2] (.sqm "count" (.var 1) (.cons (.var 0) .nil)) (.rng (.cons (.var 0) .nil)) .nil)) (.cons (.set 4 (.call "level" ux (.cons (.var 0) (.cons (.call "level_for" nW (.cons (.var 0) (.cons (.var 1) .nil))) .nil)))) (.cons (.ret (.tup (.cons (.blt "tuple" (.cons (.var 3) .nil)) (.cons (.blt "tuple" (.cons (.comp false 2 true [] (.bin .Sub (.var 0) (.var 1)) (.zip (.var 4) (.var 3)) .nil) .nil)) .nil)))) .nil))))
def xq:List Str:=["drives","many","number"]
def xJ:Ss:=(.cons (.set 2 (.cst (.int 0))) (.cons (.whl (.cmp .Lt (.blt "sum" (.cons (.call "_law_level" BP (.cons (.var 0) (.cons (.var 2) .nil))) .nil)) (.var 1)) (.cons (.set 2 (.bin .Add (.var 2) (.cst (.int 1)))) .nil)) (.cons (.ret (.var 2)) .nil)))
def RM:List Str:=["drives","many","lacking","found","run","best","drive"]
def SM:Ss:=(.cons (.set 2 (.blt "mlist" (.cons (.call "_law_level" BP (.cons (.var 0) (.cons (.call "_law_number_for" uE (.cons (.var 0) (.cons (.var 1) .nil))) .nil))) .nil))) (.cons (.set 3 (.lst true .nil)) (.cons (.for_ [4] false (.rng (.cons (.var 1) .nil)) (.cons (.set 5 (.cst (.int 0))) (.cons (.for_ [6] false (.rng (.cons (.var 0) .nil)) (.cons (.ite (.cmp .Gt (.idx (.var 2) (.var 6)) (.idx (.var 2) (.var 5))) (.cons (.set 5 (.var 6)) .nil) .nil) .nil)) (.cons (.wR (.var 2) (.var 5) (.bin .Sub (.idx (.var 2) (.var 5)) (.cst (.int 1)))) (.cons (.exp (.meth "append" (.var 3) (.cons (.var 5) .nil))) .nil))))) (.cons (.ret (.tup (.cons (.var 3) (.cons (.var 2) .nil)))) .nil))))
theorem akP (x:D) (es:List D) (μ:Mem) (Q:QD):Ka "index" x es μ Q=Ms "index" x es μ Q:=by unfold Ka;repeat rw[if_neg (by decide)]
theorem akQ (x:D) (es:List D) (μ:Mem) (Q:QD):Ka "count" x es μ Q=Ms "count" x es μ Q:=by unfold Ka;repeat rw[if_neg (by decide)]
theorem ajP (μ:Mem) (x:D):Kv "index" μ x=Fq μ x:=by unfold Kv;rw[if_neg (by decide),if_neg (by decide)]
theorem ajQ (μ:Mem) (x:D):Kv "count" μ x=Fq μ x:=by unfold Kv;rw[if_neg (by decide),if_neg (by decide)]
theorem aek (f:List Nat):gJ (jN f)=some (f.map fun(b:Nat)=>(b:Int)):=ou (fun(b:Nat)=>(b:Int)) f
theorem afr (f:List Nat) (k:Nat):(f.map fun(b:Nat)=>(b:Int)).count (k:Int)=f.count k:=by
 induction f with
 |nil=>rfl|cons b f ih=>
  simp only[aW,ab0,ih];have:((b:Int)==(k:Int))=(b==k):=by rw[Bool.eq_iff_iff];simp only[beq_iff_eq];omega
  rw[this]
theorem Ld {α β:Type} [Inhabited α] (l:List α) (g:α->β) (z:α):l.map g=(aN l.length).map fun k=>g (l.getD k z):=by
 apply oR;intro i;by_cases h:i<l.length
 .simp[h,Pj]
 .simp[h,uT h]
theorem KR {α:Type} (f g:α->D):∀ l:List α,mJ (l.map f) (l.map g)=l.map fun x=>.tup [f x,g x]
 |[]=>rfl|x::l=>by simp[mJ,KR f g l]
theorem JB {d m n:Nat} (h1:3<=d):(lvl d n)≠[]/\(lvl d n).length=d/\(dl d m n).1.length=m/\(dl d m n).2.length=d:=by have e:=sU (d:=d) (by omega) n;obtain⟨a,b⟩:=kW m (lvl d n);exact⟨Iz (by omega) n,e,a,b.trans e⟩
theorem Ku:Keeps xq xJ uE:=by
 rintro ds μ Q ⟨d,m,rfl,h1,h2,hm,h⟩;simp only[xJ,xq,aF,cC,wSs,wS,wE,wEs,aW,bh,aY,bB,bG,aZ,aG,aJ,aV,bC,bD];refine⟨fun M ρ μ'=>∃ n:Nat,M=60 -n/\n<=60/\(∀ j,j<n->tot d j<(m:Int))/\ρ=[some (.int (d:Int)),some (.int (m:Int)),some (.int (n:Int))]/\μ'=μ,⟨60,0,rfl,by omega,by simp,rfl,rfl⟩,?_⟩;rintro M ρ μ' ⟨n,rfl,hn,hj,rfl,rfl⟩;simp only[wT,wE,wEs,aG,aJ];refine⟨d,n,rfl,h1,h2,by omega,?_⟩;simp only[bM,tW,au,oO,gO,dh,Et,gZ];by_cases c:(lvl d n).sum<(m:Int)
 .have hn':n<60:=by
   rcases dH n 60 with q|q
   .exact q
   .have e:n=60:=by omega
    subst e;have:=XJ h1 h2;unfold tot at this;omega
  simp only[decide_eq_true c,if_true,wSs,wS,wE,aG,aJ,lq,bC,bD];refine⟨60 -(n+1),by omega,n+1,rfl,by omega,?_,by simp⟩;intro j hj';rcases dH j n with q|q
  .exact hj j q
  .have:j=n:=by omega
   subst this;exact c
 .simp only[decide_eq_false c,dB,if_false,wSs,wS,wE,aG,aJ]
  exact h n ⟨hn,by unfold tot;omega,hj⟩
theorem Al:Keeps pX p8 jC:=by
 rintro ds μ Q ⟨d,m,rfl,h1,h2,hm,h⟩;simp only[p8,pX,aF,cC,wSs,wS,wE,wEs,wI,aW,bh,aY,bB,bG,aZ,aG,aJ,aV];refine⟨d,(m:Int),rfl,h1,h2,by omega,fun n n0 n1 n2=>?_⟩;refine⟨d,n,rfl,h1,h2,by omega,?_⟩;have lf:kY d m n:=⟨n0,n1,n2⟩;have hd:=fun j=>JB (m:=j) (n:=n) h1;replace h:=h n lf;unfold dl at h hd;generalize lvl d n=l at h hd;simp only[bM,tW,au,newL,kZ,qC,jf,lim,aU,bB,bC,bD,aG,aJ,if_true];have hl0:=(hd 0).2.1;refine⟨by omega,by omega,by omega,?_⟩;have e2:((m:Int)).toNat=m:=by omega
 rw[e2,dG];refine bK (fun ds ρ μ'=>∃ (j:Nat) (a b:Option D),ds=(gG j (m -j)).map (fun(k:Nat)=>D.int (k:Int))/\j<=m/\μ'=μ++[.lst (isD (deal j l).2),.lst (jN (deal j l).1)]/\
  ρ=[some (.int (d:Int)),some (.int (m:Int)),some (.loc μ.length),some (.loc (μ.length+1)),a,b]) ?_ ?_ _ _ _ ⟨0,none,none,by simp[uI],by omega,by simp[deal,isD,jN],by simp⟩
 .rintro x ds ρ μ1 N hN ⟨j,a,b,e,hj,rfl,rfl⟩
  have hjn:j<m:=by
   rcases dH j m with q|q
   .exact q
   .rw[show m -j=0 by omega]at e;simp at e
  rw[show m -j=(m -(j+1))+1 by omega,lC]at e;simp only[aW,eH]at e;obtain⟨rfl,rfl⟩:=e;refine⟨trivial,?_⟩;obtain⟨q1,q2,q3,q4⟩:=hd j;have hne:(deal j l).2≠[]:=fun z=>by rw[z]at q4;simp at q4;omega
  obtain⟨a0,r0,er⟩:=Pg hne;obtain⟨f1,f2⟩:=FW a0 r0;have hst:=LR (n:=j) q1 (b:=(a0::r0).idxOf (r0.foldl max a0)) (by rw[er];exact f2);have hgo:∀ v,N [some (.int (d:Int)),some (.int (m:Int)),some (.loc μ.length),some (.loc (μ.length+1)),some (.int (j:Int)),v] (μ++[.lst (isD (deal (j+1) l).2),.lst (jN (deal (j+1) l).1)]):=fun v=>hN _ _ ⟨j+1,_,v,rfl,by omega,rfl,rfl⟩;rw[hst,er]at hgo;rw[er]at q4 ⊢;generalize hbb:(a0::r0).idxOf (r0.foldl max a0)=bb at f2 hgo;have hb:=f2.1;have g0:(μ++[Cell.lst (isD (a0::r0)),Cell.lst (jN (deal j l).1)])[μ.length]?=some (.lst (isD (a0::r0))):=by simp
  have hz:(isD (a0::r0))[bb]?=some (.int ((a0::r0).getD bb 0)):=by unfold isD;rw[fW,bI hb,getD_get _ hb];rfl
  have hi:gJ (isD (a0::r0))=some (a0::r0):=gO _;have hix:pG (isD (a0::r0)).length (bb:Int)=some bb:=dI (by simpa[isD]using hb);have hs:(isD (a0::r0)).set bb (.int ((a0::r0).getD bb 0 -1))=isD ((a0::r0).set bb ((a0::r0).getD bb 0 -1)):=by unfold isD;rw[uN]
  generalize hla:(a0::r0)=la at*;generalize hvv:la.set bb (la.getD bb 0 -1)=lb at*;have g1:(μ++[Cell.lst (isD la),Cell.lst (jN (deal j l).1)]).set μ.length (.lst (isD lb))=μ++[Cell.lst (isD lb),Cell.lst (jN (deal j l).1)]:=by rw[CK _ _ (aL _)];simp
  have g2:(μ++[Cell.lst (isD lb),Cell.lst (jN (deal j l).1)])[μ.length+1]?=some (.lst (jN (deal j l).1)):=by rw[jt (by omega)];simp
  have g3:(μ++[Cell.lst (isD lb),Cell.lst (jN (deal j l).1)]).set (μ.length+1) (.lst (jN (deal j l).1++[.int (bb:Int)]))=μ++[Cell.lst (isD lb),Cell.lst (jN ((deal j l).1++[bb]))]:=by rw[CK _ _ (by omega)];simp[jN]
  have hi':gJ (isD la)=some (a0::r0):=by rw[hi,hla]
  simp only[dg,bC,bD,aG,aJ,Fq,bU,au,g0,oO,hi',ajP,akP,Ms,afT,true_and];rw[hla];refine⟨f1,?_⟩;rw[hbb];simp only[bC,bD,aG,aJ,KY,g0,qK,hz,uf,jU,hix,hs,g1];refine⟨by omega,?_⟩;simp only[isCell,g2,true_and,dU,bY,g3];refine⟨by simp[jN,lim,q3];omega,hgo _⟩
 .rintro ρ μ1 ⟨j,a,b,e,hj,rfl,rfl⟩
  have hj2:m<=j:=by have:=congrArg fK e;simp at this;omega
  have:j=m:=by omega
  subst this;exact⟨trivial,h⟩
theorem aeN:Keeps RG Sw K5:=by
 rintro ds μ Q ⟨d,m,rfl,h1,h2,hm,h⟩;simp only[Sw,RG,aF,cC,wSs,wS,wE,wEs,wI,aW,bh,aY,bB,bG,aZ,aG,aJ,aV];refine⟨d,m,rfl,h1,h2,hm,fun n lf=>?_⟩;obtain⟨q1,q2,q3,q4⟩:=JB (m:=m) (n:=n) h1;have hg:=fun k=>JD m (lvl d n) q1 k;have g0:(μ++[Cell.lst (isD (dl d m n).2),Cell.lst (jN (dl d m n).1)])[μ.length+1]?=some (.lst (jN (dl d m n).1)):=by rw[jt (by omega)];simp
 have g1:(μ++[Cell.lst (isD (dl d m n).2),Cell.lst (jN (dl d m n).1)]).set (μ.length+1) .gone=μ++[Cell.lst (isD (dl d m n).2),Cell.gone]:=by rw[CK _ _ (by omega)];simp
 simp only[Q8,g0,g1,qC,jf,bC,bD,aG,aJ];refine⟨by simp only[lim];omega,by omega,?_⟩;have e2:((d:Int)).toNat=d:=by omega
 rw[e2,dG];refine fj (fun(k:Nat)=>D.int (k:Int)) (fun(k:Nat)=>D.int ((dl d m n).1.count k:Nat)) trivial _ _ ?_ ?_
 .intro k _ Y N q
  simp only[bindC,wTs,wE,wEs,aW,bh,aG,aJ,pP,if_true,Fq,ajQ,akQ,Ms,bU,au,oO,aek,afT,afr,true_and];exact q
 .simp only[newL,aZ,dB,if_false,bC,bD,aG,aJ]
  refine⟨d,(m:Int),rfl,h1,h2,by omega,fun n' n0 n1 n2=>?_⟩;have en:n'=n:=kY.uniq ⟨n0,n1,n2⟩ lf;subst en;refine⟨d,n',rfl,h1,h2,by omega,?_⟩;simp only[wSs,wS,wE,wEs,wI,bC,bD,aG,aJ,bM,au,tW,Za,bU];have e3:(lvl d n').map D.int=(aN d).map fun k=>D.int ((lvl d n').getD k 0):=by rw[Ld (lvl d n') D.int 0,q2]
  rw[e3,KR];refine⟨by simp,?_⟩;refine fj (fun(k:Nat)=>D.tup [D.int ((lvl d n').getD k 0),D.int ((dl d m n').1.count k:Nat)]) (fun(k:Nat)=>D.int ((dl d m n').2.getD k 0)) trivial _ _ ?_ ?_
  .intro k hk Y N q
   have hk':k<d:=oY.mp hk;have:=hg k (by omega);simp only[bindC,wTs,wE,wEs,bh,aG,aJ,if_true,lq];unfold dl at q ⊢;rw[this]at q;exact⟨rfl,q⟩
  .have e4:((aN d).map fun k=>D.int ((dl d m n').2.getD k 0))=isD (dl d m n').2:=by unfold isD;rw[Ld (dl d m n').2 D.int 0,q4]
   simp only[newL,aZ,dB,if_false,e4,bM,au];exact⟨by simp[lim],h n' _ lf⟩
theorem aeR:Keeps RM SM K8:=by
 rintro ds μ Q ⟨d,m,rfl,h1,h2,hm,h⟩;simp only[SM,RM,aF,cC,wSs,wS,wE,wEs,wI,aW,bh,aY,bB,bG,aZ,aG,aJ,aV];refine⟨d,m,rfl,h1,h2,hm,fun n lf=>?_⟩;refine⟨d,n,rfl,h1,h2,by have:=lf.1;omega,?_⟩;have hd:=fun j=>JB (m:=j) (n:=n) h1;replace h:=h n lf;unfold dl at h hd;generalize lvl d n=l at h hd;simp only[bM,tW,au,newL,kZ,qC,jf,lim,aU,bB,bC,bD,aG,aJ,if_true];have hl0:=(hd 0).2.1;refine⟨by omega,by omega,by omega,?_⟩;have e2:((m:Int)).toNat=m:=by omega
 rw[e2,dG];refine bK (fun ds ρ μ'=>∃ (j:Nat) (a b c:Option D),ds=(gG j (m -j)).map (fun(k:Nat)=>D.int (k:Int))/\j<=m/\μ'=μ++[.lst (isD (deal j l).2),.lst (jN (deal j l).1)]/\
  ρ=[some (.int (d:Int)),some (.int (m:Int)),some (.loc μ.length),some (.loc (μ.length+1)),a,b,c]) ?_ ?_ _ _ _ ⟨0,none,none,none,by simp[uI],by omega,by simp[deal,isD,jN],by simp⟩
 .rintro x ds ρ μ1 N hN ⟨j,a,b,c,e,hj,rfl,rfl⟩
  have hjn:j<m:=by
   rcases dH j m with q|q
   .exact q
   .rw[show m -j=0 by omega]at e;simp at e
  rw[show m -j=(m -(j+1))+1 by omega,lC]at e;simp only[aW,eH]at e;obtain⟨rfl,rfl⟩:=e;refine⟨trivial,?_⟩;obtain⟨q1,q2,q3,q4⟩:=hd j;have hgo:∀ bb v w,Fst (deal j l).2 bb->N [some (.int (d:Int)),some (.int (m:Int)),some (.loc μ.length),some (.loc (μ.length+1)),some (.int (j:Int)),v,w] (μ++[.lst (isD ((deal j l).2.set bb ((deal j l).2.getD bb 0 -1))),.lst (jN ((deal j l).1++[bb]))]):=fun bb v w hf=>by have:=LR (n:=j) q1 hf;refine hN _ _ ⟨j+1,_,v,w,rfl,by omega,?_,rfl⟩;rw[this]
  generalize (deal j l).2=la at hgo q4;have g0:(μ++[Cell.lst (isD la),Cell.lst (jN (deal j l).1)])[μ.length]?=some (.lst (isD la)):=by simp
  have gi:∀ (i:Nat),i<d->∀ (Q:QD),Q (.int (la.getD i 0)) (μ++[Cell.lst (isD la),Cell.lst (jN (deal j l).1)])->d7 (.loc μ.length) (.int (i:Int)) (μ++[Cell.lst (isD la),Cell.lst (jN (deal j l).1)]) Q:=fun i hi Q q=>by
   (have hi2:i<la.length:=by omega);have e1:pG (isD la).length (i:Int)=some i:=dI (by simpa[isD]using hi2);have e2:(isD la)[i]?=some (.int (la.getD i 0)):=by unfold isD;rw[fW,bI hi2,getD_get _ hi2];rfl
   simp only[d7,au,g0,e1,oO,e2];exact q
  simp only[dg,bC,bD,aG,aJ,wT,wE,wEs];refine⟨by omega,by omega,?_⟩;have e3:((d:Int)).toNat=d:=by omega
  rw[e3,dG];refine bK (fun ds ρ μ'=>∃ (i bb:Nat) (w:Option D),ds=(gG i (d -i)).map (fun(k:Nat)=>D.int (k:Int))/\i<=d/\bb<d/\(∀ p,p<i->la.getD p 0<=la.getD bb 0/\(p<bb->la.getD p 0<la.getD bb 0))/\(bb<i∨bb=0)/\
   μ'=μ++[.lst (isD la),.lst (jN (deal j l).1)]/\ρ=[some (.int (d:Int)),some (.int (m:Int)),some (.loc μ.length),some (.loc (μ.length+1)),some (.int (j:Int)),some (.int (bb:Int)),w]) ?_ ?_ _ _ _ ⟨0,0,c,by simp[uI],by omega,by omega,by simp,.inr rfl,rfl,by simp⟩
  .rintro x ds ρ μ1 N2 hN2 ⟨i,bb,w,e,hi,hb,hp,hbi,rfl,rfl⟩
   have hin:i<d:=by
    rcases dH i d with q|q
    .exact q
    .rw[show d -i=0 by omega]at e;simp at e
   rw[show d -i=(d -(i+1))+1 by omega,lC]at e;simp only[aW,eH]at e;obtain⟨rfl,rfl⟩:=e;refine⟨trivial,?_⟩;simp only[dg,bC,bD,aG,aJ];refine gi i hin _ (gi bb hb _ ?_);simp only[dh,gZ];by_cases cc:la.getD bb 0<la.getD i 0
   .simp only[decide_eq_true cc,if_true]
    refine hN2 _ _ ⟨i+1,i,_,rfl,by omega,hin,fun p hp'=>?_,.inl (by omega),rfl,rfl⟩;rcases dH p i with q|q
    .have:=(hp p q).1
     exact⟨by omega,fun _=>by omega⟩
    .have:p=i:=by omega
     subst this;exact⟨Nx _,fun z=>absurd z (lu _)⟩
   .simp only[decide_eq_false cc,dB,if_false]
    refine hN2 _ _ ⟨i+1,bb,_,rfl,by omega,hb,fun p hp'=>?_,by omega,rfl,rfl⟩;rcases dH p i with q|q
    .exact hp p q
    .have:p=i:=by omega
     subst this;refine⟨by omega,fun z=>?_⟩;rcases hbi with y|y<;>omega
  .rintro ρ μ1 ⟨i,bb,w,e,hi,hb,hp,hbi,rfl,rfl⟩
   have hi2:i=d:=by have:=congrArg fK e;simp at this;omega
   subst hi2;refine⟨trivial,?_⟩;have hf:Fst la bb:=⟨by omega,fun p hp'=>hp p (by omega)⟩;have alj:=fun v w=>hgo bb v w hf;have hix:pG (isD la).length (bb:Int)=some bb:=dI (by simp[isD];omega);have hs:(isD la).set bb (.int (la.getD bb 0 -1))=isD (la.set bb (la.getD bb 0 -1)):=by unfold isD;rw[uN]
   generalize la.set bb (la.getD bb 0 -1)=lb at hs alj;have g1:(μ++[Cell.lst (isD la),Cell.lst (jN (deal j l).1)]).set μ.length (.lst (isD lb))=μ++[Cell.lst (isD lb),Cell.lst (jN (deal j l).1)]:=by rw[CK _ _ (aL _)];simp
   have g2:(μ++[Cell.lst (isD lb),Cell.lst (jN (deal j l).1)])[μ.length+1]?=some (.lst (jN (deal j l).1)):=by rw[jt (by omega)];simp
   have g3:(μ++[Cell.lst (isD lb),Cell.lst (jN (deal j l).1)]).set (μ.length+1) (.lst (jN (deal j l).1++[.int (bb:Int)]))=μ++[Cell.lst (isD lb),Cell.lst (jN ((deal j l).1++[bb]))]:=by rw[CK _ _ (by omega)];simp[jN]
   simp only[bC,bD,aG,aJ];refine gi bb hb _ ?_;simp only[lq,jU,g0,hix,hs,g1,isCell,g2,true_and,dU,bY,g3];refine⟨by simp[jN,lim,q3];omega,alj _ _⟩
 .rintro ρ μ1 ⟨j,a,b,c,e,hj,rfl,rfl⟩
  have hj2:m<=j:=by have:=congrArg fK e;simp at this;omega
  have:j=m:=by omega
  subst this;exact⟨trivial,by omega,h⟩
end DW.J9
namespace DW.K25
open PySem DW DW.KQ
def qe:dZ:=fun ds μ Q=>∃ m:Int,ds=[.int m]/\1<=m/\m<=50/\Q .non μ
def zZ:List Str:=["thing"]
def Ax:Ss:=(.cons (.ite (.or (.not (.call "is_whole" cY (.cons (.var 0) .nil))) (.not (.chain .LtE .LtE (.cst (.int 1)) (.var 0) (.gbl "MOST_ROOM" (.int 50))))) (.cons .Yk .nil) .nil) .nil)
theorem PK:Keeps zZ Ax qe:=by rintro ds μ Q ⟨m,rfl,h1,h2,h⟩;simpa[Ax,zZ,aF,cC,wSs,wS,wT,wE,wEs,cY,gZ,dh,iu,truth,h1,h2]using h
end DW.K25
namespace DW.CHO
open PySem DW DW.KQ DW.K25
noncomputable abbrev Tk:=Option Itm
def xP:Tk->D
 |none=>.tup [.str [101,110,100]]|some x=>.tup [.str [111,117,116],bH x]
def I4:Option Itm->D
 |none=>.non|some x=>bH x
structure Ch where
 room:Nat
 kept:List Itm
 last:Option Itm
def nO (last:Option Itm) (x:Itm):Bool:=match last with|none=>true|some l=>!lG x l
def Dh (a:Itm) (l:List Itm):Itm:=l.foldl (fun a x=>if lG x a=true then x else a) a
def bJ (l:List Itm):Itm:=match l with|[]=>(0,[])|a::r=>Dh a (a::r)
def able (c:Ch):List Itm:=c.kept.filter (nO c.last)
def src (c:Ch):List Itm:=if able c=[]then c.kept else able c
def outF (c:Ch):List Tk×Ch:=((if able c=[]then [none]else [])++[some (bJ (src c))],⟨c.room,c.kept.erase (bJ (src c)),some (bJ (src c))⟩)
def cu (c:Ch) (x:Itm):List Tk×Ch:=if c.kept.length=c.room then((outF c).1,⟨c.room,(outF c).2.kept++[x],(outF c).2.last⟩)else([],⟨c.room,c.kept++[x],c.last⟩)
def gK:Nat->Ch->List Tk×Ch
 |0,c=>([],c)|n+1,c=>if c.kept=[]then([],c)else((outF c).1++(gK n (outF c).2).1,(gK n (outF c).2).2)
def Fv (c:Ch):List Tk×Ch:=(if(gK c.kept.length c).1=[]then []else(gK c.kept.length c).1++[none],⟨c.room,[],none⟩)
theorem pZ:∀ (l:List Itm) (a:Itm),(Dh a l=a∨Dh a l∈l)/\lG a (Dh a l)=false/\∀ z∈l,lG z (Dh a l)=false
 |[],a=>⟨.inl rfl,sV a,by simp⟩|x::l,a=>by
  unfold Dh;rw[lA];by_cases c:lG x a=true
  .rw[if_pos c]
   obtain⟨h1,h2,h3⟩:=pZ l x;refine⟨.inr ?_,?_,?_⟩
   .rcases h1 with h1|h1
    .exact aO.mpr (.inl h1)
    .exact aO.mpr (.inr h1)
   .exact jO _ _ _ h2 (Ai _ _ c)
   .intro z hz
    rcases aO.mp hz with rfl|hz
    .exact h2
    .exact h3 z hz
  .rw[if_neg c]
   obtain⟨h1,h2,h3⟩:=pZ l a;refine⟨?_,h2,?_⟩
   .rcases h1 with h1|h1
    .exact .inl h1
    .exact .inr (aO.mpr (.inr h1))
   .intro z hz
    rcases aO.mp hz with rfl|hz
    .exact jO _ _ _ h2 (by simpa using c)
    .exact h3 z hz
theorem vQ (h:l≠[]):bJ l∈l:=by
 cases l with
 |nil=>exact absurd rfl h|cons a r=>
  rcases(pZ (a::r) a).1 with q|q
  .exact aO.mpr (.inl q)
  .exact q
theorem least_le (h:l≠[]):∀ z∈l,lG z (bJ l)=false:=by
 cases l with
 |nil=>exact absurd rfl h|cons a r=>exact(pZ (a::r) a).2.2
theorem R0 (hy:y∈l) (h:∀ z∈l,lG z y=false):y=bJ l:=by
 have hne:l≠[]:=fun e=>by subst e;simp at hy
 exact Ys _ _ (least_le hne y hy) (h _ (vQ hne))
theorem xT (h:c.kept≠[]):src c≠[]:=by
 unfold src;split
 .exact h
 .assumption
theorem agf:∀ x∈src c,x∈c.kept:=by
 unfold src;split
 .exact fun x hx=>hx
 .exact fun x hx=>(yF.mp hx).1
theorem sJ (h:c.kept≠[]):bJ (src c)∈c.kept:=agf _ (vQ (xT h))
theorem iR (h:c.kept≠[]):(outF c).2.kept.length+1=c.kept.length:=by have:=List.length_erase_of_mem (sJ h);have:=VP.mpr h;simp only[outF];omega
def Wf (c:Ch):Prop:=1<=c.room/\c.room<=50/\c.kept.length<=c.room/\(c.kept=[]->c.last=none)/\(∀ x∈c.kept,gM x)/\∀ x,c.last=some x->gM x
def mV (μ:Mem) (n:Nat) (c:Ch):Prop:=μ[n]?=some (.ins "Chooser" [("room",.int (c.room:Int)),("kept",.loc (n+1)),("last",I4 c.last)])/\μ[n+1]?=some (.lst (c.kept.map bH))
def Fr (μ μ':Mem) (n:Nat):Prop:=μ.length<=μ'.length/\∀ i,i<μ.length->i≠n->i≠n+1->μ'[i]?=μ[i]?
theorem Fr.refl (μ:Mem) (n:Nat):Fr μ μ n:=⟨aL _,fun _ _ _ _=>rfl⟩
theorem Fr.trans (a:Fr μ μ' n) (b:Fr μ' TY n):Fr μ TY n:=⟨jc a.1 b.1,fun i h1 h2 h3=>by rw[b.2 i (fM h1 a.1) h2 h3,a.2 i h1 h2 h3]⟩
theorem Fr.push (a:Fr μ μ' n) (c:Cell):Fr μ (μ' ++[c]) n:=⟨by have:=a.1;simp;omega,fun i h1 h2 h3=>by rw[cL (fM h1 a.1)];exact a.2 i h1 h2 h3⟩
theorem Fr.set (a:Fr μ μ' n) (c:Cell) (h:μ.length<=t∨t=n∨t=n+1):Fr μ (μ'.set t c) n:=⟨by have:=a.1;simp;omega,fun i h1 h2 h3=>by rw[bR (by omega)];exact a.2 i h1 h2 h3⟩
theorem mV.push (h:mV μ n c) (x:Cell):mV (μ++[x]) n c:=by obtain⟨h1,h2⟩:=h;exact⟨by rw[cL (cF.mp h1).1];exact h1,by rw[cL (cF.mp h2).1];exact h2⟩
theorem mV.other (h:mV μ n c) (x:Cell) (h1:t≠n) (h2:t≠n+1):mV (μ.set t x) n c:=⟨by rw[bR h1];exact h.1,by rw[bR h2];exact h.2⟩
theorem rm (h:mV μ n c) (q:Q (.loc (n+1)) μ):jg "Chooser" "kept" (.loc n) μ Q:=by simpa[jg,jP,h.1,bW]using q
theorem ae5 (h:mV μ n c) (q:Q (.int (c.room:Int)) μ):jg "Chooser" "room" (.loc n) μ Q:=by simpa[jg,jP,h.1,bW]using q
theorem Bh (h:mV μ n c) (q:Q (I4 c.last) μ):jg "Chooser" "last" (.loc n) μ Q:=by simpa[jg,jP,h.1,bW]using q
theorem Ro (h:mV μ n c) (q:∀ μ',μ'=μ.set n (.ins "Chooser" [("room",.int (c.room:Int)),("kept",.loc (n+1)),("last",I4 l)])->mV μ' n ⟨c.room,c.kept,l⟩->k μ'):mK "Chooser" "last" (.loc n) (I4 l) μ k:=by have hl:=(cF.mp h.1).1;have:=q _ rfl ⟨by rw[cT hl],by rw[bR (by omega)];exact h.2⟩;simpa[mK,jP,h.1,putD]using this
theorem vp (h:mV μ n c) (h1:m≠"room") (h2:m≠"kept") (h3:m≠"last"):je μ "Chooser" m (.loc n):=by simp[je,jP,h.1,bW,bN h1,bN h2,bN h3]
def tK:dZ:=fun ds μ Q=>∃ (μ0:Mem) (m:Nat),ds=[.loc μ0.length,.int (m:Int)]/\μ=μ0++[.ins "Chooser" []]/\1<=m/\m<=50/\Q .non (μ0++[.ins "Chooser" [("room",.int (m:Int)),("kept",.loc (μ0.length+1)),("last",.non)],.lst []])
def pJ:dZ:=fun ds μ Q=>∃ (n:Nat) (x:Itm) (c:Ch),ds=[.loc n,bH x]/\mV μ n c/\Q (.bl (nO c.last x)) μ
def jD:dZ:=fun ds μ Q=>∃ (n:Nat) (c:Ch),ds=[.loc n]/\mV μ n c/\c.kept≠[]/\c.kept.length<=50/\∀ μ' t,Fr μ μ' n->mV μ' n (outF c).2->μ.length<=t->μ'[t]?=some (.lst ((outF c).1.map xP))->Q (.loc t) μ'
def tL:dZ:=fun ds μ Q=>∃ (n:Nat) (x:Itm) (c:Ch),ds=[.loc n,bH x]/\mV μ n c/\Wf c/\∀ μ' t,Fr μ μ' n->mV μ' n (cu c x).2->μ.length<=t->μ'[t]?=some (.lst ((cu c x).1.map xP))->Q (.loc t) μ'
def pK:dZ:=fun ds μ Q=>∃ (n:Nat) (c:Ch),ds=[.loc n]/\mV μ n c/\Wf c/\∀ μ' t,Fr μ μ' n->mV μ' n (Fv c).2->μ.length<=t->μ'[t]?=some (.lst ((Fv c).1.map xP))->Q (.loc t) μ'
def vf:List Str:=["self","room"]
def vG:Ss:=(.cons (.exp (.call "check_room" qe (.cons (.var 1) .nil))) (.cons (.wg "Chooser" "room" (.var 0) (.var 1)) (.cons (.wg "Chooser" "kept" (.var 0) (.lst true .nil)) (.cons (.wg "Chooser" "last" (.var 0) (.cst .non)) .nil))))
def vg:List Str:=["self","item","told"]
def vH:Ss:=(.cons (.set 2 (.lst true .nil)) (.cons (.ite (.cmp .Eq (.blt "len" (.cons (.fld "Chooser" "kept" (.var 0)) .nil)) (.fld "Chooser" "room" (.var 0))) (.cons (.set 2 (.pA "Chooser" "let_out" jD (.var 0) .nil)) .nil) .nil) (.cons (.exp (.meth "append" (.fld "Chooser" "kept" (.var 0)) (.cons (.var 1) .nil))) (.cons (.ret (.var 2)) .nil))))
def qT:List Str:=["self","told"]
def q8:Ss:=(.cons (.set 1 (.lst true .nil)) (.cons (.whl (.fld "Chooser" "kept" (.var 0)) (.cons (.exp (.meth "extend" (.var 1) (.cons (.pA "Chooser" "let_out" jD (.var 0) .nil) .nil))) .nil)) (.cons (.ite (.var 1) (.cons (.exp (.meth "append" (.var 1) (.cons (.tup (.cons (.cst (.str [101,110,100])) .nil)) .nil))) .nil) .nil) (.cons (.wg "Chooser" "last" (.var 0) (.cst .non)) (.cons (.ret (.var 1)) .nil)))))
def pY:List Str:=["self","told","able"]
def qb:Ss:=(.cons (.set 1 (.lst true .nil)) (.cons (.set 2 (.comp false 1 false [0] (.var 0) (.seq (.fld "Chooser" "kept" (.var 0))) (.cons (.pA "Chooser" "may_go" pJ (.var 1) (.cons (.var 0) .nil)) .nil))) (.cons (.ite (.not (.var 2)) (.cons (.exp (.meth "append" (.var 1) (.cons (.tup (.cons (.cst (.str [101,110,100])) .nil)) .nil))) (.cons (.set 2 (.fld "Chooser" "kept" (.var 0))) .nil)) .nil) (.cons (.wg "Chooser" "last" (.var 0) (.aad (.cons (.var 2) .nil))) (.cons (.exp (.rmv (.fld "Chooser" "kept" (.var 0)) (.cons (.fld "Chooser" "last" (.var 0)) .nil))) (.cons (.exp (.meth "append" (.var 1) (.cons (.tup (.cons (.cst (.str [111,117,116])) (.cons (.fld "Chooser" "last" (.var 0)) .nil))) .nil))) (.cons (.ret (.var 1)) .nil)))))))
def qR:List Str:=["self","item"]
def qZ:Ss:=(.cons (.ret (.or (.cmp .Is (.fld "Chooser" "last" (.var 0)) (.cst .non)) (.not (.call "less" FJ (.cons (.var 1) (.cons (.fld "Chooser" "last" (.var 0)) .nil)))))) .nil)
theorem Jb:Keeps vf vG tK:=by rintro ds μ Q ⟨μ0,m,rfl,rfl,h1,h2,h⟩;simp only[vG,vf,aF,cC,wSs,wS,wE,wEs,newL,lim,aW,bh,aY,bB,bG,aZ,aG,aJ];refine⟨m,rfl,by omega,by omega,?_⟩;simp[mK,jP,putD];simpa using h
theorem Dn:Keeps qR qZ pJ:=by
 rintro ds μ Q ⟨n,x,c,rfl,hc,h⟩;simp only[qZ,qR,aF,cC,wSs,wS,wE,wEs,aW,bh,aY,bB,bG,aZ,aG,aJ];refine Bh hc ?_;cases hl:c.last with
 |none=>rw[hl]at h;simpa[I4,dh,tU,gZ,nO]using h|some l=>rw[hl]at h;simp[I4,dh,tU,bH,gZ];refine Bh hc ?_;rw[hl];refine⟨x,l,rfl,?_⟩;simpa[nO]using h
theorem DX (h:μ[t]?=some (.lst (l.map xP))) (hl:l.length<1000) (q:Q .non (μ.set t (.lst ((l++[x]).map xP)))):dU "append" (.loc t) [xP x] μ Q:=by simp only[dU,h,bY,aU];exact⟨by simp only[lim];omega,by simpa using q⟩
theorem Am:Keeps pY qb jD:=by
 rintro ds μ Q ⟨n,c,rfl,hc,hne,hl,h⟩;have hn1:n+1<μ.length:=(cF.mp hc.2).1;simp only[qb,pY,aF,cC,wSs,wS,wE,wEs,wI,newL,lim,aW,bh,aY,bB,bG,aZ,aG,aJ,aV,bC,bD,pP];refine⟨by omega,?_⟩;have f1:Fr μ (μ++[Cell.lst []]) n:=(Fr.refl μ n).push _;have c1:=hc.push (Cell.lst []);have t1:(μ++[Cell.lst []])[μ.length]?=some (.lst (([]:List Tk).map xP)):=by simp
 generalize μ++[Cell.lst []]=μ1 at f1 c1 t1;refine rm c1 ?_;simp only[kZ,c1.2];refine d8 bH (nO c.last) bH c1.2 _ _ ?_ ?_
 .intro x hx Y N z
  simp only[bindC,wTs,wT,wE,wEs,aG,aJ];refine⟨vp c1 (by decide) (by decide) (by decide),n,x,c,rfl,c1,?_⟩;simpa[iu,truth]using z
 .have ea:c.kept.filter (nO c.last)=able c:=rfl
  rw[aZ,ea];simp only[wT,iu,truth,lenOf,au,dz,aU,aG,aJ];have fin:∀ (μ2:Mem) (tk:List Tk) (a:D),Fr μ μ2 n->mV μ2 n c->μ2[μ.length]?=some (.lst (tk.map xP))->tk.length<10->bU μ2 a=some ((src c).map bH)->tk++[some (bJ (src c))]=(outF c).1->
    Q7 [a] μ2 fun v μ1=>mK "Chooser" "last" (.loc n) v μ1 fun μ3=>jg "Chooser" "kept" (.loc n) μ3 fun x μ1=>Fq μ1 x=true/\jg "Chooser" "last" (.loc n) μ1 fun d μ1=>aaO x [d] μ1 fun d μ1=>isCell μ1 (.loc μ.length)=true/\jg "Chooser" "last" (.loc n) μ1 fun d μ1=>[D.str [111,117,116],d].length<=16777216/\dU "append" (.loc μ.length) [.tup [.str [111,117,116],d]] μ1 fun d μ1=>Q (.loc μ.length) μ1:=by
   intro μ2 tk a f2 c2 t2 tl ha et;simp only[Q7,ha];refine⟨src c,rfl,xT hne,fun y hy hle=>?_⟩;have ey:=R0 hy hle;subst ey;refine Ro (l:=some (bJ (src c))) c2 fun μ3 e3 c3=>?_;(have f3:Fr μ μ3 n:=by rw[e3];exact f2.set _ (.inr (.inl rfl)));(have t3:μ3[μ.length]?=some (.lst (tk.map xP)):=by rw[e3,bR (by omega)];exact t2);clear e3;refine rm c3 ⟨by simp[Fq,c3.2],Bh c3 ?_⟩;simp only[aaO,c3.2];refine⟨c.kept,bJ (src c),rfl,rfl,sJ hne,?_⟩;(have hn3:n+1<μ3.length:=by have:=f3.1;omega);have c4:mV (μ3.set (n+1) (Cell.lst ((c.kept.erase (bJ (src c))).map bH))) n (outF c).2:=⟨by rw[bR (by omega)];exact c3.1,by rw[cT hn3];rfl⟩;have f4:Fr μ (μ3.set (n+1) (Cell.lst ((c.kept.erase (bJ (src c))).map bH))) n:=f3.set _ (.inr (.inr rfl));(have t4:(μ3.set (n+1) (Cell.lst ((c.kept.erase (bJ (src c))).map bH)))[μ.length]?=some (.lst (tk.map xP)):=by rw[bR (by omega)];exact t3);generalize μ3.set (n+1) (Cell.lst ((c.kept.erase (bJ (src c))).map bH))=μ4 at c4 f4 t4;refine⟨by simp[isCell,t4],Bh c4 ⟨by simp,?_⟩⟩;refine DX (x:=some (bJ (src c))) t4 (by omega) ?_;have hm4:μ.length<μ4.length:=(cF.mp t4).1;refine h _ _ (f4.set _ (.inl (aL _))) (c4.other _ (by omega) (by omega)) (aL _) ?_;rw[cT hm4,et]
  by_cases ce:able c=[]
  .have e0:((able c).length !=0)=false:=by rw[ce];rfl
   simp only[e0,abT,if_true,wSs,wS,wE,wEs,aG,aJ,isCell,t1,true_and];refine⟨by decide,?_⟩;refine DX (x:=none) t1 (by decide) ?_;have hm1:μ.length<μ1.length:=(cF.mp t1).1;have c2:=c1.other (t:=μ.length) (Cell.lst (([]++[none]:List Tk).map xP)) (by omega) (by omega);have f2:=f1.set (t:=μ.length) (Cell.lst (([]++[none]:List Tk).map xP)) (.inl (aL _));(have t2:(μ1.set μ.length (Cell.lst (([]++[none]:List Tk).map xP)))[μ.length]?=some (.lst (([none]:List Tk).map xP)):=by rw[cT hm1];rfl);generalize μ1.set μ.length (Cell.lst (([]++[none]:List Tk).map xP))=μ2 at c2 f2 t2;refine rm c2 ?_;refine fin μ2 [none] (.loc (n+1)) f2 c2 t2 (by decide) (by simp[bU,au,c2.2,src,ce]) (by simp[outF,ce])
  .have e0:((able c).length !=0)=true:=by
    cases q:able c with
    |nil=>exact absurd q ce|cons a r=>rfl
   simp only[e0,rT,dB,if_false,wSs,wS,wE,wEs,aG,aJ];refine fin μ1 [] (.lst ((able c).map bH)) f1 c1 t1 (by decide) (by simp[bU,au,src,ce]) (by simp[outF,ce])
theorem Jc:Keeps vg vH tL:=by
 rintro ds μ Q ⟨n,x,c,rfl,hc,hw,h⟩;obtain⟨w1,w2,w3,w4,w5,w6⟩:=hw;have hn1:n+1<μ.length:=(cF.mp hc.2).1;simp only[vH,vg,aF,cC,wSs,wS,wT,wE,wEs,newL,lim,aW,bh,aY,bB,bG,aZ,aG,aJ,aV,bC,bD];refine⟨by omega,?_⟩;have f1:Fr μ (μ++[Cell.lst []]) n:=(Fr.refl μ n).push _;have c1:=hc.push (Cell.lst []);have t1:(μ++[Cell.lst []])[μ.length]?=some (.lst (([]:List Tk).map xP)):=by simp
 generalize μ++[Cell.lst []]=μ1 at f1 c1 t1;refine rm c1 ?_;simp only[bM,lenOf,au,c1.2,dz,aU];refine ae5 c1 ?_;simp only[dh,flat,true_and,gZ];have fin:∀ (μ2:Mem) (t:Nat) (tk:List Tk) (k:List Itm) (la:Option Itm),Fr μ μ2 n->mV μ2 n ⟨c.room,k,la⟩->k.length<=50->μ.length<=t->μ2[t]?=some (.lst (tk.map xP))->cu c x=(tk,⟨c.room,k++[x],la⟩)->
   jg "Chooser" "kept" (.loc n) μ2 fun x_1 μ1=>isCell μ1 x_1=true/\dU "append" x_1 [bH x] μ1 fun d μ1=>Q (.loc t) μ1:=by
  intro μ2 t tk k la f2 c2 kl ht t2 eg;refine rm c2 ⟨by simp[isCell,c2.2],?_⟩;have hn2:n+1<μ2.length:=by have:=f2.1;omega
  simp only[dU,c2.2,bY,aU];refine⟨by simp only[lim];omega,?_⟩;refine h _ t (f2.set _ (.inr (.inr rfl))) ?_ ht ?_
  .rw[eg]
   exact⟨by rw[bR (by omega)];exact c2.1,by rw[cT hn2];simp⟩
  .rw[eg,bR (by omega)];exact t2
 by_cases ce:c.kept.length=c.room
 .have e0:kO (.int (c.kept.length:Int)) (.int (c.room:Int))=true:=by simp[kO,ce]
  have hne:c.kept≠[]:=fun z=>by rw[z]at ce;simp at ce;omega
  simp only[e0,if_true,wSs,wS,wE,wEs,aG,aJ];refine⟨vp c1 (by decide) (by decide) (by decide),n,c,rfl,c1,hne,by omega,fun μ2 t f2 c2 ht t2=>?_⟩;have ol:=iR hne;exact fin μ2 t _ (outF c).2.kept (outF c).2.last (f1.trans f2) c2 (by omega) (by have:=f1.1;omega) t2 (by simp only[cu,ce,if_true])
 .have e0:kO (.int (c.kept.length:Int)) (.int (c.room:Int))=false:=by simp only[kO];(have:¬((c.kept.length:Int)=(c.room:Int)):=by omega);simpa using this
  simp only[e0,dB,if_false,wSs];exact fin μ1 μ.length [] _ _ f1 c1 (by omega) (aL _) t1 (by simp only[cu,ce,if_false])
theorem Jw:∀ (m:Nat) (c:Ch),c.kept.length<=m->(gK m c).1.length<=2*c.kept.length/\(gK m c).2.kept=[]/\((gK m c).2.room=c.room)
 |0,c,h=>by have:c.kept=[]:=mR.mp (by omega);simp[gK,this]|m+1,c,h=>by
  simp only[gK];by_cases e:c.kept=[]
  .rw[if_pos e];exact⟨by simp,e,rfl⟩
  .rw[if_neg e]
   have ol:=iR e;obtain⟨i1,i2,i3⟩:=Jw m (outF c).2 (by omega);refine⟨?_,i2,by rw[i3];rfl⟩;(have:(outF c).1.length<=2:=by simp only[outF];split<;>simp);rw[gV];omega
theorem Dp:Keeps qT q8 pK:=by
 rintro ds μ Q ⟨n,c,rfl,hc,hw,h⟩;obtain⟨w1,w2,w3,w4,w5,w6⟩:=hw;have hn1:n+1<μ.length:=(cF.mp hc.2).1;have fl:=Jw c.kept.length c (aL _);simp only[q8,qT,aF,cC,wSs,wS,wE,wEs,newL,lim,aW,bh,aY,bB,bG,aZ,aG,aJ,aV,bC,bD];refine⟨by omega,?_⟩;have f1:Fr μ (μ++[Cell.lst []]) n:=(Fr.refl μ n).push _;have c1:=hc.push (Cell.lst []);have t1:(μ++[Cell.lst []])[μ.length]?=some (.lst (([]:List Tk).map xP)):=by simp
 generalize μ++[Cell.lst []]=μ1 at f1 c1 t1;refine⟨fun M ρ μ'=>∃ (c':Ch) (tk:List Tk),M=c'.kept.length/\c'.kept.length<=50/\c'.room=c.room/\Fr μ μ' n/\mV μ' n c'/\μ'[μ.length]?=some (.lst (tk.map xP))/\tk++(gK M c').1=(gK c.kept.length c).1/\ρ=[some (.loc n),some (.loc μ.length)],
  ⟨_,c,[],rfl,by omega,rfl,f1,c1,t1,rfl,rfl⟩,?_⟩
 rintro M ρ μ' ⟨c',tk,rfl,hl,er,f2,c2,t2,et,rfl⟩;simp only[wT,wE,aG];refine rm c2 ?_;simp only[iu,truth,lenOf,au,c2.2,dz,aU];by_cases ce:c'.kept=[]
 .have e0:(c'.kept.length !=0)=false:=by rw[ce];rfl
  simp only[e0,dB,if_false,wSs,wS,wT,wE,wEs,aG,aJ,iu,truth,lenOf,au,t2,dz,aU];have et':tk=(gK c.kept.length c).1:=by
   rw[<-et];cases q:c'.kept.length with
   |zero=>simp[gK]|succ k=>rw[ce]at q;simp at q
  have hm2:μ.length<μ'.length:=(cF.mp t2).1;have fin:∀ (μ3:Mem),Fr μ μ3 n->mV μ3 n c'->μ3[μ.length]?=some (.lst ((Fv c).1.map xP))->mK "Chooser" "last" (.loc n) .non μ3 fun μ3=>Q (.loc μ.length) μ3:=by intro μ3 f3 c3 t3;refine Ro (l:=none) c3 fun μ4 e4 c4=>?_;refine h μ4 μ.length (by rw[e4];exact f3.set _ (.inr (.inl rfl))) ?_ (aL _) (by rw[e4,bR (by omega)];exact t3);rw[ce,er]at c4;exact c4
  by_cases ck:tk=[]
  .have e1:(tk.length !=0)=false:=by rw[ck];rfl
   simp only[e1,dB,if_false];refine fin μ' f2 c2 ?_;rw[t2,ck];(have:(gK c.kept.length c).1=[]:=by rw[<-et',ck]);simp[Fv,this]
  .have e1:(tk.length !=0)=true:=by
    cases tk with
    |nil=>exact absurd rfl ck|cons a r=>rfl
   simp only[e1,if_true,isCell,t2,true_and];refine⟨by simp,?_⟩;refine DX (x:=none) t2 (by rw[et'];omega) ?_;refine fin _ (f2.set _ (.inl (aL _))) (c2.other _ (by omega) (by omega)) ?_;rw[cT hm2];(have:¬(gK c.kept.length c).1=[]:=by rw[<-et'];exact ck);simp[Fv,this,et']
 .have e0:(c'.kept.length !=0)=true:=by
   cases q:c'.kept with
   |nil=>exact absurd q ce|cons a r=>rfl
  simp only[e0,if_true,wSs,wS,wE,wEs,aG,aJ];refine⟨by simp[isCell,t2],vp c2 (by decide) (by decide) (by decide),n,c',rfl,c2,ce,hl,fun μ3 t f3 c3 ht t3=>?_⟩;have hm2:μ.length<μ'.length:=(cF.mp t2).1;have t3':μ3[μ.length]?=some (.lst (tk.map xP)):=by rw[f3.2 _ hm2 (by omega) (by omega)];exact t2
  have hm3:μ.length<μ3.length:=(cF.mp t3').1;have ol:=iR ce;have ek:tk++(outF c').1++(gK (outF c').2.kept.length (outF c').2).1=(gK c.kept.length c).1:=by rw[<-et,<-ol,gK,if_neg ce,fL]
  have aoF:tk.length+(outF c').1.length<=100:=by have:=congrArg fK ek;simp only[gV]at this;omega
  simp only[dU,t3',bY,wlT,zy,t3,aU];refine⟨by simp only[lim];omega,(outF c').2.kept.length,by omega,(outF c').2,tk++(outF c').1,rfl,by omega,by rw[<-er];rfl,(f2.trans f3).set _ (.inl (aL _)),c3.other _ (by omega) (by omega),?_,ek,trivial⟩;rw[cT hm3];simp
def TJ (tk:List Tk):Prop:=∀ x,some x∈tk->gM x
theorem ajn (hne:c.kept≠[]) (h:∀ x∈c.kept,gM x):(∀ x∈(outF c).2.kept,gM x)/\TJ (outF c).1/\∀ x,(outF c).2.last=some x->gM x:=by
 have hm:=h _ (sJ hne);refine⟨fun x hx=>h x (O2 hx),fun x hx=>?_,fun x hx=>?_⟩
 .simp only[outF]at hx
  rcases jd.mp hx with hx|hx
  .split at hx<;>simp at hx
  .have:=cO.mp hx
   cases this;exact hm
 .simp only[outF,nH]at hx
  subst hx;exact hm
theorem YM (hw:Wf c) (hx:gM x):Wf (cu c x).2/\TJ (cu c x).1:=by
 obtain⟨w1,w2,w3,w4,w5,w6⟩:=hw;unfold cu;by_cases ce:c.kept.length=c.room
 .rw[if_pos ce]
  have hne:c.kept≠[]:=fun z=>by rw[z]at ce;simp at ce;omega
  obtain⟨o1,o2,o3⟩:=ajn hne w5;have ol:=iR hne;refine⟨⟨w1,w2,by simp;omega,fun z=>by simp at z,fun y hy=>?_,o3⟩,o2⟩;rcases jd.mp hy with hy|hy
  .exact o1 y hy
  .have:=cO.mp hy;subst this;exact hx
 .rw[if_neg ce]
  refine⟨⟨w1,w2,by simp;omega,fun z=>by simp at z,fun y hy=>?_,w6⟩,by simp[TJ]⟩;rcases jd.mp hy with hy|hy
  .exact w5 y hy
  .have:=cO.mp hy;subst this;exact hx
def fU:List Tk->List Itm->List (List Itm)
 |[],_=>[]|none::r,run=>run::fU r []|some x::r,run=>fU r (run++[x])
def aP:Ch->List Itm->List Tk×Ch
 |c,[]=>([],c)|c,x::r=>((cu c x).1++(aP (cu c x).2 r).1,(aP (cu c x).2 r).2)
def eG (m:Nat):Ch:=⟨m,[],none⟩
def Eb (row:List Itm) (m:Nat):List Tk:=(aP (eG m) row).1++(Fv (aP (eG m) row).2).1
def bF (row:List Itm) (m:Nat):List (List Itm):=fU (Eb row m) []
def Pre (μ μ':Mem):Prop:=μ.length<=μ'.length/\∀ i,i<μ.length->μ'[i]?=μ[i]?
theorem Pre.refl (μ:Mem):Pre μ μ:=⟨aL _,fun _ _=>rfl⟩
theorem Pre.trans (h:Pre a b) (k:Pre b c):Pre a c:=⟨jc h.1 k.1,fun i hi=>by rw[k.2 i (fM hi h.1),h.2 i hi]⟩
theorem Pre.app (μ ν:Mem):Pre μ (μ++ν):=⟨by simp,fun i hi=>cL hi⟩
theorem Pre.set (h:Pre μ μ') (c:Cell) (ht:μ.length<=t):Pre μ (μ'.set t c):=⟨by have:=h.1;simp;omega,fun i hi=>by rw[bR (by omega)];exact h.2 i hi⟩
theorem Pre.fr (h:Pre μ μ') (f:Fr μ' TY n) (hn:μ.length<=n):Pre μ TY:=⟨jc h.1 f.1,fun i hi=>by rw[f.2 i (fM hi h.1) (by omega) (by omega)];exact h.2 i hi⟩
theorem Pre.get {μ μ':Mem} {i:Nat} {c:Cell} (h:Pre μ μ') (g:μ[i]?=some c):μ'[i]?=some c:=by rw[h.2 i (cF.mp g).1];exact g
def zH:dZ:=fun ds μ Q=>∃ (t:Nat) (tk:List Tk),ds=[.loc t]/\μ[t]?=some (.lst (tk.map xP))/\tk.length<=1000/\∀ μ' n ls,Pre μ μ'->LL μ' μ.length n ls (fU tk [])->Q (.loc n) μ'
def K6:dZ:=fun ds μ Q=>∃ (row:List Itm) (m:Nat),ds=[.lst (row.map bH),.int (m:Int)]/\row.length<=300/\1<=m/\m<=50/\(∀ x∈row,gM x)/\∀ μ' n ls,Pre μ μ'->LL μ' μ.length n ls (bF row m)->Q (.loc n) μ'
def RJ:List Str:=["row","room","chooser","told","item"]
def Sx:Ss:=(.cons (.set 2 (.mk "Chooser" tK (.cons (.var 1) .nil))) (.cons (.set 3 (.lst true .nil)) (.cons (.for_ [4] false (.seq (.var 0)) (.cons (.exp (.meth "extend" (.var 3) (.cons (.pA "Chooser" "give" tL (.var 2) (.cons (.var 4) .nil)) .nil))) .nil)) (.cons (.exp (.meth "extend" (.var 3) (.cons (.pA "Chooser" "finish" pK (.var 2) .nil) .nil))) (.cons (.ret (.call "runs_told" zH (.cons (.var 3) .nil))) .nil)))))
def En:List Str:=["told","runs","run","deed"]
def Eu:Ss:=(.cons (.set 1 (.lst true .nil)) (.cons (.set 2 (.lst true .nil)) (.cons (.for_ [3] false (.seq (.var 0)) (.cons (.ite (.cmp .Eq (.idx (.var 3) (.cst (.int 0))) (.cst (.str [111,117,116]))) (.cons (.exp (.meth "append" (.var 2) (.cons (.idx (.var 3) (.cst (.int 1))) .nil))) .nil) (.cons (.exp (.meth "append" (.var 1) (.cons (.var 2) .nil))) (.cons (.set 2 (.lst true .nil)) .nil))) .nil)) (.cons (.ret (.var 1)) .nil))))
theorem R5:Keeps En Eu zH:=by
 rintro ds μ Q ⟨t,tk,rfl,ht,hl,h⟩;have htl:t<μ.length:=(cF.mp ht).1;simp only[Eu,En,aF,cC,wSs,wS,wE,wEs,wI,newL,lim,kZ,aW,bh,aY,bB,bG,aZ,aG,aJ,aV,bC,bD];refine⟨by omega,by omega,?_⟩;have p2:Pre μ (μ++[Cell.lst []]++[Cell.lst []]):=by rw[fL];exact Pre.app _ _
 have t2:=p2.get ht;rw[t2];simp only;have g0:(μ++[Cell.lst []]++[Cell.lst []])[μ.length]?=some (.lst (([]:List Nat).map D.loc)):=by simp
 have g1:(μ++[Cell.lst []]++[Cell.lst []])[μ.length+1]?=some (.lst (([]:List Itm).map bH)):=by simp
 have e1:(μ++[Cell.lst []]).length=μ.length+1:=by simp
 rw[e1];generalize μ++[Cell.lst []]++[Cell.lst []]=μ2 at p2 t2 g0 g1;refine bK (fun ds ρ μ'=>∃ (rest:List Tk) (ls:List Nat) (done:List (List Itm)) (q:Nat) (run:List Itm) (a:Option D),ds=rest.map xP/\run.length+rest.length<=1000/\done.length+rest.length<=1000/\Pre μ μ'/\LL μ' μ.length μ.length ls done/\μ.length<q/\q∉ls/\μ'[q]?=some (.lst (run.map bH))/\done++fU rest run=fU tk []/\
  ρ=[some (.loc t),some (.loc μ.length),some (.loc q),a]) ?_ ?_ _ _ _ ⟨tk,[],[],μ.length+1,[],none,rfl,by simpa using hl,by simpa using hl,p2,⟨aL _,g0,rfl,by simp,by simp⟩,by omega,by simp,g1,rfl,rfl⟩
 .rintro d ds ρ μ1 N hN ⟨rest,ls,done,q,run,a,e,h1,h2,hp,hL,hq,hqn,gq,er,rfl⟩
  have ql:q<μ1.length:=(cF.mp gq).1;cases rest with
  |nil=>simp at e|cons y rest=>
   simp only[aW,eH]at e;obtain⟨rfl,rfl⟩:=e;simp only[aY]at h1 h2;refine⟨hp.get ht,?_⟩;cases y with
   |none=>
    (have nl:μ.length<μ1.length:=by omega);simp[xP,dg,wT,wE,d7,au,pG,dh,flat,kO,gZ,isCell,hL.at_,dU,bY,newL,lim];refine⟨by rw[hL.len];omega,?_⟩;refine hN _ _ ⟨rest,ls++[q],done++[run],μ1.length,[],_,rfl,by simp;omega,by simp;omega,?_,?_,by omega,?_,by simp,by rw[<-er];simp[fU],rfl⟩
    .exact(hp.set _ (aL _)).trans (Pre.app _ _)
    .refine LL.app ⟨aL _,by rw[cT nl];simp,by simp[hL.len],fun l hl'=>?_,fun i l r i1 i2=>?_⟩ _
     .rcases jd.mp hl' with hl' |hl'
      .exact hL.sub l hl'
      .have:=cO.mp hl';subst this;exact⟨by omega,by omega⟩
     .have hne:l≠μ.length:=by
       rcases jd.mp (jr i1)with z|z
       .exact(hL.sub l z).2
       .have:=cO.mp z;omega
      rw[bR (bN hne)];rcases dH i ls.length with z|z
      .rw[cL z]at i1
       rw[cL (by rw[<-hL.len];exact z)]at i2;exact hL.row i l r i1 i2
      .have hi:i=ls.length:=by have:=(cF.mp i1).1;simp at this;omega
       subst hi;rw[jt (aL _)]at i1;rw[hL.len,jt (aL _)]at i2;simp at i1 i2;subst i1 i2;exact gq
    .intro z
     rcases jd.mp z with z|z
     .obtain⟨i,hi,ei⟩:=CJ.mp z
      (have hir:i<done.length:=by rw[<-hL.len];exact hi);have:=hL.row i ls[i] done[i] (bI hi) (bI hir);have:=(cF.mp this).1;omega
     .have:=cO.mp z;omega
   |some x=>simp[xP,dg,wT,wE,d7,au,pG,dh,flat,kO,gZ,isCell,gq,dU,bY,lim];refine⟨by omega,?_⟩;refine hN _ _ ⟨rest,ls,done,q,run++[x],_,rfl,by simp;omega,by omega,hp.set _ (by omega),⟨hL.lo,by rw[bR (by omega)];exact hL.at_,hL.len,hL.sub,fun i l r i1 i2=>?_⟩,hq,hqn,by rw[cT ql];simp,by rw[<-er];rfl,rfl⟩;have hne:l≠q:=fun z=>hqn (z▸jr i1);rw[bR (bN hne)];exact hL.row i l r i1 i2
 .rintro ρ μ1 ⟨rest,ls,done,q,run,a,e,h1,h2,hp,hL,hq,hqn,gq,er,rfl⟩
  have:rest=[]:=by simpa using e.symm
  subst this;refine⟨hp.get ht,?_⟩;simp only[aG,aJ];rw[show done=fU tk [] by rw[<-er];simp[fU]]at hL;exact h μ1 _ ls hp hL
theorem S5:∀ (row:List Itm) (c:Ch),Wf c->(∀ x∈row,gM x)->Wf (aP c row).2/\TJ (aP c row).1/\(aP c row).1.length<=2*row.length
 |[],c,hw,_=>⟨hw,by simp[aP,TJ],by simp[aP]⟩|x::row,c,hw,h=>by
  obtain⟨g1,g2⟩:=YM hw (h x (by simp));obtain⟨i1,i2,i3⟩:=S5 row (cu c x).2 g1 fun y hy=>h y (by simp[hy]);refine⟨i1,fun y hy=>?_,?_⟩
  .rcases jd.mp hy with hy|hy
   .exact g2 y hy
   .exact i2 y hy
  .have:(cu c x).1.length<=2:=by
    unfold cu;split
    .simp only[outF];split<;>simp
    .simp
   simp only[aP,gV,aY];omega
theorem aj0 (hw:Wf c):(Fv c).1.length<=101:=by
 have:=(Jw c.kept.length c (aL _)).1;have:=hw.2.1;have:=hw.2.2.1;simp only[Fv];split
 .simp
 .simp;omega
theorem ael (h1:1<=m) (h2:m<=50):Wf (eG m):=⟨h1,h2,iH _,fun _=>rfl,by simp[eG],by simp[eG]⟩
theorem aeO:Keeps RJ Sx K6:=by
 rintro ds μ Q ⟨row,m,rfl,hl,m1,m2,hok,h⟩;simp only[Sx,RJ,aF,cC,wSs,wS,wE,wEs,wI,newL,lim,kZ,aW,bh,aY,bB,bG,aZ,aG,aJ,aV,bC,bD];refine⟨μ,m,rfl,rfl,m1,m2,rfl,by omega,?_⟩;have el:(μ++[Cell.ins "Chooser" [("room",D.int (m:Int)),("kept",D.loc (μ.length+1)),("last",D.non)],Cell.lst []]).length=μ.length+2:=by simp
 rw[el];have p2:Pre μ (μ++[Cell.ins "Chooser" [("room",D.int (m:Int)),("kept",D.loc (μ.length+1)),("last",D.non)],Cell.lst []]++[Cell.lst []]):=by rw[fL];exact Pre.app _ _
 have c2:mV (μ++[Cell.ins "Chooser" [("room",D.int (m:Int)),("kept",D.loc (μ.length+1)),("last",D.non)],Cell.lst []]++[Cell.lst []]) μ.length (eG m):=⟨by simp[eG,I4],by simp[eG]⟩;have t2:(μ++[Cell.ins "Chooser" [("room",D.int (m:Int)),("kept",D.loc (μ.length+1)),("last",D.non)],Cell.lst []]++[Cell.lst []])[μ.length+2]?=some (.lst (([]:List Tk).map xP)):=by simp
 generalize μ++[Cell.ins "Chooser" [("room",D.int (m:Int)),("kept",D.loc (μ.length+1)),("last",D.non)],Cell.lst []]++[Cell.lst []]=μ2 at p2 c2 t2;have go:=S5 row (eG m) (ael m1 m2) hok;refine bK (fun ds ρ μ'=>∃ (rest:List Itm) (c:Ch) (tk:List Tk) (a:Option D),ds=rest.map bH/\(∀ x∈rest,gM x)/\tk.length+2*rest.length<=600/\Pre μ μ'/\mV μ' μ.length c/\Wf c/\μ'[μ.length+2]?=some (.lst (tk.map xP))/\tk++(aP c rest).1=(aP (eG m) row).1/\(aP c rest).2=(aP (eG m) row).2/\
  ρ=[some (.lst (row.map bH)),some (.int (m:Int)),some (.loc μ.length),some (.loc (μ.length+2)),a]) ?_ ?_ _ _ _ ⟨row,eG m,[],none,rfl,hok,by simp;omega,p2,c2,ael m1 m2,t2,rfl,rfl,rfl⟩
 .rintro d ds ρ μ1 N hN ⟨rest,c,tk,a,e,ok1,tl,hp,hc,hw,gt,e1,e2,rfl⟩
  cases rest with
  |nil=>simp at e|cons x rest=>
   simp only[aW,eH]at e;obtain⟨rfl,rfl⟩:=e;simp only[aY]at tl;refine⟨trivial,?_⟩;simp only[dg,bC,bD,aG,aJ];refine⟨by simp[isCell,gt],vp hc (by decide) (by decide) (by decide),μ.length,x,c,rfl,hc,hw,fun μ3 t f3 c3 ht t3=>?_⟩;have gl:μ.length+2<μ1.length:=(cF.mp gt).1;(have gt3:μ3[μ.length+2]?=some (.lst (tk.map xP)):=by rw[f3.2 _ gl (by omega) (by omega)];exact gt);have gl3:μ.length+2<μ3.length:=(cF.mp gt3).1;have gle:(cu c x).1.length<=2:=by
    unfold cu;split
    .simp only[outF];split<;>simp
    .simp
   simp only[dU,gt3,bY,wlT,zy,t3,aU];refine⟨by simp only[lim];omega,?_⟩;refine hN _ _ ⟨rest,(cu c x).2,tk++(cu c x).1,_,rfl,fun y hy=>ok1 y (by simp[hy]),by simp;omega,(hp.fr f3 (aL _)).set _ (by omega),c3.other _ (by omega) (by omega),(YM hw (ok1 x (by simp))).1,by rw[cT gl3];simp,by rw[<-e1];simp[aP],by rw[<-e2];rfl,rfl⟩
 .rintro ρ μ1 ⟨rest,c,tk,a,e,ok1,tl,hp,hc,hw,gt,e1,e2,rfl⟩
  have:rest=[]:=by simpa using e.symm
  subst this;simp only[aP,uP]at e1 e2;subst e2;refine⟨trivial,?_⟩;simp only[aG,aJ,wE,wEs];refine⟨by simp[isCell,gt],vp hc (by decide) (by decide) (by decide),μ.length,_,rfl,hc,hw,fun μ3 t f3 c3 ht t3=>?_⟩;have gl:μ.length+2<μ1.length:=(cF.mp gt).1;have gt3:μ3[μ.length+2]?=some (.lst (tk.map xP)):=by rw[f3.2 _ gl (by omega) (by omega)];exact gt
  have gl3:μ.length+2<μ3.length:=(cF.mp gt3).1;have fle:=aj0 hw;simp only[dU,gt3,bY,wlT,zy,t3,aU];refine⟨by simp only[lim];omega,?_⟩;have p4:Pre μ (μ3.set (μ.length+2) (Cell.lst (tk.map xP++(Fv (aP (eG m) row).2).1.map xP))):=(hp.fr f3 (aL _)).set _ (by omega);refine⟨μ.length+2,Eb row m,rfl,by rw[cT gl3,Eb,<-e1];simp,by rw[Eb,<-e1];simp;simp at tl;omega,fun μ5 n ls p5 hL=>?_⟩;refine h μ5 n ls (p4.trans p5) ?_;exact⟨by have:=hL.lo;have:=p4.1;omega,hL.at_,hL.len,fun l hl'=>⟨by have:=(hL.sub l hl').1;have:=p4.1;omega,(hL.sub l hl').2⟩,hL.row⟩
def outs (tk:List Tk):List Itm:=tk.filterMap id
theorem Ig (a b:List Tk):outs (a++b)=outs a++outs b:=by simp[outs]
def asc:Option Itm->List Itm->Prop
 |_,[]=>True|none,x::r=>asc (some x) r|some l,x::r=>lG x l=false/\asc (some x) r
def lastOf:Option Itm->List Itm->Option Itm
 |o,[]=>o|_,x::r=>lastOf (some x) r
theorem QK:∀ (a b:List Itm) (o:Option Itm),asc o (a++b)<->asc o a/\asc (lastOf o a) b
 |[],b,o=>by simp[asc,lastOf]|x::a,b,none=>by simp only[bG,asc,lastOf];exact QK a b (some x)|x::a,b,some l=>by simp only[bG,asc,lastOf,QK a b (some x),and_assoc]
theorem I3:∀ (a b:List Itm) (o:Option Itm),lastOf o (a++b)=lastOf (lastOf o a) b
 |[],b,o=>rfl|x::a,b,o=>by simp only[bG,lastOf];exact I3 a b (some x)
theorem afA:∀ (r:List Itm) (l:Itm),asc (some l) r->∀ x∈r,lG x l=false
 |[],l,_,x,hx=>by simp at hx|y::r,l,h,x,hx=>by
  rcases aO.mp hx with rfl|hx
  .exact h.1
  .exact jO _ _ _ h.1 (afA r y h.2 x hx)
theorem J1:∀ (r:List Itm) (o:Option Itm),asc o r->bQ r
 |[],o,_=>uV|x::r,o,h=>by
  have h':asc (some x) r:=by cases o with|none=>exact h|some l=>exact h.2
  exact pR.mpr ⟨fun y hy=>afA r x h' y hy,J1 r (some x) h'⟩
theorem Rz {c:Ch} (h:c.kept≠[]):(outs (outF c).1++(outF c).2.kept).Perm c.kept:=by
 have:outs (outF c).1=[bJ (src c)]:=by simp only[outF,outs];split<;>simp
 rw[this];exact(ac2 (sJ h)).symm
theorem aag {c:Ch} {x:Itm} (hr:1<=c.room):(outs (cu c x).1++(cu c x).2.kept).Perm (c.kept++[x]):=by
 unfold cu;by_cases ce:c.kept.length=c.room
 .rw[if_pos ce]
  have hne:c.kept≠[]:=fun z=>by rw[z]at ce;simp at ce;omega
  rw[<-fL];exact(Rz hne).append_right _
 .rw[if_neg ce];simp[outs]
theorem Ds {c:Ch} {x:Itm}:(cu c x).2.room=c.room:=by unfold cu;split<;>rfl
theorem Js:∀ (row:List Itm) (c:Ch),1<=c.room->(outs (aP c row).1++(aP c row).2.kept).Perm (c.kept++row)
 |[],c,_=>by simp[aP,outs]|x::row,c,hr=>by simp only[aP,Ig];have h1:=aag (c:=c) (x:=x) hr;have h2:=Js row (cu c x).2 (by rw[Ds];exact hr);rw[fL];refine(h2.append_left _).trans ?_;rw[<-fL];refine(h1.append_right row).trans ?_;rw[fL];exact yx _
theorem Du:∀ (n:Nat) (c:Ch),c.kept.length<=n->(outs (gK n c).1).Perm c.kept
 |0,c,h=>by have:c.kept=[]:=mR.mp (by omega);simp[gK,outs,this]|n+1,c,h=>by
  simp only[gK];by_cases e:c.kept=[]
  .rw[if_pos e,e];exact yx _
  .rw[if_neg e]
   have ol:=iR e;simp only[Ig];exact((Du n (outF c).2 (by omega)).append_left _).trans (Rz e)
def J2 (c:Ch) (row:List Itm):List Tk:=(aP c row).1++(gK (aP c row).2.kept.length (aP c row).2).1
theorem Ml {c:Ch} {row:List Itm} (hr:1<=c.room):(outs (J2 c row)).Perm (c.kept++row):=by unfold J2;rw[Ig];exact((Du _ _ (aL _)).append_left _).trans (Js row c hr)
theorem aa7 {row:List Itm} {m:Nat} (hm:1<=m) (hne:row≠[]):Eb row m=J2 (eG m) row++[none]:=by
 have pm:=Ml (row:=row) (c:=eG m) hm;have hk:(aP (eG m) row).2.kept≠[]:=by
  cases row with
  |nil=>exact absurd rfl hne|cons x row=>
   have:∀ (row:List Itm) (c:Ch),c.kept≠[]->(aP c row).2.kept≠[]:=by
    intro row;induction row with
    |nil=>exact fun c h=>h
    |cons y row ih=>intro c h;refine ih _ ?_;unfold cu;split<;>simp
   refine this row _ ?_;unfold cu;split<;>simp
 have hf:(gK (aP (eG m) row).2.kept.length (aP (eG m) row).2).1≠[]:=fun z=>by have:=(Du _ (aP (eG m) row).2 (aL _)).length_eq;rw[z]at this;simp[outs]at this;exact hk (mR.mp this.symm)
 simp only[Eb,Fv,J2,hf,if_false,fL]
def QW:Option Itm->List Tk->Prop
 |_,[]=>True|o,some x::r=>asc o [x]/\QW (some x) r|_,none::r=>QW none r
def pB:Option Itm->List Tk->Option Itm
 |o,[]=>o|_,some x::r=>pB (some x) r|_,none::r=>pB none r
theorem zU:∀ (a b:List Tk) (o:Option Itm),QW o (a++b)<->QW o a/\QW (pB o a) b
 |[],b,o=>by simp[QW,pB]|some x::a,b,o=>by simp only[bG,QW,pB,zU a b (some x),and_assoc]|none::a,b,o=>by simp only[bG,QW,pB];exact zU a b none
theorem Di:∀ (a b:List Tk) (o:Option Itm),pB o (a++b)=pB (pB o a) b
 |[],b,o=>rfl|some x::a,b,o=>Di a b (some x)|none::a,b,o=>Di a b none
theorem Yg {c:Ch} (h:c.kept≠[]):QW c.last (outF c).1/\pB c.last (outF c).1=(outF c).2.last:=by
 have ym:=vQ (xT h);by_cases ea:able c=[]
 .simp[outF,ea,QW,pB,asc]
 .have hs:src c=able c:=by simp[src,ea]
  have hg:nO c.last (bJ (src c))=true:=by rw[hs]at ym ⊢;exact(yF.mp ym).2
  simp only[outF,ea,if_false,aZ,QW,pB,and_true];cases q:c.last with
  |none=>trivial|some l=>rw[q]at hg;simp only[nO,su]at hg;exact⟨hg,trivial⟩
theorem aeZ {c:Ch} (hr:1<=c.room) (x:Itm):QW c.last (cu c x).1/\pB c.last (cu c x).1=(cu c x).2.last:=by
 unfold cu;by_cases q:c.kept.length=c.room
 .rw[if_pos q]
  exact Yg fun z=>by rw[z]at q;simp at q;omega
 .rw[if_neg q];exact⟨trivial,rfl⟩
theorem LQ:∀ (row:List Itm) (c:Ch),1<=c.room->QW c.last (aP c row).1/\pB c.last (aP c row).1=(aP c row).2.last
 |[],c,_=>⟨trivial,rfl⟩|x::row,c,hr=>by obtain⟨a,b⟩:=aeZ hr x;obtain⟨d,e⟩:=LQ row (cu c x).2 (by rw[Ds];exact hr);simp only[aP,zU,Di,b];exact⟨⟨a,d⟩,e⟩
theorem YS:∀ (n:Nat) (c:Ch),QW c.last (gK n c).1
 |0,c=>trivial|n+1,c=>by
  simp only[gK];by_cases e:c.kept=[]
  .rw[if_pos e];exact trivial
  .rw[if_neg e]
   obtain⟨a,b⟩:=Yg e;simp only[zU,b];exact⟨a,YS n _⟩
theorem ahB {m:Nat} (hm:1<=m) (row:List Itm):QW none (J2 (eG m) row):=by obtain⟨a,b⟩:=LQ row (eG m) hm;unfold J2;rw[zU];refine⟨a,?_⟩;have:pB none (aP (eG m) row).1=_:=b;rw[this];exact YS _ _
theorem GQ:∀ (tk:List Tk) (run:List Itm),asc none run->QW (lastOf none run) tk->∀ q∈fU (tk++[none]) run,asc none q
 |[],run,h,_,q,hq=>by simp[fU]at hq;rw[hq];exact h|some x::tk,run,h,ho,q,hq=>by simp only[bG,fU]at hq;simp only[QW]at ho;refine GQ tk (run++[x]) ((QK _ _ _).mpr ⟨h,ho.1⟩) ?_ q hq;rw[I3];exact ho.2|none::tk,run,h,ho,q,hq=>by
  simp only[bG,fU,aO]at hq;simp only[QW]at ho;rcases hq with rfl|hq
  .exact h
  .exact GQ tk [] trivial ho q hq
def lr (m:Nat):Nat->List Tk->Prop
 |_,[]=>True|k,some _::r=>lr m (k+1) r|k,none::r=>m<=k/\lr m 0 r
def Fx:Nat->List Tk->Nat
 |k,[]=>k|k,some _::r=>Fx (k+1) r|_,none::r=>Fx 0 r
theorem IW {m:Nat}:∀ (a b:List Tk) (k:Nat),lr m k (a++b)<->lr m k a/\lr m (Fx k a) b
 |[],b,k=>by simp[lr,Fx]|some x::a,b,k=>by simp only[bG,lr,Fx];exact IW a b (k+1)|none::a,b,k=>by simp only[bG,lr,Fx,IW a b 0,and_assoc]
theorem vY:∀ (a b:List Tk) (k:Nat),Fx k (a++b)=Fx (Fx k a) b
 |[],b,k=>rfl|some x::a,b,k=>vY a b (k+1)|none::a,b,k=>vY a b 0
theorem aeF {m m':Nat} (h:m<=m'):∀ (tk:List Tk) (k:Nat),lr m' k tk->lr m k tk
 |[],k,_=>trivial|some _::r,k,q=>aeF h r (k+1) q|none::r,k,q=>⟨jc h q.1,aeF h r 0 q.2⟩
theorem Tz (c:Ch):(able c).length=c.kept.countP (nO c.last):=List.countP_eq_length_filter.symm
theorem Ih {c:Ch} (h:c.kept≠[]):(able c=[]->(able (outF c).2).length=(outF c).2.kept.length)/\(able c).length<=(able (outF c).2).length+1:=by
 have ym:=vQ (xT h);have hm:=sJ h;have hl:=least_le (xT h);have e2:(outF c).2=⟨c.room,c.kept.erase (bJ (src c)),some (bJ (src c))⟩:=rfl;rw[e2,Tz,Tz];simp only;generalize bJ (src c)=y at*;refine⟨fun ea=>?_,?_⟩
 .have hs:src c=c.kept:=by simp[src,ea]
  rw[hs]at hl;exact List.countP_eq_length.mpr fun z hz=>by simp[nO,hl z (O2 hz)]
 .have p1:c.kept.Perm (y::c.kept.erase y):=ac2 hm
  rw[p1.countP_eq,List.countP_cons];have:(c.kept.erase y).countP (nO c.last)<=(c.kept.erase y).countP (nO (some y)):=by
   apply List.countP_mono_left;intro z hz hg;have hz':=O2 hz;have za:z∈able c:=yF.mpr ⟨hz',hg⟩;have hs:src c=able c:=by (have:able c≠[]:=fun q=>by rw[q]at za;cases za);simp[src,this]
   rw[hs]at hl;simp[nO,hl z za]
  split<;>omega
theorem aeE {m k:Nat} {c:Ch} (h:c.kept≠[]) (hk:m<=k+(able c).length):lr m k (outF c).1/\(m<=Fx k (outF c).1+(able (outF c).2).length∨(able (outF c).2).length=(outF c).2.kept.length)/\1<=Fx k (outF c).1:=by
 obtain⟨a1,a2⟩:=Ih h;by_cases ea:able c=[]
 .have e:(outF c).1=[none,some (bJ (src c))]:=by simp[outF,ea]
  rw[e];rw[ea]at hk;exact⟨⟨by simpa using hk,trivial⟩,.inr (a1 ea),aL _⟩
 .have e:(outF c).1=[some (bJ (src c))]:=by simp[outF,ea]
  rw[e];simp only[lr,Fx];exact⟨trivial,.inl (by omega),by omega⟩
structure Lg (m k:Nat) (c:Ch):Prop where
 room:c.room=m
 le:c.kept.length<=m
 alt:(c.kept.length=m/\m<=k+(able c).length)∨(c.last=none/\k=0)
theorem afD (r:Nat) (l:List Itm) (o:Option Itm) (x:Itm):(able ⟨r,l,o⟩).length<=(able ⟨r,l++[x],o⟩).length:=by simp[able,List.filter_append]
theorem Lg.Rv {m k:Nat} {c:Ch} (h:Lg m k c) (q:c.kept.length=m):m<=k+(able c).length:=by
 rcases h.alt with z|⟨z1,z2⟩
 .exact z.2
 .have:able c=c.kept:=by simp only[able,z1];exact Cz.mpr fun _ _=>rfl
  rw[this];omega
theorem agU {m k:Nat} {c:Ch} (h1:1<=m) (h:Lg m k c) (x:Itm):lr m k (cu c x).1/\Lg m (Fx k (cu c x).1) (cu c x).2:=by
 have hr:=h.room;have hle:=h.le;by_cases q:c.kept.length=m
 .have hne:c.kept≠[]:=fun z=>by rw[z]at q;simp at q;omega
  have e:cu c x=((outF c).1,⟨c.room,(outF c).2.kept++[x],(outF c).2.last⟩):=by unfold cu;rw[if_pos (by omega)]
  obtain⟨l1,l2,_⟩:=aeE hne (h.Rv q);have ol:=iR hne;have ab:=afD c.room (outF c).2.kept (outF c).2.last x;have eb:able (outF c).2=able ⟨c.room,(outF c).2.kept,(outF c).2.last⟩:=rfl;rw[e];refine⟨l1,h.room,by simp;omega,.inl ⟨by simp;omega,?_⟩⟩;simp only;rcases l2 with l2|l2
  .rw[eb]at l2;omega
  .by_cases ea:able c=[]
   .have e1:Fx k (outF c).1=1:=by simp[outF,ea,Fx]
    rw[eb]at l2;omega
   .have e1:Fx k (outF c).1=k+1:=by simp[outF,ea,Fx]
    have:=(Ih hne).2;have:=h.Rv q;rw[eb]at*;omega
 .have e:cu c x=([],⟨c.room,c.kept++[x],c.last⟩):=by unfold cu;rw[if_neg (by omega)]
  rw[e];rcases h.alt with z|z
  .exact absurd z.1 q
  .exact⟨trivial,h.room,by simp;omega,.inr z⟩
theorem RW {m:Nat} (h1:1<=m):∀ (row:List Itm) (k:Nat) (c:Ch),Lg m k c->lr m k (aP c row).1/\Lg m (Fx k (aP c row).1) (aP c row).2
 |[],k,c,h=>⟨trivial,h⟩|x::row,k,c,h=>by obtain⟨a,b⟩:=agU h1 h x;obtain⟨d,e⟩:=RW h1 row _ _ b;simp only[aP,IW,vY];exact⟨⟨a,d⟩,e⟩
theorem Wz {m:Nat}:∀ (n k:Nat) (c:Ch),(m<=k+(able c).length∨(able c).length=c.kept.length)->lr m k (gK n c).1
 |0,k,c,_=>trivial|n+1,k,c,h=>by
  simp only[gK];by_cases e:c.kept=[]
  .rw[if_pos e];exact trivial
  .rw[if_neg e]
   rw[IW];by_cases q:m<=k+(able c).length
   .obtain⟨a,b,_⟩:=aeE e q
    exact⟨a,Wz n _ _ b⟩
   .have h:=h.resolve_left q
    (have ea:able c≠[]:=fun z=>by rw[z]at h;exact e (mR.mp h.symm));(have eo:(outF c).1=[some (bJ (src c))]:=by simp[outF,ea]);refine⟨by rw[eo];exact trivial,Wz n _ _ (.inr ?_)⟩;have:=(Ih e).2;have:=iR e;have hle:(able (outF c).2).length<=(outF c).2.kept.length:=V6 _ _;omega
theorem Y7:∀ (n k:Nat) (c:Ch),c.kept.length<=n->c.kept≠[]->1<=Fx k (gK n c).1
 |0,k,c,h,e=>absurd (mR.mp (Nat.le_zero.mp h)) e|n+1,k,c,h,e=>by
  simp only[gK];rw[if_neg e,vY];have ol:=iR e;by_cases q:(outF c).2.kept=[]
  .have:(gK n (outF c).2).1=[]:=by
    cases n with
    |zero=>rfl|succ n=>simp only[gK];rw[if_pos q]
   rw[this];(have e1:∀ t:List Tk,∀ k y,1<=Fx k (t++[some y]):=fun t k y=>by rw[vY];simp[Fx]);exact e1 _ _ _
  .exact Y7 n _ _ (by omega) q
theorem akg {m:Nat} (h1:1<=m) (row:List Itm):lr m 0 (J2 (eG m) row):=by
 obtain⟨a,b⟩:=RW h1 row 0 (eG m) ⟨rfl,iH _,.inr ⟨rfl,rfl⟩⟩;unfold J2;rw[IW];refine⟨a,Wz _ _ _ ?_⟩;rcases b.alt with z|⟨z1,z2⟩
 .exact .inl z.2
 .right;unfold able;rw[z1];simp[nO]
theorem agZ {m:Nat} (h1:1<=m) {row:List Itm} (hne:row≠[]):(aP (eG m) row).2.kept≠[]:=by
 have go:∀ (r:List Itm) (c:Ch),c.room=m->(c.kept≠[]∨r≠[])->(aP c r).2.kept≠[]:=by
  intro r;induction r with
  |nil=>intro c _ h;exact h.resolve_right (by simp)|cons x r ih=>intro c hr _;simp only[aP];refine ih _ (by rw[Ds];exact hr) (.inl ?_);unfold cu;split<;>simp
 exact go row _ rfl (.inr hne)
theorem ahC {m:Nat} (h1:1<=m) {row:List Itm} (hne:row≠[]):1<=Fx 0 (J2 (eG m) row):=by unfold J2;rw[vY];exact Y7 _ _ _ (aL _) (agZ h1 hne)
theorem GP:∀ (tk:List Tk) (run:List Itm),lr 1 run.length tk->1<=Fx run.length tk->∀ q∈fU (tk++[none]) run,q≠[]
 |[],run,_,h,q,hq=>by simp only[aZ,fU,cO]at hq;rw[hq];rintro rfl;simp[Fx]at h|some x::tk,run,h,h2,q,hq=>by simp only[bG,fU]at hq;exact GP tk (run++[x]) (by simpa[lr]using h) (by simpa[Fx]using h2) q hq|none::tk,run,h,h2,q,hq=>by
  simp only[bG,fU,aO]at hq;rcases hq with rfl|hq
  .intro z;have:=h.1;rw[z]at this;simp at this
  .exact GP tk [] h.2 h2 q hq
theorem BW:∀ (tk:List Tk) (run:List Itm),(fU (tk++[none]) run).flatten=run++outs tk
 |[],run=>by simp[fU,outs]|some x::tk,run=>by simp only[bG,fU,BW tk (run++[x])];simp[outs]|none::tk,run=>by simp only[bG,fU,oU,BW tk []];simp[outs]
theorem JT {m:Nat} (h1:1<=m) {row:List Itm} (hne:row≠[]):bF row m=fU (J2 (eG m) row++[none]) []:=by unfold bF;rw[aa7 h1 hne]
theorem QB {m:Nat} (h1:1<=m) (row:List Itm):∀ q∈bF row m,bQ q/\q≠[]:=by
 by_cases hne:row=[]
 .subst hne;intro q hq;cases hq
 .rw[JT h1 hne]
  intro q hq;exact⟨J1 _ _ (GQ _ [] trivial (ahB h1 row) q hq),GP _ [] (aeF h1 _ _ (akg h1 row)) (ahC h1 hne) q hq⟩
theorem vI {m:Nat} (h1:1<=m) (row:List Itm):(bF row m).flatten.Perm row:=by
 by_cases hne:row=[]
 .subst hne;exact List.Perm.nil
 .rw[JT h1 hne,BW]
  simpa[eG]using Ml (c:=eG m) (row:=row) h1
end DW.CHO
namespace DW.PHA
open PySem DW DW.KQ DW.Mq DW.POU DW.HOU DW.K62 DW.J9
section
variable {μ:Mem} {o L T:Nat} {ls:List Nat} {a:jT} {mv:Int} {k:Nat} {Q:QD}
theorem HS.lay {d:Nat} {e:D} {r:List Itm} (h:HS μ o L T ls a mv k) (hd:d<a.length) (hr:rD μ e r) (he:∀ n,e= .loc n->n∉fp o L T ls) (r1:bQ r) (r2:r.length<500) (hl:(a[d]?.getD []).length<500) (hk:k<500)
  (q:∀ μ',Fr (fp o L T ls) μ μ'->HS μ' o L T ls (put a d r) mv (k+1)->Q .non μ'):je μ "House" "lay" (.loc o)/\nY [.loc o,.int (d:Int),e] μ Q:=by
 obtain⟨Zh,hH,hh⟩:=h;exact⟨hH.isI "lay",o,L,T,ls,a,mv,Zh,d,e,r,rfl,hH,hd,hr,he,r1,r2,hl,by omega,fun μ' F H'=>q μ' F ⟨_,H',by rw[gV];simp;omega⟩⟩
end
def Ef:dZ:=fun ds μ Q=>∃ (o L T:Nat) (ls:List Nat) (d B rn:Nat) (rls:List Nat) (runs:List (List Itm)),ds=[.loc o,.int (d:Int),.loc rn]/\3<=d/\d<=6/\HS μ o L T ls (aV d []) 0 0/\LL μ B rn rls runs/\(∀ c∈rn::rls,c∉fp o L T ls)/\runs.length<=40/\(∀ r∈runs,bQ r/\r.length<=100)/\
 ∀ n μ',kY d runs.length n->Fr (fp o L T ls) μ μ'->HS μ' o L T ls (pC d n runs) 0 160->Q .non μ'
def Im:List Str:=["house","drives","runs","lacks","drive","many","count","run"]
def XM:Ss:=(.cons (.for_ [4,7] true (.zip (.call "drives_in_order" jC (.cons (.var 1) (.cons (.blt "len" (.cons (.var 2) .nil)) .nil))) (.var 2)) (.cons (.exp (.pA "House" "lay" nY (.var 0) (.cons (.var 4) (.cons (.var 7) .nil)))) .nil)) .nil)
def XQ:Ss:=(.cons (.for_ [6] false (.rng (.cons (.var 5) .nil)) (.cons (.exp (.pA "House" "lay" nY (.var 0) (.cons (.var 4) (.cons (.lst false .nil) .nil)))) .nil)) .nil)
def Jm:Ss:=(.cons (.set 3 (.idx (.call "spread" K5 (.cons (.var 1) (.cons (.blt "len" (.cons (.var 2) .nil)) .nil))) (.cst (.int 1)))) (.cons (.for_ [4,5] true (.enum (.var 3)) XQ) XM))
section
variable {μ:Mem} {o L T:Nat} {ls:List Nat} {Z:dO} {r1 r2 r3 r6 r7:Option D}
theorem lr1 {l:List Int} {i:Nat} (hi:i<l.length) (l6:l.length<=6) (n0:0<=l.getD i 0/\l.getD i 0<=20) (h:HS μ o L T ls (stE l i 0) 0 (20*i))
  (q:∀ μ' r6,Fr (fp o L T ls) μ μ'->HS μ' o L T ls (stE l (i+1) 0) 0 (20*(i+1))->Z.nx [some (.loc o),r1,r2,r3,some (.int (i:Int)),some (.int (l.getD i 0)),r6,r7] μ'):
  wSs XQ Z [some (.loc o),r1,r2,r3,some (.int (i:Int)),some (.int (l.getD i 0)),r6,r7] μ:=by
 obtain⟨c,hc⟩:∃ c:Nat,l.getD i 0=(c:Int):=⟨(l.getD i 0).toNat,by omega⟩;have hlk:lk l i=c:=by unfold lk;omega
 rw[hc]at q ⊢;simp only[XQ,wSs,wS,wE,wEs,wI,qC,jf,newL,aG,aJ];refine⟨by simp only[lim];omega,by omega,?_⟩;rw[qK,dG];refine bK (fun ds ρ μ'=>∃ (j:Nat) (v:Option D),ds=(gG j (c -j)).map (fun(y:Nat)=>D.int (y:Int))/\j<=c/\Fr (fp o L T ls) μ μ'/\HS μ' o L T ls (stE l i j) 0 (20*i+j)/\ρ=[some (.loc o),r1,r2,r3,some (.int (i:Int)),some (.int (c:Int)),v,r7]) ?_ ?_ _ _ _ ⟨0,r6,by simp[uI],by omega,Fr.refl,by simpa using h,rfl⟩
 .rintro x ds ρ μ1 N hN ⟨j,v,e,hj,F,H,rfl⟩
  have hjc:j<c:=by
   rcases dH j c with z|z
   .exact z
   .rw[show c -j=0 by omega]at e;simp at e
  rw[show c -j=(c -(j+1))+1 by omega,lC]at e;simp only[aW,eH]at e;obtain⟨rfl,rfl⟩:=e;refine⟨trivial,?_⟩;simp only[dg,bD,bC,aG,aJ];have al:(stE l i j)[i]?.getD []=aV j []:=by rw[Gz hi];simp
  obtain⟨g1,g2⟩:=HS.lay (Q:=fun _ μ'=>N [some (.loc o),r1,r2,r3,some (.int (i:Int)),some (.int (c:Int)),some (.int (j:Int)),r7] μ') (d:=i) (e:=.lst []) (r:=[]) H (by simpa[stE]using hi) ⟨.inr ⟨_,rfl⟩,rfl⟩ (fun n z=>by cases z) uV (by decide) (by rw[al];simp;omega) (by omega) fun μ' F' H'=>hN _ _ ⟨j+1,_,rfl,by omega,F.trans F',by rw[agc hi]at H';exact H',rfl⟩;exact⟨g1,by decide,g2⟩
 .rintro ρ μ1 ⟨j,v,e,hj,F,H,rfl⟩
  have hjc:j=c:=by
   rcases dH j c with z|z
   .rw[show c -j=(c -(j+1))+1 by omega,lC]at e;simp at e
   .omega
  subst hjc;rw[<-hlk,abe]at H;refine⟨trivial,q _ _ F ?_⟩;obtain⟨Zh,h1,h2⟩:=H;exact⟨Zh,h1,by omega⟩
theorem aiV {a:jT} {d k:Nat} {r:List Itm} (h:∀ i:Nat,(a[i]?.getD []).length<=k):∀ i:Nat,((put a d r)[i]?.getD []).length<=k+1:=fun i=>by
 by_cases hi:i<a.length
 .rw[Wm a d r i hi,fV]
  have:=h i;split<;>simp<;>omega
 .rw[gW (by rw[vO];omega)];simp
theorem agX {l:List Int} (h:∀ x∈l,0<=x/\x<=20):∀ i:Nat,((lay0 l)[i]?.getD []).length<=20:=fun i=>by
 by_cases hi:i<l.length
 .rw[Yx hi,fV,H8]
  have:=h (l.getD i 0) (by rw[J9.getD_get _ hi];exact uH hi);unfold lk;omega
 .rw[gW (by simp[lay0,stE];omega)];simp
theorem lr2 {d n B rn:Nat} {rls:List Nat} {runs:List (List Itm)} {r4 r5:Option D} (h3:3<=d) (h6:d<=6) (hm:runs.length<=40) (lf:kY d runs.length n) (H:HS μ o L T ls (lay0 (deal runs.length (lvl d n)).2) 0 120) (hL:LL μ B rn rls runs) (hne:∀ c∈rn::rls,c∉fp o L T ls) (hr:∀ r∈runs,bQ r/\r.length<=100)
  (q:∀ μ' ρ',Fr (fp o L T ls) μ μ'->HS μ' o L T ls (pC d n runs) 0 160->Z.nx ρ' μ'):
  wSs XM Z [some (.loc o),some (.int (d:Int)),some (.loc rn),r3,r4,r5,r6,r7] μ:=by
 obtain⟨ne,ll⟩:=vP (d:=d) (n:=n) h3;obtain⟨l1,l2⟩:=J9.kW runs.length (lvl d n);have hlt:=J9.Ge runs.length (lvl d n) ne;have nn:=(Dl.of h3 h6 hm lf).nn;have ajW:eN (deal runs.length (lvl d n)).1 runs (lay0 (deal runs.length (lvl d n)).2)=pC d n runs:=rfl;simp only[XM,wSs,wS,wE,wEs,wI,aG,aJ,bM,lenOf,au,hL.at_,dz,aU,hL.len];refine⟨d,runs.length,rfl,h3,h6,by omega,fun n' lf'=>?_⟩;cases kY.uniq lf' lf;have hfl:=H.lt;have F0:Fr (fp o L T ls) μ (μ++[.lst (isD (dl d runs.length n).2),.lst (jN (dl d runs.length n).1)]):=Fr.app;have H0:=H.fr (S:=[]) (μ':=μ++[.lst (isD (dl d runs.length n).2),.lst (jN (dl d runs.length n).1)]) Fr.app (by simp);have hL0:=hL.app [.lst (isD (dl d runs.length n).2),.lst (jN (dl d runs.length n).1)];have hc0:(μ++[Cell.lst (isD (dl d runs.length n).2),.lst (jN (dl d runs.length n).1)])[μ.length+1]?=some (.lst (jN (dl d runs.length n).1)):=by rw[jt (by omega)];simp
 have hcn:μ.length+1∉fp o L T ls:=fun z=>by have:=hfl _ z;omega
 have edl:dl d runs.length n=deal runs.length (lvl d n):=rfl;generalize μ++[Cell.lst (isD (dl d runs.length n).2),.lst (jN (dl d runs.length n).1)]=M at F0 H0 hL0 hc0;generalize μ.length+1=c0 at hc0 hcn;have z1:bU M (.loc c0)=some (jN (dl d runs.length n).1):=by simp[bU,au,hc0]
 have z2:bU M (.loc rn)=some (rls.map D.loc):=by simp[bU,au,hL0.at_]
 simp only[Za,z1,z2];rw[edl];rw[edl]at hc0;have al9:(lay0 (deal runs.length (lvl d n)).2).length=d:=by simp[lay0,stE,l2,ll]
 generalize deal runs.length (lvl d n)=p at*;refine bK (fun ds ρ μ'=>∃ (os:List Nat) (rs:List (List Itm)) (rl:List Nat) (a:jT) (k:Nat) (v4 v7:Option D),ds=mJ (jN os) (rl.map D.loc)/\os.length=rs.length/\rl.length=rs.length/\eN os rs a=pC d n runs/\(∀ x∈os,x<d)/\a.length=d/\HS μ' o L T ls a 0 k/\k+rs.length<=160/\(∀ i:Nat,(a[i]?.getD []).length<=k)/\(∀ (i l:Nat) (r:List Itm),rl[i]?=some l->rs[i]?=some r->μ'[l]?=some (.lst (r.map bH)))/\(∀ l∈rl,l∉fp o L T ls)/\(∀ r∈rs,bQ r/\r.length<=100)/\Fr (fp o L T ls) M μ'/\ρ=[some (.loc o),some (.int (d:Int)),some (.loc rn),r3,v4,r5,r6,v7]) ?_ ?_ _ _ _
  ⟨p.1,runs,rls,lay0 p.2,120,r4,r7,rfl,l1,hL.len,ajW,fun x hx=>by rw[<-ll];exact hlt x hx,al9,H0,by omega,fun i=>jc (agX nn i) (by omega),hL0.row,fun l hl=>hne l (by simp[hl]),hr,Fr.refl,rfl⟩
 .rintro x ds ρ μ1 N hN ⟨os,rs,rl,a,k,v4,v7,e,e1,e2,e3,e4,e5,e6,e7,e8,e9,e10,e11,F,rfl⟩
  have gd:bU μ1 (.loc c0)=some (jN p.1)/\bU μ1 (.loc rn)=some (rls.map D.loc):=by have g1:=(F.2 c0 (aB hc0) hcn).trans hc0;have g2:=(F.2 rn (aB hL0.at_) (hne rn (by simp))).trans hL0.at_;exact⟨by simp[bU,au,g1],by simp[bU,au,g2]⟩
  refine⟨gd,?_⟩
  match os,rl,rs,e,e1,e2 with
  |[],_,_,e,_,_=>simp[jN,mJ]at e|y::os,[],_,e,_,_=>simp[jN,mJ]at e|y::os,c::rl,[],e,e1,_=>simp at e1|y::os,c::rl,r::rs,e,e1,e2=>simp only[jN,aW,mJ,eH]at e;obtain⟨rfl,rfl⟩:=e;simp only[dg,aY,bB,uX,HY,lA,yC,bD,bC,aG,aJ,true_and];have hrr:=e11 r (by simp);simp only[aY]at e7;refine HS.lay (d:=y) (e:=.loc c) (r:=r) e6 (by rw[e5];exact e4 y (by simp)) ⟨.inl ⟨c,rfl⟩,by simp[au,e9 0 c r rfl rfl]⟩ (fun n z=>by cases z;exact e10 c (by simp)) hrr.1 (by omega) (by have:=e8 y;omega) (by omega) fun μ' F' H'=>hN _ _ ⟨os,rs,rl,put a y r,k+1,_,_,rfl,by simpa using e1,by simpa using e2,by simpa[eN]using e3,fun x hx=>e4 x (by simp[hx]),by rw[vO];exact e5,H',by omega,aiV e8,fun i l r' h1 h2=>?_,fun l hl=>e10 l (by simp[hl]),fun r' h=>e11 r' (by simp[h]),F.trans F',rfl⟩;have g:=e9 (i+1) l r' (by simpa using h1) (by simpa using h2);exact(F'.2 l (aB g) (e10 l (by simp[jr h1]))).trans g
 .rintro ρ μ1 ⟨os,rs,rl,a,k,v4,v7,e,e1,e2,e3,e4,e5,e6,e7,e8,e9,e10,e11,F,rfl⟩
  have gd:bU μ1 (.loc c0)=some (jN p.1)/\bU μ1 (.loc rn)=some (rls.map D.loc):=by have g1:=(F.2 c0 (aB hc0) hcn).trans hc0;have g2:=(F.2 rn (aB hL0.at_) (hne rn (by simp))).trans hL0.at_;exact⟨by simp[bU,au,g1],by simp[bU,au,g2]⟩
  have h0:os=[]:=by
   match os,rl,e,e1,e2 with
   |[],_,_,_,_=>rfl|y::os,[],_,e1,e2=>simp at e1 e2;omega|y::os,c::rl,e,_,_=>simp[jN,mJ]at e
  subst h0;have e3':a=pC d n runs:=by simpa[eN]using e3
  rw[e3']at e6;obtain⟨Zh,h1,h2⟩:=e6;exact⟨gd,q _ _ (F0.trans F) ⟨Zh,h1,by omega⟩⟩
end
open DW.K25 DW.CHO
theorem _root_.DW.LL.frS {μ μ':Mem} {b n:Nat} {ls S:List Nat} {rs:List (List Itm)} (h:LL μ b n ls rs) (F:Fr S μ μ') (hS:∀ c∈n::ls,c∉S):LL μ' b n ls rs:=
 ⟨h.lo,(F.2 n (aB h.at_) (hS n (by simp))).trans h.at_,h.len,h.sub,fun i l r h1 h2=>by have g:=h.row i l r h1 h2;exact(F.2 l (aB g) (hS l (by simp[jr h1]))).trans g⟩
theorem HS.weak {μ:Mem} {o L T:Nat} {ls:List Nat} {a:jT} {mv:Int} {k k':Nat} (h:HS μ o L T ls a mv k) (hk:k<=k'):HS μ o L T ls a mv k':=by obtain⟨Zh,h1,h2⟩:=h;exact⟨Zh,h1,by omega⟩
theorem WM:Keeps Im Jm Ef:=by
 rintro ds μ Q ⟨o,L,T,ls,d,B,rn,rls,runs,rfl,h3,h6,H,hL,hne,hm,hr,q⟩;have t1:=fun(Z:dO) μ (r1 r2 r3 r6 r7:Option D) (l:List Int) (i:Nat) a b c d e=>lr1 (Z:=Z) (μ:=μ) (o:=o) (L:=L) (T:=T) (ls:=ls) (r1:=r1) (r2:=r2) (r3:=r3) (r6:=r6) (r7:=r7) (l:=l) (i:=i) a b c d e;have t2:=fun(Z:dO) μ (r3 r4 r5 r6 r7:Option D) (n:Nat) lf H hL q=>lr2 (Z:=Z) (μ:=μ) (o:=o) (L:=L) (T:=T) (ls:=ls) (r3:=r3) (r4:=r4) (r5:=r5) (r6:=r6) (r7:=r7) (n:=n) (B:=B) (rn:=rn) (rls:=rls) (runs:=runs) h3 h6 hm lf H hL hne hr q;simp only[Jm];generalize XQ=G1 at t1;generalize XM=G2 at t2;simp only[Im,aF,wSs,wS,wE,wEs,wI,aW,bh,aY,bB,bG,aZ,aG,aJ,bD,bC,aV,bM,lenOf,au,hL.at_,dz,aU,hL.len];refine⟨d,runs.length,rfl,h3,h6,by omega,fun n ν lf=>?_⟩;have H1:=H.fr (S:=[]) (μ':=μ++ν) Fr.app (by simp);have hL1:=hL.app ν;have F1:Fr (fp o L T ls) μ (μ++ν):=Fr.app;generalize μ++ν=M at H1 hL1 F1;have Dd:=Dl.of h3 h6 hm lf;obtain⟨ne,ll⟩:=vP (d:=d) (n:=n) h3;obtain⟨l1,l2⟩:=J9.kW runs.length (lvl d n);have nn:=Dd.nn;have edl:dl d runs.length n=deal runs.length (lvl d n):=rfl;rw[edl];have ix1:∀ (a b:D) (Q:QD),d7 (.tup [a,b]) (.int 1) M Q=Q b M:=fun a b Q=>rfl;dsimp only;rw[ix1];have hp2:(deal runs.length (lvl d n)).2.length=d:=by rw[l2,ll]
 have q2:=fun Z r3 r4 r5 r6 r7 μ' H' hL' q=>t2 Z μ' r3 r4 r5 r6 r7 n lf H' hL' q;generalize hp:deal runs.length (lvl d n)=p at*;have eE:∀ (l:List D) (Q:QI),Q9 (.tup l) M Q=Q (lO 0 l) (fun _=>True) M:=fun l Q=>rfl;rw[eE];have cut:∀ i,i<d->(isD p.2).drop i= .int (p.2.getD i 0)::(isD p.2).drop (i+1):=fun i hi=>by
  have hi':i<(isD p.2).length:=by simp[isD];omega
  rw[zQ hi'];congr 1;simp[isD,J9.getD_get,show i<p.2.length by omega]
 refine bK (fun ds ρ μ'=>∃ (i:Nat) (v4 v5 v6:Option D),ds=lO i ((isD p.2).drop i)/\i<=d/\Fr (fp o L T ls) M μ'/\HS μ' o L T ls (stE p.2 i 0) 0 (20*i)/\ρ=[some (.loc o),some (.int (d:Int)),some (.loc rn),some (.tup (isD p.2)),v4,v5,v6,none]) ?_ ?_ _ _ _ ⟨0,none,none,none,by simp,by omega,Fr.refl,by rw[Zr,hp2];exact H1,rfl⟩
 .rintro x ds ρ μ1 N hN ⟨i,v4,v5,v6,e,hi,F,Hi,rfl⟩
  have hid:i<d:=by
   rcases dH i d with z|z
   .exact z
   .rw[yO (by simp[isD];omega)]at e;simp[lO]at e
  rw[cut i hid]at e;simp only[lO,eH]at e;obtain⟨rfl,rfl⟩:=e;refine⟨trivial,?_⟩;simp only[dg,aY,bB,uX,HY,lA,yC,bD,bC,true_and];have hi2:i<p.2.length:=by omega
  refine t1 _ μ1 _ _ _ _ _ p.2 i hi2 (by omega) (nn _ (by rw[J9.getD_get _ hi2];exact uH hi2)) Hi fun μ' r6 F' H'=>hN _ _ ⟨i+1,_,_,_,rfl,by omega,F.trans F',H',rfl⟩
 .rintro ρ μ1 ⟨i,v4,v5,v6,e,hi,F,Hi,rfl⟩
  have hid:i=d:=by
   rcases dH i d with z|z
   .rw[cut i z]at e;simp[lO]at e
   .omega
  subst hid;refine⟨trivial,q2 _ _ _ _ _ _ μ1 ?_ (hL1.frS F hne) fun μ' ρ' F' H'=>q n μ' lf (F1.trans (F.trans F')) H'⟩;unfold lay0;rw[hp2];exact Hi.weak (by omega)
def xU:dZ:=fun ds μ Q=>∃ (row:List Itm) (m d:Nat),ds=[.lst (row.map bH),.int (m:Int),.int (d:Int)]/\row.length<=40/\1<=m/\m<=50/\3<=d/\d<=6/\(∀ x∈row,gM x)/\
 ∀ n μ' c,kY d (bF row m).length n->Pre μ μ'->μ.length<=c->μ'[c]?=some (.lst ((GC row).map bH))->Q (.tup [.loc c,.int ((bF row m).length:Nat),.int (Fg n (pC d n (bF row m)) 0),.int (n:Nat)]) μ'
def Ln:List Str:=["row","room","drives","runs","house","phases","phase"]
def af3:Ss:=(.cons (.for_ [6] false (.seq (.var 5)) (.cons (.exp (.call "do_phase" Ei (.cons (.var 4) (.cons (.var 6) .nil)))) .nil)) (.cons (.ret (.tup (.cons (.call "only_run" Ed (.cons (.var 4) .nil)) (.cons (.blt "len" (.cons (.var 3) .nil)) (.cons (.pA "House" "moved_items" mL (.var 4) .nil) (.cons (.blt "len" (.cons (.var 5) .nil)) .nil)))))) .nil))
def LC:Ss:=(.cons (.exp (.call "check_room" qe (.cons (.var 1) .nil))) (.cons (.exp (.call "check_drives" jA (.cons (.var 2) .nil))) (.cons (.set 3 (.call "chosen" K6 (.cons (.var 0) (.cons (.var 1) .nil)))) (.cons (.set 4 (.mk "House" wN (.cons (.var 2) .nil))) (.cons (.exp (.call "lay_runs" Ef (.cons (.var 4) (.cons (.var 2) (.cons (.var 3) .nil))))) (.cons (.set 5 (.call "phases_from" uw (.cons (.call "level" ux (.cons (.var 2) (.cons (.call "level_for" nW (.cons (.var 2) (.cons (.blt "len" (.cons (.var 3) .nil)) .nil))) .nil))) .nil))) af3))))))
theorem Bq {m:Nat} (h1:1<=m) {row:List Itm} (hl:row.length<=40):(bF row m).length<=40/\∀ r∈bF row m,bQ r/\r.length<=100:=by
 have hr:=QB h1 row;have hp:=(vI h1 row).length_eq;have key:∀ rs:List (List Itm),(∀ r∈rs,r≠[])->rs.length<=rs.flatten.length/\∀ r∈rs,r.length<=rs.flatten.length:=by
  intro rs;induction rs with
  |nil=>simp|cons r rs ih=>
   intro h;obtain⟨i1,i2⟩:=ih fun x hx=>h x (by simp[hx]);have:1<=r.length:=by
    cases r with
    |nil=>exact absurd rfl (h [] (by simp))|cons=>simp
   rw[oU,gV,aY];refine⟨by omega,fun x hx=>?_⟩;rcases aO.mp hx with rfl|hx
   .omega
   .have:=i2 x hx;omega
 obtain⟨k1,k2⟩:=key _ fun r hr'=>(hr r hr').2;exact⟨by omega,fun r hr'=>⟨(hr r hr').1,by have:=k2 r hr';omega⟩⟩
section
variable {μ:Mem} {o L T:Nat} {ls:List Nat} {Z:dO} {r0 r1 r2 r6:Option D} {row:List Itm} {runs:List (List Itm)} {d n B rn c5:Nat} {rls:List Nat}
theorem ait {x y:List Itm} (h:x.Perm y) (hx:∀ z∈x,gM z):GC x=GC y:=abf ((uq x).trans h) (xR x)
theorem akR (h3:3<=d) (h6:d<=6) (hm:runs.length<=40) (lf:kY d runs.length n) (hr:∀ r∈runs,bQ r) (hp:runs.flatten.Perm row) (hrow:row.length<=40) (hok:∀ z∈row,gM z) (H:HS μ o L T ls (pC d n runs) 0 160) (hL:LL μ B rn rls runs) (hne:∀ c∈c5::rn::rls,c∉fp o L T ls) (h5:μ[c5]?=some (.lst (phs n (lvl d n))))
  (q:∀ μ' c,Fr (fp o L T ls) μ μ'->μ.length<=c->μ'[c]?=some (.lst ((GC row).map bH))->Z.rt (.tup [.loc c,.int (runs.length:Nat),.int (Fg n (pC d n runs) 0),.int (n:Nat)]) μ'):
  wSs af3 Z [r0,r1,r2,some (.loc rn),some (.loc o),some (.loc c5),r6] μ:=by
 have D0:=Dl.of h3 h6 hm lf;have L0':=L0.of h3 h6 hm lf hr;have amn:(pC d n runs).flatten.flatten.length<=40:=by rw[L0'.per.length_eq,hp.length_eq];exact hrow
 have ck0:QZ n (ln (pC d n runs))=true:=by rw[L0'.ln];exact D0.ck
 simp only[af3,wSs,wS,wE,wEs,wI,kZ,h5,aG,aJ];rw[<-L0'.ln];rw[<-L0'.ln]at h5;refine bK (fun ds ρ μ'=>∃ (r:Nat) (a:jT) (mv:Int) (k:Nat) (v6:Option D),ds=phs r (ln a)/\QZ r (ln a)=true/\tmB r (ln a)=true/\GJ r a=GJ n (pC d n runs)/\Fg r a mv=Fg n (pC d n runs) 0/\(∀ l∈a,∀ r∈l,bQ r)/\a.flatten.flatten.length<=40/\HS μ' o L T ls a mv k/\k+40*r<=480/\Fr (fp o L T ls) μ μ'/\ρ=[r0,r1,r2,some (.loc rn),some (.loc o),some (.loc c5),v6]) ?_ ?_ _ _ _
  ⟨n,pC d n runs,0,160,r6,rfl,ck0,by rw[L0'.ln];exact D0.tb,rfl,rfl,L0'.ris,amn,H,by have:=D0.n8;omega,Fr.refl,rfl⟩
 .rintro x ds ρ μ1 N hN ⟨r,a,mv,k,v6,e,e1,e2,e3,e4,e5,e6,e7,e8,F,rfl⟩
  refine⟨(F.2 c5 (aB h5) (hne c5 (by simp))).trans h5,?_⟩;cases r with
  |zero=>simp[phs]at e|succ r=>
   simp only[phs,eH]at e;obtain⟨rfl,rfl⟩:=e;obtain⟨_,ok,e1⟩:=Xk e1;simp only[tmB,bO,decide_eq_true_eq]at e2;have P:=Ph.of ok;(have hx:x_ a<=40:=by have:=e2.1;unfold x_;omega);simp only[dg,bD,bC,aG,aJ];refine⟨o,L,T,ls,a,mv,k,x_ a,t_ a,S_ a,by rw[x_eq ok],e7,P,vX,ok.ph.2.2.2.1,?_,e5,by omega,by rw[XS ok];simp;omega,by omega,fun μ' F' H'=>?_⟩
   .have:=V6 (fun z=>z !=tg (ln a)) (aN (ln a).length)
    rw[yK]at this;exact jc this ok.len
   .refine hN _ _ ⟨r,Je (S_ a) (t_ a) a (x_ a),_,_,_,by rw[Lk ok],by rw[Lk ok];exact e1,by rw[Lk ok];exact e2.2,e3,e4,W0 P vX e5,by rw[(Yz P _ (aL _)).length_eq];exact e6,H',by omega,F.trans F',rfl⟩
 .rintro ρ μ1 ⟨r,a,mv,k,v6,e,e1,e2,e3,e4,e5,e6,e7,e8,F,rfl⟩
  have g5:=(F.2 c5 (aB h5) (hne c5 (by simp))).trans h5;refine⟨g5,?_⟩;cases r with
  |succ r=>simp[phs]at e|zero=>
   have ea:a=GJ n (pC d n runs):=e3;have em:mv=Fg n (pC d n runs) 0:=e4;obtain⟨i,rr,h1,h2,h3'⟩:=agi ck0 L0'.ris;rw[<-ea]at h1 h2;have hmem:(1:Int)∈ln a:=by (have:(ln a)[i]?=some 1:=by unfold ln;rw[fW,h1];rfl);exact jr this
   have alh:rr=GC row:=by rw[h3'];exact(ait ((L0'.per.trans hp).symm) hok).symm
   simp only[aG,aJ];refine⟨o,L,T,ls,a,mv,k,i,rr,rfl,e7,h1,h2,hmem,fun μ' c F' hc hcc=>?_⟩;have H':=e7.fr F' (by simp);have hL':=(hL.frS F fun c hc=>hne c (jZ _ hc)).frS F' (by simp);have g5':=(F'.2 c5 (aB g5) (by simp)).trans g5;simp only[bM,lenOf,au,hL'.at_,g5',dz,aU,hL'.len,FN];obtain⟨Zh,hH,_⟩:=H';refine⟨hH.isI "moved_items",o,L,T,ls,a,mv,Zh,rfl,hH,?_⟩;simp only[g5',dz,FN];refine⟨by simp[lim],?_⟩;rw[em];refine q μ' c (F.trans (F'.more (by simp))) (jc F.1 hc) ?_;rw[hcc,alh]
end
theorem Z5:Keeps Ln LC xU:=by
 rintro ds μ Q ⟨row,m,d,rfl,hl,m1,m2,h3,h6,hok,q⟩;obtain⟨c1,c2⟩:=Bq m1 hl;have hp:=vI m1 row;have t:=fun(Z:dO) μ (o L T:Nat) ls (r0 r1 r2 r6:Option D) (n B rn c5:Nat) rls lf H hL hne h5 q=>akR (Z:=Z) (μ:=μ) (o:=o) (L:=L) (T:=T) (ls:=ls) (r0:=r0) (r1:=r1) (r2:=r2) (r6:=r6) (row:=row) (runs:=bF row m) (d:=d) (n:=n) (B:=B) (rn:=rn) (c5:=c5) (rls:=rls) h3 h6 c1 lf (fun r hr=>(c2 r hr).1) hp hl hok H hL hne h5 q;simp only[LC];generalize af3=G at t;simp only[Ln,aF,wSs,wS,wE,wEs,aW,bh,aY,bB,bG,aZ,aG,aJ,bD,bC,aV];refine⟨m,rfl,by omega,by omega,d,rfl,by omega,by omega,row,m,rfl,by omega,m1,m2,hok,fun μ1 rn rls P1 hL=>?_⟩;have hd:(μ1++[Cell.ins "House" []])[μ1.length]?=some (.ins "House" []):=by simp
 refine⟨μ1.length,d,rfl,hd,h3,h6,fun μ2 L T ls F2 H2 hge=>⟨rfl,?_⟩⟩;have hL1:=hL.app [Cell.ins "House" []];have rlt:∀ c∈rn::rls,c<μ1.length:=fun c hc=>by
  rcases aO.mp hc with rfl|hc
  .exact aB hL.at_
  .obtain⟨i,hi,rfl⟩:=CG hc
   (have hi':i<(bF row m).length:=by rw[<-hL.len];exact hi);exact aB (hL.row i _ _ (bI hi) (bI hi'))
 have hL2:LL μ2 μ.length rn rls (bF row m):=hL1.frS F2 fun c hc z=>by have:=rlt c hc;simp at z;omega
 have big:∀ x∈fp μ1.length L T ls,μ1.length<=x:=fun x hx=>by
  rcases aO.mp hx with rfl|hx
  .exact aL _
  .have:=hge x hx;simp at this;omega
 have hne:∀ c∈rn::rls,c∉fp μ1.length L T ls:=fun c hc z=>by have:=rlt c hc;have:=big c z;omega
 have P2:Pre μ μ2:=⟨by have:=F2.1;have:=P1.1;simp at*;omega,fun i hi=>by have h1:i<μ1.length:=fM hi P1.1;rw[F2.2 i (by simp;omega) (by simp;omega),cL h1];exact P1.2 i hi⟩
 refine⟨μ1.length,L,T,ls,d,μ.length,rn,rls,bF row m,rfl,h3,h6,⟨[],H2,by simp⟩,hL2,hne,c1,c2,fun n μ3 lf F3 H3=>?_⟩;have hL3:=hL2.frS F3 hne;simp only[bM,lenOf,au,hL3.at_,dz,aU,hL3.len];refine⟨d,_,rfl,h3,h6,by omega,fun n' n60 n1 n2=>?_⟩;cases kY.uniq ⟨n60,n1,n2⟩ lf;refine⟨d,n,rfl,h3,h6,by omega,?_⟩;refine⟨n,lvl d n,rfl,(Dl.of h3 h6 c1 lf).ck,by have:=(Dl.of h3 h6 c1 lf).n8;omega,fun μ4 c5 K4 hc5 g5=>?_⟩;have ak7:μ3.length<=μ4.length:=by
  rcases dH μ4.length μ3.length with z|z
  .have hz:μ4.length<μ3.length:=z
   have:=K4 μ4.length _ (bI hz);rw[gW (aL _)]at this;cases this
  .exact z
 have F4:Fr [] μ3 μ4:=⟨ak7,fun i hi _=>by have:=K4 i _ (bI hi);rw[this,bI hi]⟩
 have hfl:=H3.lt;refine t _ μ4 μ1.length L T ls _ _ _ _ n μ.length rn c5 rls lf (H3.fr F4 (by simp)) (hL3.frS F4 (by simp)) (fun c hc=>?_) g5 fun μ5 c F5 hc hcc=>?_
 .rcases aO.mp hc with rfl|hc
  .intro z;have:=hfl _ z;omega
  .exact hne c hc
 .have ajB:=F3.1
  have amC:=F5.1;refine q n μ5 c lf ⟨by have:=P2.1;omega,fun i hi=>?_⟩ (by have:=P2.1;omega) hcc;have i1:i<μ1.length:=fM hi P1.1;have nf:i∉fp μ1.length L T ls:=fun z=>by have:=big i z;omega
  have i2:i<μ2.length:=fM hi P2.1;rw[F5.2 i (by omega) nf,F4.2 i (by omega) (by simp),F3.2 i i2 nf];exact P2.2 i hi
end DW.PHA
namespace DW.CHO
open PySem DW DW.KQ DW.K25
def Ql:Nat->Ch->List Itm->List Tk
 |0,_,_=>[]|n+1,c,ws=>if c.kept=[]then []else(outF c).1++Ql n ⟨c.room,(outF c).2.kept++ws.take 1,(outF c).2.last⟩ (ws.drop 1)
theorem aeY:∀ (n:Nat) (c:Ch),c.kept.length<=n->Ql n c []=(gK c.kept.length c).1
 |0,c,h=>by
  have:c.kept.length=0:=by omega
  rw[this];rfl
 |n+1,c,h=>by
  by_cases e:c.kept=[]
  .simp[Ql,e,gK]
  .have ol:=iR e
   rw[Ql,if_neg e,<-ol,gK,if_neg e];(have e2:(⟨c.room,(outF c).2.kept++([]:List Itm).take 1,(outF c).2.last⟩:Ch)=(outF c).2:=by simp[outF]);rw[e2];show _++Ql n (outF c).2 []=_;rw[aeY n (outF c).2 (by omega)]
theorem SX:∀ (ws:List Itm) (c:Ch) (n:Nat),1<=c.room->(c.kept.length=c.room∨ws=[])->c.kept.length+ws.length<=n->
  (aP c ws).1++(gK (aP c ws).2.kept.length (aP c ws).2).1=Ql n c ws
 |[],c,n,h1,_,h=>by simp only[aP,aZ];exact(aeY n c (by simpa using h)).symm|x::ws,c,n,h1,hf,h=>by
  have hf:c.kept.length=c.room:=hf.resolve_right (by simp);have ne:c.kept≠[]:=fun z=>by rw[z]at hf;simp at hf;omega
  have ol:=iR ne;cases n with
  |zero=>simp at h|succ n=>(have eg:cu c x=((outF c).1,⟨c.room,(outF c).2.kept++[x],(outF c).2.last⟩):=by unfold cu;rw[if_pos hf]);rw[Ql,if_neg ne];simp only[aP,eg,acZ,List.take_zero,List.drop_succ_cons,abS,fL];rw[SX ws ⟨c.room,(outF c).2.kept++[x],(outF c).2.last⟩ n h1 (.inl (by simp;omega)) (by simp at h ⊢;omega)]
theorem fill:∀ (as bs ks:List Itm) (m:Nat),ks.length+as.length<=m->aP ⟨m,ks,none⟩ (as++bs)=aP ⟨m,ks++as,none⟩ bs
 |[],bs,ks,m,_=>by simp|x::as,bs,ks,m,h=>by
  have hne:¬ks.length=m:=by simp at h;omega
  have eg:cu ⟨m,ks,none⟩ x=([],⟨m,ks++[x],none⟩):=by unfold cu;rw[if_neg hne]
  simp only[bG,aP,eg,aZ];rw[fill as bs (ks++[x]) m (by simp at h ⊢;omega)];simp
def c0 (row:List Itm) (m:Nat):Ch:=⟨m,row.take m,none⟩
theorem Jt:∀ (ws:List Itm) (c:Ch),1<=c.room->c.kept≠[]->(c.kept.length=c.room∨ws=[])->(aP c ws).2.kept≠[]
 |[],c,_,h,_=>h|x::ws,c,h1,h,hf=>by
  have hf:c.kept.length=c.room:=hf.resolve_right (by simp);have ol:=iR h;have eg:cu c x=((outF c).1,⟨c.room,(outF c).2.kept++[x],(outF c).2.last⟩):=by unfold cu;rw[if_pos hf]
  simp only[aP,eg];exact Jt ws _ h1 (by simp) (.inl (by simp;omega))
theorem af7 (m1:1<=m):Eb row m=if row=[]then []else Ql row.length (c0 row m) (row.drop m)++[none]:=by
 have e0:aP (eG m) row=aP (c0 row m) (row.drop m):=by have:=fill (row.take m) (row.drop m) [] m (by simp;omega);rw[O4]at this;simpa[eG,c0]using this
 unfold Eb;rw[e0];by_cases e:row=[]
 .subst e
  simp[aP,c0,Fv,gK]
 .rw[if_neg e]
  have hl:1<=row.length:=by cases row with|nil=>exact absurd rfl e|cons=>simp
  have hor:(c0 row m).kept.length=(c0 row m).room∨row.drop m=[]:=by
   by_cases q:m<=row.length
   .exact .inl (by simp[c0];omega)
   .exact .inr (yO (by omega))
  have hk:(c0 row m).kept≠[]:=fun z=>by have z:row.take m=[]:=z;have:=congrArg fK z;rw[rZ]at this;simp only[bB]at this;omega
  have hg:=SX (row.drop m) (c0 row m) row.length m1 hor (by simp[c0];omega);have hk2:=Jt (row.drop m) (c0 row m) m1 hk hor;rw[<-hg,fL];congr 1;unfold Fv;have:(gK (aP (c0 row m) (row.drop m)).2.kept.length (aP (c0 row m) (row.drop m)).2).1≠[]:=by have ol:=iR hk2;rw[<-ol,gK,if_neg hk2];simp[outF]
  rw[if_neg this]
def Rk (p:List (List Itm)×List Itm):Tk->List (List Itm)×List Itm
 |none=>(p.1++[p.2],[])|some x=>(p.1,p.2++[x])
theorem BR:∀ (tk:List Tk) (cl:List (List Itm)) (run:List Itm),cl++fU (tk++[none]) run=(tk.foldl Rk (cl,run)).1++[(tk.foldl Rk (cl,run)).2]
 |[],cl,run=>by simp[fU]|none::tk,cl,run=>by simp only[bG,fU,lA,Rk];rw[<-BR tk (cl++[run]) []];simp|some x::tk,cl,run=>by simp only[bG,fU,lA,Rk];exact BR tk cl (run++[x])
theorem S9:∀ {r:List Itm} {y:Itm},y∈r->∃ j,r[j]?=some y/\(∀ m,m<j->r[m]?≠some y)/\r.take j++r.drop (j+1)=r.erase y
 |[],y,h=>by simp at h|a::r,y,h=>by
  by_cases e:a=y
  .subst e
   exact⟨0,by simp,fun m hm=>by omega,by simp⟩
  .have h':y∈r:=by
    rcases aO.mp h with h|h
    .exact absurd h.symm e
    .exact h
   obtain⟨j,h1,h2,h3⟩:=S9 h';refine⟨j+1,by simpa using h1,fun m hm=>?_,?_⟩
   .cases m with|zero=>simpa using e|succ m=>simpa using h2 m (by omega)
   .rw[List.erase_cons_tail (by simpa using e)]
    simp[h3]
end DW.CHO
namespace DW
open PySem
end DW
namespace DW.TX
open PySem DW DW.KQ
end DW.TX
namespace DW.Q0
open PySem DW DW.KQ DW.TX DW.K25
def uF:dZ:=fun ds μ Q=>∃ n:Nat,ds=[.loc n]/\Lz μ n/\∀ (x:Itm) b,gM x->Q (bH x) (bx μ n b)
noncomputable abbrev mQ:dZ:=BL
def Af:List Str:=["box","key"]
def Bd:Ss:=(.cons (.set 1 (.bin .Sub (.call "_law_take" cR (.cons (.var 0) (.cons (.cst (.int 9)) .nil))) (.cst (.int 4)))) (.cons (.ite (.cmp .Eq (.call "_law_take" cR (.cons (.var 0) (.cons (.cst (.int 8)) .nil))) (.cst (.int 7))) (.cons (.set 1 (.bin .Sub (.call "_law_take" cR (.cons (.var 0) (.cons (.bin .Mult (.cst (.int 2)) (.bin .Pow (.cst (.int 10)) (.cst (.int 20)))) .nil))) (.bin .Pow (.cst (.int 10)) (.cst (.int 20))))) .nil) .nil) (.cons (.ret (.tup (.cons (.var 1) (.cons (.idx (.lst false (.cons (.cst (.str [])) (.cons (.cst (.str [])) (.cons (.cst (.str [97])) (.cons (.cst (.str [98])) (.cons (.cst (.str [97,98])) (.cons (.cst (.str [97,98,99,100,101,102,103,104])) .nil))))))) (.call "_law_take" cR (.cons (.var 0) (.cons (.cst (.int 6)) .nil)))) .nil)))) .nil)))
def Iu:List Str:=["box","most"]
def Jr:Ss:=(.cons (.ret (.comp false 1 false [0] (.call "_law_item" uF (.cons (.var 1) .nil)) (.rng (.cons (.call "_law_take" cR (.cons (.var 0) (.cons (.bin .Add (.var 1) (.cst (.int 1))) .nil))) .nil)) .nil)) .nil)
def FP:List Str:=["one","other"]
def Gb:Ss:=(.cons (.ret (.or (.cmp .Lt (.idx (.var 0) (.cst (.int 0))) (.idx (.var 1) (.cst (.int 0)))) (.and (.cmp .Eq (.idx (.var 0) (.cst (.int 0))) (.idx (.var 1) (.cst (.int 0)))) (.cmp .Lt (.idx (.var 0) (.cst (.int 1))) (.idx (.var 1) (.cst (.int 1))))))) .nil)
def mq:List Str:=["row","found","item","at"]
def mD:Ss:=(.cons (.set 1 (.lst true .nil)) (.cons (.for_ [2] false (.seq (.var 0)) (.cons (.set 3 (.blt "len" (.cons (.var 1) .nil))) (.cons (.whl (.and (.cmp .Gt (.var 3) (.cst (.int 0))) (.call "_law_less" mQ (.cons (.var 2) (.cons (.idx (.var 1) (.bin .Sub (.var 3) (.cst (.int 1)))) .nil)))) (.cons (.set 3 (.bin .Sub (.var 3) (.cst (.int 1)))) .nil)) (.cons (.exp (.meth "insert" (.var 1) (.cons (.var 3) (.cons (.var 2) .nil)))) .nil)))) (.cons (.ret (.frz (.var 1))) .nil)))
theorem Qe:Keeps FP Gb mQ:=aeP
theorem qX:Keeps mq mD oJ:=fun ds μ Q h=>DW.qX ds μ Q h
theorem Qf:Keeps Af Bd uF:=by
 rintro ds μ Q ⟨n,rfl,hb,h⟩;have tl:∀ (k:Int) (b1:Int),keyOk k->∀ (v:Option D),wSs (.cons (.ret (.tup (.cons (.var 1) (.cons (.idx (.lst false (.cons (.cst (.str [])) (.cons (.cst (.str [])) (.cons (.cst (.str [97])) (.cons (.cst (.str [98])) (.cons (.cst (.str [97,98])) (.cons (.cst (.str [97,98,99,100,101,102,103,104])) .nil))))))) (.call "_law_take" cR (.cons (.var 0) (.cons (.cst (.int 6)) .nil)))) .nil)))) .nil) (cC Q) [some (.loc n),some (.int k)] (bx μ n b1):=by
  intro k b1 hk v;have hb2:=jw (b:=b1) hb;simp[cC,wSs,wS,wE,wEs,d7,au,newL,newR,lim,cR,hb2,Y6];intro d b d0 d6;have e:pG 6 d=some d.toNat:=by simp[pG,d0,d6]
  rw[e];have hd:d.toNat<6:=by omega
  simp only[oO];generalize d.toNat=j at hd
  match j,hd with
  |0,_=>exact h (k,[]) _ ⟨hk,show []∈tags by decide⟩|1,_=>exact h (k,[]) _ ⟨hk,show []∈tags by decide⟩|2,_=>exact h (k,[97]) _ ⟨hk,show [97]∈tags by decide⟩|3,_=>exact h (k,[98]) _ ⟨hk,show [98]∈tags by decide⟩|4,_=>exact h (k,[97,98]) _ ⟨hk,show [97,98]∈tags by decide⟩|5,_=>exact h (k,[97,98,99,100,101,102,103,104]) _ ⟨hk,show [97,98,99,100,101,102,103,104]∈tags by decide⟩
 unfold Bd;rw[XD,aaM];simp[Af,aF,wE,wEs,cR,hb,lq];intro d b d0 d9;have hb2:=jw (b:=b) hb;rw[XD,aaN];simp[wT,wE,wEs,cR,hb2,dh,flat,gZ,Y6];intro d' b' d0' d8';have hb3:=jw (b:=b') hb;by_cases c:kO (.int d') (.int 7)=true
 .simp[c,wSs,wS,wE,wEs,cR,hb3,lq,ah4,afJ,Y6]
  intro a b2 a0 a1;have:=tl (a -100000000000000000000) b2 ⟨by omega,by omega⟩ none;simpa[wSs,wS,wE,wEs,cR]using this
 .simp only[c,if_neg,dB,not_false_eq_true]
  exact tl (d -4) b' ⟨by omega,by omega⟩ none
theorem WY:Keeps Iu Jr vM:=by
 intro ds μ Q h;unfold vM at h;split at h
 .obtain⟨hb,m0,m1,h⟩:=h
  rename_i n m;simp[Jr,Iu,aF,cC,wSs,wS,wE,wEs,wI,wTs,lq,cR,hb,qC,jf];refine⟨by omega,by omega,fun d b d0 d1=>⟨by simp only[lim];omega,by omega,?_⟩⟩;refine lR (fun ds acc μ'=>∃ (r:List Itm) (b:Int),acc=r.map bH/\μ'=bx μ n b/\(∀ x∈r,gM x)/\((r.length+ds.length:Nat):Int)<=m) ?_ ?_ _ _ _ ⟨[],b,rfl,rfl,by simp,?_⟩
  .rintro d ds acc μ' Y N hY hN ⟨r,b,rfl,rfl,hr,hl⟩
   have hb2:=jw (b:=b) hb;simp[bindC];refine⟨n,rfl,hb2,fun x b3 hx=>?_⟩;rw[Y6];refine hY _ _ ⟨r++[x],b3,by simp,rfl,?_,?_⟩
   .intro y hy
    simp at hy;rcases hy with hy|rfl
    .exact hr y hy
    .exact hx
   .simp at hl ⊢;omega
  .rintro acc μ' ⟨r,b,rfl,rfl,hr,hl⟩
   refine⟨trivial,?_⟩;simp[newL,newR];exact h _ _ (by simp at hl;omega) hr
  .simp[jh];omega
 .exact h.elim
end DW.Q0
namespace DW.K91
open PySem DW DW.KQ DW.TX DW.K25 DW.Q0 DW.CHO
theorem Ru:∀ {r:List Itm},(∀ x∈r,gM x)->flats (n+1) (r.map bH)=true
 |[],_=>rfl|x::r,h=>by have hf:=aai (h x (by simp));have ih:=Ru (n:=n) (r:=r) fun y hy=>h y (by simp[hy]);simp only[bH,flat,flats,Hu,abK]at hf;simp only[aW,flats,bH,flat,Hu,abK,hf,ih]
theorem Yy (ls:List Nat) (q:Nat):(pG ((ls++[q]).map D.loc).length (-1)).bind (((ls++[q]).map D.loc)[·]?)=some (.loc q):=by
 have e:pG ((ls++[q]).map D.loc).length (-1)=some ls.length:=by unfold pG;rw[if_neg (by decide),if_pos (by simp;omega)];congr 1;simp;omega
 rw[e,oO];simp
def Rows (μ:Mem) (ls:List Nat) (rs:List (List Itm)):Prop:=ls.length=rs.length/\∀ (i l:Nat) (r:List Itm),ls[i]?=some l->rs[i]?=some r->μ[l]?=some (.lst (r.map bH))
noncomputable abbrev mQ:=Q0.mQ
def oK:dZ:=fun ds μ Q=>∃ (row:List Itm) (m:Nat),ds=[.lst (row.map bH),.int (m:Int)]/\row.length<=60/\1<=m/\m<=50/\(∀ x∈row,gM x)/\∀ μ' ls,Pre μ μ'->Rows μ' ls (bF row m)->Q (.lst (ls.map D.loc)) μ'
def qU:List Str:=["row","room","waiting","kept","found","may","least","at"]
def af5:Ss:=(.cons (.set 6 (.idx (.call "_law_sorted" oJ (.cons (.var 5) .nil)) (.cst (.int 0)))) (.cons (.exp (.meth "append" (.idx (.var 4) (.neg (.cst (.int 1)))) (.cons (.var 6) .nil))) (.cons (.set 7 (.sqm "index" (.var 3) (.cons (.var 6) .nil))) (.cons (.set 3 (.bin .Add (.bin .Add (.slc false (.var 3) .nil (.cons (.var 7) .nil)) (.slc false (.var 3) (.cons (.bin .Add (.var 7) (.cst (.int 1))) .nil) .nil)) (.slc false (.var 2) .nil (.cons (.cst (.int 1)) .nil)))) (.cons (.set 2 (.slc false (.var 2) (.cons (.cst (.int 1)) .nil) .nil)) .nil)))))
def aio:Ss:=(.cons (.ite (.cmp .Eq (.var 5) (.lst false .nil)) (.cons (.exp (.meth "append" (.var 4) (.cons (.lst true .nil) .nil))) (.cons (.set 5 (.var 3)) .nil)) .nil) af5)
def akK:Ss:=(.cons (.set 5 (.lst false .nil)) (.cons (.ite (.cmp .NotEq (.var 4) (.lst false .nil)) (.cons (.set 5 (.comp false 1 false [4] (.var 0) (.seq (.var 3)) (.cons (.not (.call "_law_less" mQ (.cons (.var 0) (.cons (.idx (.idx (.var 1) (.neg (.cst (.int 1)))) (.neg (.cst (.int 1)))) .nil)))) .nil))) .nil) .nil) aio))
def q9:Ss:=(.cons (.set 2 (.blt "list" (.cons (.var 0) .nil))) (.cons (.set 3 (.slc false (.var 2) .nil (.cons (.var 1) .nil))) (.cons (.set 2 (.slc false (.var 2) (.cons (.var 1) .nil) .nil)) (.cons (.set 4 (.lst true .nil)) (.cons (.whl (.cmp .NotEq (.var 3) (.lst false .nil)) akK) (.cons (.ret (.frz (.var 4))) .nil))))))
structure FL (μ0 μ:Mem) (n:Nat) (ls:List Nat) (rs:List (List Itm)):Prop where
 pre:Pre μ0 μ
 lo:μ0.length<=n
 at_:μ[n]?=some (.lst (ls.map D.loc))
 rw:Rows μ ls rs
 nd:ls.Nodup
 ne:∀ l∈ls,μ0.length<=l/\l≠n
theorem FL.app (h:FL μ0 μ n ls rs) (ν:Mem):FL μ0 (μ++ν) n ls rs:=
 ⟨h.pre.trans (Pre.app _ _),h.lo,(Pre.app _ _).get h.at_,⟨h.rw.1,fun i l r a b=>(Pre.app _ _).get (h.rw.2 i l r a b)⟩,h.nd,h.ne⟩
theorem FL.new (h:FL μ0 μ n ls rs):FL μ0 ((μ++[Cell.lst []]).set n (.lst ((ls++[μ.length]).map D.loc))) n (ls++[μ.length]) (rs++[[]]):=by
 have hn:n<μ.length:=(cF.mp h.at_).1;have hll:∀ l∈ls,l<μ.length:=fun l hl=>by
  obtain⟨i,hi⟩:=List.mem_iff_getElem?.mp hl;have hi':=(cF.mp hi).1;have hi2:i<rs.length:=by rw[<-h.rw.1];exact hi'
  exact(cF.mp (h.rw.2 i l rs[i] hi (bI hi2))).1
 refine⟨(h.pre.trans (Pre.app _ _)).set _ h.lo,h.lo,by rw[cT (by simp;omega)],⟨by simp[h.rw.1],fun i l r a b=>?_⟩,?_,fun l hl=>?_⟩
 .have hl:=h.rw.1
  by_cases c:i<ls.length
  .rw[cL c]at a
   rw[cL (by omega)]at b;have:=h.rw.2 i l r a b;have SN:=(h.ne l (jr a)).2;rw[bR (bN SN)];exact(Pre.app _ _).get this
  .have hi:i=ls.length:=by have:=(cF.mp a).1;simp at this;omega
   subst hi;(have a':μ.length=l:=by simpa using a);(have b':r=[]:=by rw[hl]at b;simpa using b.symm);subst a' b';rw[bR (by omega)];simp
 .rw[Oi]
  exact⟨h.nd,by simp,fun a ha b hb e=>by simp at hb;subst hb;subst e;exact lu _ (hll _ ha)⟩
 .rcases jd.mp hl with hl|hl
  .exact h.ne l hl
  .simp at hl;subst hl
   exact⟨h.pre.1,by omega⟩
theorem FL.add (h:FL μ0 μ n (ls++[l]) (rs++[r])) (x:Itm):FL μ0 (μ.set l (.lst ((r++[x]).map bH))) n (ls++[l]) (rs++[r++[x]]):=by
 have hl0:ls.length=rs.length:=by have:=h.rw.1;simpa using this
 have hlr:=h.rw.2 ls.length l r (by simp) (by rw[hl0];simp);have hll:=(cF.mp hlr).1;obtain⟨h1,h2⟩:=h.ne l (by simp);refine⟨h.pre.set _ h1,h.lo,by rw[bR h2];exact h.at_,⟨by simp[hl0],fun i k q a b=>?_⟩,h.nd,h.ne⟩;by_cases c:i<ls.length
 .have a0:=a
  rw[cL c]at a;rw[cL (by omega)]at b;have hk:l≠k:=fun e=>by have:=(Oi.mp h.nd).2.2 k (jr a) l (by simp);exact this e.symm
  rw[bR hk];exact h.rw.2 i k q a0 (by rw[cL (by omega)];exact b)
 .have hi:i=ls.length:=by have:=(cF.mp a).1;simp at this;omega
  subst hi;have a':l=k:=by simpa using a
  have b':r++[x]=q:=by rw[hl0]at b;simpa using b
  subst a' b';rw[cT hll]
theorem Xj {xs:List Itm} {j:Nat}:cutD (xs.map bH) (some (j:Int)) none=(xs.drop j).map bH:=by
 simp only[cutD,ni,aU];rw[if_neg (by omega),qK];by_cases h:j<=xs.length
 .rw[Od h,zO (by simp),N5]
 .rw[Vr (by omega),yO (by simp),yO (by omega)]
  simp
theorem Qz {xs:List Itm} {j:Nat}:cutD (xs.map bH) none (some (j:Int))=(xs.take j).map bH:=by
 simp only[cutD,ni,abS,Nat.sub_zero,aU];rw[if_neg (by omega),qK,abL];by_cases h:j<=xs.length
 .rw[Od h]
 .rw[Vr (by omega),zO (by simp),zO (by simp;omega)]
theorem Zt (h:l≠[]):(GC l)[0]?=some (bJ l):=by
 have hp:=uq l;have hr:=xR l;cases e:GC l with
 |nil=>exact absurd (by rw[e]at hp;exact hp.symm.eq_nil) h|cons a t=>
  rw[e]at hp hr;have ha:a∈l:=hp.mem_iff.mp (by simp);have:=R0 ha fun z hz=>by
   have hz':=hp.mem_iff.mpr hz;rcases aO.mp hz' with rfl|hz'
   .exact sV _
   .exact(pR.mp hr).1 z hz'
  simp[this]
theorem Qg:gJ ((a::l).map bH)=none:=by simp[bH,gJ]
theorem af4 {Z:dO} {μ0 μ:Mem} {n l m:Nat} {row ws:List Itm} {ls:List Nat} {rs:List (List Itm)} {r:List Itm} {c:Ch} {a6 a7:Option D} (hk:c.kept≠[]) (hkl:c.kept.length<=60) (hwl:ws.length<=60)
  (h:FL μ0 μ n (ls++[l]) (rs++[r])) (hrl:r.length<=1000)
  (hZ:∀ μ' a5 a6 a7,FL μ0 μ' n (ls++[l]) (rs++[r++[bJ (src c)]])->Z.nx [some (.lst (row.map bH)),some (.int (m:Int)),some (.lst ((ws.drop 1).map bH)),some (.lst (((outF c).2.kept++ws.take 1).map bH)),some (.loc n),a5,a6,a7] μ'):
  wSs af5 Z [some (.lst (row.map bH)),some (.int (m:Int)),some (.lst (ws.map bH)),some (.lst (c.kept.map bH)),some (.loc n),some (.lst ((src c).map bH)),a6,a7] μ:=by
 have hsl:(src c).length<=c.kept.length:=by
  unfold src able;split
  .exact aL _
  .exact V6 _ _
 simp only[af5,wSs,wS,wE,wEs,aG,aJ,bC,bD];refine⟨src c,rfl,by omega,?_⟩;have h1:=h.app [.gone];have e0:((pG ((GC (src c)).map bH).length 0).bind (((GC (src c)).map bH)[·]?))=some (bH (bJ (src c))):=by
  have hp:0<((GC (src c)).map bH).length:=by rw[aU,agd];exact VP.mpr (xT hk)
  have:pG ((GC (src c)).map bH).length 0=some 0:=by unfold pG;rw[if_pos (by decide),if_pos (by simpa using hp)];rfl
  rw[this,oO,fW,Zt (xT hk)];rfl
 simp only[d7,au,e0];generalize μ++[Cell.gone]=μ1 at h1;have hat:=h1.at_;have el:=Yy ls l;simp only[hat,el];have hl0:ls.length=rs.length:=by have:=h1.rw.1;simpa using this
 have hlr:=h1.rw.2 ls.length l r (by simp) (by rw[hl0];simp);refine⟨by simp[isCell,hlr],?_⟩;simp only[dU,hlr,bY,aU];refine⟨by simp only[lim];omega,?_⟩;have h2:=h1.add (bJ (src c));rw[show(r.map bH++[bH (bJ (src c))])=(r++[bJ (src c)]).map bH by simp];generalize μ1.set l (.lst ((r++[bJ (src c)]).map bH))=μ2 at h2;refine⟨by simp[Kv,txM,Fq],?_⟩;have hm:=sJ hk;obtain⟨j,j1,j2,j3⟩:=S9 hm;have hj:j<c.kept.length:=(cF.mp j1).1;have ei:((bU μ2 (.lst (c.kept.map bH))).bind gJ)=none:=by
  cases hc:c.kept with
  |nil=>exact absurd hc hk|cons a t=>simp only[bU,au,oO];exact Qg
 have es:∀ Q:QD,Ka "index" (.lst (c.kept.map bH)) [bH (bJ (src c))] μ2 Q=Ms "index" (.lst (c.kept.map bH)) [bH (bJ (src c))] μ2 Q:=fun Q=>rfl;rw[es];unfold Ms;rw[ei];refine⟨rfl,c.kept,bJ (src c),j,rfl,rfl,j1,j2,?_⟩;simp only[wO,wE,Gj,Kc,newL,lq,aG,aJ,bC,bD];have f1:cutD (c.kept.map bH) none (some (j:Int))=(c.kept.take j).map bH:=Qz;have f2:cutD (c.kept.map bH) (some ((j:Int)+1)) none=(c.kept.drop (j+1)).map bH:=by have:=Xj (xs:=c.kept) (j:=j+1);simpa using this
 have f3:cutD (ws.map bH) none (some 1)=(ws.take 1).map bH:=Qz (j:=1);have f4:cutD (ws.map bH) (some 1) none=(ws.drop 1).map bH:=Xj (j:=1);simp only[f1,f2,f3,f4,<-qI,j3];refine⟨by simp only[lim,aU,rZ,uU];omega,?_,?_⟩
 .simp only[lim,aU,gV,rZ]
  have:(c.kept.erase (bJ (src c))).length<=c.kept.length:=List.length_erase_le;omega
 .exact hZ _ _ _ _ h2
theorem R9 {l:List Itm} (h:∀ x∈l,gM x):flat 60 (.lst (l.map bH))=true:=by simp only[flat];exact Ru h
theorem eq_nil (l:List Itm):kO (.lst (l.map bH)) (.lst [])=l.isEmpty:=by
 cases l with
 |nil=>rfl|cons a l=>simp[kO,Jx]
theorem agO {l:List Itm} {μ:Mem} {Q:QD} (h:∀ x∈l,gM x) (q:Q (.bl (!l.isEmpty)) μ):dh .NotEq (.lst (l.map bH)) (.lst []) μ Q:=by refine⟨R9 h,rfl,?_⟩;rw[eq_nil];exact q
structure At (row:List Itm) (m:Nat) (c:Ch) (ws:List Itm) (rs:List (List Itm)) (n:Nat):Prop where
 len:c.kept.length+ws.length<=n
 le:n<=60
 kok:∀ x∈c.kept,gM x
 dD:∀ x∈ws,gM x
 st:(c.last=none/\rs=[]/\Ql n c ws=Ql row.length (c0 row m) (row.drop m))∨
  ∃ cl op l tk,c.last=some l/\rs=cl++[op++[l]]/\tk.foldl Rk ([],[])=(cl,op++[l])/\tk++Ql n c ws=Ql row.length (c0 row m) (row.drop m)/\gM l/\cl.length+op.length+1<=2*(60 -n)
theorem At.fin (m1:1<=m) (h:At row m c ws rs n) (hk:c.kept=[]):rs=bF row m:=by
 have hg:Ql n c ws=[]:=by
  cases n with
  |zero=>rfl|succ n=>rw[Ql,if_pos hk]
 unfold bF;rw[af7 m1];rcases h.st with⟨h1,h2,h3⟩|⟨cl,op,l,tk,h1,h2,h3,h4,-⟩
 .rw[hg]at h3
  by_cases e:row=[]
  .rw[if_pos e,h2];rfl
  .exfalso
   (have hl:1<=row.length:=by cases row with|nil=>exact absurd rfl e|cons=>simp);have hk:(c0 row m).kept≠[]:=fun z=>by have z:row.take m=[]:=z;have:=congrArg fK z;rw[rZ]at this;simp only[bB]at this;omega
   obtain⟨k,hk'⟩:∃ k,row.length=k+1:=⟨row.length -1,by omega⟩;rw[hk',Ql,if_neg hk]at h3;simp[outF]at h3
 .rw[hg,uP]at h4
  have e:row≠[]:=by rintro rfl;simp[Ql]at h4;subst h4;simp at h3
  rw[if_neg e,<-h4];have:=BR tk [] [];rw[aZ,h3]at this;rw[this,h2]
theorem At.step (h:At row m c ws rs (n+1)) (hk:c.kept≠[]):
  ∃ pre r,(if able c=[]∨c.last=none then rs++[[]]else rs)=pre++[r]/\r.length<=1000/\At row m ⟨c.room,(outF c).2.kept++ws.take 1,(outF c).2.last⟩ (ws.drop 1) (pre++[r++[bJ (src c)]]) n:=by
 have ol:=iR hk;have hl:=h.len;have hle:=h.le;have ok:∀ x∈(outF c).2.kept,gM x:=fun x hx=>h.kok x (O2 hx);have hx:gM (bJ (src c)):=h.kok _ (sJ hk);have k1:∀ x∈(outF c).2.kept++ws.take 1,gM x:=fun x hx=>(jd.mp hx).elim (ok x) fun hx=>h.dD x (ac1 hx);have k2:∀ x∈ws.drop 1,gM x:=fun x hx=>h.dD x (V2 hx);have k3:((outF c).2.kept++ws.take 1).length+(ws.drop 1).length<=n:=by simp only[gV,rZ,uU];omega
 have hg:Ql (n+1) c ws=(outF c).1++Ql n ⟨c.room,(outF c).2.kept++ws.take 1,(outF c).2.last⟩ (ws.drop 1):=by rw[Ql,if_neg hk]
 rcases h.st with⟨h1,h2,h3⟩|⟨cl,op,l,tk,h1,h2,h3,h4,h5,h6⟩
 .have ha:able c=c.kept:=by unfold able;rw[h1];exact Cz.mpr fun x _=>rfl
  have ho:(outF c).1=[some (bJ (src c))]:=by unfold outF;rw[if_neg (by rw[ha];exact hk)];rfl
  rw[if_pos (.inr h1),h2];refine⟨[],[],rfl,by simp,k3,by omega,k1,k2,.inr ⟨[],[],bJ (src c),[some (bJ (src c))],rfl,rfl,rfl,?_,hx,by simp;omega⟩⟩;rw[hg,ho]at h3;exact h3
 .rw[hg,<-fL]at h4
  by_cases ha:able c=[]
  .have ho:(outF c).1=[none,some (bJ (src c))]:=by unfold outF;rw[if_pos ha];rfl
   rw[if_pos (.inl ha),h2];refine⟨cl++[op++[l]],[],rfl,by simp,k3,by omega,k1,k2,.inr ⟨cl++[op++[l]],[],bJ (src c),tk++[none,some (bJ (src c))],rfl,rfl,?_,?_,hx,by simp;omega⟩⟩
   .rw[HX,h3];rfl
   .rw[<-ho];exact h4
  .have ho:(outF c).1=[some (bJ (src c))]:=by unfold outF;rw[if_neg ha];rfl
   rw[if_neg (by rw[h1];simp[ha]),h2];refine⟨cl,op++[l],rfl,by simp;omega,k3,by omega,k1,k2,.inr ⟨cl,op++[l],bJ (src c),tk++[some (bJ (src c))],rfl,rfl,?_,?_,hx,by simp;omega⟩⟩
   .rw[HX,h3];rfl
   .rw[<-ho];exact h4
theorem Dq:Keeps qU q9 oK:=by
 rintro ds μ Q ⟨row,m,rfl,hl,m1,m2,hok,h⟩;simp only[q9,qU,aF,cC,wSs,wS,wE,wEs,wO,Gj,Kc,newL,bM,au,aW,bh,aY,bB,bG,aZ,aG,aJ,aV,bC,bD,Qz,Xj];refine⟨by decide,?_⟩;have hF:FL μ (μ++[Cell.lst []]) μ.length [] []:=⟨Pre.app _ _,aL _,by simp,⟨rfl,fun i l r a=>by simp at a⟩,abV,by simp⟩;have hA:At row m (c0 row m) (row.drop m) [] row.length:=⟨by simp[c0];omega,hl,fun x hx=>hok x (ac1 hx),fun x hx=>hok x (V2 hx),.inl ⟨rfl,rfl,rfl⟩⟩;refine⟨fun M ρ μ'=>∃ c ws ls rs a5 a6 a7,FL μ μ' μ.length ls rs/\At row m c ws rs M/\ρ=[some (.lst (row.map bH)),some (.int (m:Int)),some (.lst (ws.map bH)),some (.lst (c.kept.map bH)),some (.loc μ.length),a5,a6,a7],⟨row.length,c0 row m,row.drop m,[],[],none,none,none,hF,hA,rfl⟩,?_⟩;clear hF hA;rintro M ρ μ' ⟨c,ws,ls,rs,a5,a6,a7,hF,hA,rfl⟩;simp only[wT,wE,wEs,newL,bB,aG,aJ];refine⟨by decide,agO hA.kok ?_⟩;simp only[gZ];by_cases hk:c.kept=[]
 .have e1:(!c.kept.isEmpty)=false:=by rw[hk];rfl
  simp only[e1,dB,if_false,Q8,hF.at_];refine h _ ls (hF.pre.set _ (aL _)) ?_;rw[<-hA.fin m1 hk];exact⟨hF.rw.1,fun i l r a b=>by rw[bR (bN (hF.ne l (jr a)).2)];exact hF.rw.2 i l r a b⟩
 .have e1:(!c.kept.isEmpty)=true:=by cases hc:c.kept with|nil=>exact absurd hc hk|cons=>rfl
  simp only[e1,if_true];have hkl:1<=c.kept.length:=by cases hc:c.kept with|nil=>exact absurd hc hk|cons=>simp
  obtain⟨n,rfl⟩:∃ n,M=n+1:=⟨M -1,by have:=hA.len;omega⟩;have hle:=hA.le;have SN:=hA.len;obtain⟨pre,r,e2,e3,hA2⟩:=hA.step hk;have go2:∀ {Z:dO} {μ2:Mem} {ls2:List Nat} {a6 a7:Option D},FL μ μ2 μ.length ls2 (pre++[r])->(Z.nx=fun ρ μx=>∃ m' <n+1,∃ c ws ls rs a5 a6 a7,FL μ μx μ.length ls rs/\At row m c ws rs m'/\ρ=[some (.lst (row.map bH)),some (.int (m:Int)),some (.lst (ws.map bH)),some (.lst (c.kept.map bH)),some (.loc μ.length),a5,a6,a7])->
    wSs af5 Z [some (.lst (row.map bH)),some (.int (m:Int)),some (.lst (ws.map bH)),some (.lst (c.kept.map bH)),some (.loc μ.length),some (.lst ((src c).map bH)),a6,a7] μ2:=by
   intro Z μ2 ls2 a6 a7 hF2 hZ;obtain⟨ls',l,rfl⟩:∃ ls' l,ls2=ls' ++[l]:=by (have hl2:ls2.length=pre.length+1:=by have:=hF2.rw.1;simpa using this);(have hne:ls2≠[]:=fun z=>by rw[z]at hl2;simp at hl2);exact⟨ls2.dropLast,ls2.getLast hne,(adX hne).symm⟩
   refine af4 hk (by omega) (by omega) hF2 e3 fun μ3 b5 b6 b7 hF3=>?_;rw[hZ];exact⟨n,by omega,_,_,_,_,b5,b6,b7,hF3,hA2,rfl⟩
  have go1:∀ {Z:dO} {a6 a7:Option D} {may:List Itm},may=(if c.last=none then []else able c)->(Z.nx=fun ρ μx=>∃ m' <n+1,∃ c ws ls rs a5 a6 a7,FL μ μx μ.length ls rs/\At row m c ws rs m'/\ρ=[some (.lst (row.map bH)),some (.int (m:Int)),some (.lst (ws.map bH)),some (.lst (c.kept.map bH)),some (.loc μ.length),a5,a6,a7])->
    wSs aio Z [some (.lst (row.map bH)),some (.int (m:Int)),some (.lst (ws.map bH)),some (.lst (c.kept.map bH)),some (.loc μ.length),some (.lst (may.map bH)),a6,a7] μ':=by
   intro Z a6 a7 may hmay hZ;have hmo:∀ x∈may,gM x:=fun x hx=>by
    rw[hmay]at hx;split at hx
    .simp at hx
    .exact hA.kok x (yF.mp hx).1
   simp only[aio,wSs,wS,wT,wE,wEs,newL,bB,aG,aJ,dh];refine⟨by decide,R9 hmo,rfl,?_⟩;rw[eq_nil];simp only[gZ];by_cases hm0:may=[]
   .have e4:may.isEmpty=true:=by rw[hm0];rfl
    have hc:able c=[]∨c.last=none:=by
     rw[hm0]at hmay;by_cases q:c.last=none
     .exact .inr q
     .rw[if_neg q]at hmay;exact .inl hmay.symm
    rw[if_pos hc]at e2;have hs:src c=c.kept:=by
     unfold src;rcases hc with hc|hc
     .rw[if_pos hc]
     .have:able c=c.kept:=by unfold able;rw[hc];exact Cz.mpr fun x _=>rfl
      rw[this];simp
    simp only[e4,if_true];refine⟨by simp[isCell,hF.at_],by decide,?_⟩;have hat:(μ' ++[Cell.lst []])[μ.length]?=some (.lst (ls.map D.loc)):=(Pre.app _ _).get hF.at_;simp only[dU,hat,bY,aU];have hF2:=hF.new;have hll:ls.length=rs.length:=hF.rw.1;have hrl:rs.length<=1000:=by
     have:=congrArg fK e2;rcases hA.st with⟨_,q,_⟩|⟨cl,op,l,tk,_,q,_,_,_,q6⟩
     .rw[q];simp
     .rw[q];simp;omega
    refine⟨by simp only[lim];omega,?_⟩;rw[show(ls.map D.loc++[D.loc μ'.length])=(ls++[μ'.length]).map D.loc by simp];simp only[aG,aJ,bC,bD];rw[e2]at hF2;have:=go2 (a6:=a6) (a7:=a7) hF2 hZ;rw[hs]at this;exact this
   .have e4:may.isEmpty=false:=by cases hc:may with|nil=>exact absurd hc hm0|cons=>rfl
    (have SN:c.last≠none:=fun q=>by rw[if_pos q]at hmay;exact hm0 hmay);rw[if_neg SN]at hmay;(have hc:¬(able c=[]∨c.last=none):=by rw[<-hmay];simp[hm0,SN]);rw[if_neg hc]at e2;(have hs:src c=may:=by unfold src;rw[<-hmay,if_neg hm0]);simp only[e4,dB,if_false];rw[<-hs];exact go2 (e2▸hF) hZ
  simp only[akK,wSs,wS,wT,wE,wEs,newL,bB,aG,aJ,bC,bD,dh,Q6,hF.at_,gZ];refine⟨by decide,by decide,?_⟩;rcases hA.st with⟨q1,q2,q3⟩|⟨cl,op,l,tk,q1,q2,q3,q4,q5,q6⟩
  .have hls:ls=[]:=List.eq_nil_of_length_eq_zero (by rw[hF.rw.1,q2];rfl)
   (have e5:(!(ls.map D.loc).isEmpty)=false:=by rw[hls];rfl);simp only[e5,dB,if_false];exact go1 (may:=[]) (by rw[if_pos q1]) rfl
  .obtain⟨ls',k,rfl⟩:∃ ls' k,ls=ls' ++[k]:=by (have hl2:ls.length=cl.length+1:=by rw[hF.rw.1,q2];simp);(have hne:ls≠[]:=fun z=>by rw[z]at hl2;simp at hl2);exact⟨ls.dropLast,ls.getLast hne,(adX hne).symm⟩
   (have e5:(!((ls' ++[k]).map D.loc).isEmpty)=true:=by simp);simp only[e5,if_true,wI,wE,kZ,aG,aJ];(have hl0:ls'.length=cl.length:=by have:=hF.rw.1;rw[q2]at this;simpa using this);have hlr:=hF.rw.2 ls'.length k (op++[l]) (by simp) (by rw[q2,hl0];simp);have el:=Yy ls' k;have el2:(pG ((op++[l]).map bH).length (-1)).bind (((op++[l]).map bH)[·]?)=some (bH l):=by have:=ag4 (op.map bH) (bH l);rw[qI];exact this
   refine d8 bH (fun x=>nO (some l) x) bH trivial _ _ ?_ ?_
   .intro x hx Y N z
    simp only[bindC,wTs,wT,wE,wEs,aG,aJ,aW,bh,bG,aZ,pP,d7,au,hF.at_,el,hlr,el2];refine⟨x,l,rfl,?_⟩;simp only[iu,truth];simpa[nO]using z
   .rw[aZ,<-q1]
    exact go1 (may:=able c) (by rw[if_neg (by rw[q1];simp)]) rfl
end DW.K91
namespace DW.K71
open PySem DW DW.KQ DW.POU DW.K62 DW.J9 DW.CHO DW.PHA
noncomputable abbrev Pre:=CHO.Pre
structure LI (μ:Mem) (n:Nat) (ls:List Nat) (l:List (List Int)):Prop where
 at_:μ[n]?=some (.lst (ls.map D.loc))
 len:ls.length=l.length
 row:∀ (i c:Nat) (r:List Int),ls[i]?=some c->l[i]?=some r->μ[c]?=some (.lst (r.map D.int))
def rd (μ:Mem) (c:Nat):List Int:=match μ[c]? with|some (.lst ds)=>(gJ ds).getD []|_=>[]
section
variable {μ:Mem} {n:Nat} {ls:List Nat} {l:List (List Int)}
theorem LI.rd (h:LI μ n ls l) {i c:Nat} {r:List Int} (h1:ls[i]?=some c) (h2:l[i]?=some r):rd μ c=r:=by unfold K71.rd;rw[h.row i c r h1 h2];simp[gO]
theorem LI.map (h:LI μ n ls l):ls.map (K71.rd μ)=l:=by
 apply oR;intro i;rw[fW];by_cases hi:i<ls.length
 .have h2:i<l.length:=by rw[<-h.len];exact hi
  rw[bI hi,bI h2,dz,h.rd (bI hi) (bI h2)]
 .rw[gW (by omega),gW (by have:=h.len;omega)];rfl
theorem LI.mem (h:LI μ n ls l) {c:Nat} (hc:c∈ls):μ[c]?=some (.lst ((K71.rd μ c).map D.int)):=by
 obtain⟨i,hi,rfl⟩:=CG hc;have h2:i<l.length:=by rw[<-h.len];exact hi
 rw[h.rd (bI hi) (bI h2)];exact h.row i _ _ (bI hi) (bI h2)
theorem LI.pre {μ':Mem} (h:LI μ n ls l) (P:Pre μ μ'):LI μ' n ls l:=
 ⟨by rw[P.2 n (Mq.aB h.at_)];exact h.at_,h.len,fun i c r a b=>by have g:=h.row i c r a b;rw[P.2 c (Mq.aB g)];exact g⟩
theorem LI.ix (h:LI μ n ls l) {i:Nat} (hi:i<l.length):∃ c,ls[i]?=some c/\c∈ls/\K71.rd μ c=l[i]/\∀ Q:QD,Q (.loc c) μ->d7 (.loc n) (.int (i:Int)) μ Q:=by
 have hi':i<ls.length:=by rw[h.len];exact hi
 refine⟨ls[i],bI hi',uH hi',h.rd (bI hi') (bI hi),fun Q q=>?_⟩;rw[Mq.jV (ds:=ls.map D.loc) (p:=i) (e:=.loc ls[i]) (.inl ⟨_,rfl⟩) (by simp only[au,h.at_]) (by rw[aU];exact dI hi') (by simp[hi'])];exact q
end
theorem afq {α:Type} (xs:List α) (x:Nat):cutD xs (some (x:Int)) none=xs.drop x:=by
 simp only[cutD,ni,if_neg (show¬((x:Int)<0) by omega),qK];by_cases q:x<=xs.length
 .rw[Od q];exact zO (by simp)
 .rw[Vr (by omega),yO (aL _),yO (by omega)];simp
def tlU:Ss:=(.cons (.set 6 (.comp true 1 false [12] (.slc true (.var 0) (.cons (.var 1) .nil) .nil) (.seq (.var 6)) .nil)) (.cons (.wR (.var 6) (.var 11) (.var 13)) .nil))
section
variable {Z:dO} {μ:Mem} {n6 p t x:Nat} {ls:List Nat} {l:List (List Int)} {ps:List Int} {v0 v1 v2 v3 v4 v5 v7 v8 v9 v10:Option D}
theorem amj (h:LI μ n6 ls l) (hp:μ[p]?=some (.lst (ps.map D.int))) (ht:t<l.length) (hl:l.length<=6)
  (q:∀ μ' n' ls',Pre μ μ'->LI μ' n' ls' ((l.map (Np x)).set t ps)->Z.nx [v0,v1,v2,v3,v4,v5,some (.loc n'),v7,v8,v9,v10,some (.int (t:Int)),some (.int (x:Int)),some (.loc p)] μ'):
  wSs tlU Z [v0,v1,v2,v3,v4,v5,some (.loc n6),v7,v8,v9,v10,some (.int (t:Int)),some (.int (x:Int)),some (.loc p)] μ:=by
 simp only[tlU,wSs,wS,wE,wEs,wI,wO,wTs,kZ,h.at_,aW,bh,aG,aJ,pP];let cs:Nat->List Cell:=fun k=>(l.take k).map fun r=>Cell.lst ((r.drop x).map D.int);refine lR (fun ds acc μ'=>∃ k,ds=(ls.drop k).map D.loc/\k<=l.length/\μ'=μ++cs k/\acc=(aN k).map fun j=>D.loc (μ.length+j)) ?_ ?_ _ _ _ ⟨0,rfl,by omega,by simp[cs],rfl⟩
 .rintro d ds acc μ1 Y N hY hN ⟨k,e,hk,rfl,rfl⟩
  have P:Pre μ (μ++cs k):=CHO.Pre.app _ _;have hkl:k<l.length:=by
   rcases dH k l.length with z|z
   .exact z
   .rw[yO (by rw[h.len];omega)]at e;simp at e
  have hks:k<ls.length:=by rw[h.len];exact hkl
  rw[zQ hks]at e;simp only[aW,eH]at e;obtain⟨rfl,rfl⟩:=e;refine⟨(h.pre P).at_,?_⟩;simp only[bindC,if_true,aG,aJ,Gj,Kc,(h.pre P).row k _ _ (bI hks) (bI hkl),afq,newL];refine hY _ _ ⟨k+1,rfl,by omega,?_,?_⟩
  .have:cs (k+1)=cs k++[Cell.lst ((l[k].drop x).map D.int)]:=by simp only[cs];rw[Wj hkl,qI];rfl
   rw[this,fL,N5]
  .rw[yD,qI]
   (have:(cs k).length=k:=by simp[cs];omega);simp[this]
 .rintro acc μ1 ⟨k,e,hk,rfl,rfl⟩
  have P:Pre μ (μ++cs k):=CHO.Pre.app _ _;have hkl:k=l.length:=by
   rcases dH k l.length with z|z
   .have hks:k<ls.length:=by rw[h.len];exact z
    rw[zQ hks,aW]at e;cases e
   .omega
  subst hkl;refine⟨(h.pre P).at_,?_⟩;have lc:(cs l.length).length=l.length:=by simp[cs]
  simp only[newL,bD,bC,aG,aJ];generalize hM:μ++cs l.length=M;have hML:M.length=μ.length+l.length:=by rw[<-hM];simp[lc]
  have at0:(M++[Cell.lst ((aN l.length).map fun j=>D.loc (μ.length+j))])[M.length]?=some (.lst ((aN l.length).map fun j=>D.loc (μ.length+j))):=by simp
  have ix:pG ((aN l.length).map fun j=>D.loc (μ.length+j)).length (t:Int)=some t:=by rw[aU,yK];exact dI ht
  simp only[jU,at0,ix];have pl:=Mq.aB hp;refine q _ M.length (((aN l.length).map fun j=>μ.length+j).set t p) ⟨by simp;omega,fun i hi=>?_⟩ ⟨?_,by simp,fun i c r h1 h2=>?_⟩
  .rw[bR (by omega),cL (by omega),<-hM,cL hi]
  .rw[cT (by simp),uN,jq];rfl
  .have hil:i<l.length:=by have:=(cF.mp h2).1;simpa using this
   have old:∀ c',c' <M.length->((M++[Cell.lst ((aN l.length).map fun j=>D.loc (μ.length+j))]).set M.length (.lst (((aN l.length).map fun j=>D.loc (μ.length+j)).set t (.loc p))))[c']?=M[c']?:=fun c' hc'=>by rw[bR (by omega),cL hc']
   by_cases c0:i=t
   .subst c0
    rw[cT (by simpa using hil)]at h1 h2;cases h1;cases h2;rw[old p (by omega),<-hM,cL pl];exact hp
   .rw[bR (bN c0)]at h1 h2
    simp[hil]at h1 h2;subst h1 h2;rw[old _ (by omega),<-hM,jt (by omega),show μ.length+i -μ.length=i by omega];simp[cs,hil]
structure Sp (l:List (List Int)) (t x:Nat):Prop where
 tl:t<l.length
 le:l.length<=6
 em:(aN l.length).filter (fun i=>(l[i]?.getD []).isEmpty)=[t]
 mn:∃ i is,((l.filter fun r=>!r.isEmpty).map fun r=>(r.length:Int))=i::is/\is.foldl min i=(x:Int)
 hx:∀ r∈l,r≠[]->x<=r.length
 x40:x<=40
def sn (l:List (List Int)) (j:Nat):Int:=((l.filter fun r=>!r.isEmpty).map fun r=>(r[j]?).getD 0).sum
theorem Yl {c:Nat} {Q:QD} (h:LI μ n6 ls l) (hc:c∈ls) (q:Q (.bl (!(rd μ c).isEmpty)) μ):dh .NotEq (.loc c) (.lst []) μ Q:=by show Q6 c (.lst []) μ Q;simp only[Q6,h.mem hc];rw[List.isEmpty_map];exact q
theorem YT {α:Type} (h:LI μ n6 ls l) (p:List Int->Bool) (g:List Int->α):(ls.filter fun c=>p (rd μ c)).map (fun c=>g (rd μ c))=(l.filter p).map g:=by have e:=h.map;rw[<-e,abZ,jq];rfl
def tlS:Ss:=(.cons (.set 13 (.comp true 1 false [6] (.blt "sum" (.cons (.comp false 1 false [0] (.idx (.var 0) (.var 1)) (.seq (.var 1)) (.cons (.cmp .NotEq (.var 0) (.lst false .nil)) .nil)) .nil)) (.rng (.cons (.var 12) .nil)) .nil)) (.cons (.set 9 (.bin .Add (.var 9) (.blt "sum" (.cons (.var 13) .nil)))) tlU))
theorem amq {c:Int} {wJ:Option D} (h:LI μ n6 ls l) (P:Sp l t x)
  (q:∀ μ' n' ls' wJ,Pre μ μ'->LI μ' n' ls' ((l.map (Np x)).set t ((aN x).map (sn l)))->Z.nx [v0,v1,v2,v3,v4,v5,some (.loc n'),v7,v8,some (.int (c+((aN x).map (sn l)).sum)),v10,some (.int (t:Int)),some (.int (x:Int)),wJ] μ'):
  wSs tlS Z [v0,v1,v2,v3,v4,v5,some (.loc n6),v7,v8,some (.int c),v10,some (.int (t:Int)),some (.int (x:Int)),wJ] μ:=by
 have uu:=fun μ' (c':Int) (p:Nat) a b c=>amj (Z:=Z) (μ:=μ') (n6:=n6) (p:=p) (t:=t) (x:=x) (ls:=ls) (l:=l) (ps:=(aN x).map (sn l)) (v0:=v0) (v1:=v1) (v2:=v2) (v3:=v3) (v4:=v4) (v5:=v5) (v7:=v7) (v8:=v8) (v9:=some (.int c')) (v10:=v10) a b P.tl P.le c;simp only[tlS];generalize tlU=G at uu;simp only[wSs,wS,wE,wEs,wI,qC,jf,aW,bh,aG,aJ,pP];have:=P.x40;refine⟨by simp only[lim];omega,by omega,?_⟩;rw[qK,dG];refine fj (fun(k:Nat)=>D.int (k:Int)) (fun j=>D.int (sn l j)) trivial _ _ ?_ ?_
 .intro j hj Y N z
  have hj:=oY.mp hj;simp only[bindC,wTs,wT,wE,wEs,wI,kZ,h.at_,newL,aW,bh,aG,aJ,pP,if_true];refine d8 D.loc (fun c=>!(rd μ c).isEmpty) (fun c=>D.int (((rd μ c)[j]?).getD 0)) h.at_ _ _ ?_ ?_
  .intro c hc Y2 N2 z2
   simp only[bindC,aG,aJ];refine⟨by decide,Yl h hc ?_⟩;simp only[gZ];by_cases b:(!(rd μ c).isEmpty)=true
   .rw[if_pos b]at z2 ⊢
    (have hne:rd μ c≠[]:=by simpa using b);(have hm:rd μ c∈l:=by rw[<-h.map];exact jG.mpr ⟨c,hc,rfl⟩);have hlt:j<(rd μ c).length:=fM hj (P.hx _ hm hne);rw[Mq.jV (ds:=(rd μ c).map D.int) (p:=j) (e:=.int (rd μ c)[j]) (.inl ⟨_,rfl⟩) (by simp only[au,h.mem hc]) (by rw[aU];exact dI hlt) (by simp[hlt])];simpa[hlt]using z2
   .rw[if_neg b]at z2 ⊢;exact z2
  .rw[aZ]
   have e:(ls.filter fun c=>!(rd μ c).isEmpty).map (fun c=>D.int (((rd μ c)[j]?).getD 0))=((l.filter fun r=>!r.isEmpty).map fun r=>(r[j]?).getD 0).map D.int:=by rw[YT h (fun r=>!r.isEmpty) (fun r=>D.int ((r[j]?).getD 0)),jq];rfl
   rw[e];simp only[bM,au,oO,gO];exact z
 .rw[aZ]
  have e:((aN x).map fun j=>D.int (sn l j))=((aN x).map (sn l)).map D.int:=by rw[jq];rfl
  rw[e];simp only[newL,bD,bC,aG,aJ];have at0:(μ++[Cell.lst (((aN x).map (sn l)).map D.int)])[μ.length]?=some (.lst (((aN x).map (sn l)).map D.int)):=by simp
  simp only[bM,au,at0,oO,gO,lq];have P0:Pre μ (μ++[Cell.lst (((aN x).map (sn l)).map D.int)]):=CHO.Pre.app _ _;exact uu _ _ μ.length (h.pre P0) at0 fun μ' n' ls' P' h'=>q μ' n' ls' _ (P0.trans P') h'
def tlM:Ss:=(.cons (.set 12 (.blt "min" (.cons (.comp false 1 false [] (.blt "len" (.cons (.var 0) .nil)) (.seq (.var 6)) (.cons (.cmp .NotEq (.var 0) (.lst false .nil)) .nil)) .nil))) tlS)
def tlG:Ss:=(.cons (.set 11 (.idx (.comp false 1 false [6] (.var 0) (.rng (.cons (.var 2) .nil)) (.cons (.KN false (.idx (.var 1) (.var 0)) (.lst false .nil)) .nil)) (.cst (.int 0)))) tlM)
theorem amR {c:Int} {v11 J7 wJ:Option D} (h:LI μ n6 ls l) (P:Sp l t x)
  (q:∀ μ' n' ls' wJ,Pre μ μ'->LI μ' n' ls' ((l.map (Np x)).set t ((aN x).map (sn l)))->Z.nx [v0,v1,some (.int (l.length:Nat)),v3,v4,v5,some (.loc n'),v7,v8,some (.int (c+((aN x).map (sn l)).sum)),v10,some (.int (t:Int)),some (.int (x:Int)),wJ] μ'):
  wSs tlG Z [v0,v1,some (.int (l.length:Nat)),v3,v4,v5,some (.loc n6),v7,v8,some (.int c),v10,v11,J7,wJ] μ:=by
 have ss:=amq (Z:=Z) (c:=c) (v0:=v0) (v1:=v1) (v2:=some (.int (l.length:Nat))) (v3:=v3) (v4:=v4) (v5:=v5) (v7:=v7) (v8:=v8) (v10:=v10) (wJ:=wJ) h P q;simp only[tlG,tlM];generalize tlS=G at ss;have le:=P.le;simp only[wSs,wS,wT,wE,wEs,wI,kZ,qC,jf,newL,h.at_,aW,bh,aG,aJ,pP];refine⟨by simp only[lim];omega,by omega,?_⟩;rw[qK,dG];refine d8 (fun(k:Nat)=>D.int (k:Int)) (fun i=>(l[i]?.getD []).isEmpty) (fun(k:Nat)=>D.int (k:Int)) trivial _ _ ?_ ?_
 .intro i hi Y N z
  have hi:=oY.mp hi;obtain⟨c',_,hm,hrd,hix⟩:=h.ix hi;simp only[bindC,wTs,wT,wE,wEs,newL,aG,aJ];refine hix _ ⟨by decide,?_⟩;have th:fH μ 8 (.loc c')= .lst (l[i].map D.int):=by simp only[fH,h.mem hm,hrd];rw[jq];congr 1
  have fl:∀ (k:Nat) (r:List Int),flats k (r.map D.int)=true:=fun k r=>by
   induction r with
   |nil=>rfl|cons a r ih=>simp only[aW,flats,ih,Hu];cases k<;>rfl
  refine⟨by rw[th];simp only[flat];exact fl _ _,rfl,?_⟩;rw[th];have e:(false !=kO (.lst (l[i].map D.int)) (fH μ 8 (.lst [])))=(l[i]?.getD []).isEmpty:=by rw[bI hi,fV];cases l[i]<;>rfl
  rw[e];simpa[gZ]using z
 .rw[aZ,P.em]
  have i0:∀ Q:QD,d7 (.lst [.int (t:Int)]) (.int 0) μ Q=Q (.int (t:Int)) μ:=fun Q=>rfl;simp only[aW,bh,i0,bD,bC,aG,aJ];simp only[h.at_];refine d8 (g:=fun μ'=>μ'[n6]?=some (.lst (ls.map D.loc))) D.loc (fun c=>!(rd μ c).isEmpty) (fun c=>D.int ((rd μ c).length:Int)) h.at_ _ _ ?_ ?_
  .intro c hc Y2 N2 z2
   simp only[bindC,wTs,wT,wE,wEs,newL,aG,aJ];refine⟨by decide,Yl h hc ?_⟩;simp only[gZ];by_cases b:(!(rd μ c).isEmpty)=true
   .rw[if_pos b]at z2 ⊢
    simp only[bM,lenOf,au,h.mem hc,dz,aU];exact z2
   .rw[if_neg b]at z2 ⊢;exact z2
  .rw[aZ]
   have e:(ls.filter fun c=>!(rd μ c).isEmpty).map (fun c=>D.int ((rd μ c).length:Int))=((l.filter fun r=>!r.isEmpty).map fun r=>(r.length:Int)).map D.int:=by rw[YT h (fun r=>!r.isEmpty) (fun r=>D.int (r.length:Int)),jq];rfl
   obtain⟨i,is,e1,e2⟩:=P.mn;rw[e,e1];simp only[bM,bU,au,oO,gO,e2];exact ss
end
section
variable {a:jT}
theorem vm:(lg a).length=a.length:=by simp[lg]
theorem aeG {i:Nat} (h:i<a.length):(((lg a)[i]?.getD []).length:Int)=gt (ln a) i:=by rw[Lw,YL h,aU]
theorem aem (h:Ok (ln a)):(lg a).filter (fun r=>!r.isEmpty)=(S_ a).map fun i=>(lg a)[i]?.getD []:=by
 have e:lg a=(aN a.length).map fun i=>(lg a)[i]?.getD []:=by
  apply oR;intro i;by_cases hi:i<a.length
  .have:i<(lg a).length:=by rw[vm];exact hi
   simp[hi,this]
  .rw[gW (by rw[vm];omega),gW (by simp;omega)]
 conv=>lhs;rw[e]
 rw[abZ];congr 1;show _=oth (ln a);rw[<-h.fu,vh];refine acw fun i hi=>?_;have hi:=oY.mp hi;have:=aeG hi;simp only[acS];cases hl:(lg a)[i]?.getD [] with
 |nil=>rw[hl]at this;simp at this ⊢;omega|cons x r=>rw[hl]at this;simp at this ⊢;omega
theorem Sp.of (h:Ok (ln a)) (hx:tms (ln a)<=40):Sp (lg a) (t_ a) (x_ a):=by
 have P:=Ph.of h;refine⟨by rw[vm];exact P.tl,by rw[vm,<-vh];exact h.len,?_,?_,fun r hr hne=>?_,by unfold x_;omega⟩
 .have:=h.ba
  rw[vh]at this;rw[vm];refine Eq.trans (acw fun i hi=>?_) this;have hi:=oY.mp hi;have:=aeG hi;cases hl:(lg a)[i]?.getD [] with
  |nil=>rw[hl]at this;simp at this ⊢;omega|cons x r=>rw[hl]at this;simp at this ⊢;omega
 .rw[aem h,jq]
  have e:(S_ a).map ((fun r:List Int=>(r.length:Int)) ∘ fun i=>(lg a)[i]?.getD [])=(S_ a).map (gt (ln a)):=qN fun i hi=>aeG (Ag.mp hi).1;rw[e];have l2:=h.ph.2.2.2.1;have hp:akX ((S_ a).map (gt (ln a)))=tms (ln a):=rfl;cases hs:(S_ a).map (gt (ln a)) with
  |nil=>have:=congrArg fK hs;rw[aU]at this;have l2':2<=(S_ a).length:=l2;simp at this;rw[this]at l2';simp at l2'|cons i is=>refine⟨i,is,rfl,?_⟩;rw[hs]at hp;rw[x_eq h];exact hp
 .obtain⟨i,hi,rfl⟩:=CG hr
  have hi':i<a.length:=by rw[<-vm];exact hi
  have eg:(lg a)[i]?.getD []=(lg a)[i]:=by rw[bI hi,fV]
  have ht:i≠t_ a:=fun z=>by subst z;apply hne;rw[<-eg,Lw,XS h];rfl
  have:=(P.sl i (Ag.mpr ⟨hi',ht⟩)).2;rw[<-eg,Lw,aU];exact this
theorem ahN (h:Ok (ln a)) (j:Nat):sn (lg a) j=tkL (S_ a) (lg a) j:=by unfold sn tkL;rw[aem h,jq];rfl
theorem abd (S:List Nat) (l:List (List Int)):∀ x,((aN x).map (tkL S l)).sum=mvL S l x
 |0=>rfl|x+1=>by rw[yD,qI,List.sum_append,abd S l x];simp[mvL]
theorem air (h:Ok (ln a)) (x:Nat):((lg a).map (Np x)).set (t_ a) ((aN x).map (sn (lg a)))=stL (S_ a) (t_ a) (lg a) x:=by
 have hs:(aN x).map (sn (lg a))=(aN x).map fun j=>tkL (S_ a) (lg a) j:=qN fun j _=>ahN h j;rw[hs];apply oR;intro i;unfold stL;by_cases hi:i<(lg a).length
 .rw[fW,OD hi,dz]
  by_cases c:i=t_ a
  .subst c;rw[cT (by simpa using hi),if_pos rfl]
  .rw[bR (bN c),if_neg c];simp[hi]
 .rw[gW (by simp;omega),gW (by simp;omega)]
end
def tlR:Ss:=(.cons (.ret (.tup (.cons (.call "_law_sorted" oJ (.cons (.var 0) .nil)) (.cons (.blt "len" (.cons (.var 3) .nil)) (.cons (.var 9) (.cons (.var 10) .nil)))))) .nil)
def tlW:Ss:=(.cons (.whl (.cmp .Gt (.blt "sum" (.cons (.comp false 1 false [] (.blt "len" (.cons (.var 0) .nil)) (.seq (.var 6)) .nil) .nil)) (.cst (.int 1))) (.cons (.set 10 (.bin .Add (.var 10) (.cst (.int 1)))) tlG)) tlR)
theorem amb {Z:dO} {μ:Mem} {n6 n d:Nat} {ls:List Nat} {a0:jT} {v0 v1 v3 v4 v5 v7 v8 v11 J7 wJ:Option D} (h:LI μ n6 ls (lg a0)) (hd:a0.length=d) (ck:QZ n (ln a0)=true) (tb:tmB n (ln a0)=true)
  (q:∀ μ' v6 v7 v8 v11 J7 wJ,Pre μ μ'->wSs tlR Z [v0,v1,some (.int (d:Int)),v3,v4,v5,v6,v7,v8,some (.int (Fg n a0 0)),some (.int (n:Nat)),v11,J7,wJ] μ'):
  wSs tlW Z [v0,v1,some (.int (d:Int)),v3,v4,v5,some (.loc n6),v7,v8,some (.int 0),some (.int 0),v11,J7,wJ] μ:=by
 have gg:=fun(Z:dO) μ n6 ls (a:jT) (c:Int) (v7 v8 v10 v11 J7 wJ:Option D) (h:LI μ n6 ls (lg a)) P q=>amR (Z:=Z) (μ:=μ) (n6:=n6) (t:=t_ a) (x:=x_ a) (ls:=ls) (l:=lg a) (c:=c) (v0:=v0) (v1:=v1) (v3:=v3) (v4:=v4) (v5:=v5) (v7:=v7) (v8:=v8) (v10:=v10) (v11:=v11) (J7:=J7) (wJ:=wJ) h P q;simp only[tlW];generalize tlG=G at gg;generalize tlR=R at q;simp only[wSs,wS];refine⟨fun r ρ μ'=>∃ (a:jT) (c:Int) (ph n6:Nat) (ls:List Nat) (v7 v8 v11 J7 wJ:Option D),QZ r (ln a)=true/\tmB r (ln a)=true/\Fg r a c=Fg n a0 0/\ph+r=n/\a.length=d/\LI μ' n6 ls (lg a)/\Pre μ μ'/\ρ=[v0,v1,some (.int (d:Int)),v3,v4,v5,some (.loc n6),v7,v8,some (.int c),some (.int (ph:Int)),v11,J7,wJ],⟨n,a0,0,0,n6,ls,v7,v8,v11,J7,wJ,ck,tb,rfl,by omega,hd,h,CHO.Pre.refl _,rfl⟩,?_⟩;rintro r ρ μ1 ⟨a,c,ph,n6,ls,v7,v8,v11,J7,wJ,e1,e2,e3,e4,e5,e6,e7,rfl⟩;simp only[wT,wE,wEs,wI,kZ,e6.at_,newL,bh,aG,aJ];refine fj (g:=fun μ'=>μ'[n6]?=some (.lst (ls.map D.loc))) D.loc (fun c=>D.int ((rd μ1 c).length:Int)) e6.at_ _ _ ?_ ?_
 .intro c' hc Y N z
  simp only[bindC,wTs,if_true,aG,bM,lenOf,au,e6.mem hc,dz,aU];exact z
 .rw[aZ]
  have e:(ls.map fun c=>D.int ((rd μ1 c).length:Int))=(ln a).map D.int:=by have hm:=e6.map;rw[<-ajx,<-hm];unfold lnL;rw[jq,jq];rfl
  rw[e];simp only[bM,au,oO,gO,dh,gZ];cases r with
  |zero=>(have hs:(ln a).sum=1:=by simpa[QZ]using e1);rw[if_neg (by simp[hs])];have em:c=Fg n a0 0:=e3;(have en:ph=n:=by omega);subst em en;exact q _ _ _ _ _ _ _ e7|succ r=>
   obtain⟨h1,ok,ck'⟩:=Xk e1;simp only[tmB,bO,decide_eq_true_eq]at e2;rw[if_pos (by simpa using h1)];simp only[aG,aJ,bD,bC,lq];(have hl:((lg a).length:Int)=(d:Int):=by rw[vm,e5]);have P:=Ph.of ok;have A:=vo P _ (aL _);rw[<-hl];refine gg _ μ1 n6 ls a c _ _ _ _ _ _ e6 (Sp.of ok e2.1) fun μ' n' ls' wJ P' h'=>⟨r,by omega,Je (S_ a) (t_ a) a (x_ a),c+((aN (x_ a)).map (sn (lg a))).sum,ph+1,n',ls',v7,v8,some (.int (t_ a:Int)),some (.int (x_ a:Int)),wJ,by rw[Lk ok];exact ck',by rw[Lk ok];exact e2.2,?_,by omega,by rw[A.len];exact e5,?_,e7.trans P',?_⟩
   .rw[<-e3]
    show _=Fg r _ (c+mvP (S_ a) a (x_ a));rw[aer,<-abd];congr 2;congr 1;exact qN fun j _=>ahN ok j
   .rw[ajz P vX (XS ok),<-air ok];exact h'
   .rw[hl];rfl
noncomputable abbrev Rows:=K91.Rows
def cI (r:List Int):Cell:=.lst (r.map D.int)
def MM (M0:Mem) (l:List (List Int)):Mem:=M0++l.map cI++[Cell.lst ((aN l.length).map fun j=>D.loc (M0.length+j))]
section
variable {M0:Mem} {l:List (List Int)}
theorem ah1 {i:Nat} (h:i<l.length):(MM M0 l)[M0.length+i]?=some (cI l[i]):=by unfold MM;rw[fL,jt (by omega),show M0.length+i -M0.length=i by omega,cL (by simpa using h)];simp[h]
theorem aki {y:Nat} (h:y<l.length) (r:List Int):(MM M0 l).set (M0.length+y) (cI r)=MM M0 (l.set y r):=by unfold MM;rw[fL,CK _ _ (by omega),show M0.length+y -M0.length=y by omega,OJ _ _ (by simpa using h),<-uN,fL];simp
theorem ah0:(MM M0 l)[M0.length+l.length]?=some (.lst ((aN l.length).map fun j=>D.loc (M0.length+j))):=by unfold MM;rw[jt (by simp)];simp
theorem Xv:Pre M0 (MM M0 l):=by unfold MM;rw[fL];exact CHO.Pre.app _ _
theorem alF:LI (MM M0 l) (M0.length+l.length) ((aN l.length).map fun j=>M0.length+j) l:=
 ⟨by rw[ah0,jq];rfl,by simp,fun i c r h1 h2=>by have hi:=(cF.mp h2).1;simp[hi]at h1 h2;subst h1 h2;exact ah1 hi⟩
end
def tlF:Ss:=(.cons (.for_ [7,8] true (.zip (.var 4) (.var 3)) (.cons (.exp (.meth "append" (.idx (.var 6) (.var 7)) (.cons (.blt "len" (.cons (.var 8) .nil)) .nil))) .nil)) (.cons (.set 9 (.cst (.int 0))) (.cons (.set 10 (.cst (.int 0))) tlW)))
section
variable {Z:dO} {M0:Mem} {c4 d:Nat} {rls:List Nat} {runs:List (List Itm)} {os:List Nat} {l0:List (List Int)} {v0 v1 v2 v5 v7 v8 v9 v10 v11 J7 wJ:Option D}
theorem amT (h4:M0[c4]?=some (.lst (jN os))) (hR:Rows M0 rls runs) (hlen:os.length=runs.length) (hd:l0.length=d) (hos:∀ x∈os,x<d) (hk:∀ i:Nat,(l0[i]?.getD []).length<=100) (hm:runs.length<=40)
  (q:∀ v7 v8,wSs tlW Z [v0,v1,v2,some (.lst (rls.map D.loc)),some (.loc c4),v5,some (.loc (M0.length+d)),v7,v8,some (.int 0),some (.int 0),v11,J7,wJ] (MM M0 (xK os (runs.map fun r=>(r.length:Int)) l0))):
  wSs tlF Z [v0,v1,v2,some (.lst (rls.map D.loc)),some (.loc c4),v5,some (.loc (M0.length+d)),v7,v8,v9,v10,v11,J7,wJ] (MM M0 l0):=by
 simp only[tlF];generalize tlW=W at q;simp only[wSs,wS,wE,wEs,wI,aG,aJ];have z1:∀ l,bU (MM M0 l) (.loc c4)=some (jN os):=fun l=>by have:=(Xv (l:=l)).2 c4 (Mq.aB h4);simp[bU,au,this,h4]
 have z2:∀ l,bU (MM M0 l) (.lst (rls.map D.loc))=some (rls.map D.loc):=fun l=>rfl;simp only[Za,z1,z2];refine bK (fun ds ρ μ'=>∃ (os':List Nat) (rs:List (List Itm)) (rl:List Nat) (l:List (List Int)) (k:Nat) (v7 v8:Option D),ds=mJ (jN os') (rl.map D.loc)/\os'.length=rs.length/\rl.length=rs.length/\xK os' (rs.map fun r=>(r.length:Int)) l=xK os (runs.map fun r=>(r.length:Int)) l0/\(∀ x∈os',x<d)/\l.length=d/\μ'=MM M0 l/\k+rs.length<=140/\(∀ i:Nat,(l[i]?.getD []).length<=k)/\(∀ (i c:Nat) (r:List Itm),rl[i]?=some c->rs[i]?=some r->M0[c]?=some (.lst (r.map bH)))/\ρ=[v0,v1,v2,some (.lst (rls.map D.loc)),some (.loc c4),v5,some (.loc (M0.length+d)),v7,v8,v9,v10,v11,J7,wJ]) ?_ ?_ _ _ _
  ⟨os,runs,rls,l0,100,v7,v8,rfl,hlen,hR.1,rfl,hos,hd,rfl,by omega,hk,hR.2,rfl⟩
 .rintro x ds ρ μ1 N hN ⟨os',rs,rl,l,k,v7,v8,e,e1,e2,e3,e4,e5,rfl,e7,e8,e9,rfl⟩
  refine⟨⟨z1 _,z2 _⟩,?_⟩
  match os',rl,rs,e,e1,e2,e3,e4,e7,e9 with
  |[],_,_,e,_,_,_,_,_,_=>simp[jN,mJ]at e|y::os',[],_,e,_,_,_,_,_,_=>simp[jN,mJ]at e|y::os',c::rl,[],e,e1,_,_,_,_,_=>simp at e1|y::os',c::rl,r::rs,e,e1,e2,e3,e4,e7,e9=>
   simp only[jN,aW,mJ,eH]at e;obtain⟨rfl,rfl⟩:=e;have hy:=e4 y (by simp);(have hyl:y<l.length:=by omega);have hc:(MM M0 l)[c]?=some (.lst (r.map bH)):=by have g:=e9 0 c r rfl rfl;rw[(Xv (l:=l)).2 c (Mq.aB g)];exact g
   simp only[aY]at e7;have hly:=e8 y;rw[bI hyl,fV]at hly;simp only[dg,aY,bB,uX,HY,lA,yC,bD,bC,aG,aJ,true_and];rw[Mq.jV (ds:=(aN l.length).map fun j=>D.loc (M0.length+j)) (p:=y) (e:=.loc (M0.length+y)) (.inl ⟨_,rfl⟩) (by simp only[au];rw[<-e5,ah0]) (by rw[aU,yK];exact dI hyl) (by simp[hyl])];have ec:(MM M0 l)[M0.length+y]?=some (.lst (l[y].map D.int)):=ah1 hyl;simp only[isCell,ec,true_and,bM,lenOf,au,hc,dz,aU,dU,bY];refine⟨by simp only[lim];omega,?_⟩;(have es:l[y].map D.int++[D.int (r.length:Int)]=(l[y]++[(r.length:Int)]).map D.int:=by simp);rw[es];have em:(MM M0 l).set (M0.length+y) (.lst ((l[y]++[(r.length:Int)]).map D.int))=MM M0 (l.set y (l[y]++[(r.length:Int)])):=aki hyl _;rw[em];refine hN _ _ ⟨os',rs,rl,_,k+1,_,_,rfl,by simpa using e1,by simpa using e2,?_,fun x hx=>e4 x (by simp[hx]),by simpa using e5,rfl,by omega,fun i=>?_,fun i c r a b=>e9 (i+1) c r a b,rfl⟩
   .rw[<-e3]
    simp only[aW,xK,bI hyl,fV]
   .by_cases ci:i=y
    .subst ci
     rw[cT hyl,fV,gV];simp;omega
    .rw[bR (bN ci)];exact Ou (e8 i)
 .rintro ρ μ1 ⟨os',rs,rl,l,k,v7,v8,e,e1,e2,e3,e4,e5,rfl,e7,e8,e9,rfl⟩
  refine⟨⟨z1 _,z2 _⟩,?_⟩;have h0:os'=[]:=by
   match os',rl,rs,e,e1,e2 with
   |[],_,_,e,_,_=>rfl|y::os',[],[],e,e1,_=>simp at e1|y::os',[],_::_,e,_,e2=>simp at e2|y::os',c::rl,_,e,_,_=>simp[jN,mJ]at e
  subst h0;have h1:rs=[]:=by cases rs with|nil=>rfl|cons=>simp at e1
  subst h1;have e3':l=xK os (runs.map fun r=>(r.length:Int)) l0:=e3;rw[e3'];simp only[bD,bC];exact q _ _
def tlD:Ss:=(.cons (.set 6 (.comp true 1 false [5] (.rep true (.lst false (.cons (.cst (.int 0)) .nil)) (.idx (.var 1) (.var 0))) (.rng (.cons (.var 2) .nil)) .nil)) tlF)
theorem WD (l:List Int):lg (lay0 l)=(aN l.length).map fun x=>aV (lk l x) (0:Int):=by unfold lg lay0 stE;rw[jq];refine qN fun x hx=>?_;have hx:=oY.mp hx;simp[hx]
theorem amY {l:List Int} {c5:Nat} {v3 v4 v6:Option D} (h5:M0[c5]?=some (.lst (isD l))) (h3:l.length=d) (h6:d<=6) (nn:∀ x∈l,0<=x/\x<=20)
  (q:wSs tlF Z [v0,v1,some (.int (d:Int)),v3,v4,some (.loc c5),some (.loc (M0.length+d)),v7,v8,v9,v10,v11,J7,wJ] (MM M0 (lg (lay0 l)))):
  wSs tlD Z [v0,v1,some (.int (d:Int)),v3,v4,some (.loc c5),v6,v7,v8,v9,v10,v11,J7,wJ] M0:=by
 simp only[tlD];generalize tlF=F at q;simp only[wSs,wS,wE,wEs,wI,wTs,qC,jf,aW,bh,aG,aJ,pP];refine⟨by simp only[lim];omega,by omega,?_⟩;rw[qK,dG];let cs:Nat->List Cell:=fun k=>(aN k).map fun x=>cI (aV (lk l x) (0:Int));refine lR (fun ds acc μ'=>∃ k,ds=(gG k (d -k)).map (fun(k:Nat)=>D.int (k:Int))/\k<=d/\μ'=M0++cs k/\acc=(aN k).map fun j=>D.loc (M0.length+j)) ?_ ?_ _ _ _ ⟨0,by simp[uI],by omega,by simp[cs],rfl⟩
 .rintro x ds acc μ1 Y N hY hN ⟨k,e,hk,rfl,rfl⟩
  have hkd:k<d:=by
   rcases dH k d with z|z
   .exact z
   .rw[show d -k=0 by omega]at e;simp at e
  rw[show d -k=(d -(k+1))+1 by omega,lC]at e;simp only[aW,eH]at e;obtain⟨rfl,rfl⟩:=e;refine⟨trivial,?_⟩;have hkl:k<l.length:=by omega
  have g5:(M0++cs k)[c5]?=some (.lst (isD l)):=by rw[cL (Mq.aB h5)];exact h5
  simp only[bindC,if_true,aG,aJ];simp only[newL];rw[Mq.jV (ds:=isD l) (p:=k) (e:=.int l[k]) (.inl ⟨_,rfl⟩) (by simp only[au,g5]) (by rw[isD,aU];exact dI hkl) (by simp[isD,hkl])];have n0:=nn l[k] (uH hkl);have ek:l[k].toNat=lk l k:=by unfold lk;rw[J9.getD_get _ hkl]
  simp only[aaP,zy,newL];refine⟨by simp[lim],⟨by simp only[lim,aY,bB];omega,by omega,by omega⟩,?_⟩;refine hY _ _ ⟨k+1,rfl,by omega,?_,?_⟩
  .have e1:cs (k+1)=cs k++[cI (aV (lk l k) (0:Int))]:=by simp only[cs];rw[yD,qI];rfl
   rw[e1,fL];congr 2;unfold cI;rw[ek];simp[ad0]
  .rw[yD,qI]
   (have:(cs k).length=k:=by simp[cs]);simp[this]
 .rintro acc μ1 ⟨k,e,hk,rfl,rfl⟩
  have hkd:k=d:=by have:=congrArg fK e;simp at this;omega
  subst hkd;refine⟨trivial,?_⟩;simp only[newL,bD,bC];have e1:M0++cs k++[Cell.lst ((aN k).map fun j=>D.loc (M0.length+j))]=MM M0 (lg (lay0 l)):=by unfold MM;rw[WD,aU,yK,h3,jq];rfl
  have e2:(M0++cs k).length=M0.length+k:=by simp[cs]
  rw[e1,e2];exact q
end
noncomputable abbrev oK:=K91.oK
def wQ:dZ:=fun ds μ Q=>∃ (row:List Itm) (m d:Nat),ds=[.lst (row.map bH),.int (m:Int),.int (d:Int)]/\row.length<=40/\1<=m/\m<=50/\3<=d/\d<=6/\(∀ x∈row,gM x)/\
 ∀ n μ',kY d (bF row m).length n->Pre μ μ'->Q (.tup [.lst ((GC row).map bH),.int ((bF row m).length:Nat),.int (Fg n (pC d n (bF row m)) 0),.int (n:Nat)]) μ'
def Ae:List Str:=["row","room","drives","runs","turnwise","lacking","lanes","drive","run","carried","phases","target","times","poured"]
def Bc:Ss:=(.cons (.set 3 (.call "_law_chosen" oK (.cons (.var 0) (.cons (.var 1) .nil)))) (.cons (.ite (.KN false (.var 3) (.lst false .nil)) (.cons (.ret (.tup (.cons (.lst false .nil) (.cons (.cst (.int 0)) (.cons (.cst (.int 0)) (.cons (.cst (.int 0)) .nil)))))) .nil) .nil) (.cons (.Ul [4,5] (.call "_law_dealt" K8 (.cons (.var 2) (.cons (.blt "len" (.cons (.var 3) .nil)) .nil)))) tlD)))
theorem Zm {μ:Mem} {ls:List Nat} {rs:List (List Itm)} (h:Rows μ ls rs):fH μ 8 (.lst (ls.map D.loc))= .lst (cG rs):=by
 rw[Rh];congr 1;apply oR;intro i;by_cases c:i<ls.length
 .have c':i<rs.length:=by rw[<-h.1];exact c
  have:=h.2 i ls[i] rs[i] (bI c) (bI c');have e:=Ri this 6;rw[Gv μ 6 bH (fun x=>MF μ 6 x)]at e;simp only[fW,bI c,dz,cG,bI c'];rw[e]
 .have:=h.1
  rw[gW (by simp;omega),gW (by simp[cG];omega)]
theorem Lb {rs:List (List Itm)} (h:∀ r∈rs,∀ x∈r,gM x):flat 60 (.lst (cG rs))=true:=by
 have it:∀ r:List Itm,(∀ x∈r,gM x)->flats 58 (r.map bH)=true:=fun r hr=>by
  have:=Ez hr;simp only[flat]at this;induction r with
  |nil=>rfl|cons x r ih=>simp only[aW,flats,bO]at this ⊢;exact⟨this.1,ih (fun y hy=>hr y (by simp[hy])) this.2⟩
 simp only[flat,cG];induction rs with
 |nil=>rfl|cons r rs ih=>simp only[aW,flats,flat,it r (h r (by simp)),ih fun q hq=>h q (by simp[hq]),abP]
theorem Qc:Keeps Ae Bc wQ:=by
 rintro ds μ Q ⟨row,m,d,rfl,hl,m1,m2,h3,h6,hok,q⟩;obtain⟨c1,c2⟩:=Bq m1 hl;have hp:=vI m1 row;have dd:=fun(Z:dO) M0 (l:List Int) c5 v0 v1 v3 v4 v6 v7 v8 v9 v10 v11 J7 wJ a b c e=>amY (Z:=Z) (M0:=M0) (d:=d) (l:=l) (c5:=c5) (v0:=v0) (v1:=v1) (v3:=v3) (v4:=v4) (v6:=v6) (v7:=v7) (v8:=v8) (v9:=v9) (v10:=v10) (v11:=v11) (J7:=J7) (wJ:=wJ) a b h6 c e;simp only[Bc];generalize hG:tlD=G at dd;simp only[Ae,aF,cC,wSs,wS,wT,wE,wEs,newL,aW,bh,aY,bB,bG,aZ,aG,aJ,bD,bC,aV];refine⟨row,m,rfl,by omega,m1,m2,hok,fun μ1 ls P1 hR=>⟨by decide,?_⟩⟩;have hit:∀ r∈bF row m,∀ x∈r,gM x:=fun r hr x hx=>hok x (hp.mem_iff.mp (Vs.mpr ⟨r,hr,hx⟩));unfold Zd;rw[Zm hR];refine⟨Lb hit,rfl,?_⟩;cases hc:bF row m with
 |nil=>
  have er:row=[]:=by rw[hc]at hp;exact List.Perm.eq_nil hp.symm
  have lf:kY d (bF row m).length 0:=by rw[hc];exact⟨by omega,by show(0:Int)<=tot d 0;rw[show d=(d -1)+1 by omega];simp[tot,lvl],fun j hj=>by omega⟩
  have:=q 0 μ1 lf P1;rw[hc]at this;subst er;have hf:(false !=kO (.lst (cG [])) (fH μ1 8 (.lst [])))=true:=rfl;rw[hf];simp only[gZ,if_true];exact⟨by simp[lim],by simp[lim],this⟩
 |cons r0 rs0=>
  rw[<-hc];have hf:(false !=kO (.lst (cG (bF row m))) (fH μ1 8 (.lst [])))=false:=by rw[hc];rfl
  rw[hf];simp only[gZ,dB,if_false];simp only[bM,lenOf,au,dz,aU,hR.1];refine⟨d,_,rfl,h3,h6,by omega,fun n lf=>?_⟩;have edl:dl d (bF row m).length n=deal (bF row m).length (lvl d n):=rfl;rw[edl];have Dd:=Dl.of h3 h6 c1 lf;have L:=L0.of h3 h6 c1 lf fun r hr=>(c2 r hr).1;obtain⟨ne,ll⟩:=vP (d:=d) (n:=n) h3;obtain⟨l1,l2⟩:=J9.kW (bF row m).length (lvl d n);have hlt:=J9.Ge (bF row m).length (lvl d n) ne;have nn:=Dd.nn;have ajW:eN (deal (bF row m).length (lvl d n)).1 (bF row m) (lay0 (deal (bF row m).length (lvl d n)).2)=pC d n (bF row m):=rfl;generalize deal (bF row m).length (lvl d n)=p at*;simp only[dg,aY,bB,uX,HY,lA,yC,bD,bC,true_and];have P2:Pre μ1 (μ1++[Cell.lst (isD p.2),Cell.lst (jN p.1)]):=CHO.Pre.app _ _;have g5:(μ1++[Cell.lst (isD p.2),Cell.lst (jN p.1)])[μ1.length]?=some (.lst (isD p.2)):=by simp
  have g4:(μ1++[Cell.lst (isD p.2),Cell.lst (jN p.1)])[μ1.length+1]?=some (.lst (jN p.1)):=by rw[jt (by omega)];simp
  have hR2:Rows (μ1++[Cell.lst (isD p.2),Cell.lst (jN p.1)]) ls (bF row m):=⟨hR.1,fun i l r a b=>by have g:=hR.2 i l r a b;rw[P2.2 l (Mq.aB g)];exact g⟩;generalize μ1++[Cell.lst (isD p.2),Cell.lst (jN p.1)]=M0 at*;have lgl:(lg (lay0 p.2)).length=d:=by rw[WD,aU,yK,l2,ll]
  refine dd _ M0 p.2 μ1.length _ _ _ _ _ _ _ _ _ _ _ _ g5 (l2.trans ll) nn ?_;refine amT (d:=d) (runs:=bF row m) (os:=p.1) g4 hR2 l1 lgl (fun x hx=>by rw[<-ll];exact hlt x hx) (fun i=>?_) c1 fun v7 v8=>?_
  .rw[WD]
   by_cases hi:i<p.2.length
   .have n0:=nn (p.2.getD i 0) (by rw[J9.getD_get _ hi];exact uH hi)
    simp only[fW,OD hi,dz,fV,H8,lk];omega
   .rw[gW (by simp;omega)];simp
  .rw[<-Yu,ajW]
   have hI:=alF (M0:=M0) (l:=lg (pC d n (bF row m)));rw[vm,L.len]at hI;refine amb (a0:=pC d n (bF row m)) hI L.len (by rw[L.ln];exact Dd.ck) (by rw[L.ln];exact Dd.tb) fun μ' v6 v7 v8 v11 J7 wJ P3=>?_;simp only[tlR,wSs,wS,wE,wEs,aG,aJ];refine⟨row,rfl,by omega,?_⟩;simp only[bM,lenOf,au,dz,aU,hR.1];exact⟨by simp[lim],q n _ lf (((P1.trans P2).trans Xv).trans (P3.trans (CHO.Pre.app _ _)))⟩
noncomputable abbrev ur:=POU.ur
noncomputable abbrev zX:=POU.zX
noncomputable abbrev Av:=POU.Av
theorem PB:Keeps zX Av ur:=POU.PB
noncomputable abbrev ajs:=Pu
noncomputable abbrev ajU:=Qk
theorem ajN:Keeps ajs ajU vN:=ag3
noncomputable abbrev uF:=Q0.uF
noncomputable abbrev Af:=Q0.Af
noncomputable abbrev Bd:=Q0.Bd
theorem Qf:Keeps Af Bd uF:=Q0.Qf
noncomputable abbrev Iu:=Q0.Iu
noncomputable abbrev Jr:=Q0.Jr
theorem WY:Keeps Iu Jr vM:=Q0.WY
noncomputable abbrev mQ:=Q0.mQ
noncomputable abbrev FP:=Q0.FP
noncomputable abbrev Gb:=Q0.Gb
theorem Qe:Keeps FP Gb mQ:=Q0.Qe
noncomputable abbrev mq:=Q0.mq
noncomputable abbrev mD:=Q0.mD
theorem qX:Keeps mq mD oJ:=Q0.qX
noncomputable abbrev qU:=K91.qU
noncomputable abbrev q9:=K91.q9
theorem Dq:Keeps qU q9 oK:=K91.Dq
def Yo:List Str:=["script","k","box","row","room","drives","due","handed","found"]
def tlE:Ss:=(.cons (.set 6 (.call "_law_sorted_on" wQ (.cons (.var 3) (.cons (.var 4) (.cons (.var 5) .nil))))) (.cons (.set 7 (.blt "list" (.cons (.var 3) .nil))) (.cons (.set 8 (.call "sort_on" xU (.cons (.var 7) (.cons (.var 4) (.cons (.var 5) .nil))))) (.cons (.ite (.or (.not (.isin (.var 8) "tuple")) (.or (.KN true (.var 8) (.var 6)) (.or (.cmp .NotEq (.var 7) (.var 3)) (.not (.isin (.idx (.var 8) (.cst (.int 0))) "list"))))) (.cons (.ret (.cst (.bl false))) .nil) .nil) (.cons (.ite (.cmp .NotEq (.comp false 1 false [] (.var 0) (.seq (.slc false (.var 8) (.cons (.cst (.int 1)) .nil) .nil)) (.cons (.not (.call "_law_whole" lV (.cons (.var 0) .nil))) .nil)) (.lst false .nil)) (.cons (.ret (.cst (.bl false))) .nil) .nil) (.cons (.exp (.meth "append" (.idx (.var 8) (.cst (.int 0))) (.cons (.cst (.int 0)) .nil))) (.cons (.ite (.KN true (.call "sort_on" xU (.cons (.var 7) (.cons (.var 4) (.cons (.var 5) .nil)))) (.var 6)) (.cons (.ret (.cst (.bl false))) .nil) .nil) .nil)))))))
def YG:Ss:=(.cons (.for_ [1] false (.rng (.cons (.blt "max" (.cons (.cst (.int 1)) (.cons (.blt "min" (.cons (.blt "len" (.cons (.var 0) .nil)) (.cons (.cst (.int 2)) .nil))) .nil))) .nil)) (.cons (.set 2 (.call "_law_box" vN (.cons (.var 0) (.cons (.var 1) .nil)))) (.cons (.set 3 (.call "_law_row" vM (.cons (.var 2) (.cons (.idx (.lst false (.cons (.cst (.int 14)) (.cons (.cst (.int 14)) (.cons (.cst (.int 14)) (.cons (.cst (.int 40)) .nil))))) (.call "_law_take" cR (.cons (.var 2) (.cons (.cst (.int 4)) .nil)))) .nil)))) (.cons (.set 4 (.bin .Add (.cst (.int 1)) (.call "_law_take" cR (.cons (.var 2) (.cons (.idx (.lst false (.cons (.cst (.int 3)) (.cons (.cst (.int 6)) .nil))) (.call "_law_take" cR (.cons (.var 2) (.cons (.cst (.int 2)) .nil)))) .nil))))) (.cons (.set 5 (.bin .Add (.cst (.int 3)) (.call "_law_take" cR (.cons (.var 2) (.cons (.cst (.int 4)) .nil))))) tlE))))) (.cons (.ret (.cst (.bl true))) .nil))
theorem ae6 {r:List Itm} (h:∀ x∈r,gM x):flat 59 (.lst (r.map bH))=true:=by have:=Lb (rs:=[r]) (by simpa using h);simpa[flat,cG,flats]using this
theorem YZ {μ:Mem} {c:Nat} {r:List Itm} {a b e:Int} {Q:QD} (gc:μ[c]?=some (.lst (r.map bH))) (ok:∀ x∈r,gM x) (q:Q (.bl false) μ):Zd true (.tup [.loc c,.int a,.int b,.int e]) (.tup [.lst (r.map bH),.int a,.int b,.int e]) μ Q:=by
 have t1:fH μ 8 (.tup [.loc c,.int a,.int b,.int e])= .tup [.lst (r.map bH),.int a,.int b,.int e]:=by rw[Gu];simp only[aW,bh,Gw];rw[Ri gc 6,Gv μ 6 bH (fun x=>MF μ 6 x)]
 have t2:fH μ 8 (.tup [.lst (r.map bH),.int a,.int b,.int e])= .tup [.lst (r.map bH),.int a,.int b,.int e]:=by rw[Gu];simp only[aW,bh,Gw];rw[Rh,Gv μ 6 bH (fun x=>MF μ 6 x)]
 have hf:flat 60 (.tup [.lst (r.map bH),.int a,.int b,.int e])=true:=by simp only[flat,flats,Hu];exact ae6 ok
 unfold Zd;rw[t1,t2,Jy 60 _ hf];exact⟨hf,hf,q⟩
theorem akI {ns:List Int} {k:D} {nb m d:Nat} {r:List Itm} {a6 a7 a8:Option D} {μ:Mem} {Z:dO} (hr:r.length<=40) (m1:1<=m) (m2:m<=50) (h3:3<=d) (h6:d<=6) (ok:∀ x∈r,gM x)
  (h:∀ ρ μ,(∃ a b c d e f g i,ρ=[some (.ro (ns.map D.int)),a,b,c,d,e,f,g,i])->Z.nx ρ μ):
  wSs tlE Z [some (.ro (ns.map D.int)),some k,some (.loc nb),some (.lst (r.map bH)),some (.int (m:Int)),some (.int (d:Int)),a6,a7,a8] μ:=by
 simp only[tlE,wSs,wS,wT,wTs,wE,wEs,wI,wO,Gj,newL,bC,bD,aG,aJ];refine⟨r,m,d,rfl,hr,m1,m2,h3,h6,ok,fun n μ1 lf P1=>?_⟩;simp only[bM,au,bC,bD,aG,aJ];refine⟨r,m,d,rfl,hr,m1,m2,h3,h6,ok,fun n' μ2 c lf' P2 hc gc=>?_⟩;cases kY.uniq lf' lf;have sok:∀ x∈GC r,gM x:=fun x hx=>ok x ((uq r).mem_iff.mp hx);have hf:=Ez ok;simp only[wH,tyOf,iu,truth];have t1:tZ "tuple" "tuple"=true:=by decide
 have t2:tZ "list" "list"=true:=by decide
 rw[t1];simp only[gZ,rT,dB,if_false];refine YZ gc sok ?_;have he:=Jy 60 _ hf;simp only[gZ,dB,if_false,dh,he,rT];refine⟨hf,hf,?_⟩;have i0:∀ (a b c e:D) (μ:Mem) (Q:QD),d7 (.tup [a,b,c,e]) (.int 0) μ Q=Q a μ:=fun a b c e μ Q=>rfl;simp only[i0,gc,t2,rT,dB,if_false];have sl:∀ (a b c e:D) (μ:Mem) (Q:QD),Kc false (.tup [a,b,c,e]) (some 1) none μ Q=Q (.tup [b,c,e]) μ:=fun a b c e μ Q=>rfl;rw[sl];have sq:∀ (b c e:Int) (μ:Mem) (Q:QI),kZ (.tup [.int b,.int c,.int e]) μ Q=Q ([b,c,e].map D.int) (fun _=>True) μ:=fun b c e μ Q=>rfl;rw[sq];refine d8 D.int (fun _=>false) (fun x=>D.int x) trivial _ _ ?_ ?_
 .intro x _ Y N z
  simp only[bindC,wTs,wT,wE,wEs,aG,aJ,lV];simpa[iu,truth,gZ]using z
 .rw[List.filter_eq_nil_iff.mpr (by simp)]
  simp only[bh,uP];have hn:kO (.lst []) (.lst [])=true:=rfl;refine⟨by decide,rfl,rfl,?_⟩;rw[hn];simp only[gZ,rT,dB,if_false,aG,aJ,i0,isCell,gc,true_and,dU,bY,aU];have sl2:(GC r).length=r.length:=(uq r).length_eq;refine⟨by simp only[lim];omega,?_⟩;refine⟨r,m,d,rfl,hr,m1,m2,h3,h6,ok,fun n' μ3 c3 lf3 P3 hc3 gc3=>?_⟩;cases kY.uniq lf3 lf;refine YZ gc3 sok ?_;simp only[gZ,dB,if_false];exact h _ _ ⟨_,_,_,_,_,_,_,_,rfl⟩
theorem amI {a b c e i:Int} (h0:0<=i) (h4:i<4) {μ:Mem} {Q:QD} (q:∀ x:Int,x=a∨x=b∨x=c∨x=e->Q (.int x) μ):d7 (.lst [.int a,.int b,.int c,.int e]) (.int i) μ Q:=by
 have:i=0∨i=1∨i=2∨i=3:=by omega
 rcases this with rfl|rfl|rfl|rfl
 .exact q _ (by simp)
 .exact q _ (by simp)
 .exact q _ (by simp)
 .exact q _ (by simp)
theorem amJ {a b i:Int} (h0:0<=i) (h4:i<2) {μ:Mem} {Q:QD} (q:∀ x:Int,x=a∨x=b->Q (.int x) μ):d7 (.lst [.int a,.int b]) (.int i) μ Q:=by
 have:i=0∨i=1:=by omega
 rcases this with rfl|rfl
 .exact q _ (by simp)
 .exact q _ (by simp)
theorem alc:Keeps Yo YG K7:=by
 rintro ds μ Q ⟨ns,rfl,hl,h⟩;have hlo:(ns.length:Int)<=63:=by omega
 have tl:=fun(Z:dO) μ (k:D) (nb m d:Nat) (r:List Itm) (a6 a7 a8:Option D) a b c e f g h=>akI (Z:=Z) (μ:=μ) (ns:=ns) (k:=k) (nb:=nb) (m:=m) (d:=d) (r:=r) (a6:=a6) (a7:=a7) (a8:=a8) a b c e f g h;simp only[YG];generalize tlE=G at tl;simp only[Yo,aF,cC,wSs,wS,wE,wEs,wI,newL,kZ,bM,lenOf,au,qC,jf,aW,bh,aY,bB,bG,aZ,aG,aU,dz];refine⟨?_,?_,?_⟩
 .simp only[lim];split<;>split<;>omega
 .split<;>split<;>omega
 refine bK (fun ds ρ μ'=>(∀ d∈ds,∃ i:Int,d= .int i/\0<=i)/\∃ a b c d e f g i,ρ=[some (.ro (ns.map D.int)),a,b,c,d,e,f,g,i]) ?_ ?_ _ _ _ ⟨?_,none,none,none,none,none,none,none,none,rfl⟩
 .rintro d ds ρ μ1 N hN ⟨hd,a1,a2,a3,a4,a5,a6,a7,a8,rfl⟩
  obtain⟨k,rfl,k0⟩:=hd d (by simp);have nx:∀ ρ μ,(∃ a b c d e f g i,ρ=[some (.ro (ns.map D.int)),a,b,c,d,e,f,g,i])->N ρ μ:=fun ρ μ q=>hN ρ μ ⟨fun d hd'=>hd d (by simp[hd']),q⟩;refine⟨trivial,?_⟩;simp only[dg,bC,bD,aG,aJ];refine⟨ns,rfl,by omega,k0,fun b0=>?_⟩;simp only[wT,wE,wEs,bC,bD,aG,aJ];refine⟨by decide,Dr,by decide,by decide,fun i b i0 i4=>?_⟩;refine amI i0 i4 fun x hx=>?_;refine⟨jw Dr,by omega,by omega,fun r b1 rl rok=>?_⟩;have hb1:=jw (b:=b1) (jw (b:=b) (Dr (μ:=μ1) (b:=b0)));refine⟨by decide,hb1,by decide,by decide,fun j b2 j0 j2=>?_⟩;refine amJ j0 j2 fun y hy=>?_;refine⟨jw hb1,by omega,by omega,fun z b3 z0 z6=>?_⟩;simp only[lq,bC,bD,aG,aJ];refine⟨jw (jw hb1),by decide,by decide,fun w b4 w0 w4=>?_⟩;simp only[lq,bC,bD,aG,aJ];have e1:1+z=(((1+z).toNat:Nat):Int):=by omega
  have e2:3+w=(((3+w).toNat:Nat):Int):=by omega
  rw[e1,e2];exact tl _ _ _ _ _ _ _ _ _ _ (by omega) (by omega) (by omega) (by omega) (by omega) rok nx
 .rintro ρ μ1 ⟨-,a,b,c,d,e,f,g,i,rfl⟩
  exact⟨trivial,h _⟩
 .intro d hd
  obtain⟨i,_,rfl⟩:=jG.mp hd;exact⟨_,rfl,by omega⟩
end DW.K71
namespace DW.K71
open L2 (inClass eZ gB bZ aK Xw)
open PySem DW DW.KQ DW.Mq DW.POU DW.HOU DW.K62 DW.J9 DW.K25 DW.CHO DW.PHA DW.Q0
set_option hygiene false in
local macro_rules | `(tactic| trivial) => `(tactic| first | exact ⟨rfl, rfl, rfl, by decide +kernel, rfl, by decide +kernel, by decide +kernel⟩ | (intro _ _ _ _ _ _; first | exact len1 fun _ => rfl | exact len2 fun _ _ => rfl | exact ajB fun _ _ _ => rfl | exact ak7 fun _ _ _ _ => rfl | exact amC fun _ _ _ _ _ => rfl) | (intro _ _ _ h; (repeat' (refine Or.elim h ?_ ?_ <;> intro h)) <;> first | (obtain ⟨_, rfl, _⟩ := h; rfl) | (obtain ⟨_, _, rfl, _⟩ := h; rfl) | (obtain ⟨_, _, _, rfl, _⟩ := h; rfl) | (obtain ⟨_, _, _, _, rfl, _⟩ := h; rfl) | (obtain ⟨_, _, _, _, _, rfl, _⟩ := h; rfl) | (obtain ⟨_, _, _, _, _, _, rfl, _⟩ := h; rfl) | (obtain ⟨_, _, _, _, _, _, _, rfl, _⟩ := h; rfl) | (obtain ⟨_, _, _, _, _, _, _, _, rfl, _⟩ := h; rfl) | (obtain ⟨_, _, _, _, _, _, _, _, _, rfl, _⟩ := h; rfl) | (obtain ⟨_, _, _, _, _, _, _, _, _, _, rfl, _⟩ := h; rfl) | (obtain ⟨_, _, _, _, _, _, _, _, _, _, _, rfl, _⟩ := h; rfl) | (obtain ⟨_, _, _, _, _, _, _, _, _, _, _, _, rfl, _⟩ := h; rfl) | (obtain ⟨_, _, _, _, _, _, _, _, _, _, _, _, _, rfl, _⟩ := h; rfl) | (obtain ⟨_, _, _, _, _, _, _, _, _, _, _, _, _, _, rfl, _⟩ := h; rfl)) | (intro _ _ _ _ h; (repeat' (refine Or.elim h ?_ ?_ <;> intro h)) <;> first | (obtain ⟨_, rfl, _⟩ := h; rfl) | (obtain ⟨_, _, rfl, _⟩ := h; rfl) | (obtain ⟨_, _, _, rfl, _⟩ := h; rfl) | (obtain ⟨_, _, _, _, rfl, _⟩ := h; rfl) | (obtain ⟨_, _, _, _, _, rfl, _⟩ := h; rfl) | (obtain ⟨_, _, _, _, _, _, rfl, _⟩ := h; rfl) | (obtain ⟨_, _, _, _, _, _, _, rfl, _⟩ := h; rfl) | (obtain ⟨_, _, _, _, _, _, _, _, rfl, _⟩ := h; rfl) | (obtain ⟨_, _, _, _, _, _, _, _, _, rfl, _⟩ := h; rfl) | (obtain ⟨_, _, _, _, _, _, _, _, _, _, rfl, _⟩ := h; rfl) | (obtain ⟨_, _, _, _, _, _, _, _, _, _, _, rfl, _⟩ := h; rfl) | (obtain ⟨_, _, _, _, _, _, _, _, _, _, _, _, rfl, _⟩ := h; rfl) | (obtain ⟨_, _, _, _, _, _, _, _, _, _, _, _, _, rfl, _⟩ := h; rfl) | (obtain ⟨_, _, _, _, _, _, _, _, _, _, _, _, _, _, rfl, _⟩ := h; rfl)) | ((repeat' first | exact rP | refine Nq ?_ ?_ | assumption | exact rfl | exact fun z => absurd z (by decide) | exact rE.up (by assumption) (by decide) | exact ajZ (by assumption) (by assumption) | exact dX.calm (rE.up (by assumption) (by decide)) | exact dX.anO (rE.up (by assumption) (by decide)) | exact dX.anP (rE.up (by assumption) (by decide)) | exact rE.mild (by assumption) | exact dX.other (by assumption) (by assumption) (by assumption) (rE.up (by assumption) (by decide)) | exact aoJ.at (by assumption) (by assumption) (by assumption) | exact aoK.at (by assumption) (by assumption) (by assumption) | exact aoI.at (by assumption) (by assumption) (by assumption)); done))
def top (i:Nat):Stmt:=PySem.Challenge.pw_pourwright_k71_sorted_on_drives.main.body.getD i (.Pass ⟨0,0,0,0⟩)
def iM:List Str:=["isinstance","int","bool","range","len","min","list","reversed","enumerate","tuple","set","sum","max","zip","divmod"]
theorem Tv:∀ ds μ Q,cY ds μ Q->ds.length=(["thing"]:List Str).length:=by intro ds μ Q h;unfold cY at h;split at h<;>first|rfl|exact h.elim
theorem ahA:∀ ds μ Q,vN ds μ Q->ds.length=(["script","k"]:List Str).length:=by intro ds μ Q h;unfold vN at h;split at h<;>first|rfl|exact h.elim
theorem afB:∀ ds μ Q,cR ds μ Q->ds.length=(["box","many"]:List Str).length:=by intro ds μ Q h;unfold cR at h;split at h<;>first|rfl|exact h.elim
theorem aaw:∀ ds μ Q,lV ds μ Q->ds.length=(["thing"]:List Str).length:=by intro ds μ Q h;unfold lV at h;split at h<;>first|rfl|exact h.elim
theorem Tw:∀ ds μ Q,cQ ds μ Q->ds.length=(["thing","many"]:List Str).length:=by intro ds μ Q h;unfold cQ at h;split at h<;>first|rfl|exact h.elim
theorem ahz:∀ ds μ Q,vM ds μ Q->ds.length=(["box","most"]:List Str).length:=by intro ds μ Q h;unfold vM at h;split at h<;>first|rfl|exact h.elim
noncomputable abbrev gj:Stmt:=inClass (top 28) 8
def o8:List Str:=["self","start","behind"]
theorem wj:eZ gw o8 (aK gj):=⟨rfl,rfl,rfl,by decide+kernel,rfl,by decide+kernel,by decide+kernel⟩
theorem yX:∀ d,Fl (Ctx.of gw (aK gj).names iM) (gA d) (bZ gj)=true:=by intro d;kernel_rfl
theorem wG:∀ d ds μ Q,cA d ds μ Q->ds.length=o8.length:=by intro d ds μ Q h;unfold cA at h;obtain⟨_,_,_,_,_,_,_,_,rfl,_⟩:=h;rfl
noncomputable abbrev Rr:Stmt:=top 64
def aeh:List Str:=["script"]
theorem aix:eZ Yo aeh (aK Rr):=⟨rfl,rfl,rfl,by decide+kernel,rfl,by decide+kernel,by decide+kernel⟩
theorem ak6:Fl (Ctx.of Yo (aK Rr).names iM) YG (bZ Rr)=true:=by decide+kernel
theorem ake:∀ ds μ Q,K7 ds μ Q->ds.length=aeh.length:=by intro ds μ Q h;unfold K7 at h;obtain⟨_,rfl,_⟩:=h;rfl
theorem zA {T:Top} {h:Heap} (Y:T.K.In h/\h.Ns bT T.mg/\∀ y,iM.contains y=true->T.mg y=none) (k:Nat) (ps:List Str) {x:Str} {st:Stmt} {N:List Str} {i:Ss} {sp:dZ} (D:cP T.K x st) (hk:Keeps N i sp) (har:∀ ds μ Q,sp ds μ Q->ds.length=ps.length:=by trivial) (S:eZ N ps (aK st):=by trivial) (hmt:Fl (Ctx.of N (aK st).names iM) i (bZ st)=true:=by decide+kernel) (hbd:∀ (kV doc pm:Value) (an:Option Addr) (cdv ct:Value) (us:List Value),us.length=ps.length->uL (jH x x (gB st) (bZ st) (aK st) .none kV doc pm an cdv ct) ⟨us,[]⟩=pure (ps.zip us):=by trivial) (ok:lZ (dX T k) (jo T) i:=by trivial):dX T (k+1) (.fn x) sp:=alx D Y.1 Y.2.1 S hmt Y.2.2 hbd har hk ok
theorem zK {T:Top} {h:Heap} (Y:T.K.In h/\h.Ns bT T.mg/\∀ y,iM.contains y=true->T.mg y=none) (k:Nat) (ps:List Str) {c:String} {q:Str} {st:Stmt} {N:List Str} {i:Ss} {sp:dZ} (D:eY T.K c "__init__" q st) (Cl:ClsAt T.K c) (hk:Keeps N i sp) (har:∀ ds μ Q,sp ds μ Q->ds.length=ps.length:=by trivial) (S:eZ N ps (aK st):=by trivial) (hmt:Fl (Ctx.of N (aK st).names iM) i (bZ st)=true:=by decide+kernel) (hbd:∀ (kV doc pm:Value) (an:Option Addr) (cdv ct:Value) (us:List Value),us.length=ps.length->uL (jH (aC "__init__") q (gB st) (bZ st) (aK st) .none kV doc pm an cdv ct) ⟨us,[]⟩=pure (ps.zip us):=by trivial) (ok:lZ (dX T k) (jo T) i:=by trivial):dX T (k+2) (.mk c) sp:=ak4 Y.1 Y.2.1 D Cl S hmt Y.2.2 hbd har hk ok
theorem zM {T:Top} {h:Heap} (Y:T.K.In h/\h.Ns bT T.mg/\∀ y,iM.contains y=true->T.mg y=none) (k:Nat) (ps:List Str) {c m:String} {q:Str} {st:Stmt} {N:List Str} {i:Ss} {sp:dZ} (D:eY T.K c m q st) (Cl:ClsAt T.K c) (hk:Keeps N i sp) (har:∀ ds μ Q,sp ds μ Q->ds.length=ps.length:=by trivial) (S:eZ N ps (aK st):=by trivial) (hmt:Fl (Ctx.of N (aK st).names iM) i (bZ st)=true:=by decide+kernel) (hbd:∀ (kV doc pm:Value) (an:Option Addr) (cdv ct:Value) (us:List Value),us.length=ps.length->uL (jH (aC m) q (gB st) (bZ st) (aK st) .none kV doc pm an cdv ct) ⟨us,[]⟩=pure (ps.zip us):=by trivial) (ok:lZ (dX T k) (jo T) i:=by trivial):dX T (k+1) (.pA c m) sp:=Wt D Cl S hmt Y.2.2 hbd har hk ok
set_option maxHeartbeats 0 in
theorem ajE {T:Top} {h:Heap} {f:Addr} {fd:fG} {Ec:Tok} {um:Tok} {wK:Tok} {K:cW} (eK:T.K=K) (X:T.K.In h) (G:h.Ns bT T.mg) (fr:J5 K iM) (mX:cZ K bT "MOST_ROOM"=some (some (.int 50 Ec))) (iK:cZ K bT "LEAST_DRIVES"=some (some (.int 3 um))) (jy:cZ K bT "MOST_DRIVES"=some (some (.int 6 wK))) (rA:ClsAt K "Chooser") (iY:ClsAt K "Contest") (nZ:ClsAt K "House") (ae9:J4 K "Chooser" "room") (afb:J4 K "Chooser" "kept") (afa:J4 K "Chooser" "last") (aaC:J4 K "Contest" "heads") (YW:J4 K "Contest" "winners") (aaj:J4 K "Contest" "played") (ahb:J4 K "House" "laid") (ae8:J4 K "House" "poured") (aaB:J4 K "House" "history") (Bu:Gf K "pour_pours" "pour") (Xf:cP K "is_whole" (top 11)) (aj6:cP K "less" (top 12)) (Tj:cP K "runs_told" (top 24)) (ahh:cP K "midst" (top 26)) (Dz:eY K "Contest" "winner" "Contest.winner" (inClass (top 28) 10)) (aap:cP K "head_of" (top 31)) (KD:eY K "House" "lying" "House.lying" (inClass (top 35) 4)) (wD:eY K "House" "moved_items" "House.moved_items" (inClass (top 35) 5)) (tB:eY K "House" "check_not_bare" "House.check_not_bare" (inClass (top 35) 9)) (Qt:cP K "next_level" (top 40)) (aj8:cP K "_law_box" (top 52)) (ahj:cP K "_law_take" (top 53)) (ahk:cP K "_law_less" (top 56)) (afn:cP K "_law_whole" (top 59)) (afo:cP K "_law_level" (top 60)) (ahg:cP K "rises" (top 13)) (Xh:cP K "is_below" (top 18)) (Qu:cP K "check_room" (top 19)) (JG:cP K "check_drives" (top 20)) (DK:eY K "Chooser" "may_go" "Chooser.may_go" (inClass (top 22) 4)) (Bm:cP K "stretches_above" (top 27)) (Fw:eY K "Contest" "first" "Contest.first" (inClass (top 28) 1)) (DG:eY K "Contest" "better" "Contest.better" (inClass (top 28) 11)) (ahl:cP K "_law_item" (top 54)) (aaq:cP K "_law_sorted" (top 57)) (KJ:cP K "_law_number_for" (top 61)) (Bp:eY K "Chooser" "let_out" "Chooser.let_out" (inClass (top 22) 3)) (ud:eY K "Contest" "check_place" "Contest.check_place" (inClass (top 28) 7)) (JH:eY K "Contest" "play" "Contest.play" (inClass (top 28) 9)) (JF:cP K "check_rising" (top 30)) (wF:eY K "House" "check_drive" "House.check_drive" (inClass (top 35) 7)) (KC:cP K "are_sources" (top 37)) (ahi:cP K "level" (top 41)) (aj7:cP K "_law_row" (top 55)) (aar:cP K "_law_chosen" (top 58)) (afp:cP K "_law_dealt" (top 62)) (JM:eY K "Chooser" "__init__" "Chooser.__init__" (inClass (top 22) 0)) (JN:eY K "Chooser" "give" "Chooser.give" (inClass (top 22) 1)) (DN:eY K "Chooser" "finish" "Chooser.finish" (inClass (top 22) 2)) (JL:eY K "Contest" "head" "Contest.head" (inClass (top 28) 2)) (KH:eY K "Contest" "put" "Contest.put" (inClass (top 28) 3)) (Qx:eY K "House" "__init__" "House.__init__" (inClass (top 35) 0)) (Tp:eY K "House" "lay" "House.lay" (inClass (top 35) 1)) (Qv:eY K "House" "runs" "House.runs" (inClass (top 35) 3)) (uc:eY K "House" "check_sources" "House.check_sources" (inClass (top 35) 8)) (Xg:cP K "is_phase" (top 38)) (Tn:cP K "level_for" (top 42)) (Qy:cP K "_law_sorted_on" (top 63)) (afm:cP K "chosen" (top 23)) (aly:cP K "led" (top 39)) (Bo:cP K "drives_in_order" (top 44)) (Xc:cP K "only_run" (top 49)) (Kz:cP K "phases_from" (top 43)) (afl:cP K "spread" (top 45)) (Xe:cP K "lay_runs" (top 47)) (zm:eY K "Contest" "play_all" "Contest.play_all" gj) (JK:eY K "Contest" "__init__" "Contest.__init__" (inClass (top 28) 0)) (aj5:cP K "pour" (top 32)) (Qw:eY K "House" "pour" "House.pour" (inClass (top 35) 2)) (Xi:cP K "do_phase" (top 48)) (aao:cP K "sort_on" (top 50)) (F:Xw K "law" "law" Rr f fd):mY T 33 f fd aeh (upX K7):=by
 subst eK;have hb:=YQ X G fr;have Y:=Nq X (Nq G hb);have ahV:jo T "MOST_ROOM" (.int 50):=Qm (uO X G mX);have ae2:jo T "LEAST_DRIVES" (.int 3):=Qm (uO X G iK);have afM:jo T "MOST_DRIVES" (.int 6):=Qm (uO X G jy);have:=zA Y 0 ["thing"] Xf WQ Tv;have:=zA Y 0 ["one","other"] aj6 ajM;have:=zA Y 0 ["told"] Tj R5;have afZ:=zA Y 0 ["start","behind"] ahh ag0;have:=zM Y 0 ["self","start","behind"] Dz iY Dk;have:=zA Y 0 ["run","taken"] aap Z6;have:=zM Y 0 ["self"] KD nZ Kr;have:=zM Y 0 ["self"] wD nZ wz;have:=zM Y 0 ["self","sources"] tB nZ sY;have:=zA Y 0 ["layout"] Qt PJ;have:=zA Y 0 ["script","k"] aj8 ajN ahA;have:=zA Y 0 ["box","many"] ahj ag2 afB;have:=zA Y 0 ["one","other"] ahk Qe;have:=zA Y 0 ["thing"] afn R8 aaw;have:=zA Y 0 ["drives","number"] afo aeQ;have:=zA Y 1 ["row"] ahg PB;have:=zA Y 1 ["thing","many"] Xh WW Tw;have:=zA Y 1 ["thing"] Qu PK;have:=zA Y 1 ["thing"] JG I7;have:=zM Y 1 ["self","item"] DK rA Dn;have:=zA Y 1 ["place","many"] Bm Ak;have:=zM Y 1 ["self"] Fw iY Fp;have:=zM Y 1 ["self","left","right"] DG iY Dm;have:=zA Y 1 ["box"] ahl Qf;have:=zA Y 1 ["row"] aaq qX;have:=zA Y 1 ["drives","many"] KJ Ku;have:=zM Y 2 ["self"] Bp rA Am;have:=zM Y 2 ["self","thing"] ud iY tY;have Gq:=zM Y 2 ["self","start","behind"] JH iY I8;have:=zA Y 2 ["runs"] JF I6;have:=zM Y 2 ["self","thing"] wF nZ wA;have:=zA Y 2 ["thing","layout","times"] KC Kq;have:=zA Y 2 ["drives","number"] ahi ag1;have:=zA Y 2 ["box","most"] aj7 WY ahz;have:=zA Y 2 ["row","room"] aar Dq;have:=zA Y 2 ["drives","many"] afp aeR;have:=zK Y 2 ["self","room"] JM rA Jb;have:=zM Y 3 ["self","item"] JN rA Jc;have:=zM Y 3 ["self"] DN rA Dp;have:=zM Y 3 ["self","place"] JL iY Ja;have:=zM Y 3 ["self","place","head"] KH iY Ks;have:=zK Y 2 ["self","drives"] Qx nZ PX;have:=zM Y 3 ["self","drive","run"] Tp nZ R7;have:=zM Y 3 ["self","drive"] Qv nZ PL;have:=zM Y 3 ["self","thing"] uc nZ tX;have:=zA Y 3 ["thing","layout"] Xg WR;have:=zA Y 3 ["drives","many"] Tn R6;have:=zA Y 3 ["row","room","drives"] Qy Qc;have:=zA Y 4 ["row","room"] afm aeO;have:=zA Y 4 ["layout","phase"] aly alb;have:=zA Y 4 ["drives","many"] Bo Al;have:=zA Y 4 ["house"] Xc WL;have:=zA Y 5 ["layout"] Kz Ko;have:=zA Y 5 ["drives","many"] afl aeN;have:=zA Y 6 ["house","drives","runs"] Xe WM;have yV:∀ d j,3<=j->dX T j (.pA "Contest" "play_all") (spP cA d)->lZ (dX T j) (jo T) (gA d):=by intro d j hj zz;have Kd:=afZ.up (show 1<=j by omega);have Bw:=Gq.up (show 3<=j by omega);trivial
 have Ue:=Yq zm iY wj yX hb (fun _ _ _ _ _ _=>ajB fun _ _ _=>rfl) wG yZ yV 6;have:=zK Y 10 ["self","heads"] JK iY I9;have:=zA Y 12 ["runs"] aj5 ajL;have:=zM Y 13 ["self","sources","target"] Qw nZ PN;have:=zA Y 14 ["house","phase"] Xi WX;have:=zA Y 15 ["row","room","drives"] aao Z5;have o_law:lZ (dX T 16) (jo T) YG:=by trivial
 exact Qo F aix ak6 hb o_law ake alc
end DW.K71
set_option hygiene false in
local macro_rules | `(tactic| decreasing_trivial) => `(tactic| first | (dsimp only [L2.KOf]; refine' DW.afk ?a ?l ?c ?k; (case a => k_is); (case l => k_is); (case c => k_is); (case k => k_is)) | (dsimp only [L2.KOf]; refine' DW.aes ?a ?b ?i ?l ?c ?k; (case a => k_is); (case b => k_is); (case i => k_is); (case l => k_is); (case c => k_is); (case k => k_is)) | (dsimp only [L2.KOf]; refine' DW.agN ?a ?b; (case a => k_is); (case b => k_is)) | (dsimp only [L2.KOf]; refine' DW.afs ?a ?b ?c ?d ?e ?f ?g; (case a => k_is); (case b => k_is); (case c => k_is); (case d => k_is); (case e => k_is); (case f => k_is); (case g => k_is)))
open PySem PySem.W PyProof.Rows
set_option maxRecDepth 100000 in
set_option maxHeartbeats 0 in
theorem PySem.Challenge.cw_pourwright_k71_sorted_on_drives_holds : PySem.Challenge.rw_pourwright_k71_sorted_on_drives.Holds := by
 w_on;o_law;k_head;(case hw=>w_witness2)
 k_fill
 refine DW.aeI (l:=PySem.Challenge.rw_pourwright_k71_sorted_on_drives) (k:=33) ?I rfl (by decide) rfl (fun w h Y=>by first|exact PySem.W.kIn_of Y|exact PySem.W.km_in_of Y) ?F;case I=>kernel_rfl
 case F=>
  intro w mg fa h KX G hmg;have alz:DW.cP (L2.KOf KX) "law" DW.K71.Rr:=by decreasing_trivial
  have Bu:DW.Gf (L2.KOf KX) "pour_pours" "pour":=by
   dsimp only[L2.KOf];refine' DW.Xp ?a ?b
   (case a=>k_is);(case b=>k_is)
  have fr:DW.J5 (L2.KOf KX) DW.K71.iM:=by
   dsimp only[L2.KOf,DW.K71.iM,DW.J5];refine' ⟨?z0,?z1,?z2,?z3,?z4,?z5,?z6,?z7,?z8,?z9,?z10,?z11,?z12,?z13,?z14,trivial⟩
   (case z0=>k_is)
   (case z1=>k_is)
   (case z2=>k_is)
   (case z3=>k_is)
   (case z4=>k_is)
   (case z5=>k_is)
   (case z6=>k_is)
   (case z7=>k_is)
   (case z8=>k_is)
   (case z9=>k_is)
   (case z10=>k_is)
   (case z11=>k_is)
   (case z12=>k_is)
   (case z13=>k_is)
   (case z14=>k_is)
  have mX:∃ t,cZ (L2.KOf KX) bT "MOST_ROOM"=some (some (.int 50 t)):=by
   dsimp only[L2.KOf];refine' DW.Jj ?z
   (case z=>k_is)
  obtain⟨Ec,mX⟩:=mX;have iK:∃ t,cZ (L2.KOf KX) bT "LEAST_DRIVES"=some (some (.int 3 t)):=by
   dsimp only[L2.KOf];refine' DW.Jj ?z
   (case z=>k_is)
  obtain⟨um,iK⟩:=iK;have jy:∃ t,cZ (L2.KOf KX) bT "MOST_DRIVES"=some (some (.int 6 t)):=by
   dsimp only[L2.KOf];refine' DW.Jj ?z
   (case z=>k_is)
  obtain⟨wK,jy⟩:=jy;obtain⟨f,fd,e1,F⟩:=alz;have e2:=hmg.symm.trans (uO KX G e1);cases e2;refine⟨fd,?_,fun base _ _=>by refine DW.K71.ajE (T:=⟨_,w,L2.KOf KX,mg,base⟩) (K:=L2.KOf KX) rfl KX G fr mX iK jy ?_ ?_ ?_ ?_ ?_ ?_ ?_ ?_ ?_ ?_ ?_ ?_ Bu ?_ ?_ ?_ ?_ ?_ ?_ ?_ ?_ ?_ ?_ ?_ ?_ ?_ ?_ ?_ ?_ ?_ ?_ ?_ ?_ ?_ ?_ ?_ ?_ ?_ ?_ ?_ ?_ ?_ ?_ ?_ ?_ ?_ ?_ ?_ ?_ ?_ ?_ ?_ ?_ ?_ ?_ ?_ ?_ ?_ ?_ ?_ ?_ ?_ ?_ ?_ ?_ ?_ ?_ ?_ ?_ ?_ ?_ ?_ ?_ ?_ F<;>decreasing_trivial⟩;obtain⟨oc,od,kV,doc,pm,an,cdv,ct,osl,rfl,lk,hcd⟩:=F.ex;exact fun s u=>.of_eq rfl
#print axioms PySem.Challenge.cw_pourwright_k71_sorted_on_drives_holds
