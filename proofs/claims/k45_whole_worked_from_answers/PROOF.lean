import PyProof.Rows.All
import Wide.All
import OpenK.AllK
import Wide.FinOn
import Lean
import PyProof.EqAt
import PyProof.EqKinds
import PyProof.TupleCall
import PySem.Challenge.RW_thingyard_k45_whole_worked_from_answers
set_option Elab.async false
set_option linter.all false
set_option maxRecDepth 100000
set_option compiler.extract_closed false
open PySem renaming Value->zD,Addr->zE,Shared->zI,model->zN,wpAny_bind->zQ,Expr->ze,sizeLine->zf,Heap->zp,eval->z0,World->jC,Program->jD,Stmt->jT,mainGlobals->jV,starEach->jY,compareOp->jZ,Around->jj,bootBuiltins->yB,wpAny_with_toks->yG,backTo->yR,binaryOp->yW,sysModules->Zs,sizeLine_eq->Zx,rule->Zy,Scope->Z3,compEnvC->QO,swapsWith->Qc,PyData->Qk,cLine->Qt,assign->Qu,rawInt->Qx,FuncData->Q5,wpAny_newObj_type->JK,attributeBase->JM,wpAny_holding->JO,foldedSetIterable->Jh,behindInMarks->Jn,atKey->Jq,sliceBounds->Jv,valueAt->Jw,wpAny_truthy_bool->Jz,Model->J3,NameKind->J6,pyNext->J7,call_meets->J9,wpAny_field->xS,wpAny_rule->xc,IsPart->xn,typeIs_str->xo,wpAny_ite_split->kB,typeLookup_type->kC,wpAny_passesOwn->kI,callerA->kO,builtinLookup_eq_fast->kS,cellsFrom->XQ,keywordEach->Xc,pyIter->X3,BindsTo->KZ,backToKw->Kl,getItem->K7,getMethod->vG,wpAny_of_eq->vN,setItem->vX,wpAny_specialOf->vm,PassesOwn->vp,post_val_or_str->VP,isSubtype_type->VY,wpAny_getItem_str_slice->Vd,wpAny_typeOf->Vq,strValues->Vt,wpAny_pyIter_list->Vw,Result->V0,wpAny_call_entry->YM,tupleKind->YR,typeLookup->YS,argBest->YY,codeAny_mono->Yq,sliceRange->Y2,spliced->uJ,bindArgs->uQ,slicePick->uS,lastMarks->UA,wpAny_attempt->UN,plainId_quiet->UR,InCallC->Ul,evalPart_none->wY,codeAny_builtin->we,tupleKind_room_in1->wq,PlainAttrs->wt,wpAny_Call_Name_kw->wy,Keyword->w6,builtinsNs->Wm,wpAny_setField_rec->Wr,seqIndex_of->Wt,assignEach->Wx,wpAny_callSpecial?_slot->Wy,wpAny_call->aQ,wpAny_Name->AE,inplaceOp->Ai,swappedStores->ba,letOwnedTupleGo->BG,newFunctionEnv->BK,wpAny_Slice->BP,wpAny_isInstance->Bn,seqIndex?->ck,seqIndex_neg->cy,wpAny_standAt->CI,wpAny_Call_method_late->Cn,evalPart_some->Cu,swapsWithSole->dJ,wpAny_getItem_list_slice->EE,codeAny_toks_of->EW,wpAny_comprehension_free->fC,wpAny_tryCatch->Fh,entryFor_of_tree->F0,firstArgMember->gJ,noFill_tuple_add->GV,getattributeRaised->Gc,wpAny_storeName_local->Ge,wpAny_isTrue_Compare1->iH,wpAny_assign_Name->IE,wpAny_execs_cons->mq,recursionLimit->mw
open PyProof.Rows renaming Keyed->zK,arrOf->zM,SortSt->zV,wpS_bind->zZ,pendingOf->jW,oneType'->qj,elem'->yF,wpS_mono->yf,wpS_forRange->yu,envOfC->ZD,seqObj->Zu,wpS_get->QX,failedOf->Q4,wpS_modify->Jo,AllBare->Jt,IsTup->xI,pairsOf->x6,wpS_lift->kv,tail_any->vS,IntsAre->vi,callWith_type1->Va,KK_congr->Yg,StrsAre->Yh,sortedS->Y0,Subscript_->UB,reverseSlice'->UI,subscriptTail->Ui,minRun'->wI,setPending->wZ,wpS_reverse->wa,pairsOf_size->Wc,seqEpoch_at->bf,SortedToK->BV,listUpdate_at->cS,KK_mirror_equal->dE,slot_tuple_getitem->D7,subscriptTail_builtinR->gQ,slicePart_none->Ij,getItem_tuple->MY,callWith_builtin1->Mf
open Nat renaming le_refl->zg,ne_of_lt->jX,le_trans->jr,lt_of_lt_of_le->qW,zero_add->yU,succ_pos->ZM,zero_le->ZR,lt_irrefl->QF,le_succ_of_le->JH,ne_of_gt->Jy,lt_succ_self->J8,le_of_eq->XU,lt_trans->Kt,le_succ->Ky,lt_succ_of_lt->vy,add_assoc->VF,add_sub_cancel->uD,le_of_lt->UJ,toDigitsCore->Cd,add_sub_cancel_left->Cj,add_zero->dA,min_eq_left->di,sub_self->GO,lt_or_ge->HC,mul_le_mul_left->lE,reduceAdd->lS
open List renaming length_cons->jE,length_map->jH,replicate->jK,map_cons->jN,getElem?_cons_zero->jP,prefix_refl->jc,mem_cons_of_mem->je,getElem?_cons_succ->jg,length_append->jv,size_toArray->jw,range->j8,mem_cons_self->qJ,getD_eq_getElem?_getD->qP,getElem?_map->qX,getElem?_set_ne->qb,append_nil->qw,append_assoc->qy,length_nil->qz,lookup_cons->yA,getElem?_eq_getElem->yS,mem_of_getElem?->yZ,getElem?_append_left->yc,length_set->yk,map_map->yo,length_take->yz,getElem?_set_self->ZI,set_cons_zero->ZV,map_id->Zb,set_cons_succ->Ze,getElem?_append_right->Zh,mem_append_right->Zp,map_congr_left->Zv,foldl_cons->Z7,length_drop->Qa,any_cons->Qo,prefix_append->Qy,map_append->JC,lookup->JD,all_cons->JF,replicate_succ->JP,drop_zero->JU,flatten_cons->Jf,getElem?_eq_none->xA,map_nil->xf,nodup_nil->xw,drop_eq_getElem_cons->kQ,take_of_length_le->kq,length_reverse->k6,map_reverse->XF,nil_append->XG,extract_eq_take_drop->XM,nodup_append->KC,find?_cons->KE,length_singleton->KH,set_append_right->KR,getElem?_replicate->KS,nodup_cons->Kq,getElem?_range->vt,filterMap_cons->Vf,cons_append->Vv,reverse_cons->YU,length_range->Yo,pairwise_cons->uB,mem_append_left->uP,mem_of_mem_drop->ud,take_succ->uj,reverse_perm->US,reverse_reverse->UV,getElem_mem->wU,foldl->wo,take_length->WL,all_map->We,take_append_drop->ae,contains_eq_mem->AR,mem_cons->AU,mem_map_of_mem->Ak,all_eq_true->Ao,nodup_range->Av,length_replicate->Ax,mem_reverse->bW,foldl_append->bq,filterMap_map->BW,ext_getElem?->Ba,sum_cons->B9,getElem_range->CV,mem_of_mem_take->Cy,drop_of_length_le->dP,length_filter_le->dZ,of_mem_zip->dd,getElem?_concat_length->DC,findIdx?_eq_none_iff->Df,findIdx?_cons->Dr,getElem_inj->D9,foldl_nil->eN,any_eq_false->eV,getElem?_take_of_lt->fE,set_set->fI,take_sublist->fj,dropLast_eq_take->Fj,length_flatten->F8,set_append_left->gM,mem_erase_of_ne->gP,map_take->gV,any_map->g0,range_succ->Gj,length_pos_of_mem->Gw,range_succ_eq_map->hE,ext_getElem->Hc,not_mem_nil->He,getElem?_drop->Hk,getElem?_toArray->ik,drop_one->ip,reverse_append->iw,contains_cons->IC,length_erase_of_mem->IJ,drop_length->IQ,sum_reverse->Ii,not_lt->lR,getElem?_reverse->Ld,take_succ_eq_append_getElem->L0
open False renaming elim->jJ
open PySem.Heap renaming lt_size->jQ,get?_push_of_some->jd,get?_push_size->qd,size_push->JR,SameBut->Jx,size_update->A4,get?_update_other->Fb,get?_push_ne->HX
open Array renaming length_toList->jy,toList_append->QJ,getElem?_toList->xq,size_extract->XB,toList_reverse->Vg,getElem_toList->Vl,toList_push->YI,toList_extract->Yr,toList->Ci,toList_setIfInBounds->Fd,size_map->lO,getElem_extract->mK
open Bool renaming and_eq_true->j7,false_eq_true->j9,false_ne_true->qM,not_true->ZW,not_eq_true'->Xy,true_and->vC,or_eq_true->Vh,false_xor->uq,true_xor->Uq,eq_iff_iff->wF,and_self->W3,not_eq_false'->bX,and_true->DN,not_false->Gr,false_and->HG,or_false->iM,not_eq_true->mN
open PySem.Value renaming ref->qF,type->Jb,bool->Jg,none->Xf,str->vF,int->Vb,float->bQ,isStrOf->LC,isInt->mC,bytes->mm
open Ne renaming symm->yK
open PyProof.Rows.KeyOrd renaming kle_trans->yX,kle_of_klt->QE,kle_refl->JJ,kle_antisymm->La
open Int renaming emod_nonneg->yv,emod_lt_of_pos->Za,toNat_natCast->Yb,ediv_one->cM,eq_ofNat_of_zero_le->Ir
open Or renaming inl->ZU,inr->x8
open PySem.SeqAt renaming shaped->Zl,EqAt->Fu,canLay_of_shaped->gI
open True renaming intro->QD
open Option.some renaming inj->Qm,injEq->HE
open PySem.Obj renaming mapSeq->Qr
open PySem.Txt renaming split->J0,join->kZ,slice->VH,mul->VL,replace->Yc,find->Wg,sliceBy->cY
open PySem.PyData renaming eqv->xH,depthAll->Uo,canLayAll0->dv,eqvAll->eI,depth->Gu,strOk->ig
open PySem.NameKind renaming free->xO,cell->Xe
open PySem.Builtin.Str renaming occurrences->xX,occurrences->Y1,partsBetween->Wn,strSliceIndices->l8,tooLong->MX,subAt->Mu
open ForInStep renaming yield->xx,done->VS
open Sum renaming inl->kg,inr->XE
open Option renaming map_some->XA,isSome_map->UQ,isSome_none->Ay,isSome_some->Du,getD_none->gj
open PySem.Str renaming ofString->KO,empty->Cs,join->Cw
open Function renaming comp->V5
open PySem.Calls renaming spliced_cons->Yl,callWith_builtin->Y9,spliced_nil->UK,Constant_str->Uw,evalArgs_plain->CJ,Name_function_global->Dt
open PySem.Around renaming under_plainId->ug,under->cE
open PySem.PassesOwn renaming never->UH
open PySem.Builtin.Tuple renaming tupleExact->Ur,tupleItemsOf->Mx
open PySem.Walks renaming list->Uu
open List.Pairwise renaming nil->Uy,imp_of_mem->MU
open PySem.Builtin.Slice renaming slicePlaces->U0,sliceAdjust->bL,sliceApplied->Fz,sliceFields->MN,slicePartIndex->Mc
open PySem.StrLaws renaming At->bw,join_split->D0,occ_head->fQ,split_free->lJ
open PyProof.Rows.IsTup renaming new->B1
open PySem.Builtin.List renaming listTooLong->B6,listSameRef->F3,listExtendWith->HU,listLengthHint->Lw,listFitsIndex->Mh
open PySem.Code renaming isFrame->cT,frames->fg
open PyProof.Rows.SortSt renaming mk'->Cv
open List.cons renaming inj->dB
open PySem.SeqAt.EqAt renaming int_str->DG,str_int->ep,int_none->MM,str_none->MR,int_int->MV,none_str->Ma,bool_bool->Mb,bool_str->Mi,same->Mn,none_int->Mo,bool_none->Mp,int_bool->Mq,str_str->Mr,str_bool->Mt,none_bool->Mv,bool_int->Mz
open PySem.Heap.IsRevIter renaming typeIs->DU
open Prod.mk renaming inj->ef
open Array.Perm renaming refl->En,trans->MQ
open PySem.CmpOp renaming In->fM,NotIn->Fv
open PySem.Builtin.Dict renaming updateFrom->fw,selfAndRest->Mg,addKeywords->Ml,pairItems->Mm
open PySem.Heap.IsSliceOf renaming new->FE
open Sum.inr renaming inj->gT
open Classical renaming propDecidable->gq
open PySem.Moved renaming eq_with->gr
open PySem.W.WShape renaming has->iL
open PySem.W.WData renaming int->II
open PySem.Heap.DictOf renaming new->m8
open PySem.Builtin.Range renaming rangeSize->MF
open PySem.Builtin.SmallTypes renaming newRecord->MK
noncomputable section
namespace L2
open PySem PySem.Spec PyProof.Rows
abbrev Key:=Sum Int Str
noncomputable def km:Key->zD->Bool
 | .inl k,v=>mC k v
 | .inr x,v=>LC x v
noncomputable def iX (w:jC):Key->Int
 | .inl k=>hashInt k
 | .inr x=>hashStr w x
theorem QK:∀ {k:Key}{v:zD},km k v=true->(∃ i t,k=kg i/\v=Vb i t)\/(∃ x t,k=XE x/\v=vF x t)
 | .inl i,v,h=>by
  obtain⟨t,e⟩:=Value.isInt_shape (k:=i) (v:=v) h;exact .inl ⟨i,t,rfl,e⟩
 | .inr x,v,h=>by
  obtain⟨t,e⟩:=Value.isStrOf_shape (x:=x) (v:=v) h;exact .inr ⟨x,t,rfl,e⟩
theorem lB (i:Int) (t:Tok):km (.inl i) (.int i t)=true:=by simp[km,mC]
theorem mE (x:Str) (t:Tok):km (.inr x) (.str x t)=true:=by simp[km,LC]
theorem MC (a b:Int):decide ((kg a:Key)=kg b)=(a == b):=by
 by_cases e:a=b
 ·subst e;simp
 ·have h:¬ (kg a:Key)=kg b:=λq=>e (Sum.inl.inj q);rw[decide_eq_false h];exact (beq_eq_false_iff_ne.mpr e).symm
theorem GF (a b:Str):decide ((XE a:Key)=XE b)=decide (a=b):=by
 by_cases e:a=b
 ·subst e;simp
 ·have h:¬ (XE a:Key)=XE b:=λq=>e (gT q);rw[decide_eq_false h,decide_eq_false e]
theorem mx (a:Int) (b:Str):decide ((kg a:Key)=XE b)=false:=decide_eq_false (λq=>nomatch q)
theorem Dy (a:Str) (b:Int):decide ((XE a:Key)=kg b)=false:=decide_eq_false (λq=>nomatch q)
def qG (prog:jD) (w:jC):PySem.KeyKind prog w Key where
 is:=km
 hash:=iX w
 inj:=λv a b ha f=>by
  rcases QK ha with ⟨i,t,rfl,rfl⟩ | ⟨x,t,rfl,rfl⟩
  ·rcases QK f with ⟨j,u,rfl,e⟩ | ⟨y,u,rfl,e⟩
   ·injection e with c _;rw[c]
   ·exact nomatch e
  ·rcases QK f with ⟨j,u,rfl,e⟩ | ⟨y,u,rfl,e⟩
   ·exact nomatch e
   ·injection e with c _;rw[c]
 byValue:=λk v h=>by
  rcases QK h with ⟨i,t,rfl,rfl⟩ | ⟨x,t,rfl,rfl⟩<;>rfl
 pyHash:=λhv h=>by
  rcases QK hv with ⟨i,t,rfl,rfl⟩ | ⟨x,t,rfl,rfl⟩
  ·exact wpAny_pyHash_int h
  ·exact wpAny_pyHash_str h
 eqBool:=λg hv h=>by
  rcases QK g with ⟨i,t,rfl,rfl⟩ | ⟨x,t,rfl,rfl⟩
  ·rcases QK hv with ⟨j,u,rfl,rfl⟩ | ⟨y,u,rfl,rfl⟩
   ·rw[MC] at h;exact wpAny_eqBool_int h
   ·rw[mx] at h;exact DG i t y u _ _ _ _ h
  ·rcases QK hv with ⟨j,u,rfl,rfl⟩ | ⟨y,u,rfl,rfl⟩
   ·rw[Dy] at h;exact ep x t j u _ _ _ _ h
   ·rw[GF] at h;exact wpAny_eqBool_str h
 «strs» := λk x t v h=>by
  rcases QK h with ⟨i,u,rfl,e⟩ | ⟨y,u,rfl,e⟩
  ·exact nomatch e
  ·injection e with c _;subst c;cases v<;>rfl
theorem iu (prog:jD) (w:jC) (i:Int) (t:Tok):(qG prog w).is (.inl i) (.int i t)=true:=lB i t
theorem fX (prog:jD) (w:jC) (x:Str) (t:Tok):(qG prog w).is (.inr x) (.str x t)=true:=mE x t
inductive V where
 | non | bl (b:Bool) | int (i:Int) | str (x:Str) | byt (b:Array UInt8) | flt (b:UInt64) | ref (a:zE) | ty (n:String)
 deriving DecidableEq
noncomputable def zm:V->zD->Prop
 | .non,u=>u=Xf
 | .bl b,u=>u=Jg b
 | .int i,u=>∃ t,u=Vb i t
 | .str x,u=>∃ t,u=vF x t
 | .byt b,u=>∃ t,u=mm b t
 | .flt b,u=>∃ t,u=bQ b t
 | .ref a,u=>u=qF a
 | .ty n,u=>u=Jb n
abbrev zd:List V->List zD->Prop:=Paired zm
theorem zd.length (r:zd xs us):xs.length=us.length:=Paired.length r
theorem zd.get:∀ {xs:List V}{us:List zD}{i:Nat}{x:V},zd xs us->xs[i]? = some x->∃ u,us[i]? = some u/\zm x u
 | _,_,_,_,.nil,e=>by simp at e
 | _,_,0,_,.cons r _,e=>by simp at e;subst e;exact⟨_,rfl,r⟩
 | _,_,i+1,x,.cons _ t,e=>by
  obtain⟨u,c,f⟩:=zd.get (i:=i) (x:=x) t (by simpa using e);exact⟨u,by simpa using c,f⟩
theorem zd.set (r:zm x u):∀ {xs:List V}{us:List zD} (i:Nat),zd xs us->zd (xs.set i x) (us.set i u)
 | _,_,_,.nil=>.nil
 | _,_,0,.cons _ t=>.cons r t
 | _,_,i+1,.cons q t=>.cons q (zd.set r i t)
theorem zd.append:∀ {xs ys:List V}{us ws:List zD},zd xs us->zd ys ws->zd (xs++ys) (us++ws)
 | _,_,_,_,.nil,s=>s
 | _,_,_,_,.cons r t,s=>.cons r (zd.append t s)
theorem zd.take:∀ {xs:List V}{us:List zD} (n:Nat),zd xs us->zd (xs.take n) (us.take n)
 | _,_,0,_=>.nil
 | _,_,_+1,.nil=>.nil
 | _,_,n+1,.cons r t=>.cons r (zd.take n t)
theorem zd.drop:∀ {xs:List V}{us:List zD} (n:Nat),zd xs us->zd (xs.drop n) (us.drop n)
 | _,_,0,r=>r
 | _,_,_+1,.nil=>.nil
 | _,_,n+1,.cons _ t=>zd.drop n t
def yq:Option V->Option zD->Prop
 | some v,some u=>zm v u
 | none,none=>True
 | _,_=>False
def KV {c:Type}:List (c×V)->List (c×zD)->Prop:=Paired λ(p:c×V) (q:c×zD)=>p.1=q.1/\zm p.2 q.2
noncomputable def kV:Key->V
 | .inl i=>.int i
 | .inr x=>.str x
inductive HO where
 | lst (xs:List V)
 | tup (xs:List V)
 | dK (kvs:List (Key×V)) | dT (kvs:List (List Key×V))
 | set (S:Int->Bool) (n:Nat)
 | ins (C dx:zE) (fs:List (Str×V))
 | own (x:zE)
 | xd (fs:List (Str×V))
 | met (f x:zE)
 | rng (lo hi:Int)
 | frz (o:Obj) (u:HO)
 | tbl (ps:Array zD)
 | ext (φ:zp->Prop)
abbrev Hp:=zE->Option HO
noncomputable def upd (H:Hp) (a:zE) (o:HO):Hp:=λb=>if b=a then some o else H b
theorem qN {a:zE}:upd H a o a=some o:=by unfold upd;rw[if_pos rfl]
theorem jF {a b:zE} (h:b≠a):upd H a o b=H b:=by unfold upd;rw[if_neg h]
theorem d0 {H:Hp}{a b:zE}{o u:HO} (h:H a=some o) (h':H b=some u) (d:o≠u):a≠b:=by
 intro e;subst e;rw[h] at h';exact d (Qm h')
theorem xR {H:Hp}{a b:zE}{o:HO} (h:H a=some o) (h':H b=none):a≠b:=by
 intro e;subst e;rw[h] at h';cases h'
section
variable (P:jD) (w:jC)
def jn (H:Hp) (h:zp) (a:zE):HO->Prop
 | .lst xs=>xs.length <= zf/\∃ (its:List zD) (n:Nat),zd xs its/\h.get? a=some { cls:=.type "list",data:=.seq its.toArray n }
 | .tup xs=>xs.length <= zf/\∃ its:List zD,zd xs its/\xI h a its.toArray
 | .dK kvs=>kvs.length <= zf/\(a == Zs)=false/\∃ vs,KV kvs vs/\h.DictOf (qG P w) a vs
 | .dT kvs=>kvs.length <= zf/\(a == Zs)=false/\∃ xs:List (List Key×zE×zD),
   Paired (λ(p:List Key×V) (q:List Key×zE×zD)=>p.1=q.1/\H q.2.1=some (.tup (p.1.map kV))/\zm p.2 q.2.2) kvs xs /\
   ∃ o es l,h.get? a=some o/\o.ExactDict/\o.data=.dict es l/\es.toList=xs.map (entryOfKey (YR (qG P w)))/\(xs.map (·.1)).Nodup
 | .set S n=>h.SetOf (intKind P w) a S n
 | .ins C e fs=>H e=some (.own a)/\fs.length <= 1000/\e≠a/\h.get? a=some (PySem.W.instObj C e) /\
   ∃ c,h.Ns1 e c/\(∀ f,yq (fs.lookup f) (c f))/\PySem.Within c (fs.map (·.1))
 | .own _=>∃ o,h.get? a=some o
 | .xd fs=>∃ c,h.Ns1 a c/\∀ f,yq (fs.lookup f) (c f)
 | .rng lo hi=>∃ t u v,h.get? a=some { cls:=.type "range",data:=.fields #[.int lo t,.int hi u,.int 1 v] }
 | .frz o u=>h.get? a=some o/\jn H h a u
 | .tbl ps=>h.get? a=some { cls:=.none,data:=.fields ps }
 | .met f x=>h.get? a=some (PySem.W.methodObj (.ref f) (.ref x))
 | .ext g=>g h/\(∃ o,h.get? a=some o)/\∀ i j:zp,g i->(∀ o,i.get? a=some o->j.get? a=some o)->g j
def HOk (H:Hp) (h:zp):Prop:=∀ a o,H a=some o->jn P w H h a o
end
section
variable {P:jD}{w:jC}{H H':Hp}{h h':zp}{a:zE}{o:HO}
theorem jn.lt (x:jn P w H h a o):a < h.objs.size:=by
 cases o with
 | lst xs=>obtain⟨_,_,_,_,e⟩:=x;exact jQ e
 | tup xs=>obtain⟨_,_,_,p⟩:=x;exact p.lt
 | dK kvs=>obtain⟨_,_,_,_,o,_,_,e,_⟩:=x;exact jQ e
 | dT kvs=>obtain⟨_,_,_,_,o,_,_,e,_⟩:=x;exact jQ e
 | set S n=>obtain⟨o,_,_,_,e,_⟩:=x;exact jQ e
 | ins C c fs=>obtain⟨_,_,_,e,_⟩:=x;exact jQ e
 | own y=>obtain⟨_,e⟩:=x;exact jQ e
 | xd fs=>obtain⟨_,⟨_,_,_,e,_⟩,_⟩:=x;exact jQ e
 | rng lo hi=>obtain⟨_,_,_,e⟩:=x;exact jQ e
 | frz ob u=>obtain⟨e,_⟩:=x;exact jQ e
 | tbl ps=>exact jQ (show h.get? a=some _ from x)
 | met f y=>exact jQ (show h.get? a=some _ from x)
 | ext g=>obtain⟨_,⟨_,e⟩,_⟩:=x;exact jQ e
theorem Paired.mapP {e g:Type}{F G:e->g->Prop}:∀ {c:List e}{l₂:List g},Paired F c l₂->(∀ a b,F a b->G a b)->Paired G c l₂
 | _,_,.nil,_=>.nil
 | _,_,.cons r t,f=>.cons (f _ _ r) (Paired.mapP t f)
theorem jn.stay (x:jn P w H h a o) (k:∀ b u,(b=a\/H b=some (.own a))->h.get? b=some u->h'.get? b=some u)
  (l:∀ b,H b=some (.own a)->H' b=some (.own a)) (m:∀ b xs,H b=some (.tup xs)->H' b=some (.tup xs)):jn P w H' h' a o:=by
 induction o with
 | lst xs=>obtain⟨z,its,n,r,e⟩:=x;exact⟨z,its,n,r,k _ _ (.inl rfl) e⟩
 | tup xs=>obtain⟨z,its,r,ob,e,c⟩:=x;exact⟨z,its,r,ob,k _ _ (.inl rfl) e,c⟩
 | dK kvs=>obtain⟨z,y,vs,r,ob,es,g,e,c⟩:=x;exact⟨z,y,vs,r,ob,es,g,k _ _ (.inl rfl) e,c⟩
 | dT kvs =>
  obtain⟨z,y,xs,r,ob,es,g,e,c⟩:=x;exact⟨z,y,xs,Paired.mapP r λp q z=>⟨z.1,m _ _ z.2.1,z.2.2⟩,ob,es,g,k _ _ (.inl rfl) e,c⟩
 | set S n=>obtain⟨ob,es,g,t,e,c⟩:=x;exact⟨ob,es,g,t,k _ _ (.inl rfl) e,c⟩
 | ins C B fs =>
  obtain⟨d,z,ne,e,i,⟨j,es,g,s,c⟩,r⟩:=x;exact⟨l _ d,z,ne,k _ _ (.inl rfl) e,i,⟨j,es,g,k _ _ (.inr d) s,c⟩,r⟩
 | own y=>obtain⟨ob,e⟩:=x;exact⟨ob,k _ _ (.inl rfl) e⟩
 | xd fs=>obtain⟨i,⟨j,es,g,e,c⟩,r⟩:=x;exact⟨i,⟨j,es,g,k _ _ (.inl rfl) e,c⟩,r⟩
 | rng lo hi=>obtain⟨t,u,v,e⟩:=x;exact⟨t,u,v,k _ _ (.inl rfl) e⟩
 | frz ob u A=>obtain⟨e,q⟩:=x;exact⟨k _ _ (.inl rfl) e,A q⟩
 | tbl ps =>
  have e:h.get? a=some { cls:=.none,data:=.fields ps }:=x;show h'.get? a=some { cls:=.none,data:=.fields ps };exact k a _ (.inl rfl) e
 | met f y =>
  have e:h.get? a=some (PySem.W.methodObj (.ref f) (.ref y)):=x;show h'.get? a=some (PySem.W.methodObj (.ref f) (.ref y));exact k a _ (.inl rfl) e
 | ext E=>obtain⟨p,⟨o,e⟩,st⟩:=x;exact⟨st _ _ p λo q=>k _ _ (.inl rfl) q,⟨o,k _ _ (.inl rfl) e⟩,st⟩
theorem HOk.lt (x:HOk P w H h) (e:H a=some o):a < h.objs.size:=(x a o e).lt
theorem HOk.fresh (x:HOk P w H h) (e:h.objs.size <= a):H a=none:=by
 cases q:H a with
 | none=>rfl
 | some u=>exact absurd (qW (x.lt q) e) (QF _)
theorem HOk.kept (x:HOk P w H h) (k:∀ b u,h.get? b=some u->h'.get? b=some u):HOk P w H h':=λa o e =>
 (x a o e).stay (λb u _ q=>k b u q) (λ_ q=>q) λ_ _ q=>q
theorem HOk.laid (x:HOk P w H h) (k:∀ b u,h.get? b=some u->h'.get? b=some u) (i:h.objs.size <= a) (new:jn P w (upd H a o) h' a o):HOk P w (upd H a o) h':=λb u e=>by
 have f:=x.fresh i;by_cases g:b=a
 ·subst g;rw[qN] at e;cases e;exact new
 ·rw[jF g] at e;exact (x b u e).stay (λc v _ q=>k c v q) (λc q=>by rw[jF (xR q f)];exact q) λc xs q=>by rw[jF (xR q f)];exact q
end
def Rd (H:Hp) (a:zE) (u:HO):Prop:=H a=some u\/∃ o,H a=some (.frz o u)
theorem Rd.ok {P:jD}{a:zE} (r:Rd H a u) (x:HOk P w H h):jn P w H h a u:=by
 rcases r with r | ⟨o,r⟩
 ·exact x a u r
 ·obtain⟨_,q⟩:=x a _ r;exact q
noncomputable def Mut:Option HO->Prop
 | some (.lst _)=>True
 | some (.dK _)=>True
 | some (.dT _)=>True
 | some (.set _ _)=>True
 | some (.ins _ _ _)=>True
 | some (.ext _)=>True
 | _=>False
section
variable {P:jD}{w:jC}{H:Hp}{h h':zp}{x e:zE}{o':HO}
theorem HOk.write (ok:HOk P w H h) (j:Mut (H x)) (o:e=x\/H e=some (.own x)) (k:∀ b u,b≠e->h.get? b=some u->h'.get? b=some u) (n:∃ u,h'.get? e=some u)
  (new:jn P w (upd H x o') h' x o'):HOk P w (upd H x o') h':=λb u q=>by
 have g:∀ c y,H c=some (.own y)->c≠x:=λc y r z=>by subst z;rw[r] at j;exact j
 have i:∀ c xs,H c=some (.tup xs)->c≠x:=λc xs r z=>by subst z;rw[r] at j;exact j
 by_cases l:b=x
 ·subst l;rw[qN] at q;cases q;exact new
 ·rw[jF l] at q;by_cases f:b=e
  ·have p:H b=some (.own x):=by
    rcases o with z | z
    ·exact absurd (f.trans z) l
    ·rw[f];exact z
   rw[q] at p;cases p;obtain⟨v,hv⟩:=n;exact⟨v,by rw[f];exact hv⟩
  ·refine (ok b u q).stay (λc v m r=>k c v ?_ r) (λc r=>by rw[jF (g c b r)];exact r) λc xs r=>by rw[jF (i c xs r)];exact r
   rcases m with rfl | m
   ·exact f
   ·rintro rfl
    rcases o with z | z
    ·exact g c b m z
    ·rw[m] at z;cases z;exact l rfl
end
structure Un (fs ex:List zE) (H H':Hp) (h h':zp):Prop where
 keep:∀ b o,h.get? b=some o->H b=none->b∉fs->b∉ex->h'.get? b=some o
 slot:∀ b o,h.get? b=some o->H b=none->b∈fs->b∉ex->∃ sl,h'.get? b=some { o with slots:=sl }
 free:∀ b o,h.get? b=some o->H b=none->b∉ex->H' b=none
 there:∀ b o,h.get? b=some o->b∉ex->∃ o',h'.get? b=some o'
 tups:∀ b xs,H b=some (.tup xs)->H' b=some (.tup xs)
 frzs:∀ b o u,H b=some (.frz o u)->H' b=some (.frz o u)
 tbls:∀ b ps,H b=some (.tbl ps)->∃ more,H' b=some (.tbl (ps++more))
section
variable {fs fs' ex ex':List zE}{H H1 H2:Hp}{h h1 h2 h':zp}{a x e:zE}{o:HO}
theorem Un.any (u:Un fs ex H H1 h h1) {b:zE}{ob:Obj} (q:h.get? b=some ob) (n:H b=none) (c:b∉ex):∃ g,h1.get? b=some { ob with slots:=g }:=by
 by_cases f:b∈fs
 ·exact u.slot b ob q n f c
 ·exact⟨ob.slots,u.keep b ob q n f c⟩
theorem Un.kept (k:∀ b u,h.get? b=some u->h'.get? b=some u):Un fs ex H H h h' :=
 ⟨λb ob q _ _ _=>k b ob q,λb ob q _ _ _=>⟨ob.slots,k b ob q⟩,λ_ _ _ n _=>n,λb ob q _=>⟨ob,k b ob q⟩,λ_ _ q=>q,λ_ _ _ q=>q,λ_ ps q=>⟨#[],by rw[q];simp⟩⟩
theorem Un.refl:Un fs ex H H h h:=Un.kept λ_ _ q=>q
theorem Un.laid (k:∀ b u,h.get? b=some u->h'.get? b=some u) (f:h.objs.size <= a) (c:H a=none):Un fs ex H (upd H a o) h h' where
 keep:=λb u q _ _ _=>k b u q
 slot:=λb u q _ _ _=>⟨u.slots,k b u q⟩
 free:=λb u q n _=>by rw[jF (jX (qW (jQ q) f))];exact n
 there:=λb u q _=>⟨u,k b u q⟩
 tups:=λb xs q=>by rw[jF (xR q c)];exact q
 frzs:=λb u xs q=>by rw[jF (xR q c)];exact q
 tbls:=λb ps q=>⟨#[],by rw[jF (xR q c),q];simp⟩
theorem Un.write (f:Mut (H x)) (l:e=x\/H e=some (.own x)) (k:∀ b u,b≠e->h.get? b=some u->h'.get? b=some u) (g:∃ u,h'.get? e=some u):Un fs ex H (upd H x o) h h':=by
 have i:∀ b,H b=none->b≠x:=λb n z=>by subst z;rw[n] at f;exact f
 have j:∀ b,H b=none->b≠e:=λb n z=>by
  subst z;rcases l with r | r
  ·exact i b n r
  ·rw[n] at r;cases r
 have hm:∀ b u,H b=some u -> ¬ Mut (some u)->b≠x:=λb u q m z=>by subst z;rw[q] at f;exact m f
 refine⟨λb u q n _ _=>k b u (j b n) q,λb u q n _ _=>⟨u.slots,k b u (j b n) q⟩,λb u q n _=>by rw[jF (i b n)];exact n,λb u q _=>?_,
  λb xs q=>by rw[jF (hm b _ q λz=>z)];exact q,λb u xs q=>by rw[jF (hm b _ q λz=>z)];exact q,λb ps q=>⟨#[],by rw[jF (hm b _ q λz=>z),q];simp⟩⟩
 by_cases c:b=e
 ·subst c;exact g
 ·exact⟨u,k b u c q⟩
end
noncomputable def trk (h:zp) (H:Hp):List zE:=(j8 h.objs.size).filter λa=>(H a).isSome
def JB (h:zp) (H:Hp):zp:=PySem.W.hideAll h (trk h H)
theorem El (h:zp) (H:Hp):(JB h H).objs.size=h.objs.size:=PySem.W.hideAll_size _ _
theorem Iz {h:zp}{H:Hp}{b:zE}{o:Obj} (e:h.get? b=some o) (n:H b=none):(JB h H).get? b=some o :=
 PySem.W.hideAll_get _ e λhm=>by
  have q:(H b).isSome=true:=(List.mem_filter.mp hm).2;rw[n] at q;simp at q
theorem HV {b:zE}{o:Obj} (e:(JB h H).get? b=some o):h.get? b=some o/\H b=none:=by
 have c:h.get? b=some o:=PySem.W.of_hideAll (trk h H) e;refine⟨c,?_⟩;cases q:H b with
 | none=>rfl
 | some x =>
  have hm:b∈trk h H:=List.mem_filter.mpr ⟨List.mem_range.mpr (jQ c),by simp[q]⟩;have z:(JB h H).get? b=none:=PySem.W.hideAll_none (trk h H) hm;rw[z] at e;cases e
noncomputable def Ly (g h:zp) (L:zE):List (zE×Obj):=(j8 h.objs.size).filterMap λa=>if a=L\/(g.get? a).isSome=true then none else (h.get? a).map λo=>(a,o)
def qQ (g h:zp) (L d:zE):List (zE×Obj):=(Ly g h L).filter λp=>decide (p.1≠d)
structure Mod (K:PySem.W.Frag) (mg:Str->Option zD) (base:zp):Prop where
 kin:K.In base
 glob:base.Ns jV mg
 blt:∃ mb,base.Ns Wm mb/\∀ x:Str,x ≠ "__name__" -> mb x=yB x
 nolimit:base.NoLimit
structure Cx where
 prog:jD
 w:jC
 K:PySem.W.Frag
 mg:Str->Option zD
 base:zp
 A:jj
 N:List Str
 s₀:zI
 H₀:Hp
 env:Env
 outer:List Env
 stack:List Env
 ex:List zE
 fn:Str->Bool
 calm:Bool
 pn:List (zE×Obj)
 xe:zD->zI->Prop
noncomputable def frs (l:List Env):List zE:=l.filterMap (·.frame)
abbrev Cx.fs (X:Cx):List zE:=frs X.outer
def Vis (c:Z3) (x:Str):Prop:=c.names.lookup x=some .local\/c.names.lookup x=some .cell\/c.names.lookup x=some .free
def Loc (c:Z3) (x:Str):Prop:=c.names.lookup x=some .local\/c.names.lookup x=some .cell
def LL (env:Env) (h:zp) (m:Str->Option zD) (x:Str) (u:zD):Prop :=
 (env.kindOf x=some .local/\m x=some u)\/((env.kindOf x=some .cell\/env.kindOf x=some .free)/\∃ c,env.cells.lookup x=some c/\h.IsCell c (some u))
structure Cx.Ok (X:Cx):Prop where
 mod:Mod X.K X.mg X.base
 kind:X.env.scope.kind=.function
 glob:X.env.globals=jV
 blt:X.env.builtins=Wm
 above:X.s₀.heap.objs.size <= X.env.locals
 inj:∀ x y c,X.env.cells.lookup x=some c->X.env.cells.lookup y=some c->x=y
 has:∀ x,(X.env.kindOf x=some .cell\/X.env.kindOf x=some .free)->∃ c,X.env.cells.lookup x=some c
 cab:∀ x c,X.fn x=true->X.env.cells.lookup x=some c->X.s₀.heap.objs.size <= c
 hd:X.calm=true->X.A.handled=none
 frames:X.A.frames=some X.stack
 stk:X.stack=X.outer\/(X.stack=X.env::X.outer/\X.env.frame=some X.env.locals)
 exf:∀ b∈X.ex,b≠X.env.locals/\∀ x c,X.env.cells.lookup x=some c->c≠b
 bs:∀ b o,X.base.get? b=some o->X.s₀.heap.get? b=some o/\X.H₀ b=none
 bsz:X.base.objs.size <= X.s₀.heap.objs.size
 noex:∀ b o,X.base.get? b=some o->b∉X.ex
 exfs:∀ b∈X.ex,b∉X.fs
 funs:X.s₀.heap.FunFrames X.base X.outer
 frf:∀ b∈X.fs,X.H₀ b=none
structure Inv (X:Cx) (pins:List (zE×Obj)) (σ:List (Option V)) (H:Hp) (s:zI):Prop where
 ok:X.Ok
 os:s.os=X.s₀.os
 bare:Jt s.gens
 base:Un X.fs X.ex X.H₀ H X.s₀.heap s.heap
 loc:∃ m,s.heap.Ns X.env.locals m/\∀ (i:Nat) (x:Str) (v:V),X.N[i]? = some x->σ[i]? = some (some v)->Vis X.env.scope x->∃ u,zm v u/\LL X.env s.heap m x u
 cell:∀ x c,X.env.cells.lookup x=some c->∃ v,s.heap.IsCell c v
 free:H X.env.locals=none
 freeC:∀ x c,X.env.cells.lookup x=some c->H c=none
 pin:∀ p∈X.pn++pins,s.heap.get? p.1=some p.2/\H p.1=none/\p.1≠X.env.locals/\p.1∉X.fs/\∀ v,p.2.data≠.cell v
 hok:HOk X.prog X.w H s.heap
 len:σ.length=X.N.length
 tk:0 < s.toks
section
variable {X:Cx}{pins:List (zE×Obj)}{σ:List (Option V)}{H H':Hp}{s:zI}{h':zp}
theorem Cx.Ok.nofr (ok:X.Ok) {b:zE}{o:Obj} (e:X.base.get? b=some o):b∉X.fs:=λc=>by
 have:=(ok.funs.mem c).1;rw[e] at this;cases this
theorem Inv.bs (I:Inv X pins σ H s):∀ b o,X.base.get? b=some o->s.heap.get? b=some o/\H b=none:=λb o e =>
 ⟨I.base.keep b o (I.ok.bs b o e).1 (I.ok.bs b o e).2 (I.ok.nofr e) (I.ok.noex b o e),I.base.free b o (I.ok.bs b o e).1 (I.ok.bs b o e).2 (I.ok.noex b o e)⟩
theorem Inv.bk (I:Inv X pins σ H s):∀ b o,X.base.get? b=some o->s.heap.get? b=some o:=λb o e=>(I.bs b o e).1
theorem Inv.mod (I:Inv X pins σ H s):Mod X.K X.mg X.base:=I.ok.mod
theorem Inv.kIn (I:Inv X pins σ H s):X.K.In s.heap:=I.ok.mod.kin.keeps I.bk
theorem Inv.lt (I:Inv X pins σ H s):X.env.locals < s.heap.objs.size:=let ⟨_,c,_⟩:=I.loc;c.lt
theorem Inv.sz (I:Inv X pins σ H s):X.s₀.heap.objs.size <= s.heap.objs.size:=jr I.ok.above (UJ I.lt)
theorem Inv.nofs (I:Inv X pins σ H s) {a:zE} (h:s.heap.objs.size <= a):a∉X.fs:=λc=>by
 obtain⟨_,o,e,_⟩:=I.ok.funs.mem c;exact absurd (qW (jQ e) (jr I.sz h)) (QF _)
theorem Inv.cne (I:Inv X pins σ H s):∀ x c,X.env.cells.lookup x=some c->c≠X.env.locals:=λx c e z=>by
 obtain⟨v,o,h,hd⟩:=I.cell x c e;obtain⟨m,⟨i,es,j,f,g,_⟩,_⟩:=I.loc;rw[z,f] at h;cases h;rw[g] at hd;cases hd
theorem Inv.funs (I:Inv X pins σ H s):s.heap.FunFrames X.base X.outer:=by
 have all:∀ (l:List Env),(∀ b∈frs l,b∈X.fs)->X.s₀.heap.FunFrames X.base l->s.heap.FunFrames X.base l:=by
  intro l
  induction l with
  | nil=>intro _ _;trivial
  | cons env r h =>
   intro hs i;obtain⟨j,⟨L,o,c,m,n,hd⟩,p⟩:=i;have f:L∈X.fs:=hs L (by unfold frs;rw[Vf,c];exact qJ);obtain⟨q,e⟩:=I.base.slot L o n (I.ok.frf L f) f λz=>I.ok.exfs L z f;exact⟨j,⟨L,_,c,m,e,hd⟩,h (λb g=>hs b (by unfold frs;rw[Vf,c];exact je _ g)) p⟩
 exact all X.outer (λ_ g=>g) I.ok.funs
theorem Inv.stack (I:Inv X pins σ H s):s.heap.FunFrames X.base X.stack:=by
 rcases I.ok.stk with e | ⟨e,c⟩
 ·rw[e];exact I.funs
 ·rw[e];obtain⟨m,f,_⟩:=I.loc;refine .cons (by rw[I.ok.kind];decide) c f ?_ I.funs;exact Heap.get?_none_of_le (jr I.ok.bsz I.ok.above)
theorem Inv.stkSub (I:Inv X pins σ H s):∀ b∈frs X.stack,b∈X.env.locals::X.fs:=λb c=>by
 rcases I.ok.stk with e | ⟨e,f⟩
 ·rw[e] at c;exact je _ c
 ·rw[e] at c;unfold frs at c;rw[Vf,f] at c;exact c
theorem Inv.stkFree (I:Inv X pins σ H s):∀ b∈frs X.stack,H b=none:=λb c=>by
 rcases List.mem_cons.mp (I.stkSub b c) with e | c
 ·rw[e];exact I.free
 ·obtain⟨_,o,f,_⟩:=I.ok.funs.mem c;exact I.base.free b o f (I.ok.frf b c) λz=>I.ok.exfs b z c
theorem Inv.step {t':Nat}{d':Drawn}{ch:List zE} (I:Inv X pins σ H s)
  (g:∀ b∈ch,(b∈X.ex\/X.s₀.heap.objs.size <= b)/\b≠X.env.locals/\(∀ x c,X.env.cells.lookup x=some c->c≠b)/\∀ p∈X.pn++pins,p.1≠b)
  (keep:∀ b o,b≠X.env.locals->b∉X.fs->b∉ch->s.heap.get? b=some o->H b=none->h'.get? b=some o)
  (slot:∀ b o,b≠X.env.locals->b∈X.fs->b∉ch->s.heap.get? b=some o->H b=none->∃ J,h'.get? b=some { o with slots:=J }) (free:∀ b o,b∉ch->s.heap.get? b=some o->H b=none->H' b=none)
  (there:∀ b o,b∉ch->s.heap.get? b=some o->∃ C,h'.get? b=some C)
  (tups:∀ b xs,H b=some (.tup xs)->H' b=some (.tup xs)) (frzs:∀ b o u,H b=some (.frz o u)->H' b=some (.frz o u)) (tbls:∀ b ps,H b=some (.tbl ps)->∃ more,H' b=some (.tbl (ps++more)))
  (ns:∀ m,s.heap.Ns X.env.locals m->h'.Ns X.env.locals m) (hok:HOk X.prog X.w H' h') (U:Jt g') (Y:0 < t':=by first | exact ZM _ | assumption | exact Inv.tk (by assumption) | lia) :
  Inv X pins σ H' { s with heap:=h',gens:=g',drawn:=d',toks:=t' }:=by
 have E:∀ b o,X.s₀.heap.get? b=some o->b≠X.env.locals:=λb o e=>jX (qW (jQ e) I.ok.above);have t:∀ b o,X.s₀.heap.get? b=some o->b∉X.ex->b∉ch:=λb o e f A=>by
  rcases (g b A).1 with z | z
  ·exact f z
  ·exact absurd (qW (jQ e) z) (QF _)
 have h:∀ x c,X.env.cells.lookup x=some c->∀ v,s.heap.IsCell c v->h'.IsCell c v:=λx c e v ⟨o,B,hd⟩=>by
  have j:c∉ch:=λz=>(g c z).2.2.1 x c e rfl;by_cases M:c∈X.fs
  ·obtain⟨J,q⟩:=slot c o (I.cne x c e) M j B (I.freeC x c e);exact⟨_,q,hd⟩
  ·exact⟨o,keep c o (I.cne x c e) M j B (I.freeC x c e),hd⟩
 refine⟨I.ok,I.os,U,⟨λb o e n A f=>?_,λb o e n A f=>?_,λb o e n f=>?_,λb o e f=>?_,λb xs e=>tups b xs (I.base.tups b xs e),λb o xs e=>frzs b o xs (I.base.frzs b o xs e),λb ps e=>?_⟩,?_,λx c e=>?_,?_,λx c e=>?_,λp N=>?_,hok,I.len,Y⟩
 ·exact keep b o (E b o e) A (t b o e f) (I.base.keep b o e n A f) (I.base.free b o e n f)
 ·obtain⟨J,y⟩:=I.base.slot b o e n A f;obtain⟨L,G⟩:=slot b _ (E b o e) A (t b o e f) y (I.base.free b o e n f);exact⟨L,G⟩
 ·obtain⟨C,y⟩:=I.base.there b o e f;exact free b C (t b o e f) y (I.base.free b o e n f)
 ·obtain⟨C,y⟩:=I.base.there b o e f;exact there b C (t b o e f) y
 ·obtain⟨m1,y⟩:=I.base.tbls b ps e;obtain⟨m2,G⟩:=tbls b _ y;exact⟨m1++m2,by rw[G,Array.append_assoc]⟩
 ·obtain⟨m,hn,hl⟩:=I.loc;refine⟨m,ns m hn,λi x v y G e3=>?_⟩;obtain⟨u,r,l⟩:=hl i x v y G e3;refine⟨u,r,?_⟩;rcases l with l | ⟨k,c,e,z⟩
  ·exact .inl l
  ·exact .inr ⟨k,c,e,h x c e _ z⟩
 ·obtain⟨v,z⟩:=I.cell x c e;exact⟨v,h x c e v z⟩
 ·obtain⟨m,⟨o,_,_,B,_⟩,_⟩:=I.loc;exact free _ o (λz=>(g _ z).2.1 rfl) B I.free
 ·obtain⟨v,o,B,hd⟩:=I.cell x c e;exact free c o (λz=>(g c z).2.2.1 x c e rfl) B (I.freeC x c e)
 ·obtain⟨e,n,ne,Q,d⟩:=I.pin p N;have j:p.1∉ch:=λz=>(g p.1 z).2.2.2 p N rfl;exact⟨keep p.1 p.2 ne Q j e n,free p.1 p.2 j e n,ne,Q,d⟩
theorem Inv.un {t':Nat} (I:Inv X pins σ H s) (u:Un X.fs [] H H' s.heap h') (hok:HOk X.prog X.w H' h') (j:0 < t':=by first | exact ZM _ | assumption | exact Inv.tk (by assumption) | lia):Inv X pins σ H' { s with heap:=h',toks:=t' }:=by
 obtain⟨m,⟨o,es,q,i,r⟩,_⟩:=id I.loc;obtain⟨t,l⟩:=u.any i I.free (by simp);exact I.step (g':=s.gens) (d':=s.drawn) (ch:=[]) (λ_ z=>nomatch z) (λb o _ f _ e n=>u.keep b o e n f (by simp)) (λb o _ f _ e n=>u.slot b o e n f (by simp)) (λb o _ e n=>u.free b o e n (by simp)) (λb o _ e=>u.there b o e (by simp)) u.tups u.frzs u.tbls (λv hm=>by
  obtain⟨x,g,h,c,p⟩:=hm;rw[i] at c;cases c;exact⟨_,g,h,l,p⟩) hok I.bare j
theorem Inv.call {t':Nat}{d':Drawn} (I:Inv X pins σ H s) (u:Un (frs X.stack) ch H H' s.heap h') (hok:HOk X.prog X.w H' h') (t:Jt g')
  (g:∀ b∈ch,(b∈X.ex\/X.s₀.heap.objs.size <= b)/\b≠X.env.locals/\(∀ x c,X.env.cells.lookup x=some c->c≠b)/\∀ p∈X.pn++pins,p.1≠b) (v:0 < t':=by first | exact ZM _ | assumption | exact Inv.tk (by assumption) | lia) :
  Inv X pins σ H' { s with heap:=h',gens:=g',drawn:=d',toks:=t' }:=by
 obtain⟨m,⟨o,es,B,q,r⟩,_⟩:=id I.loc;obtain⟨C,i⟩:=u.any q I.free λz=>(g _ z).2.1 rfl;exact I.step (ch:=ch) g (λb o i y f e n=>u.keep b o e n (λz=>(List.mem_cons.mp (I.stkSub b z)).elim i y) f) (λb o _ _ f e n=>u.any e n f) (λb o f e n=>u.free b o e n f) (λb o f e=>u.there b o e f) u.tups u.frzs u.tbls (λE hm=>by
  obtain⟨G,j,l,h,A⟩:=hm;rw[q] at h;cases h;exact⟨_,j,l,i,A⟩) hok t v
theorem Inv.turned {t':Nat}{it:zE} (I:Inv X pins σ H s) (k:∀ b o,b≠it->s.heap.get? b=some o->h'.get? b=some o) (i:H it=none) (h:it≠X.env.locals)
  (j:it∈X.ex\/X.s₀.heap.objs.size <= it) (l:∀ x c,X.env.cells.lookup x=some c->c≠it) (t:∀ p∈X.pn++pins,p.1≠it) (w:0 < t':=by first | exact ZM _ | assumption | exact Inv.tk (by assumption) | lia):Inv X pins σ H { s with heap:=h',toks:=t' }:=by
 have g:∀ b u,H b=some u->b≠it:=λb u e z=>by rw[z,i] at e;cases e
 refine I.step (g':=s.gens) (d':=s.drawn) (ch:=[it]) (λb y=>?_) (λb o _ _ f e _=>k b o (λz=>f (by simp[z])) e) (λb o _ _ f e _=>⟨o.slots,k b o (λz=>f (by simp[z])) e⟩) (λ_ _ _ _ n=>n)
  (λb o f e=>⟨o,k b o (λz=>f (by simp[z])) e⟩) (λ_ _ e=>e) (λ_ _ _ e=>e) (λb ps e=>⟨#[],by rw[e];simp⟩) (λm hm=>?_) (λb u e=>?_) I.bare w
 ·have e:b=it:=by simpa using y
  subst e;exact⟨j,h,l,t⟩
 ·obtain⟨o,es,A,B,r⟩:=hm;exact⟨o,es,A,k _ o (yK h) B,r⟩
 ·refine (I.hok b u e).stay (λc v f q=>k c v ?_ q) (λ_ q=>q) λ_ _ q=>q;rcases f with z | z
  ·rw[z];exact g b u e
  ·exact g c _ z
theorem Inv.tok (I:Inv X pins σ H s) (t:Nat) (c:0 < t:=by first | exact ZM _ | assumption | exact Inv.tk (by assumption) | lia):Inv X pins σ H { s with toks:=t }:=I.un (h':=s.heap) (t':=t) Un.refl I.hok c
theorem Inv.kept {t':Nat} (I:Inv X pins σ H s) (k:∀ b u,s.heap.get? b=some u->h'.get? b=some u) (c:0 < t':=by first | exact ZM _ | assumption | exact Inv.tk (by assumption) | lia):Inv X pins σ H { s with heap:=h',toks:=t' }:=I.un (Un.kept k) (I.hok.kept k) c
theorem Inv.laid {a:zE}{t':Nat} (I:Inv X pins σ H s) (k:∀ b u,s.heap.get? b=some u->h'.get? b=some u) (c:s.heap.objs.size <= a) (new:jn X.prog X.w (upd H a o) h' a o) (e:0 < t':=by first | exact ZM _ | assumption | exact Inv.tk (by assumption) | lia) :
  Inv X pins σ (upd H a o) { s with heap:=h',toks:=t' }:=I.un (Un.laid k c (I.hok.fresh c)) (I.hok.laid k c new) e
theorem Inv.write {x e:zE}{t':Nat} (I:Inv X pins σ H s) (f:Mut (H x)) (g:e=x\/H e=some (.own x)) (k:∀ b u,b≠e->s.heap.get? b=some u->h'.get? b=some u) (c:∃ u,h'.get? e=some u)
  (new:jn X.prog X.w (upd H x o) h' x o) (h:0 < t':=by first | exact ZM _ | assumption | exact Inv.tk (by assumption) | lia):Inv X pins σ (upd H x o) { s with heap:=h',toks:=t' }:=I.un (Un.write f g k c) (I.hok.write f g k c new) h
theorem Inv.weak {c:List (Option V)} (I:Inv X pins σ H s) (f:c.length=σ.length) (w:∀ (i:Nat) v,c[i]? = some (some v)->σ[i]? = some (some v)):Inv X pins c H s :=
 ⟨I.ok,I.os,I.bare,I.base,let ⟨m,g,e⟩:=I.loc;⟨m,g,λi x v h j l=>e i x v h (w i v j) l⟩,I.cell,I.free,I.freeC,I.pin,I.hok,f.trans I.len,I.tk⟩
theorem Inv.pins_of {pins':List (zE×Obj)} (I:Inv X pins σ H s) (h:∀ p∈pins',s.heap.get? p.1=some p.2/\H p.1=none/\p.1≠X.env.locals/\p.1∉X.fs/\∀ v,p.2.data≠.cell v):Inv X pins' σ H s :=
 ⟨I.ok,I.os,I.bare,I.base,I.loc,I.cell,I.free,I.freeC,λp c=>(List.mem_append.mp c).elim (λz=>I.pin p (uP _ z)) (h p),I.hok,I.len,I.tk⟩
theorem bo {N:List Str} (c:N.Nodup) {i j:Nat}{x:Str} (a:N[i]? = some x) (b:N[j]? = some x):i=j:=by
 obtain⟨g,e⟩:=List.getElem?_eq_some_iff.mp a;obtain⟨h,f⟩:=List.getElem?_eq_some_iff.mp b;exact (D9 c).mp (e.trans f.symm)
theorem Wq {M:J3}{i:Nat}{x:Str}{Q:Unit->zI->Prop} (I:Inv X pins σ H s) (hN:X.N.Nodup) (hi:X.N[i]? = some x) (l:Loc X.env.scope x) (r:zm v u)
  (h:∀ s',Inv X pins (σ.set i (some v)) H s'->(∃ a,Jx a s.heap s'.heap/\(a=X.env.locals\/X.env.cells.lookup x=some a))->Q () s') (hf:X.fn x=true\/X.env.scope.names.lookup x=some .local:=by first | exact .inl rfl | exact .inr rfl | assumption):wpAny M A (storeName X.env x u) Q E s:=by
 obtain⟨m,hn,hl⟩:=id I.loc;have Y:(X.env.scope.kind == .class || (X.env.scope.kind == .module && X.env.locals != X.env.globals))=false:=by rw[I.ok.kind];rfl
 have C:i < σ.length:=by rw[I.len];exact (List.getElem?_eq_some_iff.mp hi).1
 have cne:=I.cne;have tracked:∀ {a:zE}{h':zp},(∃ o,s.heap.get? a=some o/\H a=none)->Jx a s.heap h'->HOk X.prog X.w H h':=λ{a h'} ha hs b ob e=>by
  obtain⟨_,_,t⟩:=ha;refine (I.hok b ob e).stay (λc w' g q=>(hs.2 c ?_).trans q) (λ_ q=>q) λ_ _ q=>q
  rintro rfl
  rcases g with rfl | g
  ·rw[t] at e;cases e
  ·rw[t] at g;cases g
 rcases l with G | G
 ·refine Ge G hn (λh' hn' hs=>?_) Y;obtain⟨oL,_,_,hoL,_⟩:=id hn;refine h _ ⟨I.ok,I.os,I.bare,⟨λb o e n J l=>?_,λb o e n J l=>?_,I.base.free,λb o e l=>?_,I.base.tups,I.base.frzs,I.base.tbls⟩,⟨_,hn',λj y v' f B e3=>?_⟩,λy c e=>?_,I.free,I.freeC,λp hp=>?_,tracked ⟨oL,hoL,I.free⟩ hs,by simpa using I.len,ZM _⟩ ⟨_,hs,.inl rfl⟩
  ·exact (hs.2 b (jX (qW (jQ e) I.ok.above))).trans (I.base.keep b o e n J l)
  ·obtain⟨sl,f⟩:=I.base.slot b o e n J l;exact⟨sl,(hs.2 b (jX (qW (jQ e) I.ok.above))).trans f⟩
  ·obtain⟨o',f⟩:=I.base.there b o e l;exact⟨o',(hs.2 b (jX (qW (jQ e) I.ok.above))).trans f⟩
  ·by_cases L:j=i
   ·subst L;rw[hi] at f;cases f;rw[ZI C] at B;cases B;exact⟨u,r,.inl ⟨G,by simp⟩⟩
   ·rw[qb (yK L)] at B;obtain⟨u',r',q⟩:=hl j y v' f B e3;refine⟨u',r',?_⟩;rcases q with ⟨k,e⟩ | ⟨k,c,e,z⟩
    ·refine .inl ⟨k,?_⟩;have:y≠x:=λe=>L (bo hN f (e ▸ hi));simp[this,e]
    ·exact .inr ⟨k,c,e,z.sameBut hs (cne y c e)⟩
  ·obtain⟨w',z⟩:=I.cell y c e;exact⟨w',z.sameBut hs (cne y c e)⟩
  ·obtain⟨e,n,ne,nf,d⟩:=I.pin p hp;exact⟨(hs.2 p.1 ne).trans e,n,ne,nf,d⟩
 ·have U:X.fn x=true:=by
   rcases hf with z | z
   ·exact z
   ·rw[z] at G;cases G
  obtain⟨c,g⟩:=I.ok.has x (.inl G);obtain⟨w',z⟩:=I.cell x c g;refine wpAny_storeName_cell I.ok.kind G g z (λh' hc' hs=>?_);obtain⟨oc,hoc,hocd⟩:=id z;refine h { s with heap:=h' } ⟨I.ok,I.os,I.bare,⟨λb o e n J l=>?_,λb o e n J l=>?_,I.base.free,λb o e l=>?_,I.base.tups,I.base.frzs,I.base.tbls⟩,⟨m,hn.sameBut hs (yK (cne x c g)),λj y v' f B e3=>?_⟩,λy c' e=>?_,I.free,I.freeC,λp hp=>?_,tracked ⟨oc,hoc,I.freeC x c g⟩ hs,by simpa using I.len,I.tk⟩ ⟨c,hs,.inr g⟩
  ·exact (hs.2 b (jX (qW (jQ e) (I.ok.cab x c U g)))).trans (I.base.keep b o e n J l)
  ·obtain⟨sl,f⟩:=I.base.slot b o e n J l;exact⟨sl,(hs.2 b (jX (qW (jQ e) (I.ok.cab x c U g)))).trans f⟩
  ·obtain⟨o',f⟩:=I.base.there b o e l;exact⟨o',(hs.2 b (jX (qW (jQ e) (I.ok.cab x c U g)))).trans f⟩
  ·by_cases L:j=i
   ·subst L;rw[hi] at f;cases f;rw[ZI C] at B;cases B;exact⟨u,r,.inr ⟨.inl G,c,g,hc'⟩⟩
   ·rw[qb (yK L)] at B;obtain⟨u',r',q⟩:=hl j y v' f B e3;refine⟨u',r',?_⟩;rcases q with q | ⟨k,c',e,z'⟩
    ·exact .inl q
    ·refine .inr ⟨k,c',e,z'.sameBut hs ?_⟩
     rintro rfl
     exact L (bo hN f (I.ok.inj _ _ _ e g ▸ hi))
  ·by_cases hcc:c'=c
   ·subst hcc;exact⟨_,hc'⟩
   ·obtain⟨w2,z2⟩:=I.cell y c' e;exact⟨w2,z2.sameBut hs hcc⟩
  ·obtain⟨e,n,ne,nf,d⟩:=I.pin p hp;refine⟨(hs.2 p.1 ?_).trans e,n,ne,nf,d⟩;intro q;rw[q,hoc] at e;have q':oc=p.2:=Qm e;exact d w' (by rw[<- q'];exact hocd)
theorem bH {M:J3}{i:Nat}{x:Str}{Q:Unit->zI->Prop} (I:Inv X pins σ H s) (e:X.N.Nodup) (hi:X.N[i]? = some x) (f:Loc X.env.scope x) (r:zm v u)
  (h:∀ c,Inv X pins (σ.set i (some v)) H c->Q () c) (g:X.fn x=true\/X.env.scope.names.lookup x=some .local:=by first | exact .inl rfl | exact .inr rfl | assumption):wpAny M A (storeName X.env x u) Q E s :=
 Wq I e hi f r (λc j _=>h c j) g
theorem Inv.call' {f:zI} (I:Inv X pins σ H s) (h:f.os=s.os) (u:Un (frs X.stack) ch H H' s.heap f.heap) (hok:HOk X.prog X.w H' f.heap) (i:Jt f.gens)
  (g:∀ b∈ch,(b∈X.ex\/X.s₀.heap.objs.size <= b)/\b≠X.env.locals/\(∀ x c,X.env.cells.lookup x=some c->c≠b)/\∀ p∈X.pn++pins,p.1≠b) (j:0 < f.toks):Inv X pins σ H' f:=by
 obtain⟨h',g',d',t',l⟩:=f;have e:l=s.os:=h;subst e;exact I.call (g':=g') (t':=t') (d':=d') u hok i g j
end
abbrev XK:=zD->Option zE->Hp->Prop
abbrev St:=List (Option V)
abbrev VK:=V->Hp->Prop
abbrev TE:=St->Hp->VK->Prop
abbrev TT:=St->Hp->(Bool->Hp->Prop)->Prop
abbrev TA:=St->Hp->(List V->Hp->Prop)->Prop
structure ZN where
 nx:St->Hp->Prop
 rt:VK
 bk:St->Hp->Prop:=λ_ _=>False
 ct:St->Hp->Prop:=λ_ _=>False
abbrev TS:=ZN->St->Hp->Prop
def EP (X:Cx) (c:List (zE×Obj)) (σ:St) (Q:VK) (u:zD) (f:zI):Prop:=∃ v e,Inv X c σ e f/\zm v u/\Q v e
def TP (X:Cx) (c:List (zE×Obj)) (σ:St) (Q:Bool->Hp->Prop) (b:Bool) (f:zI):Prop:=∃ e,Inv X c σ e f/\Q b e
def AP (X:Cx) (c:List (zE×Obj)) (σ:St) (Q:List V->Hp->Prop) (us:List zD) (f:zI):Prop:=∃ vs e,Inv X c σ e f/\zd vs us/\Q vs e
def SP (X:Cx) (e:List (zE×Obj)) (D:ZN) (f:Flow) (h:zI):Prop :=
 match f with
 | .next=>∃ c g,Inv X e c g h/\D.nx c g
 | .brk=>∃ c g,Inv X e c g h/\D.bk c g
 | .cont=>∃ c g,Inv X e c g h/\D.ct c g
 | .ret u=>∃ v c g,Inv X e c g h/\zm v u/\D.rt v g
def PE (X:Cx) (e:ze) (t:TE):Prop :=
 ∀ (c:List (zE×Obj)) (s:zI) (σ:St) (H:Hp) (Q:VK),Inv X c σ H s->t σ H Q->wpAny (zN X.prog X.w) X.A (z0 e X.env) (EP X c σ Q) X.xe s
def PT (X:Cx) (e:ze) (t:TT):Prop :=
 ∀ (c:List (zE×Obj)) (s:zI) (σ:St) (H:Hp) (Q:Bool->Hp->Prop),Inv X c σ H s->t σ H Q->wpAny (zN X.prog X.w) X.A (isTrue e X.env (z0 e X.env)) (TP X c σ Q) X.xe s
def PW (X:Cx) (e:ze) (t:TT):Prop :=
 ∀ (f:Sem zD) (c:List (zE×Obj)) (s:zI) (σ:St) (H:Hp) (Q:Bool->Hp->Prop),Inv X c σ H s->t σ H Q->wpAny (zN X.prog X.w) X.A (isTrue e X.env f) (TP X c σ Q) X.xe s
theorem PW.pt {X:Cx} (h:PW X e t):PT X e t:=h _
def PA (X:Cx) (es:List ze) (t:TA):Prop :=
 ∀ (pos:Pos) (c:List (zE×Obj)) (s:zI) (σ:St) (H:Hp) (Q:List V->Hp->Prop),Inv X c σ H s->t σ H Q->wpAny (zN X.prog X.w) X.A (uJ (yR pos (jY es X.env))) (AP X c σ Q) X.xe s
def PS (X:Cx) (st:jT) (t:TS):Prop :=
 ∀ (c:List (zE×Obj)) (s:zI) (σ:St) (H:Hp) (D:ZN),Inv X c σ H s->t D σ H->wpAny (zN X.prog X.w) X.A (exec st X.env) (SP X c D) X.xe s
def PSs (X:Cx) (st:List jT) (t:TS):Prop :=
 ∀ (c:List (zE×Obj)) (s:zI) (σ:St) (H:Hp) (D:ZN),Inv X c σ H s->t D σ H->wpAny (zN X.prog X.w) X.A (execs st X.env) (SP X c D) X.xe s
theorem thn {c:Type}{t:Sem c}{Q e:c->zI->Prop}{M:J3}{A:jj}{E:zD->zI->Prop}{s:zI} (h:wpAny M A t Q E s) (f:∀ a s,Q a s->e a s):wpAny M A t e E s:=wpAny_mono h f λ_ _ x=>x
theorem zy {e f g:Type}{t:Sem e}{a b c:e->zI->f->g->Prop}{Q:e->zI->Prop}{M:J3}{A:jj}{E:zD->zI->Prop}{s:zI} (h:wpAny M A t (λv s=>∃ x y,a v s x y/\b v s x y/\c v s x y) E s) (q:∀ v s x y,a v s x y->b v s x y->c v s x y->Q v s):wpAny M A t Q E s:=thn h λv s z=>by
 obtain⟨x,y,i,j,k⟩:=z;exact q v s x y i j k
section
variable {X:Cx}
def ij (i:Nat):TE:=λσ H Q=>∃ v,σ[i]? = some (some v)/\Q v H
def tC (v:V):TE:=λ_ H Q=>Q v H
theorem dq {i:Nat}{x:Str}{pos:Pos} (p:X.N[i]? = some x) (hv:Vis X.env.scope x) (hd:(x == ("__debug__" : Str))=false:=by decide) (n:(x == ("__classdict__" : Str))=false:=by decide):PE X (.Name x pos) (ij i):=by
 intro j s σ H Q I h;obtain⟨v,e,h⟩:=h;obtain⟨m,q,t⟩:=I.loc;obtain⟨u,r,l⟩:=t i x v p e hv;have fin:EP X j σ Q u s:=⟨v,H,I,r,h⟩
 rcases l with ⟨g,hm⟩ | ⟨g,c,o,f⟩
 ·exact AE (wpAny_loadName_local I.ok.kind g q hm fin) hd
 ·rcases g with g | g
  ·exact AE (wpAny_loadName_cell I.ok.kind g o f fin) hd
  ·exact AE (wpAny_loadName_free I.ok.kind g o f fin n) hd
theorem wC {i j pos}:PE X (.Constant (.int i) j pos) (tC (.int i)):=λ_ _ _ H _ I h=>wpAny_Constant_int ⟨.int i,H,I.tok _,⟨_,rfl⟩,h⟩
theorem Hq {b j pos}:PE X (.Constant (.bool b) j pos) (tC (.bl b)):=λ_ _ _ H _ I h=>Constant_bool ⟨.bl b,H,I,rfl,h⟩
theorem fO {j pos}:PE X (.Constant .none j pos) (tC .non):=λ_ _ _ H _ I h=>Constant_none ⟨.non,H,I,rfl,h⟩
theorem bb {x j pos}:PE X (.Constant (.str x) j pos) (tC (.str x)):=λ_ _ _ H _ I h=>Uw ⟨.str x,H,I.tok _,⟨_,rfl⟩,h⟩
def Gl (X:Cx) (x:Str):Prop:=X.env.kindOf x=some .globalImplicit
theorem Uv {u:zD}{pos:Pos}{Q:zD->zI->Prop} (I:Inv X c σ H s) (e:Gl X x) (hm:X.mg x=some u) (h:Q u s)
  (hd:(x == ("__debug__" : Str))=false:=by decide):wpAny (zN X.prog X.w) X.A (z0 (.Name x pos) X.env) Q E s :=
 Dt I.ok.kind e (Calls.loadGlobal_global (by rw[I.ok.glob];exact I.mod.glob.keeps I.bk) hm h) hd
theorem xl {u:zD}{pos:Pos}{Q:zD->zI->Prop} (I:Inv X c σ H s) (e:Gl X x) (hm:X.mg x=none) (hv:yB x=some u) (h:Q u s)
  (f:x ≠ "__name__" := by decide) (hd:(x == ("__debug__" : Str))=false:=by decide):wpAny (zN X.prog X.w) X.A (z0 (.Name x pos) X.env) Q E s:=by
 obtain⟨j,g,i⟩:=I.mod.blt;exact Dt I.ok.kind e (Calls.loadGlobal_builtin (by rw[I.ok.glob];exact I.mod.glob.keeps I.bk) hm (by rw[I.ok.blt];exact g.keeps I.bk) ((i x f).trans hv) h) hd
theorem Fg {u:zD}{pos:Pos} (c:Gl X x) (hm:X.mg x=some u) (r:zm v u) (hd:(x == ("__debug__" : Str))=false:=by decide):PE X (.Name x pos) (tC v) :=
 λ_ _ _ H _ I h=>Uv I c hm ⟨v,H,I,r,h⟩ hd
theorem FX {u:zD}{pos:Pos} (c:Gl X x) (hm:X.mg x=none) (hv:yB x=some u) (r:zm v u) (e:x ≠ "__name__" := by decide) (hd:(x == ("__debug__" : Str))=false:=by decide):PE X (.Name x pos) (tC v) :=
 λ_ _ _ H _ I h=>xl I c hm hv ⟨v,H,I,r,h⟩ e hd
variable {a b:ze}{ta tb:TE}{pos:Pos}
def PC (X:Cx) (g:CmpOp) (a b:ze) (t:TE):Prop :=
 ∀ (c:List (zE×Obj)) (s:zI) (σ:St) (H:Hp) (Q:VK),Inv X c σ H s->t σ H Q ->
  wpAny (zN X.prog X.w) X.A (z0 a X.env) (λv e=>wpAny (zN X.prog X.w) X.A (z0 b X.env) (λu f=>wpAny (zN X.prog X.w) X.A (jZ g v u) (EP X c σ Q) X.xe f) X.xe e) X.xe s
theorem DE (b:ze) {c:CmpOp} (h:c≠.In) (e:c≠.NotIn):Jn c b=false:=by
 have f:(c == fM)=false:=by cases c<;>first | rfl | exact absurd rfl h
 have g:(c == Fv)=false:=by cases c<;>first | rfl | exact absurd rfl e
 cases b<;>simp[Jn,f,g]
def Jc (ta:TE):TE:=λσ H Q=>ta σ H λx c=>Q (.bl (decide (x=.non))) c
theorem zm.none_iff (r:zm x v):(v == Xf)=decide (x=.non):=by
 cases x with
 | non=>cases r;rfl
 | bl _=>cases r;rfl
 | int _=>obtain⟨t,rfl⟩:=r;rfl
 | str _=>obtain⟨t,rfl⟩:=r;rfl
 | byt _=>obtain⟨t,rfl⟩:=r;rfl
 | flt _=>obtain⟨t,rfl⟩:=r;rfl
 | ref _=>cases r;rfl
 | ty _=>cases r;rfl
theorem GZ {j pos'} (ha:PE X a ta):PC X .Is a (.Constant .none j pos') (Jc ta):=by
 intro c s σ H Q I h;refine zy (ha c s σ H _ I h) λv l x e f g i=>?_;exact Constant_none (is_none_gen ⟨.bl _,e,f,by rw[g.none_iff];rfl,i⟩)
def tB (t:TE):TT:=λσ H Q=>t σ H λx e=>∃ c,x=.bl c/\Q c e
theorem FV (h:PC X g a b t) (f:Jn g b=false:=by first | exact DE _ (by decide) (by decide) | rfl):PT X (.Compare a [g] [b] pos) (tB t):=by
 intro e s σ H Q I hw;refine iH (thn (h e s σ H _ I hw) λv o f=>thn f λu p i=>thn i λc r ⟨x,j,l,m,n⟩=>?_) f;obtain⟨d,rfl,q⟩:=n;cases m;exact Jz ⟨j,l,q⟩
variable {tA tB':TT}{qQ:List ze}
def yY (t u:TT):TT:=λσ H Q=>t σ H λc e=>if c=true then u σ e Q else Q false e
def tOr (t u:TT):TT:=λσ H Q=>t σ H λc e=>if c=true then Q true e else u σ e Q
def qB (t:TT):TT:=λσ H Q=>t σ H λc e=>Q (!c) e
theorem mI (ha:PT X a tA):PW X (.BoolOp .And [a] pos) tA:=by
 intro g f s σ H Q I h;refine isTrue_and (thn (ha f s σ H Q I h) λc i e=>?_);cases c with
 | true=>exact isTrue_and_nil e
 | false=>exact e
theorem LF (ha:PT X a tA):PW X (.BoolOp .Or [a] pos) tA:=by
 intro g f s σ H Q I h;refine isTrue_or (thn (ha f s σ H Q I h) λc i e=>?_);cases c with
 | false=>exact isTrue_or_nil e
 | true=>exact e
theorem lq (ha:PT X a tA) (j:PW X (.BoolOp .And (b::qQ) pos) tB'):PW X (.BoolOp .And (a::b::qQ) pos) (yY tA tB'):=by
 intro l e s σ H Q I h;refine isTrue_and (thn (ha e s σ H _ I h) λc m ⟨f,g,i⟩=>?_);cases c with
 | true=>exact j l e m σ f Q g i
 | false=>exact⟨f,g,i⟩
theorem F2 (ha:PT X a tA) (j:PW X (.BoolOp .Or (b::qQ) pos) tB'):PW X (.BoolOp .Or (a::b::qQ) pos) (tOr tA tB'):=by
 intro l e s σ H Q I h;refine isTrue_or (thn (ha e s σ H _ I h) λc m ⟨f,g,i⟩=>?_);cases c with
 | true=>exact⟨f,g,i⟩
 | false=>exact j l e m σ f Q g i
theorem E5 (ha:PT X a tA):PT X (.UnaryOp .Not a pos) (qB tA):=by
 intro e s σ H Q I h;exact isTrue_not (ha e s σ H (λc f=>Q (!c) f) I h)
def FD (ta tb:TE):TE:=λσ H Q=>ta σ H λx e=>∃ c,x=.bl c/\if c=true then tb σ e Q else Q (.bl false) e
theorem GB {e} (h:PE X a t):PE X (.BoolOp e [a] pos) t:=λc s σ H Q I hw=>BoolOp_one (h c s σ H Q I hw)
theorem GU (ha:PE X a ta) (j:PE X (.BoolOp .And (b::qQ) pos) tb):PE X (.BoolOp .And (a::b::qQ) pos) (FD ta tb):=by
 intro e s σ H Q I h;refine BoolOp_and (zy (ha e s σ H _ I h) λv l x g i m f=>?_);obtain⟨c,rfl,f⟩:=f;cases m;refine Jz ?_;cases c with
 | true=>exact j e l σ g Q i f
 | false=>exact⟨.bl false,g,i,rfl,f⟩
def tIf (t:TT) (ta tb:TE):TE:=λσ H Q=>t σ H λc e=>if c=true then ta σ e Q else tb σ e Q
theorem fF (l:PT X c tA) (ha:PE X a ta) (m:PE X b tb):PE X (.IfExp c a b pos) (tIf tA ta tb):=by
 intro e s σ H Q I h;refine wpAny_IfExp (thn (l e s σ H _ I h) λd f ⟨g,i,j⟩=>?_);cases d with
 | true=>exact ha e f σ g Q i j
 | false=>exact m e f σ g Q i j
end
def SqL (K:PySem.W.Frag) (H:Hp) (a:zE) (xs:List V):Prop :=
 Rd H a (.lst xs) \/
  ∃ (o:Obj) (its:Array zD) (n:Nat),K.lookup a=some o/\o.cls=.type "list" /\ o.dict=none/\o.data=.seq its n/\its.size <= zf/\zd xs its.toList
def SqT (K:PySem.W.Frag) (H:Hp) (a:zE) (xs:List V):Prop :=
 Rd H a (.tup xs) \/
  ∃ (o:Obj) (its:Array zD) (n:Nat),K.lookup a=some o/\o.cls=.type "tuple" /\ o.data=.seq its n/\its.size <= zf/\zd xs its.toList
noncomputable def dz:zD->Option V
 | .none=>some .non
 | .bool b=>some (.bl b)
 | .int i _=>some (.int i)
 | .str x _=>some (.str x)
 | .bytes b _=>some (.byt b)
 | .float b _=>some (.flt b)
 | .ref a=>some (.ref a)
 | .type n=>some (.ty n)
 | _=>none
theorem zm.abs (r:zm x u):dz u=some x:=by
 cases x with
 | non=>cases r;rfl
 | bl _=>cases r;rfl
 | int _=>obtain⟨t,rfl⟩:=r;rfl
 | str _=>obtain⟨t,rfl⟩:=r;rfl
 | byt _=>obtain⟨t,rfl⟩:=r;rfl
 | flt _=>obtain⟨t,rfl⟩:=r;rfl
 | ref _=>cases r;rfl
 | ty _=>cases r;rfl
theorem zm.inj (r:zm x u) (q:zm y u):x=y:=Qm (r.abs.symm.trans q.abs)
theorem zd.inj:∀ {xs ys:List V}{us:List zD},zd xs us->zd ys us->xs=ys
 | _,_,_,.nil,.nil=>rfl
 | _,_,_,.cons r t,.cons c t'=>by rw[r.inj c,zd.inj t t']
section
variable {X:Cx}{pins:List (zE×Obj)}{σ:St}{H:Hp}{s:zI}{a:zE}{xs ys:List V}
theorem SqL.of {K:PySem.W.Frag} (h:H a=some (.lst xs)):SqL K H a xs:=.inl (.inl h)
theorem SqT.of {K:PySem.W.Frag} (h:H a=some (.tup xs)):SqT K H a xs:=.inl (.inl h)
theorem Inv.list (I:Inv X pins σ H s) (h:SqL X.K H a xs):∃ its:List zD,zd xs its/\PlainL s.heap a its.toArray/\xs.length <= zf:=by
 rcases h with h | ⟨o,its,n,c,f,hd,hs,g,r⟩
 ·obtain⟨z,its,n,r,e⟩:=h.ok I.hok;exact⟨its,r,⟨_,n,e,rfl,rfl,rfl⟩,z⟩
 ·refine⟨its.toList,r,⟨o,n,I.kIn a o c,f,hd,by simpa using hs⟩,?_⟩;have e:=r.length;simp only[jy] at e
  lia
theorem Inv.tuple (I:Inv X pins σ H s) (h:SqT X.K H a xs):∃ its:List zD,zd xs its/\xI s.heap a its.toArray/\xs.length <= zf:=by
 rcases h with h | ⟨o,its,n,c,f,hs,g,r⟩
 ·obtain⟨z,its,r,p⟩:=h.ok I.hok;exact⟨its,r,p,z⟩
 ·refine⟨its.toList,r,⟨o,I.kIn a o c,f,n,by simpa using hs⟩,?_⟩;have e:=r.length;simp only[jy] at e
  lia
theorem Inv.list_inj (I:Inv X pins σ H s) (h:SqL X.K H a xs) (h':SqL X.K H a ys):xs=ys:=by
 obtain⟨its,r,⟨o,n,e,_,_,d⟩,_⟩:=I.list h;obtain⟨its',f,⟨i,j,c,_,_,d'⟩,_⟩:=I.list h';rw[e] at c;cases c;rw[d] at d';injection d' with g _;have:its=its':=by simpa using congrArg Ci g
 subst this;exact r.inj f
theorem Inv.tuple_inj (I:Inv X pins σ H s) (h:SqT X.K H a xs) (h':SqT X.K H a ys):xs=ys:=by
 obtain⟨its,r,⟨o,e,_,n,d⟩,_⟩:=I.tuple h;obtain⟨its',f,⟨i,c,_,j,d'⟩,_⟩:=I.tuple h';rw[e] at c;cases c;rw[d] at d';injection d' with g _;have:its=its':=by simpa using congrArg Ci g
 subst this;exact r.inj f
end
noncomputable abbrev Cx.wish (X:Cx) (E:zD->zI->Prop):Cx:={ X with xe:=E }
abbrev Cx.nox (X:Cx):Cx:=X.wish λ_ _=>False
theorem Cx.Ok.wish {X:Cx} (ok:X.Ok) (E:zD->zI->Prop):(X.wish E).Ok :=
 ⟨ok.mod,ok.kind,ok.glob,ok.blt,ok.above,ok.inj,ok.has,ok.cab,ok.hd,ok.frames,ok.stk,ok.exf,ok.bs,ok.bsz,ok.noex,ok.exfs,ok.funs,ok.frf⟩
theorem Cx.Ok.unwish {X:Cx}{E:zD->zI->Prop} (ok:(X.wish E).Ok):X.Ok :=
 ⟨ok.mod,ok.kind,ok.glob,ok.blt,ok.above,ok.inj,ok.has,ok.cab,ok.hd,ok.frames,ok.stk,ok.exf,ok.bs,ok.bsz,ok.noex,ok.exfs,ok.funs,ok.frf⟩
section
variable {X:Cx}{pins:List (zE×Obj)}{σ:St}{H:Hp}{s:zI}{E:zD->zI->Prop}
theorem Inv.wish (I:Inv X pins σ H s) (E:zD->zI->Prop):Inv (X.wish E) pins σ H s:=⟨I.ok.wish E,I.os,I.bare,I.base,I.loc,I.cell,I.free,I.freeC,I.pin,I.hok,I.len,I.tk⟩
theorem Inv.unwish (I:Inv (X.wish E) pins σ H s):Inv X pins σ H s:=⟨I.ok.unwish,I.os,I.bare,I.base,I.loc,I.cell,I.free,I.freeC,I.pin,I.hok,I.len,I.tk⟩
theorem SP.unwish {D:ZN} (h:SP (X.wish E) pins D f g):SP X pins D f g:=by
 cases f with
 | next=>obtain⟨c,e,I,q⟩:=h;exact⟨c,e,I.unwish,q⟩
 | brk=>obtain⟨c,e,I,q⟩:=h;exact⟨c,e,I.unwish,q⟩
 | cont=>obtain⟨c,e,I,q⟩:=h;exact⟨c,e,I.unwish,q⟩
 | ret u=>obtain⟨v,c,e,I,r,q⟩:=h;exact⟨v,c,e,I.unwish,r,q⟩
theorem PSs.nox {st:List jT} (h:PSs X.nox st t):PSs X st t:=λpins s σ H D I hw =>
 wpAny_mono (h pins s σ H D (I.wish _) hw) (λ_ _ q=>q.unwish) λ_ _ z=>jJ z
end
section
variable {X:Cx}{st:jT}{qQ:List jT}{t u:TS}{e:ze}{te:TE}{pos:Pos}
def DT:TS:=λD σ H=>D.nx σ H
def mQ (t u:TS):TS:=λD σ H=>t { D with nx:=u D } σ H
theorem lU:PSs X [] DT:=λ_ _ σ H _ I h=>wpAny_execs_nil ⟨σ,H,I,h⟩
theorem hY (i:PS X st t) (j:PSs X qQ u):PSs X (st::qQ) (mQ t u):=by
 intro c s σ H D I h;refine mq (thn (i c s σ H { D with nx:=u D } I h) λf l q=>?_);cases f with
 | next =>
  obtain⟨g,m,n,q⟩:=q;exact j c l g m D n q
 | ret v=>exact q
 | brk=>exact q
 | cont=>exact q
theorem iT (g:PS X st t):PSs X [st] t:=by
 intro c s σ H D I h;refine mq (thn (g c s σ H D I h) λf i q=>?_);cases f with
 | next=>exact wpAny_execs_nil q
 | ret v=>exact q
 | brk=>exact q
 | cont=>exact q
theorem Inv.quiet (I:Inv X c σ H s):interactive X.env=false:=by simp[interactive,I.ok.kind]
def Et (te:TE):TS:=λD σ H=>te σ H λ_ c=>D.nx σ c
theorem DI (f:PE X e te) (hs:Qc e none pos.line X.env=pure false:=by rfl):PS X (.Expr e pos) (Et te):=by
 intro c s σ H D I h;exact wpAny_Expr_any (zy (f c s σ H _ I h) λv l x g i m j=>⟨σ,g,i,j⟩) I.quiet hs
def mR (te:TE):TS:=λD σ H=>te σ H D.rt
theorem D2 (f:PE X e te):PS X (.Return (some e) pos) (mR te):=by
 intro c s σ H D I h;exact wpAny_Return_some (zy (f c s σ H _ I h) λv m x g i j l=>⟨x,σ,g,i,j,l⟩)
def Gy (c:TT) (t u:TS):TS:=λD σ H=>c σ H λb f=>if b=true then t D σ f else u D σ f
theorem lj {a b:List jT} (m:PT X c n) (ha:PSs X a t) (o:PSs X b u):PS X (.If c a b pos) (Gy n t u):=by
 intro f s σ H D I h;refine wpAny_If (thn (m f s σ H _ I h) λd g ⟨i,j,l⟩=>?_);cases d with
 | true=>exact ha f g σ i D j l
 | false=>exact o f g σ i D j l
end
abbrev TG:=V->St->Hp->(St->Hp->Prop)->Prop
def PG (X:Cx) (c:ze) (t:TG):Prop :=
 ∀ (e:List (zE×Obj)) (s:zI) (σ:St) (H:Hp) (v:V) (u:zD) (Q:St->Hp->Prop),Inv X e σ H s->zm v u->t v σ H Q ->
  wpAny (zN X.prog X.w) X.A (Qu c X.env u) (λ_ h=>∃ f g,Inv X e f g h/\Q f g) X.xe s
abbrev cf:=V->V->V->Hp->(Hp->Prop)->Prop
def C3 (X:Cx) (t:cf):Prop :=
 ∀ (c:List (zE×Obj)) (s:zI) (σ:St) (H:Hp) (o i v:V) (e f u:zD) (Q:Hp->Prop),Inv X c σ H s->zm o e->zm i f->zm v u->t o i v H Q ->
  wpAny (zN X.prog X.w) X.A (vX e f u) (λ_ h=>∃ g,Inv X c σ g h/\Q g) X.xe s
abbrev TIp:=V->V->Hp->VK->Prop
def PIp (X:Cx) (e:Operator) (t:TIp):Prop :=
 ∀ (c:List (zE×Obj)) (s:zI) (σ:St) (H:Hp) (x y:V) (v u:zD) (Q:VK),Inv X c σ H s->zm x v->zm y u->t x y H Q ->
  wpAny (zN X.prog X.w) X.A (Ai e v u) (EP X c σ Q) X.xe s
section
variable {X:Cx}{pos:Pos}
def zq (i:Nat):TG:=λv σ H Q=>Q (σ.set i (some v)) H
theorem GY {i:Nat}{x:Str} (e:X.N.Nodup) (hi:X.N[i]? = some x) (f:Loc X.env.scope x) (g:X.fn x=true\/X.env.scope.names.lookup x=some .local:=by first | exact .inl rfl | exact .inr rfl | assumption):PG X (.Name x pos) (zq i):=by
 intro c s σ H v u Q I r h;exact IE (bH I e hi f r (λl j=>⟨_,H,j,h⟩) g)
def eH (to ti:TE) (t:cf):TG:=λv σ H Q=>to σ H λo c=>ti σ c λi e=>t o i v e λf=>Q σ f
theorem Ed {to:TE} (g:PE X o to) (hi:PE X i ti) (hs:C3 X t)
  (ha:∀ v,Qu (.Subscript o i pos) X.env v=(do
   let e <- holding [v] (z0 o X.env)
   let f <- holding [v,e] (z0 i X.env)
   standAt pos
   holding [v,e,f] (vX e f v)
   release [v,e,f] []):=by intro _;rfl):PG X (.Subscript o i pos) (eH to ti t):=by
 intro c s σ H v u Q I r h;rw[ha];refine zQ (JO (zy (g c s σ H _ I h) λe j x l m n p=>?_));refine zQ (JO (zy (hi c j σ l _ m p) λf q y w z A B=>?_));refine zQ (CI (zQ (JO (thn (hs c q σ w x y v e f u _ z n A r B) λ_ J ⟨C,E,G⟩=>?_))));exact wpAny_release ⟨σ,C,E,G⟩
def WX (te:TE) (g:TG):TS:=λD σ H=>te σ H λx c=>g x σ c D.nx
theorem lF (f:PE X e te) (i:PG X tg g) (hs:dJ [tg] e pos.line X.env=pure false:=by rfl) (hw:ba [tg] e X.env=pure none:=by rfl)
  (j:(Wx [tg] X.env).map (·.2)=[Qu tg X.env]:=by rfl):PS X (.Assign [tg] e pos) (WX te g):=by
 intro c s σ H D I h;refine wpAny_Assign_stores (zy (f c s σ H _ I h) λv l x m n o p=>?_) hs hw;rw[j];exact thn (i c l σ m x v _ n o p) λ_ r q=>q
theorem HJ {i:Nat}{x:Str}{pos':Pos} (f:X.N.Nodup) (hi:X.N[i]? = some x) (g:Loc X.env.scope x) (j:PE X e te) (hs:Qc e (some (.Name x pos')) pos.line X.env=pure false:=by rfl) (l:X.fn x=true\/X.env.scope.names.lookup x=some .local:=by first | exact .inl rfl | exact .inr rfl | assumption) :
  PS X (.Assign [.Name x pos'] e pos) (WX te (zq i)):=by
 intro c s σ H D I h;refine wpAny_Assign_Name (zy (j c s σ H _ I h) λv r y m n o p=>?_) hs;exact bH n f hi g o (λt q=>⟨_,m,q,p⟩) l
noncomputable def ipI (f:Int->Int->Int):TIp:=λx y H Q=>∃ i j,x=.int i/\y=.int j/\Q (.int (f i j)) H
theorem fP:PIp X .Add (ipI λi j=>i+j):=by
 intro c s σ H x y v u Q I e f h;obtain⟨i,j,g,l,q⟩:=h;subst g;subst l;obtain⟨t,rfl⟩:=e;obtain⟨t',rfl⟩:=f;exact iadd_int ⟨.int _,H,I.tok _,⟨_,rfl⟩,q⟩
end
section
variable {X:Cx}{pos:Pos}
def IG (c:TT) (i:TS):TS:=λD σ H=>∃ W:Nat->St->Hp->Prop,(∃ m,W m σ H)/\∀ m σ H,W m σ H ->
 c σ H λb f=>if b=true then ∃ N:St->Hp->Prop,(∀ e g,N e g->∃ h,h < m/\W h e g)/\i { D with nx:=N,ct:=N,bk:=D.nx } σ f else D.nx σ f
theorem Ls (y:vp (zN X.prog X.w) X.A X.env X.xe) (J:PT X c L) (M:PSs X j Q):PS X (.While c j [] pos) (IG L Q):=by
 intro e s σ H D I h;obtain⟨W,⟨U,Y⟩,l⟩:=h;refine wpAny_While (codeAny_whileLoop (λn s'=>∃ m z,Inv X e m z s'/\W n m z) ?_ U ⟨σ,H,I,Y⟩)
 rintro n s1 ⟨i,B,I1,w1⟩
 refine kI y (thn (J e s1 i B _ I1 (l n i B w1)) λb s2 ⟨C,E,p⟩=>?_);cases b with
 | true =>
  obtain⟨N,G,p⟩:=p;rw[if_pos rfl];refine kI y (thn (M e s2 i C _ E p) λf s3 q=>?_);cases f with
  | next =>
   obtain⟨g,o,r,t⟩:=q;obtain⟨u,hm,x⟩:=G g o t;exact⟨u,hm,g,o,r,x⟩
  | cont =>
   obtain⟨g,o,r,t⟩:=q;obtain⟨u,hm,x⟩:=G g o t;exact⟨u,hm,g,o,r,x⟩
  | brk=>exact q
  | ret v=>exact q
 | false =>
  rw[if_neg qM];exact wpAny_execs_nil ⟨i,C,E,p⟩
end
structure It where
 go:Nat->Hp->Prop
 yld:Nat->Hp->V->Hp->Prop
 stop:Nat->Hp->Prop
def JE (X:Cx) (e:List (zE×Obj)) (H:Hp) (b:zE):Prop :=
 H b=none/\b≠X.env.locals/\b∉X.fs/\(b∈X.ex\/X.s₀.heap.objs.size <= b)/\(∀ x c,X.env.cells.lookup x=some c->c≠b)/\∀ p∈X.pn++e,p.1≠b
theorem Inv.fpOk {X:Cx}{h:Hp}{b:zE} (I:Inv X f σ H s) (g:s.heap.objs.size <= b) (i:h b=none):JE X f h b:=by
 refine⟨i,Jy (qW I.lt g),I.nofs g,.inr (jr I.sz g),λx c e z=>?_,λp j z=>?_⟩
 ·obtain⟨v,q⟩:=I.cell x c e;exact absurd (qW q.lt (by rw[z];exact g)) (QF _)
 ·exact absurd (qW (jQ (I.pin p j).1) (by rw[z];exact g)) (QF _)
structure Q1 (P:jD) (w:jC) (K:PySem.W.Frag) (tg:ze) (J:It) (fp:List zE) (it:zE) (tn:Nat->zp->Prop):Prop where
 mem:it∈fp
 obj:∀ i h,tn i h->∀ b∈fp,∃ o,h.get? b=some o/\∀ v,o.data≠.cell v
 keep:∀ i h h',tn i h->(∀ b∈fp,∀ o,h.get? b=some o->h'.get? b=some o)->tn i h'
 item:∀ (X:Cx),X.prog=P->X.w=w->X.K=K->X.calm=true->∀ (i:Nat) (pins:List (zE×Obj)) (s:zI) (σ:St) (H:Hp) (E:zD->zI->Prop),Inv X pins σ H s->(∀ b∈fp,JE X pins H b)->tn i s.heap->J.go i H ->
  wpAny (zN P w) X.A (J7 (.ref it)) (λr s1=>∃ u,r=some u /\
   wpAny (zN P w) X.A (BG tg (.ref it) u) (λ_ s2=>∃ x H',Inv X pins σ H' s2/\zm x u/\J.yld i H x H'/\tn (i+1) s2.heap/\∀ b∈fp,H' b=none) E s1) E s
 done:∀ (X:Cx),X.prog=P->X.w=w->X.K=K->X.calm=true->∀ (i:Nat) (pins:List (zE×Obj)) (s:zI) (σ:St) (H:Hp) (E:zD->zI->Prop),Inv X pins σ H s->(∀ b∈fp,JE X pins H b)->tn i s.heap->J.stop i H ->
  wpAny (zN P w) X.A (J7 (.ref it)) (λr s1=>r=none/\Inv X pins σ H s1) E s
 self:∀ (A:jj) (i:Nat) (s:zI) (Q:zD->zI->Prop) (E:zD->zI->Prop),tn i s.heap->Q (.ref it) s->wpAny (zN P w) A (X3 (.ref it)) Q E s
abbrev TI:=St->Hp->(It->Hp->Prop)->Prop
def PIE (X:Cx) (c:List (zE×Obj)) (σ:St) (tg:ze) (R:It->Hp->Prop) (e:zD) (g:zI):Prop :=
 ∃ (it:zE) (h:List zE) (i:Nat->zp->Prop) (J:It) (f:Hp),e=.ref it/\Inv X c σ f g/\Q1 X.prog X.w X.K tg J h it i/\i 0 g.heap/\(∀ b∈h,JE X c f b)/\R J f
def PI (X:Cx) (tg e:ze) (f:TI):Prop :=
 ∀ (c:List (zE×Obj)) (s:zI) (σ:St) (H:Hp) (R:It->Hp->Prop),Inv X c σ H s->f σ H R ->
  wpAny (zN X.prog X.w) X.A (z0 e X.env) (λv g=>wpAny (zN X.prog X.w) X.A (X3 v) (PIE X c σ tg R) X.xe g) X.xe s
theorem xV {M:J3}{s:zI}{it:zE}{o:Obj}{n:String}{vs:Array zD}{Q:Unit->zI->Prop} (e:s.heap.get? it=some o) (f:o.cls=.type n) (hd:o.data=.fields vs)
  (g:["enumerate","zip","dict_itemiterator","dict_reverseitemiterator","odict_iterator","itertools.zip_longest","itertools.pairwise"].contains n=false) (c:Q () s):wpAny M A (BG tg (.ref it) u) Q E s:=by
 unfold BG;cases tg<;>first
  | exact wpAny_pure c
  | (cases u<;>first
      | exact wpAny_pure c
      | (refine zQ (wpAny_load e ?_)
         rw[f,hd];show wpAny M A (if (["enumerate","zip","dict_itemiterator","dict_reverseitemiterator","odict_iterator","itertools.zip_longest","itertools.pairwise"].contains n && vs[0]? == some (Qx _))=true then _ else _) Q E s;rw[if_neg (by intro h;rw[g,HG] at h;cases h)];exact wpAny_pure c))
noncomputable def Itl (K:PySem.W.Frag) (a:zE):It :=
 ⟨λi H=>∃ xs x,SqL K H a xs/\xs[i]? = some x,λi H x c=>c=H/\∀ xs,SqL K H a xs->xs[i]? = some x,λi H=>∃ xs,SqL K H a xs/\xs.length <= i⟩
noncomputable def Itt (K:PySem.W.Frag) (a:zE):It :=
 ⟨λi H=>∃ xs x,SqT K H a xs/\xs[i]? = some x,λi H x c=>c=H/\∀ xs,SqT K H a xs->xs[i]? = some x,λi H=>∃ xs,SqT K H a xs/\xs.length <= i⟩
noncomputable def Itr (lo:Int) (n:Nat):It:=⟨λi _=>i < n,λi H x c=>c=H/\x=.int (lo+i),λi _=>n <= i⟩
theorem mJ {P:jD}{K:PySem.W.Frag} (a it:zE):Q1 P w K tg (Itl K a) [it] it (λi h=>h.IsListIter it a i) where
 mem:=by simp
 obj:=λi h st b g=>by
  have e:b=it:=by simpa using g
  subst e;obtain⟨o,e,c,d⟩:=st;exact⟨o,e,λv z=>by rw[d] at z;cases z⟩
 keep:=λi h h' st k=>st.at λo e=>k it (by simp) o e
 item:=by
  intro X m hw n J i f s σ H E I l st q;subst m hw n;obtain⟨xs,x,hq,r⟩:=q;obtain⟨its,t,p,L⟩:=I.list hq;obtain⟨u,M,N⟩:=t.get r;obtain⟨y,A,Q,B,C,G⟩:=l it (by simp);refine wpAny_pyNext_list_item st p.isList (x:=u) (by simpa using M) λh' j sb=>?_;have U:Inv X f σ H { s with heap:=h' }:=I.turned (t':=s.toks) (λb o g e=>(sb.2 b g).trans e) y A B C G;obtain⟨o,e,c,d⟩:=id j;exact⟨u,rfl,xV (s:={ s with heap:=h' }) e c d (by decide) ⟨x,H,U,N,⟨rfl,λys Y=>by rw[I.list_inj Y hq];exact r⟩,j,λb g=>(l b g).1⟩⟩
 done:=by
  intro X m hw n J i f s σ H E I l st q;subst m hw n;obtain⟨xs,hq,r⟩:=q;obtain⟨its,t,p,L⟩:=I.list hq;obtain⟨y,A,Q,B,C,G⟩:=l it (by simp);have hl:=t.length;exact wpAny_pyNext_list_end (I.ok.hd J) st p.isList (by simp;lia) λh' eb=>⟨rfl,I.turned (t':=s.toks) (λb o g e=>eb b o g e) y A B C G⟩
 self:=λ_ _ _ _ _ st h=>wpAny_pyIter_listiter st h
theorem lC {P:jD}{K:PySem.W.Frag} (a it:zE):Q1 P w K tg (Itt K a) [it] it (λi h=>h.IsTupleIter it a i) where
 mem:=by simp
 obj:=λi h st b g=>by
  have e:b=it:=by simpa using g
  subst e;obtain⟨o,e,c,d⟩:=st;exact⟨o,e,λv z=>by rw[d] at z;cases z⟩
 keep:=λi h h' st k=>st.at λo e=>k it (by simp) o e
 item:=by
  intro X m hw n J i f s σ H E I l st q;subst m hw n;obtain⟨xs,x,hq,r⟩:=q;obtain⟨its,t,p,L⟩:=I.tuple hq;obtain⟨u,M,N⟩:=t.get r;obtain⟨y,A,Q,B,C,G⟩:=l it (by simp);refine wpAny_pyNext_tuple_item st (show s.heap.IsTuple a its.toArray from p) (x:=u) (by simpa using M) λh' j sb=>?_;have U:Inv X f σ H { s with heap:=h' }:=I.turned (t':=s.toks) (λb o g e=>(sb.2 b g).trans e) y A B C G;obtain⟨o,e,c,d⟩:=id j;exact⟨u,rfl,xV (s:={ s with heap:=h' }) e c d (by decide) ⟨x,H,U,N,⟨rfl,λys Y=>by rw[I.tuple_inj Y hq];exact r⟩,j,λb g=>(l b g).1⟩⟩
 done:=by
  intro X m hw n J i f s σ H E I l st q;subst m hw n;obtain⟨xs,hq,r⟩:=q;obtain⟨its,t,p,L⟩:=I.tuple hq;obtain⟨y,A,Q,B,C,G⟩:=l it (by simp);have hl:=t.length;exact wpAny_pyNext_tuple_end (I.ok.hd J) st (show s.heap.IsTuple a its.toArray from p) (by simp;lia) λh' eb=>⟨rfl,I.turned (t':=s.toks) (λb o g e=>eb b o g e) y A B C G⟩
 self:=λ_ _ _ _ _ st h=>wpAny_pyIter_tupleiter st h
theorem IR {P:jD}{K:PySem.W.Frag} (it:zE) (lo:Int) (n:Nat):Q1 P w K tg (Itr lo n) [it] it (λi h=>IsRangeIter h it (lo+(i:Nat) * 1) ((n:Int) - (i:Nat)) 1) where
 mem:=by simp
 obj:=λi h st b f=>by
  have e:b=it:=by simpa using f
  subst e;exact⟨_,st,λv z=>by
   have B:Data.fields _=Data.cell v:=z;cases B⟩
 keep:=λi h h' st k=>k it (by simp) _ st
 item:=by
  intro X l hw m p i c s σ H E I j st q;subst l hw m;obtain⟨r,u,C,x,y,A⟩:=j it (by simp);have W:=Walks.range (prog:=X.prog) (w:=X.w) (I.ok.hd p) it lo 1 n;refine yG (n:=1) I.tk (W.item i s _ _ q st λv h' tk hv g G J=>?_);obtain⟨t,rfl⟩:=hv;have L:Inv X c σ H { s with heap:=h',toks:=tk }:=I.turned (λb o f e=>G b o (by simpa using f) e) r u x y A;refine⟨_,rfl,xV (s:={ s with heap:=h',toks:=tk }) (n := "range_iterator") g rfl rfl (by decide) ⟨.int (lo+i),H,L,⟨t,?_⟩,⟨rfl,rfl⟩,g,λb f=>(j b f).1⟩⟩;rw[Int.mul_one]
 done:=by
  intro X l hw m p i c s σ H E I j st q;subst l hw m;obtain⟨r,u,C,x,y,A⟩:=j it (by simp);exact wpAny_pyNext_range_end (I.ok.hd p) st (by have:n <= i:=q;lia) λh' M=>⟨rfl,I.turned (t':=s.toks) (λb o f e=>M b o f e) r u x y A⟩
 self:=λ_ _ _ _ _ st h=>wpAny_pyIter_rangeiter st h
section
variable {X:Cx}{tg:ze}
def lN (K:PySem.W.Frag) (e:TE):TI:=λσ H R=>e σ H λx c=>∃ a,x=.ref a/\(∃ xs,SqL K c a xs)/\R (Itl K a) c
def L7 (K:PySem.W.Frag) (e:TE):TI:=λσ H R=>e σ H λx c=>∃ a,x=.ref a/\(∃ xs,SqT K c a xs)/\R (Itt K a) c
theorem HK (i:PE X l j):PI X tg l (lN X.K j):=by
 intro c s σ H R I h;refine zy (i c s σ H _ I h) λv f x m g n r=>?_;obtain⟨a,e,⟨xs,hq⟩,q⟩:=r;subst e;cases n;obtain⟨its,u,p,w⟩:=g.list hq;refine Vw p.isList ?_;refine⟨f.heap.objs.size,[f.heap.objs.size],_,_,m,rfl,g.kept (t':=f.toks) λb o e=>jd _ e,mJ a _,⟨_,qd _ rfl,rfl,rfl⟩,λb t=>?_,q⟩;have e:b=f.heap.objs.size:=by simpa using t
 subst e;exact g.fpOk (zg _) (g.hok.fresh (zg _))
theorem mz (i:PE X l j):PI X tg l (L7 X.K j):=by
 intro c s σ H R I h;refine zy (i c s σ H _ I h) λv f x m g n r=>?_;obtain⟨a,e,⟨xs,hq⟩,q⟩:=r;subst e;cases n;obtain⟨its,u,p,w⟩:=g.tuple hq;refine wpAny_pyIter_tuple (show f.heap.IsTuple a its.toArray from p) ?_;refine⟨f.heap.objs.size,[f.heap.objs.size],_,_,m,rfl,g.kept (t':=f.toks) λb o e=>jd _ e,lC a _,⟨_,qd _ rfl,rfl,rfl⟩,λb t=>?_,q⟩;have e:b=f.heap.objs.size:=by simpa using t
 subst e;exact g.fpOk (zg _) (g.hok.fresh (zg _))
theorem cj {R:It->Hp->Prop}{lo hi:Int}{t u v:Tok}{tk:Nat} (I:Inv X c σ H s) (g:-(2 ^ 62) <= lo) (h:lo < 2 ^ 62) (i:-(2 ^ 62) <= hi) (j:hi < 2 ^ 62)
  (q:R (Itr lo (hi - lo).toNat) H) (l:0 < tk:=by first | exact ZM _ | assumption | exact Inv.tk (by assumption) | lia):wpAny (zN X.prog X.w) X.A (X3 (.ref s.heap.objs.size)) (PIE X c σ tg R) E { s with heap:=s.heap.push { cls:=.type "range",data:=.fields #[.int lo t,.int hi u,.int 1 v] },toks:=tk }:=by
 refine wpAny_pyIter_range (IsRange.new ..) (small_one g h i j) ?_;have f:Inv X c σ H { s with heap:=s.heap.push { cls:=.type "range",data:=.fields #[.int lo t,.int hi u,.int 1 v] },toks:=tk }:=I.kept λb o e=>jd _ e;refine⟨(s.heap.push { cls:=.type "range",data:=.fields #[.int lo t,.int hi u,.int 1 v] }).objs.size,[(s.heap.push { cls:=.type "range",data:=.fields #[.int lo t,.int hi u,.int 1 v] }).objs.size],_,_,H,rfl,
  f.kept (t':=tk) λb o e=>jd _ e,IR _ lo (hi - lo).toNat,?_,λb m=>?_,q⟩
 ·have n:lo+((0:Nat):Int) * 1=lo:=by simp
  have p:(((hi - lo).toNat:Nat):Int) - ((0:Nat):Int)=MF lo hi 1:=by rw[rangeSize_one];split<;>lia
  show IsRangeIter _ _ (lo+((0:Nat):Int) * 1) ((((hi - lo).toNat:Nat):Int) - ((0:Nat):Int)) 1;rw[n,p];exact qd _ rfl
 ·have e:b=(s.heap.push { cls:=.type "range",data:=.fields #[.int lo t,.int hi u,.int 1 v] }).objs.size:=by simpa using m
  subst e;exact f.fpOk (zg _) (f.hok.fresh (zg _))
def Fo (c:TA):TI:=λσ H R=>c σ H λvs e=>∃ j:Int,vs=[.int j] /\ -(2 ^ 62) <= j/\j < 2 ^ 62/\R (Itr 0 j.toNat) e
def EU (c:TA):TI:=λσ H R=>c σ H λvs e=>∃ i j:Int,vs=[.int i,.int j]/\(-(2 ^ 62) <= i/\i < 2 ^ 62 /\ -(2 ^ 62) <= j/\j < 2 ^ 62)/\R (Itr i (j - i).toNat) e
theorem lQ {a:ze}{p pos:Pos} (g:Gl X "range") (hm:X.mg "range" = none) (ha:PA X [a] i) (hs:jY [a] X.env=[(false,z0 a X.env)]:=by rfl):PI X tg (.Call (.Name "range" p) [a] [] pos) (Fo i):=by
 intro c s σ H R I h;refine Call_ (xl I g hm boot_range (Va (zy (ha pos c s σ H _ I h) λus u vs v l m f=>?_) hs rfl));obtain⟨j,e,f,n,q⟩:=f;subst e;cases m with
 | cons r o =>
  cases o;obtain⟨t,rfl⟩:=r;exact call_range_1 (cj l (by lia) (by lia) f n (by simpa using q))
theorem ER {a b:ze}{p pos:Pos} (m:Gl X "range") (hm:X.mg "range" = none) (ha:PA X [a,b] n) (hs:jY [a,b] X.env=[(false,z0 a X.env),(false,z0 b X.env)]:=by rfl) (c:jY [b] X.env=[(false,z0 b X.env)]:=by rfl) :
  PI X tg (.Call (.Name "range" p) [a,b] [] pos) (EU n):=by
 intro f s σ H R I h;refine Call_ (xl I m hm boot_range (Va (zy (ha pos f s σ H _ I h) λus z vs A o u g=>?_) (by rw[hs,c]) (by rw[c];rfl)));obtain⟨i,j,e,⟨g,v,w,x⟩,q⟩:=g;subst e;cases u with
 | cons r l =>
  cases l with
  | cons y l =>
   cases l;obtain⟨t,rfl⟩:=r;obtain⟨t',rfl⟩:=y;exact call_range_2 (cj o g v w x q)
def L6 (j:TI) (g:TG) (l:TS):TS:=λD σ H=>j σ H λJ n=>∃ W:Nat->Nat->St->Hp->Prop,(∃ m,W 0 m σ n)/\∀ i m σ H,W i m σ H ->
 (J.stop i H/\D.nx σ H)\/(J.go i H/\∃ N:St->Hp->Prop,(∀ c e,N c e->∃ h,h < m/\W (i+1) h c e)/\∀ x e,J.yld i H x e->g x σ e λf o=>l { D with nx:=N,ct:=N,bk:=D.nx } f o)
noncomputable def QV (c:List zE) (h:zp):List (zE×Obj):=c.filterMap λb=>(h.get? b).map λo=>(b,o)
theorem vY {c:List zE}{h:zp}{b:zE}{o:Obj} (f:b∈c) (e:h.get? b=some o):(b,o)∈QV c h:=List.mem_filterMap.mpr ⟨b,f,by rw[e];rfl⟩
theorem Cg {p:zE×Obj} (c:p∈QV f h):p.1∈f/\h.get? p.1=some p.2:=by
 obtain⟨b,g,e⟩:=List.mem_filterMap.mp c;cases q:h.get? b with
 | none=>rw[q] at e;cases e
 | some o =>
  rw[q] at e;have i:(b,o)=p:=Qm e;subst i;exact⟨g,q⟩
theorem Inv.pinned {f:List zE} (I:Inv X c σ H s) (i:∀ b∈f,JE X c H b) (j:∀ b∈f,∃ o,s.heap.get? b=some o/\∀ v,o.data≠.cell v):Inv X (c++QV f s.heap) σ H s :=
 I.pins_of λp l=>(List.mem_append.mp l).elim (λz=>I.pin p (Zp _ z)) λz=>by
  obtain⟨g,e⟩:=Cg z;obtain⟨m,n,q,_⟩:=i p.1 g;obtain⟨o,h,d⟩:=j p.1 g;rw[e] at h;cases h;exact⟨e,m,n,q,d⟩
theorem Inv.unpinned {c pl:List (zE×Obj)} (I:Inv X (c++pl) σ H s):Inv X c σ H s:=I.pins_of λp e=>I.pin p (Zp _ (uP _ e))
theorem BO {pos:Pos} (G:vp (zN X.prog X.w) X.A X.env X.xe) (hc:X.calm=true) (hi:PI X tg B wi) (hg:PG X tg g) (l:PSs X L tb)
  (hs:∀ x,Jh B X.env x=pure x:=by intro _;rfl):PS X (.For tg B L [] pos) (L6 wi g tb):=by
 intro c s σ H D I h;refine wpAny_For (thn (hi c s σ H _ I h) λv s1 h1=>thn h1 λitv s2 h2=>?_) hs;obtain⟨it,M,tn,J,H2,e,I2,T,st2,f2,W,⟨m0,w0⟩,Q⟩:=h2;subst e;have p:∀ {z:Hp},(∀ b∈M,z b=none)->∀ b∈M,JE X c z b:=λhn b l=>⟨hn b l,(f2 b l).2⟩
 refine codeAny_forLoop_any (λn s'=>∃ i q z,Inv X c q z s'/\tn i s'.heap/\(∀ b∈M,z b=none)/\W i n q z) ?_ m0 ⟨0,σ,H2,I2,st2,λb l=>(f2 b l).1,w0⟩
 rintro n s3 ⟨i,t,H3,I3,st3,U,w3⟩
 rcases Q i n t H3 w3 with ⟨stop,qn⟩ | ⟨go,N,hN,step⟩
 ·refine kI G (thn (T.done X rfl rfl rfl hc i c s3 t H3 X.xe I3 (p U) st3 stop) λr s4 ⟨hr,I4⟩=>?_);subst hr;exact wpAny_execs_nil ⟨t,H3,I4,qn⟩
 ·refine kI G (thn (T.item X rfl rfl rfl hc i c s3 t H3 X.xe I3 (p U) st3 go) λr s4 ⟨u,hr,h4⟩=>?_);subst hr;refine kI G (thn h4 λ_ s5 ⟨x,H5,I5,r5,y5,E,fr5⟩=>?_);have I5':=I5.pinned (p fr5) (T.obj _ _ E);refine kI G (thn (hg _ s5 t H5 x u _ I5' r5 (step x H5 y5)) λ_ s6 ⟨σ6,H6,I6,q6⟩=>?_);refine kI G (thn (l _ s6 σ6 H6 _ I6 q6) λf s7 C=>?_);have again:∀ {j:St}{H7:Hp},Inv X (c++QV M s5.heap) j H7 s7->N j H7->∃ m,m < n/\∃ i q z,Inv X c q z s7/\tn i s7.heap/\(∀ b∈M,z b=none)/\W i m q z:=λ{j H7} y Y=>by
   obtain⟨m',hm,w7⟩:=hN j H7 Y;refine⟨m',hm,i+1,j,H7,y.unpinned,T.keep _ _ _ E λb l o e=>(y.pin (b,o) (Zp _ (Zp _ (vY l e)))).1,λb l=>?_,w7⟩;obtain⟨o,e,d⟩:=T.obj _ _ E b l;exact (y.pin (b,o) (Zp _ (Zp _ (vY l e)))).2.1
  cases f with
  | next=>obtain⟨j,H7,y,Y⟩:=C;exact again y Y
  | cont=>obtain⟨j,H7,y,Y⟩:=C;exact again y Y
  | brk=>obtain⟨j,H7,y,C⟩:=C;exact⟨j,H7,y.unpinned,C⟩
  | ret v=>obtain⟨x7,j,H7,y,r7,C⟩:=C;exact⟨x7,j,H7,y.unpinned,r7,C⟩
end
abbrev R2:=V->V->Hp->VK->Prop
def OpR (X:Cx) (f:zD->zD->Sem zD) (r:R2):Prop :=
 ∀ (c:List (zE×Obj)) (s:zI) (σ:St) (H:Hp) (x y:V) (v u:zD) (Q:VK),Inv X c σ H s->zm x v->zm y u->r x y H Q ->
  wpAny (zN X.prog X.w) X.A (f v u) (EP X c σ Q) X.xe s
def UnR (X:Cx) (f:zD->Sem zD) (r:V->Hp->VK->Prop):Prop :=
 ∀ (c:List (zE×Obj)) (s:zI) (σ:St) (H:Hp) (x:V) (v:zD) (Q:VK),Inv X c σ H s->zm x v->r x H Q ->
  wpAny (zN X.prog X.w) X.A (f v) (EP X c σ Q) X.xe s
def jx (X:Cx) (f:zD) (r:List V->Hp->VK->Prop):Prop :=
 ∀ (c:List (zE×Obj)) (s:zI) (σ:St) (H:Hp) (xs:List V) (us:List zD) (Q:VK),Inv X c σ H s->zd xs us->r xs H Q ->
  wpAny (zN X.prog X.w) X.A (call f us) (EP X c σ Q) X.xe s
def GJ (X:Cx) (r:V->Hp->(Bool->Hp->Prop)->Prop):Prop :=
 ∀ (c:List (zE×Obj)) (s:zI) (σ:St) (H:Hp) (x:V) (v:zD) (Q:Bool->Hp->Prop),Inv X c σ H s->zm x v->r x H Q ->
  wpAny (zN X.prog X.w) X.A (truthy v) (TP X c σ Q) X.xe s
def tOp (r:R2) (c e:TE):TE:=λσ H Q=>c σ H λx f=>e σ f λy g=>r x y g Q
def tUn (r:V->Hp->VK->Prop) (c:TE):TE:=λσ H Q=>c σ H λx e=>r x e Q
def rI (C:Int->Int->Prop) (g:Int->Int->V):R2:=λx y H Q=>∃ i j,x=.int i/\y=.int j/\C i j/\Q (g i j) H
def rI0 (g:Int->Int->V):R2:=λx y H Q=>∃ i j,x=.int i/\y=.int j/\Q (g i j) H
noncomputable def rU (g:Int->V):V->Hp->VK->Prop:=λx H Q=>∃ i,x=.int i/\Q (g i) H
section
variable {X:Cx}{a b c:ze}{ta tb tc:TE}{pos:Pos}
theorem uA (ha:PE X a ta) (n:PE X b tb) {R:V->V->Hp->Prop} (I:Inv X e σ H s)
  (h:ta σ H λx m=>tb σ m λy g=>R x y g) {f:zD->zD->Sem zD}
  (o:∀ v u l x y g,Inv X e σ g l->zm x v->zm y u->R x y g->wpAny (zN X.prog X.w) X.A (f v u) Q X.xe l) :
  wpAny (zN X.prog X.w) X.A (z0 a X.env) (λv i=>wpAny (zN X.prog X.w) X.A (z0 b X.env) (λu j=>wpAny (zN X.prog X.w) X.A (f v u) Q X.xe j) X.xe i) X.xe s:=by
 refine zy (ha e s σ H _ I h) λv p x m q r t=>?_;refine zy (n e p σ m _ q t) λu l y g z B C=>?_;exact o v u l x y g z r B C
theorem mH (f:OpR X (yW g) r) (ha:PE X a ta) (i:PE X b tb):PE X (.BinOp a g b pos) (tOp r ta tb):=by
 intro e s σ H Q I h;exact wpAny_BinOp (uA ha i I h λv u j x y l m rx ry q=>f e j σ l x y v u Q m rx ry q)
theorem Wv (f:UnR X (unaryOp g) r) (ha:PE X a ta):PE X (.UnaryOp g a pos) (tUn r ta):=by
 intro e s σ H Q I h;exact UnaryOp_ (zy (ha e s σ H _ I h) λv i x j l m n=>f e i σ j x v Q l m n)
theorem opI {f:zD->zD->Sem zD}{C:Int->Int->Prop}{g:Int->Int->Int}
  (Zy:∀ (i j:Int) (t u:Tok) (s:zI) (Q:zD->zI->Prop) (E:zD->zI->Prop),C i j->Q (.int (g i j) s.toks) { s with toks:=s.toks+1 }->wpAny (zN X.prog X.w) X.A (f (.int i t) (.int j u)) Q E s) :
  OpR X f (rI C λi j=>.int (g i j)):=by
 intro e s σ H x y v u Q I rx ry h;obtain⟨i,j,rfl,rfl,l,q⟩:=h;obtain⟨t,rfl⟩:=rx;obtain⟨t',rfl⟩:=ry;exact Zy i j t t' s _ _ l ⟨.int (g i j),H,I.tok _,⟨_,rfl⟩,q⟩
theorem AY {f:zD->zD->Sem zD}{g:Int->Int->Int}
  (Zy:∀ (i j:Int) (t u:Tok) (s:zI) (Q:zD->zI->Prop) (E:zD->zI->Prop),Q (.int (g i j) s.toks) { s with toks:=s.toks+1 }->wpAny (zN X.prog X.w) X.A (f (.int i t) (.int j u)) Q E s) :
  OpR X f (rI0 λi j=>.int (g i j)):=by
 intro e s σ H x y v u Q I rx ry h;obtain⟨i,j,rfl,rfl,q⟩:=h;obtain⟨t,rfl⟩:=rx;obtain⟨t',rfl⟩:=ry;exact Zy i j t t' s _ _ ⟨.int (g i j),H,I.tok _,⟨_,rfl⟩,q⟩
theorem UC {f:zD->zD->Sem zD}{g:Int->Int->Bool}
  (Zy:∀ (i j:Int) (t u:Tok) (s:zI) (Q:zD->zI->Prop) (E:zD->zI->Prop),Q (.bool (g i j)) s->wpAny (zN X.prog X.w) X.A (f (.int i t) (.int j u)) Q E s) :
  OpR X f (rI0 λi j=>.bl (g i j)):=by
 intro e s σ H x y v u Q I rx ry h;obtain⟨i,j,rfl,rfl,q⟩:=h;obtain⟨t,rfl⟩:=rx;obtain⟨t',rfl⟩:=ry;exact Zy i j t t' s _ _ ⟨.bl (g i j),H,I,rfl,q⟩
def Lf (i j:Int):Prop:=0 < j/\j < 1073741824
def Ve (i j:Int):Prop:=(-(2 ^ 64) < i/\i < 2 ^ 64)\/(-(2 ^ 64) < j/\j < 2 ^ 64)
theorem Ve.ok (h:Ve i j):IntMulOk i j:=by
 rcases h with ⟨e,f⟩ | ⟨e,f⟩
 ·exact .of_left (intBits_le_64 e f)
 ·exact .of_right (intBits_le_64 e f)
theorem gi:OpR X (yW .Add) (rI0 λi j=>.int (i+j)):=AY λ_ _ _ _ _ _ _ q=>add_int q
theorem d9:OpR X (yW .Sub) (rI0 λi j=>.int (i - j)):=AY λ_ _ _ _ _ _ _ q=>sub_int q
theorem FK:OpR X (yW .Mult) (rI Ve λi j=>.int (i * j)):=opI λ_ _ _ _ _ _ _ e q=>mul_int q e.ok
theorem Lq:OpR X (yW .FloorDiv) (rI Lf λi j=>.int (i / j)):=opI λi j _ _ _ _ _ e q=>by
 have f:(0:Int) < j:=e.1;have g:j < 1073741824:=e.2;exact floordiv_int (by lia) (by rw[Int.fdiv_eq_ediv_of_nonneg i (by lia)];exact q) (.inl (PyProof.noPylong_small (by lia)))
theorem Es:OpR X (yW .Mod) (rI (λ_ j=>0 < j) λi j=>.int (i % j)):=opI λi j _ _ _ _ _ e q=>by
 have f:(0:Int) < j:=e;exact mod_int' (by lia) (by rw[Int.fmod_eq_emod_of_nonneg i (by lia)];exact q)
theorem unI {f:zD->Sem zD}{g:Int->Int}
  (Zy:∀ (i:Int) (t:Tok) (s:zI) (Q:zD->zI->Prop) (E:zD->zI->Prop),Q (.int (g i) s.toks) { s with toks:=s.toks+1 }->wpAny (zN X.prog X.w) X.A (f (.int i t)) Q E s) :
  UnR X f (rU λi=>.int (g i)):=by
 intro e s σ H x v Q I rx h;obtain⟨i,rfl,q⟩:=h;obtain⟨t,rfl⟩:=rx;exact Zy i t s _ _ ⟨.int (g i),H,I.tok _,⟨_,rfl⟩,q⟩
theorem cJ:UnR X (unaryOp .USub) (rU λi=>.int (-i)):=unI λ_ _ _ _ _ q=>neg_int q
end
noncomputable def XI:V->V->Bool
 | .non,.non=>true | .non,.int _=>true | .int _,.non=>true | .non,.bl _=>true | .bl _,.non=>true | .non,.str _=>true | .str _,.non=>true
 | .int _,.int _=>true | .bl _,.bl _=>true | .str _,.str _=>true | .byt _,.byt _=>true
 | .int _,.str _=>true | .str _,.int _=>true | .bl _,.str _=>true | .str _,.bl _=>true
 | _,_=>false
def rEq:R2:=λx y H Q=>XI x y=true/\Q (.bl (decide (x=y))) H
def rNe:R2:=λx y H Q=>XI x y=true/\Q (.bl (!decide (x=y))) H
theorem aj {i j:Int}:decide (V.int i=V.int j)=(i == j):=by
 rw[wF];simp
theorem cV {i j:Bool}:decide (V.bl i=V.bl j)=(i == j):=by
 rw[wF];simp
theorem CW {i j:Str}:decide (V.str i=V.str j)=(i == j):=by
 rw[wF];simp
theorem Af {i j:Array UInt8}:decide (V.byt i=V.byt j)=(i.toList == j.toList):=by
 rw[wF];cases i;cases j;simp
section
variable {X:Cx}{a b c:ze}{ta tb tc:TE}{pos:Pos}
theorem jm {Q:VK}{k g:Bool} (I:Inv X f σ H s) (q:Q (.bl k) H) (e:k=g):EP X f σ Q (.bool g) s:=by
 subst e;exact⟨.bl k,H,I,rfl,q⟩
theorem DL:OpR X (jZ .Eq) rEq:=by
 intro e s σ H x y v u Q I rx ry h;obtain⟨hs,q⟩:=h;cases x with
 | non =>
  cases rx;cases y with
  | non=>cases ry;exact PySem.EqNone.eq_none_none (jm I q (by simp))
  | bl j=>cases ry;exact PySem.EqNone.eq_none_bool (jm I q (by simp))
  | int j=>obtain⟨t',rfl⟩:=ry;exact PySem.EqNone.eq_none_int (jm I q (by simp))
  | str j=>obtain⟨t',rfl⟩:=ry;exact PySem.EqNone.eq_none_str (jm I q (by simp))
  | _=>exact absurd (show false=true from hs) qM
 | bl i =>
  cases rx;cases y with
  | non=>cases ry;exact PySem.EqNone.eq_bool_none (jm I q (by simp))
  | bl j=>cases ry;exact eq_bool (jm I q cV)
  | str j=>obtain⟨t',rfl⟩:=ry;exact PySem.EqMixed.eq_bool_str (jm I q (by simp))
  | _=>exact absurd (show false=true from hs) qM
 | int i =>
  obtain⟨t,rfl⟩:=rx;cases y with
  | non=>cases ry;exact PySem.EqNone.eq_int_none (jm I q (by simp))
  | int j=>obtain⟨t',rfl⟩:=ry;exact eq_int (jm I q aj)
  | str j=>obtain⟨t',rfl⟩:=ry;exact PySem.EqMixed.eq_int_str (jm I q (by simp))
  | _=>exact absurd (show false=true from hs) qM
 | str i =>
  obtain⟨t,rfl⟩:=rx;cases y with
  | non=>cases ry;exact PySem.EqNone.eq_str_none (jm I q (by simp))
  | bl j=>cases ry;exact PySem.EqMixed.eq_str_bool (jm I q (by simp))
  | int j=>obtain⟨t',rfl⟩:=ry;exact PySem.EqMixed.eq_str_int (jm I q (by simp))
  | str j=>obtain⟨t',rfl⟩:=ry;exact eq_str (jm I q CW)
  | _=>exact absurd (show false=true from hs) qM
 | byt i =>
  obtain⟨t,rfl⟩:=rx;cases y with
  | byt j=>obtain⟨t',rfl⟩:=ry;exact PySem.W.eq_bytes (jm I q Af)
  | _=>exact absurd (show false=true from hs) qM
 | _=>cases y<;>exact absurd (show false=true from hs) qM
theorem G0:OpR X (jZ .NotEq) rNe:=by
 intro e s σ H x y v u Q I rx ry h;obtain⟨hs,q⟩:=h;cases x with
 | non =>
  cases rx;cases y with
  | non=>cases ry;exact PySem.EqNone.ne_none_none (jm I q (by simp))
  | bl j=>cases ry;exact PySem.EqNone.ne_none_bool (jm I q (by simp))
  | int j=>obtain⟨t',rfl⟩:=ry;exact PySem.EqNone.ne_none_int (jm I q (by simp))
  | str j=>obtain⟨t',rfl⟩:=ry;exact PySem.EqNone.ne_none_str (jm I q (by simp))
  | _=>exact absurd (show false=true from hs) qM
 | bl i =>
  cases rx;cases y with
  | non=>cases ry;exact PySem.EqNone.ne_bool_none (jm I q (by simp))
  | bl j=>cases ry;exact ne_bool (jm I q (congrArg not cV))
  | str j=>obtain⟨t',rfl⟩:=ry;exact PySem.EqMixed.ne_bool_str (jm I q (by simp))
  | _=>exact absurd (show false=true from hs) qM
 | int i =>
  obtain⟨t,rfl⟩:=rx;cases y with
  | non=>cases ry;exact PySem.EqNone.ne_int_none (jm I q (by simp))
  | int j=>obtain⟨t',rfl⟩:=ry;exact ne_int (jm I q (congrArg not aj))
  | str j=>obtain⟨t',rfl⟩:=ry;exact PySem.EqMixed.ne_int_str (jm I q (by simp))
  | _=>exact absurd (show false=true from hs) qM
 | str i =>
  obtain⟨t,rfl⟩:=rx;cases y with
  | non=>cases ry;exact PySem.EqNone.ne_str_none (jm I q (by simp))
  | bl j=>cases ry;exact PySem.EqMixed.ne_str_bool (jm I q (by simp))
  | int j=>obtain⟨t',rfl⟩:=ry;exact PySem.EqMixed.ne_str_int (jm I q (by simp))
  | str j=>obtain⟨t',rfl⟩:=ry;exact ne_str (jm I q (congrArg not CW))
  | _=>exact absurd (show false=true from hs) qM
 | byt i =>
  obtain⟨t,rfl⟩:=rx;cases y with
  | byt j=>obtain⟨t',rfl⟩:=ry;exact PySem.W.ne_bytes (jm I q (congrArg not Af))
  | _=>exact absurd (show false=true from hs) qM
 | _=>cases y<;>exact absurd (show false=true from hs) qM
theorem lH:OpR X (jZ .Lt) (rI0 λi j=>.bl (decide (i < j))):=UC λ_ _ _ _ _ _ _ q=>lt_int q
theorem gX:OpR X (jZ .LtE) (rI0 λi j=>.bl (decide (i <= j))):=UC λ_ _ _ _ _ _ _ q=>le_int q
theorem D6:OpR X (jZ .Gt) (rI0 λi j=>.bl (decide (j < i))):=UC λ_ _ _ _ _ _ _ q=>gt_int q
theorem D3:OpR X (jZ .Lt) (λx y H Q=>∃ i j,x=.str i/\y=.str j/\Q (.bl (decide (i.cps.toList < j.cps.toList))) H):=by
 intro e s σ H x y v u Q I rx ry h;obtain⟨i,j,rfl,rfl,q⟩:=h;obtain⟨t,rfl⟩:=rx;obtain⟨t',rfl⟩:=ry;exact lt_str (jm I q rfl)
theorem gU:OpR X (jZ .In) (λx y H Q=>∃ i j,x=.str i/\y=.str j/\Q (.bl (!(xX j i 0 j.length 1).isEmpty)) H):=by
 intro e s σ H x y v u Q I rx ry h;obtain⟨i,j,rfl,rfl,q⟩:=h;obtain⟨t,rfl⟩:=rx;obtain⟨t',rfl⟩:=ry;exact in_str (jm I q rfl)
theorem iN:OpR X (jZ .NotIn) (λx y H Q=>∃ i j,x=.str i/\y=.str j/\Q (.bl (!(!(xX j i 0 j.length 1).isEmpty))) H):=by
 intro e s σ H x y v u Q I rx ry h;obtain⟨i,j,rfl,rfl,q⟩:=h;obtain⟨t,rfl⟩:=rx;obtain⟨t',rfl⟩:=ry;exact notIn_str (jm I q rfl)
theorem OpR.or (h:OpR X f r) (h':OpR X f g):OpR X f (λx y H Q=>r x y H Q\/g x y H Q):=by
 intro e s σ H x y v u Q I rx ry q;rcases q with q | q
 ·exact h e s σ H x y v u Q I rx ry q
 ·exact h' e s σ H x y v u Q I rx ry q
theorem xu (b:ze) {e:CmpOp} (h:e≠.In:=by decide) (f:e≠.NotIn:=by decide):Jn e b=false:=by
 have g:(e == fM)=false:=by cases e<;>first | rfl | exact absurd rfl h
 have i:(e == Fv)=false:=by cases e<;>first | rfl | exact absurd rfl f
 cases b<;>simp[Jn,g,i]
theorem Hf (g:OpR X (jZ f) r) (ha:PE X a ta) (i:PE X b tb) (hm:Jn f b=false):PE X (.Compare a [f] [b] pos) (tOp r ta tb):=by
 intro e s σ H Q I h;exact wpAny_Compare1 (uA ha i I h λv u j x y l m rx ry q=>g e j σ l x y v u Q m rx ry q) hm
def BN (t:TE):TT:=λσ H Q=>t σ H λx e=>∃ k,x=.bl k/\Q k e
theorem E6 (i:OpR X (jZ g) r) (ha:PE X a ta) (j:PE X b tb) (hm:Jn g b=false):PT X (.Compare a [g] [b] pos) (BN (tOp r ta tb)):=by
 intro f s σ H Q I h;refine iH (zy (ha f s σ H _ I h) λv l x m n o p=>zy (j f l σ m _ n p) λu q y t w A B =>
  zy (i f q σ t x y v u _ w o A B) λc L z C E G ⟨k,e,J⟩=>?_) hm
 subst e;cases G;exact Jz ⟨C,E,J⟩
def JI (r f:R2) (ta tb tc:TE):TE:=λσ H Q=>ta σ H λx g=>tb σ g λy h=>r x y h λz e=>∃ k,z=.bl k /\
 (if k=true then tc σ e λi j=>f y i j Q else Q (.bl false) e)
theorem lr (p:OpR X (jZ j) r) (i:OpR X (jZ g) q) (ha:PE X a ta) (t:PE X b tb) (w:PE X c tc)
  (hm:UA [j,g] [b,c]=false:=by with_unfolding_all rfl):PE X (.Compare a [j,g] [b,c] pos) (JI r q ta tb tc):=by
 intro f s σ H Q I h;refine Compare_chain (zy (ha f s σ H _ I h) λv A x B C E G=>chain_link (zy (t f A σ B _ C G) λu J y L M l N =>
  zy (p f J σ L x y v u _ M E l N) λd U z m n Y ⟨k,e,o⟩=>?_)) hm
 subst e;cases Y;refine Jz ?_;cases k with
 | false=>exact ite_ff ⟨.bl false,m,n,rfl,o⟩
 | true=>exact ite_tt (chain_last (zy (w f U σ m _ n o) λw' s4 z' H4 I4 r4 q4=>i f s4 σ H4 y z' u w' Q I4 l r4 q4))
theorem IW (p:OpR X (jZ j) r) (i:OpR X (jZ g) q) (ha:PE X a ta) (t:PE X b tb) (w:PE X c tc)
  (hm:UA [j,g] [b,c]=false:=by with_unfolding_all rfl):PT X (.Compare a [j,g] [b,c] pos) (BN (JI r q ta tb tc)):=by
 intro f s σ H Q I h;refine isTrue_chain (zy (ha f s σ H _ I h) λv A x B C E G=>test_link (zy (t f A σ B _ C G) λu J y L M l N =>
  zy (p f J σ L x y v u _ M E l N) λd U z m n Y ⟨k,e,o⟩=>?_)) hm
 subst e;cases Y;refine Jz ?_;cases k with
 | false =>
  obtain⟨k',e',q'⟩:=o;cases e';exact ite_ff ⟨m,n,q'⟩
 | true =>
  refine ite_tt (test_last (zy (w f U σ m _ n o) λw' s4 z' H4 I4 r4 q4=>zy (i f s4 σ H4 y z' u w' _ I4 l r4 q4) λd' s5 z2 H5 I5 r5 ⟨k2,e2,q5⟩=>?_));subst e2;cases r5;exact Jz ⟨H5,I5,q5⟩
def bK (K:PySem.W.Frag) (x:V) (H:Hp) (k:Bool):Prop :=
 match x with
 | .non=>k=false
 | .bl b=>k=b
 | .int i=>k=(i != 0)
 | .str y=>y.length <= zf/\k=((y.length:Int) != 0)
 | .byt y=>y.size <= zf/\k=((y.size:Int) != 0)
 | .ref p=>(∃ xs,SqL K H p xs/\k = !xs.isEmpty)\/(∃ xs,SqT K H p xs/\k = !xs.isEmpty)\/∃ kvs,H p=some (.dK kvs)/\k = !kvs.isEmpty
 | _=>False
theorem GH {e:Type}{kvs:List (e×V)}{vs:List (e×zD)} (r:KV kvs vs):(!vs.isEmpty) = !kvs.isEmpty:=by
 cases r<;>rfl
theorem be (r:zd xs its):(!its.toArray.isEmpty) = !xs.isEmpty:=by
 cases r<;>simp
theorem xE:(zf:Nat) < 2 ^ 63:=by rw[Zx];decide
theorem FP:GJ X (λx H Q=>∃ k,bK X.K x H k/\Q k H):=by
 intro l s σ H x v Q I rx h;obtain⟨k,e,q⟩:=h;have z:=xE;have hs:zf=16777216:=Zx;cases x with
 | non =>
  cases rx;have f:k=false:=e;subst f;exact truthy_none ⟨H,I,q⟩
 | bl b =>
  cases rx;have f:k=b:=e;subst f;exact Jz ⟨H,I,q⟩
 | int i =>
  obtain⟨t,rfl⟩:=rx;have f:k=(i != 0):=e;subst f;exact PySem.P.truthy_int ⟨H,I,q⟩
 | str y =>
  obtain⟨t,rfl⟩:=rx;obtain⟨o,f⟩:y.length <= zf/\k=((y.length:Int) != 0):=e;subst f;exact PySem.P.truthy_str (by lia) ⟨H,I.tok _,q⟩
 | byt y =>
  obtain⟨t,rfl⟩:=rx;obtain⟨o,f⟩:y.size <= zf/\k=((y.size:Int) != 0):=e;subst f;exact PySem.W.truthy_bytes (by lia) ⟨H,I.tok _,q⟩
 | ref p =>
  cases rx;have f:(∃ xs,SqL X.K H p xs/\k = !xs.isEmpty)\/(∃ xs,SqT X.K H p xs/\k = !xs.isEmpty)\/∃ kvs,H p=some (.dK kvs)/\k = !kvs.isEmpty:=e;rcases f with ⟨xs,j,f⟩ | ⟨xs,j,f⟩ | ⟨kvs,j,f⟩
  ·subst f;obtain⟨its,r,pl,n⟩:=I.list j;have g:=r.length;exact wpAny_truthy_list pl.isList (by simp only[jw];lia) ⟨H,I.tok _,by rw[be r];exact q⟩
  ·subst f;obtain⟨its,r,pl,n⟩:=I.tuple j;have g:=r.length;exact truthy_tuple pl (by simp only[jw];lia) ⟨H,I.tok _,by rw[be r];exact q⟩
  ·subst f;obtain⟨n,u,vs,r,m⟩:kvs.length <= zf/\(p == Zs)=false/\∃ vs,KV kvs vs/\s.heap.DictOf (qG X.prog X.w) p vs:=I.hok p _ j;have g:kvs.length=vs.length:=Paired.length r;exact wpAny_truthy_dict u m (by lia) ⟨H,I.tok _,by rw[GH r];exact q⟩
 | _=>exact (show False from e).elim
theorem Fw (ha:PE X a ta) (i:∀ e,isTrue a X.env e=(do let v <- e;standAt a.pos;holding [v] (truthy v))) :
  PT X a (λσ H Q=>ta σ H λx g=>∃ k,bK X.K x g k/\Q k g):=by
 intro f s σ H Q I h;exact isTrue_plain (zy (ha f s σ H _ I h) λv j x l m n o=>FP f j σ l x v Q m n o) (i _)
theorem LM:OpR X (yW .Add) (λx y H Q=>∃ i j,x=.str i/\y=.str j/\i.length+j.length <= zf/\Q (.str (i++j)) H):=by
 intro f s σ H x y v u Q I rx ry h;obtain⟨i,j,rfl,rfl,g,q⟩:=h;obtain⟨t,rfl⟩:=rx;obtain⟨t',rfl⟩:=ry;exact yG (n:=1) I.tk (add_str (λt' tk e=>⟨.str (i++j),H,I.tok _ e,⟨_,rfl⟩,q⟩) g)
theorem gR:OpR X (Ai .Add) (λx y H Q=>∃ i j,x=.str i/\y=.str j/\i.length+j.length <= zf/\Q (.str (i++j)) H):=by
 intro f s σ H x y v u Q I rx ry h;obtain⟨i,j,rfl,rfl,g,q⟩:=h;obtain⟨t,rfl⟩:=rx;obtain⟨t',rfl⟩:=ry;exact yG (n:=1) I.tk (iadd_str (λt' tk e=>⟨.str (i++j),H,I.tok _ e,⟨_,rfl⟩,q⟩) g)
theorem yd {x:V} (r:zd [x] us):∃ u,us=[u]/\zm x u:=by
 cases r with
 | cons e f=>cases f;exact⟨_,rfl,e⟩
theorem Bj {x y:V} (r:zd [x,y] us):∃ u e,us=[u,e]/\zm x u/\zm y e:=by
 cases r with
 | cons f g =>
  cases g with
  | cons h i=>cases i;exact⟨_,_,rfl,f,h⟩
theorem IY (l:X.calm=true):jx X (.builtin "min") (λxs H Q=>∃ i j,xs=[.int i,.int j]/\Q (.int (if j < i then j else i)) H):=by
 intro g s σ H xs us Q I r h;obtain⟨i,j,rfl,q⟩:=h;obtain⟨u,m,rfl,⟨t,rfl⟩,⟨t',rfl⟩⟩:=Bj r;refine yG (n:=1) I.tk (min_two_ints (I.ok.hd l) λh' tk k f=>⟨_,H,I.kept k f,?_,q⟩);by_cases e:j < i
 ·rw[if_pos e,if_pos e];exact⟨_,rfl⟩
 ·rw[if_neg e,if_neg e];exact⟨_,rfl⟩
theorem lP:jx X (.type "int") (λxs H Q=>(∃ i,xs=[.int i]/\Q (.int i) H)\/∃ k,xs=[.bl k]/\Q (.int (if k then 1 else 0)) H):=by
 intro e s σ H xs us Q I r h;rcases h with ⟨i,rfl,q⟩ | ⟨k,rfl,q⟩
 ·obtain⟨u,rfl,t,rfl⟩:=yd r;exact call_int_int ⟨.int i,H,I,⟨_,rfl⟩,q⟩
 ·obtain⟨u,rfl,f⟩:=yd r;cases f;exact call_int_bool ⟨.int (if k then 1 else 0),H,I.tok _,⟨_,rfl⟩,q⟩
theorem gB:jx X (.type "str") (λxs H Q=>∃ i,xs=[.int i]/\i.natAbs.log2 < 1920/\Q (.str (toString i)) H):=by
 intro e s σ H xs us Q I r h;obtain⟨i,rfl,f,q⟩:=h;obtain⟨u,rfl,t,rfl⟩:=yd r;exact PySem.P.str_of_int f ⟨.str _,H,I.tok _,⟨_,rfl⟩,q⟩
end
structure xY (h:zp) (x dx C:zE) (mA:Str->Option zD):Prop where
 obj:h.get? x=some (PySem.W.instObj C dx)
 ns:h.Ns1 dx mA
 ne:dx≠x
theorem Ik {h:zp}{f:zE}{g:Str->Option zD} (n:h.Ns1 f g):∃ i,h.get? f=some i/\∀ name,PySem.W.lookIn name i=some (g name):=by
 obtain⟨o,es,r,j,hd,l,_,hm⟩:=n;refine⟨o,j,λname=>?_⟩;have e:=hm name;unfold nsFind findBy at e;rw[<- Array.find?_toList] at e;unfold PySem.W.lookIn;rw[hd];dsimp only;split
 ·rename_i y q;rw[q] at e;exact congrArg some e
 ·rename_i q;rw[q] at e;have a:es.toList.any (·.refKey)=false:=by
   rw[eV];intro y m;obtain⟨z,t,c⟩:=l y (Array.mem_toList_iff.mp m);simp[DictEntry.refKey,c]
  have p:¬ es.toList.any (·.refKey)=true:=by rw[a];exact qM
  rw[if_neg p];exact congrArg some e
theorem xY.look (I:xY h x e C f):∃ c,PySem.W.InstAt h x (PySem.W.instObj C e) C (some c)/\∀ name,PySem.W.lookIn name c=some (f name) :=
 let ⟨c,g,i⟩:=Ik I.ns
 ⟨c,⟨I.obj,rfl,rfl,g⟩,i⟩
section
variable {prog:jD}{w:jC}{A:jj}{E:zD->zI->Prop}{s:zI}{K:PySem.W.Frag}{x dx C f:zE}{mA:Str->Option zD}{name:Str}{v:zD}
theorem gf {Q:zD->zI->Prop} (X:K.In s.heap) (I:xY s.heap x dx C mA) (g:PySem.W.plainGet K C name=true) (i:PySem.W.hasDictIn K C=true)
  (ha:PySem.W.findIn K (.ref C) name=some none) (hv:mA name=some v) (c:PySem.W.handedIn v=true) (h:Q v { s with toks:=s.toks+1 }) :
  wpAny (zN prog w) A (getAttr (.ref x) name e) Q E s:=by
 obtain⟨l,J,j⟩:=I.look;exact PySem.W.get_value X J (PySem.W.plainGet_of g).1 (PySem.W.findObj_own i ha rfl (by rw[j,hv])) c h
theorem Eh {Q:zD×List zD->zI->Prop} (X:K.In s.heap) (I:xY s.heap x dx C mA) (c:PySem.W.plainGet K C name=true)
  (e:PySem.W.findIn K (.ref C) name=some (some (.ref f))) (g:PySem.W.isFn K (.ref f)=true) (hv:mA name=none) (h:Q (.ref f,[.ref x]) s) :
  wpAny (zN prog w) A (vG (.ref x) name pl) Q E s:=by
 obtain⟨i,J,j⟩:=I.look;exact PySem.W.method_fn X J (PySem.W.plainGet_of c).1 (PySem.W.plainGet_of c).2 e (beq_iff_eq.mp g) (by show (PySem.W.lookIn name i).map (·.isSome)=some false;rw[j,hv];rfl) h
theorem F1 {Q:Unit->zI->Prop} (X:K.In s.heap) (I:xY s.heap x dx C mA)
  (hs:PySem.W.findIn K (.ref C) "__setattr__" = some (some (.builtin "object.__setattr__"))) (m:PySem.W.plainOver K C=true) (n:PySem.W.takerIn K C name=some none) (o:PySem.W.hasDictIn K C=true)
  (hw:PySem.Within mA ns) (hsz:ns.length <= zf)
  (h:∀ h',xY h' x dx C (λy=>if y=name then some v else mA y)->Jx dx s.heap h'->Q () { s with heap:=h',toks:=s.toks+2 }) :
  wpAny (zN prog w) A (setAttr (.ref x) name v) Q E s:=by
 obtain⟨z,J,B⟩:=I.look;refine PySem.W.set_plain X J hs (PySem.W.osa_open (s:={ s with toks:=s.toks+1 }) (r:=none) X J m n λb=>?_);obtain⟨G,p,g⟩:=PySem.W.any_some o;have q:s.heap.get? x=some ⟨.ref C,some dx,.plain,#[]⟩:=I.obj;refine zQ (wpAny_pure (zQ (zQ (wpAny_loadPart q (zQ (PySem.W.Looks.here (s:={ s with toks:=s.toks+1 }) (PySem.W.looks_clsIn X p) ?_))))));rw[g];refine wpAny_pure (a:=some dx) (zQ (wpAny_pure (zQ ?_)));refine wpAny_nsSet1 (s:={ s with toks:=s.toks+1 }) I.ns λh' c e=>?_;obtain⟨H,t,u,i,j,l⟩:=c.count (PySem.Within.cons name v hw);refine zQ (wpAny_lookBehind i (by rw[j];exact pastItsLine_dict (jr l (by rw[jE];lia))) ?_);exact wpAny_pure (h _ ⟨(e.2 _ (yK I.ne)).trans I.obj,c,I.ne⟩ e)
theorem E4 {R:V0->zI->Prop}{vs:List zD}{c:List (Str×zD)} (X:K.In s.heap) (hm:PySem.W.makesIn K C=true)
  (hi:PySem.W.findIn K (.ref C) "__init__" = some (some (.ref f))) (e:PySem.W.typeIn K (.ref f)=some (.type "function"))
  (h:codeAny (zN prog w) (A.under (.builtin "type.__call__" ⟨.ref C::vs,c⟩)) (.call (.ref f) ⟨.ref (s.heap.objs.size+1)::vs,c⟩) (PySem.W.InitBack (s.heap.objs.size+1) R)
   { s with heap:=(s.heap.push PySem.W.emptyDict).push (PySem.W.instObj C s.heap.objs.size) }) :
  codeAny (zN prog w) A (.call (.ref C) ⟨vs,c⟩) R s:=by
 obtain⟨i,g,d,t,os⟩:=s;exact PySem.W.make_core (PySem.W.makes_of X hm) (PySem.W.looks_findIn X hi) (λself=>PySem.W.bind_fn X self e) (.inl rfl) h
end
noncomputable def qR (f:Str) (v:V):List (Str×V)->List (Str×V)
 | []=>[(f,v)]
 | (g,x)::r=>if g=f then (g,v)::r else (g,x)::qR f v r
theorem Y4 (f g:Str) (v:V):∀ fs:List (Str×V),(qR f v fs).lookup g=if g=f then some v else fs.lookup g
 | []=>by
  show JD g [(f,v)]=_;by_cases h:g=f
  ·have c:(g == f)=true:=beq_iff_eq.mpr h;simp only[JD,c,if_pos h]
  ·have c:(g == f)=false:=beq_eq_false_iff_ne.mpr h;simp only[JD,c,if_neg h]
 | (k,x)::r=>by
  have j:=Y4 f g v r;rw[show qR f v ((k,x)::r)=(if k=f then (k,v)::r else (k,x)::qR f v r) from rfl];by_cases i:k=f
  ·rw[if_pos i];by_cases h:g=k
   ·have c:(g == k)=true:=beq_iff_eq.mpr h;simp only[JD,c,if_pos (h.trans i)]
   ·have c:(g == k)=false:=beq_eq_false_iff_ne.mpr h;simp only[JD,c,if_neg (λe:g=f=>h (e.trans i.symm))]
  ·rw[if_neg i];by_cases h:g=k
   ·have c:(g == k)=true:=beq_iff_eq.mpr h;simp only[JD,c,if_neg (λe:g=f=>i (h.symm.trans e))]
   ·have c:(g == k)=false:=beq_eq_false_iff_ne.mpr h;simp only[JD,c];exact j
theorem uo (f:Str) (v:V):∀ fs:List (Str×V),f∈(qR f v fs).map (·.1)/\∀ g,g∈fs.map (·.1)->g∈(qR f v fs).map (·.1)
 | []=>⟨by simp[qR],λg h=>by simp at h⟩
 | (k,x)::r=>by
  obtain⟨i,j⟩:=uo f v r;rw[show qR f v ((k,x)::r)=(if k=f then (k,v)::r else (k,x)::qR f v r) from rfl];by_cases c:k=f
  ·rw[if_pos c];subst c;exact⟨by simp,λg h=>by simpa using h⟩
  ·rw[if_neg c];refine⟨?_,λg h=>?_⟩
   ·rw[jN];exact je _ i
   ·rw[jN] at h ⊢;rcases List.mem_cons.mp h with e | e
    ·exact List.mem_cons.mpr (.inl e)
    ·exact je _ (j g e)
theorem Wl (f:Str) (v:V):∀ fs:List (Str×V),(qR f v fs).length <= fs.length+1
 | []=>by simp[qR]
 | (k,x)::r=>by
  have e:=Wl f v r;rw[show qR f v ((k,x)::r)=(if k=f then (k,v)::r else (k,x)::qR f v r) from rfl];by_cases c:k=f
  ·rw[if_pos c,jE,jE];lia
  ·rw[if_neg c,jE,jE];lia
theorem yq.some_of {v:V} (r:yq (some v) o):∃ u,o=some u/\zm v u:=by
 cases o with
 | none=>exact (show False from r).elim
 | some u=>exact⟨u,rfl,r⟩
theorem yq.none_of (r:yq none o):o=none:=by
 cases o with
 | none=>rfl
 | some u=>exact (show False from r).elim
theorem DX (r:zm v u):PySem.W.handedIn u=true:=by
 cases v with
 | non=>cases (show u=Xf from r);rfl
 | bl b=>cases (show u=Jg b from r);rfl
 | int i=>obtain⟨t,e⟩:=(show ∃ t,u=Vb i t from r);cases e;rfl
 | str x=>obtain⟨t,e⟩:=(show ∃ t,u=vF x t from r);cases e;rfl
 | byt b=>obtain⟨t,e⟩:=(show ∃ t,u=mm b t from r);cases e;rfl
 | flt b=>obtain⟨t,e⟩:=(show ∃ t,u=bQ b t from r);cases e;rfl
 | ref a=>cases (show u=qF a from r);rfl
 | ty n=>cases (show u=Jb n from r);rfl
section
variable {P:jD}{w:jC}{H H':Hp}{h h':zp}{a C dx:zE}{fs fs':List (Str×V)}
theorem vk (hok:HOk P w H h) (e:H a=some (.ins C dx fs)):∃ c,xY h a dx C c/\(∀ f,yq (fs.lookup f) (c f))/\PySem.Within c (fs.map (·.1))/\fs.length <= 1000/\H dx=some (.own a):=by
 obtain⟨d,z,ne,ob,c,n,r,q⟩:=(show jn P w H h a (.ins C dx fs) from hok a _ e)
 exact⟨c,⟨ob,n,ne⟩,r,q,z,d⟩
end
structure Cls (K:PySem.W.Frag) (C:zE):Prop where
 pg:PySem.W.plainGet K C Cs=true
 hd:PySem.W.hasDictIn K C=true
 po:PySem.W.plainOver K C=true
 sa:PySem.W.findIn K (.ref C) "__setattr__" = some (some (.builtin "object.__setattr__"))
theorem Cls.get {K:PySem.W.Frag} (c:Cls K C) (f:Str):PySem.W.plainGet K C f=true:=c.pg
def Jl (K:PySem.W.Frag) (C:zE) (f:Str):Prop:=PySem.W.findIn K (.ref C) f=some none
theorem Jl.taker {K:PySem.W.Frag} (n:Jl K C f):PySem.W.takerIn K C f=some none:=by
 unfold PySem.W.takerIn;rw[show PySem.W.findIn K (.ref C) f=some none from n];rfl
structure vQ (K:PySem.W.Frag) (C:zE) (m:Str) (f:zE):Prop where
 at_:PySem.W.findIn K (.ref C) m=some (some (.ref f))
 fn:PySem.W.isFn K (.ref f)=true
 kp:PySem.W.keepIn K (.ref f)=true
section
variable {X:Cx}{pins:List (zE×Obj)}{σ:St}{H:Hp}{s:zI}{a C dx:zE}{fs:List (Str×V)}{f:Str}{v:V}{A:jj}{E:zD->zI->Prop}
theorem CN {b:Bool}{Q:zD->zI->Prop} (I:Inv X pins σ H s) (e:H a=some (.ins C dx fs)) (c:Cls X.K C) (n:Jl X.K C f) (l:fs.lookup f=some v)
  (h:∀ u g,Inv X pins σ H g->zm v u->Q u g):wpAny (zN X.prog X.w) A (getAttr (.ref a) f b) Q E s:=by
 obtain⟨j,O,r,_,_,_⟩:=vk I.hok e;obtain⟨u,m,i⟩:=yq.some_of (v:=v) (o:=j f) (by rw[<- l];exact r f);exact gf I.kIn O (c.get f) c.hd n m (DX i) (h u _ (I.tok _) i)
theorem cQ {Q:zD×List zD->zI->Prop} (I:Inv X pins σ H s) (e:H a=some (.ins C dx fs)) (c:Cls X.K C) (k:vQ X.K C m g) (l:fs.lookup m=none)
  (h:Q (.ref g,[.ref a]) s):wpAny (zN X.prog X.w) A (vG (.ref a) m pl) Q E s:=by
 obtain⟨i,O,r,_,_,_⟩:=vk I.hok e;have j:i m=none:=yq.none_of (by rw[<- l];exact r m);exact Eh I.kIn O (c.get m) k.at_ k.fn j h
theorem dM {Q:Unit->zI->Prop} (I:Inv X pins σ H s) (e:H a=some (.ins C dx fs)) (c:Cls X.K C) (n:Jl X.K C f) (L:fs.length < 1000) (ry:zm y u)
  (h:∀ j,Inv X pins σ (upd H a (.ins C dx (qR f y fs))) j->Q () j):wpAny (zN X.prog X.w) A (setAttr (.ref a) f u) Q E s:=by
 obtain⟨l,O,r,m,_,p⟩:=vk I.hok e;have t:(fs.map (·.1)).length <= zf:=by rw[jH,Zx];lia
 refine F1 I.kIn O c.sa c.po n.taker c.hd m t λh' i sb=>h _ ?_;have hd:∃ o,h'.get? dx=some o:=let ⟨o,_,_,B,_⟩:=i.ns;⟨o,B⟩;refine I.write (x:=a) (e:=dx) (by rw[e];exact QD) (.inr p) (λb q G z=>(sb.2 b G).trans z) hd ?_;refine⟨by rw[jF O.ne];exact p,?_,O.ne,i.obj,_,i.ns,λg=>?_,λg J=>?_⟩
 ·have:=Wl f y fs;lia
 ·show yq ((qR f y fs).lookup g) (if g=f then some u else l g);rw[Y4];by_cases q:g=f
  ·rw[if_pos q,if_pos q];exact ry
  ·rw[if_neg q,if_neg q];exact r g
 ·by_cases q:g=f
  ·rw[q];exact (uo f y fs).1
  ·refine (uo f y fs).2 g (m g λz=>J ?_);show (if g=f then some u else l g)=none;rw[if_neg q];exact z
theorem Inv.made (I:Inv X pins σ H s):Inv X pins σ (upd (upd H s.heap.objs.size (.own (s.heap.objs.size+1))) (s.heap.objs.size+1) (.ins C s.heap.objs.size []))
  { s with heap:=(s.heap.push PySem.W.emptyDict).push (PySem.W.instObj C s.heap.objs.size) }:=by
 have c:(s.heap.push PySem.W.emptyDict).get? s.heap.objs.size=some PySem.W.emptyDict:=qd s.heap rfl;have g:((s.heap.push PySem.W.emptyDict).push (PySem.W.instObj C s.heap.objs.size)).get? (s.heap.objs.size+1)=some (PySem.W.instObj C s.heap.objs.size):=by
  have:=qd (s.heap.push PySem.W.emptyDict) (o:=PySem.W.instObj C s.heap.objs.size) rfl
  rwa [JR] at this
 have h:(s.heap.push PySem.W.emptyDict).Ns s.heap.objs.size (λ_=>none):=⟨PySem.W.emptyDict,#[],_,c,rfl,(λe i=>absurd i (by simp)),λ_=>rfl⟩
 have j:=I.laid (a:=s.heap.objs.size) (o:=.own (s.heap.objs.size+1)) (h':=s.heap.push PySem.W.emptyDict) (t':=s.toks) (λb u q=>jd _ q) (zg _) ⟨_,c⟩;refine j.laid (a:=s.heap.objs.size+1) (o:=.ins C s.heap.objs.size []) (t':=s.toks) (λb u q=>jd _ q) (XU (JR _ _)) ?_;have ne:s.heap.objs.size≠s.heap.objs.size+1:=jX (J8 _);refine⟨by rw[jF ne,qN],ZR _,ne,g,λ_=>none,(Heap.Ns1.of_empty h).at λo q=>jd _ q,λ_=>QD,λy l=>absurd rfl l⟩
theorem DS {f:Str}{pos:Pos}{s:zI} (g:JM e f env (z0 e env)=z0 e env)
  (h:wpAny (zN prog w) A (z0 e env) (λo c=>wpAny (zN prog w) A (getAttr o f true) Q E c) E s):wpAny (zN prog w) A (z0 (.Attribute e f pos) env) Q E s :=
 Attribute_any_ h (by rw[arm_eval_Attribute,g])
end
def FZ (K:PySem.W.Frag) (e:TE) (f:Str):TE:=λσ H Q=>e σ H λx c=>∃ a C g fs v,x=.ref a/\c a=some (.ins C g fs)/\Cls K C/\Jl K C f/\fs.lookup f=some v/\Q v c
def Zj (K:PySem.W.Frag) (g h:TE) (f:Str):TS:=λD σ H=>h σ H λy i=>g σ i λx c=>∃ a C e fs,x=.ref a/\c a=some (.ins C e fs)/\Cls K C/\Jl K C f/\fs.length < 1000 /\
 D.nx σ (upd c a (.ins C e (qR f y fs)))
def gZ (X:Cx) (e:Operator) (f:V->V->Hp->VK->Prop):Prop :=
 ∀ (c:List (zE×Obj)) (s:zI) (σ:St) (H:Hp) (x y:V) (u v:zD) (Q:VK),Inv X c σ H s->zm x u->zm y v->f x y H Q->wpAny (zN X.prog X.w) X.A (Ai e u v) (EP X c σ Q) X.xe s
def QC (K:PySem.W.Frag) (i j:TE) (l:V->V->Hp->VK->Prop) (f:Str):TS:=λD σ H=>i σ H λx g=>∃ a C m fs v,x=.ref a/\g a=some (.ins C m fs)/\Cls K C/\Jl K C f/\fs.lookup f=some v /\
 j σ g λy n=>l v y n λz h=>∃ e c,h a=some (.ins C e c)/\c.length < 1000/\D.nx σ (upd h a (.ins C e (qR f z c)))
section
variable {X:Cx}{o e value:ze}{f:Str}{pos pos' tpos:Pos}{ta tv:TE}
theorem e9 (i:PE X e ta) (j:JM e f X.env (z0 e X.env)=z0 e X.env):PE X (.Attribute e f pos) (FZ X.K ta f):=by
 intro g s σ H Q I h;refine DS j (zy (i g s σ H _ I h) λu y x m p rx ⟨a,C,z,fs,v,ex,r,c,n,l,q⟩=>?_);subst ex;obtain rfl:u=qF a:=rx;exact CN p r c n l λA B t w=>⟨v,m,t,w,q⟩
theorem HB (ha:PE X o ta) (hv:PE X value tv) (hs:Qc value (some (.Attribute o f pos')) pos.line X.env=pure false):PS X (.Assign [.Attribute o f pos'] value pos) (Zj X.K ta tv f):=by
 intro g s σ H D I h;refine plainObj_wpAny_Assign_Attribute (zy (hv g s σ H _ I h) λu i y j m ry q=>zy (ha g i σ j _ m q) λp z x A r rx ⟨a,C,B,fs,ex,t,c,n,l,v⟩=>?_) hs;subst ex;obtain rfl:p=qF a:=rx;exact dM r t c n l ry λE w=>⟨σ,_,w,v⟩
theorem HW (ha:PE X o ta) (hv:PE X value tv) (i:gZ X m p):PS X (.AugAssign (.Attribute o f tpos) m value pos) (QC X.K ta tv p f):=by
 intro g s σ H D I h;refine wpAny_AugAssign_AttributeAny (zy (ha g s σ H _ I h) λr s1 x t w rx ⟨a,C,dx,fs,v,ex,A,c,n,l,q⟩=>?_);subst ex;obtain rfl:r=qF a:=rx;refine CN w A c n l λu B E G=>zy (hv g B σ t _ E q) λJ L y M N ry Q=>zy (i g L σ M v y u J _ N G ry Q) λw4 s4 z H3 U Y ⟨dx',fs',j,l',q4⟩=>?_;exact dM U j c n l' Y λs5 I5=>⟨σ,_,I5,q4⟩
end
section
variable {X:Cx}{pins:List (zE×Obj)}{σ:St}{H:Hp}{s:zI}{A:jj}{E:zD->zI->Prop}{Q:zD->zI->Prop}{c:zD}{b:Bool}
inductive Zk (K:PySem.W.Frag) (H:Hp):V->zD->Prop where
 | non:Zk K H .non (.type "NoneType")
 | bl (x:Bool):Zk K H (.bl x) (.type "bool")
 | int (i:Int):Zk K H (.int i) (.type "int")
 | str (x:Str):Zk K H (.str x) (.type "str")
 | flt (x:UInt64):Zk K H (.flt x) (.type "float")
 | lst {a:zE}{xs:List V} (e:H a=some (.lst xs)):Zk K H (.ref a) (.type "list")
 | frz {a:zE}{o:Obj}{xs:List V} (e:H a=some (.frz o (.lst xs))):Zk K H (.ref a) (.type "list")
 | tup {a:zE}{xs:List V} (e:H a=some (.tup xs)):Zk K H (.ref a) (.type "tuple")
 | dK {a:zE}{kvs:List (Key×V)} (e:H a=some (.dK kvs)):Zk K H (.ref a) (.type "dict")
 | dT {a:zE}{kvs:List (List Key×V)} (e:H a=some (.dT kvs)):Zk K H (.ref a) (.type "dict")
 | ins {a C dx:zE}{fs:List (Str×V)} (e:H a=some (.ins C dx fs)) (cl:Cls K C) (ha:PySem.W.findIn K (.ref C) "__class__" = some (some (.builtin "object.__class__")))
   (hn:PySem.W.specialIn K (.builtin "object.__class__") "__get__" = some (some (.builtin "getset_descriptor.__get__"))) (htk:PySem.W.takesIn K (.builtin "object.__class__")=some true)
   (hm:PySem.W.mroIn K C (.type "object")=some true):Zk K H (.ref a) (.ref C)
theorem mZ (I:Inv X pins σ H s) (rx:zm x u) (ty:Zk X.K H x t) (e:PySem.W.kitOne X.K t c=some b) (h:∀ tk,Q (.bool b) { s with toks:=tk }) :
  wpAny (zN X.prog X.w) A (call (.builtin "isinstance") [u,c]) Q E s:=by
 cases ty with
 | non=>cases (show u=Xf from rx);exact PySem.W.kia_one PySem.W.kitx_none I.kIn QD e (λz=>nomatch z) h
 | bl y=>cases (show u=Jg y from rx);exact PySem.W.kia_one PySem.W.kitx_bool I.kIn QD e (λz=>nomatch z) h
 | int i=>obtain⟨t,q⟩:=(show ∃ t,u=Vb i t from rx);cases q;exact PySem.W.kia_one PySem.W.kitx_int I.kIn QD e (λz=>nomatch z) h
 | str y=>obtain⟨t,q⟩:=(show ∃ t,u=vF y t from rx);cases q;exact PySem.W.kia_one PySem.W.kitx_str I.kIn QD e (λz=>nomatch z) h
 | flt y=>obtain⟨t,q⟩:=(show ∃ t,u=bQ y t from rx);cases q;exact PySem.W.kia_one PySem.W.kitx_float I.kIn QD e (λz=>nomatch z) h
 | @lst a xs f =>
  cases (show u=qF a from rx);obtain⟨_,_,n,_,g⟩:=(show jn X.prog X.w H s.heap a (.lst xs) from I.hok a _ f)
  exact PySem.W.kia_one PySem.W.kitx_list I.kIn ⟨_,g,rfl⟩ e (λz=>nomatch z) h
 | @frz a ob xs f =>
  cases (show u=qF a from rx);obtain⟨_,_,_,n,_,g⟩:=(show jn X.prog X.w H s.heap a (.frz ob (.lst xs)) from I.hok a _ f)
  exact PySem.W.kia_one PySem.W.kitx_list I.kIn ⟨_,g,rfl⟩ e (λz=>nomatch z) h
 | @tup a xs f =>
  cases (show u=qF a from rx);obtain⟨_,_,_,p⟩:=(show jn X.prog X.w H s.heap a (.tup xs) from I.hok a _ f)
  obtain⟨o,g,j,_⟩:=p;exact PySem.W.kia_one PySem.W.kitx_tuple I.kIn ⟨o,g,j⟩ e (λz=>nomatch z) h
 | @dK a kvs f =>
  cases (show u=qF a from rx);obtain⟨_,_,vs,_,p⟩:=(show jn X.prog X.w H s.heap a (.dK kvs) from I.hok a _ f)
  obtain⟨o,es,m,g,j,_⟩:=p;exact PySem.W.kia_one PySem.W.kitx_dict I.kIn ⟨o,g,j.1⟩ e (λz=>nomatch z) h
 | @dT a kvs f =>
  cases (show u=qF a from rx);obtain⟨_,_,xs,_,o,es,m,g,j,_⟩:=(show jn X.prog X.w H s.heap a (.dT kvs) from I.hok a _ f)
  exact PySem.W.kia_one PySem.W.kitx_dict I.kIn ⟨o,g,j.1⟩ e (λz=>nomatch z) h
 | @ins a C v fs f cl ha r l hm =>
  cases (show u=qF a from rx);obtain⟨B,O,_⟩:=vk I.hok f;obtain⟨G,J,_⟩:=O.look;exact PySem.W.kia_one (PySem.W.kitx_own (cl.get _) cl.hd ha r l hm) I.kIn J e (λz=>nomatch z) h
end
structure z6 (k:Nat) (A:jj):Prop where
 hd:A.handled=none
 dp:A.depth+3 * k+5 < mw
 un:A.units+16 * k+200 < Qt
theorem z6.mono {j k:Nat} (r:z6 k A) (h:j <= k):z6 j A:=⟨r.hd,by have:=r.dp;lia,by have:=r.un;lia⟩
theorem z6.deeper {k:Nat} (r:z6 (k+1) A) (env:Env):z6 k (A.deeper env) :=
 ⟨r.hd,by have:=r.dp;show A.depth+1+3 * k+5 < _;lia,by have:=r.un;show A.units+3+16 * k+200 < _;lia⟩
theorem FY {A:jj}{C:zE}{us:List zD}{c:List (Str×zD)}:(A.under (.builtin "type.__call__" ⟨.ref C::us,c⟩)).depth=A.depth+1:=by
 first | rfl | simp[cE,Code.weight,Code.isCreation,Code.isGuard,Code.isCaller,fg,cT,guardIds]
theorem iS {A:jj}{C:zE}{us:List zD}{c:List (Str×zD)}:(A.under (.builtin "type.__call__" ⟨.ref C::us,c⟩)).units=A.units+1:=by
 first | rfl | simp[cE,Code.cUnits,fg,cT]
theorem z6.make {k:Nat} (r:z6 (k+1) A) (C:zE) (us:List zD) (c:List (Str×zD)):z6 k (A.under (.builtin "type.__call__" ⟨.ref C::us,c⟩)) :=
 ⟨r.hd,by have:=r.dp;rw[FY];lia,by have:=r.un;rw[iS];lia⟩
theorem z6.depth {k:Nat} (r:z6 k A):A.depth < mw:=by have:=r.dp;lia
theorem z6.units {k:Nat} (r:z6 k A):A.units+64 < Qt:=by have:=r.un;lia
theorem z6.units0 {k:Nat} (r:z6 k A):A.units < Qt:=by have:=r.un;lia
def bI:TA:=λ_ H Q=>Q [] H
def G2 (c:TE) (e:TA):TA:=λσ H Q=>c σ H λx f=>e σ f λxs g=>Q (x::xs) g
section
variable {X:Cx}{e:ze}{es:List ze}{te:TE}{t:TA}{pos:Pos}
theorem WY:PA X [] bI:=λ_ _ _ _ H Q I h=>UK ⟨[],H,I,.nil,h⟩
theorem uY (ha:PE X e te) (f:PA X es t) (hs:jY (e::es) X.env=(false,z0 e X.env)::jY es X.env:=by rfl):PA X (e::es) (G2 te t):=by
 intro pos c s σ H Q I h;rw[hs];show wpAny _ _ (uJ ((false,z0 e X.env)::yR pos (jY es X.env))) _ _ s;refine Yl (zy (ha c s σ H _ I h) λu g x i j l m=>?_);exact zy (f pos c g σ i _ j m) λus r xs n o p q=>⟨x::xs,n,o,.cons l p,q⟩
def G6 (t:TA):TE:=λσ H Q=>t σ H λxs c=>xs.length <= zf/\∀ p,c p=none->Q (.ref p) (upd c p (.tup xs))
def mW (t:TA):TE:=λσ H Q=>t σ H λxs c=>xs.length <= zf/\∀ p,c p=none->Q (.ref p) (upd c p (.lst xs))
theorem Gn {j} (h:PA X es t):PE X (.Tuple es j pos) (G6 t):=by
 intro c s σ H Q I hq;refine wpAny_Tuple_spliced (zy (h pos c s σ H _ I hq) λus f xs g i r ⟨z,q⟩=>⟨by rw[<- r.length];exact z,?_⟩);have l:g f.heap.objs.size=none:=i.hok.fresh (zg _);refine⟨.ref f.heap.objs.size,upd g f.heap.objs.size (.tup xs),i.laid (t':=f.toks) (λb u e=>jd _ e) (zg _) ?_,rfl,q _ l⟩;exact⟨z,us,r,⟨_,qd _ rfl,rfl,_,rfl⟩⟩
theorem EY (h:PA X es t):PE X (.List es pos) (mW t):=by
 intro c s σ H Q I hq;refine wpAny_List_spliced (zy (h pos c s σ H _ I hq) λus f xs g i r ⟨z,q⟩=>⟨by rw[<- r.length];exact z,?_⟩);have j:g f.heap.objs.size=none:=i.hok.fresh (zg _);refine⟨.ref f.heap.objs.size,upd g f.heap.objs.size (.lst xs),i.laid (t':=f.toks) (λb u e=>jd _ e) (zg _) ?_,rfl,q _ j⟩;exact⟨z,us,0,r,qd _ rfl⟩
end
abbrev Sp:=List V->Hp->VK->XK->Prop
abbrev CXT:=List Env->Hp->zI->XK->zD->zI->Prop
structure xm (P:jD) (w:jC) (K:PySem.W.Frag) (mg:Str->Option zD) (base:zp) (A:jj) (outer:List Env) (s:zI) (H:Hp):Prop where
 frames:A.frames=some outer
 mod:Mod K mg base
 bs:∀ b o,base.get? b=some o->s.heap.get? b=some o/\H b=none
 bsz:base.objs.size <= s.heap.objs.size
 funs:s.heap.FunFrames base outer
 frf:∀ b∈frs outer,H b=none
 hok:HOk P w H s.heap
 bare:Jt s.gens
def CE (outer:List Env) (P:jD) (w:jC) (H:Hp) (s:zI) (Q:VK) (u:zD) (c:zI):Prop :=
 ∃ v e,c.os=s.os/\Jt c.gens/\Un (frs outer) [] H e s.heap c.heap/\HOk P w e c.heap/\zm v u/\Q v e
def CR (CX:CXT) (outer:List Env) (P:jD) (w:jC) (H:Hp) (s:zI) (Q:VK) (E:XK) (r:V0) (c:zI):Prop :=
 match r with
 | .ok (.ret u)=>CE outer P w H s Q u c
 | .ok _=>False
 | .error e=>CX outer H s E e c
structure qC (P:jD) (w:jC) (K:PySem.W.Frag) (mg:Str->Option zD) (base:zp) (CX:CXT) (k:Nat) (f:zE) (fd:Q5) (ps:List Str) (sp:Sp):Prop where
 len:∀ vs H Q E,sp vs H Q E->vs.length=ps.length
 run:∀ (A:jj) (outer:List Env) (s:zI) (H:Hp) (args:Args) (us:List zD) (vs:List V) (Q:VK) (E:XK),z6 k A->xm P w K mg base A outer s H->(0 < s.toks\/∃ p∈ps,fd.scope.names.lookup p=some .local)->KZ s fd args (ps.zip us)->zd vs us->sp vs H Q E ->
  codeAny (zN P w) A (.call (.ref f) args) (CR CX outer P w H s Q E) s
theorem qC.imp {P:jD}{K:PySem.W.Frag}{mg:Str->Option zD}{k:Nat}{sp c:Sp} (F:qC P w K mg base CX k f fd ps sp)
  (h:∀ vs H Q E,c vs H Q E->sp vs H Q E):qC P w K mg base CX k f fd ps c :=
 ⟨λvs H Q E q=>F.len vs H Q E (h _ _ _ _ q),λA outer s H args us vs Q E e g i j hv hs=>F.run A outer s H args us vs Q E e g i j hv (h _ _ _ _ hs)⟩
theorem xm.make {P:jD}{K:PySem.W.Frag}{mg:Str->Option zD}{outer:List Env} (e:xm P w K mg base A outer s H) (C:zE) (us:List zD) (c:List (Str×zD)) :
  xm P w K mg base (A.under (.builtin "type.__call__" ⟨.ref C::us,c⟩)) outer s H:=⟨by first | exact e.frames | (simpa [cE,Code.envs,cT,pushEnvs] using e.frames),e.mod,e.bs,e.bsz,e.funs,e.frf,e.hok,e.bare⟩
section
variable {X:Cx}{pins:List (zE×Obj)}{σ:St}{H:Hp}{s s':zI}
theorem Inv.env0 (I:Inv X pins σ H s):xm X.prog X.w X.K X.mg X.base X.A X.stack s H :=
 ⟨I.ok.frames,I.ok.mod,I.bs,jr I.ok.bsz I.sz,I.stack,I.stkFree,I.hok,I.bare⟩
theorem Inv.after (I:Inv X pins σ H s) (h:CE X.stack X.prog X.w H s Q u s') (e:0 < s'.toks):EP X pins σ Q u s':=by
 obtain⟨v,f,os,bare,un,hok,r,q⟩:=h;obtain⟨i,g,d,t,c⟩:=s';obtain rfl:c=s.os:=os;exact⟨v,f,I.call (h':=i) (g':=g) (d':=d) (t':=t) (ch:=[]) un hok bare (λb z=>absurd z (by simp)) e,r,q⟩
end
def CK (sp:Sp) (c:List V) (E:XK) (t:TA):TE:=λσ H Q=>t σ H λvs e=>sp (vs++c) e Q E
def AG (C:zE) (m:Str) (sp:Sp) (c:List V) (E:XK) (f:TE) (t:TA):TE:=λσ H Q=>f σ H λx e=>∃ a g fs,x=.ref a/\e a=some (.ins C g fs)/\fs.lookup m=none /\
 t σ e λvs h=>sp (x::(vs++c)) h Q E
def lK (C:zE) (sp:Sp) (e:List V) (E:XK) (t:TA):TE:=λσ H Q=>t σ H λvs f=>∀ x c,f x=none->f c=none->c≠x ->
 sp (.ref x::(vs++e)) (upd (upd f c (.own x)) x (.ins C c [])) (λv g=>v=.non/\Q (.ref x) g) E
def ZX (K:PySem.W.Frag) (fd:Q5) (ps:List Str) (ds:List zD):Prop :=
 ∀ (s:zI) (us:List zD),K.In s.heap->(us++ds).length=ps.length->KZ s fd ⟨us,[]⟩ (ps.zip (us++ds))
theorem ZX.all {K:PySem.W.Frag}{ps:List Str} (h:∀ us:List zD,us.length=ps.length->uQ fd ⟨us,[]⟩=pure (ps.zip us)):ZX K fd ps []:=λs us _ c=>by
 rw[qw] at c ⊢;exact .of_eq (h us c)
def Z5 (CX:CXT) (X:Cx) (E:XK):Prop:=∀ (c:List (zE×Obj)) (σ:St) (H:Hp) (s:zI) (e:zD) (f:zI),Inv X c σ H s->CX X.stack H s E e f->X.xe e f
section
variable {X:Cx}{CX:CXT}{k:Nat}{f C:zE}{fd:Q5}{ps:List Str}{sp:Sp}{dvs:List V}{ds:List zD}{E:XK}{x m:Str}{p pos apos:Pos}{e o:ze}{es:List ze}{ta:TE}{t:TA}
theorem uO {Q:VK} (F:qC X.prog X.w X.K X.mg X.base CX k f fd ps sp) (j:z6 k X.A) (l:ZX X.K fd ps ds) (hd:zd dvs ds) (q:Z5 CX X E)
  (I:Inv X c σ H s) (r:zd vs us) (h:sp (vs++dvs) H Q E):wpAny (zN X.prog X.w) X.A (call (.ref f) us) (EP X c σ Q) X.xe s:=by
 have i:zd (vs++dvs) (us++ds):=r.append hd;have v:(us++ds).length=ps.length:=by rw[<- i.length];exact F.len _ _ _ _ h
 refine aQ (Yq (EW (n:=1) I.tk (F.run X.A X.stack s H ⟨us,[]⟩ (us++ds) (vs++dvs) Q E j I.env0 (.inl I.tk) (l s us I.kIn v) i h)) λr y ⟨g,hq⟩=>?_);cases r with
 | error e=>exact q c σ H s e y I hq
 | ok fl =>
  cases fl with
  | ret u=>exact I.after hq g
  | next=>exact jJ hq
  | brk=>exact jJ hq
  | cont=>exact jJ hq
theorem Gs (F:qC X.prog X.w X.K X.mg X.base CX k f fd ps sp) (l:z6 k X.A) (n:Gl X x) (hm:X.mg x=some (.ref f)) (u:PySem.W.keepIn X.K (.ref f)=true) (v:ZX X.K fd ps ds) (hd:zd dvs ds) (y:Z5 CX X E)
  (ha:PA X (e::es) t) (g:(x == ("__debug__" : Str))=false:=by decide) (z:jY (e::es) X.env=(false,z0 e X.env)::jY es X.env:=by rfl) (i:(yR pos (jY es X.env)).any (·.1)=false:=by rfl) :
  PE X (.Call (.Name x p) (e::es) [] pos) (CK sp dvs E t):=by
 intro c s σ H Q I h;refine wy (Uv I n hm ?_ g);refine PySem.W.callWith_K (h₀:=X.base) I.ok.mod.kin u (zy (ha pos c s σ H _ I h) λus B vs G j r q=>⟨j.kIn,?_⟩) z i;exact uO F l v hd y j r q
theorem Hi (z:PE X o ta) (c:Cls X.K C) (hm:vQ X.K C m f) (F:qC X.prog X.w X.K X.mg X.base CX k f fd ps sp) (B:z6 k X.A) (G:ZX X.K fd ps ds) (hd:zd dvs ds) (J:Z5 CX X E) (ha:PA X (e::es) t)
  (i:jY (e::es) X.env=(false,z0 e X.env)::jY es X.env:=by rfl) (j:(yR pos (jY es X.env)).any (·.1)=false:=by rfl)
  (L:z0 (.Call (.Attribute o m apos) (e::es) [] pos) X.env=(do
   let n <- z0 o X.env
   standAt apos.atName
   let (f,first) <- holding [n] (vG n m pl)
   callWith pos f first (yR pos (jY (e::es) X.env)) (Kl pos (Xc [] X.env))):=by rfl) :
  PE X (.Call (.Attribute o m apos) (e::es) [] pos) (AG C m sp dvs E ta t):=by
 intro g s σ H Q I h;refine PySem.W.methodCall_KW (pl:=pl) (zy (z g s σ H _ I h) λu M x N v rx ⟨a,dx,fs,ex,U,l,q⟩=>?_) L;subst ex;obtain rfl:u=qF a:=rx;refine cQ v U c hm l ?_;refine PySem.W.callWith_K (first:=[.ref a]) (h₀:=X.base) I.ok.mod.kin hm.kp (zy (ha pos g M σ N _ v q) λus s2 vs H2 y r Y=>⟨y.kIn,?_⟩) i j;exact uO (us:=.ref a::us) (vs:=.ref a::vs) F B G hd J y (.cons rfl r) Y
theorem Fx (n:PE X o ta) (c:Cls X.K C) (hm:vQ X.K C m f) (F:qC X.prog X.w X.K X.mg X.base CX k f fd ps sp) (r:z6 k X.A) (v:ZX X.K fd ps ds) (hd:zd dvs ds) (y:Z5 CX X E)
  (z:z0 (.Call (.Attribute o m apos) [] [] pos) X.env=(do
   let j <- z0 o X.env
   standAt apos.atName
   let (f,first) <- holding [j] (vG j m pl)
   callWith pos f first (yR pos (jY [] X.env)) (Kl pos (Xc [] X.env))):=by rfl) :
  PE X (.Call (.Attribute o m apos) [] [] pos) (AG C m sp dvs E ta bI):=by
 intro g s σ H Q I h;refine PySem.W.methodCall_KW (pl:=pl) (zy (n g s σ H _ I h) λu G x J i rx ⟨a,L,fs,ex,B,l,q⟩=>?_) z;subst ex;obtain rfl:u=qF a:=rx;refine cQ i B c hm l ?_;exact PySem.W.callWith_K0 (first:=[.ref a]) i.kIn hm.kp (uO (us:=[.ref a]) (vs:=[.ref a]) F r v hd y i (.cons rfl .nil) q)
structure Mk (K:PySem.W.Frag) (C f:zE):Prop where
 makes:PySem.W.makesIn K C=true
 init:PySem.W.findIn K (.ref C) "__init__" = some (some (.ref f))
 fn:PySem.W.isFn K (.ref f)=true
 kp:PySem.W.keepIn K (.ref C)=true
theorem Lg {Q:VK} (M:Mk X.K C f) (F:qC X.prog X.w X.K X.mg X.base CX k f fd ps sp) (y:z6 (k+1) X.A) (z:ZX X.K fd ps ds) (hd:zd dvs ds)
  (B:Z5 CX X E) (I:Inv X g σ H s) (r:zd vs us)
  (h:∀ x j,H x=none->H j=none->j≠x->sp (.ref x::(vs++dvs)) (upd (upd H j (.own x)) x (.ins C j [])) (λv G=>v=.non/\Q (.ref x) G) E) :
  wpAny (zN X.prog X.w) X.A (call (.ref C) us) (EP X g σ Q) X.xe s:=by
 have hq:=h (s.heap.objs.size+1) s.heap.objs.size (I.hok.fresh (Ky _)) (I.hok.fresh (zg _)) (jX (J8 _));have i:=Inv.made (C:=C) I;have q:zd (V.ref (s.heap.objs.size+1)::(vs++dvs)) (qF (s.heap.objs.size+1)::(us++ds)):=.cons rfl (r.append hd);have J:(qF (s.heap.objs.size+1)::us++ds).length=ps.length:=by
  have e:=q.length;rw[F.len _ _ _ _ hq] at e;exact e.symm
 refine aQ (E4 (f:=f) I.kIn M.makes M.init (beq_iff_eq.mp M.fn) (Yq (EW (n:=1) i.tk (F.run _ X.stack _ _ ⟨qF (s.heap.objs.size+1)::us,[]⟩ (qF (s.heap.objs.size+1)::(us++ds)) _ _ E (y.make C us [])
  (i.env0.make C us []) (.inl i.tk) (z _ (qF (s.heap.objs.size+1)::us) i.kIn J) q hq)) λr L ⟨l,c⟩=>?_))
 cases r with
 | error e=>exact B g σ _ _ e L i c
 | ok fl =>
  cases fl with
  | ret u =>
   obtain⟨v,N,U,Y,ev,q3⟩:=i.after c l;subst ev;exact⟨Y,⟨V.ref (s.heap.objs.size+1),N,U,rfl,q3⟩⟩
  | next=>exact jJ c
  | brk=>exact jJ c
  | cont=>exact jJ c
theorem Ff (M:Mk X.K C f) (F:qC X.prog X.w X.K X.mg X.base CX k f fd ps sp) (l:z6 (k+1) X.A) (n:Gl X x) (hm:X.mg x=some (.ref C)) (u:ZX X.K fd ps ds) (hd:zd dvs ds) (v:Z5 CX X E)
  (ha:PA X (e::es) t) (g:(x == ("__debug__" : Str))=false:=by decide) (y:jY (e::es) X.env=(false,z0 e X.env)::jY es X.env:=by rfl) (i:(yR pos (jY es X.env)).any (·.1)=false:=by rfl) :
  PE X (.Call (.Name x p) (e::es) [] pos) (lK C sp dvs E t):=by
 intro c s σ H Q I h;refine wy (Uv I n hm ?_ g);refine PySem.W.callWith_K (h₀:=X.base) I.ok.mod.kin M.kp (zy (ha pos c s σ H _ I h) λus z vs B j r q=>⟨j.kIn,?_⟩) y i;exact Lg M F l u hd v j r q
end
structure Z6 (N P:List Str) (sc:Z3):Prop where
 kind:sc.kind=.function
 co:sc.isCoroutine=false
 gen:sc.isGenerator=false
 nd:N.Nodup
 pre:N.take P.length=P
 par:∀ x∈P,sc.names.lookup x=some .local\/sc.names.lookup x=some .cell
 nofree:∀ y∈sc.names,y.2≠.free
theorem c7 {kindOf:Str->Option J6}{x:Str}:∀ {binds:List (Str×zD)}{m:Str->Option zD},(∀ v,(x,v)∉binds)->bindL kindOf binds m x=m x
 | [],_,_=>rfl
 | (n,v)::r,m,h=>by
  unfold bindL;rw[c7 λw hw=>h w (je _ hw)];split
  ·have:x≠n:=by rintro rfl;exact h v qJ
   simp[this]
  ·rfl
theorem A5 {kindOf:Str->Option J6}{x:Str}:∀ {binds:List (Str×zD)}{m:Str->Option zD},(∀ v,(x,v)∉binds)->bindC kindOf binds m x=m x
 | [],_,_=>rfl
 | (n,v)::r,m,h=>by
  unfold bindC;rw[A5 λw hw=>h w (je _ hw)];split
  ·rfl
  ·have:x≠n:=by rintro rfl;exact h v qJ
   simp[this]
theorem CZ {kindOf:Str->Option J6}{x:Str}{v:zD}:∀ {P:List Str}{vs:List zD}{i:Nat}{m:Str->Option zD},P.Nodup->P[i]? = some x->vs[i]? = some v->kindOf x=some .local ->
  bindL kindOf (P.zip vs) m x=some v
 | [],_,_,_,_,h,_,_=>by simp at h
 | _::_,[],_,_,_,_,h,_=>by simp at h
 | p::P,w::vs,0,m,nd,c,e,f=>by
  simp at c e;subst c;subst e;show bindL kindOf ((p,w)::P.zip vs) m p=_;unfold bindL;rw[c7 λv hv=>(List.nodup_cons.mp nd).1 (dd hv).1,if_pos f];simp
 | p::P,w::vs,i+1,m,nd,c,e,f=>by
  show bindL kindOf ((p,w)::P.zip vs) m x=_;unfold bindL;exact CZ (i:=i) (List.nodup_cons.mp nd).2 (by simpa using c) (by simpa using e) f
theorem bU {kindOf:Str->Option J6}{x:Str}{v:zD}:∀ {P:List Str}{vs:List zD}{i:Nat}{m:Str->Option zD},P.Nodup->P[i]? = some x->vs[i]? = some v->kindOf x≠some .local ->
  bindC kindOf (P.zip vs) m x=some v
 | [],_,_,_,_,h,_,_=>by simp at h
 | _::_,[],_,_,_,_,h,_=>by simp at h
 | p::P,w::vs,0,m,nd,c,e,f=>by
  simp at c e;subst c;subst e;show bindC kindOf ((p,w)::P.zip vs) m p=_;unfold bindC;rw[A5 λv hv=>(List.nodup_cons.mp nd).1 (dd hv).1,if_neg f];simp
 | p::P,w::vs,i+1,m,nd,c,e,f=>by
  show bindC kindOf ((p,w)::P.zip vs) m x=_;unfold bindC;exact bU (i:=i) (List.nodup_cons.mp nd).2 (by simpa using c) (by simpa using e) f
noncomputable def QI (N:List Str) (vs:List V):St:=vs.map some++jK (N.length - vs.length) none
noncomputable def Zo (CX:CXT) (P:jD) (w:jC) (K:PySem.W.Frag) (mg:Str->Option zD) (base:zp) (N:List Str) (qual:Str) (scope:Z3) (f:zE) (g:zD) (A:jj) (outer:List Env) (s:zI) (H:Hp) (E:XK):Cx where
 prog:=P
 w:=w
 K:=K
 mg:=mg
 base:=base
 A:=A.deeper (ZD qual scope s.heap.objs.size f g)
 N:=N
 s₀:=s
 H₀:=H
 env:=ZD qual scope s.heap.objs.size f g
 outer:=outer
 stack:=ZD qual scope s.heap.objs.size f g::outer
 ex:=[]
 calm:=true
 fn:=λ_=>true
 pn:=[]
 xe:=λe h=>wpAny (zN P w) (A.deeper (ZD qual scope s.heap.objs.size f g)) (leaving (ZD qual scope s.heap.objs.size f g) e) (λ_ c=>CX outer H s E e c) (λi c=>CX outer H s E i c) h
theorem dH {e:Z3}{x:Str} (h:e.names.lookup x=some .cell):∃ c,(XQ n e.names []).lookup x=some c:=by
 have q:=PySem.W.cellsFrom_some e.names n [] (.inl h);exact Option.isSome_iff_exists.mp q
theorem uU {M:J3}{env:Env} (f:Str×zD->PUnit->Sem (ForInStep PUnit)) (I:∀ n v u,f (n,v) u=(do storeName env n v;pure (.yield ⟨⟩))) (H:env.scope.kind=.function) :
  ∀ (binds:List (Str×zD)) (m t:Str->Option zD) (s:zI) (Q:PUnit->zI->Prop),Ul s₀ env.locals m env.cells t s ->
   (∀ x∈binds,env.kindOf x.1=some .local\/(env.kindOf x.1=some .cell/\(env.cells.lookup x.1).isSome=true)) ->
   (∀ w,Ul s₀ env.locals (bindL env.kindOf binds m) env.cells (bindC env.kindOf binds t) w->((0 < s.toks\/∃ b∈binds,env.kindOf b.1=some .local)->0 < w.toks)->Q ⟨⟩ w)->wpAny M A (forIn binds ⟨⟩ f) Q E s
 | [],m,t,s,Q,x,_,h=>by
  rw[List.forIn_nil];exact wpAny_pure (h s x λz=>z.elim id λ⟨b,B,_⟩=>absurd B (by simp))
 | (n,v)::r,m,t,s,Q,x,g,h=>by
  rw[List.forIn_cons,I];have U:∀ y∈r,env.kindOf y.1=some .local\/(env.kindOf y.1=some .cell/\(env.cells.lookup y.1).isSome=true):=λy hy=>g y (je _ hy);rcases g (n,v) qJ with p | ⟨p,q⟩
  ·refine zQ (zQ (Ge p x.toInCall.ns (λh' J C=>wpAny_pure (uU f I H r (λy=>if y=n then some v else m y) t _ Q ⟨⟨?_,J,λb o e=>?_,x.toInCall.fresh⟩,λk c q=>?_,x.apart,x.above⟩ U λi j L=>h i ?_ λ_=>L (.inl (ZM _)))) (by rw[H];rfl)))
   ·obtain⟨Y,tk,rfl⟩:=x.toInCall.same;exact⟨h',_,rfl⟩
   ·exact C.extBut b o (jX (qW (jQ e) x.toInCall.fresh)) (x.toInCall.keep b o e)
   ·exact (x.cell k c q).sameBut C (Jy (x.above k c (PySem.mem_of_lookup q)))
   ·unfold bindL bindC;rw[if_pos p,if_pos p];exact j
  ·obtain⟨c,q⟩:=Option.isSome_iff_exists.mp q;have l:¬ env.kindOf n=some .local:=by rw[p];decide
   refine zQ (zQ (yG (n:=s.toks) (zg _) (stCC x H p q λw x' N=>wpAny_pure (uU f I H r m _ w Q x' U λi j L=>h i ?_ λz=>L ?_))))
   ·unfold bindL bindC;rw[if_neg l,if_neg l];exact j
   ·rcases z with z | ⟨b,B,G⟩
    ·exact .inl (qW z N)
    ·rcases List.mem_cons.mp B with rfl | B
     ·exact absurd G l
     ·exact .inr ⟨b,B,G⟩
theorem iU {M:J3}{s:zI}{scope:Z3}{binds:List (Str×zD)}{code:zD}{Q:Env->zI->Prop}
  (m:scope.kind=.function)
  (i:∀ x∈binds,scope.names.lookup x.1=some .local\/(scope.names.lookup x.1=some .cell/\((XQ (s.heap.objs.size+1) scope.names []).lookup x.1).isSome=true))
  (p:∀ env,env=newEnv scope s.heap.objs.size g (XQ (s.heap.objs.size+1) scope.names []) qual h code none f ->
   ∀ j,Ul s env.locals (bindL env.kindOf binds λ_=>none) env.cells (bindC env.kindOf binds λ_=>none) j->((0 < s.toks\/∃ b∈binds,scope.names.lookup b.1=some .local)->0 < j.toks)->Q env j) :
  wpAny M A (BK scope g [] binds qual h code none f) Q E s:=by
 simp only[BK,Ay,j9,if_false];refine zQ (wpAny_alloc ?_);refine zQ (wpAny_layCells _ (λname kind cells=>by cases l:kind == Xe<;>simp[l]) _ _ _ _ ?_);have ok:=cellsFrom_ok scope.names (s.heap.push { cls:=.type "frame",data:=.dict #[] }) (s.heap.objs.size+1) [] ⟨λ_ _ hm=>(nomatch hm),Uy⟩ (by rw[JR];exact zg _);rw[JR] at ok;rw[show ({ s with heap:=s.heap.push { cls:=.type "frame",data:=.dict #[] } }:zI).heap.objs.size=s.heap.objs.size+1 from JR ..];refine zQ (uU (s₀:=s) (env:=newEnv scope s.heap.objs.size g (XQ (s.heap.objs.size+1) scope.names []) qual h code none f)
  _ (λ_ _ _=>rfl) m binds (λ_=>none) (λ_=>none) _ _
  ⟨⟨⟨_,_,rfl⟩,(Heap.Ns.new s.heap (.type "frame")).keeps (pushCells_keeps _ _),λb o e=>pushCells_keeps _ _ b o (jd _ e),zg _⟩,
   λn c q=>(ok.empty n c (PySem.mem_of_lookup q)).1,ok.apart,λn c hm=>(ok.empty n c hm).2⟩
  i λj x r=>wpAny_pure (p _ rfl j x r))
theorem MD {P:jD}{K:PySem.W.Frag}{mg:Str->Option zD}{A:jj}{outer:List Env}{vs:List V}
  (S:Z6 N ps scope) (hd:A.handled=none) (j:xm P w K mg base A outer s H) (U:vs.length=ps.length) (r:zd vs us)
  (x:Ul s s.heap.objs.size (bindL (ZD qual scope s.heap.objs.size f C).kindOf (ps.zip us) λ_=>none) (XQ (s.heap.objs.size+1) scope.names []) (bindC (ZD qual scope s.heap.objs.size f C).kindOf (ps.zip us) λ_=>none) G) (L:0 < G.toks) :
  Inv (Zo CX P w K mg base N qual scope f C A outer s H E) [] (QI N vs) H G:=by
 have M:ps.length <= N.length:=by have:=congrArg List.length S.pre;rw[yz] at this;lia
 obtain⟨B,tk,rfl,I⟩:=x.done;have l:∀ b:zE,b∉(Zo CX P w K mg base N qual scope f C A outer s H E).ex:=λb z=>absurd (show b∈([]:List zE) from z) (by simp);refine⟨⟨j.mod,S.kind,rfl,rfl,zg _,λy z c B g=>?_,λy m=>?_,λy c _ h=>?_,λ_=>hd,Around.frames_deeper j.frames,.inr ⟨rfl,rfl⟩,λb z=>absurd z (l b),j.bs,j.bsz,λb _ _=>l b,λb z=>absurd z (l b),j.funs,j.frf⟩,
  rfl,j.bare,Un.kept I,⟨_,x.toInCall.ns,λi y v B g Y=>?_⟩,λy c h=>⟨_,x.cell y c h⟩,j.hok.fresh (zg _),λy c h=>?_,λp o=>absurd (show p∈([]:List (zE×Obj)) from o) (by simp),j.hok.kept I,?_,L⟩
 ·exact name_of_addr x.apart (PySem.mem_of_lookup B) (PySem.mem_of_lookup g)
 ·have m:scope.names.lookup y=some .cell\/scope.names.lookup y=some .free:=m;rcases m with m | m
  ·exact dH m
  ·exact absurd rfl (S.nofree _ (PySem.mem_of_lookup m))
 ·exact UJ (x.above y c (PySem.mem_of_lookup h))
 ·have hi:i < vs.length:=by
   unfold QI at g;by_cases hi:i < vs.length
   ·exact hi
   ·rw[Zh (by simpa using hi)] at g;rw[KS] at g;split at g<;>cases g
  have ha:vs[i]? = some v:=by
   unfold QI at g;rw[yc (by simpa using hi),qX] at g;cases e:vs[i]? with
   | none=>rw[e] at g;cases g
   | some a=>rw[e] at g;cases g;rfl
  obtain⟨u,J,Q⟩:=r.get ha;have o:ps[i]? = some y:=by
   rw[<- S.pre,fE (by lia)];exact B
  have t:ps.Nodup:=by rw[<- S.pre];exact S.nd.sublist (fj _ _)
  refine⟨u,Q,?_⟩;rcases S.par y (yZ o) with k | k
  ·exact .inl ⟨k,CZ t o J k⟩
  ·obtain⟨c,e⟩:=dH (n:=s.heap.objs.size+1) k;refine .inr ⟨.inl k,c,e,?_⟩;have q:=x.cell y c e;rw[bU t o J (by show scope.names.lookup y≠_;rw[k];decide)] at q;exact q
 ·exact j.hok.fresh (UJ (x.above y c (PySem.mem_of_lookup h)))
 ·unfold QI;show _=N.length;rw[jv,jH,Ax]
  lia
theorem ie {P:jD}{K:PySem.W.Frag}{mg:Str->Option zD}{k:Nat}{f:zE}{kV pm oc:zD}{an od:Option zE}
  {L:Array (Option zD)}{sp:Sp} (lk:K.lookup f=some ⟨oc,od,.func (PySem.W.fnOf name qual g j scope dV kV M pm an c ct),L⟩) (U:PySem.W.codeIn K c qual=true) (S:Z6 N ps scope)
  (len:∀ vs H Q E,sp vs H Q E->vs.length=ps.length)
  (m:∀ (A:jj) (outer:List Env) (s:zI) (H:Hp) (vs:List V) (Q:VK) (E:XK),z6 k (A.deeper (ZD qual scope s.heap.objs.size f c))->sp vs H Q E ->
   ∃ t,PSs (Zo CX P w K mg base N qual scope f c A outer s H E) j t/\t { nx:=λ_ l=>Q .non l,rt:=Q } (QI N vs) H) :
  qC P w K mg base CX (k+1) f (PySem.W.fnOf name qual g j scope dV kV M pm an c ct) ps sp:=by
 refine⟨len,λA outer s H args us vs Q E Y B htk hb r C=>?_⟩;have hl:=len _ _ _ _ C;have KX:K.In s.heap:=B.mod.kin.keeps λb o e=>(B.bs b o e).1;have lim:s.heap.NoLimit:=B.mod.nolimit.keeps λb o e=>(B.bs b o e).1;have z:∀ y∈ps.zip us,scope.names.lookup y.1=some .local\/(scope.names.lookup y.1=some .cell/\((XQ (s.heap.objs.size+1) scope.names []).lookup y.1).isSome=true):=λ⟨n,v⟩ hy=>by
  rcases S.par n (dd hy).1 with q | q
  ·exact .inl q
  ·exact .inr ⟨q,PySem.W.cellsFrom_some _ _ _ (.inl q)⟩
 refine codeAny_call_function Y.depth (KX _ _ lk) rfl S.co S.gen rfl (PySem.W.codeRec_of KX U) (hb _ _ _ _ ?_);refine iU S.kind z λenv he s1 x G=>?_;subst he;refine⟨lim.keeps x.toInCall.keep,codeAny_func ?_⟩;obtain⟨t,ht,hq⟩:=m A outer s H vs Q E (Y.deeper _) C;have I:Inv (Zo CX P w K mg base N qual scope f c A outer s H E) [] (QI N vs) H s1:=MD S Y.hd B hl r x (G (htk.imp id λ⟨p,hp,hpl⟩=>by
  obtain⟨i,hi,e⟩:=List.mem_iff_getElem.mp hp;have hu:i < us.length:=by rw[<- r.length,hl];exact hi
  exact⟨(p,us[i]),List.mem_iff_getElem.mpr ⟨i,by rw[List.length_zip];lia,by rw[List.getElem_zip,e]⟩,hpl⟩))
 refine wpAny_mono (ht [] s1 (QI N vs) H _ I hq) (λfl s' hs=>?_) λe s' hs=>hs;have fin:∀ {h:St}{l:Hp}{v:V}{u:zD},Inv (Zo CX P w K mg base N qual scope f c A outer s H E) [] h l s'->zm v u->Q v l->CE outer P w H s Q u s' :=
  λ{h l v u} J rv q=>⟨v,l,J.os,J.bare,J.base,J.hok,rv,q⟩
 cases fl with
 | ret u =>
  obtain⟨v,h,l,J,rv,q⟩:=hs;exact fin J rv q
 | next =>
  obtain⟨h,l,J,q⟩:=hs;exact fin (v:=V.non) (u:=Xf) J rfl q
 | brk =>
  obtain⟨_,_,_,q⟩:=hs;exact jJ q
 | cont =>
  obtain⟨_,_,_,q⟩:=hs;exact jJ q
section
variable {X:Cx}{x:Str}{p pos:Pos}{e:ze}{es:List ze}{t:TA}{id T:String}{r:List V->Hp->VK->Prop}
def tCB (r:List V->Hp->VK->Prop) (t:TA):TE:=λσ H Q=>t σ H λvs c=>r vs c Q
theorem Bw (i:jx X (.builtin id) r) (j:Gl X x) (hm:X.mg x=none) (hv:yB x=some (.builtin id)) (ha:PA X (e::es) t) (l:x ≠ "__name__" := by decide) (f:(x == ("__debug__" : Str))=false:=by decide)
  (m:jY (e::es) X.env=(false,z0 e X.env)::jY es X.env:=by rfl) (g:(yR pos (jY es X.env)).any (·.1)=false:=by rfl):PE X (.Call (.Name x p) (e::es) [] pos) (tCB r t):=by
 intro c s σ H Q I h;refine wy (xl I j hm hv ?_ l f);exact Mf (zy (ha pos c s σ H _ I h) λus n vs o q u v=>i c n σ o vs us Q q u v) m g
theorem iy (i:jx X (.type T) r) (j:Gl X x) (hm:X.mg x=none) (hv:yB x=some (.type T)) (ha:PA X (e::es) t) (l:x ≠ "__name__" := by decide) (f:(x == ("__debug__" : Str))=false:=by decide)
  (m:jY (e::es) X.env=(false,z0 e X.env)::jY es X.env:=by rfl) (g:(yR pos (jY es X.env)).any (·.1)=false:=by rfl):PE X (.Call (.Name x p) (e::es) [] pos) (tCB r t):=by
 intro c s σ H Q I h;refine wy (xl I j hm hv ?_ l f);exact Va (zy (ha pos c s σ H _ I h) λus n vs o q u v=>i c n σ o vs us Q q u v) m g
end
end L2
namespace HT
open PySem PyProof.Rows
section
variable {prog:jD}{w:jC}{A:jj}{E:zD->zI->Prop}{s:zI}
theorem Ll {b:zE}{vs ws:List zD}{Q:zD->zI->Prop} (r:xI s.heap t vs.toArray) (u:xI s.heap b ws.toArray) (hv:vs≠[])
  (v:ws=[]->Q (.ref t) s) (x:ws≠[]->Q (.ref s.heap.objs.size) { s with heap:=s.heap.push { cls:=.type "tuple",data:=.seq (vs++ws).toArray } })
  (hsz:vs.length+ws.length <= zf):wpAny (zN prog w) A (yW .Add (.ref t) (.ref b)) Q E s:=by
 obtain⟨⟨cls,l,data,m⟩,j,o,n,hd⟩:=id r;obtain⟨⟨p,f,data2,g⟩,c,h,q,i⟩:=id u;simp only at o hd h i;subst o hd h i;have e:vs.toArray++ws.toArray=(vs++ws).toArray:=by simp
 by_cases hw:ws=[]
 ·exact concat_meets ⟨_,j,rfl⟩ ⟨_,c,rfl⟩ GV seq_tuple_add PySem.F.slot_tuple_add PySem.F.entry_tuple_add (PySem.F.args_tuple_add_2 _ _)
   (tuple_addW1 t b vs.toArray ws.toArray n q l f m g (by simpa using hv) (by simp[hw])) ⟨j,c,v hw⟩
 ·refine concat_meets ⟨_,j,rfl⟩ ⟨_,c,rfl⟩ GV seq_tuple_add PySem.F.slot_tuple_add PySem.F.entry_tuple_add (PySem.F.args_tuple_add_2 _ _)
   (tuple_addW2 t b vs.toArray ws.toArray n q l f m g (by simpa using hv) (by simpa using hw) (by rw[jw,jw];exact hsz)) ⟨j,c,?_⟩
  rw[e];exact x hw
noncomputable def sIx (n d:Nat):Option Int->Nat
 | none=>d
 | some v=>if v < 0 then (v+(n:Int)).toNat else min v.toNat n
theorem u9 (n d:Nat) (hd:d <= n) (o:Option Int):sIx n d o <= n:=by
 cases o with
 | none=>exact hd
 | some v =>
  show (if v < 0 then (v+(n:Int)).toNat else min v.toNat n) <= n;by_cases hv:v < 0
  ·rw[if_pos hv];lia
  ·rw[if_neg hv];exact Nat.min_le_right _ _
theorem Wf (v:Int) (n d:Nat):(if v < 0 then max (v+(n:Int)) 0 else min v (n:Int))=((sIx n d (some v):Nat):Int):=by
 show (if v < 0 then max (v+(n:Int)) 0 else min v (n:Int))=(((if v < 0 then (v+(n:Int)).toNat else min v.toNat n):Nat):Int)
 by_cases hv:v < 0
 ·simp only[if_pos hv];lia
 ·simp only[if_neg hv];lia
theorem LQ (lo hi:Option Int) (n:Nat):bL lo hi 1 (n:Int)=(((sIx n 0 lo:Nat):Int),((sIx n n hi:Nat):Int)):=by
 have c:¬ ((1:Int) < 0):=by lia
 unfold bL;simp only[c,if_false];refine Prod.ext ?_ ?_
 ·cases lo with
  | none=>rfl
  | some v=>exact Wf v n 0
 ·cases hi with
  | none=>rfl
  | some v=>exact Wf v n n
theorem Lv (i j:Nat):U0 (i:Int) (j:Int) 1=j - i:=by
 unfold U0;have c:(1:Int) > 0:=by lia
 simp only[c,if_true,cM];split<;>lia
theorem aO {Q:Option Int->zI->Prop} (p:xn v o) (h:Q o s):wpAny (zN prog w) A (Mc v) Q E s:=by
 cases p with
 | none=>exact Ij h
 | int i t=>exact slicePart_int h
theorem eQ {i:zE}{f g:zD}{lo:Option Int}{Q:Int×Int×Nat->zI->Prop} (hs:s.heap.IsSliceOf i f g .none) (pl:xn f lo) (j:xn g hi)
  (h:Q (((sIx n 0 lo:Nat):Int),1,sIx n n hi - sIx n 0 lo) s):wpAny (zN prog w) A (Fz (.ref i) (pure (n:Int))) Q E s:=by
 obtain⟨os,c,l,e⟩:=id hs;unfold Fz MN;refine zQ (zQ (xS c e (x:=f) rfl (zQ (xS c e (x:=g) rfl (zQ (xS c e (x:=.none) rfl (wpAny_pure ?_)))))));refine zQ (Ij ?_);show wpAny _ _ (if ((1:Int) == 0)=true then _ else _) _ _ s;rw[if_neg (by decide)];refine zQ (aO pl (zQ (aO j (zQ (wpAny_pure ?_)))));show wpAny _ _ (match bL lo hi 1 (n:Int) with | (lo,hi)=>pure (lo,(1:Int),U0 lo hi 1)) _ _ s;rw[LQ lo hi n];show wpAny _ _ (pure (((sIx n 0 lo:Nat):Int),(1:Int),U0 ((sIx n 0 lo:Nat):Int) ((sIx n n hi:Nat):Int) 1)) _ _ s;rw[Lv];exact wpAny_pure h
theorem d6 (xs:Array zD) (i k:Nat):((j8 k).filterMap λ(m:Nat)=>xs[((i:Int)+(m:Int) * 1).toNat]?).toArray=((xs.toList.drop i).take k).toArray:=by
 have e:(λ(m:Nat)=>xs[((i:Int)+(m:Int) * 1).toNat]?)=λm=>xs[i+m]? := by
  funext m
  have:((i:Int)+(m:Int) * 1).toNat=i+m:=by lia
  rw[this]
 rw[e];have:=pick_run xs i k;rw[BW] at this;have c:((λx=>xs[x]?) ∘ λx=>i+x)=λm=>xs[i+m]? := rfl;rw[c] at this;rw[this]
theorem Lz {g:zE}{o p:zD}{lo:Option Int}{Q:zD->zI->Prop} (f:xI s.heap t c) (hs:s.heap.IsSliceOf g o p .none) (pl:xn o lo) (r:xn p hi)
  (hw:¬ (sIx c.size 0 lo=0/\sIx c.size c.size hi=c.size))
  (h:Q (.ref s.heap.objs.size) { s with heap:=s.heap.push { cls:=.type "tuple",data:=.seq ((c.toList.drop (sIx c.size 0 lo)).take (sIx c.size c.size hi - sIx c.size 0 lo)).toArray } })
  (hsz:c.size <= zf):wpAny (zN prog w) A (K7 (.ref t) (.ref g)) Q E s:=by
 have e:sizeOk (.seq ((c.toList.drop (sIx c.size 0 lo)).take (sIx c.size c.size hi - sIx c.size 0 lo)).toArray):=by
  show ((c.toList.drop (sIx c.size 0 lo)).take (sIx c.size c.size hi - sIx c.size 0 lo)).toArray.size <= zf;rw[jw,yz,Qa,jy]
  lia
 have v:sIx c.size c.size hi <= c.size:=u9 _ _ (zg _) hi;obtain⟨os,i,j,u⟩:=id hs;have l:s.TypeIs (.ref g) "slice" := ⟨os,i,j⟩
 unfold K7
 try with_reducible refine JO ?_
 first | refine zQ (wpAny_pure ?_) | skip
 refine zQ (wpAny_sequenceKey f.typeIs (by decide) ?_);refine zQ (Wy (name:=KO "__getitem__") f.typeIs D7
  (YM D7 f.typeIs entry_tuple_getitem ?_ (args_tuple_getitem _ _)))
 show wpAny _ _ (Mx (.ref t) >>= _) _ _ s;refine zQ (tupleItemsOf_ f ?_);refine zQ (Vq l ?_);rw[if_pos (by decide)];refine zQ (eQ hs pl r ?_);have n:¬ ((((sIx c.size 0 lo:Nat):Int) == 0 && (1:Int) == 1 && (sIx c.size c.size hi - sIx c.size 0 lo) == c.size)=true):=by
  intro q;rw[j7,j7] at q;have x:((sIx c.size 0 lo:Nat):Int)=0:=eq_of_beq q.1.1;have y:sIx c.size c.size hi - sIx c.size 0 lo=c.size:=eq_of_beq q.2;exact hw ⟨by lia,by lia⟩
 show wpAny _ _ (if (((sIx c.size 0 lo:Nat):Int) == 0 && (1:Int) == 1 && (sIx c.size c.size hi - sIx c.size 0 lo) == c.size)=true then _ else _) _ _ s;rw[if_neg n,d6]
 first
  | exact zQ (m:=Ur _) (JK (wpAny_pure ⟨_,rfl,wpAny_pure h⟩) e)
  | exact zQ (m:=Ur _) (JK (zQ (wpAny_pure (wpAny_pure ⟨_,rfl,wpAny_pure h⟩))) e)
  | exact zQ (zQ (m:=Ur _) (JK (wpAny_pure (wpAny_pure ⟨_,rfl,wpAny_pure h⟩)) e))
  | exact zQ (zQ (m:=Ur _) (JK (wpAny_pure ⟨_,rfl,wpAny_pure h⟩) e))
end
end HT
namespace L2
open PySem PySem.Spec PyProof.Rows
abbrev TO:=St->Hp->(Option Int->Hp->Prop)->Prop
def PO (X:Cx) (e:Option ze) (t:TO):Prop :=
 ∀ (c:List (zE×Obj)) (s:zI) (σ:St) (H:Hp) (Q:Option Int->Hp->Prop),Inv X c σ H s->t σ H Q ->
  wpAny (zN X.prog X.w) X.A (evalPart e X.env) (λu g=>∃ o f,Inv X c σ f g/\xn u o/\Q o f) X.xe s
def hD:TO:=λ_ H Q=>Q none H
def lL (t:TE):TO:=λσ H Q=>t σ H λx c=>∃ i,x=.int i/\Q (some i) c
section
variable {X:Cx}{e:ze}{te:TE}{lo hi:Option ze}{tl th:TO}{pos p2:Pos}
theorem HP:PO X none hD:=by
 intro c s σ H Q I h;rw[wY];exact wpAny_pure ⟨none,H,I,.none,h⟩
theorem fG (h:PE X e te):PO X (some e) (lL te):=by
 intro c s σ H Q I hw;rw[Cu];refine zy (h c s σ H _ I hw) λu m x f g j l=>?_;obtain⟨i,rfl,q⟩:=l;obtain⟨t,rfl⟩:=j;exact⟨some i,f,g,.int i t,q⟩
def SlR (X:Cx) (r:V->Option Int->Option Int->Hp->VK->Prop):Prop :=
 ∀ (c:List (zE×Obj)) (s:zI) (σ:St) (H:Hp) (x:V) (v f g:zD) (lo hi:Option Int) (h:zE) (Q:VK),Inv X c σ H s->zm x v->s.heap.IsSliceOf h f g .none->xn f lo->xn g hi->r x lo hi H Q ->
  ∃ T id,YS (.type T) "__getitem__" = pure (some (.builtin id))/\s.TypeIs v T/\wpAny (zN X.prog X.w) X.A (K7 v (.ref h)) (EP X c σ Q) X.xe s
def tSl (r:V->Option Int->Option Int->Hp->VK->Prop) (te:TE) (tl th:TO):TE:=λσ H Q=>te σ H λx c=>tl σ c λl f=>th σ f λu g=>r x l u g Q
theorem Fy (m:SlR X r) (n:PE X e te) (o:PO X lo tl) (p:PO X hi th):PE X (.Subscript e (.Slice lo hi none p2) pos) (tSl r te tl th):=by
 intro c s σ H Q I h;refine UB (zy (n c s σ H _ I h) λv t x y z B C=>?_);refine BP (zy (o c t σ y _ z C) λg E l G J pl L=>zy (p c E σ G _ J L) λi f u j M N U=>?_);rw[wY];refine wpAny_pure ?_;have Y:Inv X c σ j { f with heap:=f.heap.push { cls:=.type "slice",data:=.fields #[g,i,.none] } }:=M.kept (t':=f.toks) λb ob q=>jd _ q;obtain⟨T,id,hT,ht,hg⟩:=m c { f with heap:=f.heap.push { cls:=.type "slice",data:=.fields #[g,i,.none] } } σ j x v g i l u f.heap.objs.size Q Y B (FE ..) pl N U;show wpAny (zN X.prog X.w) X.A (Ui e (.Slice lo hi none p2) v (.ref f.heap.objs.size)) (EP X c σ Q) X.xe { f with heap:=f.heap.push { cls:=.type "slice",data:=.fields #[g,i,.none] } };exact vS (ops:=[.ref f.heap.objs.size,v]) ht hT hg (by with_unfolding_all rfl)
def Ql (xs:List V) (lo hi:Option Int):List V:=(xs.drop (HT.sIx xs.length 0 lo)).take (HT.sIx xs.length xs.length hi - HT.sIx xs.length 0 lo)
theorem bC (xs:List V) (lo hi:Option Int):(Ql xs lo hi).length <= xs.length:=by
 unfold Ql;rw[yz,Qa]
 lia
def Fq (K:PySem.W.Frag):V->Option Int->Option Int->Hp->VK->Prop:=λx lo hi H Q=>∃ a xs,x=.ref a/\SqT K H a xs /\
 ¬ (HT.sIx xs.length 0 lo=0/\HT.sIx xs.length xs.length hi=xs.length)/\∀ p,H p=none->Q (.ref p) (upd H p (.tup (Ql xs lo hi)))
theorem iW:SlR X (Fq X.K):=by
 intro f s σ H x v m n lo hi p Q I rx hs pl j h;obtain⟨a,xs,rfl,l,hw,q⟩:=h;cases rx;obtain⟨its,r,g,i⟩:=I.tuple l;have c:its.toArray.size=xs.length:=by rw[jw];exact r.length.symm
 refine⟨"tuple",_,PyProof.Rows.slot_tuple_getitem.lookup,g.typeIs,?_⟩;refine HT.Lz g hs pl j (by rw[c];exact hw) ?_ (by rw[c];exact i);rw[c];refine⟨.ref s.heap.objs.size,_,I.laid (t':=s.toks) (o:=.tup (Ql xs lo hi)) (λb ob q=>jd _ q) (zg _) ?_,rfl,q _ (I.hok.fresh (zg _))⟩;exact⟨jr (bC xs lo hi) i,_,(r.drop (HT.sIx xs.length 0 lo)).take (HT.sIx xs.length xs.length hi - HT.sIx xs.length 0 lo),B1 _ _⟩
def Wz (K:PySem.W.Frag):R2:=λx y H Q=>∃ a b xs ys,x=.ref a/\y=.ref b/\SqT K H a xs/\SqT K H b ys/\xs≠[]/\xs.length+ys.length <= zf /\
 (ys=[]->Q (.ref a) H)/\(ys≠[]->∀ p,H p=none->Q (.ref p) (upd H p (.tup (xs++ys))))
theorem zd.nil_iff (r:zd xs us):us=[]↔xs=[]:=by
 cases r with
 | nil=>simp
 | cons _ _=>simp
theorem HZ:OpR X (yW .Add) (Wz X.K):=by
 intro g s σ H x y v u Q I rx ry h;obtain⟨a,b,xs,ys,rfl,rfl,ha,l,m,i,n,p⟩:=h;cases rx;cases ry;obtain⟨its,f,r,_⟩:=I.tuple ha;obtain⟨j,c,p2,_⟩:=I.tuple l;refine HT.Ll r p2 (λz=>m (f.nil_iff.mp z)) (λz=>⟨.ref a,H,I,rfl,n (c.nil_iff.mp z)⟩) (λz=>?_) (by rw[<- f.length,<- c.length];exact i);refine⟨.ref s.heap.objs.size,_,I.laid (t':=s.toks) (o:=.tup (xs++ys)) (λb ob q=>jd _ q) (zg _) ?_,rfl,p (λw=>z (c.nil_iff.mpr w)) _ (I.hok.fresh (zg _))⟩;exact⟨by rw[jv];exact i,_,f.append c,B1 _ _⟩
end
noncomputable def ixN (n:Nat) (i:Int):Option Nat:=if 0 <= i then (if i < n then some i.toNat else none) else if -(n:Int) <= i then some (i+n).toNat else none
def atI {c:Type} (xs:List c) (i:Int):Option c:=(ixN xs.length i).bind λj=>xs[j]?
theorem B7 {j:Nat} (h:ixN n i=some j):ck i n=some j/\j < n /\ -(n:Int) <= i/\i < n:=by
 unfold ixN at h;by_cases f:0 <= i
 ·rw[if_pos f] at h;by_cases c:i < n
  ·rw[if_pos c] at h;have e:i.toNat=j:=Qm h;exact⟨by rw[Wt f c,e],by lia,by lia,c⟩
  ·rw[if_neg c] at h;cases h
 ·rw[if_neg f] at h;by_cases c:-(n:Int) <= i
  ·rw[if_pos c] at h;have e:(i+n).toNat=j:=Qm h;exact⟨by rw[cy (by lia) c,e],by lia,c,by lia⟩
  ·rw[if_neg c] at h;cases h
theorem WR {c:Type}{xs:List c}{i:Int}{v:c} (h:atI xs i=some v):∃ j,ck i xs.length=some j/\xs[j]? = some v/\j < xs.length /\ -(xs.length:Int) <= i/\i < xs.length:=by
 unfold atI at h;cases e:ixN xs.length i with
 | none=>rw[e] at h;cases h
 | some j =>
  rw[e] at h;obtain⟨f,g,l,m⟩:=B7 e;exact⟨j,f,h,g,l,m⟩
def cw (b:ze):Prop:=∀ o i,subscripted b false o i=operate [o,i] (K7 o i)
def IxR (X:Cx) (r:R2):Prop :=
 ∀ (f c:ze) (e:List (zE×Obj)) (s:zI) (σ:St) (H:Hp) (x y:V) (v u:zD) (Q:VK),Inv X e σ H s->zm x v->zm y u->r x y H Q ->
  subscripted c false v u=operate [v,u] (K7 v u)->wpAny (zN X.prog X.w) X.A (Ui f c v u) (EP X e σ Q) X.xe s
def MtR (X:Cx) (id:String) (r:V->List V->Hp->VK->Prop):Prop :=
 ∀ (c:List (zE×Obj)) (s:zI) (σ:St) (H:Hp) (x:V) (xs:List V) (v:zD) (us:List zD) (Q:VK),Inv X c σ H s->zm x v->zd xs us->r x xs H Q ->
  wpAny (zN X.prog X.w) X.A (call (.builtin id) (v::us)) (EP X c σ Q) X.xe s
section
variable {X:Cx}{a b:ze}{ta tb:TE}{pos:Pos}
theorem IxR.or (h:IxR X r) (h':IxR X g):IxR X (λx y H Q=>r x y H Q\/g x y H Q):=by
 intro c e f s σ H x y v u Q I rx ry q hs;rcases q with q | q
 ·exact h c e f s σ H x y v u Q I rx ry q hs
 ·exact h' c e f s σ H x y v u Q I rx ry q hs
theorem mY (e:IxR X r) (ha:PE X a ta) (f:PE X b tb) (hs:cw b):PE X (.Subscript a b pos) (tOp r ta tb):=by
 intro c s σ H Q I h;exact UB (uA ha f I h λv u g x y i j rx ry q=>e a b c g σ i x y v u Q j rx ry q (hs _ _))
def Ep (K:PySem.W.Frag):R2:=λx y H Q=>∃ p xs i v,x=.ref p/\y=.int i/\SqL K H p xs/\atI xs i=some v/\Q v H
def lx (K:PySem.W.Frag):R2:=λx y H Q=>∃ p xs i v,x=.ref p/\y=.int i/\SqT K H p xs/\atI xs i=some v/\Q v H
def Er:R2:=λx y H Q=>∃ z i c,x=.str z/\y=.int i/\z.length <= zf/\atI z.cps.toList i=some c/\Q (.str ⟨#[c]⟩) H
theorem Gi:IxR X (Ep X.K):=by
 intro f g c s σ H x y v u Q I rx ry h hs;obtain⟨p,xs,i,z,rfl,rfl,hq,A,q⟩:=h;cases rx;obtain⟨t,rfl⟩:=ry;obtain⟨its,r,pl,L⟩:=I.list hq;obtain⟨j,e,B,M,C,E⟩:=WR A;obtain⟨w,n,l⟩:=r.get B;have G:=r.length;have N:=xE;have fin:EP X c σ Q w s:=⟨z,H,I,l,q⟩
 by_cases o:0 <= i
 ·have m:i.toNat=j:=by
   rw[Wt o E] at e;exact Qm e
  exact item_listR pl.isList o (by lia) (by rw[m];simpa using n) fin hs
 ·have m:(i+(its.toArray.size:Int)).toNat=j:=by
   rw[cy (by lia) C] at e;rw[jw,<- G];exact Qm e
  exact gQ (x:=w) pl.isList.typeIs slot_list_getitem.lookup
   (wpAny_getItem_list_neg (Q:=λr J=>r=w/\EP X c σ Q r J) pl.isList (by lia) (by rw[jw]<;>lia) (by lia) (by rw[m];simpa using n) ⟨rfl,fin⟩) hs
theorem ly:IxR X (lx X.K):=by
 intro e f c s σ H x y v u Q I rx ry h hs;obtain⟨p,xs,i,z,rfl,rfl,hq,l,q⟩:=h;cases rx;obtain⟨t,rfl⟩:=ry;obtain⟨its,r,pl,C⟩:=I.tuple hq;obtain⟨j,m,n,E,G,J⟩:=WR l;obtain⟨w,o,g⟩:=r.get n;have A:=r.length;have L:=xE;have fin:EP X c σ Q w s:=⟨z,H,I,g,q⟩
 exact gQ (x:=w) pl.typeIs slot_tuple_getitem.lookup
  (getItem_tuple (j:=j) (Q:=λr B=>r=w/\EP X c σ Q r B) pl (by lia) (by lia) (by rw[jw,<- A];exact m) (by simpa using o) ⟨rfl,fin⟩) hs
theorem fb:IxR X Er:=by
 intro e f g s σ H x y v u Q I rx ry h hs;obtain⟨z,i,c,rfl,rfl,B,m,q⟩:=h;obtain⟨t,rfl⟩:=rx;obtain⟨t',rfl⟩:=ry;obtain⟨j,l,n,C,o,p⟩:=WR m;have r:z.cps.toList.length=z.length:=by simp[Str.length]
 rw[r] at l o p;have E:=xE;exact vS (xo s z t) slot_str_getitem.lookup (getItem_str (c:=c) (by
  have w:decide (i < -(2 ^ 63:Int))=false:=decide_eq_false (by lia);have A:decide (i ≥ 2 ^ 63)=false:=decide_eq_false (by lia);rw[w,A,iM]) (by rw[l];simpa using n) ⟨.str ⟨#[c]⟩,H,I.tok _,⟨_,rfl⟩,q⟩) hs
theorem E1 (its:List zD) (n j:Nat) (u:zD):Qr (·.setIfInBounds j u) { cls:=.type "list",data:=.seq its.toArray n }={ cls:=.type "list",data:=.seq (its.set j u).toArray n }:=by
 simp[Qr]
theorem Inv.lst {c:List (zE×Obj)}{σ:St}{H:Hp}{s:zI}{p:zE}{xs:List V} (I:Inv X c σ H s) (h:H p=some (.lst xs)) :
  ∃ (its:List zD) (n:Nat),zd xs its/\s.heap.get? p=some { cls:=.type "list",data:=.seq its.toArray n }/\xs.length <= zf:=by
 obtain⟨z,its,n,r,e⟩:=I.hok p _ h;exact⟨its,n,r,e,z⟩
theorem Inv.lstUpd {p:zE}{xs:List V}{its its':List zD}{n g:Nat}{f:Obj->Obj} (I:Inv X c σ H s) (h:H p=some (.lst xs))
  (j:s.heap.get? p=some { cls:=.type "list",data:=.seq its.toArray n }) (i:f { cls:=.type "list",data:=.seq its.toArray n }={ cls:=.type "list",data:=.seq its'.toArray g }) (r:zd ys its') (l:ys.length <= zf) (t:Nat) (o:0 < t:=by first | exact ZM _ | assumption | exact Inv.tk (by assumption) | lia) :
  Inv X c σ (upd H p (.lst ys)) { s with heap:=s.heap.update p f,toks:=t }:=by
 have e:(s.heap.update p f).get? p=some { cls:=.type "list",data:=.seq its'.toArray g }:=by
  rw[Heap.get?_update_self f j (by rw[i]<;>rfl),i]
 refine I.write (x:=p) (e:=p) (by rw[h];trivial) (.inl rfl) (λb u m q=>(Fb _ _ (yK m)).trans q) ⟨_,e⟩ ?_;exact⟨l,its',g,r,e⟩
def Dc:V->V->V->Hp->(Hp->Prop)->Prop:=λo i v H Q=>∃ p xs k j,o=.ref p/\i=.int k/\H p=some (.lst xs)/\ixN xs.length k=some j/\Q (upd H p (.lst (xs.set j v)))
theorem F4:C3 X Dc:=by
 intro c s σ H o i v G J u Q I ro A B h;obtain⟨p,xs,k,j,rfl,rfl,m,C,q⟩:=h;cases ro;obtain⟨t,rfl⟩:=A;obtain⟨its,n,r,f,E⟩:=I.lst m;obtain⟨e,L,w,x⟩:=B7 C;have g:=r.length;have M:=xE;have y:Inv X c σ (upd H p (.lst (xs.set j v))) { s with heap:=s.heap.update p (Qr (·.setIfInBounds j u)) } :=
  I.lstUpd m f (E1 its n j u) (r.set B j) (by rw[yk];exact E) s.toks
 by_cases z:0 <= k
 ·have l:k.toNat=j:=by
   rw[Wt z x] at e;exact Qm e
  exact PySem.W.ki_setAt f z (by lia) (by rw[jw,<- g];exact x) (by rw[l];exact⟨_,y,q⟩)
 ·have l:(k+(its.toArray.size:Int)).toNat=j:=by
   rw[cy (by lia) w] at e;rw[jw,<- g];exact Qm e
  exact PySem.W.ki_setBack f (by lia) (by rw[jw,<- g];exact w) (by lia) (by rw[l];exact⟨_,y,q⟩)
theorem eG (lo hi:Option Int) (n:Nat):(Jv lo hi none n).1=((HT.sIx n 0 lo:Nat):Int)/\(Jv lo hi none n).2.1=((HT.sIx n n hi:Nat):Int)/\(Jv lo hi none n).2.2=1:=by
 refine⟨?_,?_,rfl⟩
 ·cases lo with
  | none=>simp[Jv,HT.sIx]
  | some i =>
   simp only[Jv,HT.sIx,gj,show (1:Int) > 0 by decide,if_true];by_cases h:i < 0
   ·simp only[h,if_true]<;>lia
   ·simp only[h,if_false]<;>lia
 ·cases hi with
  | none=>simp[Jv,HT.sIx]
  | some i =>
   simp only[Jv,HT.sIx,gj,show (1:Int) > 0 by decide,if_true];by_cases h:i < 0
   ·simp only[h,if_true]<;>lia
   ·simp only[h,if_false]<;>lia
theorem ED (its:List zD) (lo hi:Option Int):uS its.toArray lo hi none=((its.drop (HT.sIx its.length 0 lo)).take (HT.sIx its.length its.length hi - HT.sIx its.length 0 lo)).toArray:=by
 obtain⟨c,e,f⟩:=eG lo hi its.toArray.size;unfold uS;rw[c,e,f];simp only[sliceRange_one,pick_run,jw]<;>rfl
def LR (K:PySem.W.Frag):V->Option Int->Option Int->Hp->VK->Prop:=λx lo hi H Q=>∃ a xs,x=.ref a/\SqL K H a xs/\∀ p,H p=none->Q (.ref p) (upd H p (.lst (Ql xs lo hi)))
theorem er:SlR X (LR X.K):=by
 intro e s σ H x v l m lo hi n Q I rx hs pl g h;obtain⟨a,xs,rfl,i,q⟩:=h;cases rx;obtain⟨its,r,f,j⟩:=I.list i;have c:=r.length;refine⟨"list",_,slot_list_getitem.lookup,f.isList.typeIs,?_⟩;refine EE f.isList hs pl g .none (by simp) ?_ (by rw[jw]<;>lia);rw[ED,<- c];refine⟨.ref s.heap.objs.size,_,I.laid (t':=s.toks) (o:=.lst (Ql xs lo hi)) (λb ob q=>jd _ q) (zg _) ?_,rfl,q _ (I.hok.fresh (zg _))⟩;exact⟨jr (bC xs lo hi) j,_,0,(r.drop (HT.sIx xs.length 0 lo)).take (HT.sIx xs.length xs.length hi - HT.sIx xs.length 0 lo),qd _ rfl⟩
noncomputable def yb:V->Bool
 | .non=>true
 | .bl _=>true
 | .int _=>true
 | .str _=>true
 | _=>false
noncomputable def eqV:V->V->Bool
 | .non,.non=>true
 | .bl a,.bl b=>a == b
 | .bl a,.int b=>(if a then 1 else 0) == b
 | .int a,.bl b=>a == (if b then 1 else 0)
 | .int a,.int b=>a == b
 | .str a,.str b=>a == b
 | _,_=>false
theorem ID (ry:zm y u) (rx:zm x v) (e:yb y=true) (c:yb x=true):Fu A s u v (eqV y x):=by
 cases y with
 | non =>
  cases ry;cases x with
  | non=>cases rx;exact Mn _
  | bl b=>cases rx;exact Mv b
  | int b=>obtain⟨t,rfl⟩:=rx;exact Mo b t
  | str b=>obtain⟨t,rfl⟩:=rx;exact Ma b t
  | _=>exact absurd (show false=true from c) qM
 | bl a =>
  cases ry;cases x with
  | non=>cases rx;exact Mp a
  | bl b=>cases rx;exact Mb a b
  | int b=>obtain⟨t,rfl⟩:=rx;exact Mz a b t
  | str b=>obtain⟨t,rfl⟩:=rx;exact Mi a b t
  | _=>exact absurd (show false=true from c) qM
 | int a =>
  obtain⟨t',rfl⟩:=ry;cases x with
  | non=>cases rx;exact MM a t'
  | bl b=>cases rx;exact Mq a t' b
  | int b=>obtain⟨t,rfl⟩:=rx;exact MV a t' b t
  | str b=>obtain⟨t,rfl⟩:=rx;exact DG a t' b t
  | _=>exact absurd (show false=true from c) qM
 | str a =>
  obtain⟨t',rfl⟩:=ry;cases x with
  | non=>cases rx;exact MR a t'
  | bl b=>cases rx;exact Mt a t' b
  | int b=>obtain⟨t,rfl⟩:=rx;exact ep a t' b t
  | str b=>obtain⟨t,rfl⟩:=rx;exact Mr a t' b t
  | _=>exact absurd (show false=true from c) qM
 | _=>exact absurd (show false=true from e) qM
def eqU (x:V) (u:zD):Bool:=match u with
 | .none=>eqV .non x
 | .bool b=>eqV (.bl b) x
 | .int i _=>eqV (.int i) x
 | .str z _=>eqV (.str z) x
 | _=>false
theorem AZ (r:zm y u) (f:yb y=true):eqU x u=eqV y x:=by
 cases y with
 | non=>cases r;rfl
 | bl b=>cases r;rfl
 | int i=>obtain⟨t,rfl⟩:=r;rfl
 | str z=>obtain⟨t,rfl⟩:=r;rfl
 | _=>exact absurd (show false=true from f) qM
theorem Xg:∀ {xs:List V}{us:List zD},zd xs us->xs.all yb=true->us.any (eqU x)=xs.any λy=>eqV y x
 | _,_,.nil,_=>rfl
 | y::xs,u::us,.cons r t,f=>by
  rw[JF,j7] at f;rw[Qo,Qo,AZ r f.1,Xg t f.2]
theorem Ks (rx:zm x v) (e:yb x=true):∀ {xs:List V}{us:List zD},zd xs us->xs.all yb=true->∀ u∈us,Fu A s u v (eqU x u)
 | _,_,.nil,_=>λu c=>by cases c
 | y::xs,u::us,.cons r t,f=>λg c=>by
  rw[JF,j7] at f;rcases List.mem_cons.mp c with rfl | c
  ·rw[AZ r f.1];exact ID r rx f.1 e
  ·exact Ks rx e t f.2 g c
def inV (x:V) (xs:List V):Bool:=xs.any λy=>eqV y x
def rIn (K:PySem.W.Frag) (neg:Bool):R2:=λx y H Q=>∃ p xs,y=.ref p/\(SqL K H p xs\/SqT K H p xs)/\yb x=true/\xs.all yb=true/\Q (.bl (if neg then !inV x xs else inV x xs)) H
theorem fv:OpR X (jZ .In) (rIn X.K false):=by
 intro c s σ H x y v u Q I rx ry h;obtain⟨p,xs,rfl,hq,e,fs,q⟩:=h;cases ry;rcases hq with hq | hq
 ·obtain⟨its,r,pl,f⟩:=I.list hq;refine SeqAt.in_listAt (eqU x) pl.isList (λw hw=>Ks rx e r fs w (by simpa using hw)) ⟨.bl _,H,I,rfl,?_⟩;rw[show its.toArray.any (eqU x)=its.any (eqU x) by simp,Xg r fs];exact q
 ·obtain⟨its,r,pl,f⟩:=I.tuple hq;refine SeqAt.in_tupleAt (eqU x) pl (λw hw=>Ks rx e r fs w (by simpa using hw)) ⟨.bl _,H,I,rfl,?_⟩;rw[show its.toArray.any (eqU x)=its.any (eqU x) by simp,Xg r fs];exact q
theorem fB:OpR X (jZ .NotIn) (rIn X.K true):=by
 intro c s σ H x y v u Q I rx ry h;obtain⟨p,xs,rfl,hq,e,fs,q⟩:=h;cases ry;rcases hq with hq | hq
 ·obtain⟨its,r,pl,f⟩:=I.list hq;refine SeqAt.notIn_listAt (eqU x) pl.isList (λw hw=>Ks rx e r fs w (by simpa using hw)) ⟨.bl _,H,I,rfl,?_⟩;rw[show its.toArray.any (eqU x)=its.any (eqU x) by simp,Xg r fs];exact q
 ·obtain⟨its,r,pl,f⟩:=I.tuple hq;refine SeqAt.notIn_tupleAt (eqU x) pl (λw hw=>Ks rx e r fs w (by simpa using hw)) ⟨.bl _,H,I,rfl,?_⟩;rw[show its.toArray.any (eqU x)=its.any (eqU x) by simp,Xg r fs];exact q
theorem FT:jx X (.builtin "len") (λxs H Q=>∃ p ys,xs=[.ref p]/\(SqL X.K H p ys\/SqT X.K H p ys)/\Q (.int ys.length) H):=by
 intro f s σ H xs us Q I r h;obtain⟨p,ys,rfl,hq,q⟩:=h;obtain⟨u,rfl,rx⟩:=yd r;cases rx;have i:=xE;rcases hq with hq | hq
 ·obtain⟨its,e,pl,g⟩:=I.list hq;have c:=e.length;exact Calls.call_len_list pl.isList (by simp only[jw]<;>lia) ⟨.int ys.length,H,I.tok _,⟨s.toks+1,by rw[jw,c]⟩,q⟩
 ·obtain⟨its,e,pl,g⟩:=I.tuple hq;have c:=e.length;exact len_tuple pl (by simp only[jw]<;>lia) ⟨.int ys.length,H,I.tok _,⟨s.toks+1,by rw[jw,c]⟩,q⟩
theorem Fi:jx X (.builtin "len") (λxs H Q=>∃ z,xs=[.str z]/\z.length <= zf/\Q (.int z.length) H):=by
 intro c s σ H xs us Q I r h;obtain⟨z,rfl,e,q⟩:=h;obtain⟨u,rfl,t,rfl⟩:=yd r;have f:=xE;exact len_str (by lia) ⟨.int z.length,H,I.tok _,⟨_,rfl⟩,q⟩
theorem jx.or (h:jx X f r) (h':jx X f g):jx X f (λxs H Q=>r xs H Q\/g xs H Q):=by
 intro c s σ H xs us Q I e q;rcases q with q | q
 ·exact h c s σ H xs us Q I e q
 ·exact h' c s σ H xs us Q I e q
theorem Iw:jx X (.type "list") (λxs H Q=>∃ p ys,xs=[.ref p]/\(SqL X.K H p ys\/SqT X.K H p ys)/\∀ l,H l=none->Q (.ref l) (upd H l (.lst ys))):=by
 intro g s σ H xs us Q I r h;obtain⟨p,ys,rfl,hq,q⟩:=h;obtain⟨u,rfl,rx⟩:=yd r;cases rx;have fin:∀ (its:List zD),zd ys its->ys.length <= zf->∀ (h':zp) (c:Nat),(∀ b v,s.heap.get? b=some v->h'.get? b=some v) ->
   h'.get? s.heap.objs.size=some { cls:=.type "list",dict:=none,data:=.seq its.toArray c,slots:=#[] }->EP X g σ Q (.ref s.heap.objs.size) { s with heap:=h' }:=λits f i h' c kp e =>
  ⟨.ref s.heap.objs.size,_,I.laid (t':=s.toks) kp (zg _) (show jn X.prog X.w _ h' _ (.lst ys) from ⟨i,its,c,f,e⟩),rfl,q _ (I.hok.fresh (zg _))⟩
 rcases hq with hq | hq
 ·obtain⟨its,f,pl,i⟩:=I.list hq;have j:=f.length;obtain⟨o,m,t,n,hd⟩:=pl.isList;exact call_list_seq p (.inl rfl) m t hd (λh' c kp e=>fin its f i h' c kp e) (by simp only[jw]<;>lia)
 ·obtain⟨its,f,pl,i⟩:=I.tuple hq;have j:=f.length;obtain⟨o,m,t,n,hd⟩:=pl;exact call_list_seq p (.inr rfl) m t hd (λh' c kp e=>fin its f i h' c kp e) (by simp only[jw]<;>lia)
theorem dr:jx X (.type "tuple") (λxs H Q=>∃ p ys,xs=[.ref p]/\((SqL X.K H p ys/\∀ l,H l=none->Q (.ref l) (upd H l (.tup ys)))\/(SqT X.K H p ys/\Q (.ref p) H))):=by
 intro c s σ H xs us Q I r h;obtain⟨p,ys,rfl,h⟩:=h;obtain⟨u,rfl,rx⟩:=yd r;cases rx;rcases h with ⟨hq,q⟩ | ⟨hq,q⟩
 ·obtain⟨its,f,pl,g⟩:=I.list hq;have i:=f.length;refine call_tuple_list pl.isList (λh' kp=>?_) (by simp only[jw]<;>lia);have j:Inv X c σ H { s with heap:=h' }:=I.kept (t':=s.toks) kp;have m:Inv X c σ (upd H h'.objs.size (.tup ys)) { s with heap:=h'.push { cls:=.type "tuple",data:=.seq its.toArray } } :=
   j.laid (t':=s.toks) (λb o e=>jd _ e) (zg _) (show jn X.prog X.w _ _ _ (.tup ys) from ⟨g,its,f,B1 _ _⟩)
  exact⟨.ref h'.objs.size,_,m,rfl,q _ (j.hok.fresh (zg _))⟩
 ·obtain⟨its,f,pl,g⟩:=I.tuple hq;exact call_tuple_same pl ⟨.ref p,H,I,rfl,q⟩
def tyV (K:PySem.W.Frag) (T:String) (x:V) (H:Hp):Prop:=match x with
 | .str _=>T = "str"
 | .int _=>T = "int"
 | .ref p=>(T = "list" /\ ∃ xs,SqL K H p xs)\/(T = "tuple" /\ ∃ o,K.lookup p=some o/\o.cls=.type "tuple" /\ o.dict=none) \/
   (T = "dict" /\ ((∃ kvs,H p=some (.dK kvs))\/(∃ kvs,H p=some (.dT kvs))\/∃ c:zp->Prop,H p=some (.ext c)/\∀ h,c h->∃ o,h.get? p=some o/\o.ExactDict))\/(T = "set" /\ ∃ S n,H p=some (.set S n))
 | _=>False
theorem vr {T:String} (I:Inv X h σ H s) (r:zm x v) (ty:tyV X.K T x H) :
  s.TypeIs v T/\∀ a,v=.ref a->∃ ob,s.heap.get? a=some ob/\ob.dict=none:=by
 cases x with
 | str z =>
  obtain⟨t,rfl⟩:=r;cases (show T = "str" from ty);exact⟨xo s z t,λ_ e=>nomatch e⟩
 | int i =>
  obtain⟨t,rfl⟩:=r;cases (show T = "int" from ty);exact⟨typeIs_int s i t,λ_ e=>nomatch e⟩
 | ref p =>
  cases r;rcases ty with ⟨rfl,xs,hq⟩ | ⟨rfl,o,f,j,hd⟩ | ⟨rfl,f⟩ | ⟨rfl,S,n,f⟩
  ·obtain⟨its,_,pl,_⟩:=I.list hq;refine⟨pl.isList.typeIs,λa e=>?_⟩;cases e;obtain⟨o,n,e,c,hd,_⟩:=pl;exact⟨o,e,hd⟩
  ·refine⟨⟨o,I.kIn p o f,j⟩,λa e=>?_⟩;cases e;exact⟨o,I.kIn _ o f,hd⟩
  ·have z:∃ o,s.heap.get? p=some o/\o.ExactDict:=by
    rcases f with ⟨kvs,f⟩ | ⟨kvs,f⟩ | ⟨m,f,l⟩
    ·obtain⟨_,_,_,_,o,_,_,e,ex,_⟩:=I.hok p _ f;exact⟨o,e,ex⟩
    ·obtain⟨_,_,_,_,o,_,_,e,ex,_⟩:=I.hok p _ f;exact⟨o,e,ex⟩
    ·exact l _ (I.hok p _ f).1
   obtain⟨o,e,ex⟩:=z;refine⟨⟨o,e,ex.1⟩,λa g=>?_⟩;cases g;exact⟨o,e,ex.2.1⟩
  ·obtain⟨o,_,_,_,e,ex,_⟩:=I.hok p _ f;refine⟨⟨o,e,ex.1⟩,λa g=>?_⟩;cases g;exact⟨o,e,ex.2.1⟩
 | _=>exact jJ ty
def Hn (K:PySem.W.Frag) (T:String) (r:V->List V->Hp->VK->Prop) (to:TE):TE:=λσ H Q=>to σ H λx c=>tyV K T x c/\r x [] c Q
def tBM (K:PySem.W.Frag) (T:String) (r:V->List V->Hp->VK->Prop) (to:TE) (t:TA):TE:=λσ H Q=>to σ H λx c=>tyV K T x c/\t σ c λxs e=>r x xs e Q
variable {o e:ze}{es:List ze}{to:TE}{t:TA}{name:Str}{apos cpos:Pos}{T id:String}{r:V->List V->Hp->VK->Prop}
theorem fK (m:wt T) (slot:Slot T name id) (i:typeOf (.builtin id)=pure (.type "method_descriptor")) (hm:MtR X id r) (n:PE X o to)
  (f:JM o name X.env (z0 o X.env)=z0 o X.env:=by rfl) (g:(apos.endLine == cpos.line)=true:=by rfl):PE X (.Call (.Attribute o name apos) [] [] cpos) (Hn X.K T r to):=by
 intro c s σ H Q I h;refine wpAny_Call_method0_late f g (zy (n c s σ H _ I h) λv p x q j l ⟨ty,u⟩=>?_);obtain⟨w,y⟩:=vr j l ty;exact⟨T,id,m,slot,i,w,y,Y9 rfl (PySem.evalArgs_none (hm c p σ q x [] v [] Q j l .nil u))⟩
theorem bS (q:wt T) (slot:Slot T name id) (l:typeOf (.builtin id)=pure (.type "method_descriptor")) (hm:MtR X id r) (u:PE X o to) (ha:PA X (e::es) t)
  (g:JM o name X.env (z0 o X.env)=z0 o X.env:=by rfl)
  (j:((yR cpos (jY (e::es) X.env)).all (λx=>!x.1) && (Kl cpos (Xc [] X.env)).all (λx=>x.1.isSome)
   && decide ((e::es).length+([]:List w6).length+(if ([]:List w6).isEmpty then 0 else 1) < 30))=true:=by rfl)
  (i:(apos.endLine == cpos.line)=true:=by rfl) (hs:jY (e::es) X.env=(false,z0 e X.env)::jY es X.env:=by rfl) (f:(yR cpos (jY es X.env)).any (·.1)=false:=by rfl) :
  PE X (.Call (.Attribute o name apos) (e::es) [] cpos) (tBM X.K T r to t):=by
 intro c s σ H Q I h;refine Cn g j i rfl (zy (u c s σ H _ I h) λv w x y m n ⟨ty,z⟩=>?_);obtain⟨A,B⟩:=vr m n ty;refine⟨T,id,q,slot,l,A,B,?_⟩;have p:=ha cpos c w σ y _ m z;rw[hs] at p ⊢;refine Y9 (by show (false || (yR cpos (jY es X.env)).any (·.1))=false;rw[f]<;>rfl) (CJ ?_);exact thn p λus C ⟨vs,E,G,J,L⟩=>hm c C σ E x vs v us Q G n J L
end
def MtM (X:Cx) (id:String) (r:V->List V->Hp->VK->Prop):Prop :=
 ∀ (c:List (zE×Obj)) (s:zI) (σ:St) (H:Hp) (x:V) (xs:List V) (v:zD) (us:List zD) (Q:VK),Inv X c σ H s->zm x v->zd xs us->r x xs H Q ->
  wpAny (zN X.prog X.w) X.A (call (.builtin id) (v::us)) (EP X c σ Q) X.xe s
theorem zd.one:∀ {x:V}{us:List zD},zd [x] us->∃ u,us=[u]/\zm x u
 | _,_,.cons r .nil=>⟨_,rfl,r⟩
theorem zd.zero:∀ {us:List zD},zd [] us->us=[]
 | _,.nil=>rfl
theorem zd.dropLast (h:zd xs us):zd xs.dropLast us.dropLast:=by
 induction h with
 | nil=>exact .nil
 | cons r t c =>
  cases t with
  | nil=>exact .nil
  | cons q t'=>exact .cons r c
theorem zd.reverse (h:zd xs us):zd xs.reverse us.reverse:=by
 induction h with
 | nil=>exact .nil
 | cons r t c=>rw[YU,YU];exact zd.append c (.cons r .nil)
theorem zd.rep (h:zd xs us):∀ k:Nat,zd (jK k xs).flatten (jK k us).flatten
 | 0=>.nil
 | k+1=>by
  rw[JP,JP,Jf,Jf];exact zd.append h (zd.rep h k)
theorem Gh {c:Type} (l:List c):l.eraseIdx (l.length - 1)=l.dropLast:=by
 induction l with
 | nil=>rfl
 | cons a r f =>
  cases r with
  | nil=>rfl
  | cons b r =>
   have e:(a::b::r).length - 1=((b::r).length - 1)+1:=by
    have g:(a::b::r).length=r.length+2:=rfl;have h:(b::r).length=r.length+1:=rfl
    lia
   rw[e,List.eraseIdx_cons_succ,f]
   all_goals rfl
theorem bp (its:List zD):∀ (k:Nat) (c:List zD),
  wo (λf g=>f++g) c.toArray (jK k its.toArray)=(c++(jK k its).flatten).toArray
 | 0,c=>by simp
 | k+1,c=>by
  have e:c.toArray++its.toArray=(c++its).toArray:=by simp
  have h:(c++its)++(jK k its).flatten=c++(jK (k+1) its).flatten:=by
   rw[JP,Jf,qy]
  rw[<- h,<- bp its k (c++its),<- e,JP,Z7]
section
variable {X:Cx}{pins:List (zE×Obj)}{σ:St}{H:Hp}{s:zI}{l b:zE}{xs ys zs:List V}
theorem Inv.lset {its its':List zD}{n:Nat}{f:Array zD->Array zD}{t':Nat} (I:Inv X pins σ H s) (c:H l=some (.lst xs))
  (e:s.heap.get? l=some { cls:=.type "list",data:=.seq its.toArray n }) (g:f its.toArray=its'.toArray) (hv:zd ys its') (h:ys.length <= zf) (m:0 < t':=by first | exact ZM _ | assumption | exact Inv.tk (by assumption) | lia) :
  Inv X pins σ (upd H l (.lst ys)) { s with heap:=s.heap.update l (Qr f),toks:=t' }:=by
 have q:=PySem.IsL.update e f;rw[g] at q;refine I.write (x:=l) (e:=l) (by rw[c];exact trivial) (.inl rfl) (λo u i j=>(Fb s.heap (Qr f) (yK i)).trans j) ⟨_,q⟩ ?_;exact⟨h,its',_,hv,q⟩
theorem Inv.lnew {t':Nat} (I:Inv X pins σ H s) (hv:zd ys its) (c:ys.length <= zf) (e:0 < t':=by first | exact ZM _ | assumption | exact Inv.tk (by assumption) | lia) :
  Inv X pins σ (upd H s.heap.objs.size (.lst ys)) { s with heap:=s.heap.push { cls:=.type "list",data:=.seq its.toArray },toks:=t' } :=
 I.laid (λ_ _ q=>jd _ q) (zg _) ⟨c,its,0,hv,qd _ rfl⟩
theorem Inv.fresh (I:Inv X pins σ H s):H s.heap.objs.size=none:=I.hok.fresh (zg _)
theorem Inv.lstM (I:Inv X pins σ H s) (c:H l=some (.lst xs)):xs.length <= zf/\∃ (its:List zD) (n:Nat),zd xs its/\xs.length=its.length/\s.heap.get? l=some { cls:=.type "list",data:=.seq its.toArray n }:=by
 obtain⟨z,its,n,r,e⟩:=I.hok l _ c;exact⟨z,its,n,r,r.length,e⟩
theorem Ec {n:Nat} (h:n <= zf):B6 n=false:=by
 unfold B6;exact decide_eq_false (by lia)
end
section
variable {X:Cx}
def bV:V->List V->Hp->VK->Prop:=λx vs H Q=>∃ l xs y,x=.ref l/\vs=[y]/\H l=some (.lst xs)/\xs.length < zf/\Q .non (upd H l (.lst (xs++[y])))
theorem Dz:MtM X "list.append" bV:=by
 intro c s σ H x vs v us Q I rx g h;obtain⟨l,xs,y,rfl,rfl,f,j,q⟩:=h;cases rx;obtain⟨u,rfl,i⟩:=g.one;obtain⟨z,its,n,r,m,e⟩:=I.lstM f;refine J9 F.slot_list_append ⟨_,e,rfl⟩ F.entry_list_append (F.args_list_append_2 _ _) (PySem.list_append l its.toArray n u (by rw[jw];lia)) ⟨e,?_⟩;refine⟨.non,_,I.lset (its':=its++[u]) f e (by simp) (r.append (.cons i .nil)) ?_,rfl,q⟩;rw[jv,KH]
 lia
def cx:V->List V->Hp->VK->Prop:=λx vs H Q=>∃ l xs y,x=.ref l/\vs=[]/\H l=some (.lst xs)/\xs[xs.length - 1]? = some y/\Q y (upd H l (.lst xs.dropLast))
theorem eg:MtM X "list.pop" cx:=by
 intro g s σ H x vs v us Q I rx j h;obtain⟨l,xs,y,rfl,rfl,i,m,q⟩:=h;cases rx;have c:=j.zero;subst c;obtain⟨z,its,n,r,o,e⟩:=I.lstM i;obtain⟨u,p,t⟩:=r.get m;have f:its.toArray[its.toArray.size - 1]? = some u:=by
  show its.toArray[its.length - 1]? = some u;rw[<- xq,<- o];exact p
 refine J9 F.slot_list_pop ⟨_,e,rfl⟩ F.entry_list_pop (F.args_list_pop_1 _) (MeetsSeq.list_pop_last l its.toArray n u f (by rw[jw];lia)) ⟨e,?_⟩;refine⟨y,_,I.lset (its':=its.dropLast) i e ?_ r.dropLast ?_,t,q⟩
 ·show its.toArray.eraseIdxIfInBounds (its.toArray.size - 1)=its.dropLast.toArray;rw[jw,List.eraseIdxIfInBounds_toArray,Gh]
 ·rw[List.length_dropLast]
  lia
def f5:R2:=λx y H Q=>∃ l b xs c,x=.ref l/\y=.ref b/\H l=some (.lst xs)/\H b=some (.lst c)/\xs.length+c.length <= zf/\∀ p,H p=none->Q (.ref p) (upd H p (.lst (xs++c)))
theorem Ej:OpR X (yW .Add) f5:=by
 intro f s σ H x y v u Q I rx ry h;obtain⟨l,b,xs,t,rfl,rfl,g,i,w,q⟩:=h;cases rx;cases ry;obtain⟨z,its,n,r,A,e⟩:=I.lstM g;obtain⟨B,c,C,j,m,o⟩:=I.lstM i;refine PySem.P.add_list e o ?_ (by rw[jw,jw];lia);have p:its.toArray++c.toArray=(its++c).toArray:=by simp
 rw[p];exact⟨.ref _,_,I.lnew (t':=s.toks) (r.append j) (by rw[jv];lia),rfl,q _ I.fresh⟩
def Aq:R2:=λx y H Q=>∃ l k xs,x=.ref l/\y=.int k/\H l=some (.lst xs) /\ -(2 ^ 63) <= k/\k < 2 ^ 63/\xs.length * k.toNat <= zf /\
 ∀ p,H p=none->Q (.ref p) (upd H p (.lst (jK k.toNat xs).flatten))
theorem fk {c:Type} (xs:List c) (k:Nat):(jK k xs).flatten.length=k * xs.length:=by
 induction k with
 | zero=>simp
 | succ k e=>rw[JP,Jf,jv,e,Nat.succ_mul,Nat.add_comm]
theorem eF:OpR X (yW .Mult) Aq:=by
 intro w s σ H x y v u Q I rx ry h;obtain⟨l,k,xs,rfl,rfl,B,C,E,A,q⟩:=h;cases rx;obtain⟨t,rfl⟩:=ry;obtain⟨z,its,n,r,G,e⟩:=I.lstM B;have f:its.toArray.size * k.toNat <= zf:=by rw[jw,<- G];exact A
 have g:¬ its.toArray.size * k.toNat > (2 ^ 63 - 1) / 8:=by
  have:(zf:Nat) <= (2 ^ 63 - 1) / 8:=by decide
  lia
 have i:¬ (!Mh k)=true:=by
  rw[fitsIndex_both C E];exact qM
 have c:¬ B6 (its.toArray.size * k.toNat)=true:=by
  rw[Ec f];exact qM
 have j:wo (λo p=>o++p) #[] (jK (if its.toArray.isEmpty=true then 0 else k.toNat) its.toArray)=(jK k.toNat its).flatten.toArray:=by
  have J:∀ m:Nat,wo (λo p=>o++p) #[] (jK m its.toArray)=(jK m its).flatten.toArray:=λm=>by
   have:=bp its m [];rw[XG] at this;exact this
  rw[J];cases its with
  | nil=>simp
  | cons a M=>rw[if_neg (by simp)]
 refine wpAny_binaryOp_repeat_ref (T := "list") (U := "int") (by decide) ⟨_,e,rfl⟩ (λL=>typeIs_int L k t) noFill_list_mul F.fills_int_mul F.slot_int_rmul repeat_list F.slot_int_index.lookup
  (J9 F.slot_int_rmul (typeIs_int s k t) F.entry_int_rmul (F.args_int_rmul_2 _ _) (int___rmul___int_list k t l its.toArray n)
   ⟨e,rfl,⟨_,e,rfl⟩,J9 F.slot_list_mul ⟨_,e,rfl⟩ F.entry_list_mul (F.args_list_mul_2 _ _) (AutoListH.list___mul___list_int_3 l its.toArray n k t i g c) ⟨e,?_⟩⟩)
 rw[j];exact⟨.ref _,_,I.lnew (t':=s.toks) (r.rep k.toNat) (by rw[fk,Nat.mul_comm];exact A),rfl,q _ I.fresh⟩
end
section
variable {prog:jD}{w:jC}{A:jj}{E:zD->zI->Prop}{s:zI}
set_option maxRecDepth 100000 in
end
section
variable {κ:Type} [DecidableEq κ]
noncomputable def yO (kvs:List (κ×V)) (k:κ):Option V:=(kvs.find? λc=>decide (c.1=k)).map (·.2)
noncomputable def yN (kvs:List (κ×V)) (k:κ) (v:V):List (κ×V) :=
 if (kvs.any λc=>decide (c.1=k))=true then kvs.map (λc=>if c.1=k then (c.1,v) else c) else kvs++[(k,v)]
theorem YH {p:κ×V}{r:List (κ×V)}{k:κ} (e:p.1=k):yO (p::r) k=some p.2:=by simp[yO,KE,e]
theorem VD {p:κ×V}{r:List (κ×V)}{k:κ} (e:¬ p.1=k):yO (p::r) k=yO r k:=by simp[yO,KE,e]
theorem bz (k:κ):∀ kvs:List (κ×V),(kvs.any λc=>decide (c.1=k))=(yO kvs k).isSome
 | []=>rfl
 | p::r=>by
  rw[Qo];by_cases e:p.1=k
  ·simp only[YH e,decide_eq_true e,Bool.true_or,Du]
  ·rw[VD e,decide_eq_false e,Bool.false_or];exact bz k r
theorem BF (kvs:List (κ×V)) (k:κ) (v:V):(yN kvs k v).length <= kvs.length+1:=by
 unfold yN;split
 ·rw[jH];lia
 ·rw[jv,jE,qz];lia
theorem yq.isSome_eq (r:yq o u):o.isSome=u.isSome:=by
 cases o with
 | none=>cases u with
  | none=>rfl
  | some _=>exact (show False from r).elim
 | some _=>cases u with
  | none=>exact (show False from r).elim
  | some _=>rfl
theorem KV.val {kvs:List (κ×V)}{vs:List (κ×zD)} (r:KV kvs vs) (k:κ):yq (yO kvs k) (Jw vs k):=by
 unfold KV at r
 induction r with
 | nil=>exact QD
 | @cons p q ps c h t i =>
  obtain⟨g,j⟩:=h;by_cases e:p.1=k
  ·have f:q.1=k:=g.symm.trans e;have b:Jw (q::c) k=some q.2:=by simp[Jw,KE,f]
   rw[YH e,b];exact j
  ·have f:¬ q.1=k:=λz=>e (g.trans z);have b:Jw (q::c) k=Jw c k:=by simp[Jw,KE,f]
   rw[VD e,b];exact i
theorem KV.any {kvs:List (κ×V)}{vs:List (κ×zD)} (r:KV kvs vs) (k:κ):(kvs.any λc=>decide (c.1=k))=vs.any λc=>decide (c.1=k):=by
 unfold KV at r
 induction r with
 | nil=>rfl
 | cons h t e=>rw[Qo,Qo,e,h.1]
theorem KV.repl {kvs:List (κ×V)}{vs:List (κ×zD)} (r:KV kvs vs) (k:κ) (ry:zm y u) :
  KV (kvs.map λc=>if c.1=k then (c.1,y) else c) (vs.map λc=>if c.1=k then (c.1,u) else c):=by
 unfold KV at r ⊢
 induction r with
 | nil=>exact .nil
 | @cons p q ps j h t g =>
  rw[jN,jN];refine .cons ?_ g;obtain⟨f,i⟩:=h;by_cases e:p.1=k
  ·rw[if_pos e,if_pos (f.symm.trans e)];exact⟨f,ry⟩
  ·rw[if_neg e,if_neg (λz=>e (f.trans z))];exact⟨f,i⟩
theorem KV.put {kvs:List (κ×V)}{vs:List (κ×zD)} (r:KV kvs vs) (k:κ) (ry:zm y u):KV (yN kvs k y) (stored vs k u):=by
 unfold yN stored;rw[r.any k];by_cases e:(vs.any λc=>decide (c.1=k))=true
 ·rw[if_pos e,if_pos e];exact r.repl k ry
 ·rw[if_neg e,if_neg e];exact Paired.snoc r ⟨rfl,ry⟩
theorem KV.keys {kvs:List (κ×V)}{vs:List (κ×zD)} (r:KV kvs vs):kvs.map (·.1)=vs.map (·.1):=by
 unfold KV at r
 induction r with
 | nil=>rfl
 | cons h t c=>rw[jN,jN,c,h.1]
theorem KV.length {kvs:List (κ×V)}{vs:List (κ×zD)} (r:KV kvs vs):kvs.length=vs.length:=Paired.length r
end
theorem kF {P:jD}{k:Key} (r:zm (kV k) u):(qG P w).is k u=true:=by
 cases k with
 | inl i=>obtain⟨t,e⟩:=(show ∃ t,u=Vb i t from r);subst e;exact iu P w i t
 | inr x=>obtain⟨t,e⟩:=(show ∃ t,u=vF x t from r);subst e;exact fX P w x t
theorem Am {P:jD}:∀ {c:List Key}{us:List zD},zd (c.map kV) us->ItemsAre (qG P w) c us
 | [],_,r=>by rw[xf] at r;cases r;exact .nil
 | k::c,_,r=>by
  rw[jN] at r;cases r with
  | cons h t=>exact .cons (kF h) (Am t)
abbrev KT (H:Hp):List (List Key×V)->List (List Key×zE×zD)->Prop:=Paired λp q=>p.1=q.1/\H q.2.1=some (.tup (p.1.map kV))/\zm p.2 q.2.2
theorem KT.val (r:KT H kvs xs) (k:List Key):yq (yO kvs k) ((Jq xs k).map (·.2)):=by
 induction r with
 | nil=>exact QD
 | @cons p q ps c h t i =>
  obtain⟨g,_,j⟩:=h;by_cases e:p.1=k
  ·have f:q.1=k:=g.symm.trans e;have b:Jq (q::c) k=some q.2:=by simp[Jq,KE,f]
   rw[YH e,b];exact j
  ·have f:¬ q.1=k:=λz=>e (g.trans z);have b:Jq (q::c) k=Jq c k:=by simp[Jq,KE,f]
   rw[VD e,b];exact i
theorem KT.repl (r:KT H kvs xs) (k:List Key) (ry:zm y u) :
  KT H (kvs.map λf=>if f.1=k then (f.1,y) else f) (xs.map (putAt k u)):=by
 induction r with
 | nil=>exact .nil
 | @cons p q ps l h t i =>
  rw[jN,jN];refine .cons ?_ i;obtain⟨c,g,j⟩:=h;unfold putAt;by_cases e:p.1=k
  ·rw[if_pos e,if_pos (c.symm.trans e)];exact⟨c,g,ry⟩
  ·rw[if_neg e,if_neg (λz=>e (c.trans z))];exact⟨c,g,j⟩
theorem KT.put (r:KT H kvs xs) (k:List Key) {b:zE} (c:H b=some (.tup (k.map kV))) (ry:zm y u) :
  KT H (yN kvs k y) (storedH xs k b u):=by
 have e:(kvs.any λf=>decide (f.1=k))=(Jq xs k).isSome:=by
  rw[bz,(r.val k).isSome_eq,UQ]
 unfold yN storedH;rw[e];by_cases q:(Jq xs k).isSome=true
 ·rw[if_pos q,if_pos q];exact r.repl k ry
 ·rw[if_neg q,if_neg q];exact Paired.snoc r ⟨rfl,c,ry⟩
theorem KT.keeps {c:Hp} (r:KT H kvs xs) (e:∀ b ys,H b=some (.tup ys)->c b=some (.tup ys)):KT c kvs xs :=
 Paired.mapP r λ_ _ z=>⟨z.1,e _ _ z.2.1,z.2.2⟩
section
variable {P:jD}{w:jC}{H:Hp}{h:zp}{a:zE}
theorem Ww (ok:HOk P w H h) (e:Rd H a u):jn P w H h a u:=e.ok ok
theorem xy {kvs:List (Key×V)} (ok:HOk P w H h) (e:Rd H a (.dK kvs)):kvs.length <= zf/\(a == Zs)=false/\∃ vs,KV kvs vs/\h.DictOf (qG P w) a vs :=
 show jn P w H h a (.dK kvs) from Ww ok e
theorem JW {kvs:List (Key×V)} (ok:HOk P w H h) (e:H a=some (.dK kvs)):kvs.length <= zf/\(a == Zs)=false/\∃ vs,KV kvs vs/\h.DictOf (qG P w) a vs:=xy ok (.inl e)
theorem KG {c:List Key} (ok:HOk P w H h) (e:H a=some (.tup (c.map kV))):(YR (qG P w)).is h c a:=by
 obtain⟨_,its,r,o,f,g,n,i⟩:=(show jn P w H h a (.tup (c.map kV)) from ok a _ e)
 exact⟨o,its.toArray,n,f,g,i,by simpa using Am r⟩
theorem K4 {kvs:List (List Key×V)} (ok:HOk P w H h) (e:Rd H a (.dT kvs)):kvs.length <= zf/\(a == Zs)=false /\
  ∃ xs,KT H kvs xs/\h.DictOfH (YR (qG P w)) a xs:=by
 obtain⟨z,y,xs,r,o,es,f,g,i,j,n,s⟩:=(show jn P w H h a (.dT kvs) from Ww ok e)
 refine⟨z,y,xs,r,o,es,f,g,i,j,n,λx c=>?_,s⟩;have all:∀ {l:List (List Key×V)}{m:List (List Key×zE×zD)},KT H l m->∀ x∈m,(YR (qG P w)).is h x.1 x.2.1:=by
  intro l m q
  induction q with
  | nil=>intro x c;exact nomatch c
  | @cons p q ps v hq t u =>
   intro x c;rcases List.mem_cons.mp c with e | c
   ·subst e;exact KG ok (by rw[<- hq.1];exact hq.2.1)
   ·exact u x c
 exact all r x c
theorem hV {kvs:List (List Key×V)} (ok:HOk P w H h) (e:H a=some (.dT kvs)):kvs.length <= zf/\(a == Zs)=false /\
  ∃ xs,KT H kvs xs/\h.DictOfH (YR (qG P w)) a xs:=K4 ok (.inl e)
end
def Qq (H:Hp) (a:zE) (y:V) (r:Option V):Prop :=
 (∃ kvs k,Rd H a (.dK kvs)/\y=kV k/\r=yO kvs k)\/∃ kvs k b,Rd H a (.dT kvs)/\y=.ref b/\H b=some (.tup (k.map kV))/\r=yO kvs k
def Kf (H:Hp) (a:zE) (y v:V) (c:Hp):Prop :=
 (∃ kvs k,H a=some (.dK kvs)/\y=kV k/\kvs.length < zf/\c=upd H a (.dK (yN kvs k v))) \/
 ∃ kvs k b,H a=some (.dT kvs)/\y=.ref b/\H b=some (.tup (k.map kV))/\kvs.length < zf/\c=upd H a (.dT (yN kvs k v))
theorem Qq.k {H:Hp}{a:zE}{kvs:List (Key×V)}{k:Key} (e:H a=some (.dK kvs)):Qq H a (kV k) (yO kvs k):=.inl ⟨kvs,k,.inl e,rfl,rfl⟩
theorem Kf.k {H:Hp}{a:zE}{kvs:List (Key×V)}{k:Key} (e:H a=some (.dK kvs)) (c:kvs.length < zf):Kf H a (kV k) v (upd H a (.dK (yN kvs k v))):=.inl ⟨kvs,k,e,rfl,c,rfl⟩
section
variable {X:Cx}{pins:List (zE×Obj)}{σ:St}{H:Hp}{s:zI}{a:zE}{y v:V}{u r:zD}{o:Option V}{A:jj}{E:zD->zI->Prop}
theorem Inv.big (I:Inv X pins σ H s):Zs < s.heap.objs.size:=by
 have h:jV < s.heap.objs.size:=(I.mod.glob.keeps I.bk).lt;exact Kt (by decide) h
theorem m7 {Q:zD->zI->Prop} (q:A.units+1 < Qt) (I:Inv X pins σ H s) (g:Qq H a y (some v)) (ry:zm y u) (h:∀ f n,Inv X pins σ H n->zm v f->Q f n) :
  wpAny (zN X.prog X.w) A (K7 (.ref a) u) Q E s:=by
 rcases g with ⟨kvs,k,e,i,l⟩ | ⟨kvs,k,b,e,i,t,l⟩
 ·subst i;obtain⟨z,hd,vs,rel,j⟩:=xy I.hok e;obtain⟨f,hw,c⟩:=yq.some_of (v:=v) (o:=Jw vs k) (by rw[l];exact rel.val k);exact wpAny_getItem_of (kF ry) j.mapOf hw (h f _ (I.tok _) c)
 ·subst i;cases (show u=qF b from ry);obtain⟨z,hd,xs,rel,j⟩:=K4 I.hok e;obtain⟨f,hw,c⟩:=yq.some_of (v:=v) (o:=(Jq xs k).map (·.2)) (by rw[l];exact rel.val k);obtain⟨p,x,m⟩:=Option.map_eq_some_iff.mp hw;refine wpAny_getItem_heap (wq q) (KG I.hok t) j x ?_;rw[m];exact h f _ (I.tok _) c
theorem md {Q:zD->zI->Prop} (j:A.units+1 < Qt) (I:Inv X pins σ H s) (g:Qq H a y o) (ry:zm y u) (h:∀ i,Inv X pins σ H i->Q (.bool o.isSome) i) :
  wpAny (zN X.prog X.w) A (jZ .In u (.ref a)) Q E s:=by
 rcases g with ⟨kvs,k,e,c,l⟩ | ⟨kvs,k,b,e,c,m,l⟩
 ·subst c;obtain⟨z,hd,vs,rel,f⟩:=xy I.hok e;refine wpAny_in_of (kF ry) hd f.mapOf ?_;rw[<- (rel.val k).isSome_eq,<- l];exact h _ (I.tok _)
 ·subst c;cases (show u=qF b from ry);obtain⟨z,hd,xs,rel,f⟩:=K4 I.hok e;refine wpAny_in_heap (wq j) (KG I.hok m) hd f ?_;have q:=(rel.val k).isSome_eq;rw[UQ] at q;rw[<- q,<- l];exact h _ (I.tok _)
theorem F6 {Q:zD->zI->Prop} (j:A.units+1 < Qt) (I:Inv X pins σ H s) (g:Qq H a y o) (ry:zm y u) (h:∀ i,Inv X pins σ H i->Q (.bool (!o.isSome)) i) :
  wpAny (zN X.prog X.w) A (jZ .NotIn u (.ref a)) Q E s:=by
 rcases g with ⟨kvs,k,e,c,l⟩ | ⟨kvs,k,b,e,c,m,l⟩
 ·subst c;obtain⟨z,hd,vs,rel,f⟩:=xy I.hok e;refine wpAny_notIn_of (kF ry) hd f.mapOf ?_;rw[<- (rel.val k).isSome_eq,<- l];exact h _ (I.tok _)
 ·subst c;cases (show u=qF b from ry);obtain⟨z,hd,xs,rel,f⟩:=K4 I.hok e;refine wpAny_notIn_heap (wq j) (KG I.hok m) hd f ?_;have q:=(rel.val k).isSome_eq;rw[UQ] at q;rw[<- q,<- l];exact h _ (I.tok _)
theorem wu {t':Nat}{ob:HO} (I:Inv X pins σ H s) (c:Mut (H a)) (hs:Jx a s.heap h') (f:∃ q,h'.get? a=some q) (new:jn X.prog X.w (upd H a ob) h' a ob) (h:0 < t':=by first | exact ZM _ | assumption | exact Inv.tk (by assumption) | lia) :
  Inv X pins σ (upd H a ob) { s with heap:=h',toks:=t' } :=
 I.write (x:=a) (e:=a) c (.inl rfl) (λb q g z=>(hs.2 b g).trans z) f new
theorem Yn {P:jD}{h':zp}{kvs:List (Key×V)}{vs:List (Key×zD)} (z:kvs.length <= zf) (hd:(a == Zs)=false) (rel:KV kvs vs) (c:h'.DictOf (qG P w) a vs) :
  jn P w e h' a (.dK kvs):=⟨z,hd,vs,rel,c⟩
theorem EA {Q:Unit->zI->Prop} (G:A.units+1 < Qt) (I:Inv X pins σ H s) (g:Kf H a y v J) (ry:zm y u) (t:zm v r) (h:∀ x,Inv X pins σ J x->Q () x) :
  wpAny (zN X.prog X.w) A (vX (.ref a) u r) Q E s:=by
 rcases g with ⟨kvs,k,e,i,l,j⟩ | ⟨kvs,k,b,e,i,B,l,j⟩
 ·subst i j;obtain⟨z,hd,vs,rel,m⟩:=JW I.hok e;have n:vs.length <= zf:=by rw[<- rel.length];exact z
  have p:(yN kvs k v).length <= zf:=by have:=BF kvs k v;lia
  refine wpAny_setItem_pairs (hsz:=n) (kF ry) m λh' f hs=>h _ ?_;have L:∃ q,h'.get? a=some q:=let ⟨q,_,_,hq,_⟩:=f;⟨q,hq⟩;exact wu I (by rw[e];exact QD) hs L (Yn p hd (rel.put k t) f)
 ·subst i j;cases (show u=qF b from ry);obtain⟨z,hd,xs,rel,m⟩:=hV I.hok e;have n:xs.length <= zf:=by rw[<- Paired.length rel];exact z
  have p:(yN kvs k v).length <= zf:=by have:=BF kvs k v;lia
  refine wpAny_setItem_heap (hsz:=n) (wq G) (KG I.hok B) m λh' f hs=>h _ ?_;obtain⟨q,es,M,hq,N,U,Y,_,h5⟩:=f;refine wu I (by rw[e];exact QD) hs ⟨q,hq⟩ ⟨p,hd,_,(rel.put k B t).keeps λc ys C=>?_,q,es,M,hq,N,U,Y,h5⟩;rw[jF (d0 C e (λz=>nomatch z))];exact C
end
section
variable {X:Cx}{pins:List (zE×Obj)}{σ:St}{H:Hp}{s:zI}{a:zE}{kvs:List (Key×V)}{k:Key}{u:zD}{A:jj}{E:zD->zI->Prop}
theorem gH {Q:zD->zI->Prop} (I:Inv X pins σ H s) (e:H a=some (.dK kvs)) (h:∀ f,Inv X pins σ (upd H a (.dK [])) f->Q .none f):wpAny (zN X.prog X.w) A (call (.builtin "dict.clear") [.ref a]) Q E s:=by
 obtain⟨z,hd,vs,rel,g⟩:=JW I.hok e;refine call_meetsIn PySem.F.slot_dict_clear g.typeIs PySem.F.entry_dict_clear (PySem.F.args_dict_clear_1 _) (meets_dict_clear (qG X.prog X.w) a) ⟨vs,g,by rw[<- rel.length];exact z,λh' c hs=>h _ ?_⟩;have i:∃ q,h'.get? a=some q:=let ⟨q,_,_,hq,_⟩:=c;⟨q,hq⟩;exact wu (t':=s.toks) I (by rw[e];exact QD) hs i (Yn (ZR _) hd .nil c)
theorem LK {Q:zD->zI->Prop} (I:Inv X pins σ H s) (e:Rd H a (.dK kvs)) (h:∀ t c,Inv X pins σ H c->Q (.int kvs.length t) c):wpAny (zN X.prog X.w) A (call (.builtin "len") [.ref a]) Q E s:=by
 obtain⟨z,hd,vs,rel,f⟩:=xy I.hok e;refine call_len_dict hd f (by rw[<- rel.length];rw[Zx] at z;lia) ?_;rw[<- rel.length];exact h _ _ (I.tok _)
end
theorem Gz {X:Cx}{a:zE} (I:Inv X f σ H s) (g:Qq H a y o):s.TypeIs (.ref a) "dict" := by
 rcases g with ⟨kvs,k,e,_,_⟩ | ⟨kvs,k,b,e,_,_,_⟩
 ·obtain⟨_,_,vs,_,c⟩:=xy I.hok e;exact c.typeIs
 ·obtain⟨_,_,xs,_,c⟩:=K4 I.hok e;exact c.typeIs
def FN (td ty e:TE):TS:=λD σ H=>e σ H λv f=>td σ f λx g=>ty σ g λy h=>∃ a c,x=.ref a/\Kf h a y v c/\D.nx σ c
section
variable {X:Cx}{o i e value:ze}{pos pos' tpos:Pos}{td ty tv:TE}
theorem fN (f:X.A.units+1 < Qt) (j:PE X o td) (hi:PE X i ty) (hv:PE X value tv) (hs:Qc value (some (.Subscript o i pos')) pos.line X.env=pure false) :
  PS X (.Assign [.Subscript o i pos'] value pos) (FN td ty tv):=by
 intro c s σ H D I h;refine wpAny_Assign_Subscript (zy (hv c s σ H _ I h) λr l v m n p q=>zy (j c l σ m _ n q) λu t x w z rx B=>zy (hi c t σ w _ z B) λL M y N C ry ⟨a,E,ex,g,G⟩=>?_) hs;subst ex;obtain rfl:u=qF a:=rx;exact EA f C g ry p λQ J=>⟨σ,E,J,G⟩
end
theorem EL {P:jD} (h:zp) (c:Zs < h.objs.size):jn P w H (h.push { cls:=.type "dict",data:=.dict #[] }) h.objs.size (.dK []) :=
 ⟨ZR _,beq_eq_false_iff_ne.mpr (yK (jX c)),[],.nil,m8 h⟩
def MB:TE:=λ_ H Q=>∀ p,H p=none->Q (.ref p) (upd H p (.dK []))
section
variable {X:Cx}{pos:Pos}
theorem Ht:PE X (.Dict [] [] pos) MB:=λc s σ H Q I h =>
 wpAny_Dict_empty ⟨.ref s.heap.objs.size,_,I.laid (a:=s.heap.objs.size) (o:=.dK []) (t':=s.toks) (λ_ _ q=>jd _ q) (zg _) (EL s.heap I.big),rfl,h _ (I.hok.fresh (zg _))⟩
end
end L2
namespace Att
open PySem PySem.W PySem.Calls PyProof.Rows
theorem Hr {P:Params}:∀ (ns:List Int) (vs:List zD),WellAll P h vs (ns.map II)->vi vs ns:=by
 intro ns
 induction ns with
 | nil =>
  intro vs w;rw[xf] at w;cases w;exact .nil
 | cons n ns c =>
  intro vs w;rw[jN] at w;cases w with
  | cons a b =>
   cases a;exact .cons _ _ (c _ b)
theorem HR {l:OpenLaw}{n:Nat} (s:l.most=some n) {P:Params}{args:List WData}
  (c:l.row.toRowW.claim.pre args=true) (m:WellAll P h e args) :
  ∃ a vs ns,e=[qF a]/\args=[WData.list (ns.map II)]/\h.get? a=some { cls:=.type "list",data:=.seq vs.toArray }/\vi vs ns/\ns.length <= n:=by
 have o:WShape.hasAll [] args [.list .int]=true:=(pre_splitW c).1;have p:l.pre.holds [] { args:=args }=true:=(pre_splitW c).2;obtain⟨d,r,rfl,t,u⟩:=hasAllW_cons o;obtain rfl:=hasAllW_nil u;obtain⟨xs,rfl,v⟩:=hasW_list t;obtain⟨ns,rfl⟩:=items_int v;have f:ns.length <= n:=by
  unfold OpenLaw.pre at p;have i:(WTm.not (.lt (.lit (.int (n:Int))) (.len (.arg 0)))).holds [] { args:=[.list (ns.map .int)] }=true:=by
   have i:=(holds_andW p).1;rw[s] at i;exact i
  have j:=condW_of i (w_not (w_lt w_lit (w_len_list (w_arg rfl))));rw[jH] at j;refine Nat.le_of_not_lt λq=>?_;have w:(n:Int) < ((ns.length:Nat):Int):=by lia
  first
   | (rw[decide_eq_true w] at j;exact absurd j (by decide))
   | (simp at j;lia)
 cases m with
 | cons x y =>
  cases y;cases x with
  | list z g=>exact⟨_,_,ns,rfl,rfl,z,Hr ns _ g,f⟩
theorem dw (l:OpenLaw) (args:List WData):l.row.toRowW.claim.post args (.bool true) args=true :=
 postW_of (r:=l.row.toRowW) (X:=(true == true))
  (show iL [] (.bool true) .bool=true by first | rfl | decide | simp[iL,WShape.arms,WShape.armsAll])
  (show (WTm.eq .res (.lit (.bool true))).value [] { args:=args,res:=some (.bool true),after:=args }=some (.bool (true == true)) from w_eq_bool (w_res rfl) w_lit) rfl
theorem my {l:OpenLaw}{n:Nat}{A:jC->zp->Prop}{d:DefRec}
  (H:l.most=some n) (u:d.params.defaults=[])
  (call:∀ (w:jC) (s₀ c:zI) (mg v:Str->Option zD) (i:zE) (o:Obj) (pm s e:zD) (a:zE) (vs:List zD) (ns:List Int),
   Ground q g [] I w s₀ mg v c.heap->A w c.heap ->
   c.heap.get? i=some o->o.data=.func (docDef d.name d.params d.body d.scope pm s e)->c.heap.CodeRec s d.name->mg d.name=some (.ref i) ->
   c.heap.get? a=some { cls:=.type "list",data:=.seq vs.toArray }->vi vs ns->ns.length <= n->c.gens = #[] ->
   codeAny (zN l.prog w) kO (.call (.ref i) ⟨[.ref a],[]⟩) (λr t=>r=.ok (.ret (.bool true))/\OldK c.heap t.heap/\t.os=c.os/\Jt t.gens) c) :
  WalkO q g I A l.row.toRowW d [] (λf vs=>PySem.call f vs):=by
 intro w s₀ c mg v G Y i o pm s e J kV L hd x B y M args C as j E N z Q;obtain rfl:J=.none:=Dflts.none B u;obtain rfl:kV=.none:=Dflts.noKw B;obtain⟨a,vs,ns,rfl,rfl,m,h,p⟩:=HR H j z;refine enter_call (Yq (call w s₀ c mg v i o pm s e a vs ns G Y L (fd_plain hd) x y m h p M) λr t hq=>?_);obtain⟨rfl,U,h3,h4⟩:=hq;exact⟨.inl ⟨.bool true,.bool true,[],rfl,λ_=>rfl,.bool true,dw l _,λ_=>⟨Uy,λ_ hm=>(nomatch hm)⟩⟩,U,h3,h4⟩
end Att
namespace L2
open PySem PySem.Spec PyProof.Rows
theorem CD:∀ {vs:List zD}{ns:List Int},vi vs ns->zd (ns.map V.int) vs
 | _,_,.nil=>.nil
 | _,_,.cons n t h=>.cons ⟨t,rfl⟩ (CD h)
def Kr (H:Hp):Prop:=∀ b,H b=none\/∃ o xs,H b=some (.frz o (.lst xs))
theorem LA {P:jD}{K:PySem.W.Frag}{mg G:Str->Option zD}{k:Nat}{a:zE}{x:Str}{sp:Sp}{c:zI}{vs:List zD}
  (U:K.In c.heap) (p:c.heap.Ns jV mg) (f:c.heap.Ns Wm G) (I:∀ x:Str,x ≠ "__name__" -> G x=yB x) (t:c.heap.NoLimit) (hg:c.gens = #[])
  (ha:c.heap.get? a=some { cls:=.type "list",data:=.seq vs.toArray }) (hi:vi vs ns) (Y:ns.length <= zf) (hr:z6 k kO)
  (F:∀ base:zp,K.In base->base.Ns jV mg->qC P w K mg base CX k fa fd [x] sp) (hT:fd.scope.names.lookup x=some .local) (l:∀ (s:zI) (u:zD),KZ s fd ⟨[u],[]⟩ [(x,u)])
  (J:∀ H:Hp,Kr H->SqL K H a (ns.map V.int)->sp [.ref a] H (λv _=>v=.bl true) λ_ _ _=>False)
  (L:∀ H e g,CX [] H c (λ_ _ _=>False) e g->False) :
  codeAny (zN P w) kO (.call (.ref fa) ⟨[.ref a],[]⟩) (λr g=>r=.ok (.ret (.bool true))/\OldK c.heap g.heap/\g.os=c.os/\Jt g.gens) c:=by
 have rv:=CD hi;have y:=hi.length;have j:∀ H:Hp,Kr H->SqL K H a (ns.map V.int)->HOk P w H c.heap->(∀ b,H b≠none->b=a)->(H a≠none->K.lookup a=none) ->
   codeAny (zN P w) kO (.call (.ref fa) ⟨[.ref a],[]⟩) (λr g=>r=.ok (.ret (.bool true))/\OldK c.heap g.heap/\g.os=c.os/\Jt g.gens) c:=by
  intro H hO hS hok hA hK;have base_of:∀ {b:zE}{o:Obj},c.heap.get? b=some o->H b=none->(JB c.heap H).get? b=some o:=λe n=>Iz e n;have M:∀ {b:zE}{o:Obj}{es:Array DictEntry}{A:Nat},c.heap.get? b=some o->o.data=.dict es A->H b=none:=λ{b o es A} e d=>by
   cases q:H b with
   | none=>rfl
   | some u =>
    have N:b=a:=hA b (by rw[q];simp);subst N;rw[ha] at e;cases e;have d':Data.seq vs.toArray _=Data.dict es A:=d;cases d'
  have i:∀ {b:zE}{m:Str->Option zD},c.heap.Ns b m->(JB c.heap H).Ns b m:=λ{b m} ⟨o,es,A,e,d,r⟩=>⟨o,es,A,base_of e (M e d),d,r⟩
  have B:K.In (JB c.heap H):=λb o e=>base_of (U b o e) (by
   cases q:H b with
   | none=>rfl
   | some u =>
    have N:b=a:=hA b (by rw[q];simp);subst N;rw[hK (by rw[q];simp)] at e;cases e)
  have hM:Mod K mg (JB c.heap H):=⟨B,i p,⟨G,i f,I⟩,let ⟨mc,h1,h2⟩:=t;⟨mc,i h1,h2⟩⟩
  have e0:xm P w K mg (JB c.heap H) kO [] c H:=⟨rfl,hM,λb o e=>HV e,XU (El _ _),trivial,λb f=>absurd (show b∈([]:List zE) from f) (by simp),hok,.of_eq hg⟩
  refine Yq ((F _ B (i p)).run kO [] c H ⟨[.ref a],[]⟩ [.ref a] [.ref a] _ _ hr e0 (.inr ⟨x,List.mem_singleton.mpr rfl,hT⟩) (l c (.ref a)) (.cons rfl .nil) (J H hO hS)) λr g h=>?_;cases r with
  | error e=>exact (L H e g h).elim
  | ok fl =>
   cases fl with
   | next=>exact jJ h
   | brk=>exact jJ h
   | cont=>exact jJ h
   | ret u =>
    obtain⟨v,H',os,bare,un,C,r',q⟩:=h;have q':v=.bl true:=q;subst q';obtain rfl:u=Jg true:=r';refine⟨rfl,OldK.of_keep λb o e=>?_,os,bare⟩;cases q:H b with
    | none=>exact un.keep b o e q (by intro z;exact absurd (show b∈([]:List zE) from z) (by simp)) (by simp)
    | some u =>
     rcases hO b with z | ⟨ob,xs,z⟩
     ·rw[q] at z;cases z
     ·have z2:=un.frzs b ob _ z;obtain⟨e1,_⟩:=hok b _ z;obtain⟨e2,_⟩:=C b _ z2;rw[e] at e1;cases e1;exact e2
 cases Q:K.lookup a with
 | some o =>
  have e:=U a o Q;rw[ha] at e;cases e;refine j (λ_=>none) (λ_=>.inl rfl) (.inr ⟨_,vs.toArray,_,Q,rfl,rfl,rfl,by rw[jw,y];exact Y,by simpa using rv⟩) (λb u z=>by have E:(none:Option HO)=some u:=z;cases E) (λb z=>absurd rfl z) λz=>absurd rfl z
 | none =>
  refine j (λb=>if b=a then some (.frz { cls:=.type "list",data:=.seq vs.toArray } (.lst (ns.map V.int))) else none) (λb=>?_) (.inl (.inr ⟨{ cls:=.type "list",data:=.seq vs.toArray },if_pos rfl⟩)) (λb u z=>?_) (λb z=>?_) λ_=>Q
  ·by_cases f:b=a
   ·exact .inr ⟨_,_,if_pos f⟩
   ·exact .inl (if_neg f)
  ·by_cases f:b=a
   ·have E:=(if_pos f).symm.trans z;cases E;subst f;exact⟨ha,by rw[jH];exact Y,vs,_,rv,ha⟩
   ·have E:=(if_neg f).symm.trans z;cases E
  ·by_cases f:b=a
   ·exact f
   ·exact absurd (if_neg f) z
theorem LV {l:PySem.W.OpenLaw}{n k:Nat}{E:jC->zp->Prop}{d:DefRec}{K:Params->PySem.W.Frag}{CX:jC->CXT}{sp:jC->Sp}{x:Str}
  (J:l.most=some n) (r:n <= zf) (t:d.params.defaults=[]) (L:z6 k kO)
  (M:∀ (w:jC) (h:zp),E w h->(K w.params).In h)
  (F:∀ (w:jC) (mg:Str->Option zD) (p:zE) (h:zp),(K w.params).In h->h.Ns jV mg->mg d.name=some (.ref p) ->
   ∃ fd:Q5,(∀ (s:zI) (u:zD),KZ s fd ⟨[u],[]⟩ [(x,u)])/\fd.scope.names.lookup x=some .local /\
    ∀ base:zp,(K w.params).In base->base.Ns jV mg->qC l.prog w (K w.params) mg base (CX w) k p fd [x] (sp w))
  (y:∀ (w:jC) (H:Hp) (a:zE) (ns:List Int),ns.length <= n->Kr H->SqL (K w.params) H a (ns.map V.int)->sp w [.ref a] H (λv _=>v=.bl true) λ_ _ _=>False)
  (z:∀ (w:jC) (H:Hp) (s:zI) (e:zD) (A:zI),CX w [] H s (λ_ _ _=>False) e A->False) :
  PySem.W.WalkO q B XP E l.row.toRowW d [] (λf vs=>PySem.call f vs):=by
 refine Att.my J t λw s₀ j mg mb p o pm cd N a vs ns G Y ho hd Q C m i c U=>?_;have I:=M w _ Y;obtain⟨fd,hb,hT,hF⟩:=F w mg p _ I G.T.g C;exact LA I G.T.g G.T.b G.T.builtins G.T.nolimit U m i (jr c r) L hF hT hb (λH hO hS=>y w H a ns c hO hS) λH e A=>z w H j e A
noncomputable def ZO (s:jT) (j:Nat):jT:=match s with
 | .ClassDef _ _ _ c _ _ _ _ _ _ _=>c.getD j (.Pass ⟨0,0,0,0⟩)
 | _=>.Pass ⟨0,0,0,0⟩
noncomputable def Qp (s:jT):Arguments:=match s with
 | .FunctionDef _ a _ _ _ _ _ _ _ _=>a
 | _=>{ posonlyargs:=[],args:=[],vararg:=none,kwonlyargs:=[],kw_defaults:=[],kwarg:=none,defaults:=[] }
noncomputable def yV (s:jT):List jT:=match s with
 | .FunctionDef _ _ b _ _ _ _ _ _ _=>b
 | _=>[]
noncomputable def ji (s:jT):Z3:=match s with
 | .FunctionDef _ _ _ _ _ _ c _ _ _=>c
 | _=>{ kind:=.function,names:=[],isGenerator:=false,isCoroutine:=false }
abbrev CX0:CXT:=λ_ _ _ _ _ _=>False
abbrev E0:XK:=λ_ _ _=>False
theorem Xa {X:Cx}:Z5 CX0 X E0:=λ_ _ _ _ _ _ _ h=>h.elim
structure Fun (K:PySem.W.Frag) (x qual:Str) (st:jT) (f:zE) (fd:Q5):Prop where
 ex:∃ (oc:zD) (od:Option zE) (kV doc pm:zD) (an:Option zE) (cdv ct:zD) (osl:Array (Option zD)),
  fd=PySem.W.fnOf x qual (Qp st) (yV st) (ji st) .none kV doc pm an cdv ct/\K.lookup f=some ⟨oc,od,.func fd,osl⟩/\PySem.W.codeIn K cdv qual=true
 kp:PySem.W.keepIn K (.ref f)=true
section
variable {P:jD}{w:jC}{K:PySem.W.Frag}{mg:Str->Option zD}{base:zp}
theorem Fun.ok {st:jT}{k:Nat}{sp:Sp} (F:Fun K x qual st f fd) (S:Z6 N ps (ji st)) (len:∀ vs H Q E,sp vs H Q E->vs.length=ps.length)
  (e:∀ (c:zD) (A:jj) (outer:List Env) (s:zI) (H:Hp) (vs:List V) (Q:VK) (E:XK),z6 k (A.deeper (ZD qual (ji st) s.heap.objs.size f c))->sp vs H Q E ->
   ∃ t,PSs (Zo CX0 P w K mg base N qual (ji st) f c A outer s H E).nox (yV st) t/\t { nx:=λ_ j=>Q .non j,rt:=Q } (QI N vs) H):qC P w K mg base CX0 (k+1) f fd ps sp:=by
 obtain⟨p,r,kV,l,pm,an,c,ct,m,rfl,n,g⟩:=F.ex;refine ie n g S len λA outer s H vs Q E o i=>?_;obtain⟨t,h,q⟩:=e c A outer s H vs Q E o i;exact⟨t,h.nox,q⟩
theorem Fun.binds {st:jT}{ps:List Str} (F:Fun K x qual st f fd)
  (h:∀ (kV c pm:zD) (an:Option zE) (e ct:zD) (us:List zD),us.length=ps.length->uQ (PySem.W.fnOf x qual (Qp st) (yV st) (ji st) .none kV c pm an e ct) ⟨us,[]⟩=pure (ps.zip us)):ZX K fd ps []:=by
 obtain⟨j,l,kV,c,pm,an,e,ct,g,rfl,m,i⟩:=F.ex;exact .all (h kV c pm an e ct)
theorem ui {st:jT}{f:zE}{i:zD}{j an:Option zE}{g:Array (Option zD)}{kV pm:zD} (l:K.lookup f=some ⟨i,j,.func (PySem.W.fnOf x qual (Qp st) (yV st) (ji st) .none kV h pm an e ct),g⟩)
  (c:PySem.W.codeIn K e qual=true) (k:PySem.W.keepIn K (.ref f)=true):Fun K x qual st f (PySem.W.fnOf x qual (Qp st) (yV st) (ji st) .none kV h pm an e ct):=⟨⟨i,j,kV,h,pm,an,e,ct,g,rfl,l,c⟩,k⟩
end
theorem Yu {k:Nat} (c:z6 k A):A.units+1 < Qt:=Nat.lt_of_le_of_lt (Nat.add_le_add_left (by decide:1 <= 64) _) c.units
theorem Q6 {A B:Prop} (h:B):if false=true then A else B:=by
 rw[if_neg qM];exact h
theorem Qz {A B:Prop} (h:A):if true=true then A else B:=by
 rw[if_pos rfl];exact h
section
variable {X:Cx}
theorem Dq:jx X (.builtin "len") (λxs H Q=>∃ a kvs,xs=[V.ref a]/\H a=some (.dK kvs)/\Q (.int kvs.length) H):=by
 intro c s σ H xs us Q I r h;obtain⟨a,kvs,rfl,ha,q⟩:=h;obtain⟨u,rfl,e⟩:=yd r;cases e;exact LK I (.inl ha) λt g f=>⟨.int kvs.length,H,f,⟨t,rfl⟩,q⟩
end
end L2
set_option maxHeartbeats 4000000
namespace L2
open PySem PySem.Spec PyProof.Rows
noncomputable abbrev jb (X:Cx) (vars:List Str) (scope:Z3) (cl:List (Str×zE)) (C:zE) (f:List zE) (c:zI) (e:Hp):Cx where
 prog:=X.prog
 w:=X.w
 K:=X.K
 mg:=X.mg
 base:=X.base
 A:=X.A
 N:=X.N++vars
 s₀:=c
 H₀:=e
 env:=QO scope cl C X.env
 outer:=X.stack
 stack:=X.stack
 ex:=f
 fn:=λ_=>false
 calm:=X.calm
 pn:=[]
 xe:=λ_ _=>False
noncomputable def K2 (cells:List (Str×zE)):List (Str×zE)->Prop
 | []=>True
 | p::r=>cells.lookup p.1=some p.2/\K2 cells r
theorem K2.get {cells:List (Str×zE)}:∀ {cl:List (Str×zE)}{x:Str}{c:zE},K2 cells cl->cl.lookup x=some c->cells.lookup x=some c
 | [],_,_,_,e=>by simp at e
 | (y,d)::r,x,c,h,e=>by
  cases f:x == y with
  | true =>
   simp only[yA,f] at e;have g:x=y:=eq_of_beq f;subst g;rw[<- e];exact h.1
  | false =>
   simp only[yA,f] at e;exact K2.get h.2 e
noncomputable def okK (on:List (Str×J6)) (vars:List Str) (cl:List (Str×zE)) (x:Str):J6->Bool
 | .local=>x == (".0" : Str) || vars.contains x
 | .cell=>false
 | .free=>(cl.lookup x).isSome && (on.lookup x == some .cell || on.lookup x == some .free)
 | _=>true
structure yp (X:Cx) (vars:List Str) (scope:Z3) (cl:List (Str×zE)):Prop where
 kind:scope.kind=.function
 clos:closureFor scope X.env=pure cl
 dis:(vars.all λx=>!X.N.contains x)=true
 zero:X.N.contains (".0" : Str)=false
 names:∀ y∈scope.names,y.2=.local->scope.names.lookup y.1=some .local
 cells:K2 X.env.cells cl
 ok:(scope.names.all λp=>okK X.env.scope.names vars cl p.1 p.2)=true
theorem UO {env:Env}{x:Str}:∀ {names:List (Str×J6)},
  (names.map λ(n,k)=>if (k == xO && env.scope.kind == .function && env.kindOf n == some .cell) then (n,Xe) else (n,k)).lookup x =
   (names.lookup x).map λk=>if (k == xO && env.scope.kind == .function && env.kindOf x == some .cell) then Xe else k
 | []=>rfl
 | (n,k)::r=>by
  have g:=@UO env x r;show JD x ((if (k == xO && env.scope.kind == .function && env.kindOf n == some .cell)=true then (n,Xe) else (n,k))::_)=_;cases f:x == n with
  | true =>
   have e:x=n:=eq_of_beq f;subst e;by_cases c:(k == xO && env.scope.kind == .function && env.kindOf x == some .cell)=true
   ·rw[if_pos c];simp only[yA,f,XA,if_pos c]
   ·rw[if_neg c];simp only[yA,f,XA,if_neg c]
  | false =>
   by_cases c:(k == xO && env.scope.kind == .function && env.kindOf n == some .cell)=true
   ·rw[if_pos c];simp only[yA,f];exact g
   ·rw[if_neg c];simp only[yA,f];exact g
section
variable {X:Cx}{vars:List Str}{scope:Z3}{cl:List (Str×zE)}{C D:zE}{fp:List zE}{qY:zI}{H:Hp}{pins:List (zE×Obj)}{σ:St}
theorem yp.okAt (S:yp X vars scope cl) {x:Str}{k:J6} (h:scope.names.lookup x=some k):okK X.env.scope.names vars cl x k=true:=by
 have:=List.all_eq_true.mp S.ok (x,k) (PySem.mem_of_lookup h);exact this
theorem yp.noCell (S:yp X vars scope cl):∀ y∈scope.names,y.2≠.cell:=λy c e=>by
 have h:=List.all_eq_true.mp S.ok y c;rw[e] at h;exact absurd (show false=true from h) qM
theorem yp.freeOf (S:yp X vars scope cl) {x:Str} (h:(QO scope cl C X.env).kindOf x=some .cell\/(QO scope cl C X.env).kindOf x=some .free):scope.names.lookup x=some .free:=by
 have e:(QO scope cl C X.env).kindOf x=(scope.names.lookup x).map λk=>if (k == xO && X.env.scope.kind == .function && X.env.kindOf x == some .cell) then Xe else k:=UO
 rw[e] at h;cases q:scope.names.lookup x with
 | none=>rw[q] at h;simp at h
 | some k =>
  rw[q] at h;by_cases c:k=.free
  ·rw[c]
  ·have f:(k == xO)=false:=by simpa using c
   simp only[XA,f,HG,j9,if_false,HE] at h;rcases h with h | h
   ·subst h;exact absurd rfl (S.noCell (x,.cell) (PySem.mem_of_lookup q))
   ·exact absurd h c
theorem yp.localOf (S:yp X vars scope cl) {x:Str} (h:(QO scope cl C X.env).kindOf x=some .local):scope.names.lookup x=some .local:=by
 have e:(QO scope cl C X.env).kindOf x=(scope.names.lookup x).map λk=>if (k == xO && X.env.scope.kind == .function && X.env.kindOf x == some .cell) then Xe else k:=UO
 rw[e] at h;cases q:scope.names.lookup x with
 | none=>rw[q] at h;simp at h
 | some k =>
  rw[q] at h;simp only[XA,HE] at h;split at h
  ·cases h
  ·rw[h]
theorem EH (I:Inv X pins σ H qY) (S:yp X vars scope cl) (E:∀ b∈fp,JE X pins H b) (J:∀ b∈fp,∃ o,qY.heap.get? b=some o)
  {g:zp}{tk:Nat} (L:qY.heap.objs.size <= D) (M:qY.heap.objs.size <= C) (Q:D≠C) {G:Obj} (eD:g.get? D=some G) (cD:∀ v,G.data≠.cell v) {m:Str->Option zD} (hn:g.Ns C m)
  (old:∀ b o,qY.heap.get? b=some o->g.get? b=some o) (ht:0 < tk:=by first | exact ZM _ | assumption | exact Inv.tk (by assumption) | lia) :
  Inv (jb X vars scope cl C fp qY H) [(D,G)] (σ++jK vars.length none) H { qY with heap:=g,toks:=tk }:=by
 have A:∀ b∈fp,b∉frs X.stack:=λb n z=>by
  rcases List.mem_cons.mp (I.stkSub b z) with e | e
  ·exact (E b n).2.1 e
  ·exact (E b n).2.2.1 e
 have f:∀ x c,cl.lookup x=some c->X.env.cells.lookup x=some c:=λx c e=>S.cells.get e;have U:∀ b∈fp,b < qY.heap.objs.size:=λb n=>by
  obtain⟨o,e⟩:=J b n;exact jQ e
 have ok:(jb X vars scope cl C fp qY H).Ok:=by
  refine⟨I.ok.mod,S.kind,I.ok.glob,I.ok.blt,M,λx y c Y s=>I.ok.inj x y c (f x c Y) (f y c s),λx hx=>?_,λx c h _=>absurd (show false=true from h) qM,I.ok.hd,I.ok.frames,.inl rfl,
   λb n=>⟨jX (qW (U b n) M),λx c e z=>(E b n).2.2.2.2.1 x c (f x c e) z⟩,I.bs,jr I.ok.bsz I.sz,λb o e n=>?_,A,I.stack,I.stkFree⟩
  ·have q:=S.okAt (S.freeOf (C:=C) hx);have j:((cl.lookup x).isSome && (X.env.scope.names.lookup x == some .cell || X.env.scope.names.lookup x == some .free))=true:=q;rw[j7] at j;exact Option.isSome_iff_exists.mp j.1
  ·rcases (E b n).2.2.2.1 with z | z
   ·exact I.ok.noex b o e z
   ·exact absurd (qW (jQ e) (jr I.ok.bsz z)) (QF _)
 have nst:D∉frs X.stack:=λz=>by
  rcases List.mem_cons.mp (I.stkSub D z) with e | e
  ·exact absurd (qW (e ▸ I.lt) L) (QF _)
  ·exact I.nofs L e
 refine⟨ok,rfl,I.bare,Un.kept old,⟨m,hn,λi x v Y s B=>?_⟩,λx c e=>?_,I.hok.fresh M,λx c e=>I.freeC x c (f x c e),λp hp=>?_,I.hok.kept old,?_,ht⟩
 ·have hlen:=I.len;have t:(X.N++vars)[i]? = some x:=Y;by_cases hi:i < σ.length
  ·rw[yc (by lia)] at t;rw[yc hi] at s;have w:X.N.contains x=true:=by
    rw[List.contains_iff_exists_mem_beq];exact⟨x,yZ t,by simp⟩
   have hk:(QO scope cl C X.env).kindOf x=some .cell\/(QO scope cl C X.env).kindOf x=some .free:=by
    rcases B with B | B
    ·have q:=S.okAt (S.localOf (C:=C) B);have j:(x == (".0" : Str) || vars.contains x)=true:=q;rw[Vh] at j;rcases j with j | j
     ·have e0:x=(".0" : Str):=eq_of_beq j;rw[e0,S.zero] at w;cases w
     ·have q2:=List.all_eq_true.mp S.dis x (by simpa using j);rw[w] at q2;cases q2
    ·exact B
   have q:=S.okAt (S.freeOf (C:=C) hk);have j:((cl.lookup x).isSome && (X.env.scope.names.lookup x == some .cell || X.env.scope.names.lookup x == some .free))=true:=q;rw[j7,Vh] at j;obtain⟨c,hc⟩:=Option.isSome_iff_exists.mp j.1;have ho:X.env.scope.names.lookup x=some .cell\/X.env.scope.names.lookup x=some .free:=by
    rcases j.2 with z | z
    ·exact .inl (eq_of_beq z)
    ·exact .inr (eq_of_beq z)
   obtain⟨m0,_,hl⟩:=I.loc;obtain⟨u,r,l⟩:=hl i x v t s (.inr ho);refine⟨u,r,.inr ⟨hk,c,hc,?_⟩⟩;rcases l with ⟨l1,_⟩ | ⟨_,c',e',o,eo,ed⟩
   ·have l2:X.env.scope.names.lookup x=some .local:=l1;rcases ho with z | z
    ·rw[l2] at z;cases z
    ·rw[l2] at z;cases z
   ·rw[f x c hc] at e';cases e';exact⟨o,old _ _ eo,ed⟩
  ·rw[Zh (by lia),KS] at s;split at s<;>cases s
 ·obtain⟨v,o,eo,ed⟩:=I.cell x c (f x c e);exact⟨v,o,old _ _ eo,ed⟩
 ·have e:p=(D,G):=by simpa using hp
  subst e;exact⟨eD,I.hok.fresh L,Q,nst,cD⟩
 ·show (σ++jK vars.length none).length=(X.N++vars).length;rw[jv,jv,Ax,I.len]
end
def Z1 (X:Cx) (f:List ze) (t:TT):Prop :=
 ∀ (e:List (zE×Obj)) (s:zI) (σ:St) (H:Hp) (Q:Bool->Hp->Prop),Inv X e σ H s->t σ H Q ->
  wpAny (zN X.prog X.w) X.A (forIn f true λc r=>if r=true then do let ok <- isTrue c X.env (z0 c X.env);pure (xx ok) else pure (xx r)) (TP X e σ Q) X.xe s
def jk:TT:=λ_ H Q=>Q true H
theorem Ic {X:Cx}:Z1 X [] jk:=λ_ _ _ H _ I h=>wpAny_tests_nil ⟨H,I,h⟩
theorem Dg {X:Cx} (h:PT X c t):Z1 X [c] t:=λe s σ H Q I hw=>wpAny_tests_one (h e s σ H Q I hw)
def Wk (σ c:St):Prop:=σ.length=c.length/\∀ (i:Nat) v,σ[i]? = some (some v)->c[i]? = some (some v)
def vx (n:Nat) (j:TI) (g:TG) (ti:TT) (te:TE):TE:=λσ H Q=>j σ H λJ l=>∃ W:Nat->Nat->List V->Hp->Prop,(∃ m,W 0 m [] l)/\∀ i m ys e,W i m ys e->ys.length <= zf /\
 ((J.stop i e/\∀ D,e D=none->Q (.ref D) (upd e D (.lst ys))) \/
  (J.go i e/\∀ x h,J.yld i e x h->g x (σ++jK n none) h λc o=>Wk (σ++jK n none) c/\ti c o λb H5 =>
   if b=true then te c H5 λy H6=>∃ f,f < m/\W (i+1) f (ys++[y]) H6 else ∃ f,f < m/\W (i+1) f ys H5))
theorem Inv.track {X:Cx}{D:zE} (I:Inv X f σ H s) (j:X.s₀.heap.objs.size <= D) (l:H D=none) (m:D≠X.env.locals)
  (h:∀ x c,X.env.cells.lookup x=some c->c≠D) (r:∀ p∈X.pn++f,p.1≠D) (new:jn X.prog X.w (upd H D o) s.heap D o):Inv X f σ (upd H D o) s:=by
 have ne:∀ {b u},H b=some u->b≠D:=λe z=>by rw[z,l] at e;cases e
 refine⟨I.ok,I.os,I.bare,⟨I.base.keep,I.base.slot,λb ob e n t=>?_,I.base.there,λb xs e=>?_,λb ob u e=>?_,λb ps e=>?_⟩,I.loc,I.cell,?_,λx c e=>?_,λp g=>?_,λb u e=>?_,I.len,I.tk⟩
 ·rw[jF (jX (qW (jQ e) j))];exact I.base.free b ob e n t
 ·have q:=I.base.tups b xs e;rw[jF (ne q)];exact q
 ·have q:=I.base.frzs b ob u e;rw[jF (ne q)];exact q
 ·obtain⟨mo,q⟩:=I.base.tbls b ps e;exact⟨mo,by rw[jF (ne q)];exact q⟩
 ·rw[jF (yK m)];exact I.free
 ·rw[jF (h x c e)];exact I.freeC x c e
 ·obtain⟨v,y,A,B,C⟩:=I.pin p g;exact⟨v,by rw[jF (r p g)];exact y,A,B,C⟩
 ·by_cases i:b=D
  ·subst i;rw[qN] at e;cases e;exact new
  ·rw[jF i] at e;exact (I.hok b u e).stay (λ_ _ _ q=>q) (λc q=>by rw[jF (ne q)];exact q) λc xs q=>by rw[jF (ne q)];exact q
noncomputable abbrev Qv (us:List zD) (n:Nat):Obj:={ cls:=.type "list",data:=.seq us.toArray n }
section
variable {X:Cx}{vars:List Str}{scope:Z3}{cl:List (Str×zE)}{C D it:zE}{fp:List zE}{qY:zI}{ZZ:Hp}{tg elt iter:ze}{ifs:List ze}{pos:Pos}{J:It}{tn:Nat->zp->Prop}
 {g:TG}{ti:TT}{te:TE}{R:V0->zI->Prop}
theorem Gf (hc:X.calm=true) (T:Q1 X.prog X.w X.K tg J fp it tn) (hg:PG (jb X vars scope cl C fp qY ZZ) tg g) (hi:Z1 (jb X vars scope cl C fp qY ZZ) ifs ti) (he:PE (jb X vars scope cl C fp qY ZZ) elt te)
  {h:St} (W:Nat->Nat->List V->Hp->Prop) {F:List V->Hp->Prop} (hD0:qY.heap.objs.size <= D) (hDC:D≠C) (hDs:D∉frs X.stack) (hDc:∀ x c,cl.lookup x=some c->c≠D)
  (hS:∀ b∈fp,b≠C/\b∉frs X.stack/\(∀ x c,cl.lookup x=some c->c≠b)/\D≠b)
  (turn:∀ i m ys H,W i m ys H->ys.length <= zf/\((J.stop i H/\F ys H) \/
   (J.go i H/\∀ x H3,J.yld i H x H3->g x h H3 λN H4=>Wk h N/\ti N H4 λb H5 =>
    if b=true then te N H5 λy H6=>∃ G,G < m/\W (i+1) G (ys++[y]) H6 else ∃ G,G < m/\W (i+1) G ys H5)))
  (hR:∀ s' ys us n H,Inv (jb X vars scope cl C fp qY ZZ) [(D,Qv us n)] h H s'->zd ys us->ys.length <= zf->F ys H->R (.ok .next) s')
  {n0:Nat} (I0:Inv (jb X vars scope cl C fp qY ZZ) [(D,Qv [] n0)] h H0 s) (st0:tn 0 s.heap) (f0:∀ b∈fp,H0 b=none) (w0:W 0 m0 [] H0) :
  codeAny (zN X.prog X.w) X.A (.compLoop (.ListComp elt [⟨tg,iter,ifs,0⟩] scope pos) 0 (.ref it) (.ref D) (QO scope cl C X.env)) R s:=by
 have E:∀ {B:Hp}{o:Obj},(∀ b∈fp,B b=none)->∀ b∈fp,JE (jb X vars scope cl C fp qY ZZ) [(D,o)] B b:=λ{B o} hn b l =>
  ⟨hn b l,(hS b l).1,(hS b l).2.1,.inl l,(hS b l).2.2.1,λp j=>by
   have e:p=(D,o):=by simpa using j
   subst e;exact (hS b l).2.2.2⟩
 refine codeAny_loop rfl (λn s=>∃ i ys us Y B,Inv (jb X vars scope cl C fp qY ZZ) [(D,Qv us Y)] h B s/\zd ys us/\tn i s.heap/\(∀ b∈fp,B b=none)/\W i n ys B) (λn s hI=>?_) m0 ⟨0,[],[],n0,H0,I0,.nil,st0,f0,w0⟩;show wpAny _ X.A ((compTurn (.ListComp elt [⟨tg,iter,ifs,0⟩] scope pos) 0 (.ref it) (.ref D) (QO scope cl C X.env)).onRaise (λx=>do noteFrame x (QO scope cl C X.env);theTreesLotGoes x)) _ _ s;refine wpAny_noted ?_;rw[compTurn_list];obtain⟨i,ys,us,Y,B,I,rv,st,fr,w⟩:=hI;obtain⟨hz,tt⟩:=turn i n ys B w;refine zQ (CI (zQ ?_));rcases tt with ⟨stop,q⟩ | ⟨go,q⟩
 ·refine wpAny_mono (T.done (jb X vars scope cl C fp qY ZZ) rfl rfl rfl hc i _ s h B _ I (E fr) st stop) (λr s1 ⟨hr,I1⟩=>?_) (λ_ _ e=>e);subst hr;exact wpAny_pure (hR s1 ys us Y B I1 rv hz q)
 ·refine wpAny_mono (T.item (jb X vars scope cl C fp qY ZZ) rfl rfl rfl hc i _ s h B _ I (E fr) st go) (λr s1 ⟨u,hr,h1⟩=>?_) (λ_ _ e=>e);subst hr;refine zQ (wpAny_mono h1 (λ_ Q ⟨x,H3,I3,r3,y3,st3,fr3⟩=>?_) (λ_ _ e=>e));have I3':=I3.pinned (E fr3) (T.obj _ _ st3);refine zQ (wpAny_mono (hg _ Q h H3 x u _ I3' r3 (q x H3 y3)) (λ_ s3 ⟨t,H4,I4,wk,q4⟩=>?_) (λ_ _ f=>jJ f));refine zQ (wpAny_mono (hi _ s3 t H4 _ I4 q4) (λb s4 ⟨H5,I5,q5⟩=>?_) (λ_ _ f=>jJ f));have L:∀ {U:zI}{H7:Hp}{o:Obj},Inv (jb X vars scope cl C fp qY ZZ) ((D,o)::QV fp Q.heap) t H7 U->tn (i+1) U.heap/\∀ b∈fp,H7 b=none:=λ{U H7 o} M=>by
   refine⟨T.keep _ _ _ st3 λb l ob e=>(M.pin (b,ob) (Zp _ (je _ (vY l e)))).1,λb l=>?_⟩;obtain⟨ob,e,d⟩:=T.obj _ _ st3 b l;exact (M.pin (b,ob) (Zp _ (je _ (vY l e)))).2.1
  have one:∀ {U:zI}{H7:Hp}{o:Obj},Inv (jb X vars scope cl C fp qY ZZ) ((D,o)::QV fp Q.heap) t H7 U->Inv (jb X vars scope cl C fp qY ZZ) [(D,o)] h H7 U:=λ{U H7 o} M =>
   (M.pins_of (pins':=[(D,o)]) λp j=>by
    have e:p=(D,o):=by simpa using j
    subst e;exact M.pin (D,o) (Zp _ qJ)).weak wk.1 wk.2
  cases b with
  | false =>
   obtain⟨G,hm,w'⟩:=q5;obtain⟨b1,b2⟩:=L I5;exact wpAny_pure ⟨rfl,G,hm,i+1,ys,us,Y,H5,one I5,rv,b1,b2,w'⟩
  | true =>
   refine zQ (zQ (wpAny_mono (he _ s4 t H5 _ I5 q5) (λv s5 ⟨y,H6,I6,r6,q6⟩=>?_) (λ_ _ f=>jJ f)));obtain⟨G,hm,w'⟩:=q6;obtain⟨eD,nD,_,_,_⟩:=I6.pin (D,Qv us Y) (Zp _ qJ);have hul:us.toArray.size <= zf:=by rw[jw,<- rv.length];exact hz
   refine zQ (wpAny_list_append_plain (hsz:=hul) ⟨Y,eD⟩ λh' j hs=>wpAny_pure (wpAny_pure ⟨rfl,?_⟩));obtain⟨n',j⟩:=j;have hp':h'.get? D=some (Qv (us++[v]) n'):=by rw[j];simp
   have M:Inv (jb X vars scope cl C fp qY ZZ) (QV fp Q.heap) t H6 { s5 with heap:=h',toks:=s5.toks }:=by
    refine Inv.turned (it:=D) (I6.pins_of (pins':=QV fp Q.heap) λp j=>I6.pin p (Zp _ (je _ j))) (λb o l e=>(hs.2 b l).trans e) nD hDC (.inr hD0) (λx c e=>hDc x c e) λp j=>?_;have hp2:p∈QV fp Q.heap:=by simpa using j
    exact yK (hS p.1 (Cg hp2).1).2.2.2
   have I8:Inv (jb X vars scope cl C fp qY ZZ) ((D,Qv (us++[v]) n')::QV fp Q.heap) t H6 { s5 with heap:=h',toks:=s5.toks }:=M.pins_of λp j=>by
    rcases List.mem_cons.mp j with rfl | j
    ·exact⟨hp',nD,hDC,hDs,λv z=>by cases z⟩
    ·exact M.pin p (Zp _ j)
   obtain⟨b1,b2⟩:=L I8;exact⟨G,hm,i+1,ys++[y],us++[v],n',H6,one I8,rv.append (.cons r6 .nil),b1,b2,w'⟩
end
section
variable {X:Cx}{vars:List Str}{scope:Z3}{cl:List (Str×zE)}{tg elt iter:ze}{ifs:List ze}{pos:Pos}{wi:TI}{g:TG}{ti:TT}{te:TE}
theorem cp (hc:X.calm=true) (S:yp X vars scope cl) (hg:∀ C Y t u,PG (jb X vars scope cl C Y t u) tg g) (ht:∀ C Y t u,Z1 (jb X vars scope cl C Y t u) ifs ti)
  (he:∀ C Y t u,PE (jb X vars scope cl C Y t u) elt te) {F:zE->Hp->Prop}{RR:zD->zE->V0->zI->Prop}
  (h2:PIE X f σ tg (λJ H1=>∃ W:Nat->Nat->List V->Hp->Prop,(∃ m,W 0 m [] H1)/\∀ i m ys H2,W i m ys H2->ys.length <= zf /\
   ((J.stop i H2/\∀ D,H2 D=none->F D (upd H2 D (.lst ys))) \/
    (J.go i H2/\∀ x H3,J.yld i H2 x H3->g x (σ++jK vars.length none) H3 λσ2 H4=>Wk (σ++jK vars.length none) σ2/\ti σ2 H4 λb H5 =>
     if b=true then te σ2 H5 λy H6=>∃ m',m' < m/\W (i+1) m' (ys++[y]) H6 else ∃ m',m' < m/\W (i+1) m' ys H5))) itv h)
  (hRR:∀ D C N M,(∃ m,N.heap.Ns C m)->C≠X.env.locals->(∀ x c,X.env.cells.lookup x=some c->c≠C)->Inv X f σ M N->(∀ (h':zp),Jx C N.heap h'->∀ (s'':zI),s''={ N with heap:=h' }->Inv X f σ M s'') ->
   (∀ (σ':St) (s3:zI),Inv X f σ' M s3->(∃ a,Jx a N.heap s3.heap/\(a=X.env.locals\/∃ x,X.env.cells.lookup x=some a))->∀ (h':zp),Jx C s3.heap h'->Inv X f σ' M { s3 with heap:=h' }) ->
   F D M->RR (.ref D) C (.ok .next) N) :
  wpAny (zN X.prog X.w) X.A (newList []) (λacc B=>wpAny (zN X.prog X.w) X.A (BK scope X.env.globals cl [] X.env.qual none .none (some X.env)) (λcenv s₄ =>
   codeAny (zN X.prog X.w) X.A (.compStart (.ListComp elt [⟨tg,iter,ifs,0⟩] scope pos) 0 itv acc { cenv with scope:=relabel scope X.env }) (RR acc cenv.locals) s₄) E B) E h:=by
 obtain⟨it,Y,tn,J,H2,e,I,T,st2,f2,W,⟨m0,w0⟩,turn⟩:=h2;subst e;refine JK (wpAny_newFunctionEnv S.noCell (by intro y hy;simp at hy) (λG s l=>?_) S.kind);dsimp only at s l ⊢;generalize hH2:h.heap.push { cls:=.type "list",dict:=none,data:=.seq ([]:List zD).toArray }=L at s l ⊢;have hC:L.objs.size=h.heap.objs.size+1:=by rw[<- hH2,JR]
 have hDC:h.heap.objs.size≠L.objs.size:=by rw[hC];exact jX (J8 _)
 have r:h.heap.objs.size <= L.objs.size:=by rw[hC];exact Ky _
 have Q:∀ b,b < h.heap.objs.size->b≠L.objs.size/\b≠h.heap.objs.size:=λb j=>⟨by rw[hC];exact jX (vy j),jX j⟩
 have old:∀ b o,h.heap.get? b=some o->G.get? b=some o:=λb o e=>l.extBut b o (Q b (jQ e)).1 (jd _ (hH2 ▸ jd _ e));have hacc:G.get? h.heap.objs.size=some (Qv [] 0):=l.extBut _ _ hDC (jd _ (hH2 ▸ qd _ rfl));have H:tn 0 G:=T.keep _ _ _ st2 λb _ o e=>old b o e;have hob:∀ b∈Y,∃ o,h.heap.get? b=some o:=λb j=>by
  obtain⟨o,e,_⟩:=T.obj _ _ st2 b j;exact⟨o,e⟩
 have fpl:∀ b∈Y,b < h.heap.objs.size:=λb j=>by
  obtain⟨o,e⟩:=hob b j;exact jQ e
 have cget:∀ x c,cl.lookup x=some c->X.env.cells.lookup x=some c:=λx c e=>S.cells.get e;have U:∀ x c,X.env.cells.lookup x=some c->c < h.heap.objs.size:=λx c e=>by
  obtain⟨v,q⟩:=I.cell x c e;exact q.lt
 have pint:∀ p∈X.pn++f,p.1 < h.heap.objs.size:=λp hp=>jQ (I.pin p hp).1;have fpst:∀ b∈Y,b∉frs X.stack:=λb j z=>by
  rcases List.mem_cons.mp (I.stkSub b z) with e | e
  ·exact (f2 b j).2.1 e
  ·exact (f2 b j).2.2.1 e
 have nst:h.heap.objs.size∉frs X.stack:=λz=>by
  rcases List.mem_cons.mp (I.stkSub _ z) with e | e
  ·exact absurd (e ▸ I.lt) (QF _)
  ·exact I.nofs (zg _) e
 have CL:L.objs.size≠X.env.locals:=λz=>absurd (qW (z ▸ I.lt) r) (QF _);have CC:∀ x c,X.env.cells.lookup x=some c->c≠L.objs.size:=λx c e=>jX (qW (U x c e) r);have CP:∀ p∈X.pn++f,p.1≠L.objs.size:=λp hp=>jX (qW (pint p hp) r);have loop:∀ B:zI,B={ h with heap:=G,toks:=h.toks+([]:List (Str×zD)).length } ->
   codeAny (zN X.prog X.w) X.A (.compLoop (.ListComp elt [⟨tg,iter,ifs,0⟩] scope pos) 0 (.ref it) (.ref h.heap.objs.size) (QO scope cl L.objs.size X.env)) (RR (.ref h.heap.objs.size) L.objs.size) B:=by
  rintro B rfl
  have I0:Inv (jb X vars scope cl L.objs.size Y h H2) [(h.heap.objs.size,Qv [] 0)] (σ++jK vars.length none) H2 { h with heap:=G,toks:=h.toks+([]:List (Str×zD)).length } :=
   EH I S f2 hob (zg _) r hDC hacc (λv z=>by cases z) s old
  refine Gf hc T (hg _ _ _ _) (ht _ _ _ _) (he _ _ _ _) (D:=h.heap.objs.size) W (F:=λys M=>∀ D,M D=none->F D (upd M D (.lst ys))) (zg _) hDC nst (λx c e=>jX (U x c (cget x c e)))
   (λb j=>⟨(Q b (fpl b j)).1,fpst b j,λx c e z=>(f2 b j).2.2.2.2.1 x c (cget x c e) z,Jy (fpl b j)⟩) turn ?_ I0 H (λb j=>(f2 b j).1) w0
  intro N ys us n M I' rv hz q;obtain⟨eD,nD,_,_,_⟩:=I'.pin (h.heap.objs.size,Qv us n) (Zp _ qJ);have J1:Inv X f σ M N:=I.call' I'.os I'.base I'.hok I'.bare (λb j=>⟨(f2 b j).2.2.2.1,(f2 b j).2.1,(f2 b j).2.2.2.2.1,(f2 b j).2.2.2.2.2⟩) I'.tk;have J2:Inv X f σ (upd M h.heap.objs.size (.lst ys)) N:=J1.track I.sz nD (λz=>absurd (z ▸ I.lt) (QF _)) (λx c e=>jX (U x c e)) (λp hp=>jX (pint p hp)) ⟨hz,us,n,rv,eD⟩;have nC:upd M h.heap.objs.size (.lst ys) L.objs.size=none:=by
   rw[jF (yK hDC)];exact I'.free
  refine hRR _ _ N _ ?_ CL CC J2 (λh' hs s'' e=>?_) (λσ' s3 I3 _ h' hs=>?_) (q _ nD)
  ·obtain⟨m,hn,_⟩:=I'.loc;exact⟨m,hn⟩
  ·subst e;exact J2.turned (t':=N.toks) (it:=L.objs.size) (λb o j e=>(hs.2 b j).trans e) nC CL (.inr (jr I.sz r)) CC CP
  ·exact I3.turned (t':=s3.toks) (it:=L.objs.size) (λb o j e=>(hs.2 b j).trans e) nC CL (.inr (jr I.sz r)) CC CP
 exact codeAny_compStart_list (loop _ rfl) (T.self _ 0 _ _ _ H (loop _ rfl))
theorem UY (o:X.calm=true) (S:yp X vars scope cl) (hi:PI X tg iter wi) (p:∀ C f c e,PG (jb X vars scope cl C f c e) tg g) (r:∀ C f c e,Z1 (jb X vars scope cl C f c e) ifs ti)
  (t:∀ C f c e,PE (jb X vars scope cl C f c e) elt te) (hs:∀ x,Jh iter X.env x=pure x:=by intro _;rfl):PE X (.ListComp elt [⟨tg,iter,ifs,0⟩] scope pos) (vx vars.length wi g ti te):=by
 intro i s σ H Q I h;rw[eval_ListComp];refine fC (use:=none) rfl hs S.clos S.kind S.names (thn (hi i s σ H _ I h) λv E u=>thn u λw G y=>?_);refine cp o S p r t (F:=λD j=>Q (.ref D) j) y λD C J j l z A L B _ q=>?_;obtain⟨m,l⟩:=l;exact⟨m,l,λh' n=>⟨.ref D,j,B h' n _ rfl,rfl,q⟩⟩
theorem Iu {i:Nat}{y:Str}{n j:Pos} (M:X.calm=true) (S:yp X vars scope cl) (U:X.N.Nodup) (r:X.N[i]? = some y) (Y:Loc X.env.scope y) (hi:PI X tg iter wi)
  (hg:∀ C o c f,PG (jb X vars scope cl C o c f) tg g) (ht:∀ C o c f,Z1 (jb X vars scope cl C o c f) ifs ti)
  (he:∀ C o c f,PE (jb X vars scope cl C o c f) elt te) (hs:∀ x,Jh iter X.env x=pure x:=by intro _;rfl)
  (t:Qc (.ListComp elt [⟨tg,iter,ifs,0⟩] scope pos) (some (.Name y n)) j.line X.env=pure true:=by rfl)
  (hf:X.fn y=true\/X.env.scope.names.lookup y=some .local:=by first | exact .inl rfl | exact .inr rfl | assumption) :
  PS X (.Assign [.Name y n] (.ListComp elt [⟨tg,iter,ifs,0⟩] scope pos) j) (WX (vx vars.length wi g ti te) (zq i)):=by
 intro l s σ H L I h;rw[exec_Assign_Name_used _ _ _ _ t];refine zQ (CI (zQ ?_));show wpAny _ X.A (do let _ <- comprehension (.ListComp elt [⟨tg,iter,ifs,0⟩] scope pos) scope X.env _ (newList []) false (z0 iter X.env) (some (Qu (.Name y n) X.env))) _ _ s;refine zQ (wpAny_mono (fC (use:=some (Qu (.Name y n) X.env)) (Q:=λ_ u=>SP X l L .next u) rfl hs S.clos S.kind S.names
  (thn (hi l s σ H _ I h) λv s1 h1=>thn h1 λitv s2 h2=>?_)) (λ_ u hq=>wpAny_pure (wpAny_pure hq)) λ_ _ e=>e)
 refine cp M S hg ht he (F:=λD w=>L.nx (σ.set i (some (.ref D))) w) h2 λD C u w z B E J2 _ J4 q=>?_;obtain⟨m,z⟩:=z;show wpAny _ X.A (Qu (.Name y n) X.env (.ref D)) _ _ _;refine IE (Wq J2 U r Y (v:=.ref D) rfl (λs3 I3 ⟨a,p,ha⟩=>?_) hf);have G:C≠a:=by
  rcases ha with rfl | ha
  ·exact B
  ·exact yK (E y a ha)
 refine⟨m,z.sameBut p G,λh' J=>⟨σ.set i (some (.ref D)),w,J4 _ s3 I3 ⟨a,p,?_⟩ h' J,q⟩⟩;rcases ha with rfl | ha
 ·exact .inl rfl
 ·exact .inr ⟨y,ha⟩
end
noncomputable def Its (z:Str):It:=⟨λi _=>i < z.length,λi H x e=>e=H/\∃ c,z.cps[i]? = some c/\x=.str ⟨#[c]⟩,λi _=>z.length <= i⟩
theorem lT {P:jD}{K:PySem.W.Frag} (it:zE) (z:Str) (t:Tok):Q1 P w K tg (Its z) [it] it (λi h=>h.IsStrIter it "str_ascii_iterator" z t i) where
 mem:=by simp
 obj:=λi h st b g=>by
  have e:b=it:=by simpa using g
  subst e;obtain⟨o,e,c,d⟩:=st;exact⟨o,e,λv z=>by rw[d] at z;cases z⟩
 keep:=λi h h' st k=>let ⟨o,J,r⟩:=st;⟨o,k it (by simp) o J,r⟩
 item:=by
  intro X n hw p G i f s σ H E I m st q;subst n hw p;obtain⟨u,x,L,y,A,B⟩:=m it (by simp);have j:i < z.cps.size:=q;refine wpAny_pyNext_ascii_item st (c:=z.cps[i]) (by simp[j]) λh' l sb=>?_;have M:Inv X f σ H { s with heap:=h',toks:=s.toks+1 }:=I.turned (λb o g e=>(sb.2 b g).trans e) u x y A B;obtain⟨o,e,c,d⟩:=id l;exact⟨_,rfl,xV (s:={ s with heap:=h',toks:=s.toks+1 }) e c d (by decide) ⟨.str ⟨#[z.cps[i]]⟩,H,M,⟨_,rfl⟩,⟨rfl,z.cps[i],by simp[j],rfl⟩,l,λb g=>(m b g).1⟩⟩
 done:=by
  intro X n hw p G i f s σ H E I m st q;subst n hw p;obtain⟨u,x,L,y,A,B⟩:=m it (by simp);have C:z.cps.size <= i:=q;exact wpAny_pyNext_ascii_end (I.ok.hd G) st (by simp[C]) λh' N=>⟨rfl,I.turned (t':=s.toks) (λb o g e=>N b o g e) u x y A B⟩
 self:=λ_ _ _ _ _ st h=>wpAny_pyIter_striter_ascii st h
theorem EO {P:jD}{K:PySem.W.Frag} (it:zE) (z:Str) (t:Tok):Q1 P w K tg (Its z) [it] it (λi h=>h.IsStrIter it "str_iterator" z t i) where
 mem:=by simp
 obj:=λi h st b g=>by
  have e:b=it:=by simpa using g
  subst e;obtain⟨o,e,c,d⟩:=st;exact⟨o,e,λv z=>by rw[d] at z;cases z⟩
 keep:=λi h h' st k=>let ⟨o,J,r⟩:=st;⟨o,k it (by simp) o J,r⟩
 item:=by
  intro X n hw p G i f s σ H E I m st q;subst n hw p;obtain⟨u,x,L,y,A,B⟩:=m it (by simp);have j:i < z.cps.size:=q;refine wpAny_pyNext_wide_item st (c:=z.cps[i]) (by simp[j]) λh' l sb=>?_;have M:Inv X f σ H { s with heap:=h',toks:=s.toks+1 }:=I.turned (λb o g e=>(sb.2 b g).trans e) u x y A B;obtain⟨o,e,c,d⟩:=id l;exact⟨_,rfl,xV (s:={ s with heap:=h',toks:=s.toks+1 }) e c d (by decide) ⟨.str ⟨#[z.cps[i]]⟩,H,M,⟨_,rfl⟩,⟨rfl,z.cps[i],by simp[j],rfl⟩,l,λb g=>(m b g).1⟩⟩
 done:=by
  intro X n hw p G i f s σ H E I m st q;subst n hw p;obtain⟨u,x,L,y,A,B⟩:=m it (by simp);have C:z.cps.size <= i:=q;exact wpAny_pyNext_wide_end (I.ok.hd G) st (by simp[C]) λh' N=>⟨rfl,I.turned (t':=s.toks) (λb o g e=>N b o g e) u x y A B⟩
 self:=λ_ _ _ _ _ st h=>wpAny_pyIter_striter_wide st h
def EV (c:TE):TI:=λσ H R=>c σ H λx e=>∃ z,x=.str z/\R (Its z) e
theorem EK {X:Cx} (j:PE X l m):PI X tg l (EV m):=by
 intro c s σ H R I h;refine zy (j c s σ H _ I h) λv f x i g n p=>?_;obtain⟨z,e,q⟩:=p;subst e;obtain⟨t,rfl⟩:=n;have fin:∀ b∈[f.heap.objs.size],JE X c i b:=λb r=>by
  have e:b=f.heap.objs.size:=by simpa using r
  subst e;exact g.fpOk (zg _) (g.hok.fresh (zg _))
 cases ha:z.cps.all (· < 128)
 ·refine wpAny_pyIter_wide ha ?_;exact⟨f.heap.objs.size,[f.heap.objs.size],_,Its z,i,rfl,g.kept (t':=f.toks) λb o e=>jd _ e,EO _ z t,⟨_,qd _ rfl,rfl,rfl⟩,fin,q⟩
 ·refine wpAny_pyIter_ascii ha ?_;exact⟨f.heap.objs.size,[f.heap.objs.size],_,Its z,i,rfl,g.kept (t':=f.toks) λb o e=>jd _ e,lT _ z t,⟨_,qd _ rfl,rfl,rfl⟩,fin,q⟩
section
variable {X:Cx}
theorem H9:OpR X (jZ .LtE) (λx y H Q=>∃ i j,x=.str i/\y=.str j/\Q (.bl (!decide (j.cps.toList < i.cps.toList))) H):=by
 intro c s σ H x y v u Q I rx ry h;obtain⟨i,j,rfl,rfl,q⟩:=h;obtain⟨t,rfl⟩:=rx;obtain⟨t',rfl⟩:=ry;exact PySem.P.le_str (jm I q rfl)
def ko (z:Str) (lo hi:Option Int):Str:=⟨((z.cps.toList.drop (HT.sIx z.length 0 lo)).take (HT.sIx z.length z.length hi - HT.sIx z.length 0 lo)).toArray⟩
theorem fJ (lo hi:Option Int) (n:Nat):l8 lo hi 1 n=(j8 (HT.sIx n n hi - HT.sIx n 0 lo)).map λk=>HT.sIx n 0 lo+k:=by
 have c:∀ v:Int,max 0 (min (if v < 0 then v+(n:Int) else v) (n:Int))=((HT.sIx n 0 (some v):Nat):Int)/\max 0 (min (if v < 0 then v+(n:Int) else v) (n:Int))=((HT.sIx n n (some v):Nat):Int):=λv=>by
  unfold HT.sIx;by_cases hv:v < 0
  ·simp only[if_pos hv];lia
  ·simp only[if_neg hv];lia
 have e:∀ a b:Nat,Y2 (a:Int) (b:Int) 1=(j8 (b - a)).map λk=>a+k:=λa b=>by
  unfold Y2;have f:(if (1:Int) > 0 then (if (a:Int) < (b:Int) then ((b:Int) - a+1 - 1) / 1 else 0) else (if (a:Int) > (b:Int) then ((a:Int) - b - 1 - 1) / (-1) else 0)).toNat=b - a:=by
   rw[if_pos (by decide)];by_cases h:(a:Int) < (b:Int)
   ·rw[if_pos h,cM];lia
   ·rw[if_neg h];lia
  dsimp only;rw[f];refine Zv λk _=>?_
  lia
 unfold l8;cases lo with
 | none =>
  cases hi with
  | none=>exact e 0 n
  | some v =>
   simp only[show (1:Int) > 0 by decide,if_true];rw[(c v).2];exact e 0 _
 | some u =>
  cases hi with
  | none =>
   simp only[show (1:Int) > 0 by decide,if_true];rw[(c u).1];exact e _ n
  | some v =>
   simp only[show (1:Int) > 0 by decide,if_true];rw[(c u).1,(c v).2];exact e _ _
theorem Do {c:Type} (xs:Array c) (a m:Nat):((j8 m).map λk=>a+k).filterMap (xs[·]?)=(xs.toList.drop a).take m:=by
 rw[BW]
 induction m generalizing a with
 | zero=>simp
 | succ m e =>
  rw[Gj,List.filterMap_append,e,uj]
  congr 1
  simp only[Vf,List.filterMap_nil,V5];rw[Hk,xq];cases xs[a+m]?<;>rfl
theorem lp (z:Str) (lo hi:Option Int):VH z lo hi=ko z lo hi:=by
 have f:=HT.u9 z.length 0 (ZR _) lo;have g:=HT.u9 z.length z.length (zg _) hi;unfold VH ko;rw[fJ,Do];split
 ·rename_i h;rw[jH,Yo] at h;have c:HT.sIx z.length z.length hi - HT.sIx z.length 0 lo=z.length:=by
   have h':=(Bool.and_eq_true_iff.mp h).2;exact eq_of_beq h'
  have e:HT.sIx z.length 0 lo=0:=by lia
  rw[c,e,JU];have i:z.cps.toList.length=z.length:=by simp[Str.length]
  rw[kq (by lia)]
 ·rfl
def mM:V->Option Int->Option Int->Hp->VK->Prop:=λx lo hi H Q=>∃ z,x=.str z/\z.length <= zf/\Q (.str (ko z lo hi)) H
theorem D1:SlR X mM:=by
 intro c s σ H x v y A lo hi B Q I rx hs pl m h;obtain⟨z,rfl,r,q⟩:=h;obtain⟨t,rfl⟩:=rx;refine⟨"str",_,F.slot_str_getitem.lookup,xo _ _ _,yG (n:=1) I.tk ?_⟩;obtain⟨o,e,f,hd⟩:=hs;have fin:(VH z lo hi).length <= zf/\∀ t' k,1 <= ({ s with toks:=k }:zI).toks->EP X c σ Q (.str (VH z lo hi) t') { s with toks:=k } :=
  ⟨jr (Txt.slice_le z lo hi) r,λt' k w=>⟨.str (VH z lo hi),H,I.tok k w,⟨_,rfl⟩,by rw[lp];exact q⟩⟩
 cases pl with
 | none =>
  cases m with
  | none=>exact Vd (l:=none) (u:=none) (st:=none) ⟨o,e,f,hd⟩ rfl (VP fin)
  | int j g=>exact Vd (l:=none) (u:=some (j,g)) (st:=none) ⟨o,e,f,hd⟩ rfl (VP fin)
 | int i p =>
  cases m with
  | none=>exact Vd (l:=some (i,p)) (u:=none) (st:=none) ⟨o,e,f,hd⟩ rfl (VP fin)
  | int j g=>exact Vd (l:=some (i,p)) (u:=some (j,g)) (st:=none) ⟨o,e,f,hd⟩ rfl (VP fin)
theorem Vz {ys:List Str}:∀ {us:List zD},zd (ys.map V.str) us->Yh us ys:=by
 induction ys with
 | nil=>intro us r;rw[xf] at r;cases r;exact .nil
 | cons y ys c =>
  intro us r;rw[jN] at r;cases r with
  | cons f g =>
   obtain⟨t,e⟩:=f;subst e;exact .cons y t (c g)
noncomputable def vW (K:PySem.W.Frag):V->List V->Hp->VK->Prop:=λx vs H Q=>∃ z p ys,x=.str z/\vs=[.ref p]/\(SqL K H p (ys.map V.str)\/SqT K H p (ys.map V.str))/\(ys.map (·.length)).sum+ys.length * z.length <= 16777216/\Q (.str (kZ z ys)) H
theorem Co:MtR X "str.join" (vW X.K):=by
 intro e s σ H x vs v us Q I rx g h;obtain⟨z,p,ys,rfl,rfl,hq,f,q⟩:=h;obtain⟨t,rfl⟩:=rx;obtain⟨u,rfl,i⟩:=yd g;cases i;rcases hq with hq | hq
 ·obtain⟨its,r,pl,_⟩:=I.list hq;exact yG (n:=1) I.tk (join_list pl.isList (by simpa using Vz r) f λt' k c=>⟨.str (kZ z ys),H,I.tok k c,⟨_,rfl⟩,q⟩)
 ·obtain⟨its,r,pl,_⟩:=I.tuple hq;exact yG (n:=1) I.tk (join_tuple pl (by simpa using Vz r) f λt' k c=>⟨.str (kZ z ys),H,I.tok k c,⟨_,rfl⟩,q⟩)
theorem aT:∀ (l:List (Str×Tok)),zd ((l.map (·.1)).map V.str) (Vt l)
 | []=>.nil
 | (x,t)::r=>.cons ⟨t,rfl⟩ (aT r)
def Cc:V->List V->Hp->VK->Prop:=λx vs H Q=>∃ z y,x=.str z/\vs=[.str y]/\(y.length == 0)=false/\z.length+2 <= zf/\∀ p,H p=none->Q (.ref p) (upd H p (.lst ((J0 z y).map V.str)))
end
end L2
namespace L2
open PySem PySem.Spec PyProof.Rows PySem.Builtin.Str
section
variable {X:Cx}
theorem EZ:MtR X "str.split" Cc:=by
 intro f s σ H x vs v us Q I rx A h;obtain⟨z,y,rfl,rfl,m,E,q⟩:=h;obtain⟨t,rfl⟩:=rx;obtain⟨u,rfl,i,rfl⟩:=yd A;have o:(Wn z (Y1 z y 0 z.length (z.length+1)) y.length).length <= zf:=by
  have G:=StrLaws.occ_length_le z y 0 z.length (z.length+1);rw[length_partsBetween];lia
 have fin:∀ (l:List (Str×Tok)) (k:Nat),l.map (·.1)=J0 z y->l.length <= zf->1 <= k->EP X f σ Q (.ref s.heap.objs.size) { s with heap:=s.heap.push { cls:=.type "list",data:=.seq (Vt l).toArray },toks:=k }:=λl k e B C=>by
  have p:=aT l;rw[e] at p;have j:((J0 z y).map V.str).length <= zf:=by rw[jH,<- e,jH];exact B
  exact⟨.ref s.heap.objs.size,_,I.lnew p j C,rfl,q _ I.fresh⟩
 refine yG (n:=1) I.tk ?_;cases c:(decide (z.length < y.length) || decide (strKind z < strKind y))
 ·cases g:(Y1 z y 0 z.length (z.length+1)).isEmpty
  ·refine J9 F.slot_str_split (xo _ _ _) F.entry_str_split (F.args_str_split_2 _ _) (meets_str_split_sep z y t i c m g (by lia) o) ?_;show wants _ _ _ { s with toks:=_,heap:=s.heap.push { cls:=.type "list",data:=.seq (strsFrom s.toks (Wn z (Y1 z y 0 z.length (z.length+1)) y.length)).toArray } };rw[strsFrom_eq];have r:=(numbered_texts s.toks (Wn z (Y1 z y 0 z.length (z.length+1)) y.length))
   refine fin (numbered s.toks _) _ (r.trans ((if_neg (ne_true_of_eq_false c)).trans (if_neg (ne_true_of_eq_false g))).symm) ?_;have w:=congrArg List.length r;rw[jH] at w;rw[w];exact o
  ·exact J9 F.slot_str_split (xo _ _ _) F.entry_str_split (F.args_str_split_2 _ _) (meets_str_split_not_found z y t i c m g)
    (fin [(z,t)] s.toks ((if_neg (ne_true_of_eq_false c)).trans (if_pos g)).symm (by show 1 <= zf;decide))
 ·exact J9 F.slot_str_split (xo _ _ _) F.entry_str_split (F.args_str_split_2 _ _) (meets_str_split_cannot_occur z y t i c)
   (fin [(z,t)] s.toks (if_pos c).symm (by show 1 <= zf;decide))
theorem i7:OpR X (yW .Mult) (λx y H Q=>∃ z n,x=.str z/\y=.int n/\MulOk z n/\Q (.str (VL z n)) H):=by
 intro c s σ H x y v u Q I rx ry h;obtain⟨z,n,rfl,rfl,hm,q⟩:=h;obtain⟨t,rfl⟩:=rx;obtain⟨t',rfl⟩:=ry;exact yG (n:=1) I.tk (SB.mul hm λt' k e=>⟨.str _,H,I.tok k e,⟨_,rfl⟩,q⟩)
theorem Lm {bs:List Bool}:∀ {us:List zD},zd (bs.map V.bl) us->us=bs.map Jg:=by
 induction bs with
 | nil=>intro us r;rw[xf] at r;cases r;rfl
 | cons b bs c =>
  intro us r;rw[jN] at r;cases r with
  | cons e f=>rw[c f];cases e;rfl
theorem DY (bs:List Bool):((j8 bs.length).all λi=>bs.getD i false)=bs.all id:=by
 induction bs with
 | nil=>rfl
 | cons b bs c =>
  rw[jE,hE,JF,We,JF,<- c];rfl
noncomputable def de (K:PySem.W.Frag):List V->Hp->VK->Prop:=λxs H Q=>∃ (p:zE) (bs:List Bool),xs=[.ref p]/\SqL K H p (bs.map V.bl)/\Q (.bl (bs.all id)) H
theorem D5 (w:X.calm=true):jx X (.builtin "all") (de X.K):=by
 intro t s σ H xs us Q I r h;obtain⟨p,bs,rfl,hq,q⟩:=h;obtain⟨u,rfl,x⟩:=yd r;cases x;obtain⟨its,y,pl,G⟩:=I.list hq;have e:=Lm y;subst e;obtain⟨o,z,B⟩:=pl.isList;have f:p < s.heap.objs.size:=jQ z;refine yG (n:=1) I.tk (call_all_walk (Vw pl.isList ?_));refine⟨s.heap.objs.size,_,_,_,_,_,λi=>bs.getD i false,rfl,Uu (show X.A.in1.handled=none from I.ok.hd w) s.heap.objs.size p (jX f) (bs.map Jg).toArray,⟨⟨_,qd _ rfl,rfl,rfl⟩,pl.isList.push _⟩,?_,λh' tk C g=>?_⟩
 ·intro i v J L M E j;have c:(bs.map Jg)[i]? = some v:=by simpa using E
  rw[qX] at c;cases l:bs[i]? with
  | none=>rw[l] at c;cases c
  | some b =>
   rw[l] at c;cases c;have e:bs.getD i false=b:=by simp[List.getD,l]
   dsimp only at j;rw[e] at j;exact Jz j
 ·have m:∀ b o,s.heap.get? b=some o->h'.get? b=some o:=λb o e=>C b o (by simpa using jX (jQ e)) (jd _ e);refine⟨.bl (bs.all id),H,I.kept m g,?_,q⟩;show Jg _=Jg _;rw[<- DY];simp
end
mutual
inductive qh (K:PySem.W.Frag) (H:Hp):V->Qk->Prop
 | non:qh K H .non .none
 | bl (b:Bool):qh K H (.bl b) (.bool b)
 | int (i:Int):qh K H (.int i) (.int i)
 | str (x:Str):qh K H (.str x) (.str x)
 | lst {p:zE}{xs:List V}{ds:List Qk}:SqL K H p xs->QR K H xs ds->qh K H (.ref p) (.list ds)
 | tup {p:zE}{xs:List V}{ds:List Qk}:SqT K H p xs->QR K H xs ds->qh K H (.ref p) (.tuple ds)
inductive QR (K:PySem.W.Frag) (H:Hp):List V->List Qk->Prop
 | nil:QR K H [] []
 | cons {v:V}{d:Qk}{vs:List V}{ds:List Qk}:qh K H v d->QR K H vs ds->QR K H (v::vs) (d::ds)
end
section
variable {X:Cx}{pins:List (zE×Obj)}{σ:St}{H:Hp}{s:zI}
mutual
theorem qh.reads (I:Inv X pins σ H s):∀ {v:V}{d:Qk}{u:zD},qh X.K H v d->zm v u->∃ as,Reads s.heap u d as
 | _,_,_,.non,r=>by cases r;exact⟨_,.none⟩
 | _,_,_,.bl b,r=>by cases r;exact⟨_,.bool b⟩
 | _,_,_,.int i,r=>by obtain⟨t,rfl⟩:=r;exact⟨_,.int i t⟩
 | _,_,_,.str x,r=>by obtain⟨t,rfl⟩:=r;exact⟨_,.str x t⟩
 | _,_,_,.lst hq ha,r=>by
  cases r;obtain⟨its,c,⟨o,n,e,f,hd,hs⟩,_⟩:=I.list hq;obtain⟨as,g⟩:=QR.reads I ha c;exact⟨_,.list e f hs (by simpa using g)⟩
 | _,_,_,.tup hq ha,r=>by
  cases r;obtain⟨its,c,⟨o,e,f,n,hs⟩,_⟩:=I.tuple hq;obtain⟨as,g⟩:=QR.reads I ha c;exact⟨_,.tuple e f hs (by simpa using g)⟩
theorem QR.reads (I:Inv X pins σ H s):∀ {vs:List V}{ds:List Qk}{us:List zD},QR X.K H vs ds->zd vs us->∃ as,ReadsAll s.heap us ds as
 | _,_,_,.nil,r=>by cases r;exact⟨_,.nil⟩
 | _,_,_,.cons h t,r=>by
  cases r with
  | cons c e =>
   obtain⟨as,f⟩:=qh.reads I h c;obtain⟨bs,g⟩:=QR.reads I t e;exact⟨_,.cons f g⟩
end
end
section
variable {X:Cx}
def wR (K:PySem.W.Frag) (neg:Bool):R2:=λx y H Q=>∃ d e,qh K H x d/\qh K H y e/\Zl d=true/\Zl e=true/\Q (.bl (if neg then !xH d e else xH d e)) H
theorem gD {k:Nat} (f:z6 k X.A):OpR X (jZ .Eq) (wR X.K false):=by
 intro c s σ H x y v u Q I rx ry h;obtain⟨d,e,hd,g,i,j,q⟩:=h;obtain⟨as,l⟩:=hd.reads I rx;obtain⟨bs,m⟩:=g.reads I ry;exact eq_dataH l m i j f.units ⟨.bl _,H,I,rfl,q⟩
theorem gg {k:Nat} (i:z6 k X.A):OpR X (jZ .NotEq) (wR X.K true):=by
 intro f s σ H x y v u Q I rx ry h;obtain⟨d,e,hd,j,l,m,q⟩:=h;obtain⟨as,o⟩:=hd.reads I rx;obtain⟨bs,p⟩:=j.reads I ry;exact ne_dataH o p l m i.units ⟨.bl _,H,I,rfl,q⟩
where RelC:V->zD->Prop:=λc g=>(∃ n,c=.ty n/\g=.type n)\/∃ a,c=.ref a/\g=.ref a
end
end L2
namespace L2
open PySem PySem.Spec PyProof.Rows
section
variable {X:Cx}
def AC:R2:=λx y H Q=>match x,y with
 | .int i,.int j=>Q (.int (i+j)) H
 | .str a,.str b=>a.length+b.length <= zf/\Q (.str (a++b)) H
 | .ref l,.ref b=>∃ xs c,H l=some (.lst xs)/\H b=some (.lst c)/\xs.length+c.length <= zf/\∀ p,H p=none->Q (.ref p) (upd H p (.lst (xs++c)))
 | _,_=>False
theorem iQ:OpR X (yW .Add) AC:=by
 intro c s σ H x y v u Q I rx ry h;cases x with
 | int i =>
  cases y with
  | int j=>exact gi c s σ H _ _ v u Q I rx ry ⟨i,j,rfl,rfl,h⟩
  | _=>exact jJ h
 | str a =>
  cases y with
  | str b=>exact LM c s σ H _ _ v u Q I rx ry ⟨a,b,rfl,rfl,h⟩
  | _=>exact jJ h
 | ref l =>
  cases y with
  | ref b =>
   obtain⟨xs,e,f,g,m,n⟩:=h;exact Ej c s σ H _ _ v u Q I rx ry ⟨l,b,xs,e,rfl,rfl,f,g,m,n⟩
  | _=>exact jJ h
 | _=>exact jJ h
def CQ:R2:=λx y H Q=>match x,y with
 | .int i,.int j=>Q (.int (i - j)) H
 | _,_=>False
theorem iZ:OpR X (yW .Sub) CQ:=by
 intro c s σ H x y v u Q I rx ry h;cases x with
 | int i =>
  cases y with
  | int j=>exact d9 c s σ H _ _ v u Q I rx ry ⟨i,j,rfl,rfl,h⟩
  | _=>exact jJ h
 | _=>exact jJ h
def aD:R2:=λx y H Q=>match x,y with
 | .int i,.int j=>Ve i j/\Q (.int (i * j)) H
 | .str z,.int n=>MulOk z n/\Q (.str (VL z n)) H
 | _,_=>False
theorem Fk:OpR X (yW .Mult) aD:=by
 intro c s σ H x y v u Q I rx ry h;cases x with
 | int i =>
  cases y with
  | int j=>exact FK c s σ H _ _ v u Q I rx ry ⟨i,j,rfl,rfl,h⟩
  | _=>exact jJ h
 | str z =>
  cases y with
  | int n=>exact i7 c s σ H _ _ v u Q I rx ry ⟨z,n,rfl,rfl,h⟩
  | _=>exact jJ h
 | _=>exact jJ h
def Cf:R2:=λx y H Q=>match x,y with
 | .int i,.int j=>0 < j/\Q (.int (i % j)) H
 | _,_=>False
theorem IP:OpR X (yW .Mod) Cf:=by
 intro c s σ H x y v u Q I rx ry h;cases x with
 | int i =>
  cases y with
  | int j=>exact Es c s σ H _ _ v u Q I rx ry ⟨i,j,rfl,rfl,h⟩
  | _=>exact jJ h
 | _=>exact jJ h
def BE:R2:=λx y H Q=>match x,y with
 | .int i,.int j=>(0 < j/\j < 1073741824)/\Q (.int (i / j)) H
 | _,_=>False
theorem Ez:OpR X (yW .FloorDiv) BE:=by
 intro c s σ H x y v u Q I rx ry h;cases x with
 | int i =>
  cases y with
  | int j=>exact Lq c s σ H _ _ v u Q I rx ry ⟨i,j,rfl,rfl,h⟩
  | _=>exact jJ h
 | _=>exact jJ h
def uLt:R2:=λx y H Q=>match x,y with
 | .int i,.int j=>Q (.bl (decide (i < j))) H
 | .str i,.str j=>Q (.bl (decide (i.cps.toList < j.cps.toList))) H
 | _,_=>False
theorem LI:OpR X (jZ .Lt) uLt:=by
 intro c s σ H x y v u Q I rx ry h;cases x with
 | int i =>
  cases y with
  | int j=>exact lH c s σ H _ _ v u Q I rx ry ⟨i,j,rfl,rfl,h⟩
  | _=>exact jJ h
 | str i =>
  cases y with
  | str j=>exact D3 c s σ H _ _ v u Q I rx ry ⟨i,j,rfl,rfl,h⟩
  | _=>exact jJ h
 | _=>exact jJ h
def uLe:R2:=λx y H Q=>match x,y with
 | .int i,.int j=>Q (.bl (decide (i <= j))) H
 | .str i,.str j=>Q (.bl (!decide (j.cps.toList < i.cps.toList))) H
 | _,_=>False
theorem Ku:OpR X (jZ .LtE) uLe:=by
 intro c s σ H x y v u Q I rx ry h;cases x with
 | int i =>
  cases y with
  | int j=>exact gX c s σ H _ _ v u Q I rx ry ⟨i,j,rfl,rfl,h⟩
  | _=>exact jJ h
 | str i =>
  cases y with
  | str j=>exact H9 c s σ H _ _ v u Q I rx ry ⟨i,j,rfl,rfl,h⟩
  | _=>exact jJ h
 | _=>exact jJ h
def uGt:R2:=λx y H Q=>match x,y with
 | .int i,.int j=>Q (.bl (decide (j < i))) H
 | _,_=>False
theorem fY:OpR X (jZ .Gt) uGt:=by
 intro c s σ H x y v u Q I rx ry h;cases x with
 | int i =>
  cases y with
  | int j=>exact D6 c s σ H _ _ v u Q I rx ry ⟨i,j,rfl,rfl,h⟩
  | _=>exact jJ h
 | _=>exact jJ h
def uIn (K:PySem.W.Frag) (neg:Bool):R2:=λx y H Q=>match x,y with
 | .str i,.str j=>Q (.bl (xor neg (!(xX j i 0 j.length 1).isEmpty))) H
 | x,.ref p=>∃ xs,(SqL K H p xs\/SqT K H p xs)/\yb x=true/\xs.all yb=true/\Q (.bl (xor neg (inV x xs))) H
 | _,_=>False
theorem eE:OpR X (jZ .In) (uIn X.K false):=by
 intro c s σ H x y v u Q I rx ry h;cases y with
 | str j =>
  cases x with
  | str i =>
   have h':Q (.bl (xor false (!(xX j i 0 j.length 1).isEmpty))) H:=h;rw[uq] at h';exact gU c s σ H _ _ v u Q I rx ry ⟨i,j,rfl,rfl,h'⟩
  | _=>exact jJ h
 | ref p =>
  have h':∃ xs,(SqL X.K H p xs\/SqT X.K H p xs)/\yb x=true/\xs.all yb=true/\Q (.bl (xor false (inV x xs))) H:=by cases x<;>exact h
  obtain⟨xs,f,g,l,e⟩:=h';rw[uq] at e;exact fv c s σ H _ _ v u Q I rx ry ⟨p,xs,rfl,f,g,l,e⟩
 | _=>cases x<;>exact jJ h
theorem gK:OpR X (jZ .NotIn) (uIn X.K true):=by
 intro c s σ H x y v u Q I rx ry h;cases y with
 | str j =>
  cases x with
  | str i =>
   have h':Q (.bl (xor true (!(xX j i 0 j.length 1).isEmpty))) H:=h;rw[Uq] at h';exact iN c s σ H _ _ v u Q I rx ry ⟨i,j,rfl,rfl,h'⟩
  | _=>exact jJ h
 | ref p =>
  have h':∃ xs,(SqL X.K H p xs\/SqT X.K H p xs)/\yb x=true/\xs.all yb=true/\Q (.bl (xor true (inV x xs))) H:=by cases x<;>exact h
  obtain⟨xs,f,g,l,e⟩:=h';rw[Uq] at e;exact fB c s σ H _ _ v u Q I rx ry ⟨p,xs,rfl,f,g,l,e⟩
 | _=>cases x<;>exact jJ h
def uIx (K:PySem.W.Frag):R2:=λx y H Q=>match x,y with
 | .str z,.int i=>∃ c,z.length <= zf/\atI z.cps.toList i=some c/\Q (.str ⟨#[c]⟩) H
 | .ref p,.int i=>∃ xs v,(SqL K H p xs\/SqT K H p xs)/\atI xs i=some v/\Q v H
 | _,_=>False
theorem eX:IxR X (uIx X.K):=by
 intro e f g s σ H x y v u Q I rx ry h hs;cases x with
 | str z =>
  cases y with
  | int i =>
   obtain⟨c,j,l,m⟩:=h;exact fb e f g s σ H _ _ v u Q I rx ry ⟨z,i,c,rfl,rfl,j,l,m⟩ hs
  | _=>exact jJ h
 | ref p =>
  cases y with
  | int i =>
   obtain⟨xs,c,j | j,l,m⟩:=h
   ·exact Gi e f g s σ H _ _ v u Q I rx ry ⟨p,xs,i,c,rfl,rfl,j,l,m⟩ hs
   ·exact ly e f g s σ H _ _ v u Q I rx ry ⟨p,xs,i,c,rfl,rfl,j,l,m⟩ hs
  | _=>exact jJ h
 | _=>exact jJ h
def uSl (K:PySem.W.Frag):V->Option Int->Option Int->Hp->VK->Prop:=λx lo hi H Q=>match x with
 | .str z=>z.length <= zf/\Q (.str (ko z lo hi)) H
 | .ref a=>(∃ xs,SqL K H a xs/\∀ p,H p=none->Q (.ref p) (upd H p (.lst (Ql xs lo hi)))) \/
   (∃ xs,SqT K H a xs /\ ¬ (HT.sIx xs.length 0 lo=0/\HT.sIx xs.length xs.length hi=xs.length)/\∀ p,H p=none->Q (.ref p) (upd H p (.tup (Ql xs lo hi))))
 | _=>False
theorem hX:SlR X (uSl X.K):=by
 intro c s σ H x v e f lo hi g Q I rx hs pl i h;cases x with
 | str z=>exact D1 c s σ H _ v e f lo hi g Q I rx hs pl i ⟨z,rfl,h⟩
 | ref a =>
  rcases h with ⟨xs,j,l⟩ | ⟨xs,j,l,m⟩
  ·exact er c s σ H _ v e f lo hi g Q I rx hs pl i ⟨a,xs,rfl,j,l⟩
  ·exact iW c s σ H _ v e f lo hi g Q I rx hs pl i ⟨a,xs,rfl,j,l,m⟩
 | _=>exact jJ h
noncomputable def B2 (K:PySem.W.Frag):List V->Hp->VK->Prop:=λxs H Q=>match xs with
 | [.str z]=>z.length <= zf/\Q (.int z.length) H
 | [.ref p]=>∃ ys,(SqL K H p ys\/SqT K H p ys)/\Q (.int ys.length) H
 | _=>False
theorem ET:jx X (.builtin "len") (B2 X.K):=by
 intro c s σ H xs us Q I r h;cases xs with
 | nil=>exact jJ h
 | cons x xs =>
  cases xs with
  | cons _ _=>cases x<;>exact jJ h
  | nil =>
   cases x with
   | str z=>exact Fi c s σ H _ us Q I r ⟨z,rfl,h⟩
   | ref p =>
    obtain⟨ys,e,f⟩:=h;exact FT c s σ H _ us Q I r ⟨p,ys,rfl,e,f⟩
   | _=>exact jJ h
theorem g8:PIp X .Add (λx y H Q=>match x,y with | .int i,.int j=>Q (.int (i+j)) H | .str a,.str b=>a.length+b.length <= zf/\Q (.str (a++b)) H | _,_=>False):=by
 intro c s σ H x y v u Q I rx ry h;cases x with
 | int i =>
  cases y with
  | int j=>exact fP c s σ H _ _ v u Q I rx ry ⟨i,j,rfl,rfl,h⟩
  | _=>exact jJ h
 | str a =>
  cases y with
  | str b=>exact gR c s σ H _ _ v u Q I rx ry ⟨a,b,rfl,rfl,h⟩
  | _=>exact jJ h
 | _=>exact jJ h
end
theorem Lr:yB "len" = some (.builtin "len"):=by decide +kernel
theorem FI:yB "all" = some (.builtin "all"):=by decide +kernel
theorem GN:yB "isinstance" = some (.builtin "isinstance"):=by decide +kernel
theorem BH:yB "str" = some (.type "str"):=by decide +kernel
theorem gN:yB "int" = some (.type "int"):=by decide +kernel
theorem dI:yB "list" = some (.type "list"):=by decide +kernel
theorem BR:yB "tuple" = some (.type "tuple"):=by decide +kernel
theorem aL:yB "dict" = some (.type "dict"):=by decide +kernel
structure Has (P:jD) (w:jC) (K:PySem.W.Frag) (mg:Str->Option zD) (base:zp) (x:Str) (k:Nat) (ps:List Str) (sp:Sp):Prop where
 ex:∃ f fd,qC P w K mg base CX0 k f fd ps sp/\ZX K fd ps []/\PySem.W.keepIn K (.ref f)=true/\mg x=some (.ref f)
section
variable {X:Cx}{k kk:Nat}{x:Str}{ps:List Str}{sp:Sp}{e:ze}{es:List ze}{t:TA}{p pos:Pos}
theorem mU (h:Has X.prog X.w X.K X.mg X.base x k ps sp) (i:z6 kk X.A) (j:k <= kk) (l:Gl X x) (ha:PA X (e::es) t) (n:Z5 CX0 X E0:=by exact Xa) (c:(x == ("__debug__" : Str))=false:=by decide)
  (o:jY (e::es) X.env=(false,z0 e X.env)::jY es X.env:=by rfl) (g:(yR pos (jY es X.env)).any (·.1)=false:=by rfl) :
  PE X (.Call (.Name x p) (e::es) [] pos) (CK sp [] E0 t):=by
 obtain⟨f,fd,F,b,kp,m⟩:=h.ex;exact Gs F (i.mono j) l m kp b .nil n ha c o g
structure QB (mg:Str->Option zD) (x:Str) (v:V):Prop where
 ex:∃ u,mg x=some u/\zm v u
theorem Bz (h:QB X.mg x v) (c:Gl X x) (hd:(x == ("__debug__" : Str))=false:=by decide):PE X (.Name x pos) (tC v):=by
 obtain⟨u,m,r⟩:=h.ex;exact Fg c m r hd
end
noncomputable def xt:V->zD->Bool
 | .non,.none=>true
 | .bl a,.bool b=>a == b
 | .int i,.int j _=>i == j
 | .str x,.str y _=>x == y
 | _,_=>false
theorem VT (h:xt v u=true):zm v u:=by
 cases v<;>cases u<;>first | exact (qM h).elim | rfl | (have e:=eq_of_beq h;subst e;first | rfl | exact⟨_,rfl⟩)
def Ki:List V->List zD->Bool
 | [],[]=>true
 | v::vs,u::us=>xt v u && Ki vs us
 | _,_=>false
theorem WN:∀ {vs:List V}{us:List zD},Ki vs us=true->zd vs us
 | [],us,h=>by
  cases us with
  | nil=>exact .nil
  | cons u us=>exact (qM h).elim
 | v::vs,us,h=>by
  cases us with
  | nil=>exact (qM h).elim
  | cons u us =>
   have h':(xt v u && Ki vs us)=true:=h;rw[j7] at h';exact .cons (VT h'.1) (WN h'.2)
theorem LY {K:PySem.W.Frag}{a:zE}{d:Option zE}{its:Array zD}{n:Nat}{c:Array (Option zD)} (h:K.lookup a=some ⟨.type "tuple",d,.seq its n,c⟩) (r:Ki xs its.toList=true) (f:xs.length <= zf:=by decide):SqT K H a xs:=by
 have e:=(WN r).length;have g:its.toList.length=its.size:=by simp
 exact .inr ⟨_,its,n,h,rfl,rfl,by lia,WN r⟩
theorem xM {K:PySem.W.Frag}{b:Bool} (h:(if (Jb A == Jb B)=true then some true else if PySem.W.kitMeta B=true then (PySem.fastBuiltinMro A).map (·.contains (Jb B)) else none)=some b):PySem.W.kitOne K (.type A) (.type B)=some b:=h
end L2
namespace TX
open PySem
noncomputable def qs (c:Nat):List Nat->List (List Nat)
 | []=>[[]]
 | d::r=>if d=c then []::qs c r else match qs c r with
  | []=>[[d]]
  | p::ps=>(d::p)::ps
noncomputable def Q0 (c:Nat):List (List Nat)->List Nat
 | []=>[]
 | [p]=>p
 | p::q::r=>p++c::Q0 c (q::r)
theorem FQ (c:Nat) (l:List Nat):qs c l≠[]:=by
 cases l with
 | nil=>simp[qs]
 | cons d r =>
  unfold qs;split
  ·simp
  ·split<;>simp
theorem Be (c:Nat):∀ p:List Nat,c∉p->qs c p=[p]
 | [],_=>rfl
 | d::r,h=>by
  have hd:d≠c:=λe=>h (by simp[e]);have f:c∉r:=λe=>h (je _ e);unfold qs;rw[if_neg hd,Be c r f]
theorem Az (c:Nat):∀ (p r:List Nat),c∉p->qs c (p++c::r)=p::qs c r
 | [],r,_=>by
  show qs c (c::r)=_;unfold qs;rw[if_pos rfl];cases r<;>rfl
 | d::q,r,h=>by
  have hd:d≠c:=λe=>h (by simp[e]);have hq:c∉q:=λe=>h (je _ e);show qs c (d::(q++c::r))=_
  conv=>lhs;unfold qs
  rw[if_neg hd,Az c q r hq]
theorem cO (c:Nat):∀ ps:List (List Nat),ps≠[]->(∀ p∈ps,c∉p)->qs c (Q0 c ps)=ps
 | [],h,_=>absurd rfl h
 | [p],_,h=>Be c p (h p (by simp))
 | p::q::r,_,h=>by
  show qs c (p++c::Q0 c (q::r))=_;rw[Az c p _ (h p (by simp)),cO c (q::r) (by simp) λx e=>h x (je _ e)]
theorem Vc (c:Nat):∀ ps:List Str,(Cw ⟨#[c]⟩ ps).cps.toList=Q0 c (ps.map λp=>p.cps.toList)
 | []=>rfl
 | [p]=>rfl
 | p::q::r=>by
  have e:=Vc c (q::r);show (p++(⟨#[c]⟩:Str)++Cw ⟨#[c]⟩ (q::r)).cps.toList=p.cps.toList++c::Q0 c ((q::r).map λp=>p.cps.toList);rw[<- e];show (p.cps ++ #[c]++(Cw ⟨#[c]⟩ (q::r)).cps).toList=_;simp
theorem GA (x:Str) (c:Nat):J0 x ⟨#[c]⟩≠[]:=by
 unfold J0;split
 ·simp
 ·split
  ·simp
  ·rw[StrLaws.partsBetween_eq];obtain⟨p,r,e⟩:=StrLaws.partsFrom_ne x (⟨#[c]⟩:Str).length 0 (xX x ⟨#[c]⟩ 0 x.length (x.length+1));rw[e];simp
theorem GG (x:Str) (c:Nat):(J0 x ⟨#[c]⟩).map (λp=>p.cps.toList)=qs c x.cps.toList:=by
 have g:=D0 x ⟨#[c]⟩;have f:=Vc c (J0 x ⟨#[c]⟩);rw[g] at f;rw[f,cO]
 ·intro e;exact GA x c (List.map_eq_nil_iff.mp e)
 ·intro p h;obtain⟨q,hq,rfl⟩:=List.mem_map.mp h;exact lJ x c q hq
noncomputable def ofL (l:List Nat):Str:=⟨l.toArray⟩
theorem Li (x:Str):ofL x.cps.toList=x:=by
 cases x;simp[ofL]
theorem du (x:Str) (c:Nat):J0 x ⟨#[c]⟩=(qs c x.cps.toList).map ofL:=by
 rw[<- GG,yo];have:(ofL ∘ λp:Str=>p.cps.toList)=id:=by
  funext p;exact Li p
 rw[this,Zb]
theorem AL (c d:Nat):∀ ps:List (List Nat),(∀ p∈ps,c∉p)->Q0 d ps=(Q0 c ps).map λx=>if x=c then d else x
 | [],_=>rfl
 | [p],h=>by
  show p=p.map _;have g:=h p (by simp)
  conv=>lhs;rw[<- Zb p]
  refine Zv λx f=>?_;have:x≠c:=λe=>g (e ▸ f);simp[this]
 | p::q::r,h=>by
  show p++d::Q0 d (q::r)=(p++c::Q0 c (q::r)).map _;rw[JC,jN,AL c d (q::r) λx f=>h x (je _ f)];have g:=h p (by simp);have e:p.map (λx=>if x=c then d else x)=p:=by
   conv=>rhs;rw[<- Zb p]
   refine Zv λx f=>?_;have:x≠c:=λe=>g (e ▸ f);simp[this]
  rw[e];simp
theorem LZ (x:Str) (c d:Nat):(Yc x ⟨#[c]⟩ ⟨#[d]⟩).cps.toList=x.cps.toList.map λy=>if y=c then d else y:=by
 rw[StrLaws.replace_one,Vc,AL c d]
 ·rw[<- Vc,D0]
 ·intro p e;obtain⟨q,hq,rfl⟩:=List.mem_map.mp e;exact lJ x c q hq
noncomputable def sp (y:Nat):Nat:=if y=10 then 32 else y
end TX
namespace TS
open PySem PyProof.Rows
variable {prog:jD}{w:jC}{A:jj}{E:zD->zI->Prop}{s:zI}{zR:Array zK}{κ:KeyKind}
structure SG (zR:Array zK) (st:zV):Prop where
 pm:(zM st).Perm zR
 kd:kindOf st=qj
 fl:Q4 st=none
theorem SG.sz {st:zV} (h:SG zR st):(zM st).size=zR.size:=h.pm.size_eq
theorem SG.arr {st:zV} (h:SG zR st) {xs:Array zK} (p:xs.Perm (zM st)):SG zR (setArr st xs):=⟨p.trans h.pm,h.kd,h.fl⟩
theorem SG.item {st:zV} (h:SG zR st) (f:KeysOf κ zR) {i:Nat} (hi:i < zR.size):∃ x p a,(zM st)[i]? = some (x,p)/\κ.keyOf x=some a/\KK κ (zM st) i=a:=by
 have c:i < (zM st).size:=by rw[h.sz];exact hi
 have hm:(zM st)[i]∈zR.toList:=(Array.perm_iff_toList_perm.mp h.pm).mem_iff.mp (by simp);obtain⟨a,ha⟩:=f _ hm;have e:(zM st)[i]? = some ((zM st)[i].1,(zM st)[i].2):=getElem?_pos _ i c;exact⟨_,_,a,e,ha,by unfold KK;rw[e];show (κ.keyOf (zM st)[i].1).getD κ.dflt=a;rw[ha];rfl⟩
theorem Kn {st:zV}{i j:Nat}{Q:Option Bool->zV->Prop} (e:κ.OneLt) (c:KeysOf κ zR) (g:SG zR st) (hi:i < zR.size) (f:j < zR.size) (h:Q (some (κ.blt (KK κ (zM st) i) (KK κ (zM st) j))) st):wpS (zN prog w) A E s (ltAt' i j) Q st:=by
 obtain⟨x,p,a,l,m,n⟩:=g.item c hi;obtain⟨y,q,b,o,r,t⟩:=g.item c f;rw[n,t] at h;exact wpS_ltAtK e g.kd l o m r h
def Ri (κ:KeyKind) (xs:Array zK) (lo k:Nat):Prop:=∀ i j,i <= j->j < k->κ.kle (KK κ xs (lo+i)) (KK κ xs (lo+j))
structure qA (zR:Array zK) (lo hi:Nat) (st st':zV):Prop where
 ok:SG zR st'
 out:∀ k,k < lo\/hi <= k->(zM st')[k]? = (zM st)[k]?
 pd:jW st'=jW st
theorem qA.refl {lo hi:Nat}{st:zV} (g:SG zR st):qA zR lo hi st st:=⟨g,λ_ _=>rfl,rfl⟩
theorem qA.trans {lo hi:Nat}{st e c:zV} (h:qA zR lo hi st e) (k:qA zR lo hi e c):qA zR lo hi st c:=⟨k.ok,λi hi=>(k.out i hi).trans (h.out i hi),k.pd.trans h.pd⟩
theorem iP {st:zV}{lo n ok:Nat}{Q:Bool->zV->Prop} (J:κ.OneLt) (L:KeysOf κ zR) (hn:lo+n <= zR.size) (hok:ok <= n) (g:SG zR st) (hs:Ri κ (zM st) lo ok)
  (h:∀ m,qA zR lo (lo+n) st m->Ri κ (zM m) lo n->Q true m):wpS (zN prog w) A E s (binarySort' lo n ok) Q st:=by
 rw[binarySort'_eq];refine zZ (yf (yu (I:=λk c t=>c=(none,())/\qA zR lo (lo+n) st t/\Ri κ (zM t) lo (min k n))
  (Q:=λc t=>c=(none,())/\qA zR lo (lo+n) st t/\Ri κ (zM t) lo n) (λk c t M N ⟨e,kp,f⟩=>?step) (λc t ⟨e,kp,f⟩=>⟨e,kp,?fin⟩) ⟨rfl,qA.refl g,λi j p U=>?ini⟩) λc t ⟨e,kp,f⟩=>?post)
 case step =>
  subst e;rw[show min k n=k by lia] at f;have kl:lo+k < zR.size:=by lia
  refine zZ (yf (yu (I:=λx c u=>u=t/\∃ l r,c=(none,l,r)/\l <= r/\r <= k/\r - l <= k - x/\(∀ i,i < l->κ.kle (KK κ (zM t) (lo+i)) (KK κ (zM t) (lo+k)))/\(∀ i,r <= i->i < k->κ.klt (KK κ (zM t) (lo+k)) (KK κ (zM t) (lo+i))))
   (Q:=λc u=>u=t/\∃ l r,c=(none,l,r)/\l <= k/\(∀ i,i < l->κ.kle (KK κ (zM t) (lo+i)) (KK κ (zM t) (lo+k)))/\(∀ i,l <= i->i < k->κ.klt (KK κ (zM t) (lo+k)) (KK κ (zM t) (lo+i))))
   (λx c u _ hx ⟨q,l,r,e,y,o,C,z,B⟩=>?st2) (λc u ⟨q,l,r,e,y,o,C,z,B⟩=>?fi2) ⟨rfl,0,k,rfl,by lia,by lia,by lia,λi hi=>by lia,λi y o=>by lia⟩) λc u ⟨q,l,r,e,y,o,C⟩=>?po2)
  case st2 =>
   subst q e;dsimp only;by_cases v:l ≥ r
   ·rw[if_pos v];obtain rfl:l=r:=by lia
    exact wpS_pure ⟨rfl,l,l,rfl,o,z,B⟩
   ·rw[if_neg v];refine zZ (Kn J L kp.ok kl (by lia) ?_);cases H:κ.blt (KK κ (zM u) (lo+k)) (KK κ (zM u) (lo+(l+r) / 2)) with
    | true =>
     simp only[if_true];exact wpS_pure ⟨rfl,l,(l+r) / 2,rfl,by lia,by lia,by lia,z,λi a b=>KeyOrd.klt_of_klt_of_kle H (f _ _ a b)⟩
    | false =>
     simp only[j9,if_false];exact wpS_pure ⟨rfl,(l+r) / 2+1,r,rfl,by lia,by lia,by lia,λi a=>yX (f i ((l+r) / 2) (by lia) (by lia)) (show κ.kle _ _ from H),B⟩
  case fi2 =>
   subst q e;obtain rfl:l=r:=by lia
   exact⟨rfl,l,l,rfl,o,z,B⟩
  case po2 =>
   subst q e;show wpS _ _ _ _ (do moveDown' (lo+k) (lo+l);pure (xx (none,()))) _ _;rw[moveDown'_eq];have G:lo+k < (zM u).size:=by rw[kp.ok.sz];exact kl
   refine zZ (Jo (wpS_pure ⟨rfl,kp.trans ⟨kp.ok.arr (bubble_perm _ _ _),λi hi=>?_,rfl⟩,?_⟩))
   ·show (bubble (zM u) (lo+k) (lo+k - (lo+l)))[i]? = _;rw[getElem?_bubble G _ (by lia),if_neg (by lia),if_neg (by lia)]
   ·rw[show min (k+1) n=k+1 by lia];intro i j p U;show κ.kle (KK κ (bubble (zM u) (lo+k) (lo+k - (lo+l))) (lo+i)) (KK κ (bubble (zM u) (lo+k) (lo+k - (lo+l))) (lo+j));rw[KK_bubble G (by lia),KK_bubble G (by lia),show lo+k - (lo+k - (lo+l))=lo+l by lia];by_cases Y:lo+i=lo+l<;>by_cases c2:lo+l < lo+i/\lo+i <= lo+k<;>by_cases c3:lo+j=lo+l<;>by_cases c4:lo+l < lo+j/\lo+j <= lo+k<;>simp only[Y,c2,c3,c4,if_true,if_false]<;>try lia
    ·exact JJ _
    ·exact QE (by have:=C (j - 1) (by lia) (by lia);rwa [show lo+(j - 1)=lo+j - 1 by lia] at this)
    ·have:=f (i - 1) (j - 1) (by lia) (by lia);rwa [show lo+(i - 1)=lo+i - 1 by lia,show lo+(j - 1)=lo+j - 1 by lia] at this
    ·exact o _ (by lia)
    ·have:=f i (j - 1) (by lia) (by lia);rwa [show lo+(j - 1)=lo+j - 1 by lia] at this
    ·exact f _ _ (by lia) (by lia)
 case fin=>rwa [show min (max (max ok 1) n) n=n by lia] at f
 case ini =>
  by_cases y:ok=0
  ·obtain rfl:i=j:=by lia
   exact JJ _
  ·exact hs i j p (by lia)
 case post =>
  subst e;exact wpS_pure (h t kp f)
noncomputable def vL (lo a e:Nat):StateT zV Sem AscSt :=
 forIn [a:e] ((none,a):AscSt) λ_ c=>do
  match <- ltAt' (lo+c.2) (lo+c.2 - 1) with
  | some b=>if b=true then pure (VS (none,c.2)) else pure (xx (none,c.2+1))
  | _=>pure (VS (some none,c.2))
def tl3 (lo n e:Nat):StateT zV Sem (Option Nat):=do
 UI lo (lo+n)
 let c <- vL lo n e
 match c.1 with
 | some r=>pure r
 | none=>pure (some c.2)
noncomputable def Vy (lo n e:Nat):StateT zV Sem DescSt :=
 forIn [n:e] ((none,n,0):DescSt) λ_ c=>do
  match <- ltAt' (lo+c.2.1) (lo+c.2.1 - 1) with
  | some b =>
   if b=true then
    if c.2.2 > 0 then do
     UI (lo+c.2.1 - (c.2.2+1)) (lo+c.2.1)
     pure (xx (none,c.2.1+1,0))
    else pure (xx (none,c.2.1+1,0))
   else do
    match <- ltAt' (lo+c.2.1 - 1) (lo+c.2.1) with
    | some b=>if b=true then pure (VS (none,c.2.1,c.2.2)) else pure (xx (none,c.2.1+1,c.2.2+1))
    | _=>pure (VS (some none,c.2.1,c.2.2))
  | _=>pure (VS (some none,c.2.1,c.2.2))
def Ko (lo n e:Nat):StateT zV Sem (Option Nat):=do
 liftM (Zy "list.sort.descending-run")
 let c <- Vy lo (n+1) e
 match c.1 with
 | some r=>pure r
 | none =>
  if c.2.2 > 0 then do
   UI (lo+c.2.1 - (c.2.2+1)) (lo+c.2.1)
   tl3 lo c.2.1 e
  else tl3 lo c.2.1 e
theorem Fl (lo e:Nat):countRun' lo e=(do
  let c <- vL lo 1 e
  match c.1 with
  | some r=>pure r
  | none =>
   if (c.2 == e)=true then pure (some c.2)
   else if c.2 > 1 then do
    match <- ltAt' lo (lo+c.2 - 1) with
    | some b=>if b=true then pure (some c.2) else do
      UI lo (lo+c.2)
      Ko lo c.2 e
    | _=>pure none
   else Ko lo c.2 e):=by
 rw[countRun'_eq];unfold Ko tl3 Vy vL;refine congrArg (bind _) ?_
 funext c
 obtain⟨r,n⟩:=c;cases r with
 | some r=>rfl
 | none =>
  dsimp only;split
  ·rfl
  ·split
   ·congr 1;funext x
    cases x with
    | none=>rfl
    | some b =>
     dsimp only;split
     ·rfl
     ·congr 1;funext _r
      congr 1;funext _u;congr 1;congr 1;funext i;obtain⟨h,l,m⟩:=i
      cases h with
      | some h=>rfl
      | none =>
       dsimp only;split
       ·congr 1;funext _v;congr 1;funext _w;congr 1;funext f;obtain⟨g,j⟩:=f;cases g<;>rfl
       ·congr 1;funext _w;congr 1;funext f;obtain⟨g,j⟩:=f;cases g<;>rfl
   ·congr 1;funext _u;congr 1;congr 1;funext i;obtain⟨h,l,m⟩:=i
    cases h with
    | some h=>rfl
    | none =>
     dsimp only;split
     ·congr 1;funext _v;congr 1;funext _w;congr 1;funext f;obtain⟨g,j⟩:=f;cases g<;>rfl
     ·congr 1;funext _w;congr 1;funext f;obtain⟨g,j⟩:=f;cases g<;>rfl
def Fa (κ:KeyKind) (xs:Array zK) (lo k:Nat):Prop:=∀ i j,i <= j->j < k->κ.kle (KK κ xs (lo+j)) (KK κ xs (lo+i))
theorem Ri.more {lo:Nat} (h:Ri κ xs lo x) (g:1 <= x) (e:κ.kle (KK κ xs (lo+x - 1)) (KK κ xs (lo+x))):Ri κ xs lo (x+1):=by
 intro i j f l;by_cases c:j < x
 ·exact h i j f c
 obtain rfl:j=x:=by lia
 by_cases d:i=j
 ·subst d;exact JJ _
 ·exact yX (h i (j - 1) (by lia) (by lia)) (by rwa [show lo+(j - 1)=lo+j - 1 by lia])
theorem Fa.more {lo:Nat} (h:Fa κ xs lo x) (g:1 <= x) (e:κ.kle (KK κ xs (lo+x)) (KK κ xs (lo+x - 1))):Fa κ xs lo (x+1):=by
 intro i j f l;by_cases c:j < x
 ·exact h i j f c
 obtain rfl:j=x:=by lia
 by_cases d:i=j
 ·subst d;exact JJ _
 ·exact yX (by rwa [show lo+(j - 1)=lo+j - 1 by lia]) (h i (j - 1) (by lia) (by lia))
theorem Ri.one {lo:Nat}:Ri κ xs lo 1:=λi j a b=>by obtain rfl:i=j:=(by lia);exact JJ _
theorem Fa.one {lo:Nat}:Fa κ xs lo 1:=λi j a b=>by obtain rfl:i=j:=(by lia);exact JJ _
theorem W1 {st:zV}{lo a e:Nat}{Q:AscSt->zV->Prop} (p:κ.OneLt) (q:KeysOf κ zR) (t:lo+e <= zR.size) (ha:1 <= a) (i:a <= e) (g:SG zR st) (hs:Ri κ (zM st) lo a)
  (h:∀ n,a <= n->n <= e->Ri κ (zM st) lo n->(n=e\/κ.klt (KK κ (zM st) (lo+n)) (KK κ (zM st) (lo+n - 1)))->Q (none,n) st):wpS (zN prog w) A E s (vL lo a e) Q st:=by
 unfold vL;refine yu (I:=λx c u=>u=st/\c=(none,x)/\Ri κ (zM st) lo x) (λx c u j r ⟨l,m,f⟩=>?step) (λc u ⟨l,m,f⟩=>?fin) ⟨rfl,rfl,hs⟩
 case fin =>
  subst l m;rw[show max a e=e by lia] at f ⊢;exact h e i (zg _) f (.inl rfl)
 case step =>
  subst l m;dsimp only;refine zZ (Kn p q g (by lia) (by lia) ?_);cases o:κ.blt (KK κ (zM u) (lo+x)) (KK κ (zM u) (lo+x - 1)) with
  | true=>simp only[if_true];exact wpS_pure (h x j (by lia) f (.inr o))
  | false=>simp only[j9,if_false];exact wpS_pure ⟨rfl,rfl,f.more (by lia) o⟩
theorem qA.mir {lo n i j:Nat}{st:zV} (g:SG zR st) (hi:lo <= i) (c:j <= lo+n) (e:lo+n <= zR.size):qA zR lo (lo+n) st (setArr st (mirror (zM st) i j ((j - i) / 2))) :=
 ⟨g.arr (mirror_perm _ _ _ _),λk f=>by show (mirror (zM st) i j ((j - i) / 2))[k]? = _;rw[getElem?_mirror_all (by rw[g.sz];lia),if_neg (by lia)],rfl⟩
theorem cX {st f:zV}{lo n e:Nat}{Q:Option Nat->zV->Prop} (r:κ.OneLt) (t:KeysOf κ zR) (o:lo+e <= zR.size) (u:1 <= n) (l:n <= e) (kp:qA zR lo (lo+e) f st) (hs:Fa κ (zM st) lo n)
  (h:∀ m g,qA zR lo (lo+e) f g->1 <= m->m <= e->Ri κ (zM g) lo m->Q (some m) g):wpS (zN prog w) A E s (tl3 lo n e) Q st:=by
 unfold tl3;have p:lo+n <= (zM st).size:=by rw[kp.ok.sz];lia
 refine zZ (wa ?_);have q:=kp.trans (qA.mir (i:=lo) (j:=lo+n) (lo:=lo) (n:=e) kp.ok (zg _) (by lia) o);refine zZ (W1 r t o u l q.ok ?_ λm a b c _=>wpS_pure (h m _ q (by lia) b c));intro i j v x;show κ.kle (KK κ (mirror (zM st) lo (lo+n) ((lo+n - lo) / 2)) (lo+i)) (KK κ (mirror (zM st) lo (lo+n) ((lo+n - lo) / 2)) (lo+j));rw[KK_mirror p,KK_mirror p,if_pos (by lia),if_pos (by lia)];have:=hs (n - 1 - j) (n - 1 - i) (by lia) (by lia)
 rwa [show lo+(n - 1 - i)=lo+(lo+n) - 1 - (lo+i) by lia,show lo+(n - 1 - j)=lo+(lo+n) - 1 - (lo+j) by lia] at this
theorem Fa.same {lo:Nat} (h:Fa κ xs lo n) (e:∀ k,KK κ ys k=KK κ xs k):Fa κ ys lo n:=λi j a b=>by rw[e,e];exact h i j a b
theorem HQ {st f:zV}{lo n e:Nat}{Q:DescSt->zV->Prop} (v:κ.OneLt) (y:KeysOf κ zR) (G:lo+e <= zR.size) (L:1 <= n) (p:n <= e) (kp:qA zR lo (lo+e) f st) (hs:Fa κ (zM st) lo n)
  (h:∀ m q g,qA zR lo (lo+e) f g->n <= m->m <= e->Fa κ (zM g) lo m->q+1 <= m->(∀ i,lo+m - (q+1) <= i->i < lo+m->KK κ (zM g) i=KK κ (zM g) (lo+m - 1))->Q (none,m,q) g) :
  wpS (zN prog w) A E s (Vy lo n e) Q st:=by
 unfold Vy;refine yu (I:=λx c u=>∃ q,c=(none,x,q)/\qA zR lo (lo+e) f u/\Fa κ (zM u) lo x/\q+1 <= x/\(∀ i,lo+x - (q+1) <= i->i < lo+x->KK κ (zM u) i=KK κ (zM u) (lo+x - 1)))
  (λx c u r H ⟨q,t,j,l,hq,o⟩=>?step) (λc u ⟨q,t,j,l,hq,o⟩=>?fin) ⟨0,rfl,kp,hs,by lia,λi a b=>by congr 1;lia⟩
 case fin =>
  subst t;rw[show max n e=e by lia] at l hq o ⊢;exact h e q u j p (zg _) l hq o
 case step =>
  subst t;dsimp only;have J:lo+x <= (zM u).size:=by rw[j.ok.sz];lia
  refine zZ (Kn v y j.ok (by lia) (by lia) ?_);cases z:κ.blt (KK κ (zM u) (lo+x)) (KK κ (zM u) (lo+x - 1)) with
  | true =>
   simp only[if_true];have B:=l.more (by lia) (QE z);by_cases c:q > 0
   ·rw[if_pos c];exact zZ (wa (wpS_pure ⟨0,rfl,j.trans (qA.mir j.ok (by lia) (by lia) G),B.same (dE J o),by lia,λi a b=>by congr 1;lia⟩))
   ·rw[if_neg c];exact wpS_pure ⟨0,rfl,j,B,by lia,λi a b=>by congr 1;lia⟩
  | false =>
   simp only[j9,if_false];refine zZ (Kn v y j.ok (by lia) (by lia) ?_);cases C:κ.blt (KK κ (zM u) (lo+x - 1)) (KK κ (zM u) (lo+x)) with
   | true=>simp only[if_true];exact wpS_pure (h x q u j r (by lia) l hq o)
   | false =>
    simp only[j9,if_false];have eq:=La (show κ.kle (KK κ (zM u) (lo+x)) (KK κ (zM u) (lo+x - 1)) from C) z;refine wpS_pure ⟨q+1,rfl,j,l.more (by lia) C,by lia,λi a b=>?_⟩;rw[show lo+(x+1) - 1=lo+x by lia];by_cases d:i=lo+x
    ·rw[d]
    ·rw[eq];exact o i (by lia) (by lia)
theorem B0 {st f:zV}{lo n e:Nat}{Q:Option Nat->zV->Prop} (l:κ.OneLt) (o:KeysOf κ zR) (i:lo+e <= zR.size) (p:n+1 <= e) (kp:qA zR lo (lo+e) f st) (hs:Fa κ (zM st) lo (n+1))
  (h:∀ m g,qA zR lo (lo+e) f g->1 <= m->m <= e->Ri κ (zM g) lo m->Q (some m) g):wpS (zN prog w) A E s (Ko lo n e) Q st:=by
 unfold Ko;refine zZ (kv (xc ⟨rfl,?_⟩));refine zZ (HQ l o i (by lia) p kp hs λm q u j a b r hq t=>?_);dsimp only;have v:lo+m <= (zM u).size:=by rw[j.ok.sz];lia
 by_cases c:q > 0
 ·rw[if_pos c];exact zZ (wa (cX l o i (by lia) b (j.trans (qA.mir j.ok (by lia) (by lia) i)) (r.same (dE v t)) h))
 ·rw[if_neg c];exact cX l o i (by lia) b j r h
theorem e8 {st:zV}{lo f:Nat}{Q:Option Nat->zV->Prop} (t:κ.OneLt) (u:KeysOf κ zR) (v:lo+f <= zR.size) (C:1 <= f) (g:SG zR st)
  (h:∀ m o,qA zR lo (lo+f) st o->1 <= m->m <= f->Ri κ (zM o) lo m->Q (some m) o):wpS (zN prog w) A E s (countRun' lo f) Q st:=by
 rw[Fl];refine zZ (W1 t u v (zg 1) C g Ri.one λn a b x y=>?_);dsimp only;by_cases e:n=f
 ·rw[if_pos (by simpa using e)];exact wpS_pure (h n st (qA.refl g) a b x)
 rw[if_neg (by simpa using e)];have r:=y.resolve_left e;by_cases c:n > 1
 ·rw[if_pos c];refine zZ (Kn t u g (by lia) (by lia) ?_);cases G:κ.blt (KK κ (zM st) lo) (KK κ (zM st) (lo+n - 1)) with
  | true=>simp only[if_true];exact wpS_pure (h n st (qA.refl g) a b x)
  | false =>
   simp only[j9,if_false];have H:lo+n <= (zM st).size:=by rw[g.sz];lia
   have l:∀ k,lo <= k->k < lo+n->KK κ (zM st) k=KK κ (zM st) (lo+n - 1):=by
    intro k I J;have B:=x 0 (k - lo) (by lia) (by lia);have z:=x (k - lo) (n - 1) (by lia) (by lia);rw[show lo+(k - lo)=k by lia] at B z;rw[show lo+(n - 1)=lo+n - 1 by lia] at z;exact La z (yX G B)
   refine zZ (wa (B0 t u v (by lia) (qA.mir g (zg _) (by lia) v) (Fa.same (xs:=zM st) (Fa.more (λi j p q=>?_) (by lia) (QE r)) (dE H l)) h));rw[l (lo+i) (by lia) (by lia),l (lo+j) (by lia) (by lia)];exact JJ _
 ·rw[if_neg c];obtain rfl:n=1:=by lia
  exact B0 t u v (by lia) (qA.refl g) (Fa.one.more (zg _) (QE r)) h
noncomputable def kyo (κ:KeyKind) (p:zK):κ.α:=(κ.keyOf p.1).getD κ.dflt
def ya (κ:KeyKind) (p:zK):Prop:=∃ a,κ.keyOf p.1=some a
theorem YA {st:zV}{p q:zK}{Q:Option Bool->zV->Prop} (e:κ.OneLt) (kd:kindOf st=qj) (f:ya κ p) (hq:ya κ q) (h:Q (some (κ.blt (kyo κ p) (kyo κ q))) st):wpS (zN prog w) A E s (lt' p q) Q st:=by
 obtain⟨a,ha⟩:=f;obtain⟨b,c⟩:=hq;rw[show kyo κ p=a by unfold kyo;rw[ha];rfl,show kyo κ q=b by unfold kyo;rw[c];rfl] at h;rw[lt'_eq];refine zZ (QX ?_);rw[kd,keyLt'_oneType];exact zZ (kv (UN (e prog w A _ s p.1 q.1 a b ha c ⟨rfl,wpS_pure h⟩)))
theorem q9 {st:zV}{arr:Array zK}{i:Nat}{p:zK}{Q:zK->zV->Prop} (e:arr[i]? = some p) (h:Q p st):wpS (zN prog w) A E s (yF arr i) Q st:=by
 rw[elem'_eq,e];exact wpS_pure h
noncomputable def Jd:Bool->zK->Array zK->Nat->Nat->Nat->StateT zV Sem (Option Nat):=sortPriv% PySem.Builtin.gallop
noncomputable def byd (left:Bool) (c:zK) (arr:Array zK) (base i:Nat):StateT zV Sem (Option Bool):=do
 let x <- yF arr (base+i)
 if left then lt' x c else return (<- lt' c x).map (!·)
def gl3 (left:Bool) (c:zK) (arr:Array zK) (base n lo hi:Nat):StateT zV Sem (Option Nat):=do
 let mut lo:=lo
 let mut hi:=hi
 for _ in [0:n] do
  if lo ≥ hi then break
  let m:=lo+(hi - lo) / 2
  let some more <- byd left c arr base m | return none
  if more then lo:=m+1 else hi:=m
 return some hi
def gl1 (left:Bool) (e:zK) (arr:Array zK) (base n c:Nat):StateT zV Sem (Option Nat):=do
 let mut lastofs:=0
 let mut ofs:=1
 for _ in [0:n] do
  if ofs ≥ n - c then break
  let some more <- byd left e arr base (c+ofs) | return none
  if !more then break
  lastofs:=ofs
  ofs:=2 * ofs+1
 gl3 left e arr base n (c+lastofs+1) (c+min ofs (n - c))
def gl2 (left:Bool) (f:zK) (arr:Array zK) (base n c:Nat):StateT zV Sem (Option Nat):=do
 let mut lastofs:=0
 let mut ofs:=1
 for _ in [0:n] do
  if ofs ≥ c+1 then break
  let some e <- byd left f arr base (c - ofs) | return none
  if e then break
  lastofs:=ofs
  ofs:=2 * ofs+1
 gl3 left f arr base n (c+1 - min ofs (c+1)) (c - lastofs)
theorem DV (left:Bool) (e:zK) (arr:Array zK) (base n c:Nat):Jd left e arr base n c=(do
  match <- byd left e arr base c with
  | some r=>if r=true then gl1 left e arr base n c else gl2 left e arr base n c
  | _=>pure none):=by
 show (sortPriv% PySem.Builtin.gallop) left e arr base n c=_;unfold gl1 gl2 gl3;rfl
def By (κ:KeyKind) (left:Bool) (c:zK) (arr:Array zK) (i:Nat):Bool:=if left then κ.blt (KK κ arr i) (kyo κ c) else !κ.blt (kyo κ c) (KK κ arr i)
theorem q8 {arr:Array zK}{i:Nat}{p:zK} (e:arr[i]? = some p):KK κ arr i=kyo κ p:=by unfold KK;rw[e];rfl
theorem vq {st:zV}{left:Bool}{c:zK}{arr:Array zK}{base i:Nat}{Q:Option Bool->zV->Prop} (f:κ.OneLt) (kd:kindOf st=qj) (ha:∀ p,p∈arr.toList->ya κ p) (g:ya κ c) (hi:base+i < arr.size)
  (h:Q (some (By κ left c arr (base+i))) st):wpS (zN prog w) A E s (byd left c arr base i) Q st:=by
 unfold byd;have e:arr[base+i]? = some arr[base+i]:=getElem?_pos arr (base+i) hi;have j:ya κ arr[base+i]:=ha _ (by simp);refine zZ (q9 e ?_);unfold By at h;rw[q8 e] at h;cases left with
 | true=>simp only[if_true] at h ⊢;exact YA f kd j g h
 | false=>simp only[j9,if_false] at h ⊢;exact zZ (YA f kd g j (wpS_pure h))
def GK (κ:KeyKind) (left:Bool) (c:zK) (arr:Array zK) (base n k:Nat):Prop:=k <= n/\(∀ i,i < k->By κ left c arr (base+i)=true)/\(∀ i,k <= i->i < n->By κ left c arr (base+i)=false)
theorem By.down {arr:Array zK} (so:Ri κ arr base n) {i j:Nat} (c:i <= j) (f:j < n) (h:By κ left e arr (base+j)=true):By κ left e arr (base+i)=true:=by
 unfold By at *;cases left with
 | true=>simp only[if_true] at h ⊢;exact KeyOrd.klt_of_kle_of_klt (so i j c f) h
 | false =>
  simp only[j9,if_false,Xy] at h ⊢;exact yX (so i j c f) h
theorem By.up {arr:Array zK} (so:Ri κ arr base n) {i j:Nat} (f:i <= j) (g:j < n) (h:By κ left c arr (base+i)=false):By κ left c arr (base+j)=false:=by
 cases e:By κ left c arr (base+j) with
 | false=>rfl
 | true=>rw[By.down so f g e] at h;cases h
theorem Cp {st:zV}{left:Bool}{e:zK}{arr:Array zK}{base n lo hi:Nat}{Q:Option Nat->zV->Prop} (y:κ.OneLt) (kd:kindOf st=qj) (ha:∀ p,p∈arr.toList->ya κ p) (z:ya κ e) (L:base+n <= arr.size) (so:Ri κ arr base n)
  (v:lo <= hi) (B:hi <= n) (C:∀ i,i < lo->By κ left e arr (base+i)=true) (G:∀ i,hi <= i->i < n->By κ left e arr (base+i)=false) (h:∀ k,GK κ left e arr base n k->Q (some k) st):wpS (zN prog w) A E s (gl3 left e arr base n lo hi) Q st:=by
 unfold gl3;refine zZ (yf (yu (I:=λx c u=>u=st/\∃ r l,c=(none,l,r)/\l <= r/\r <= n/\r - l <= n - x/\(∀ i,i < l->By κ left e arr (base+i)=true)/\(∀ i,r <= i->i < n->By κ left e arr (base+i)=false))
  (Q:=λc u=>u=st/\∃ r l,c=(none,l,r)/\GK κ left e arr base n r) (λx c u _ M ⟨f,r,l,j,H,o,J,q,t⟩=>?step) (λc u ⟨f,r,l,j,H,o,J,q,t⟩=>?fin) ⟨rfl,hi,lo,rfl,v,B,by lia,C,G⟩) λc u ⟨f,r,l,j,g⟩=>?post)
 case step =>
  subst f j;dsimp only;by_cases m:l ≥ r
  ·rw[if_pos m];obtain rfl:l=r:=by lia
   exact wpS_pure ⟨rfl,l,l,rfl,o,q,t⟩
  rw[if_neg m];refine zZ (vq y kd ha z (by lia) ?_);cases hm:By κ left e arr (base+(l+(r - l) / 2)) with
  | true =>
   simp only[if_true];exact wpS_pure ⟨rfl,r,l+(r - l) / 2+1,rfl,by lia,o,by lia,λi hi=>By.down so (by lia) (by lia) hm,t⟩
  | false =>
   simp only[j9,if_false];exact wpS_pure ⟨rfl,l+(r - l) / 2,l,rfl,by lia,by lia,by lia,q,λi b c=>By.up so b c hm⟩
 case fin =>
  obtain rfl:l=r:=by lia
  exact⟨f,l,l,j,o,q,t⟩
 case post =>
  subst f j;exact wpS_pure (h r g)
theorem fL {st:zV}{left:Bool}{f:zK}{arr:Array zK}{base n e:Nat}{Q:Option Nat->zV->Prop} (y:κ.OneLt) (kd:kindOf st=qj) (ha:∀ p,p∈arr.toList->ya κ p) (z:ya κ f) (C:base+n <= arr.size) (so:Ri κ arr base n)
  (H:e < n) (G:By κ left f arr (base+e)=true) (h:∀ k,GK κ left f arr base n k->Q (some k) st):wpS (zN prog w) A E s (gl1 left f arr base n e) Q st:=by
 unfold gl1;refine zZ (yf (yu (I:=λx c u=>u=st/\∃ l o,c=(none,l,o)/\l < o/\x+1 <= o/\e+l < n/\By κ left f arr (base+(e+l))=true)
  (Q:=λc u=>u=st/\∃ l o,c=(none,l,o)/\l < o/\e+l < n/\By κ left f arr (base+(e+l))=true/\(n - e <= o\/By κ left f arr (base+(e+o))=false)) (λx c u _ J ⟨r,l,o,t,v,B,q,g⟩=>?step) (λc u ⟨r,l,o,t,v,B,q,g⟩=>⟨r,l,o,t,v,q,g,.inl (by lia)⟩)
   ⟨rfl,0,1,rfl,by lia,by lia,by lia,G⟩) λc u ⟨r,l,o,t,v,B,q,g⟩=>?post)
 case step =>
  subst r t;dsimp only;by_cases m:o ≥ n - e
  ·rw[if_pos m];exact wpS_pure ⟨rfl,l,o,rfl,v,q,g,.inl m⟩
  rw[if_neg m];refine zZ (vq y kd ha z (by lia) ?_);cases hm:By κ left f arr (base+(e+o)) with
  | true =>
   simp only[ZW,j9,if_false];exact wpS_pure ⟨rfl,o,2 * o+1,rfl,by lia,by lia,by lia,hm⟩
  | false =>
   simp only[Gr,if_true];exact wpS_pure ⟨rfl,l,o,rfl,v,q,g,.inr hm⟩
 case post =>
  subst r t;dsimp only;refine Cp y kd ha z C so (by lia) (by lia) (λi hi=>By.down so (j:=e+l) (by lia) (by lia) q) (λi b c=>?_) h;rcases g with g | g
  ·lia
  ·by_cases m:o ≥ n - e
   ·lia
   ·exact By.up so (by lia) c g
theorem GD {st:zV}{left:Bool}{f:zK}{arr:Array zK}{base n e:Nat}{Q:Option Nat->zV->Prop} (y:κ.OneLt) (kd:kindOf st=qj) (ha:∀ p,p∈arr.toList->ya κ p) (z:ya κ f) (C:base+n <= arr.size) (so:Ri κ arr base n)
  (H:e < n) (G:By κ left f arr (base+e)=false) (h:∀ k,GK κ left f arr base n k->Q (some k) st):wpS (zN prog w) A E s (gl2 left f arr base n e) Q st:=by
 unfold gl2;refine zZ (yf (yu (I:=λx c u=>u=st/\∃ l o,c=(none,l,o)/\l < o/\x+1 <= o/\l <= e/\By κ left f arr (base+(e - l))=false)
  (Q:=λc u=>u=st/\∃ l o,c=(none,l,o)/\l < o/\l <= e/\By κ left f arr (base+(e - l))=false/\(e+1 <= o\/By κ left f arr (base+(e - o))=true)) (λx c u _ J ⟨r,l,o,t,v,B,q,g⟩=>?step) (λc u ⟨r,l,o,t,v,B,q,g⟩=>⟨r,l,o,t,v,q,g,.inl (by lia)⟩)
   ⟨rfl,0,1,rfl,by lia,by lia,by lia,G⟩) λc u ⟨r,l,o,t,v,B,q,g⟩=>?post)
 case step =>
  subst r t;dsimp only;by_cases m:o ≥ e+1
  ·rw[if_pos m];exact wpS_pure ⟨rfl,l,o,rfl,v,q,g,.inl m⟩
  rw[if_neg m];refine zZ (vq y kd ha z (by lia) ?_);cases hm:By κ left f arr (base+(e - o)) with
  | false =>
   simp only[j9,if_false];exact wpS_pure ⟨rfl,o,2 * o+1,rfl,by lia,by lia,by lia,hm⟩
  | true =>
   simp only[if_true];exact wpS_pure ⟨rfl,l,o,rfl,v,q,g,.inr hm⟩
 case post =>
  subst r t;dsimp only;refine Cp y kd ha z C so (by lia) (by lia) (λi hi=>?_) (λi b c=>By.up so (i:=e - l) (by lia) c q) h;rcases g with g | g
  ·lia
  ·by_cases m:o ≥ e+1
   ·lia
   ·exact By.down so (j:=e - o) (by lia) (by lia) g
theorem XH {st:zV}{left:Bool}{e:zK}{arr:Array zK}{base n c:Nat}{Q:Option Nat->zV->Prop} (f:κ.OneLt) (kd:kindOf st=qj) (ha:∀ p,p∈arr.toList->ya κ p) (g:ya κ e) (i:base+n <= arr.size) (so:Ri κ arr base n)
  (j:c < n) (h:∀ k,GK κ left e arr base n k->Q (some k) st):wpS (zN prog w) A E s (Jd left e arr base n c) Q st:=by
 rw[DV];refine zZ (vq f kd ha g (by lia) ?_);cases hm:By κ left e arr (base+c) with
 | true=>simp only[if_true];exact fL f kd ha g i so j hm h
 | false=>simp only[j9,if_false];exact GD f kd ha g i so j hm h
structure MI (R:zK->zK->Prop) (l ra rb out:List zK):Prop where
 pm:(out++ra++rb).Perm l
 so:out.Pairwise R
 oa:∀ x,x∈out->∀ y,y∈ra->R x y
 ob:∀ x,x∈out->∀ y,y∈rb->R x y
 sa:ra.Pairwise R
 sb:rb.Pairwise R
theorem MI.swap {R:zK->zK->Prop}{out:List zK} (h:MI R l c e out):MI R l e c out :=
 ⟨List.Perm.trans (l₂:=out++c++e) (by rw[qy,qy];exact List.perm_append_comm.append_left out) h.pm,h.so,h.ob,h.oa,h.sb,h.sa⟩
theorem MI.run {R:zK->zK->Prop}{xs g out:List zK} (h:MI R l (xs++g) i out) (c:∀ x,x∈xs->∀ y,y∈i->R x y):MI R l g i (out++xs):=by
 obtain⟨pm,so,oa,ob,sa,sb⟩:=h;rw[List.pairwise_append] at sa;refine⟨by simpa [qy] using pm,List.pairwise_append.mpr ⟨so,sa.1,λx e y f=>oa x e y (uP _ f)⟩,λx e y f=>?_,λx e y f=>?_,sa.2.1,sb⟩
 ·rcases List.mem_append.mp e with e | e
  ·exact oa x e y (Zp _ f)
  ·exact sa.2.2 x e y f
 ·rcases List.mem_append.mp e with e | e
  ·exact ob x e y f
  ·exact c x e y f
theorem MI.fin {R:zK->zK->Prop}{out:List zK} (h:MI R l f g out) (c:∀ x,x∈f->∀ y,y∈g->R x y):(out++f++g).Pairwise R:=by
 obtain⟨pm,so,oa,ob,sa,sb⟩:=h;refine List.pairwise_append.mpr ⟨List.pairwise_append.mpr ⟨so,sa,oa⟩,sb,λx e y i=>?_⟩;rcases List.mem_append.mp e with e | e
 ·exact ob x e y i
 ·exact c x e y i
theorem JT {a:Array zK}{i:Nat}{y:zK} (h:y∈a.toList.drop i):∃ j,i <= j/\j < a.size/\a[j]? = some y:=by
 obtain⟨j,c,e⟩:=List.mem_iff_getElem.mp h;rw[List.getElem_drop] at e;rw[Qa] at c;have:i+j < a.size:=by rw[<- jy];lia
 exact⟨i+j,by lia,this,by rw[getElem?_pos a (i+j) this,<- e];simp⟩
theorem dX {a:Array zK}{i:Nat}{p:zK} (e:a[i]? = some p):a.toList.drop i=p::a.toList.drop (i+1):=by
 obtain⟨hi,e⟩:=Array.getElem?_eq_some_iff.mp e;rw[kQ (by rw[jy];exact hi),Vl,e]
theorem YF {a:Array zK}{i k:Nat}:a.toList.drop i=(a.extract i (i+k)).toList++a.toList.drop (i+k):=by
 rw[Yr,XM,<- List.drop_drop,Cj,ae]
theorem Kb {a:Array zK}{i k:Nat}{y:zK} (h:y∈(a.extract i k).toList):∃ j,i <= j/\j < k/\j < a.size/\a[j]? = some y:=by
 obtain⟨j,c,e⟩:=List.mem_iff_getElem.mp h;rw[Vl,mK] at e;rw[jy,XB] at c;have:i+j < a.size:=by lia
 exact⟨i+j,by lia,by lia,this,by rw[getElem?_pos a (i+j) this,e]⟩
theorem bN {a:Array zK}{n:Nat}{p:zK} (e:a[n]? = some p):(a.toList.take (n+1)).reverse=p::(a.toList.take n).reverse:=by
 obtain⟨hi,e⟩:=Array.getElem?_eq_some_iff.mp e;rw[L0 (by rw[jy];exact hi),iw,Vl,e];rfl
theorem Wu {a:Array zK}{m n:Nat} (h:m <= n):(a.toList.take n).reverse=(a.extract m n).reverse.toList++(a.toList.take m).reverse:=by
 rw[Vg,<- iw,Yr,XM]
 congr 1
 obtain⟨d,rfl⟩:∃ d,n=m+d:=⟨n - m,by lia⟩
 rw[Cj,List.take_add]
theorem Ji {a:Array zK}{n:Nat}{y:zK} (h:y∈(a.toList.take n).reverse):∃ j,j < n/\j < a.size/\a[j]? = some y:=by
 rw[bW] at h;obtain⟨j,c,e⟩:=List.mem_iff_getElem.mp h;rw[List.getElem_take] at e;rw[yz,jy] at c;exact⟨j,by lia,by lia,by rw[getElem?_pos a j (by lia),<- e];simp⟩
structure jl (st st':zV):Prop where
 kd:kindOf st'=kindOf st
 ar:zM st'=zM st
 pd:jW st'=jW st
 fl:Q4 st'=Q4 st
theorem jl.refl (st:zV):jl st st:=⟨rfl,rfl,rfl,rfl⟩
noncomputable def K3:Nat->StateT zV Sem Unit:=sortPriv% PySem.Builtin.setMinGallop
theorem YO {c st:zV}{n:Nat}{Q:Unit->zV->Prop} (g:jl c st) (h:∀ e,jl c e->Q () e):wpS (zN prog w) A E s (K3 n) Q st:=by
 show wpS _ _ _ _ (modify λz:zV=>Cv (kindOf z) (zM z) (jW z) n (Q4 z)) _ _;exact Jo (h _ ⟨g.kd,g.ar,g.pd,g.fl⟩)
noncomputable def Y6:Array zK->Array zK->StateT zV Sem (Array zK):=sortPriv% PySem.Builtin.mergeLo
noncomputable def uy:Array zK->Array zK->StateT zV Sem (Array zK):=sortPriv% PySem.Builtin.mergeHi
noncomputable def dnL (x y out:Array zK) (i j:Nat):=out++x.extract i x.size++y.extract j y.size
noncomputable def lsL (x y out:Array zK) (i j:Nat):=out++y.extract j y.size++x.extract i x.size
noncomputable def dnH (x y out:Array zK) (i j:Nat):=x.extract 0 i++y.extract 0 j++out.reverse
noncomputable def fsH (x y out:Array zK) (i j:Nat):=y.extract 0 j++x.extract 0 i++out.reverse
abbrev C7:=Option (Array zK)×Array zK×Nat×Nat×Nat×Nat×Nat
abbrev C6:=Option (Array zK)×Array zK×Nat×Nat×Nat×Nat
def loD (x y out:Array zK) (i j mg c e:Nat):StateT zV Sem (ForInStep C7):=do
 let p <- yF x i
 if (i+1+1 == x.size)=true then pure (.done (some (lsL x y (out.push p) (i+1) j),out.push p,i+1,j,mg,c,e))
 else if (decide (c < 7) && decide (e < 7))=true then pure (.done (none,out.push p,i+1,j,mg,c,e))
 else pure (.yield (none,out.push p,i+1,j,mg,c,e))
def loC (x y out:Array zK) (i j mg c e:Nat):StateT zV Sem (ForInStep C7):=do
 let p <- yF x i
 match <- Jd true p y j (y.size - j) 0 with
 | some k =>
  if k > 0 then
   if (j+k == y.size)=true then pure (.done (some (dnL x y (out++y.extract j (j+k)) i (j+k)),out++y.extract j (j+k),i,j+k,mg,c,k))
   else loD x y (out++y.extract j (j+k)) i (j+k) mg c k
  else loD x y out i j mg c k
 | _=>pure (.done (some (dnL x y out i j),out,i,j,mg,c,e))
def loB (x y out:Array zK) (i j mg c e:Nat):StateT zV Sem (ForInStep C7):=do
 let p <- yF y j
 if (j+1 == y.size)=true then pure (.done (some (dnL x y (out.push p) i (j+1)),out.push p,i,j+1,mg,c,e))
 else loC x y (out.push p) i (j+1) mg c e
def loA (x y out:Array zK) (i j mg e c:Nat):StateT zV Sem (ForInStep C7):=do
 K3 mg
 let p <- yF y j
 match <- Jd false p x i (x.size - i) 0 with
 | some k =>
  if k > 0 then
   if (i+k+1 == x.size)=true then pure (.done (some (lsL x y (out++x.extract i (i+k)) (i+k) j),out++x.extract i (i+k),i+k,j,mg,k,c))
   else if (i+k == x.size)=true then pure (.done (some (dnL x y (out++x.extract i (i+k)) (i+k) j),out++x.extract i (i+k),i+k,j,mg,k,c))
   else loB x y (out++x.extract i (i+k)) (i+k) j mg k c
  else loB x y out i j mg k c
 | _=>pure (.done (some (dnL x y out i j),out,i,j,mg,e,c))
def lo1 (x y:Array zK) (mg:Nat) (c:C6):StateT zV Sem (ForInStep C6):=do
 let p <- yF y c.2.2.2.1
 let q <- yF x c.2.2.1
 match <- lt' p q with
 | some r =>
  if r=true then do
   let p <- yF y c.2.2.2.1
   if (c.2.2.2.1+1 == y.size)=true then pure (.done (some (dnL x y (c.2.1.push p) c.2.2.1 (c.2.2.2.1+1)),c.2.1.push p,c.2.2.1,c.2.2.2.1+1,0,c.2.2.2.2.2+1))
   else if c.2.2.2.2.2+1 ≥ mg then pure (.done (none,c.2.1.push p,c.2.2.1,c.2.2.2.1+1,0,c.2.2.2.2.2+1))
   else pure (.yield (none,c.2.1.push p,c.2.2.1,c.2.2.2.1+1,0,c.2.2.2.2.2+1))
  else do
   let q <- yF x c.2.2.1
   if (c.2.2.1+1+1 == x.size)=true then pure (.done (some (lsL x y (c.2.1.push q) (c.2.2.1+1) c.2.2.2.1),c.2.1.push q,c.2.2.1+1,c.2.2.2.1,c.2.2.2.2.1+1,0))
   else if c.2.2.2.2.1+1 ≥ mg then pure (.done (none,c.2.1.push q,c.2.2.1+1,c.2.2.2.1,c.2.2.2.2.1+1,0))
   else pure (.yield (none,c.2.1.push q,c.2.2.1+1,c.2.2.2.1,c.2.2.2.2.1+1,0))
 | _=>pure (.done (some (dnL x y c.2.1 c.2.2.1 c.2.2.2.1),c.2.1,c.2.2.1,c.2.2.2.1,c.2.2.2.2.1,c.2.2.2.2.2))
abbrev C5:=Option (Array zK)×Array zK×Nat×Nat×Nat
def loO (x y:Array zK) (c:C5):StateT zV Sem (ForInStep C5):=do
 let d <- forIn [0:x.size+y.size] ((none,c.2.1,c.2.2.1,c.2.2.2.1,0,0):C6) λ_ d=>lo1 x y c.2.2.2.2 d
 match d.1 with
 | some r=>pure (.done (some r,d.2.1,d.2.2.1,d.2.2.2.1,c.2.2.2.2))
 | none=>do
  liftM (Zy "list.sort.gallop")
  let e <- forIn [0:x.size+y.size] ((none,d.2.1,d.2.2.1,d.2.2.2.1,c.2.2.2.2+1,d.2.2.2.2.1,d.2.2.2.2.2):C7) λ_ e =>
   if e.2.2.2.2.1 > 1 then loA x y e.2.1 e.2.2.1 e.2.2.2.1 (e.2.2.2.2.1 - 1) e.2.2.2.2.2.1 e.2.2.2.2.2.2 else loA x y e.2.1 e.2.2.1 e.2.2.2.1 e.2.2.2.2.1 e.2.2.2.2.2.1 e.2.2.2.2.2.2
  match e.1 with
  | some r=>pure (.done (some r,e.2.1,e.2.2.1,e.2.2.2.1,e.2.2.2.2.1))
  | none=>do
   K3 (e.2.2.2.2.1+1)
   pure (.yield (none,e.2.1,e.2.2.1,e.2.2.2.1,e.2.2.2.2.1+1))
theorem G3 (x y:Array zK):Y6 x y=(do
 liftM (Zy "list.sort.merge-lo")
 let p <- yF y 0
 if (1 == y.size)=true then pure (dnL x y #[p] 0 1)
 else if (0+1 == x.size)=true then pure (lsL x y #[p] 0 1)
 else do
  let z <- get
  let c <- forIn [0:x.size+y.size] ((none,#[p],0,1,gallopOf z):C5) λ_ c=>loO x y c
  match c.1 with
  | some r=>pure r
  | none=>liftM (unsupported "internal:list.sort.merge-bound" : Sem (Array zK))):=by
 show (sortPriv% PySem.Builtin.mergeLo) x y=_;refine congrArg (bind _) (funext λ_=>congrArg (bind _) (funext λp=>ite_congr rfl (λ_=>rfl) λ_=>ite_congr rfl (λ_=>rfl) λ_=>congrArg (bind _) (funext λz=>?_)));refine congr (congrArg bind (congrArg _ (funext λ_=>funext λc=>congrArg (bind _) (funext λd=>?_)))) (funext λc=>?_)
 ·obtain⟨f,d⟩:=d;cases f with
  | some r=>rfl
  | none=>exact congrArg (bind _) (funext λ_=>congrArg (bind _) (funext λe=>by obtain⟨g,e⟩:=e;cases g<;>rfl))
 ·obtain⟨h,c⟩:=c;cases h<;>rfl
def kl (κ:KeyKind) (p q:zK):Prop:=κ.kle (kyo κ p) (kyo κ q)
structure MG (κ:KeyKind) (x y:Array zK):Prop where
 kx:∀ p,p∈x.toList->ya κ p
 ky:∀ p,p∈y.toList->ya κ p
 rx:Ri κ x 0 x.size
 ry:Ri κ y 0 y.size
 nx:1 <= x.size
 ny:1 <= y.size
 fst:∀ p q,y[0]? = some p->x[0]? = some q->kl κ p q
 lst:∀ p q,y[y.size - 1]? = some p->x[x.size - 1]? = some q->kl κ p q
def Rs (κ:KeyKind) (x y r:Array zK):Prop:=r.toList.Perm (x.toList++y.toList)/\r.toList.Pairwise (kl κ)
theorem Ri.at (r:Ri κ x 0 x.size) {i j:Nat}{p q:zK} (c:i <= j) (e:x[i]? = some p) (hq:x[j]? = some q):kl κ p q:=by
 have f:j < x.size:=(Array.getElem?_eq_some_iff.mp hq).1;have:=r i j c f
 rwa [yU,yU,q8 e,q8 hq] at this
theorem Ri.tail (r:Ri κ x 0 x.size) (i n:Nat) (h:i+n <= x.size):Ri κ x i n:=λa b c d=>by
 have:=r (i+a) (i+b) (by lia) (by lia)
 rwa [yU,yU] at this
theorem Ri.pair (r:Ri κ x 0 x.size):x.toList.Pairwise (kl κ):=by
 rw[List.pairwise_iff_getElem];intro i j hi e c;rw[jy] at hi e;exact r.at (UJ c) (by rw[getElem?_pos x i hi];simp) (by rw[getElem?_pos x j e];simp)
theorem Qn {x:Array zK} (h:∀ p,p∈x.toList->ya κ p) {i:Nat}{p:zK} (e:x[i]? = some p):ya κ p:=by
 obtain⟨hi,rfl⟩:=Array.getElem?_eq_some_iff.mp e;exact h _ (by simp)
theorem yC (x:Array zK) {i:Nat} (h:i < x.size):∃ p,x[i]? = some p:=⟨_,getElem?_pos x i h⟩
def ML (κ:KeyKind) (x y:Array zK) (i j:Nat) (out:Array zK):Prop:=MI (kl κ) (x.toList++y.toList) (x.toList.drop i) (y.toList.drop j) out.toList
section
variable {x y out:Array zK}{i j:Nat}{p:zK}
theorem ML.a (h:ML κ x y i j out) (e:x[i]? = some p) (c:∀ m q,j <= m->y[m]? = some q->kl κ p q):ML κ x y (i+1) j (out.push p):=by
 unfold ML at *;rw[dX e] at h;have:=MI.run (xs:=[p]) h λz f q hq=>by
  obtain⟨m,a,_,b⟩:=JT hq;rw[List.mem_singleton.mp f];exact c m q a b
 rwa [YI]
theorem ML.b (h:ML κ x y i j out) (e:y[j]? = some p) (c:∀ m q,i <= m->x[m]? = some q->kl κ p q):ML κ x y i (j+1) (out.push p):=by
 unfold ML at *;rw[dX e] at h;have:=MI.run (xs:=[p]) h.swap λz f q hq=>by
  obtain⟨m,a,_,b⟩:=JT hq;rw[List.mem_singleton.mp f];exact c m q a b
 rw[YI];exact this.swap
theorem ML.as {k:Nat} (h:ML κ x y i j out) (c:∀ m q,i <= m->m < i+k->x[m]? = some q->∀ e f,j <= e->y[e]? = some f->kl κ q f):ML κ x y (i+k) j (out++x.extract i (i+k)):=by
 unfold ML at *;rw[YF (k:=k)] at h;have:=MI.run h λz g q hq=>by
  obtain⟨m,a,_,b⟩:=JT hq;obtain⟨e,l,n,_,o⟩:=Kb g;exact c e z l n o m q a b
 rwa [QJ]
theorem ML.bs {k:Nat} (h:ML κ x y i j out) (c:∀ m q,j <= m->m < j+k->y[m]? = some q->∀ e f,i <= e->x[e]? = some f->kl κ q f):ML κ x y i (j+k) (out++y.extract j (j+k)):=by
 unfold ML at *;have h:=h.swap;rw[YF (k:=k)] at h;have:=MI.run h λz g q hq=>by
  obtain⟨m,a,_,b⟩:=JT hq;obtain⟨e,l,n,_,o⟩:=Kb g;exact c e z l n o m q a b
 rw[QJ];exact this.swap
theorem VU (z:Array zK) (i:Nat):(z.extract i z.size).toList=z.toList.drop i:=by
 rw[Yr,XM,kq (by rw[Qa,jy];lia)]
theorem ML.dn (h:ML κ x y i j out) (c:i=x.size\/j=y.size):Rs κ x y (dnL x y out i j):=by
 unfold Rs dnL;rw[QJ,QJ,VU,VU];refine⟨h.pm,h.fin λa ha b e=>?_⟩;obtain⟨m,f,g,l⟩:=JT ha;obtain⟨n,o,q,r⟩:=JT e
 lia
theorem ML.ls (g:MG κ x y) (h:ML κ x y i j out) (c:i+1=x.size):Rs κ x y (lsL x y out i j):=by
 unfold Rs lsL;rw[QJ,QJ,VU,VU];refine⟨h.swap.pm,h.swap.fin λa ha b f=>?_⟩;obtain⟨m,r,t,n⟩:=JT ha;obtain⟨o,u,v,q⟩:=JT f;obtain rfl:o=x.size - 1:=by lia
 obtain⟨l,e⟩:=yC y (i:=y.size - 1) (by lia);exact yX (g.ry.at (show m <= y.size - 1 by lia) n e) (g.lst l b e q)
end
def Lo7 (κ:KeyKind) (e:zV) (x y:Array zK) (b:Nat) (c:C7) (u:zV):Prop :=
 jl e u/\match c.1 with
  | some r=>Rs κ x y r
  | none=>ML κ x y c.2.2.1 c.2.2.2.1 c.2.1/\c.2.2.1+1 < x.size/\c.2.2.2.1 < y.size/\b <= c.2.2.1+c.2.2.2.1
def St7 (κ:KeyKind) (e:zV) (x y:Array zK) (b:Nat) (r:ForInStep C7) (u:zV):Prop :=
 match r with
 | .done c=>Lo7 κ e x y b c u
 | .yield c=>c.1=none/\Lo7 κ e x y b c u
section
variable {jB st:zV}{x y out:Array zK}{i j mg ac bc b:Nat}
theorem aE (g:MG κ x y) (f:jl jB st) (h:ML κ x y i j out) (hi:i+1 < x.size) (o:j < y.size) (r:b <= i+j) (c:∀ p,x[i]? = some p->∀ m q,j <= m->y[m]? = some q->kl κ p q) :
  wpS (zN prog w) A E s (loD x y out i j mg ac bc) (St7 κ jB x y b) st:=by
 unfold loD;obtain⟨p,e⟩:=yC x (show i < x.size by lia);have l:=h.a e (c p e);refine zZ (q9 e ?_);by_cases n:i+1+1=x.size
 ·rw[if_pos (by simpa using n)];exact wpS_pure ⟨f,l.ls g n⟩
 rw[if_neg (by simpa using n)];split
 ·exact wpS_pure ⟨f,l,by show i+1+1 < _;lia,o,by show b <= i+1+j;lia⟩
 ·exact wpS_pure ⟨rfl,f,l,by show i+1+1 < _;lia,o,by show b <= i+1+j;lia⟩
theorem DD (z:κ.OneLt) (kd:kindOf st=qj) (g:MG κ x y) (l:jl jB st) (h:ML κ x y i j out) (hi:i+1 < x.size) (B:j < y.size) (C:b <= i+j) :
  wpS (zN prog w) A E s (loC x y out i j mg ac bc) (St7 κ jB x y b) st:=by
 unfold loC;obtain⟨p,e⟩:=yC x (show i < x.size by lia);refine zZ (q9 e (zZ (XH z kd g.ky (Qn g.kx e) (by lia) (g.ry.tail j _ (by lia)) (by lia) λk ⟨N,G,H⟩=>?_)));have I:∀ m q,j <= m->m < j+k->y[m]? = some q->∀ n o,i <= n->x[n]? = some o->kl κ q o:=λm q a b c n o J L=>by
  have:=G (m - j) (by lia);unfold By at this;rw[if_pos rfl,show j+(m - j)=m by lia,q8 c] at this;exact yX (QE this) (g.rx.at J e L)
 have t:∀ m q,j+k <= m->y[m]? = some q->kl κ p q:=λm q a b=>by
  have hm:m < y.size:=(Array.getElem?_eq_some_iff.mp b).1;have:=H (m - j) (by lia) (by lia);unfold By at this;rw[if_pos rfl,show j+(m - j)=m by lia,q8 b] at this;exact this
 dsimp only;by_cases u:k > 0
 ·rw[if_pos u];have v:=h.bs I;by_cases r:j+k=y.size
  ·rw[if_pos (by simpa using r)];exact wpS_pure ⟨l,v.dn (.inr r)⟩
  rw[if_neg (by simpa using r)];exact aE g l v hi (by lia) (by lia) λM f m q a b=>by rw[e] at f;cases f;exact t m q a b
 ·rw[if_neg u];obtain rfl:k=0:=by lia
  exact aE g l h hi B C λM f m q a b=>by rw[e] at f;cases f;exact t m q (by lia) b
theorem dF (o:κ.OneLt) (kd:kindOf st=qj) (g:MG κ x y) (l:jl jB st) (h:ML κ x y i j out) (hi:i+1 < x.size) (r:j < y.size) (t:b <= i+j) (c:∀ p,y[j]? = some p->∀ m q,i <= m->x[m]? = some q->kl κ p q) :
  wpS (zN prog w) A E s (loB x y out i j mg ac bc) (St7 κ jB x y b) st:=by
 unfold loB;obtain⟨p,e⟩:=yC y r;have n:=h.b e (c p e);refine zZ (q9 e ?_);by_cases f:j+1=y.size
 ·rw[if_pos (by simpa using f)];exact wpS_pure ⟨l,n.dn (.inr f)⟩
 rw[if_neg (by simpa using f)];exact DD o kd g l n hi (by lia) (by lia)
theorem ml (n:κ.OneLt) (kd:kindOf jB=qj) (g:MG κ x y) (f:jl jB st) (h:ML κ x y i j out) (hi:i+1 < x.size) (o:j < y.size) (H:b <= i+j) :
  wpS (zN prog w) A E s (loA x y out i j mg ac bc) (St7 κ jB x y b) st:=by
 unfold loA;obtain⟨p,e⟩:=yC y o;refine zZ (YO f λu f=>?_);have kd:kindOf u=qj:=f.kd.trans kd;refine zZ (q9 e (zZ (XH n kd g.kx (Qn g.ky e) (by lia) (g.rx.tail i _ (by lia)) (by lia) λk ⟨U,I,J⟩=>?_)));have L:∀ m q,i <= m->m < i+k->x[m]? = some q->∀ r t,j <= r->y[r]? = some t->kl κ q t:=λm q a b c r t M N=>by
  have:=I (m - i) (by lia);unfold By at this;rw[if_neg (by decide),show i+(m - i)=m by lia,q8 c,Xy] at this;exact yX (show κ.kle (kyo κ q) (kyo κ p) from this) (g.ry.at M e N)
 have C:∀ m q,i+k <= m->x[m]? = some q->kl κ p q:=λm q a b=>by
  have hm:m < x.size:=(Array.getElem?_eq_some_iff.mp b).1;have:=J (m - i) (by lia) (by lia);unfold By at this;rw[if_neg (by decide),show i+(m - i)=m by lia,q8 b,bX] at this;exact QE this
 dsimp only;by_cases G:k > 0
 ·rw[if_pos G];have v:=h.as L;by_cases z:i+k+1=x.size
  ·rw[if_pos (by simpa using z)];exact wpS_pure ⟨f,v.ls g z⟩
  rw[if_neg (by simpa using z)];by_cases B:i+k=x.size
  ·rw[if_pos (by simpa using B)];exact wpS_pure ⟨f,v.dn (.inl B)⟩
  rw[if_neg (by simpa using B)];exact dF n kd g f v (by lia) o (by lia) λQ l m q a b=>by rw[e] at l;cases l;exact C m q a b
 ·rw[if_neg G];obtain rfl:k=0:=by lia
  exact dF n kd g f h hi o H λQ l m q a b=>by rw[e] at l;cases l;exact C m q (by lia) b
def Lo6 (κ:KeyKind) (jB:zV) (x y:Array zK) (b:Nat) (c:C6) (u:zV):Prop :=
 jl jB u/\match c.1 with
  | some r=>Rs κ x y r
  | none=>ML κ x y c.2.2.1 c.2.2.2.1 c.2.1/\c.2.2.1+1 < x.size/\c.2.2.2.1 < y.size/\b <= c.2.2.1+c.2.2.2.1
def St6 (κ:KeyKind) (jB:zV) (x y:Array zK) (b:Nat) (r:ForInStep C6) (u:zV):Prop :=
 match r with
 | .done c=>Lo6 κ jB x y b c u
 | .yield c=>c.1=none/\Lo6 κ jB x y b c u
theorem Hd {c:C6} (u:κ.OneLt) (kd:kindOf jB=qj) (g:MG κ x y) (f:jl jB st) (h:ML κ x y c.2.2.1 c.2.2.2.1 c.2.1) (hi:c.2.2.1+1 < x.size) (r:c.2.2.2.1 < y.size) (t:b <= c.2.2.1+c.2.2.2.1+1) :
  wpS (zN prog w) A E s (lo1 x y mg c) (St6 κ jB x y b) st:=by
 unfold lo1;obtain⟨p,e⟩:=yC y r;obtain⟨q,o⟩:=yC x (show c.2.2.1 < x.size by lia);have kd:kindOf st=qj:=f.kd.trans kd;refine zZ (q9 e (zZ (q9 o (zZ (YA u kd (Qn g.ky e) (Qn g.kx o) ?_)))));cases t:κ.blt (kyo κ p) (kyo κ q) with
 | true =>
  dsimp only;rw[if_pos rfl];have l:=h.b e λm z a b=>yX (QE t) (g.rx.at a o b);refine zZ (q9 e ?_);by_cases n:c.2.2.2.1+1=y.size
  ·rw[if_pos (by simpa using n)];exact wpS_pure ⟨f,l.dn (.inr n)⟩
  rw[if_neg (by simpa using n)];split
  ·exact wpS_pure ⟨f,l,hi,by show c.2.2.2.1+1 < _;lia,by show b <= c.2.2.1+(c.2.2.2.1+1);lia⟩
  ·exact wpS_pure ⟨rfl,f,l,hi,by show c.2.2.2.1+1 < _;lia,by show b <= c.2.2.1+(c.2.2.2.1+1);lia⟩
 | false =>
  dsimp only;rw[if_neg (by decide)];have l:=h.a o λm z a b=>yX t (g.ry.at a e b);refine zZ (q9 o ?_);by_cases n:c.2.2.1+1+1=x.size
  ·rw[if_pos (by simpa using n)];exact wpS_pure ⟨f,l.ls g n⟩
  rw[if_neg (by simpa using n)];split
  ·exact wpS_pure ⟨f,l,by show c.2.2.1+1+1 < _;lia,r,by show b <= c.2.2.1+1+c.2.2.2.1;lia⟩
  ·exact wpS_pure ⟨rfl,f,l,by show c.2.2.1+1+1 < _;lia,r,by show b <= c.2.2.1+1+c.2.2.2.1;lia⟩
def Lo5 (κ:KeyKind) (jB:zV) (x y:Array zK) (b:Nat) (c:C5) (u:zV):Prop :=
 jl jB u/\match c.1 with
  | some r=>Rs κ x y r
  | none=>ML κ x y c.2.2.1 c.2.2.2.1 c.2.1/\c.2.2.1+1 < x.size/\c.2.2.2.1 < y.size/\b <= c.2.2.1+c.2.2.2.1
theorem DK {c:C5}{R:ForInStep C5->zV->Prop} (q:κ.OneLt) (kd:kindOf jB=qj) (g:MG κ x y) (f:jl jB st) (h:ML κ x y c.2.2.1 c.2.2.2.1 c.2.1) (hi:c.2.2.1+1 < x.size) (t:c.2.2.2.1 < y.size) (v:b <= c.2.2.1+c.2.2.2.1)
  (hd:∀ r d u,jl jB u->Rs κ x y r->R (.done (some r,d)) u) (z:∀ d u,Lo5 κ jB x y (b+1) (none,d) u->R (.yield (none,d)) u) :
  wpS (zN prog w) A E s (loO x y c) R st:=by
 unfold loO;refine zZ (yf (yu (I:=λk d u=>d.1=none/\Lo6 κ jB x y (b+min k 1) d u) (Q:=Lo6 κ jB x y (b+1)) (λk d u _ B ⟨n,f,m⟩=>?step) (λd u ⟨n,o⟩=>?fin) ⟨rfl,f,h,hi,t,v⟩) λd u o=>?post)
 case step =>
  rw[n] at m;refine yf (Hd (b:=b+1) q kd g f m.1 m.2.1 m.2.2.1 (by have:=m.2.2.2;lia)) λr u h=>?_;rw[show min (k+1) 1=1 by lia];cases r<;>exact h
 case fin=>rwa [show min (max 0 (x.size+y.size)) 1=1 by have:=g.nx;lia] at o
 case post =>
  obtain⟨C,d⟩:=d;cases C with
  | some r=>exact wpS_pure (hd r _ u o.1 o.2)
  | none =>
   refine zZ (kv (xc ⟨rfl,?_⟩));refine zZ (yf (yu (I:=λk e u=>e.1=none/\Lo7 κ jB x y (b+1) e u) (Q:=Lo7 κ jB x y (b+1)) (λk e u _ B ⟨n,f,p⟩=>?step2) (λe u ⟨n,l⟩=>l) ⟨rfl,o⟩) λe u l=>?post2)
   case step2 =>
    rw[n] at p;split<;>exact yf (ml q kd g f p.1 p.2.1 p.2.2.1 p.2.2.2) λr u h=>by cases r<;>exact h
   case post2 =>
    obtain⟨G,e⟩:=e;cases G with
    | some r=>exact wpS_pure (hd r _ u l.1 l.2)
    | none=>exact zZ (YO l.1 λu f=>wpS_pure (z _ u ⟨f,l.2⟩))
theorem Lu {Q:Array zK->zV->Prop} (G:κ.OneLt) (kd:kindOf st=qj) (g:MG κ x y) (h:∀ r u,jl st u->Rs κ x y r->Q r u):wpS (zN prog w) A E s (Y6 x y) Q st:=by
 rw[G3];refine zZ (kv (xc ⟨rfl,?_⟩));obtain⟨p,e⟩:=yC y (show 0 < y.size from g.ny);have L:=g.nx;have M:=g.ny;refine zZ (q9 e ?_);have t:ML κ x y 0 1 #[p]:=by
  have H:ML κ x y 0 0 #[]:=⟨by simp,Uy,λ_ h=>by simp at h,λ_ h=>by simp at h,by rw[JU];exact g.rx.pair,by rw[JU];exact g.ry.pair⟩
  obtain⟨q,C⟩:=yC x (show 0 < x.size from g.nx);exact H.b e λm z a b=>yX (g.fst p q e C) (g.rx.at a C b)
 by_cases v:1=y.size
 ·rw[if_pos (by simpa using v)];exact wpS_pure (h _ _ (jl.refl _) (t.dn (.inr v)))
 rw[if_neg (by simpa using v)];by_cases f:0+1=x.size
 ·rw[if_pos (by simpa using f)];exact wpS_pure (h _ _ (jl.refl _) (t.ls g f))
 rw[if_neg (by simpa using f)];refine zZ (QX ?_);refine zZ (yf (yu (I:=λk c u=>c.1=none/\Lo5 κ st x y (k+1) c u) (Q:=λc u=>∃ r d,c=(some r,d)/\jl st u/\Rs κ x y r) (λk c u _ N ⟨n,o,f⟩=>?step) (λc u ⟨n,o,f⟩=>?fin) ⟨rfl,jl.refl _,t,by show 0+1 < _;lia,by show 1 < _;lia,by show 0+1 <= 0+1;lia⟩) λc u ⟨r,d,J,o,B⟩=>?post)
 case step =>
  rw[n] at f;exact DK (b:=k+1) G kd g o f.1 f.2.1 f.2.2.1 f.2.2.2 (λr d u o B=>⟨r,d,rfl,o,B⟩) λd u l=>⟨rfl,l⟩
 case fin=>rw[n] at f;have:=f.2;lia
 case post=>subst J;exact wpS_pure (h r u o B)
end
abbrev H7:=Option (Array zK)×Nat×Nat×Array zK×Nat×Nat×Nat
abbrev H6:=Option (Array zK)×Nat×Nat×Array zK×Nat×Nat
abbrev H5:=Option (Array zK)×Nat×Nat×Array zK×Nat
def hiD (x y out:Array zK) (i j mg c e:Nat):StateT zV Sem (ForInStep H7):=do
 let p <- yF x (i - 1)
 if (i - 1 == 0)=true then pure (.done (some (dnH x y (out.push p) (i - 1) j),i - 1,j,out.push p,mg,c,e))
 else if (decide (c < 7) && decide (e < 7))=true then pure (.done (none,i - 1,j,out.push p,mg,c,e))
 else pure (.yield (none,i - 1,j,out.push p,mg,c,e))
def hiC (x y out:Array zK) (i j mg c e:Nat):StateT zV Sem (ForInStep H7):=do
 let p <- yF x (i - 1)
 match <- Jd true p y 0 j (j - 1) with
 | some t =>
  if j - t > 0 then
   if (t == 1)=true then pure (.done (some (fsH x y (out++(y.extract t j).reverse) i t),i,t,out++(y.extract t j).reverse,mg,c,j - t))
   else if (t == 0)=true then pure (.done (some (dnH x y (out++(y.extract t j).reverse) i t),i,t,out++(y.extract t j).reverse,mg,c,j - t))
   else hiD x y (out++(y.extract t j).reverse) i t mg c (j - t)
  else hiD x y out i j mg c (j - t)
 | _=>pure (.done (some (dnH x y out i j),i,j,out,mg,c,e))
def hiB (x y out:Array zK) (i j mg c e:Nat):StateT zV Sem (ForInStep H7):=do
 let p <- yF y (j - 1)
 if (j - 1 == 1)=true then pure (.done (some (fsH x y (out.push p) i (j - 1)),i,j - 1,out.push p,mg,c,e))
 else hiC x y (out.push p) i (j - 1) mg c e
def hiA (x y out:Array zK) (i j mg e c:Nat):StateT zV Sem (ForInStep H7):=do
 K3 mg
 let p <- yF y (j - 1)
 match <- Jd false p x 0 i (i - 1) with
 | some t =>
  if i - t > 0 then
   if (t == 0)=true then pure (.done (some (dnH x y (out++(x.extract t i).reverse) t j),t,j,out++(x.extract t i).reverse,mg,i - t,c))
   else hiB x y (out++(x.extract t i).reverse) t j mg (i - t) c
  else hiB x y out i j mg (i - t) c
 | _=>pure (.done (some (dnH x y out i j),i,j,out,mg,e,c))
def hi1 (x y:Array zK) (mg:Nat) (c:H6):StateT zV Sem (ForInStep H6):=do
 let p <- yF y (c.2.2.1 - 1)
 let q <- yF x (c.2.1 - 1)
 match <- lt' p q with
 | some r =>
  if r=true then do
   let q <- yF x (c.2.1 - 1)
   if (c.2.1 - 1 == 0)=true then pure (.done (some (dnH x y (c.2.2.2.1.push q) (c.2.1 - 1) c.2.2.1),c.2.1 - 1,c.2.2.1,c.2.2.2.1.push q,c.2.2.2.2.1+1,0))
   else if c.2.2.2.2.1+1 ≥ mg then pure (.done (none,c.2.1 - 1,c.2.2.1,c.2.2.2.1.push q,c.2.2.2.2.1+1,0))
   else pure (.yield (none,c.2.1 - 1,c.2.2.1,c.2.2.2.1.push q,c.2.2.2.2.1+1,0))
  else do
   let p <- yF y (c.2.2.1 - 1)
   if (c.2.2.1 - 1 == 1)=true then pure (.done (some (fsH x y (c.2.2.2.1.push p) c.2.1 (c.2.2.1 - 1)),c.2.1,c.2.2.1 - 1,c.2.2.2.1.push p,0,c.2.2.2.2.2+1))
   else if c.2.2.2.2.2+1 ≥ mg then pure (.done (none,c.2.1,c.2.2.1 - 1,c.2.2.2.1.push p,0,c.2.2.2.2.2+1))
   else pure (.yield (none,c.2.1,c.2.2.1 - 1,c.2.2.2.1.push p,0,c.2.2.2.2.2+1))
 | _=>pure (.done (some (dnH x y c.2.2.2.1 c.2.1 c.2.2.1),c.2.1,c.2.2.1,c.2.2.2.1,c.2.2.2.2.1,c.2.2.2.2.2))
def hiO (x y:Array zK) (c:H5):StateT zV Sem (ForInStep H5):=do
 let d <- forIn [0:x.size+y.size] ((none,c.2.1,c.2.2.1,c.2.2.2.1,0,0):H6) λ_ d=>hi1 x y c.2.2.2.2 d
 match d.1 with
 | some r=>pure (.done (some r,d.2.1,d.2.2.1,d.2.2.2.1,c.2.2.2.2))
 | none=>do
  liftM (Zy "list.sort.gallop")
  let e <- forIn [0:x.size+y.size] ((none,d.2.1,d.2.2.1,d.2.2.2.1,c.2.2.2.2+1,d.2.2.2.2.1,d.2.2.2.2.2):H7) λ_ e =>
   if e.2.2.2.2.1 > 1 then hiA x y e.2.2.2.1 e.2.1 e.2.2.1 (e.2.2.2.2.1 - 1) e.2.2.2.2.2.1 e.2.2.2.2.2.2 else hiA x y e.2.2.2.1 e.2.1 e.2.2.1 e.2.2.2.2.1 e.2.2.2.2.2.1 e.2.2.2.2.2.2
  match e.1 with
  | some r=>pure (.done (some r,e.2.1,e.2.2.1,e.2.2.2.1,e.2.2.2.2.1))
  | none=>do
   K3 (e.2.2.2.2.1+1)
   pure (.yield (none,e.2.1,e.2.2.1,e.2.2.2.1,e.2.2.2.2.1+1))
theorem LG (x y:Array zK):uy x y=(do
 liftM (Zy "list.sort.merge-hi")
 let p <- yF x (x.size - 1)
 if (x.size - 1 == 0)=true then pure (dnH x y #[p] (x.size - 1) y.size)
 else if (y.size == 1)=true then pure (fsH x y #[p] (x.size - 1) y.size)
 else do
  let z <- get
  let c <- forIn [0:x.size+y.size] ((none,x.size - 1,y.size,#[p],gallopOf z):H5) λ_ c=>hiO x y c
  match c.1 with
  | some r=>pure r
  | none=>liftM (unsupported "internal:list.sort.merge-bound" : Sem (Array zK))):=by
 show (sortPriv% PySem.Builtin.mergeHi) x y=_;refine congrArg (bind _) (funext λ_=>congrArg (bind _) (funext λp=>ite_congr rfl (λ_=>rfl) λ_=>ite_congr rfl (λ_=>rfl) λ_=>congrArg (bind _) (funext λz=>?_)));refine congr (congrArg bind (congrArg _ (funext λ_=>funext λc=>congrArg (bind _) (funext λd=>?_)))) (funext λc=>?_)
 ·obtain⟨f,d⟩:=d;cases f with
  | some r=>rfl
  | none=>exact congrArg (bind _) (funext λ_=>congrArg (bind _) (funext λe=>by obtain⟨g,e⟩:=e;cases g<;>rfl))
 ·obtain⟨h,c⟩:=c;cases h<;>rfl
def MH (κ:KeyKind) (x y:Array zK) (i j:Nat) (out:Array zK):Prop:=MI (λp q=>kl κ q p) (x.toList++y.toList) (x.toList.take i).reverse (y.toList.take j).reverse out.toList
section
variable {x y out:Array zK}{i j:Nat}{p:zK}
theorem MH.a (h:MH κ x y (i+1) j out) (e:x[i]? = some p) (c:∀ m q,m < j->y[m]? = some q->kl κ q p):MH κ x y i j (out.push p):=by
 unfold MH at *;rw[bN e] at h;have:=MI.run (xs:=[p]) h λz f q hq=>by
  obtain⟨m,a,_,b⟩:=Ji hq;rw[List.mem_singleton.mp f];exact c m q a b
 rwa [YI]
theorem MH.b (h:MH κ x y i (j+1) out) (e:y[j]? = some p) (c:∀ m q,m < i->x[m]? = some q->kl κ q p):MH κ x y i j (out.push p):=by
 unfold MH at *;rw[bN e] at h;have:=MI.run (xs:=[p]) h.swap λz f q hq=>by
  obtain⟨m,a,_,b⟩:=Ji hq;rw[List.mem_singleton.mp f];exact c m q a b
 rw[YI];exact this.swap
theorem MH.as {k:Nat} (l:k <= i) (h:MH κ x y i j out) (c:∀ m q,k <= m->m < i->x[m]? = some q->∀ e f,e < j->y[e]? = some f->kl κ f q):MH κ x y k j (out++(x.extract k i).reverse):=by
 unfold MH at *;rw[Wu l] at h;have:=MI.run h λz g q hq=>by
  obtain⟨m,a,_,b⟩:=Ji hq;rw[Vg,bW] at g;obtain⟨e,n,o,_,r⟩:=Kb g;exact c e z n o r m q a b
 rwa [QJ]
theorem MH.bs {k:Nat} (l:k <= j) (h:MH κ x y i j out) (c:∀ m q,k <= m->m < j->y[m]? = some q->∀ e f,e < i->x[e]? = some f->kl κ f q):MH κ x y i k (out++(y.extract k j).reverse):=by
 unfold MH at *;have h:=h.swap;rw[Wu l] at h;have:=MI.run h λz g q hq=>by
  obtain⟨m,a,_,b⟩:=Ji hq;rw[Vg,bW] at g;obtain⟨e,n,o,_,r⟩:=Kb g;exact c e z n o r m q a b
 rw[QJ];exact this.swap
theorem VI (z:Array zK) (i:Nat):(z.extract 0 i).toList=z.toList.take i:=by
 rw[Yr,XM];rfl
theorem C9 (a b c:List zK):a++b++c.reverse=(c++b.reverse++a.reverse).reverse:=by simp
theorem MH.dn (h:MH κ x y i j out) (c:i=0\/j=0):Rs κ x y (dnH x y out i j):=by
 unfold Rs dnH;rw[QJ,QJ,VI,VI,Vg,C9];refine⟨(US _).trans h.swap.pm,List.pairwise_reverse.mpr (h.swap.fin λa ha b e=>?_)⟩;obtain⟨m,f,g,l⟩:=Ji ha;obtain⟨n,o,q,r⟩:=Ji e
 lia
theorem MH.fs (g:MG κ x y) (h:MH κ x y i j out) (c:j=1):Rs κ x y (fsH x y out i j):=by
 unfold Rs fsH;rw[QJ,QJ,VI,VI,Vg,C9];refine⟨(US _).trans h.pm,List.pairwise_reverse.mpr (h.fin λa ha b f=>?_)⟩;obtain⟨m,r,t,n⟩:=Ji ha;obtain⟨o,u,v,q⟩:=Ji f;obtain rfl:o=0:=by lia
 obtain⟨l,e⟩:=yC x (i:=0) (by lia);exact yX (g.fst b l q e) (g.rx.at (ZR m) e n)
end
def Hi7 (κ:KeyKind) (e:zV) (x y:Array zK) (b:Nat) (c:H7) (u:zV):Prop :=
 jl e u/\match c.1 with
  | some r=>Rs κ x y r
  | none=>MH κ x y c.2.1 c.2.2.1 c.2.2.2.1/\1 <= c.2.1/\2 <= c.2.2.1/\c.2.1 <= x.size/\c.2.2.1 <= y.size/\c.2.1+c.2.2.1+b <= x.size+y.size
def Th7 (κ:KeyKind) (e:zV) (x y:Array zK) (b:Nat) (r:ForInStep H7) (u:zV):Prop :=
 match r with
 | .done c=>Hi7 κ e x y b c u
 | .yield c=>c.1=none/\Hi7 κ e x y b c u
section
variable {jB st:zV}{x y out:Array zK}{i j mg ac bc b:Nat}
theorem Au (g:MG κ x y) (l:jl jB st) (h:MH κ x y i j out) (hi:1 <= i) (t:2 <= j) (u:i <= x.size) (f:j <= y.size) (v:i+j+b <= x.size+y.size) (c:∀ p,x[i - 1]? = some p->∀ m q,m < j->y[m]? = some q->kl κ q p) :
  wpS (zN prog w) A E s (hiD x y out i j mg ac bc) (Th7 κ jB x y b) st:=by
 unfold hiD;obtain⟨p,e⟩:=yC x (show i - 1 < x.size by lia);obtain⟨n,rfl⟩:∃ n,i=n+1:=⟨i - 1,by lia⟩
 rw[uD] at e c ⊢;have o:=h.a e (c p e);refine zZ (q9 e ?_);by_cases r:n=0
 ·rw[if_pos (by simpa using r)];exact wpS_pure ⟨l,o.dn (.inl r)⟩
 rw[if_neg (by simpa using r)];split
 ·exact wpS_pure ⟨l,o,by show 1 <= n;lia,t,by show n <= _;lia,f,by show n+j+b <= _;lia⟩
 ·exact wpS_pure ⟨rfl,l,o,by show 1 <= n;lia,t,by show n <= _;lia,f,by show n+j+b <= _;lia⟩
theorem lM (G:κ.OneLt) (kd:kindOf st=qj) (g:MG κ x y) (n:jl jB st) (h:MH κ x y i j out) (hi:1 <= i) (H:2 <= j) (f:i <= x.size) (r:j <= y.size) (I:i+j+b <= x.size+y.size) :
  wpS (zN prog w) A E s (hiC x y out i j mg ac bc) (Th7 κ jB x y b) st:=by
 unfold hiC;obtain⟨p,e⟩:=yC x (show i - 1 < x.size by lia);refine zZ (q9 e (zZ (XH G kd g.ky (Qn g.kx e) (by lia) (g.ry.tail 0 _ (by lia)) (by lia) λk ⟨J,L,M⟩=>?_)));have B:∀ m q,m < k->y[m]? = some q->kl κ q p:=λm q a c=>by
  have:=L m a;unfold By at this;rw[if_pos rfl,yU,q8 c] at this;exact QE this
 have N:∀ m q,k <= m->m < j->y[m]? = some q->∀ o t,o < i->x[o]? = some t->kl κ t q:=λm q a b c o t Y Q=>by
  have:=M m a b;unfold By at this;rw[if_pos rfl,yU,q8 c] at this;exact yX (g.rx.at (show o <= i - 1 by lia) Q e) this
 dsimp only;by_cases C:j - k > 0
 ·rw[if_pos C];have u:=h.bs J N;by_cases v:k=1
  ·rw[if_pos (by simpa using v)];exact wpS_pure ⟨n,u.fs g v⟩
  rw[if_neg (by simpa using v)];by_cases z:k=0
  ·rw[if_pos (by simpa using z)];exact wpS_pure ⟨n,u.dn (.inr z)⟩
  rw[if_neg (by simpa using z)];exact Au g n u hi (by lia) f (by lia) (by lia) λU l m q a b=>by rw[e] at l;cases l;exact B m q a b
 ·rw[if_neg C];obtain rfl:k=j:=by lia
  exact Au g n h hi H f r I λU l m q a b=>by rw[e] at l;cases l;exact B m q a b
theorem dG (t:κ.OneLt) (kd:kindOf st=qj) (g:MG κ x y) (o:jl jB st) (h:MH κ x y i j out) (hi:1 <= i) (v:2 <= j) (f:i <= x.size) (u:j <= y.size) (z:i+j+b <= x.size+y.size) (c:∀ p,y[j - 1]? = some p->∀ m q,m < i->x[m]? = some q->kl κ q p) :
  wpS (zN prog w) A E s (hiB x y out i j mg ac bc) (Th7 κ jB x y b) st:=by
 unfold hiB;obtain⟨p,e⟩:=yC y (show j - 1 < y.size by lia);obtain⟨n,rfl⟩:∃ n,j=n+1:=⟨j - 1,by lia⟩
 rw[uD] at e c ⊢;have r:=h.b e (c p e);refine zZ (q9 e ?_);by_cases l:n=1
 ·rw[if_pos (by simpa using l)];exact wpS_pure ⟨o,r.fs g l⟩
 rw[if_neg (by simpa using l)];exact lM t kd g o r hi (by lia) f (by lia) (by lia)
theorem mG (r:κ.OneLt) (kd:kindOf jB=qj) (g:MG κ x y) (f:jl jB st) (h:MH κ x y i j out) (hi:1 <= i) (B:2 <= j) (t:i <= x.size) (l:j <= y.size) (I:i+j+b <= x.size+y.size) :
  wpS (zN prog w) A E s (hiA x y out i j mg ac bc) (Th7 κ jB x y b) st:=by
 unfold hiA;obtain⟨p,e⟩:=yC y (show j - 1 < y.size by lia);refine zZ (YO f λu f=>?_);have kd:kindOf u=qj:=f.kd.trans kd;refine zZ (q9 e (zZ (XH r kd g.kx (Qn g.ky e) (by lia) (g.rx.tail 0 _ (by lia)) (by lia) λk ⟨J,L,M⟩=>?_)));have C:∀ m q,m < k->x[m]? = some q->kl κ q p:=λm q a c=>by
  have:=L m a;unfold By at this;rw[if_neg (by decide),yU,q8 c,Xy] at this;exact this
 have N:∀ m q,k <= m->m < i->x[m]? = some q->∀ o v,o < j->y[o]? = some v->kl κ v q:=λm q a b c o v Y Q=>by
  have:=M m a b;unfold By at this;rw[if_neg (by decide),yU,q8 c,bX] at this;exact yX (g.ry.at (show o <= j - 1 by lia) Q e) (QE this)
 dsimp only;by_cases G:i - k > 0
 ·rw[if_pos G];have H:=h.as J N;by_cases z:k=0
  ·rw[if_pos (by simpa using z)];exact wpS_pure ⟨f,H.dn (.inl z)⟩
  rw[if_neg (by simpa using z)];exact dG r kd g f H (by lia) B (by lia) l (by lia) λU n m q a b=>by rw[e] at n;cases n;exact C m q a b
 ·rw[if_neg G];obtain rfl:k=i:=by lia
  exact dG r kd g f h hi B t l I λU n m q a b=>by rw[e] at n;cases n;exact C m q a b
def Hi6 (κ:KeyKind) (jB:zV) (x y:Array zK) (b:Nat) (c:H6) (u:zV):Prop :=
 jl jB u/\match c.1 with
  | some r=>Rs κ x y r
  | none=>MH κ x y c.2.1 c.2.2.1 c.2.2.2.1/\1 <= c.2.1/\2 <= c.2.2.1/\c.2.1 <= x.size/\c.2.2.1 <= y.size/\c.2.1+c.2.2.1+b <= x.size+y.size
def Th6 (κ:KeyKind) (jB:zV) (x y:Array zK) (b:Nat) (r:ForInStep H6) (u:zV):Prop :=
 match r with
 | .done c=>Hi6 κ jB x y b c u
 | .yield c=>c.1=none/\Hi6 κ jB x y b c u
theorem mv {c:H6} (B:κ.OneLt) (kd:kindOf jB=qj) (g:MG κ x y) (l:jl jB st) (h:MH κ x y c.2.1 c.2.2.1 c.2.2.2.1) (hi:1 <= c.2.1) (v:2 <= c.2.2.1) (t:c.2.1 <= x.size) (u:c.2.2.1 <= y.size) (C:c.2.1+c.2.2.1+b <= x.size+y.size+1) :
  wpS (zN prog w) A E s (hi1 x y mg c) (Th6 κ jB x y b) st:=by
 unfold hi1;obtain⟨f,i,j,out,ac,bc⟩:=c;dsimp only at *;obtain⟨p,e⟩:=yC y (show j - 1 < y.size by lia);obtain⟨q,r⟩:=yC x (show i - 1 < x.size by lia);have kd:kindOf st=qj:=l.kd.trans kd;refine zZ (q9 e (zZ (q9 r (zZ (YA B kd (Qn g.ky e) (Qn g.kx r) ?_)))));cases hv:κ.blt (kyo κ p) (kyo κ q) with
 | true =>
  dsimp only;rw[if_pos rfl];obtain⟨n,rfl⟩:∃ n,i=n+1:=⟨i - 1,by lia⟩
  rw[uD] at r ⊢;have o:=h.a r λm z a b=>yX (g.ry.at (show m <= j - 1 by lia) b e) (QE hv);refine zZ (q9 r ?_);by_cases f:n=0
  ·rw[if_pos (by simpa using f)];exact wpS_pure ⟨l,o.dn (.inl f)⟩
  rw[if_neg (by simpa using f)];split
  ·exact wpS_pure ⟨l,o,by show 1 <= n;lia,v,by show n <= _;lia,u,by show n+j+b <= _;lia⟩
  ·exact wpS_pure ⟨rfl,l,o,by show 1 <= n;lia,v,by show n <= _;lia,u,by show n+j+b <= _;lia⟩
 | false =>
  dsimp only;rw[if_neg (by decide)];obtain⟨n,rfl⟩:∃ n,j=n+1:=⟨j - 1,by lia⟩
  rw[uD] at e ⊢;have o:=h.b e λm z a b=>yX (g.rx.at (show m <= i - 1 by lia) b r) hv;refine zZ (q9 e ?_);by_cases f:n=1
  ·rw[if_pos (by simpa using f)];exact wpS_pure ⟨l,o.fs g f⟩
  rw[if_neg (by simpa using f)];split
  ·exact wpS_pure ⟨l,o,hi,by show 2 <= n;lia,t,by show n <= _;lia,by show i+n+b <= _;lia⟩
  ·exact wpS_pure ⟨rfl,l,o,hi,by show 2 <= n;lia,t,by show n <= _;lia,by show i+n+b <= _;lia⟩
def Hi5 (κ:KeyKind) (jB:zV) (x y:Array zK) (b:Nat) (c:H5) (u:zV):Prop :=
 jl jB u/\match c.1 with
  | some r=>Rs κ x y r
  | none=>MH κ x y c.2.1 c.2.2.1 c.2.2.2.1/\1 <= c.2.1/\2 <= c.2.2.1/\c.2.1 <= x.size/\c.2.2.1 <= y.size/\c.2.1+c.2.2.1+b <= x.size+y.size
theorem Gv {c:H5}{R:ForInStep H5->zV->Prop} (z:κ.OneLt) (kd:kindOf jB=qj) (g:MG κ x y) (H:c.1=none) (J:Hi5 κ jB x y b c st)
  (hd:∀ r d u,jl jB u->Rs κ x y r->R (.done (some r,d)) u) (L:∀ d u,Hi5 κ jB x y (b+1) (none,d) u->R (.yield (none,d)) u) :
  wpS (zN prog w) A E s (hiO x y c) R st:=by
 unfold hiO;obtain⟨f,h⟩:=J;rw[H] at h;refine zZ (yf (yu (I:=λk d u=>d.1=none/\Hi6 κ jB x y (b+min k 1) d u) (Q:=Hi6 κ jB x y (b+1)) (λk d u _ M ⟨n,f,B⟩=>?step) (λd u ⟨n,m⟩=>?fin) ⟨rfl,f,h⟩) λd u m=>?post)
 case step =>
  rw[n] at B;obtain⟨o,p,q,t,v,C⟩:=B;refine yf (mv (b:=b+1) z kd g f o p q t v (by lia)) λr u h=>?_;rw[show min (k+1) 1=1 by lia];cases r<;>exact h
 case fin=>rwa [show min (max 0 (x.size+y.size)) 1=1 by have:=g.nx;lia] at m
 case post =>
  obtain⟨N,d⟩:=d;cases N with
  | some r=>exact wpS_pure (hd r _ u m.1 m.2)
  | none =>
   refine zZ (kv (xc ⟨rfl,?_⟩));refine zZ (yf (yu (I:=λk e u=>e.1=none/\Hi7 κ jB x y (b+1) e u) (Q:=Hi7 κ jB x y (b+1)) (λk e u _ M ⟨n,f,G⟩=>?step2) (λe u ⟨n,l⟩=>l) ⟨rfl,m⟩) λe u l=>?post2)
   case step2 =>
    rw[n] at G;obtain⟨o,p,q,t,v,C⟩:=G;split<;>exact yf (mG z kd g f o p q t v C) λr u h=>by cases r<;>exact h
   case post2 =>
    obtain⟨U,e⟩:=e;cases U with
    | some r=>exact wpS_pure (hd r _ u l.1 l.2)
    | none=>exact zZ (YO l.1 λu f=>wpS_pure (L _ u ⟨f,l.2⟩))
theorem Ia {Q:Array zK->zV->Prop} (G:κ.OneLt) (kd:kindOf st=qj) (g:MG κ x y) (h:∀ r u,jl st u->Rs κ x y r->Q r u):wpS (zN prog w) A E s (uy x y) Q st:=by
 rw[LG];refine zZ (kv (xc ⟨rfl,?_⟩));have H:=g.nx;have N:=g.ny;obtain⟨p,e⟩:=yC x (show x.size - 1 < x.size by lia);refine zZ (q9 e ?_);have t:MH κ x y (x.size - 1) y.size #[p]:=by
  have J:MH κ x y (x.size - 1+1) y.size #[]:=by
   unfold MH;rw[Nat.sub_add_cancel H,kq (by simp),kq (by simp)];exact⟨by simpa using (US _).append (US _),Uy,λ_ h=>by simp at h,λ_ h=>by simp at h,List.pairwise_reverse.mpr g.rx.pair,List.pairwise_reverse.mpr g.ry.pair⟩
  obtain⟨q,C⟩:=yC y (show y.size - 1 < y.size by lia);exact J.a e λm z a b=>yX (g.ry.at (show m <= y.size - 1 by lia) b C) (g.lst q p C e)
 by_cases v:x.size - 1=0
 ·rw[if_pos (by simpa using v)];exact wpS_pure (h _ _ (jl.refl _) (t.dn (.inl v)))
 rw[if_neg (by simpa using v)];by_cases f:y.size=1
 ·rw[if_pos (by simpa using f)];exact wpS_pure (h _ _ (jl.refl _) (t.fs g f))
 rw[if_neg (by simpa using f)];refine zZ (QX ?_);refine zZ (yf (yu (I:=λk c u=>c.1=none/\Hi5 κ st x y (k+1) c u) (Q:=λc u=>∃ r d,c=(some r,d)/\jl st u/\Rs κ x y r) (λk c u _ U ⟨n,L⟩=>?step) (λc u ⟨n,o,f⟩=>?fin) ⟨rfl,jl.refl _,t,by show 1 <= x.size - 1;lia,by show 2 <= y.size;lia,by show x.size - 1 <= _;lia,zg _,by show x.size - 1+y.size+(0+1) <= _;lia⟩) λc u ⟨r,d,M,o,B⟩=>?post)
 case step=>exact Gv (b:=k+1) G kd g n L (λr d u o B=>⟨r,d,rfl,o,B⟩) λd u l=>⟨rfl,l⟩
 case fin=>rw[n] at f;have:=f.2;lia
 case post=>subst M;exact wpS_pure (h r u o B)
end
noncomputable def ZS (a:Array zK) (o:Nat) (l:List (zK×Nat)):Array zK:=l.foldl (λa (p,j)=>a.setIfInBounds (o+j) p) a
theorem aB:∀ (l:List zK) (a:Array zK) (o n:Nat),o+n+l.length <= a.size->(ZS a o (l.zipIdx n)).toList=a.toList.take (o+n)++l++a.toList.drop (o+n+l.length)
 | [],a,o,n,h=>by show a.toList=_;simp
 | p::l,a,o,n,h=>by
  rw[List.zipIdx_cons];show (ZS (a.setIfInBounds (o+n) p) o (l.zipIdx (n+1))).toList=_;rw[jE] at h ⊢;rw[aB l _ o (n+1) (by rw[Array.size_setIfInBounds];lia),Fd,show o+(n+1)=(o+n)+1 by lia];have c:o+n < a.toList.length:=by rw[jy];lia
  rw[List.take_set,List.drop_set_of_lt (by lia),L0 c,KR _ _ (by rw[yz];lia),yz,show o+n - min (o+n) a.toList.length=0 by lia,show o+n+1+l.length=o+n+(l.length+1) by lia];simp
theorem GP {M:J3}{σ:Type}{z:σ}{Q:PUnit->σ->Prop}{st:σ} (h:Q ⟨⟩ z):wpS M A E s (set z:StateT σ Sem PUnit) Q st:=by
 unfold wpS;rw[StateT.run_set];exact wpAny_pure ⟨rfl,h⟩
def mgE (a:Array zK) (sa e sb c:Nat):StateT zV Sem Bool :=
 if (c == 0)=true then pure true else
 if e <= c then do
  let r <- Y6 (a.extract sa sb) (a.extract sb (sb+c))
  modify λz=>setArr z (ZS (zM z) sa r.toList.zipIdx)
  let z <- get
  pure (Q4 z).isNone
 else do
  let r <- uy (a.extract sa sb) (a.extract sb (sb+c))
  modify λz=>setArr z (ZS (zM z) sa r.toList.zipIdx)
  let z <- get
  pure (Q4 z).isNone
def mgB (a:Array zK) (sa c sb e:Nat):StateT zV Sem Bool:=do
 let p <- yF a sb
 match <- Jd false p a sa c 0 with
 | some k =>
  if (c - k == 0)=true then pure true else do
   let q <- yF a (sa+k+(c - k) - 1)
   match <- Jd true q a sb e (e - 1) with
   | some e=>mgE a (sa+k) (c - k) sb e
   | _=>pure false
 | _=>pure false
theorem L9 {st:zV}{i sa c f sb e g:Nat}{Q:Bool->zV->Prop} (j:(jW st)[i]? = some (sa,c,f)) (l:(jW st)[i+1]? = some (sb,e,g))
  (h:wpS (zN prog w) A E s (mgB (zM st) sa c sb e) Q (wZ st (((jW st).setIfInBounds i (sa,c+e,f)).eraseIdxIfInBounds (i+1)))):wpS (zN prog w) A E s (mergeAt' i) Q st:=by
 show wpS (zN prog w) A E s ((sortPriv% PySem.Builtin.mergeAt) i) Q st;refine zZ (QX ?_);rw[j,l];exact zZ (GP h)
theorem Rs.mem (h:Rs κ x y r) {p:zK}{m:Nat} (e:r[m]? = some p):(∃ k:Nat,x[k]? = some p)\/∃ k:Nat,y[k]? = some p:=by
 obtain⟨hm,rfl⟩:=Array.getElem?_eq_some_iff.mp e;have:=h.1.mem_iff.mp (show r[m]∈r.toList by simp);rcases List.mem_append.mp this with a | a
 ·obtain⟨k,c,f⟩:=List.mem_iff_getElem.mp a;exact .inl ⟨k,by rw[<- f];simpa using c⟩
 ·obtain⟨k,c,f⟩:=List.mem_iff_getElem.mp a;exact .inr ⟨k,by rw[<- f];simpa using c⟩
theorem Rs.le (h:Rs κ x y r) {i j:Nat}{p q:zK} (c:i < j) (e:r[i]? = some p) (f:r[j]? = some q):kl κ p q:=by
 obtain⟨hi,rfl⟩:=Array.getElem?_eq_some_iff.mp e;obtain⟨g,rfl⟩:=Array.getElem?_eq_some_iff.mp f;have:=List.pairwise_iff_getElem.mp h.2 i j (by rw[jy];exact hi) (by rw[jy];exact g) c;simpa using this
theorem kW {a:Array zK}{lo hi k:Nat}{p:zK} (e:(a.extract lo hi)[k]? = some p):lo+k < hi/\a[lo+k]? = some p:=by
 obtain⟨f,rfl⟩:=Array.getElem?_eq_some_iff.mp e;have c:=f;rw[XB] at c;exact⟨by lia,by rw[mK,getElem?_pos a (lo+k) (by lia)]⟩
theorem Ri.ext {a:Array zK}{lo n:Nat} (g:lo+n <= a.size) (r:Ri κ a lo n):Ri κ (a.extract lo (lo+n)) 0 (a.extract lo (lo+n)).size:=by
 intro i j c f;have hs:(a.extract lo (lo+n)).size=n:=by rw[XB];lia
 rw[hs] at f;have e:∀ k,k < n->KK κ (a.extract lo (lo+n)) (0+k)=KK κ a (lo+k):=λk h=>Yg (by rw[yU,Array.getElem?_extract,if_pos (by lia)]);rw[e i (by lia),e j f];exact r i j c f
theorem Ri.sub {a:Array zK}{lo:Nat} (r:Ri κ a lo n) (k m:Nat) (h:k+m <= n):Ri κ a (lo+k) m:=λi j p q=>by
 have:=r (k+i) (k+j) (by lia) (by lia)
 rwa [<- VF,<- VF] at this
def Mrg (κ:KeyKind) (zR:Array zK) (sa n:Nat) (st c:zV):Prop:=qA zR sa (sa+n) st c/\Ri κ (zM c) sa n
theorem FS {st l:zV}{sa k n h f:Nat}{r:Array zK} (g:SG zR st) (B:jl st l) (hn:sa+f+n <= zR.size) (hk:k <= f) (hb:h <= n) (N:Ri κ (zM st) sa f) (Q:Ri κ (zM st) (sa+f) n)
  (U:∀ i j,i < k->j < n->κ.kle (KK κ (zM st) (sa+i)) (KK κ (zM st) (sa+f+j))) (Y:∀ i j,i < f->h <= j->j < n->κ.kle (KK κ (zM st) (sa+i)) (KK κ (zM st) (sa+f+j)))
  (I:Rs κ ((zM st).extract (sa+k) (sa+f)) ((zM st).extract (sa+f) (sa+f+h)) r):Mrg κ zR sa (f+n) st (setArr l (ZS (zM l) (sa+k) r.toList.zipIdx)):=by
 have hz:=g.sz;have hl:r.size=f - k+h:=by
  have:=I.1.length_eq;rw[jv,jy,jy,jy,XB,XB] at this
  lia
 have pl:=aB r.toList (zM l) (sa+k) 0 (by rw[jy,B.ar];lia);rw[B.ar,dA,jy,hl] at pl;rw[B.ar];have at_:∀ m:Nat,(ZS (zM st) (sa+k) r.toList.zipIdx)[m]? = if sa+k <= m/\m < sa+f+h then r[m - (sa+k)]? else (zM st)[m]? := by
  intro m;rw[<- xq,pl,qy];by_cases t:m < sa+k
  ·rw[yc (by rw[yz,jy];lia),fE t,if_neg (by lia),xq]
  rw[Zh (by rw[yz,jy];lia),yz,jy,di (by lia)];by_cases C:m < sa+f+h
  ·rw[yc (by rw[jy];lia),if_pos (by lia),xq]
  ·rw[Zh (by rw[jy];lia),if_neg (by lia),Hk,jy,xq]
   congr 1;lia
 refine⟨⟨⟨?_,B.kd.trans g.kd,B.fl.trans g.fl⟩,λm hm=>?_,B.pd⟩,?_⟩
 ·refine MQ (Array.perm_iff_toList_perm.mpr ?_) g.pm;show (ZS (zM st) (sa+k) r.toList.zipIdx).toList.Perm _;rw[pl];have e:(zM st).toList=(zM st).toList.take (sa+k)++(((zM st).extract (sa+k) (sa+f)).toList++((zM st).extract (sa+f) (sa+f+h)).toList)++(zM st).toList.drop (sa+k+(f - k+h)):=by
   have e1:=YF (a:=zM st) (i:=sa+f) (k:=h);have L:=YF (a:=zM st) (i:=sa+k) (k:=f - k);rw[show sa+k+(f - k)=sa+f by lia] at L;rw[show sa+k+(f - k+h)=sa+f+h by lia,qy,qy,<- e1,<- L,ae]
  conv=>rhs;rw[e]
  exact (I.1.append_left _).append_right _
 ·show (ZS (zM st) (sa+k) r.toList.zipIdx)[m]? = _;rw[at_,if_neg (by lia)]
 ·show Ri κ (ZS (zM st) (sa+k) r.toList.zipIdx) sa (f+n);have G:∀ i,i < k->KK κ (ZS (zM st) (sa+k) r.toList.zipIdx) (sa+i)=KK κ (zM st) (sa+i):=λi hi=>Yg (by rw[at_,if_neg (by lia)]);have o:∀ i,f+h <= i->KK κ (ZS (zM st) (sa+k) r.toList.zipIdx) (sa+i)=KK κ (zM st) (sa+i):=λi hi=>Yg (by rw[at_,if_neg (by lia)]);have v:∀ i,k <= i->i < f+h->∃ p,r[i - k]? = some p/\KK κ (ZS (zM st) (sa+k) r.toList.zipIdx) (sa+i)=kyo κ p/\∃ m,k <= m/\m < f+h/\kyo κ p=KK κ (zM st) (sa+m):=λi hi u=>by
   obtain⟨p,e⟩:=yC r (show i - k < r.size by lia);refine⟨p,e,q8 (by rw[at_,if_pos (by lia),show sa+i - (sa+k)=i - k by lia];exact e),?_⟩;rcases Rs.mem I e with ⟨m,x⟩ | ⟨m,x⟩
   ·obtain⟨t,C⟩:=kW x;exact⟨k+m,by lia,by lia,by rw[<- VF];exact (q8 C).symm⟩
   ·obtain⟨t,C⟩:=kW x;exact⟨f+m,by lia,by lia,by rw[<- VF];exact (q8 C).symm⟩
  have y:∀ i m,i < k->m < f+n->i <= m->κ.kle (KK κ (zM st) (sa+i)) (KK κ (zM st) (sa+m)):=λi m hi hm u=>by
   by_cases c:m < f
   ·exact N i m u c
   ·have:=U i (m - f) hi (by lia)
    rwa [show sa+f+(m - f)=sa+m by lia] at this
  have H:∀ m j,f+h <= j->j < f+n->m <= j->κ.kle (KK κ (zM st) (sa+m)) (KK κ (zM st) (sa+j)):=λm j hi hm u=>by
   by_cases c:m < f
   ·have:=Y m (j - f) c (by lia) (by lia)
    rwa [show sa+f+(j - f)=sa+j by lia] at this
   ·have:=Q (m - f) (j - f) (by lia) (by lia)
    rwa [show sa+f+(j - f)=sa+j by lia,show sa+f+(m - f)=sa+m by lia] at this
  intro i j z u;by_cases t:i < k
  ·rw[G i t];by_cases d1:j < k
   ·rw[G j d1];exact y i j t u z
   by_cases J:j < f+h
   ·obtain⟨p,_,e,m,m1,m2,x⟩:=v j (by lia) J;rw[e,x];exact y i m t (by lia) (by lia)
   ·rw[o j (by lia)];exact y i j t u z
  by_cases C:i < f+h
  ·obtain⟨p,M,e,m,m1,m2,x⟩:=v i (by lia) C;by_cases J:j < f+h
   ·obtain⟨q,eq,e',_⟩:=v j (by lia) J;rw[e,e'];by_cases c:i=j
    ·subst c;rw[M] at eq;cases eq;exact JJ _
    ·exact Rs.le I (show i - k < j - k by lia) M eq
   ·rw[e,x,o j (by lia)];exact H m j (by lia) u (by lia)
  ·rw[o i (by lia),o j (by lia)];exact H i j (by lia) u z
theorem SG.has {st:zV} (h:SG zR st) (c:KeysOf κ zR) {p:zK} (e:p∈(zM st).toList):ya κ p:=c p ((Array.perm_iff_toList_perm.mp h.pm).mem_iff.mp e)
theorem A8 {a:Array zK}{i k:Nat}{y:zK} (h:y∈(a.extract i k).toList):y∈a.toList:=by
 obtain⟨j,_,_,c,e⟩:=Kb h;obtain⟨c,rfl⟩:=Array.getElem?_eq_some_iff.mp e;simp
theorem Ri.join {a:Array zK}{sa:Nat} (l:Ri κ a sa e) (m:Ri κ a (sa+e) h) (f:∀ i j,i < e->j < h->κ.kle (KK κ a (sa+i)) (KK κ a (sa+e+j))):Ri κ a sa (e+h):=λi j g n=>by
 by_cases c:j < e
 ·exact l i j g c
 by_cases d:i < e
 ·have:=f i (j - e) d (by lia)
  rwa [show sa+e+(j - e)=sa+j by lia] at this
 ·have:=m (i - e) (j - e) (by lia) (by lia)
  rwa [show sa+e+(j - e)=sa+j by lia,show sa+e+(i - e)=sa+i by lia] at this
theorem gd {st:zV}{sa k e l f:Nat}{Q:Bool->zV->Prop} (H:κ.OneLt) (I:KeysOf κ zR) (g:SG zR st) (L:sa+e+l <= zR.size) (hk:k < e) (M:f <= l) (B:Ri κ (zM st) sa e) (C:Ri κ (zM st) (sa+e) l)
  (N:∀ i j,i < k->j < l->κ.kle (KK κ (zM st) (sa+i)) (KK κ (zM st) (sa+e+j))) (J:∀ i j,i < e->f <= j->j < l->κ.kle (KK κ (zM st) (sa+i)) (KK κ (zM st) (sa+e+j)))
  (U:f≠0->κ.kle (KK κ (zM st) (sa+e)) (KK κ (zM st) (sa+k))) (Y:f≠0->κ.kle (KK κ (zM st) (sa+e+(f - 1))) (KK κ (zM st) (sa+e - 1)))
  (h:∀ o,Mrg κ zR sa (e+l) st o->Q true o):wpS (zN prog w) A E s (mgE (zM st) (sa+k) (e - k) (sa+e) f) Q st:=by
 unfold mgE;by_cases c:f=0
 ·rw[if_pos (by simpa using c)];exact wpS_pure (h _ ⟨qA.refl g,B.join C λi j a b=>J i j a (by lia) b⟩)
 rw[if_neg (by simpa using c)];have hz:=g.sz;have s1:((zM st).extract (sa+k) (sa+e)).size=e - k:=by rw[XB];lia
 have s2:((zM st).extract (sa+e) (sa+e+f)).size=f:=by rw[XB];lia
 have mg:MG κ ((zM st).extract (sa+k) (sa+e)) ((zM st).extract (sa+e) (sa+e+f)):=by
  refine⟨λp G=>g.has I (A8 G),λp G=>g.has I (A8 G),?_,Ri.ext (by lia) (C.sub 0 f (by lia)),by lia,by lia,λp q v x=>?_,λp q v x=>?_⟩
  ·have:=Ri.ext (lo:=sa+k) (n:=e - k) (by lia) (B.sub k (e - k) (by lia))
   rwa [show sa+k+(e - k)=sa+e by lia] at this
  ·have y:=(kW v).2;have t:=(kW x).2;have:=U c;rw[dA] at y t
   rwa [q8 y,q8 t] at this
  ·rw[s2] at v;rw[s1] at x;have y:=(kW v).2;have t:=(kW x).2;rw[show sa+k+(e - k - 1)=sa+e - 1 by lia] at t;have:=Y c
   rwa [q8 y,q8 t] at this
 have fin:∀ r u,jl st u->Rs κ ((zM st).extract (sa+k) (sa+e)) ((zM st).extract (sa+e) (sa+e+f)) r->wpS (zN prog w) A E s (do modify λz=>setArr z (ZS (zM z) (sa+k) r.toList.zipIdx);let z <- get;pure (Q4 z).isNone) Q u:=λr u sg rs=>by
  refine zZ (Jo (zZ (QX (wpS_pure ?_))));have m:=FS g sg L (by lia) M B C N J rs;have:=h _ m;rw[show (Q4 (setArr u (ZS (zM u) (sa+k) r.toList.zipIdx))).isNone=true by rw[m.1.ok.fl];rfl];exact this
 split
 ·exact zZ (Lu H g.kd mg fin)
 ·exact zZ (Ia H g.kd mg fin)
theorem g6 {st:zV}{sa f m:Nat}{Q:Bool->zV->Prop} (y:κ.OneLt) (o:KeysOf κ zR) (g:SG zR st) (B:sa+f+m <= zR.size) (M:1 <= f) (N:1 <= m) (u:Ri κ (zM st) sa f) (v:Ri κ (zM st) (sa+f) m)
  (h:∀ r,Mrg κ zR sa (f+m) st r->Q true r):wpS (zN prog w) A E s (mgB (zM st) sa f (sa+f) m) Q st:=by
 unfold mgB;have U:=g.sz;obtain⟨p,e⟩:=yC (zM st) (show sa+f < (zM st).size by lia);refine zZ (q9 e (zZ (XH y g.kd (λp l=>g.has o l) (Qn (λp l=>g.has o l) e) (by lia) u (by lia) λk ⟨Y,C,G⟩=>?_)));have z:∀ i j,i < k->j < m->κ.kle (KK κ (zM st) (sa+i)) (KK κ (zM st) (sa+f+j)):=λi j hi H=>by
  have:=C i hi;unfold By at this;rw[if_neg (by decide),Xy] at this;have a:=v 0 j (by lia) H;rw[dA,q8 e] at a;exact yX this a
 dsimp only;by_cases c:f - k=0
 ·rw[if_pos (by simpa using c)];exact wpS_pure (h _ ⟨qA.refl g,u.join v λi j a b=>z i j (by lia) b⟩)
 rw[if_neg (by simpa using c),show sa+k+(f - k) - 1=sa+f - 1 by lia];obtain⟨q,x⟩:=yC (zM st) (show sa+f - 1 < (zM st).size by lia);refine zZ (q9 x (zZ (XH y g.kd (λp l=>g.has o l) (Qn (λp l=>g.has o l) x) (by lia) v (by lia) λt ⟨I,J,L⟩=>?_)));refine gd y o g B (by lia) I u v z (λi j a b d=>?_) (λn=>?_) (λn=>?_) h
 ·have:=L j b d;unfold By at this;rw[if_pos rfl] at this;have a:=u i (f - 1) (by lia) (by lia);rw[show sa+(f - 1)=sa+f - 1 by lia,q8 x] at a;exact yX a this
 ·have:=G k (zg _) (by lia);unfold By at this;rw[if_neg (by decide),bX] at this;rw[q8 e];exact QE this
 ·have:=J (t - 1) (by lia);unfold By at this;rw[if_pos rfl] at this;rw[q8 x];exact QE this
noncomputable def zY (κ:KeyKind) (xs:Array zK):List (Nat×Nat×Nat)->Nat->Nat->Prop
 | [],lo,hi=>lo=hi
 | r::t,lo,hi=>r.1=lo/\1 <= r.2.1/\Ri κ xs lo r.2.1/\zY κ xs t (lo+r.2.1) hi
theorem zY.app:∀ {a b:List (Nat×Nat×Nat)}{lo hi:Nat},zY κ xs (a++b) lo hi ↔ ∃ m,zY κ xs a lo m/\zY κ xs b m hi
 | [],b,lo,hi=>⟨λh=>⟨lo,rfl,h⟩,λ⟨m,e,h⟩=>by cases e;exact h⟩
 | r::a,b,lo,hi=>⟨λ⟨c,f,g,i⟩=>by obtain⟨m,j,l⟩:=zY.app.mp i;exact⟨m,⟨c,f,g,j⟩,l⟩,λ⟨m,⟨c,f,g,i⟩,j⟩=>⟨c,f,g,zY.app.mpr ⟨m,i,j⟩⟩⟩
theorem zY.len:∀ {a:List (Nat×Nat×Nat)}{lo hi:Nat},zY κ xs a lo hi->lo+a.length <= hi
 | [],lo,hi,h=>by cases h;exact zg _
 | r::a,lo,hi,⟨e,f,g,c⟩=>by have:=c.len;rw[jE];lia
theorem Ri.same {ys:Array zK}{lo:Nat} (h:Ri κ xs lo n) (e:∀ k,lo <= k->k < lo+n->ys[k]? = xs[k]?):Ri κ ys lo n:=λi j a b=>by
 rw[Yg (e (lo+i) (by lia) (by lia)),Yg (e (lo+j) (by lia) (by lia))];exact h i j a b
theorem zY.same {ys:Array zK}:∀ {a:List (Nat×Nat×Nat)}{lo hi:Nat},zY κ xs a lo hi->(∀ k,lo <= k->k < hi->ys[k]? = xs[k]?)->zY κ ys a lo hi
 | [],lo,hi,h,_=>h
 | r::a,lo,hi,⟨f,g,i,c⟩,e=>by
  have:=c.len;exact⟨f,g,i.same λk a b=>e k a (by lia),c.same λk a b=>e k (by lia) b⟩
theorem zY.mod {c:Nat}:∀ {a:List (Nat×Nat×Nat)}{lo hi:Nat} (k:Nat),zY κ xs a lo hi->zY κ xs (a.modify k λr=>(r.1,r.2.1,c)) lo hi
 | [],lo,hi,k,h=>by rw[List.modify_nil];exact h
 | r::a,lo,hi,0,h=>by rw[List.modify_zero_cons];exact h
 | r::a,lo,hi,k+1,⟨e,f,g,i⟩=>by rw[List.modify_succ_cons];exact⟨e,f,g,i.mod k⟩
structure PR (κ:KeyKind) (zR:Array zK) (lo:Nat) (st:zV):Prop where
 ok:SG zR st
 rn:zY κ (zM st) (jW st).toList 0 lo
theorem U6 {st:zV}{i lo:Nat}{Q:Bool->zV->Prop} (I:κ.OneLt) (J:KeysOf κ zR) (M:PR κ zR lo st) (hl:lo <= zR.size) (hi:i+1 < (jW st).size)
  (h:∀ c,PR κ zR lo c->(jW c).size+1=(jW st).size->(∀ k,lo <= k->(zM c)[k]? = (zM st)[k]?)->Q true c):wpS (zN prog w) A E s (mergeAt' i) Q st:=by
 obtain⟨g,rn⟩:=M;obtain⟨⟨sa,f,p⟩,u⟩:∃ r,(jW st)[i]? = some r:=⟨_,getElem?_pos (jW st) i (by lia)⟩
 obtain⟨⟨sb,j,N⟩,v⟩:∃ r,(jW st)[i+1]? = some r:=⟨_,getElem?_pos (jW st) (i+1) hi⟩
 have e:(jW st).toList=(jW st).toList.take i++(sa,f,p)::(sb,j,N)::(jW st).toList.drop (i+2):=by
  obtain⟨U,Y⟩:=Array.getElem?_eq_some_iff.mp u;obtain⟨b2,c2⟩:=Array.getElem?_eq_some_iff.mp v;have x:=kQ (l:=(jW st).toList) (i:=i) (by rw[jy];exact U);have y:=kQ (l:=(jW st).toList) (i:=i+1) (by rw[jy];exact b2);rw[Vl,Y] at x;rw[Vl,c2] at y;rw[<- y,<- x,ae]
 generalize hL:(jW st).toList.take i=L at e;generalize hR:(jW st).toList.drop (i+2)=R at e;have q:L.length=i:=by rw[<- hL,yz,jy];lia
 rw[e] at rn;obtain⟨m,z,n,B,C,o,G,H,t⟩:=zY.app.mp rn;dsimp only at n B C o G H t;subst n o;have len:=t.len;refine L9 u v (g6 (st:=wZ st (((jW st).setIfInBounds i (sa,f+j,p)).eraseIdxIfInBounds (i+1))) I J ⟨g.pm,g.kd,g.fl⟩ (by lia) B G C H λc ⟨kp,ri⟩=>?_);have pl:(jW c).toList=L++(sa,f+j,p)::R:=by
  rw[kp.pd];show (((jW st).setIfInBounds i (sa,f+j,p)).eraseIdxIfInBounds (i+1)).toList=_;rw[Array.toList_eraseIdxIfInBounds,Fd,e];subst q;rw[KR _ _ (zg _),List.eraseIdx_append_of_length_le (by lia),GO,Cj];rfl
 have ll:=z.len;refine h c ⟨kp.ok,?_⟩ ?_ λk hk=>kp.out k (.inr (by lia))
 ·rw[pl];exact zY.app.mpr ⟨sa,z.same λk _ b=>kp.out k (.inl b),rfl,by show 1 <= f+j;lia,ri,by rw[<- VF];exact t.same λk a _=>kp.out k (.inr (by lia))⟩
 ·rw[<- jy,<- jy,pl,e];simp;lia
theorem PR.push {lo n:Nat}{st:zV} (h:PR κ zR lo st) (c:1 <= n) (r:Ri κ (zM st) lo n):PR κ zR (lo+n) (wZ st ((jW st).push (lo,n,0))) :=
 ⟨⟨h.ok.pm,h.ok.kd,h.ok.fl⟩,by
  show zY κ (zM st) ((jW st).push (lo,n,0)).toList 0 (lo+n);rw[YI];exact zY.app.mpr ⟨lo,h.rn,rfl,c,r,rfl⟩⟩
theorem PR.modi {lo k c:Nat}{st:zV} (h:PR κ zR lo st):PR κ zR lo (wZ st ((jW st).modify k λ(a,b,_)=>(a,b,c))) :=
 ⟨⟨h.ok.pm,h.ok.kd,h.ok.fl⟩,by
  show zY κ (zM st) ((jW st).modify k λ(a,b,_)=>(a,b,c)).toList 0 lo;rw[Array.toList_modify];exact h.rn.mod k⟩
theorem eP {st:zV}{Q:Unit->zV->Prop} (H:κ.OneLt) (J:KeysOf κ zR) (L:SBase zR st) (h2:2 <= zR.size)
  (h:∀ v,(zM v).Perm zR->Q4 v=none->BV κ (zM v) zR.size->Q () v):wpS (zN prog w) A E s sortRuns' Q st:=by
 rw[sortRuns'_eq];refine zZ (QX ?_);dsimp only;simp only[L.size];refine zZ (yf (yu (I:=λx c u=>∃ lo,c=(none,lo)/\x <= lo/\lo <= zR.size/\PR κ zR lo u) (Q:=λc u=>c=(none,zR.size)/\PR κ zR zR.size u)
  (λx c u _ hx ⟨lo,g,h1,h2,l⟩=>?step) (λc u ⟨lo,g,h1,h2,l⟩=>?fin) ⟨0,rfl,zg _,ZR _,⟨L.perm,L.kind,L.failed⟩,by rw[L.pend];rfl⟩) λc u ⟨g,l⟩=>?post)
 case fin =>
  obtain rfl:lo=zR.size:=by lia
  exact⟨g,l⟩
 case step =>
  subst g;dsimp only;by_cases c:lo ≥ zR.size
  ·rw[if_pos c];obtain rfl:lo=zR.size:=by lia
   exact wpS_pure ⟨rfl,l⟩
  rw[if_neg c];refine zZ (e8 H J (by lia) (by lia) l.ok λm z kp m1 m2 G=>?_);have o:PR κ zR lo z:=⟨kp.ok,by rw[kp.pd];exact l.rn.same λk _ b=>kp.out k (.inl b)⟩
  dsimp only;by_cases d:m < wI zR.size zR.size 0
  ·rw[if_pos d];refine zZ (kv (xc ⟨rfl,?_⟩));refine zZ (iP H J (by lia) (by lia) kp.ok G λz C M=>?_);simp only[ZW,j9,if_false];have o:PR κ zR lo z:=⟨C.ok,by rw[C.pd];exact o.rn.same λk _ b=>C.out k (.inl b)⟩
   have p:1 <= min (zR.size - lo) (wI zR.size zR.size 0):=by lia
   have q:lo+min (zR.size - lo) (wI zR.size zR.size 0) <= zR.size:=by lia
   generalize min (zR.size - lo) (wI zR.size zR.size 0)=n at *;have G:=M;refine zZ (QX ?_);rcases hb:(jW z).back? with _ | ⟨s1,n1,q1⟩
   ·dsimp only;exact zZ (Jo (wpS_pure ⟨_,rfl,by lia,q,o.push p G⟩))
   ·dsimp only;refine zZ (yf (yu (I:=λ_ c u=>c=(none,())/\PR κ zR lo u/\Ri κ (zM u) lo n) (Q:=λc u=>c=(none,())/\PR κ zR lo u/\Ri κ (zM u) lo n)
     (λy c u _ hy ⟨g,e,f⟩=>?st2) (λc u N=>N) ⟨rfl,o,G⟩) λc u ⟨g,e,f⟩=>?po2)
    case st2 =>
     subst g;refine zZ (QX ?_);by_cases B:(jW u).size > 1
     ·rw[if_pos B];rcases hq:(jW u)[(jW u).size - 2]? with _ | ⟨s2,n2,q2⟩
      ·exact wpS_pure ⟨rfl,e,f⟩
      ·dsimp only;split
       ·exact wpS_pure ⟨rfl,e,f⟩
       ·refine zZ (U6 H J e (by lia) (by lia) λz t _ U=>?_);simp only[ZW,j9,if_false];exact wpS_pure ⟨rfl,t,f.same λk a _=>U k a⟩
     ·rw[if_neg B];exact wpS_pure ⟨rfl,e,f⟩
    case po2 =>
     subst g;exact zZ (Jo (zZ (Jo (wpS_pure ⟨_,rfl,by lia,q,e.modi.push p f⟩))))
  ·rw[if_neg d];have q:lo+m <= zR.size:=by lia
   have p:=m1;generalize m=n at *;refine zZ (QX ?_);rcases hb:(jW z).back? with _ | ⟨s1,n1,q1⟩
   ·dsimp only;exact zZ (Jo (wpS_pure ⟨_,rfl,by lia,q,o.push p G⟩))
   ·dsimp only;refine zZ (yf (yu (I:=λ_ c u=>c=(none,())/\PR κ zR lo u/\Ri κ (zM u) lo n) (Q:=λc u=>c=(none,())/\PR κ zR lo u/\Ri κ (zM u) lo n)
     (λy c u _ hy ⟨g,e,f⟩=>?st2) (λc u N=>N) ⟨rfl,o,G⟩) λc u ⟨g,e,f⟩=>?po2)
    case st2 =>
     subst g;refine zZ (QX ?_);by_cases B:(jW u).size > 1
     ·rw[if_pos B];rcases hq:(jW u)[(jW u).size - 2]? with _ | ⟨s2,n2,q2⟩
      ·exact wpS_pure ⟨rfl,e,f⟩
      ·dsimp only;split
       ·exact wpS_pure ⟨rfl,e,f⟩
       ·refine zZ (U6 H J e (by lia) (by lia) λz t _ U=>?_);simp only[ZW,j9,if_false];exact wpS_pure ⟨rfl,t,f.same λk a _=>U k a⟩
     ·rw[if_neg B];exact wpS_pure ⟨rfl,e,f⟩
    case po2 =>
     subst g;exact zZ (Jo (zZ (Jo (wpS_pure ⟨_,rfl,by lia,q,e.modi.push p f⟩))))
 case post =>
  subst g;dsimp only;have pl:=l.rn.len;rw[yU,jy] at pl;refine zZ (yf (yu (I:=λk c u=>c=(none,())/\PR κ zR zR.size u/\(jW u).size <= max 1 (zR.size - k)) (Q:=λc u=>c=(none,())/\PR κ zR zR.size u/\(jW u).size <= 1)
   (λk c u _ hk ⟨g,l,hs⟩=>?st3) (λc u ⟨g,l,hs⟩=>⟨g,l,by lia⟩) ⟨rfl,l,by lia⟩) λc u ⟨g,l,hs⟩=>?po3)
  case st3 =>
   subst g;refine zZ (QX ?_);by_cases B:(jW u).size <= 1
   ·rw[if_pos B];exact wpS_pure ⟨rfl,l,B⟩
   rw[if_neg B];split
   all_goals
    refine zZ (U6 H J l (zg _) (by split<;>lia) λz t e4 _=>?_);simp only[ZW,j9,if_false];exact wpS_pure ⟨rfl,t,by lia⟩
  case po3 =>
   subst g;refine wpS_pure (h u l.ok.pm l.ok.fl ?_);have rn:=l.rn
   match hp:(jW u).toList,rn with
   | [],rn=>have:0=zR.size:=rn;lia
   | [r],⟨r1,r2,r3,r4⟩ =>
    have:0+r.2.1=zR.size:=r4;intro i j Y hj;have:=r3 i j Y (by lia)
    rwa [yU,yU] at this
   | _::_::_,_=>rw[<- jy,hp] at hs;simp at hs
theorem Hm {a:zE}{vs:List zD}{n:Nat}{P:Fin->zI->Prop} (t:κ.OneLt) (f:s.heap.get? a=some (Zu "list" vs.toArray n)) (v:KeysOf κ (x6 vs))
  (l:∀ x y r,vs=x::y::r->keyKind' (x::y::r).toArray=pure qj) (L:vs.length <= 16777216)
  (h:∀ u:zV,(zM u).Perm (x6 vs)->BV κ (zM u) (x6 vs).size->P (.done (.ret .none)) { s with heap:=sortedHeap s.heap a vs ((zM u).map (·.2)) }) :
  wpAny (zN prog w) A (Builtin.«list.sort» ⟨[.ref a],[]⟩) P E s:=by
 rw[list_sort_plain];have o:a < s.heap.objs.size:=jQ f;refine zQ (listItems_at f rfl (zQ (cS f rfl ?_)));obtain⟨m,p⟩:∃ m,(s.heap.update a (Qr λ_=>#[])).get? a=some (Zu "list" #[] m):=⟨_,get?_update_seq f (λ_=>#[])⟩
 refine zQ (bf p rfl (zQ (wpAny_newTuple (zQ (wpAny_newList (JO ?_))))));have g:(((s.heap.update a (Qr λ_=>#[])).push (Zu "tuple" vs.toArray 0)).push (Zu "list" #[] 0)).get? a=some (Zu "list" #[] m):=by
  rw[HX _ _ _ (by rw[size_push',A4];exact jX (vy o)),HX _ _ _ (by rw[A4];exact jX o)];exact p
 show wpAny (zN prog w) A _ P E { s with heap:=((s.heap.update a (Qr λ_=>#[])).push (Zu "tuple" vs.toArray 0)).push (Zu "list" #[] 0) };dsimp only;have z:vs.toArray.size=vs.length:=by simp
 by_cases c:vs.toArray.size < 2
 ·rw[if_pos c,if_pos c];refine zQ (wpAny_pure ?_);rw[StateT.run_pure];refine zQ (wpAny_pure ?_);dsimp only;refine zQ (bf g rfl (zQ (cS g rfl ?_ (hsz2:=by rw[lO];show (x6 vs).size <= _;rw[Wc,Zx];lia))));simp only[bne_self_eq_false,j9,if_false];refine wpAny_pure (h (Cv general' (vs.toArray.zip vs.toArray) #[] 7 none) (En _) λi j B C=>?_);rw[Wc] at C;obtain rfl:i=j:=by lia
  exact JJ _
 ·rw[if_neg c,if_neg c]
  match vs,z,c with
  | [],_,c=>simp at c
  | [_],_,c=>simp at c
  | x::y::r,_,_ =>
  rw[l _ _ _ rfl];refine zQ (wpAny_pure (zQ (wpAny_mono (eP t (zR:=x6 (x::y::r)) (st:=Cv qj ((x::y::r).toArray.zip (x::y::r).toArray) #[] 7 none)
   (Q:=λ_ u=>(zM u).Perm (x6 (x::y::r))/\Q4 u=none/\BV κ (zM u) (x6 (x::y::r)).size) v ⟨En _,rfl,rfl,rfl⟩ (by rw[Wc];simp) λu G H I=>⟨G,H,I⟩) ?_ λ_ _ e=>e)))
  rintro ⟨⟨⟩,u⟩ _ ⟨rfl,q,J,hs⟩
  dsimp only;refine zQ (bf g rfl (zQ (cS g rfl ?_ (hsz2:=jr (XU ((lO ..).trans (q.size_eq.trans (Wc _)))) (by rw[Zx];lia)))));rw[J];simp only[bne_self_eq_false,j9,if_false];exact wpAny_pure (h u q hs)
theorem iz {l:zE}{vs:List zD}{Q:zD->zI->Prop} (j:s.heap.IsList l vs.toArray) (f:Yh vs n) (o:vs.length <= 16777216)
  (h:∀ (out:Array zD) (c:List Str),Yh out.toList c->c.Perm n->Y0 c=true->Q (.ref (s.heap.objs.size+1)) { s with heap:=sortedAll s.heap vs out }) :
  wpAny (zN prog w) A (call (.builtin "sorted") [.ref l]) Q E s:=by
 refine Calls.call_function_entry kind_sorted plain_sorted entry_sorted (args_sorted1 _) ?_;unfold Builtin.«sorted»;refine zQ (m:=checkCount "sorted" 1 1 _) (wpAny_pure (zQ (collect_list j (zQ (wpAny_newList ?_)))));have g:((s.heap.push (Zu "list" #[] 0)).update s.heap.objs.size (Qr (· ++ vs.toArray))).objs.size=s.heap.objs.size+1:=(A4 ..).trans (size_push' ..);have i:(((s.heap.push (Zu "list" #[] 0)).update s.heap.objs.size (Qr (· ++ vs.toArray))).push (Zu "list" vs.toArray 0)).get? (s.heap.objs.size+1)=some (Zu "list" vs.toArray 0):=by rw[<- g];exact qd _ rfl
 show wpAny _ _ _ _ _ { s with heap:=((s.heap.push (Zu "list" #[] 0)).update s.heap.objs.size (Qr (· ++ vs.toArray))).push (Zu "list" vs.toArray 0) };rw[g];refine zQ (JO (YM slot_list_sort ⟨_,i,rfl⟩ entry_list_sort (Hm strKind_oneLt i f.keysOf (λx y r e=>keyKind_strs (by rw[<- e];exact f)) o λu p q=>⟨_,rfl,?_⟩) (args_list_sort _)));obtain⟨c,t,v,z⟩:=sorted_out_str f p q;exact wpAny_pure ⟨_,rfl,h _ c t v z⟩
end TS
namespace M
abbrev T:=List Nat
inductive Kd where
 | str | int | bool | list | tuple | dict
 deriving DecidableEq
inductive D where
 | non | bl (b:Bool) | int (i:Int) | str (x:T) | tup (ds:List D) | ro (ds:List D) | ref (i:Nat) | ty (n:Kd)
mutual
noncomputable def D.decEq:(a b:D)->Decidable (a=b)
 | .non,.non=>isTrue rfl
 | .bl a,.bl b=>if h:a=b then isTrue (by rw[h]) else isFalse (λe=>h (D.bl.inj e))
 | .int a,.int b=>if h:a=b then isTrue (by rw[h]) else isFalse (λe=>h (D.int.inj e))
 | .str a,.str b=>if h:a=b then isTrue (by rw[h]) else isFalse (λe=>h (D.str.inj e))
 | .ref a,.ref b=>if h:a=b then isTrue (by rw[h]) else isFalse (λe=>h (D.ref.inj e))
 | .ty a,.ty b=>if h:a=b then isTrue (by rw[h]) else isFalse (λe=>h (D.ty.inj e))
 | .tup a,.tup b=>match D.decEqs a b with
  | isTrue h=>isTrue (by rw[h])
  | isFalse h=>isFalse (λe=>h (D.tup.inj e))
 | .ro a,.ro b=>match D.decEqs a b with
  | isTrue h=>isTrue (by rw[h])
  | isFalse h=>isFalse (λe=>h (D.ro.inj e))
 | .non,.bl _ | .non,.int _ | .non,.str _ | .non,.tup _ | .non,.ro _ | .non,.ref _ | .non,.ty _=>isFalse (λe=>nomatch e)
 | .bl _,.non | .bl _,.int _ | .bl _,.str _ | .bl _,.tup _ | .bl _,.ro _ | .bl _,.ref _ | .bl _,.ty _=>isFalse (λe=>nomatch e)
 | .int _,.non | .int _,.bl _ | .int _,.str _ | .int _,.tup _ | .int _,.ro _ | .int _,.ref _ | .int _,.ty _=>isFalse (λe=>nomatch e)
 | .str _,.non | .str _,.bl _ | .str _,.int _ | .str _,.tup _ | .str _,.ro _ | .str _,.ref _ | .str _,.ty _=>isFalse (λe=>nomatch e)
 | .tup _,.non | .tup _,.bl _ | .tup _,.int _ | .tup _,.str _ | .tup _,.ro _ | .tup _,.ref _ | .tup _,.ty _=>isFalse (λe=>nomatch e)
 | .ro _,.non | .ro _,.bl _ | .ro _,.int _ | .ro _,.str _ | .ro _,.tup _ | .ro _,.ref _ | .ro _,.ty _=>isFalse (λe=>nomatch e)
 | .ref _,.non | .ref _,.bl _ | .ref _,.int _ | .ref _,.str _ | .ref _,.tup _ | .ref _,.ro _ | .ref _,.ty _=>isFalse (λe=>nomatch e)
 | .ty _,.non | .ty _,.bl _ | .ty _,.int _ | .ty _,.str _ | .ty _,.tup _ | .ty _,.ro _ | .ty _,.ref _=>isFalse (λe=>nomatch e)
noncomputable def D.decEqs:(a b:List D)->Decidable (a=b)
 | [],[]=>isTrue rfl
 | [],_::_=>isFalse (λe=>nomatch e)
 | _::_,[]=>isFalse (λe=>nomatch e)
 | a::r,b::t=>match D.decEq a b,D.decEqs r t with
  | isTrue h,isTrue k=>isTrue (by rw[h,k])
  | isFalse h,_=>isFalse (λe=>h (dB e).1)
  | _,isFalse k=>isFalse (λe=>k (dB e).2)
end
instance:DecidableEq D:=D.decEq
inductive O where
 | lst (xs:List D) | dct (kvs:List (D×D)) | fdc (kvs:List (D×D)) | dtt (kvs:List (D×D)) | ftt (kvs:List (D×D)) | ins (c:Nat) (fs:List (Option D))
 deriving DecidableEq
abbrev S:=List O
abbrev St:=List (Option D)
inductive R (α:Type) where
 | ok (a:α) (s:S) | exc (e:D) (s:S) | no
noncomputable def R.bind {c g:Type}:R c->(c->S->R g)->R g
 | .ok a s,f=>f a s
 | .exc e s,_=>.exc e s
 | .no,_=>.no
@[simp] theorem R.bind_ok {c e:Type} (a:c) (s:S) (f:c->S->R e):(R.ok a s).bind f=f a s:=rfl
@[simp] theorem R.bind_no {c e:Type} (f:c->S->R e):(R.no:R c).bind f=.no:=rfl
@[simp] theorem R.bind_exc {c g:Type} (e:D) (s:S) (f:c->S->R g):(R.exc e s:R c).bind f=.exc e s:=rfl
section
variable {α β:Type}{c:Prop} [Decidable c]
@[simp] theorem R.bind_ite (a b:R α) (f:α->S->R β):(if c then a else b).bind f=if c then a.bind f else b.bind f:=by split<;>rfl
@[simp] theorem R.ite_ok (a b:α) (s:S):(if c then R.ok a s else R.ok b s)=R.ok (if c then a else b) s:=by split<;>rfl
@[simp] theorem D.ite_bl (a b:Bool):(if c then D.bl a else D.bl b)=D.bl (if c then a else b):=by split<;>rfl
@[simp] theorem D.ite_int (a b:Int):(if c then D.int a else D.int b)=D.int (if c then a else b):=by split<;>rfl
@[simp] theorem D.ite_str (a b:T):(if c then D.str a else D.str b)=D.str (if c then a else b):=by split<;>rfl
@[simp] theorem D.ite_tup (a b:List D):(if c then D.tup a else D.tup b)=D.tup (if c then a else b):=by split<;>rfl
@[simp] theorem St.ite_some (a b:D):(if c then some a else some b)=some (if c then a else b):=by split<;>rfl
@[simp] theorem St.ite_cons (a b:Option D) (r t:St):(if c then a::r else b::t)=(if c then a else b)::(if c then r else t):=by split<;>rfl
end
abbrev EM:=St->S->R D
abbrev TM:=St->S->R Bool
abbrev AM:=St->S->R (List D)
noncomputable def SZ:Nat:=16777216
@[simp] noncomputable def zA (i:Nat):EM:=λσ s=>match σ[i]? with
 | some (some d)=>.ok d s
 | _=>.no
@[simp] noncomputable def eC (d:D):EM:=λ_ s=>.ok d s
@[simp] def eOp (f:D->D->S->R D) (a b:EM):EM:=λσ s=>(a σ s).bind λx s=>(b σ s).bind λy s=>f x y s
@[simp] def eUn (f:D->S->R D) (a:EM):EM:=λσ s=>(a σ s).bind λx s=>f x s
@[simp] noncomputable def zC:AM:=λ_ s=>.ok [] s
@[simp] def zB (a:EM) (r:AM):AM:=λσ s=>(a σ s).bind λx s=>(r σ s).bind λxs s=>.ok (x::xs) s
@[simp] def zr (a:AM):EM:=λσ s=>(a σ s).bind λxs s=>if xs.length <= SZ then .ok (.tup xs) s else .no
@[simp] noncomputable def alloc (o:O) (s:S):R D:=.ok (.ref s.length) (s++[o])
@[simp] def jR (a:AM):EM:=λσ s=>(a σ s).bind λxs s=>if xs.length <= SZ then alloc (.lst xs) s else .no
@[simp] noncomputable def zv (s:S) (i:Nat):Option (List D):=match s[i]? with
 | some (.lst xs)=>some xs
 | _=>none
@[simp] def zo:D->D->S->R D
 | .int i,.int j,s=>.ok (.int (i+j)) s
 | .str a,.str b,s=>if a.length+b.length <= SZ then .ok (.str (a++b)) s else .no
 | .tup a,.tup b,s=>if a≠[]/\a.length+b.length <= SZ then .ok (.tup (a++b)) s else .no
 | .ref i,.ref j,s=>match s[i]?,s[j]? with
  | some (.lst xs),some (.lst ys)=>if xs.length+ys.length <= SZ then alloc (.lst (xs++ys)) s else .no
  | _,_=>.no
 | _,_,_=>.no
@[simp] noncomputable def vV:D->D->S->R D
 | .int i,.int j,s=>.ok (.int (i - j)) s
 | _,_,_=>.no
noncomputable def qo (i:Int):Bool:=decide (i.natAbs < 18446744073709551616)
@[simp] def yM:D->D->S->R D
 | .int i,.int j,s=>if qo i || qo j then .ok (.int (i * j)) s else .no
 | .str a,.int n,s=>if 0 <= n/\n.natAbs <= 1000000/\a.length * n.natAbs <= 1000000 then .ok (.str (jK n.toNat a).flatten) s else .no
 | .ref p,.int n,s=>match zv s p with
  | some xs=>if n.natAbs <= 1000/\xs.length * n.natAbs <= 1000000 then alloc (.lst (jK n.toNat xs).flatten) s else .no
  | none=>.no
 | _,_,_=>.no
@[simp] noncomputable def jt:D->D->S->R D
 | .int i,.int j,s=>if 0 < j/\j.natAbs < 1073741824 then .ok (.int (i / j)) s else .no
 | _,_,_=>.no
@[simp] noncomputable def jU:D->D->S->R D
 | .int i,.int j,s=>if 0 < j then .ok (.int (i % j)) s else .no
 | _,_,_=>.no
abbrev CM:=D->D->S->R Bool
@[simp] noncomputable def cLt:CM
 | .int i,.int j,s=>.ok (decide (i < j)) s
 | .str a,.str b,s=>.ok (decide (a < b)) s
 | _,_,_=>.no
@[simp] noncomputable def cLe:CM
 | .int i,.int j,s=>.ok (decide (i <= j)) s
 | .str a,.str b,s=>.ok (!decide (b < a)) s
 | _,_,_=>.no
@[simp] noncomputable def cGt:CM
 | .int i,.int j,s=>.ok (decide (j < i)) s
 | _,_,_=>.no
inductive P where
 | non | bl (b:Bool) | int (i:Int) | str (x:T) | tup (ps:List P) | lst (ps:List P)
mutual
noncomputable def P.eqv:P->P->Bool
 | .non,.non=>true
 | .bl a,.bl b=>a == b
 | .int a,.int b=>a == b
 | .bl a,.int b=>(if a then 1 else 0) == b
 | .int a,.bl b=>a == (if b then 1 else 0)
 | .str a,.str b=>a == b
 | .tup a,.tup b=>P.eqvs a b
 | .lst a,.lst b=>P.eqvs a b
 | _,_=>false
noncomputable def P.eqvs:List P->List P->Bool
 | [],[]=>true
 | a::r,b::t=>P.eqv a b && P.eqvs r t
 | _,_=>false
end
mutual
noncomputable def P.dep:P->Nat
 | .tup ps=>P.deps ps+1
 | .lst ps=>P.deps ps+1
 | _=>0
noncomputable def P.deps:List P->Nat
 | []=>0
 | p::ps=>max (P.dep p) (P.deps ps)
end
noncomputable def qf (g:Nat->Option P):D->Option P
 | .non=>some .non
 | .bl b=>some (.bl b)
 | .int i=>some (.int i)
 | .str x=>some (.str x)
 | .tup ds=>(all ds).map .tup
 | .ro ds=>(all ds).map .lst
 | .ref i=>g i
 | .ty _=>none
where all:List D->Option (List P)
 | []=>some []
 | d::ds=>match qf g d,all ds with
  | some p,some ps=>some (p::ps)
  | _,_=>none
def toP:Nat->S->D->Option P
 | 0,_=>qf λ_=>none
 | n+1,s=>qf λi=>match zv s i with
  | some xs=>(qf.all (λj=>toP n s (.ref j)) xs).map .lst
  | none=>none
noncomputable def y0:Nat:=9
noncomputable def qE (k:D) (kvs:List (D×D)):Option D:=kvs.lookup k
def dEq (s:S) (ws:List (D×D)):List (D×D)->Option Bool
 | []=>some true
 | (k,v)::r=>match qE k ws with
  | none=>some false
  | some w=>match toP 8 s v,toP 8 s w,dEq s ws r with
   | some p,some q,some b=>if P.dep p <= 64/\P.dep q <= 64 then some (P.eqv p q && b) else none
   | _,_,_=>none
def kz (x y:D) (s:S):R Bool:=match x,y with
 | .ref i,.ref j=>match s[i]?,s[j]? with
  | some (.dct c),some (.dct ws)=>if c.length=ws.length then (match dEq s ws c with | some b=>.ok b s | none=>.no) else .ok false s
  | _,_=>.no
 | _,_=>.no
@[simp] def eqD (x y:D) (s:S):R Bool:=match x,y with
 | .str a,.str b=>.ok (decide (a=b)) s
 | .int a,.int b=>.ok (decide (a=b)) s
 | .bl a,.bl b=>.ok (decide (a=b)) s
 | .non,.non=>.ok true s
 | x,y=>match toP y0 s x,toP y0 s y with
  | some p,some q=>if P.dep p <= 64/\P.dep q <= 64 then .ok (P.eqv p q) s else .no
  | _,_=>kz x y s
@[simp] def cEq:CM:=λx y s=>eqD x y s
@[simp] def cNe:CM:=λx y s=>(eqD x y s).bind λb s=>.ok (!b) s
noncomputable def Qg (a:T):T->Bool
 | []=>a.isEmpty
 | c::r=>a.isPrefixOf (c::r) || Qg a r
noncomputable def flat:D->Bool
 | .non=>true
 | .bl _=>true
 | .int _=>true
 | .str _=>true
 | _=>false
noncomputable def eqF:D->D->Bool
 | .non,.non=>true
 | .bl a,.bl b=>a == b
 | .int a,.int b=>a == b
 | .bl a,.int b=>(if a then 1 else 0) == b
 | .int a,.bl b=>a == (if b then 1 else 0)
 | .str a,.str b=>a == b
 | _,_=>false
def ZY (x:D) (xs:List D):Bool:=xs.any λy=>eqF y x
noncomputable def qU:D->Bool
 | .int _=>true
 | .str _=>true
 | _=>false
@[simp] def inD (x y:D) (s:S):R Bool:=match y with
 | .str b=>match x with
  | .str a=>.ok (Qg a b) s
  | _=>.no
 | .tup ys=>if flat x && ys.all flat then .ok (ZY x ys) s else .no
 | .ro ys=>if flat x && ys.all flat then .ok (ZY x ys) s else .no
 | .ref i=>match s[i]? with
  | some (.lst ys)=>if flat x && ys.all flat then .ok (ZY x ys) s else .no
  | some (.dct kvs)=>if qU x then .ok (qE x kvs).isSome s else .no
  | some (.fdc kvs)=>if qU x then .ok (qE x kvs).isSome s else .no
  | _=>.no
 | _=>.no
@[simp] def cIn:CM:=λx y s=>inD x y s
@[simp] def QT:CM:=λx y s=>(inD x y s).bind λb s=>.ok (!b) s
@[simp] def ZG (c:CM) (a b:EM):EM:=λσ s=>(a σ s).bind λx s=>(b σ s).bind λy s=>(c x y s).bind λk s=>.ok (.bl k) s
@[simp] def zO (c:CM) (a b:EM):TM:=λσ s=>(a σ s).bind λx s=>(b σ s).bind λy s=>c x y s
@[simp] def uf (c d:CM) (a b e:EM):EM:=λσ s=>(a σ s).bind λx s=>(b σ s).bind λy s=>(c x y s).bind λk s =>
 if k then (e σ s).bind λz s=>(d y z s).bind λk s=>.ok (.bl k) s else .ok (.bl false) s
@[simp] def JI (c d:CM) (a b e:EM):TM:=λσ s=>(a σ s).bind λx s=>(b σ s).bind λy s=>(c x y s).bind λk s =>
 if k then (e σ s).bind λz s=>d y z s else .ok false s
@[simp] noncomputable def df:D->Bool
 | .non=>true
 | _=>false
@[simp] def Jc (a:EM):TM:=λσ s=>(a σ s).bind λx s=>.ok (df x) s
@[simp] def ZA:D->S->R Bool
 | .non,s=>.ok false s
 | .bl b,s=>.ok b s
 | .int i,s=>.ok (decide (i≠0)) s
 | .str x,s=>if x.length <= SZ then .ok (!x.isEmpty) s else .no
 | .tup ds,s=>.ok (!ds.isEmpty) s
 | .ro ds,s=>.ok (!ds.isEmpty) s
 | .ref i,s=>match s[i]? with
  | some (.lst xs)=>.ok (!xs.isEmpty) s
  | some (.dct kvs)=>.ok (!kvs.isEmpty) s
  | _=>.no
 | .ty _,_=>.no
@[simp] def qD (a:EM):TM:=λσ s=>(a σ s).bind ZA
@[simp] def qB (a:TM):TM:=λσ s=>(a σ s).bind λb s=>.ok (!b) s
@[simp] def yY (a b:TM):TM:=λσ s=>(a σ s).bind λk s=>if k then b σ s else .ok false s
@[simp] def tOr (a b:TM):TM:=λσ s=>(a σ s).bind λk s=>if k then .ok true s else b σ s
@[simp] noncomputable def asB:D->S->R Bool
 | .bl b,s=>.ok b s
 | _,_=>.no
@[simp] def Jp (a b:EM):EM:=λσ s=>(a σ s).bind λx s=>(asB x s).bind λk s=>if k then b σ s else .ok (.bl false) s
@[simp] def eIf (c:TM) (a b:EM):EM:=λσ s=>(c σ s).bind λk s=>if k then a σ s else b σ s
noncomputable def ixN (n:Nat) (i:Int):Option Nat:=if 0 <= i then (if i < n then some i.toNat else none) else if -(n:Int) <= i then some (i+n).toNat else none
def atI {c:Type} (xs:List c) (i:Int):Option c:=(ixN xs.length i).bind λj=>xs[j]?
@[simp] def zH:D->D->S->R D
 | .str x,.int i,s=>if x.length <= SZ then (match atI x i with | some c=>.ok (.str [c]) s | none=>.no) else .no
 | .tup xs,.int i,s=>match atI xs i with | some d=>.ok d s | none=>.no
 | .ro xs,.int i,s=>match atI xs i with | some d=>.ok d s | none=>.no
 | .ref p,k,s=>match s[p]? with
  | some (.lst xs)=>(match k with | .int i=>(match atI xs i with | some d=>.ok d s | none=>.no) | _=>.no)
  | some (.dct kvs)=>if qU k then (match qE k kvs with | some d=>.ok d s | none=>.no) else .no
  | some (.fdc kvs)=>if qU k then (match qE k kvs with | some d=>.ok d s | none=>.no) else .no
  | _=>.no
 | _,_,_=>.no
noncomputable def sIx (n d:Nat):Option Int->Nat
 | none=>d
 | some v=>(if v < 0 then max (v+(n:Int)) 0 else min v (n:Int)).toNat
def cut {c:Type} (xs:List c) (lo hi:Option Int):List c:=(xs.drop (sIx xs.length 0 lo)).take (sIx xs.length xs.length hi - sIx xs.length 0 lo)
abbrev OM:=St->S->R (Option Int)
@[simp] noncomputable def yh:OM:=λ_ s=>.ok none s
@[simp] def qV (a:EM):OM:=λσ s=>(a σ s).bind λx s=>match x with | .int i=>.ok (some i) s | _=>.no
@[simp] def slD (x:D) (lo hi:Option Int) (s:S):R D:=match x with
 | .str z=>if z.length <= SZ then .ok (.str (cut z lo hi)) s else .no
 | .tup xs=>if sIx xs.length 0 lo=0/\sIx xs.length xs.length hi=xs.length then .no else .ok (.tup (cut xs lo hi)) s
 | .ro xs=>alloc (.lst (cut xs lo hi)) s
 | .ref p=>match zv s p with
  | some xs=>alloc (.lst (cut xs lo hi)) s
  | none=>.no
 | _=>.no
@[simp] def eSl (a:EM) (lo hi:OM):EM:=λσ s=>(a σ s).bind λx s=>(lo σ s).bind λl s=>(hi σ s).bind λh s=>slD x l h s
@[simp] def uw (x:D) (s:S):R D:=match x with
 | .str z=>if z.length <= SZ then .ok (.str z.reverse) s else .no
 | .ref p=>match zv s p with
  | some xs=>alloc (.lst xs.reverse) s
  | none=>.no
 | _=>.no
abbrev F:=List D->S->R D
@[simp] def zJ (f:F) (a:AM):EM:=λσ s=>(a σ s).bind λxs s=>f xs s
@[simp] noncomputable def ZK (k:Kd) (x:D) (s:S):Bool:=match x with
 | .str _=>(match k with | .str=>true | _=>false)
 | .ro _=>(match k with | .list=>true | _=>false)
 | .ref p=>match s[p]? with
  | some (.lst _)=>(match k with | .list=>true | _=>false)
  | some (.dct _)=>(match k with | .dict=>true | _=>false)
  | some (.dtt _)=>(match k with | .dict=>true | _=>false)
  | _=>false
 | _=>false
@[simp] def eM (k:Kd) (f:D->F) (o:EM) (a:AM):EM:=λσ s=>(o σ s).bind λx s=>if ZK k x s then (a σ s).bind λxs s=>f x xs s else .no
@[simp] def jS (c:Nat) (f:F) (o:EM) (a:AM):EM:=λσ s=>(o σ s).bind λx s=>match x with
 | .ref p=>(match s[p]? with
  | some (.ins e _)=>if e=c then (a σ s).bind λxs s=>f (x::xs) s else .no
  | _=>.no)
 | _=>.no
@[simp] def K0 (c:Nat) (n:Nat) (f:F) (a:AM):EM:=λσ s=>(a σ s).bind λxs s=>(f (.ref s.length::xs) (s++[.ins c (jK n none)])).bind λd e=>if d=.non then .ok (.ref s.length) e else .no
@[simp] def jG (c:Nat) (i:Nat) (o:EM):EM:=λσ s=>(o σ s).bind λx s=>match x with
 | .ref p=>(match s[p]? with
  | some (.ins e fs)=>if e=c then (match fs[i]? with | some (some d)=>.ok d s | _=>.no) else .no
  | _=>.no)
 | _=>.no
@[simp] def jf:F
 | [.str x],s=>if x.length <= SZ then .ok (.int x.length) s else .no
 | [.tup xs],s=>.ok (.int xs.length) s
 | [.ro xs],s=>.ok (.int xs.length) s
 | [.ref p],s=>match s[p]? with
  | some (.lst xs)=>.ok (.int xs.length) s
  | some (.dct kvs)=>.ok (.int kvs.length) s
  | _=>.no
 | _,_=>.no
@[simp] noncomputable def ZC (n:Kd) (x:D) (s:S):R Bool:=match x with
 | .non=>.ok false s
 | .bl _=>.ok (match n with | .bool=>true | .int=>true | _=>false) s
 | .int _=>.ok (match n with | .int=>true | _=>false) s
 | .str _=>.ok (match n with | .str=>true | _=>false) s
 | .tup _=>.ok (match n with | .tuple=>true | _=>false) s
 | .ro _=>.ok (match n with | .list=>true | _=>false) s
 | .ty _=>.no
 | .ref p=>match s[p]? with
  | some (.lst _)=>.ok (match n with | .list=>true | _=>false) s
  | some (.dct _)=>.ok (match n with | .dict=>true | _=>false) s
  | _=>.no
@[simp] def yE:F
 | [x,.ty n],s=>(ZC n x s).bind λb s=>.ok (.bl b) s
 | _,_=>.no
noncomputable def JL:List D->Option (List Bool)
 | []=>some []
 | .bl b::r=>(JL r).map (b :: ·)
 | _::_=>none
noncomputable def Zn:List D->Option (List T)
 | []=>some []
 | .str x::r=>(Zn r).map (x :: ·)
 | _::_=>none
noncomputable def Q9:List D->Option (List Int)
 | []=>some []
 | .int x::r=>(Q9 r).map (x :: ·)
 | _::_=>none
def Qf (xs:List D) (s:S):R D:=match JL xs with
 | some bs=>.ok (.bl (bs.all id)) s
 | none=>.no
@[simp] def Jr (k:List D->S->R D):F
 | [.tup xs],s=>k xs s
 | [.ro xs],s=>k xs s
 | [.ref p],s=>match zv s p with
  | some xs=>k xs s
  | none=>.no
 | _,_=>.no
noncomputable def yD (x:T):List T->T
 | []=>[]
 | [y]=>y
 | y::r=>y++x++yD x r
def yP (x:T) (xs:List D) (s:S):R D:=match Zn xs with
 | some ys=>if (ys.map List.length).sum+ys.length * x.length <= SZ then .ok (.str (yD x ys)) s else .no
 | none=>.no
@[simp] def QN:D->F
 | .str x,xs,s=>Jr (yP x) xs s
 | _,_,_=>.no
noncomputable def jO (c:Nat):T->List T
 | []=>[[]]
 | d::r=>if d=c then []::jO c r else match jO c r with
  | []=>[[d]]
  | p::ps=>(d::p)::ps
@[simp] def KJ:D->F
 | .str x,[.str [c]],s=>if x.length+2 <= SZ then alloc (.lst ((jO c x).map .str)) s else .no
 | _,_,_=>.no
@[simp] def uG:D->F
 | .str x,[.str [a],.str [b]],s=>if 2 * x.length+1 <= SZ then .ok (.str (x.map λc=>if c=a then b else c)) s else .no
 | _,_,_=>.no
noncomputable def xb (c:Nat) (x:T) (i:Nat):Int:=match (x.drop i).findIdx? (· == c) with
 | some j=>((i+j:Nat):Int)
 | none=>-1
@[simp] def um:D->F
 | .str x,[.str [c]],s=>if x.length <= SZ then .ok (.int (xb c x 0)) s else .no
 | _,_,_=>.no
noncomputable def Js (i:Int):T:=(toString i).toList.map Char.toNat
@[simp] def Uh:F
 | [.int i],s=>if qo i then .ok (.str (Js i)) s else .no
 | _,_=>.no
@[simp] noncomputable def u4:F
 | [.int i],s=>.ok (.int i) s
 | [.bl b],s=>.ok (.int (if b then 1 else 0)) s
 | _,_=>.no
@[simp] def QM:F
 | [.tup xs],s=>alloc (.lst xs) s
 | [.ro xs],s=>alloc (.lst xs) s
 | [.ref p],s=>match s[p]? with
  | some (.lst xs)=>alloc (.lst xs) s
  | some (.dct kvs)=>alloc (.lst (kvs.map (·.1))) s
  | _=>.no
 | _,_=>.no
@[simp] def X9:F
 | [.ref p],s=>match s[p]? with
  | some (.dct kvs)=>alloc (.dct kvs) s
  | _=>.no
 | _,_=>.no
@[simp] def XY:F
 | [.tup xs],s=>.ok (.tup xs) s
 | [.ref p],s=>match zv s p with
  | some xs=>.ok (.tup xs) s
  | none=>.no
 | _,_=>.no
@[simp] def yl:D->F
 | .ref p,[y],s=>match s[p]? with
  | some (.lst xs)=>if xs.length < SZ then .ok .non (s.set p (.lst (xs++[y]))) else .no
  | _=>.no
 | _,_,_=>.no
@[simp] noncomputable def qq:D->F
 | .ref p,[],s=>match s[p]? with
  | some (.lst xs)=>(match xs.getLast? with | some y=>.ok y (s.set p (.lst xs.dropLast)) | none=>.no)
  | _=>.no
 | _,_,_=>.no
noncomputable def ym (k v:D) (kvs:List (D×D)):List (D×D):=if (kvs.any λp=>decide (p.1=k))=true then kvs.map λp=>if p.1=k then (p.1,v) else p else kvs++[(k,v)]
def xk:List D->Option (List (D×D))
 | []=>some []
 | .tup [k,v]::r=>if qU k then (xk r).map ((k,v) :: ·) else none
 | _::_=>none
def Ck (ps:List (D×D)):List (D×D):=ps.foldl (λa p=>ym p.1 p.2 a) []
@[simp] def Q2:F
 | [.ref p],s=>match s[p]? with
  | some (.lst xs)=>(match xk xs with | some ps=>if ps.length <= 1000 then alloc (.dct (Ck ps)) s else .no | none=>.no)
  | _=>.no
 | _,_=>.no
@[simp] def xP:EM:=λ_ s=>alloc (.dct []) s
noncomputable def LH:List T->Option T
 | []=>none
 | x::r=>some (r.foldl (λb y=>if b < y then y else b) x)
noncomputable def iI:List Int->Option Int
 | []=>none
 | x::r=>some (r.foldl (λb y=>if b < y then y else b) x)
def Ua (xs:List D) (s:S):R D:=match Q9 xs with
 | some ys=>(match iI ys with | some y=>.ok (.int y) s | none=>.no)
 | none=>.no
def Yk (xs:List D) (s:S):R D:=match Zn xs with
 | some ys=>(match LH ys with | some y=>.ok (.str y) s | none=>.no)
 | none=>Ua xs s
@[simp] def wb (k:List D->S->R D):F
 | [.ref p],s=>match zv s p with
  | some xs=>k xs s
  | none=>.no
 | _,_=>.no
@[simp] def YL:F:=λxs s=>wb Yk xs s
@[simp] noncomputable def Kw:F
 | [.int i,.int j],s=>.ok (.int (if j < i then j else i)) s
 | _,_=>.no
noncomputable def qg:List T->List T
 | []=>[]
 | x::r=>insT' x (qg r)
where insT' (x:T):List T->List T
 | []=>[x]
 | y::r=>if y < x then y::insT' x r else x::y::r
def Yw (xs:List D) (s:S):R D:=match Zn xs with
 | some ys=>if ys.length <= 16777216 then alloc (.lst ((qg ys).map .str)) s else .no
 | none=>.no
@[simp] def Yz:F
 | [.ref p],s=>match zv s p with
  | some xs=>Yw xs s
  | none=>.no
 | _,_=>.no
abbrev Gd:=List (Nat×O)
noncomputable def zj (g:Gd) (s:S):Bool:=g.all λp=>decide (s[p.1]? = some p.2)
abbrev IM:=St->S->R (List D×Gd)
@[simp] def itD:D->S->R (List D×Gd)
 | .str x,s=>if x.length <= SZ then .ok (x.map λc=>.str [c],[]) s else .no
 | .tup ds,s=>.ok (ds,[]) s
 | .ro ds,s=>.ok (ds,[]) s
 | .ref i,s=>match s[i]? with
  | some (.lst xs)=>.ok (xs,[(i,.lst xs)]) s
  | _=>.no
 | _,_=>.no
@[simp] def iE (a:EM):IM:=λσ s=>(a σ s).bind itD
noncomputable def ju (lo hi:Int):List D:=(j8 (hi - lo).toNat).map λ(k:Nat)=>.int (lo+k)
@[simp] def qi (a:EM):IM:=λσ s=>(a σ s).bind λx s=>match x with
 | .int j=>if j.natAbs < 4611686018427387904 then .ok (ju 0 j,[]) s else .no
 | _=>.no
@[simp] def XT (a b:EM):IM:=λσ s=>(a σ s).bind λx s=>(b σ s).bind λy s=>match x,y with
 | .int i,.int j=>if i.natAbs < 4611686018427387904/\j.natAbs < 4611686018427387904 then .ok (ju i j,[]) s else .no
 | _,_=>.no
@[simp] def Kh (a:EM):IM:=λσ s=>(a σ s).bind λx s=>match x with
 | .tup ds=>.ok (ds.reverse,[]) s
 | _=>.no
@[simp] def V4 (x:T):D->S->R D
 | .ref p,s=>(match zv s p with | some xs=>yP x xs.reverse s | none=>.no)
 | _,_=>.no
@[simp] def QH (a:EM):IM:=λσ s=>(a σ s).bind λx s=>match x with
 | .ref i=>(match s[i]? with | some (.fdc kvs)=>.ok (kvs.map (·.1),[]) s | _=>.no)
 | _=>.no
abbrev GM:=D->St->Option St
@[simp] noncomputable def zq (i:Nat):GM:=λd σ=>some (σ.set i (some d))
def qt (g:Gd) (f:D->S->R (Option D)):List D->S->R (List D)
 | [],s=>.ok [] s
 | x::xs,s=>(f x s).bind λo s=>if zj g s then (qt g f xs s).bind λys s=>.ok (match o with | some y=>y::ys | none=>ys) s else .no
@[simp] noncomputable def jk:TM:=λ_ s=>.ok true s
@[simp] def qu (n:Nat) (tg:GM) (c:TM) (e:EM) (σ:St):D->S->R (Option D):=λx s=>match tg x (σ++jK n none) with
 | none=>.no
 | some f=>(c f s).bind λb s=>if b then (e f s).bind λd s=>.ok (some d) s else .ok none s
def jz (n:Nat) (it:IM) (tg:GM) (c:TM) (e:EM):AM:=λσ s=>(it σ s).bind λp s=>if p.1.length <= SZ/\zj p.2 s=true then qt p.2 (qu n tg c e σ) p.1 s else .no
@[simp] def qr (n:Nat) (it:IM) (tg:GM) (c:TM) (e:EM):EM:=λσ s=>(jz n it tg c e σ s).bind λys s=>alloc (.lst ys) s
@[simp] def Qd (k:List D->S->R D) (n:Nat) (it:IM) (tg:GM) (c:TM) (e:EM):EM:=λσ s=>(jz n it tg c e σ s).bind k
inductive RS where
 | nx (σ:St) (s:S) | rt (d:D) (s:S) | bk (σ:St) (s:S) | ct (σ:St) (s:S) | exc (e:D) (σ:St) (s:S) | no
abbrev SM:=St->S->RS
noncomputable def R.stm {c:Type} (r:R c) (σ:St) (f:c->S->RS):RS:=match r with
 | .ok a s=>f a s
 | .exc e s=>.exc e σ s
 | .no=>.no
@[simp] theorem R.stm_ok {c:Type} (a:c) (s:S) (σ:St) (f:c->S->RS):(R.ok a s).stm σ f=f a s:=rfl
@[simp] theorem R.stm_no {c:Type} (σ:St) (f:c->S->RS):(R.no:R c).stm σ f=.no:=rfl
noncomputable def RS.then (r:RS) (f:SM):RS:=match r with
 | .nx σ s=>f σ s
 | r=>r
@[simp] theorem RS.then_nx (σ:St) (s:S) (f:SM):(RS.nx σ s).then f=f σ s:=rfl
@[simp] theorem RS.then_rt (d:D) (s:S) (f:SM):(RS.rt d s).then f=.rt d s:=rfl
@[simp] theorem RS.then_no (f:SM):RS.no.then f=.no:=rfl
@[simp] theorem RS.then_bk (σ:St) (s:S) (f:SM):(RS.bk σ s).then f=.bk σ s:=rfl
section
variable {α:Type}{c:Prop} [Decidable c]
@[simp] theorem R.stm_ite (a b:R α) (σ:St) (f:α->S->RS):(if c then a else b).stm σ f=if c then a.stm σ f else b.stm σ f:=by split<;>rfl
@[simp] theorem RS.ite_nx (a b:St) (s:S):(if c then RS.nx a s else RS.nx b s)=RS.nx (if c then a else b) s:=by split<;>rfl
@[simp] theorem RS.ite_rt (a b:D) (s:S):(if c then RS.rt a s else RS.rt b s)=RS.rt (if c then a else b) s:=by split<;>rfl
@[simp] theorem RS.then_ite (a b:RS) (f:SM):(if c then a else b).then f=if c then a.then f else b.then f:=by split<;>rfl
end
@[simp] theorem RS.then_exc (e:D) (σ:St) (s:S) (f:SM):(RS.exc e σ s).then f=.exc e σ s:=rfl
@[simp] theorem R.stm_exc {c:Type} (e:D) (s:S) (σ:St) (f:c->S->RS):(R.exc e s:R c).stm σ f=.exc e σ s:=rfl
@[simp] theorem RS.then_ct (σ:St) (s:S) (f:SM):(RS.ct σ s).then f=.ct σ s:=rfl
@[simp] noncomputable def z8:SM:=λσ s=>.nx σ s
@[simp] def zG (a b:SM):SM:=λσ s=>(a σ s).then b
@[simp] def jA (e:EM):SM:=λσ s=>(e σ s).stm σ λ_ s=>.nx σ s
@[simp] def zh (e:EM):SM:=λσ s=>(e σ s).stm σ λd s=>.rt d s
@[simp] def zP (i:Nat) (e:EM):SM:=λσ s=>(e σ s).stm σ λd s=>.nx (σ.set i (some d)) s
@[simp] def JN:D->D->S->R D
 | .int i,.int j,s=>.ok (.int (i+j)) s
 | .str a,.str b,s=>if a.length+b.length <= SZ then .ok (.str (a++b)) s else .no
 | _,_,_=>.no
@[simp] def xK (c:Nat) (i:Nat) (x y:D) (s:S):R Unit:=match x with
 | .ref p=>(match s[p]? with
  | some (.ins e fs)=>if e=c then .ok () (s.set p (.ins c (fs.set i (some y)))) else .no
  | _=>.no)
 | _=>.no
@[simp] def Zj (c:Nat) (i:Nat) (o e:EM):SM:=λσ s=>(e σ s).stm σ λy s=>(o σ s).stm σ λx s=>(xK c i x y s).stm σ λ_ s=>.nx σ s
@[simp] def XN (c:Nat) (i:Nat) (x:D) (s:S):R D:=match x with
 | .ref p=>(match s[p]? with
  | some (.ins e fs)=>if e=c then (match fs[i]? with | some (some d)=>.ok d s | _=>.no) else .no
  | _=>.no)
 | _=>.no
@[simp] def QC (f:D->D->S->R D) (c:Nat) (i:Nat) (o e:EM):SM:=λσ s=>(o σ s).stm σ λx s=>(XN c i x s).stm σ λv s=>(e σ s).stm σ λy s=>(f v y s).stm σ λz s=>(xK c i x z s).stm σ λ_ s=>.nx σ s
@[simp] def ZT (x k y:D) (s:S):R Unit:=match x with
 | .ref p=>(match s[p]? with
  | some (.lst xs)=>(match k with
   | .int i=>(match ixN xs.length i with | some j=>.ok () (s.set p (.lst (xs.set j y))) | none=>.no)
   | _=>.no)
  | some (.dct kvs)=>if qU k && decide (kvs.length < SZ) then .ok () (s.set p (.dct (ym k y kvs))) else .no
  | _=>.no)
 | _=>.no
@[simp] def yw (o k e:EM):SM:=λσ s=>(e σ s).stm σ λy s=>(o σ s).stm σ λx s=>(k σ s).stm σ λk s=>(ZT x k y s).stm σ λ_ s=>.nx σ s
@[simp] def sIf (c:TM) (a b:SM):SM:=λσ s=>(c σ s).stm σ λk s=>if k then a σ s else b σ s
def qK (g:Gd) (f:D->SM):List D->SM
 | [],σ,s=>.nx σ s
 | x::xs,σ,s=>match f x σ s with
  | .nx σ s=>if zj g s then qK g f xs σ s else .no
  | .ct σ s=>if zj g s then qK g f xs σ s else .no
  | .bk σ s=>.nx σ s
  | r=>r
@[simp] noncomputable def qO (tg:GM) (b:SM):D->SM:=λx σ s=>match tg x σ with
 | some c=>b c s
 | none=>.no
@[simp] def qZ (it:IM) (tg:GM) (b:SM):SM:=λσ s=>(it σ s).stm σ λp s=>if zj p.2 s=true then qK p.2 (qO tg b) p.1 σ s else .no
@[simp] def KY (i:Nat) (f t:O):RS->RS
 | .nx σ s=>if s[i]? = some f then .nx σ (s.set i t) else .no
 | .bk σ s=>if s[i]? = some f then .bk σ (s.set i t) else .no
 | .ct σ s=>if s[i]? = some f then .ct σ (s.set i t) else .no
 | .rt d s=>if s[i]? = some f then .rt d (s.set i t) else .no
 | _=>.no
@[simp] def thaw (i:Nat) (kvs:List (D×D)) (r:RS):RS:=KY i (.fdc kvs) (.dct kvs) r
@[simp] def vD (m:EM) (tg:GM) (b:SM):SM:=λσ s=>(m σ s).stm σ λx s=>match x with
 | .ref i=>(match s[i]? with
  | some (.dct kvs)=>thaw i kvs (qK [] (qO tg b) (kvs.map (·.1)) σ (s.set i (.fdc kvs)))
  | _=>.no)
 | _=>.no
@[simp] def Q3 (i:Nat) (b:SM):SM:=λσ s=>match σ[i]? with
 | some (some (.ref p))=>(match s[p]? with
  | some (.dct kvs)=>thaw p kvs (b σ (s.set p (.fdc kvs)))
  | _=>.no)
 | _=>.no
@[simp] noncomputable def wB (i:Nat):RS->RS
 | .nx σ s=>.nx (σ.set i none) s
 | .bk σ s=>.bk (σ.set i none) s
 | .ct σ s=>.ct (σ.set i none) s
 | .rt d s=>.rt d s
 | _=>.no
@[simp] def KA (i:Nat) (b:SM):SM:=λσ s=>wB i (b (σ.set i none) s)
def q7:Nat->TM->SM->SM
 | 0,_,_,_,_=>.no
 | n+1,c,b,σ,s=>(c σ s).stm σ λk s=>if k then (match b σ s with
  | .nx σ s=>q7 n c b σ s
  | .ct σ s=>q7 n c b σ s
  | .bk σ s=>.nx σ s
  | r=>r) else .nx σ s
noncomputable def Ke:Nat:=1000000000000
@[simp] def vn (c:TM) (b:SM):SM:=λσ s=>q7 Ke c b σ s
noncomputable def RS.out (r:RS):R D:=match r with
 | .rt d s=>.ok d s
 | .nx _ s=>.ok .non s
 | .exc e _ s=>.exc e s
 | _=>.no
@[simp] theorem RS.out_rt (d:D) (s:S):(RS.rt d s).out=.ok d s:=rfl
@[simp] theorem RS.out_nx (σ:St) (s:S):(RS.nx σ s).out=.ok .non s:=rfl
@[simp] theorem RS.out_no:RS.no.out=.no:=rfl
@[simp] theorem RS.out_exc (e:D) (σ:St) (s:S):(RS.exc e σ s).out=.exc e s:=rfl
@[simp] theorem RS.out_ite [Decidable c] (a b:RS):(if c then a else b).out=if c then a.out else b.out:=by split<;>rfl
@[simp] def fn (n:Nat) (b:SM):F:=λxs s=>(b (xs.map some++jK (n - xs.length) none) s).out
noncomputable def D.cl (n:Nat):D->Bool
 | .ref i=>decide (i < n)
 | .tup ds=>all ds
 | .ro ds=>all ds
 | _=>true
where all:List D->Bool
 | []=>true
 | d::ds=>D.cl n d && all ds
noncomputable def kyD:Nat->D->Bool
 | _,.non=>true
 | _,.int _=>true
 | _,.str _=>true
 | n+1,.tup ds=>ds.all (kyD n)
 | _,_=>false
def O.cl (n:Nat):O->Bool
 | .lst xs=>D.cl.all n xs
 | .dct kvs=>kvs.all λp=>D.cl n p.1 && D.cl n p.2
 | .fdc kvs=>kvs.all λp=>D.cl n p.1 && D.cl n p.2
 | .dtt kvs=>kvs.all λp=>D.cl n p.1 && D.cl n p.2
 | .ftt kvs=>kvs.all λp=>D.cl n p.1 && D.cl n p.2
 | .ins _ fs=>fs.all λo=>match o with | some d=>D.cl n d | none=>true
def clS (n:Nat) (s:S):Bool:=s.all (O.cl n)
noncomputable def D.ren (e:List Nat):D->D
 | .ref i=>.ref (e.getD i i)
 | .tup ds=>.tup (all ds)
 | .ro ds=>.ro (all ds)
 | d=>d
where all:List D->List D
 | []=>[]
 | d::ds=>D.ren e d::all ds
def O.ren (e:List Nat):O->O
 | .lst xs=>.lst (D.ren.all e xs)
 | .dct kvs=>.dct (kvs.map λp=>(D.ren e p.1,D.ren e p.2))
 | .fdc kvs=>.fdc (kvs.map λp=>(D.ren e p.1,D.ren e p.2))
 | .dtt kvs=>.dtt (kvs.map λp=>(D.ren e p.1,D.ren e p.2))
 | .ftt kvs=>.ftt (kvs.map λp=>(D.ren e p.1,D.ren e p.2))
 | .ins c fs=>.ins c (fs.map (Option.map (D.ren e)))
end M
namespace M
structure Emb (n:Nat) (e:List Nat) (S' S1:S):Prop where
 len:e.length=S'.length
 nd:e.Nodup
 le:n <= S'.length
 old:∀ i,i < n->e[i]? = some i
 obj:∀ (i:Nat) o,S'[i]? = some o->∃ j,e[i]? = some j/\S1[j]? = some (O.ren e o)/\O.cl S'.length o=true
def jM (n:Nat) (f q:F):Prop:=∀ ds S,ds.length=n->clS S.length S=true->D.cl.all S.length ds=true ->
 q ds S=.no\/∃ d c g e,q ds S=.ok d c/\f ds S=.ok (D.ren e d) g/\Emb S.length e c g/\D.cl c.length d=true
section
variable {e:List Nat}
mutual
theorem D.ren_id (h:∀ i,e.getD i i=i):∀ d:D,D.ren e d=d
 | .non=>rfl
 | .bl _=>rfl
 | .int _=>rfl
 | .str _=>rfl
 | .ty _=>rfl
 | .ref i=>by show D.ref (e.getD i i)=_;rw[h]
 | .tup ds=>by show D.tup (D.ren.all e ds)=_;rw[D.rens_id h]
 | .ro ds=>by show D.ro (D.ren.all e ds)=_;rw[D.rens_id h]
theorem D.rens_id (h:∀ i,e.getD i i=i):∀ ds:List D,D.ren.all e ds=ds
 | []=>rfl
 | d::ds=>by show D.ren e d::D.ren.all e ds=_;rw[D.ren_id h,D.rens_id h]
end
theorem O.ren_id (h:∀ i,e.getD i i=i) (o:O):O.ren e o=o:=by
 cases o with
 | lst xs=>show O.lst _=_;rw[D.rens_id h]
 | dct kvs =>
  show O.dct (kvs.map λp=>(D.ren e p.1,D.ren e p.2))=_;have:(λp:D×D=>(D.ren e p.1,D.ren e p.2))=id:=by funext p;rw[D.ren_id h,D.ren_id h];rfl
  rw[this,Zb]
 | fdc kvs =>
  show O.fdc (kvs.map λp=>(D.ren e p.1,D.ren e p.2))=_;have:(λp:D×D=>(D.ren e p.1,D.ren e p.2))=id:=by funext p;rw[D.ren_id h,D.ren_id h];rfl
  rw[this,Zb]
 | dtt kvs =>
  show O.dtt (kvs.map λp=>(D.ren e p.1,D.ren e p.2))=_;have:(λp:D×D=>(D.ren e p.1,D.ren e p.2))=id:=by funext p;rw[D.ren_id h,D.ren_id h];rfl
  rw[this,Zb]
 | ftt kvs =>
  show O.ftt (kvs.map λp=>(D.ren e p.1,D.ren e p.2))=_;have:(λp:D×D=>(D.ren e p.1,D.ren e p.2))=id:=by funext p;rw[D.ren_id h,D.ren_id h];rfl
  rw[this,Zb]
 | ins c fs =>
  show O.ins c (fs.map (Option.map (D.ren e)))=_;have:Option.map (D.ren e)=id:=by funext o;cases o with | none=>rfl | some d=>show some _=_;rw[D.ren_id h];rfl
  rw[this,Zb]
theorem Bq (n i:Nat):(j8 n).getD i i=i:=by
 rw[qP];by_cases h:i < n
 ·rw[vt h];rfl
 ·rw[xA (by simp;lia)];rfl
end
section
variable {e:List Nat}{n:Nat}
mutual
theorem D.ren_old (h:∀ i,i < n->e[i]? = some i):∀ d:D,D.cl n d=true->D.ren e d=d
 | .non,_=>rfl
 | .bl _,_=>rfl
 | .int _,_=>rfl
 | .str _,_=>rfl
 | .ty _,_=>rfl
 | .ref i,c=>by
  have hi:i < n:=of_decide_eq_true c;show D.ref (e.getD i i)=_;rw[qP,h i hi];rfl
 | .tup ds,c=>by show D.tup (D.ren.all e ds)=_;rw[D.rens_old h ds c]
 | .ro ds,c=>by show D.ro (D.ren.all e ds)=_;rw[D.rens_old h ds c]
theorem D.rens_old (h:∀ i,i < n->e[i]? = some i):∀ ds:List D,D.cl.all n ds=true->D.ren.all e ds=ds
 | [],_=>rfl
 | d::ds,c=>by
  have f:(D.cl n d && D.cl.all n ds)=true:=c;rw[j7] at f;show D.ren e d::D.ren.all e ds=_;rw[D.ren_old h d f.1,D.rens_old h ds f.2]
end
theorem O.ren_old (h:∀ i,i < n->e[i]? = some i) (o:O) (c:O.cl n o=true):O.ren e o=o:=by
 cases o with
 | lst xs=>show O.lst _=_;rw[D.rens_old h xs c]
 | dct kvs =>
  show O.dct (kvs.map λp=>(D.ren e p.1,D.ren e p.2))=_
  congr 1
  conv=>rhs;rw[<- Zb kvs]
  refine Zv λp g=>?_;have f:=List.all_eq_true.mp c p g;rw[j7] at f;rw[D.ren_old h _ f.1,D.ren_old h _ f.2];rfl
 | fdc kvs =>
  show O.fdc (kvs.map λp=>(D.ren e p.1,D.ren e p.2))=_
  congr 1
  conv=>rhs;rw[<- Zb kvs]
  refine Zv λp g=>?_;have f:=List.all_eq_true.mp c p g;rw[j7] at f;rw[D.ren_old h _ f.1,D.ren_old h _ f.2];rfl
 | dtt kvs =>
  show O.dtt (kvs.map λp=>(D.ren e p.1,D.ren e p.2))=_
  congr 1
  conv=>rhs;rw[<- Zb kvs]
  refine Zv λp g=>?_;have f:=List.all_eq_true.mp c p g;rw[j7] at f;rw[D.ren_old h _ f.1,D.ren_old h _ f.2];rfl
 | ftt kvs =>
  show O.ftt (kvs.map λp=>(D.ren e p.1,D.ren e p.2))=_
  congr 1
  conv=>rhs;rw[<- Zb kvs]
  refine Zv λp g=>?_;have f:=List.all_eq_true.mp c p g;rw[j7] at f;rw[D.ren_old h _ f.1,D.ren_old h _ f.2];rfl
 | ins j fs =>
  show O.ins j (fs.map (Option.map (D.ren e)))=_
  congr 1
  conv=>rhs;rw[<- Zb fs]
  refine Zv λp g=>?_;cases p with
  | none=>rfl
  | some d =>
   have f:=List.all_eq_true.mp c (some d) g;show some _=some _;rw[D.ren_old h d f]
mutual
theorem D.cl_mono {m:Nat} (h:n <= m):∀ d:D,D.cl n d=true->D.cl m d=true
 | .non,_=>rfl
 | .bl _,_=>rfl
 | .int _,_=>rfl
 | .str _,_=>rfl
 | .ty _,_=>rfl
 | .ref i,c=>decide_eq_true (qW (of_decide_eq_true c) h)
 | .tup ds,c=>D.cls_mono h ds c
 | .ro ds,c=>D.cls_mono h ds c
theorem D.cls_mono {m:Nat} (h:n <= m):∀ ds:List D,D.cl.all n ds=true->D.cl.all m ds=true
 | [],_=>rfl
 | d::ds,c=>by
  have e:(D.cl n d && D.cl.all n ds)=true:=c;rw[j7] at e;show (D.cl m d && D.cl.all m ds)=true;rw[D.cl_mono h d e.1,D.cls_mono h ds e.2];rfl
end
theorem O.cl_mono {m:Nat} (h:n <= m) (o:O) (c:O.cl n o=true):O.cl m o=true:=by
 cases o with
 | lst xs=>exact D.cls_mono h xs c
 | dct kvs =>
  refine List.all_eq_true.mpr λp f=>?_;have e:=List.all_eq_true.mp c p f;rw[j7] at e ⊢;exact⟨D.cl_mono h _ e.1,D.cl_mono h _ e.2⟩
 | fdc kvs =>
  refine List.all_eq_true.mpr λp f=>?_;have e:=List.all_eq_true.mp c p f;rw[j7] at e ⊢;exact⟨D.cl_mono h _ e.1,D.cl_mono h _ e.2⟩
 | dtt kvs =>
  refine List.all_eq_true.mpr λp f=>?_;have e:=List.all_eq_true.mp c p f;rw[j7] at e ⊢;exact⟨D.cl_mono h _ e.1,D.cl_mono h _ e.2⟩
 | ftt kvs =>
  refine List.all_eq_true.mpr λp f=>?_;have e:=List.all_eq_true.mp c p f;rw[j7] at e ⊢;exact⟨D.cl_mono h _ e.1,D.cl_mono h _ e.2⟩
 | ins g fs =>
  refine List.all_eq_true.mpr λp f=>?_;have e:=List.all_eq_true.mp c p f;cases p with
  | none=>rfl
  | some d=>exact D.cl_mono h d e
theorem AI {S:M.S} (h:clS n S=true) {i:Nat}{o:O} (e:S[i]? = some o):O.cl n o=true:=List.all_eq_true.mp h o (yZ e)
end
theorem fz {S e g:M.S} (f:S.length <= e.length) (c:clS e.length e=true):Emb S.length (j8 e.length) e (e++g) :=
 ⟨by simp,Av,f,λi hi=>by rw[vt (by lia)],λi o q=>by
  have hi:i < e.length:=(List.getElem?_eq_some_iff.mp q).1;exact⟨i,by rw[vt hi],by rw[yc hi,O.ren_id (Bq _),q],AI c q⟩⟩
theorem G8 {S g:M.S}{j:Nat} (c:clS S.length S=true) (co:O.cl S.length o=true) (h:(S++g)[j]? = some o) (l:S.length <= j):Emb S.length (j8 S.length++[j]) (S++[o]) (S++g):=by
 have old:∀ i,i < S.length->(j8 S.length++[j])[i]? = some i:=λi hi=>by
  rw[yc (by simpa using hi),vt hi]
 refine⟨by simp,?_,by simp,old,λi ob q=>?_⟩
 ·rw[KC];refine⟨Av,by simp,λa ha b m=>?_⟩;have n:=List.mem_range.mp ha;have p:b=j:=by simpa using m
  lia
 ·by_cases hi:i < S.length
  ·rw[yc hi] at q;have f:=AI c q;exact⟨i,old i hi,by rw[yc hi,O.ren_old old ob f,q],O.cl_mono (by simp) ob f⟩
  ·rw[Zh (by lia)] at q;have e:i - S.length=0:=by
    cases e:i - S.length with
    | zero=>rfl
    | succ k=>rw[e] at q;simp at q
   rw[e] at q;simp at q;subst q;refine⟨j,?_,by rw[O.ren_old old o co,h],O.cl_mono (by simp) o co⟩;rw[Zh (by simp;lia)];simp[e]
theorem jM.pure {n:Nat}{f q:F} (h:∀ ds S,ds.length=n->clS S.length S=true->D.cl.all S.length ds=true->q ds S=.no\/∃ d g,q ds S=.ok d S/\f ds S=.ok d (S++g)/\D.cl S.length d=true):jM n f q:=λds S i c j=>by
 rcases h ds S i c j with e | ⟨d,g,l,m,o⟩
 ·exact .inl e
 ·exact .inr ⟨d,S,S++g,j8 S.length,l,by rw[D.ren_id (Bq _)];exact m,fz (zg _) c,o⟩
theorem jM.new {n:Nat}{f q:F} (h:∀ ds S,ds.length=n->clS S.length S=true->D.cl.all S.length ds=true->q ds S=.no\/∃ o j g,q ds S=alloc o S/\f ds S=.ok (.ref j) (S++g)/\(S++g)[j]? = some o/\S.length <= j/\O.cl S.length o=true):jM n f q:=λds S i c l=>by
 rcases h ds S i c l with e | ⟨o,j,g,m,p,r,s,t⟩
 ·exact .inl e
 ·refine .inr ⟨.ref S.length,S++[o],S++g,j8 S.length++[j],m,?_,G8 c t r s,?_⟩
  ·rw[p];show R.ok (D.ref j) _=R.ok (D.ref ((j8 S.length++[j]).getD S.length S.length)) _;rw[qP,Zh (by simp)];simp
  ·show decide (S.length < (S++[o]).length)=true;simp
noncomputable def chS (m:F):F:=λds s=>@dite (R D) (∃ d g,m ds s=.ok d (s++g)/\D.cl s.length d=true) (gq _) (λh=>.ok h.choose s) (λ_=>.no)
theorem yj (m:F):jM n m (chS m):=jM.pure λds S f c i=>by
 unfold chS;by_cases h:∃ d g,m ds S=.ok d (S++g)/\D.cl S.length d=true
 ·obtain⟨g,e,k⟩:=h.choose_spec;exact .inr ⟨h.choose,g,by rw[dif_pos h],e,k⟩
 ·exact .inl (by rw[dif_neg h])
theorem yi {m:F}{ds:List D}{s g:S}{d:D} (e:m ds s=.ok d (s++g)) (k:D.cl s.length d=true):chS m ds s=.ok d s:=by
 have h:∃ d g,m ds s=.ok d (s++g)/\D.cl s.length d=true:=⟨d,g,e,k⟩
 obtain⟨g',c,_⟩:=h.choose_spec;have f:d=h.choose:=by
  have i:=e.symm.trans c;injection i
 unfold chS;rw[dif_pos h,<- f]
noncomputable def chN (m:F):F:=λds s=>@dite (R D) (∃ o j g,m ds s=.ok (.ref j) (s++g)/\(s++g)[j]? = some o/\s.length <= j/\O.cl s.length o=true) (gq _) (λh=>alloc h.choose s) (λ_=>.no)
theorem A6 (m:F):jM n m (chN m):=jM.new λds S f c i=>by
 unfold chN;by_cases h:∃ o j g,m ds S=.ok (.ref j) (S++g)/\(S++g)[j]? = some o/\S.length <= j/\O.cl S.length o=true
 ·obtain⟨j,g,e,k⟩:=h.choose_spec;exact .inr ⟨h.choose,j,g,by rw[dif_pos h],e,k⟩
 ·exact .inl (by rw[dif_neg h])
theorem da {m:F}{ds:List D}{s g:S}{j:Nat}{o:O} (e:m ds s=.ok (.ref j) (s++g)) (q:(s++g)[j]? = some o) (l:s.length <= j) (k:O.cl s.length o=true):chN m ds s=alloc o s:=by
 have h:∃ o j g,m ds s=.ok (.ref j) (s++g)/\(s++g)[j]? = some o/\s.length <= j/\O.cl s.length o=true:=⟨o,j,g,e,q,l,k⟩
 obtain⟨u,g',i,n,_⟩:=h.choose_spec;have p:=e.symm.trans i;injection p with c r;injection c with c;have t:o=h.choose:=by
  have f:=q;rw[r,c] at f;exact Qm (f.symm.trans n)
 unfold chN;rw[dif_pos h,<- t]
end M
namespace M
theorem BJ {f:D->S->R (Option D)}{h:D->D} (c:zj g s=true):∀ {xs:List D},(∀ x∈xs,f x s=.ok (some (h x)) s)->qt g f xs s=.ok (xs.map h) s
 | [],_=>rfl
 | x::xs,e=>by
  show (f x s).bind _=_;rw[e x qJ,R.bind_ok,if_pos c,BJ c λy i=>e y (je _ i)];rfl
theorem CS {f:D->S->R (Option D)}{p:D->Bool}{h:D->D} (c:zj g s=true):∀ {xs:List D},(∀ x∈xs,f x s=.ok (if p x then some (h x) else none) s)->qt g f xs s=.ok ((xs.filter p).map h) s
 | [],_=>rfl
 | x::xs,e=>by
  show (f x s).bind _=_;rw[e x qJ,R.bind_ok,if_pos c,CS c λy i=>e y (je _ i),R.bind_ok];cases j:p x<;>simp[j]
theorem Uj {it:IM}{σ:St}{s:S}{xs:List D}{g:Gd} (h:D->D) (hi:it σ s=.ok (xs,g) s) (f:xs.length <= SZ) (c:zj g s=true) (i:∀ x∈xs,qu n tg jk e σ x s=.ok (some (h x)) s):jz n it tg jk e σ s=.ok (xs.map h) s:=by
 unfold jz;rw[hi,R.bind_ok,if_pos ⟨f,c⟩];exact BJ c i
theorem uu {it:IM}{σ:St}{s:S}{lo:Int} (h:Nat->D) (hit:it σ s=.ok (ju lo hi,[]) s) (c:(hi - lo).toNat <= SZ) (f:∀ k:Nat,k < (hi - lo).toNat->qu n tg jk e σ (.int (lo+k)) s=.ok (some (h k)) s) :
  jz n it tg jk e σ s=.ok ((j8 (hi - lo).toNat).map h) s:=by
 have:=Uj (n:=n) (tg:=tg) (e:=e) (λd=>match d with | .int i=>h (i - lo).toNat | d=>d) hit (by simpa [ju] using c) rfl λx g=>by
  obtain⟨k,j,rfl⟩:=List.mem_map.mp g;have e:(lo+(k:Int) - lo).toNat=k:=by lia
  rw[f k (List.mem_range.mp j)];show R.ok (some (h k)) s=R.ok (some (h (lo+(k:Int) - lo).toNat)) s;rw[e]
 rw[this];unfold ju;rw[yo];have l:∀ k:Nat,(lo+(k:Int) - lo).toNat=k:=λk=>by lia
 have m:((λd=>match d with | .int i=>h (i - lo).toNat | d=>d) ∘ λ(k:Nat)=>D.int (lo+k))=h:=by
  funext k
  show h (lo+(k:Int) - lo).toNat=h k;rw[l]
 rw[m]
theorem A7 {it:IM}{σ:St}{s:S}{x:T} (h:Nat->D) (hit:it σ s=.ok (x.map λc=>.str [c],[]) s) (f:x.length <= SZ) (g:∀ c∈x,qu n tg jk e σ (.str [c]) s=.ok (some (h c)) s) :
  jz n it tg jk e σ s=.ok (x.map h) s:=by
 have:=Uj (n:=n) (tg:=tg) (e:=e) (λd=>match d with | .str [c]=>h c | d=>d) hit (by simpa using f) rfl λy i=>by
  obtain⟨c,j,rfl⟩:=List.mem_map.mp i;exact g c j
 rw[this,yo];rfl
theorem Ey {c:Type} (f:c->Bool) (xs:List c):JL (xs.map λx=>.bl (f x))=some (xs.map f):=by
 induction xs with
 | nil=>rfl
 | cons x xs e=>show (JL (xs.map λx=>D.bl (f x))).map _=_;rw[e];rfl
theorem all_map {c:Type} (f:c->Bool) (xs:List c) (s:S):Qf (xs.map λx=>.bl (f x)) s=.ok (.bl (xs.all f)) s:=by
 unfold Qf;rw[Ey];simp[We]
theorem br {c:Type} (xs:List c) (lo hi:Option Int):(cut xs lo hi).length <= xs.length:=by
 unfold cut;rw[yz,Qa];lia
theorem KQ {c:Type} (xs:List c) {k:Int} (h:0 <= k):cut xs none (some k)=xs.take k.toNat:=by
 unfold cut sIx;have:¬ k < 0:=by lia
 simp only[JU,if_neg this,Nat.sub_zero];by_cases e:k <= xs.length
 ·rw[show (min k (xs.length:Int)).toNat=k.toNat by lia]
 ·rw[kq (by lia),kq (by lia)]
theorem KD {c:Type} (xs:List c) {k:Int} (h:0 <= k):cut xs (some k) none=xs.drop k.toNat:=by
 unfold cut sIx;have:¬ k < 0:=by lia
 simp only[if_neg this];by_cases e:k <= xs.length
 ·rw[show (min k (xs.length:Int)).toNat=k.toNat by lia,kq (by rw[Qa];lia)]
 ·rw[dP (by lia),dP (by lia)];simp
theorem Bt {c:Type} (f:c->T) (xs:List c):Zn (xs.map λx=>.str (f x))=some (xs.map f):=by
 induction xs with
 | nil=>rfl
 | cons x xs e=>show (Zn (xs.map λx=>D.str (f x))).map _=_;rw[e];rfl
theorem Ub (xs:List T):Zn (xs.map .str)=some xs:=by
 have:=Bt (λx:T=>x) xs
 rwa [List.map_id'] at this
theorem CB (xs:List T):yD [] xs=xs.flatten:=by
 induction xs with
 | nil=>rfl
 | cons x xs c =>
  cases xs with
  | nil=>simp[yD]
  | cons y ys=>show x++[]++yD [] (y::ys)=_;rw[c];simp
theorem lz {c e:Type} (f:c->e) (xs:List c):(xs.map λx=>[f x]).flatten=xs.map f:=by
 induction xs with
 | nil=>rfl
 | cons x xs g=>rw[jN,Jf,g];rfl
theorem DB {c:Type} (f:c->Nat) (xs:List c):((xs.map λx=>[f x]).map List.length).sum=xs.length:=by
 induction xs with
 | nil=>rfl
 | cons x xs e=>rw[jN,jN,B9,e,jE];show 1+xs.length=xs.length+1;lia
theorem cq {c:Type} (f:c->Nat) (xs:List c) (s:S) (h:xs.length <= SZ):yP [] (xs.map λx=>.str [f x]) s=.ok (.str (xs.map f)) s:=by
 unfold yP;rw[Bt];dsimp only;rw[if_pos,CB,lz];rw[DB];simpa using h
noncomputable def yn (s:S):D->Bool
 | .str _=>false
 | .ty _=>false
 | .ref p=>(match s[p]? with | some (.lst _)=>true | some (.dct _)=>true | _=>false)
 | _=>true
theorem wM (n:Nat):∀ ts:List T,D.cl.all n (ts.map .str)=true
 | []=>rfl
 | _::ts=>by
  show (D.cl n (.str _) && D.cl.all n (ts.map .str))=true;rw[wM n ts];rfl
theorem va (x:T):∀ ts:List T,ZY (.str x) (ts.map .str)=ts.contains x
 | []=>rfl
 | t::ts=>by
  have:=va x ts;unfold ZY at this ⊢;rw[jN,Qo,this,IC];simp[eqF,BEq.comm (a:=t)]
theorem cF (ts:List T):(ts.map D.str).all flat=true:=by
 rw[We];exact List.all_eq_true.mpr λ_ _=>rfl
theorem Qb {c:Type}{xs:List c}{k:Int} (e:0 <= k) (h:k < xs.length) (d:c):atI xs k=some (xs.getD k.toNat d):=by
 unfold atI ixN;rw[if_pos e,if_pos h];have f:k.toNat < xs.length:=by lia
 simp[qP,f]
theorem yI {S:M.S}{p:Nat}{o:O} (e:S[p]? = some o) (g:M.S):(S++g)[p]? = some o:=by
 rw[yc (List.getElem?_eq_some_iff.mp e).1];exact e
noncomputable def jI:List T:=[[111,102],[105,102],[105,115],[116,104,101,110],[101,108,115,101],[101,97,99,104],[100,111],[105,116],[98,97,99,107],[102,105,114,115,116],[114,101,115,116],[99,111,117,110,116],[115,111,114,116,101,100],[102,97,105,108],[108,105,110,101],[109,111,114,101]]
noncomputable def Zw (x:T):Bool:=!decide (x < [97]) && !decide ([122] < x)
def qH (x:T):Bool:=decide (1 <= x.length) && decide (x.length <= 8) && !(jI.contains x) && x.all λc=>Zw [c]
theorem EN:([(.str [111,102]),(.str [105,102]),(.str [105,115]),(.str [116,104,101,110]),(.str [101,108,115,101]),(.str [101,97,99,104]),(.str [100,111]),(.str [105,116]),(.str [98,97,99,107]),(.str [102,105,114,115,116]),(.str [114,101,115,116]),(.str [99,111,117,110,116]),(.str [115,111,114,116,101,100]),(.str [102,97,105,108]),(.str [108,105,110,101]),(.str [109,111,114,101])]:List D)=jI.map .str:=rfl
theorem m9 {it:IM}{σ:St}{s f:S}{xs:List D}{g:Gd} (p:D->Bool) (h:D->D) (hi:it σ s=.ok (xs,g) f) (j:xs.length <= SZ) (i:zj g f=true) (l:∀ x∈xs,qu n tg c e σ x f=.ok (if p x then some (h x) else none) f):jz n it tg c e σ s=.ok ((xs.filter p).map h) f:=by
 unfold jz;rw[hi,R.bind_ok,if_pos ⟨j,i⟩];exact CS i l
theorem Dd {it:IM}{σ:St}{s f:S}{ts:List T}{g:Gd} (p:T->Bool) (hi:it σ s=.ok (ts.map .str,g) f) (h:ts.length <= SZ) (i:zj g f=true) (j:∀ x∈ts,qu n tg c e σ (.str x) f=.ok (if p x then some (.str x) else none) f):jz n it tg c e σ s=.ok ((ts.filter p).map .str) f:=by
 rw[m9 (λd=>match d with | .str y=>p y | _=>false) id hi (by simpa using h) i λd hd=>by
  obtain⟨y,l,rfl⟩:=List.mem_map.mp hd;exact j y l]
 rw[Zb,List.filter_map];rfl
theorem uI (c:Nat):∀ x:T,(jO c x).length <= x.length+1
 | []=>by simp[jO]
 | d::r=>by
  have e:=uI c r;unfold jO;split
  ·simp;lia
  ·split<;>simp_all<;>lia
theorem xh {f:D->SM} (I:Nat->St->S->Prop):∀ (xs:List D) (i:Nat) (σ:St) (s:S),I i σ s->(∀ (j:Nat) x,xs[j]? = some x->∀ σ s,I (i+j) σ s->∃ c l,f x σ s=.nx c l/\zj g l=true/\I (i+j+1) c l)->∃ c l,qK g f xs σ s=.nx c l/\I (i+xs.length) c l
 | [],i,σ,s,h,_=>⟨σ,s,rfl,h⟩
 | x::xs,i,σ,s,h,e=>by
  obtain⟨m,o,p,q,t⟩:=e 0 x rfl σ s h;obtain⟨n,u,v,w⟩:=xh I xs (i+1) m o t λj y z σ s A=>by
   have:=e (j+1) y (by simpa using z) σ s (by rw[show i+(j+1)=i+1+j by lia];exact A)
   rwa [show i+(j+1)+1=i+1+j+1 by lia] at this
  refine⟨n,u,?_,by rw[jE,show i+(xs.length+1)=i+1+xs.length by lia];exact w⟩;show (match f x σ s with | .nx σ s=>if zj g s then qK g f xs σ s else .no | .ct σ s=>if zj g s then qK g f xs σ s else .no | .bk σ s=>.nx σ s | r=>r)=_;rw[p];dsimp only;rw[if_pos q,v]
theorem wQ (g:Nat->Option P):∀ ts:List T,qf.all g (ts.map .str)=some (ts.map P.str)
 | []=>rfl
 | t::ts=>by
  show (match qf g (.str t),qf.all g (ts.map .str) with | some p,some ps=>some (p::ps) | _,_=>none)=_;rw[wQ g ts];rfl
theorem UE:∀ ts:List T,P.deps (ts.map P.str)=0
 | []=>by simp[P.deps]
 | t::ts=>by simp[P.deps,P.dep,UE ts]
theorem Yv:∀ ts us:List T,P.eqvs (ts.map P.str) (us.map P.str)=decide (ts=us)
 | [],[]=>by simp[P.eqvs]
 | [],u::us=>by simp[P.eqvs]
 | t::ts,[]=>by simp[P.eqvs]
 | t::ts,u::us=>by
  simp only[jN,P.eqvs,P.eqv,Yv ts us];by_cases h:t=u<;>by_cases c:ts=us<;>simp[h,c]
def qv (x:T):T:=x.map λc=>if c=10 then 32 else c
def z9 (x:T):List T:=(jO 32 (qv x)).filter λw=>decide (w≠[])
@[simp] noncomputable def K5:D->F
 | .ref p,[],s=>match s[p]? with
  | some (.dct _)=>.ok .non (s.set p (.dct []))
  | _=>.no
 | _,_,_=>.no
end M
namespace L2
open PySem PySem.Spec PyProof.Rows
noncomputable def ofT (x:M.T):Str:=⟨x.toArray⟩
theorem qS (x:M.T):(ofT x).length=x.length:=by simp[ofT,Str.length]
theorem Zi (x:M.T):(ofT x).cps.toList=x:=by simp[ofT]
theorem YK (h:ofT x=ofT y):x=y:=by rw[<- Zi x,h,Zi]
theorem aI (x y:M.T):ofT x++ofT y=ofT (x++y):=by
 show (⟨x.toArray++y.toArray⟩:Str)=_;simp[ofT]
abbrev okT (x:M.T):Prop:=x.all (λc=>decide (c < 1114112))=true
theorem V2 (h:okT x) (k:okT y):okT (x++y):=by show (x++y).all _=true;rw[List.all_append,h,k];rfl
theorem kN {y:M.T} (h:okT x) (k:∀ c∈y,c∈x):okT y:=List.all_eq_true.mpr λc e=>List.all_eq_true.mp h c (k c e)
theorem ZE:M.SZ=zf:=by rw[Zx];rfl
def QA (K:PySem.W.Frag) (H:Hp) (a:zE) (xs:List V):Prop :=
 (∃ o,H a=some (.frz o (.lst xs))) \/
  ∃ (o:Obj) (its:Array zD) (n:Nat),K.lookup a=some o/\o.cls=.type "list" /\ o.dict=none/\o.data=.seq its n/\its.size <= zf/\zd xs its.toList
theorem QA.sq {K:PySem.W.Frag}{a:zE} (h:QA K H a xs):SqL K H a xs:=by
 rcases h with ⟨o,h⟩ | h
 ·exact .inl (.inr ⟨o,h⟩)
 ·exact .inr h
structure Le (H H':Hp):Prop where
 tups:∀ b xs,H b=some (.tup xs)->H' b=some (.tup xs)
 frzs:∀ b o u,H b=some (.frz o u)->H' b=some (.frz o u)
theorem Le.refl (H:Hp):Le H H:=⟨λ_ _ h=>h,λ_ _ _ h=>h⟩
theorem Le.trans (a:Le H e) (b:Le e f):Le H f:=⟨λc xs h=>b.tups c xs (a.tups c xs h),λc o u h=>b.frzs c o u (a.frzs c o u h)⟩
theorem Le.new {H:Hp}{p:zE} (h:H p=none) (o:HO):Le H (upd H p o) :=
 ⟨λb xs q=>by rw[jF (xR q h)];exact q,λb o u q=>by rw[jF (xR q h)];exact q⟩
theorem Le.put {H:Hp}{p:zE} (h:Mut (H p)) (o:HO):Le H (upd H p o) :=
 ⟨λb xs q=>by rw[jF (λz=>by subst z;rw[q] at h;exact h)];exact q,λb o u q=>by rw[jF (λz=>by subst z;rw[q] at h;exact h)];exact q⟩
theorem Le.rol {K:PySem.W.Frag}{a:zE} (e:Le H c) (h:QA K H a xs):QA K c a xs:=by
 rcases h with ⟨o,h⟩ | h
 ·exact .inl ⟨o,e.frzs _ _ _ h⟩
 ·exact .inr h
theorem Le.sqT {K:PySem.W.Frag}{a:zE} (e:Le H c) (h:SqT K H a xs):SqT K c a xs:=by
 rcases h with (h | ⟨o,h⟩) | h
 ·exact .inl (.inl (e.tups _ _ h))
 ·exact .inl (.inr ⟨o,e.frzs _ _ _ h⟩)
 ·exact .inr h
noncomputable def yt:M.Kd->String
 | .str => "str" | .int => "int" | .bool => "bool" | .list => "list" | .tuple => "tuple" | .dict => "dict"
def zL (K:PySem.W.Frag) (c:List zE) (H:Hp):M.D->V->Prop
 | .non,v=>v=.non
 | .bl b,v=>v=.bl b
 | .int i,v=>v=.int i
 | .str x,v=>v=.str (ofT x)/\okT x
 | .ty n,v=>v=.ty (yt n)
 | .ref i,v=>∃ a,v=.ref a/\c[i]? = some a
 | .tup ds,v=>∃ a xs,v=.ref a/\SqT K H a xs/\all ds xs
 | .ro ds,v=>∃ a xs,v=.ref a/\QA K H a xs/\all ds xs
where all:List M.D->List V->Prop
 | [],xs=>xs=[]
 | d::ds,xs=>∃ y ys,xs=y::ys/\zL K c H d y/\all ds ys
abbrev zT (K:PySem.W.Frag) (c:List zE) (H:Hp):List M.D->List V->Prop:=zL.all K c H
theorem kL {f c:List zE} (h:f <+: c) {i:Nat}{a:zE} (e:f[i]? = some a):c[i]? = some a:=by
 obtain⟨t,rfl⟩:=h;rw[yc (List.getElem?_eq_some_iff.mp e).1];exact e
section
variable {K:PySem.W.Frag}{ρ ρ':List zE}{H H':Hp}
mutual
theorem zL.mono (c:ρ <+: ρ') (le:Le H H'):∀ {d:M.D}{v:V},zL K ρ H d v->zL K ρ' H' d v
 | .non,_,h=>h
 | .bl _,_,h=>h
 | .int _,_,h=>h
 | .str _,_,h=>h
 | .ty _,_,h=>h
 | .ref _,_,⟨a,e,h⟩=>⟨a,e,kL c h⟩
 | .tup _,_,⟨a,xs,e,h,r⟩=>⟨a,xs,e,le.sqT h,zT.mono c le r⟩
 | .ro _,_,⟨a,xs,e,h,r⟩=>⟨a,xs,e,le.rol h,zT.mono c le r⟩
theorem zT.mono (c:ρ <+: ρ') (le:Le H H'):∀ {ds:List M.D}{xs:List V},zT K ρ H ds xs->zT K ρ' H' ds xs
 | [],_,h=>h
 | _::_,_,⟨y,ys,e,h,r⟩=>⟨y,ys,e,zL.mono c le h,zT.mono c le r⟩
end
theorem zT.length:∀ {ds:List M.D}{xs:List V},zT K c H ds xs->ds.length=xs.length
 | [],_,h=>by cases h;rfl
 | _::_,_,⟨_,_,e,_,r⟩=>by subst e;rw[jE,jE,zT.length r]
theorem zT.get:∀ {ds:List M.D}{xs:List V}{i:Nat}{d:M.D},zT K f H ds xs->ds[i]? = some d->∃ v,xs[i]? = some v/\zL K f H d v
 | [],_,_,_,_,e=>by simp at e
 | _::_,_,0,_,⟨y,_,c,h,_⟩,e=>by subst c;simp at e;subst e;exact⟨y,rfl,h⟩
 | _::_,_,i+1,d,⟨_,ys,c,_,r⟩,e=>by
  subst c;obtain⟨v,g,j⟩:=zT.get (i:=i) (d:=d) r (by simpa using e);exact⟨v,by simpa using g,j⟩
theorem zT.app:∀ {ds es:List M.D}{xs ys:List V},zT K c H ds xs->zT K c H es ys->zT K c H (ds++es) (xs++ys)
 | [],_,_,_,h,k=>by cases h;exact k
 | _::_,_,_,_,⟨y,ys,e,h,r⟩,k=>by subst e;exact⟨y,_,rfl,h,zT.app r k⟩
theorem zT.take:∀ {ds:List M.D}{xs:List V} (n:Nat),zT K c H ds xs->zT K c H (ds.take n) (xs.take n)
 | _,_,0,_=>rfl
 | [],_,_+1,h=>by cases h;rfl
 | _::_,_,n+1,⟨y,ys,e,h,r⟩=>by subst e;exact⟨y,_,rfl,h,zT.take n r⟩
theorem zT.drop:∀ {ds:List M.D}{xs:List V} (n:Nat),zT K c H ds xs->zT K c H (ds.drop n) (xs.drop n)
 | _,_,0,h=>h
 | [],_,_+1,h=>by cases h;rfl
 | _::_,_,n+1,⟨y,ys,e,h,r⟩=>by subst e;exact zT.drop n r
theorem zT.set {d:M.D} (hd:zL K c H d v):∀ {ds:List M.D}{xs:List V} (n:Nat),zT K c H ds xs->zT K c H (ds.set n d) (xs.set n v)
 | [],_,_,h=>by cases h;rfl
 | _::_,_,0,⟨y,ys,e,h,r⟩=>by subst e;exact⟨v,ys,rfl,hd,r⟩
 | _::_,_,n+1,⟨y,ys,e,h,r⟩=>by subst e;exact⟨y,_,rfl,h,zT.set hd n r⟩
theorem zT.rev {ds:List M.D} (h:zT K c H ds xs):zT K c H ds.reverse xs.reverse:=by
 induction ds generalizing xs with
 | nil=>cases h;rfl
 | cons d ds f =>
  obtain⟨y,ys,e,g,r⟩:=h;subst e;rw[YU,YU];exact (f r).app ⟨y,[],rfl,g,rfl⟩
theorem zT.dropLast {ds:List M.D} (h:zT K c H ds xs):zT K c H ds.dropLast xs.dropLast:=by
 rw[Fj,Fj,h.length];exact h.take _
end
section
variable {K:PySem.W.Frag}{ρ ρ':List zE}{H H':Hp}{ds es:List M.D}{xs ys:List V}
theorem zL.all.mono (h:zL.all K ρ H ds xs) (c:ρ <+: ρ') (le:Le H H'):zL.all K ρ' H' ds xs:=zT.mono c le h
theorem zL.all.length (h:zL.all K ρ H ds xs):ds.length=xs.length:=zT.length h
theorem zL.all.app (h:zL.all K ρ H ds xs) (k:zL.all K ρ H es ys):zL.all K ρ H (ds++es) (xs++ys):=zT.app h k
end
def yL:M.D->Key->Prop
 | .int i,k=>k=.inl i
 | .str x,k=>k=.inr (ofT x)/\okT x
 | _,_=>False
structure Tab where
 tab:Nat->Option (zE×List Str)
 ha:M.D->Int:=λ_=>0
 x:XK:=λ_ _ _=>False
instance:CoeFun Tab λ_=>Nat->Option (zE×List Str):=⟨Tab.tab⟩
def TD (ha:M.D->Int) (a:zE) (xs:List (M.D×zE×zD)) (h:zp):Prop:=xs.length <= zf/\(a == Zs)=false/\(xs.map (·.1)).Nodup /\
 ∃ o es c,h.get? a=some o/\o.ExactDict/\o.data=.dict es c/\es.toList=xs.map λx=>⟨ha x.1,.ref x.2.1,x.2.2⟩
def TDr (K:PySem.W.Frag) (c:List zE) (H:Hp) (p:M.D×M.D) (q:M.D×zE×zD):Prop:=q.1=p.1/\M.kyD 7 p.1=true/\zL K c H p.1 (.ref q.2.1)/\∃ v,zL K c H p.2 v/\zm v q.2.2
theorem TDr.mono {K:PySem.W.Frag}{f c:List zE} (e:f <+: c) (le:Le H g) (h:TDr K f H p q):TDr K c g p q :=
 ⟨h.1,h.2.1,h.2.2.1.mono e le,let ⟨v,a,b⟩:=h.2.2.2;⟨v,a.mono e le,b⟩⟩
structure Jm (K:PySem.W.Frag) (ρ:List zE) (H:Hp) (N:List Str) (fs:List (Option M.D)) (gs:List (Str×V)):Prop where
 len:fs.length=N.length
 nd:(gs.map (·.1)).Nodup
 within:∀ f∈gs.map (·.1),f∈N
 get:∀ (i:Nat) (f:Str) (d:M.D),N[i]? = some f->fs[i]? = some (some d)->∃ v,gs.lookup f=some v/\zL K ρ H d v
def ObR (K:PySem.W.Frag) (g:Tab) (e:List zE) (H:Hp) (a:zE):M.O->Prop
 | .lst ds=>∃ xs,H a=some (.lst xs)/\zT K e H ds xs
 | .dct kvs=>∃ f,H a=some (.dK f)/\Paired (λ(p:M.D×M.D) (q:Key×V)=>yL p.1 q.1/\zL K e H p.2 q.2) kvs f
 | .fdc kvs=>∃ o f,H a=some (.frz o (.dK f))/\Paired (λ(p:M.D×M.D) (q:Key×V)=>yL p.1 q.1/\zL K e H p.2 q.2) kvs f
 | .dtt kvs=>∃ xs,H a=some (.ext (TD g.ha a xs))/\Paired (TDr K e H) kvs xs
 | .ftt kvs=>∃ o xs,H a=some (.frz o (.ext (TD g.ha a xs)))/\Paired (TDr K e H) kvs xs
 | .ins c fs=>∃ C i h N,H a=some (.ins C i h)/\g c=some (C,N)/\Jm K e H N fs h
structure zX (K:PySem.W.Frag) (Θ:Tab) (ρ:List zE) (S:M.S) (H:Hp):Prop where
 len:ρ.length=S.length
 nd:ρ.Nodup
 obj:∀ (i:Nat) (o:M.O),S[i]? = some o->∃ a,ρ[i]? = some a/\ObR K Θ ρ H a o
structure jL (K:PySem.W.Frag) (ρ:List zE) (H:Hp) (σ':M.St) (σ:St):Prop where
 len:σ'.length=σ.length
 get:∀ (i:Nat) (d:M.D),σ'[i]? = some (some d)->∃ v,σ[i]? = some (some v)/\zL K ρ H d v
section
variable {K:PySem.W.Frag}{Θ:Tab}{ρ ρ':List zE}{H H':Hp}{S:M.S}
theorem jL.mono (h:jL K ρ H c σ) (f:ρ <+: ρ') (le:Le H H'):jL K ρ' H' c σ :=
 ⟨h.len,λi d e=>let ⟨v,g,j⟩:=h.get i d e;⟨v,g,j.mono f le⟩⟩
theorem jL.set {d:M.D} (h:jL K ρ H c σ) (hd:zL K ρ H d v) (i:Nat):jL K ρ H (c.set i (some d)) (σ.set i (some v)):=by
 refine⟨by rw[yk,yk,h.len],λj e q=>?_⟩;by_cases f:i=j
 ·subst f;by_cases g:i < c.length
  ·rw[ZI g] at q;cases q;exact⟨v,by rw[ZI (h.len ▸ g)],hd⟩
  ·rw[xA (by rw[yk];lia)] at q;cases q
 ·rw[qb f] at q;rw[qb f];exact h.get j e q
theorem jL.more (h:jL K ρ H c σ) (n:Nat):jL K ρ H (c++jK n none) (σ++jK n none):=by
 refine⟨by simp[h.len],λi d q=>?_⟩;by_cases e:i < c.length
 ·rw[yc e] at q;rw[yc (h.len ▸ e)];exact h.get i d q
 ·rw[Zh (by lia),KS] at q;split at q<;>cases q
theorem zX.tracked (h:zX K Θ ρ S H) {a:zE} (m:a∈ρ):∃ o,H a=some o:=by
 obtain⟨i,hi,e⟩:=List.mem_iff_getElem.mp m;have j:i < S.length:=h.len ▸ hi;obtain⟨l,g,r⟩:=h.obj i S[i] (by simp[j]);rw[yS hi,e] at g;cases g;cases q:S[i] with
 | lst ds=>rw[q] at r;obtain⟨xs,f,_⟩:=r;exact⟨_,f⟩
 | dct kvs=>rw[q] at r;obtain⟨xs,f,_⟩:=r;exact⟨_,f⟩
 | fdc kvs=>rw[q] at r;obtain⟨o,xs,f,_⟩:=r;exact⟨_,f⟩
 | dtt kvs=>rw[q] at r;obtain⟨xs,f,_⟩:=r;exact⟨_,f⟩
 | ftt kvs=>rw[q] at r;obtain⟨o,xs,f,_⟩:=r;exact⟨_,f⟩
 | ins c fs=>rw[q] at r;obtain⟨_,_,_,_,f,_⟩:=r;exact⟨_,f⟩
theorem zX.fresh (h:zX K Θ ρ S H) {p:zE} (c:H p=none):p∉ρ:=λm=>by
 obtain⟨o,e⟩:=h.tracked m;rw[c] at e;cases e
theorem ObR.stay {a:zE} (h:ObR K Θ ρ H a o) (g:ρ <+: ρ') (le:Le H H') (e:H' a=H a):ObR K Θ ρ' H' a o:=by
 cases o with
 | lst ds=>obtain⟨xs,j,r⟩:=h;exact⟨xs,e.trans j,r.mono g le⟩
 | dct kvs=>obtain⟨l,j,r⟩:=h;exact⟨l,e.trans j,Paired.mapP r λp q z=>⟨z.1,z.2.mono g le⟩⟩
 | fdc kvs=>obtain⟨o,l,j,r⟩:=h;exact⟨o,l,e.trans j,Paired.mapP r λp q z=>⟨z.1,z.2.mono g le⟩⟩
 | dtt kvs=>obtain⟨xs,j,r⟩:=h;exact⟨xs,e.trans j,Paired.mapP r λp q z=>z.mono g le⟩
 | ftt kvs=>obtain⟨o,xs,j,r⟩:=h;exact⟨o,xs,e.trans j,Paired.mapP r λp q z=>z.mono g le⟩
 | ins c fs =>
  obtain⟨C,m,n,N,j,s,r⟩:=h;exact⟨C,m,n,N,e.trans j,s,r.len,r.nd,r.within,λi f d t u=>let ⟨v,w,x⟩:=r.get i f d t u;⟨v,w,x.mono g le⟩⟩
theorem zX.stay (h:zX K Θ ρ S H) (le:Le H H') (e:∀ a∈ρ,H' a=H a):zX K Θ ρ S H' :=
 ⟨h.len,h.nd,λi o q=>let ⟨a,c,f⟩:=h.obj i o q;⟨a,c,f.stay (jc _) le (e a (yZ c))⟩⟩
theorem zX.aside (h:zX K Θ ρ S H) {p:zE} (c:H p=none) (o:HO):zX K Θ ρ S (upd H p o) :=
 h.stay (Le.new c o) λa m=>jF (λz=>h.fresh c (z ▸ m))
theorem zX.alloc (h:zX K Θ ρ S H) {p:zE} (c:H p=none) (r:ObR K Θ (ρ++[p]) (upd H p u) p o):zX K Θ (ρ++[p]) (S++[o]) (upd H p u):=by
 refine⟨by simp[h.len],?_,λi ob q=>?_⟩
 ·rw[KC];refine⟨h.nd,by simp,λa ha b g=>?_⟩;have e:b=p:=by simpa using g
  rw[e];exact λz=>h.fresh c (z ▸ ha)
 ·by_cases j:i < S.length
  ·rw[yc j] at q;obtain⟨a,f,l⟩:=h.obj i ob q;refine⟨a,kL (Qy _ _) f,l.stay (Qy _ _) (Le.new c u) (jF λz=>h.fresh c (z ▸ yZ f))⟩
  ·rw[Zh (by lia)] at q;have hi:i - S.length=0:=by
    cases m:i - S.length with
    | zero=>rfl
    | succ k=>rw[m] at q;simp at q
   rw[hi] at q;simp at q;subst q;refine⟨p,?_,r⟩;rw[Zh (by rw[h.len];lia),h.len,hi];rfl
theorem vA {e:Type}{ρ:List e} (c:ρ.Nodup) {i j:Nat}{x:e} (a:ρ[i]? = some x) (b:ρ[j]? = some x):i=j:=by
 induction ρ generalizing i j with
 | nil=>simp at a
 | cons y r f =>
  rw[Kq] at c;cases i with
  | zero =>
   cases j with
   | zero=>rfl
   | succ j =>
    simp at a b;subst a;exact absurd (yZ b) c.1
  | succ i =>
   cases j with
   | zero =>
    simp at a b;subst b;exact absurd (yZ a) c.1
   | succ j =>
    simp at a b;rw[f c.2 a b]
theorem mB {c:Type}{l:List c} (h:∀ (i j:Nat) x,l[i]? = some x->l[j]? = some x->i=j):l.Nodup:=by
 induction l with
 | nil=>exact xw
 | cons y r f =>
  refine List.nodup_cons.mpr ⟨λm=>?_,f λi j x a b=>?_⟩
  ·obtain⟨j,g,e⟩:=List.mem_iff_getElem.mp m;have:=h 0 (j+1) y (by simp) (by simp[e,g])
   lia
  ·have:=h (i+1) (j+1) x (by simpa using a) (by simpa using b)
   lia
theorem fR {c:Type}{l:List c} (f:l.Nodup) {i j:Nat} (hi:i < l.length) (g:j < l.length) (e:l[i]=l[j]):i=j :=
 vA f (x:=l[i]) (by simp[hi]) (by rw[e];simp[g])
theorem zX.put (h:zX K Θ ρ S H) {i:Nat}{a:zE} (ha:ρ[i]? = some a) (f:Mut (H a)) (r:ObR K Θ ρ (upd H a u) a o):zX K Θ ρ (S.set i o) (upd H a u):=by
 refine⟨by simp[h.len],h.nd,λj ob q=>?_⟩;by_cases c:i=j
 ·subst c;by_cases g:i < S.length
  ·rw[ZI g] at q;cases q;exact⟨a,ha,r⟩
  ·rw[xA (by rw[yk];lia)] at q;cases q
 ·rw[qb c] at q;obtain⟨b,e,l⟩:=h.obj j ob q;refine⟨b,e,l.stay (jc _) (Le.put f u) (jF λz=>?_)⟩;subst z;exact c (vA h.nd ha e)
end
def XR (K:PySem.W.Frag) (g:Tab) (h:List zE) (H:Hp) (d:M.D) (C:zE) (e:Option zE):Prop:=∃ (c:Nat) (ds:List M.D) (N:List Str),d=.tup (.int c::ds)/\g c=some (C,N)/\((ds=[]/\N=[]/\e=none)\/∃ f vs,e=some f/\H f=some (.xd (N.zip vs))/\N.length=vs.length/\zT K h H ds vs)
def Zq (K:PySem.W.Frag) (f:Tab) (h:List zE) (H:Hp) (d:M.D) (S:M.S):Prop:=∀ c e C g,h <+: c->Le H e->zX K f c S e->XR K f c e d C g->f.x (.ref C) g e
theorem Zq.weak {K:PySem.W.Frag}{c:List zE}{d:M.D}{S:M.S} (h:Zq K g i H d S) (e:i <+: c) (le:Le H j):Zq K g c j d S:=λf m C n p l=>h f m C n (e.trans p) (le.trans l)
noncomputable def zF {g h:Type} (K:PySem.W.Frag) (i:Tab) (Rl:List zE->Hp->g->h->Prop) (j:List zE) (H:Hp):M.R g->(h->Hp->Prop)->Prop
 | .ok a f,Q=>∀ c e b,j <+: c->Le H e->zX K i c f e->Rl c e a b->Q b e
 | .exc d f,_=>Zq K i j H d f
 | .no,_=>False
noncomputable abbrev rB:List zE->Hp->Bool->Bool->Prop:=λ_ _ a b=>a=b
noncomputable abbrev rO:List zE->Hp->Option Int->Option Int->Prop:=λ_ _ a b=>a=b
section
variable {K:PySem.W.Frag}{Θ:Tab}{ρ ρ':List zE}{H H':Hp}{S:M.S}{α β γ δ:Type}{Rl:List zE->Hp->α->β->Prop}{Rk:List zE->Hp->γ->δ->Prop}{Q:β->Hp->Prop}{Q':δ->Hp->Prop}
theorem zF.weak {r:M.R α} (h:zF K Θ Rl ρ H r Q) (c:ρ <+: ρ') (le:Le H H'):zF K Θ Rl ρ' H' r Q:=by
 cases r with
 | ok a s=>exact λf g b p l=>h f g b (c.trans p) (le.trans l)
 | exc e s=>exact Zq.weak h c le
 | no=>exact h
theorem zF.bind {r:M.R α}{f:α->M.S->M.R γ} (h:zF K Θ Rk ρ H (r.bind f) Q')
  (k:∀ ρ' H' a b g,ρ <+: ρ'->Le H H'->zX K Θ ρ' g H'->Rl ρ' H' a b->zF K Θ Rk ρ' H' (f a g) Q'->Q b H'):zF K Θ Rl ρ H r Q:=by
 cases r with
 | ok a s=>exact λc i b p l j m=>k c i a b s p l j m (zF.weak h p l)
 | exc e s=>exact h
 | no=>exact h
theorem zF.here {a:α}{b:β} (h:zF K Θ Rl ρ H (.ok a S) Q) (c:zX K Θ ρ S H) (e:Rl ρ H a b):Q b H:=h ρ H b (jc _) (Le.refl _) c e
end
def RdE (K:PySem.W.Frag) (f:Tab) (m:M.EM):TE:=λσ H Q=>∃ e c S,jL K e H c σ/\zX K f e S H/\zF K f (zL K) e H (m c S) Q
def RdT (K:PySem.W.Frag) (f:Tab) (m:M.TM):TT:=λσ H Q=>∃ e c S,jL K e H c σ/\zX K f e S H/\zF K f rB e H (m c S) Q
def RdA (K:PySem.W.Frag) (f:Tab) (m:M.AM):TA:=λσ H Q=>∃ e c S,jL K e H c σ/\zX K f e S H/\zF K f (zT K) e H (m c S) Q
def RdO (K:PySem.W.Frag) (f:Tab) (m:M.OM):TO:=λσ H Q=>∃ e c S,jL K e H c σ/\zX K f e S H/\zF K f rO e H (m c S) Q
abbrev ME (X:Cx) (c:Tab) (e:ze) (m:M.EM):Prop:=PE X e (RdE X.K c m)
@[irreducible] def WE (X:Cx) (c:Tab) (e:ze) (m:M.EM):Prop:=ME X c e m
abbrev MT (X:Cx) (c:Tab) (e:ze) (m:M.TM):Prop:=PT X e (RdT X.K c m)
@[irreducible] def WT (X:Cx) (c:Tab) (e:ze) (m:M.TM):Prop:=MT X c e m
abbrev MW (X:Cx) (c:Tab) (e:ze) (m:M.TM):Prop:=PW X e (RdT X.K c m)
@[irreducible] def WW (X:Cx) (c:Tab) (e:ze) (m:M.TM):Prop:=MW X c e m
abbrev MA (X:Cx) (c:Tab) (es:List ze) (m:M.AM):Prop:=PA X es (RdA X.K c m)
@[irreducible] def WA (X:Cx) (c:Tab) (es:List ze) (m:M.AM):Prop:=MA X c es m
abbrev MO (X:Cx) (c:Tab) (e:Option ze) (m:M.OM):Prop:=PO X e (RdO X.K c m)
@[irreducible] def WO (X:Cx) (c:Tab) (e:Option ze) (m:M.OM):Prop:=MO X c e m
theorem PE.imp {X:Cx}{t':TE} (h:PE X e t) (i:∀ σ H Q,t' σ H Q->t σ H Q):PE X e t':=λc s σ H Q I q=>h c s σ H Q I (i σ H Q q)
theorem PT.imp {X:Cx}{t':TT} (h:PT X e t) (i:∀ σ H Q,t' σ H Q->t σ H Q):PT X e t':=λc s σ H Q I q=>h c s σ H Q I (i σ H Q q)
theorem PW.imp {X:Cx}{t':TT} (h:PW X e t) (i:∀ σ H Q,t' σ H Q->t σ H Q):PW X e t':=λf c s σ H Q I q=>h f c s σ H Q I (i σ H Q q)
theorem PA.imp {X:Cx}{t':TA} (h:PA X es t) (i:∀ σ H Q,t' σ H Q->t σ H Q):PA X es t':=λpos c s σ H Q I q=>h pos c s σ H Q I (i σ H Q q)
theorem PO.imp {X:Cx}{t':TO} (h:PO X e t) (i:∀ σ H Q,t' σ H Q->t σ H Q):PO X e t':=λc s σ H Q I q=>h c s σ H Q I (i σ H Q q)
theorem PE.up {X:Cx}{m:M.EM} (h:PE X e t) (i:∀ σ H Q g f S,jL X.K g H f σ->zX X.K j g S H->zF X.K j (zL X.K) g H (m f S) Q->t σ H Q):PE X e (RdE X.K j m):=h.imp λσ H Q ⟨g,f,S,a,b,c⟩=>i σ H Q g f S a b c
theorem PT.up {X:Cx}{m:M.TM} (h:PT X e t) (i:∀ σ H Q g f S,jL X.K g H f σ->zX X.K j g S H->zF X.K j rB g H (m f S) Q->t σ H Q):PT X e (RdT X.K j m):=h.imp λσ H Q ⟨g,f,S,a,b,c⟩=>i σ H Q g f S a b c
theorem PW.up {X:Cx}{m:M.TM} (h:PW X e t) (i:∀ σ H Q g f S,jL X.K g H f σ->zX X.K j g S H->zF X.K j rB g H (m f S) Q->t σ H Q):PW X e (RdT X.K j m):=h.imp λσ H Q ⟨g,f,S,a,b,c⟩=>i σ H Q g f S a b c
theorem PA.up {X:Cx}{m:M.AM} (h:PA X es t) (i:∀ σ H Q f e S,jL X.K f H e σ->zX X.K g f S H->zF X.K g (zT X.K) f H (m e S) Q->t σ H Q):PA X es (RdA X.K g m):=h.imp λσ H Q ⟨f,e,S,a,b,c⟩=>i σ H Q f e S a b c
theorem PO.up {X:Cx}{m:M.OM} (h:PO X e t) (i:∀ σ H Q g f S,jL X.K g H f σ->zX X.K j g S H->zF X.K j rO g H (m f S) Q->t σ H Q):PO X e (RdO X.K j m):=h.imp λσ H Q ⟨g,f,S,a,b,c⟩=>i σ H Q g f S a b c
noncomputable def qc:ze->Bool
 | .Starred _ _=>false
 | _=>true
theorem yH {es:List ze} (h:qc e=true):jY (e::es) env=(false,z0 e env)::jY es env:=by
 cases e<;>first | rfl | cases h
theorem JA:∀ {es:List ze},es.all qc=true->(yR pos (jY es env)).any (·.1)=false
 | [],_=>rfl
 | e::es,h=>by
  rw[JF,j7] at h;rw[yH h.1];show (false || (yR pos (jY es env)).any (·.1))=false;rw[JA h.2];rfl
theorem dN:∀ {es:List ze},es.all qc=true->(yR pos (jY es env)).all (λx=>!x.1)=true
 | [],_=>rfl
 | e::es,h=>by
  rw[JF,j7] at h;rw[yH h.1];show (true && (yR pos (jY es env)).all (λx=>!x.1))=true;rw[dN h.2];rfl
theorem bD {es:List ze} (h:es.all qc=true) (c:es.length < 30):((yR pos (jY es env)).all (λx=>!x.1) && (Kl pos (Xc [] env)).all (λx=>x.1.isSome)
  && decide (es.length+([]:List w6).length+(if ([]:List w6).isEmpty then 0 else 1) < 30))=true:=by
 rw[dN h,vC,j7];exact⟨rfl,decide_eq_true (by simpa using c)⟩
section
variable {X:Cx}{Θ:Tab}{a b c:ze}{pos:Pos}{ma mb mc:M.EM}{ta tb:M.TM}{qQ:List ze}
theorem w_me_var (i:Nat) {x:Str} (g:X.N[i]? = some x:=by rfl) (hv:Vis X.env.scope x:=by first | exact ZU rfl | exact x8 (ZU rfl) | exact x8 (x8 rfl)) (hd:(x == ("__debug__" : Str))=false:=by decide)
  (f:(x == ("__classdict__" : Str))=false:=by decide):WE X Θ (.Name x pos) (M.zA i):=by
 delta WE at ⊢
 exact (dq g hv hd f).up λσ H Q n j S st l h=>by
  unfold M.zA at h;split at h
  ·rename_i d e;obtain⟨v,m,r⟩:=st.get i d e;exact⟨v,m,h.here l r⟩
  ·exact h.elim
theorem xp {d:M.D} (h:PE X e (tC v)) (r:∀ f H,zL X.K f H d v):ME X Θ e (M.eC d):=h.up λσ H Q f g S st i h=>h.here i (r f H)
theorem w_me_int {i:Int}{j:Nat}:WE X Θ (.Constant (.int i) j pos) (M.eC (.int i)):=by
 delta WE at ⊢
 exact xp wC λ_ _=>rfl
theorem w_me_bl {k:Bool}{j:Nat}:WE X Θ (.Constant (.bool k) j pos) (M.eC (.bl k)):=by
 delta WE at ⊢
 exact xp Hq λ_ _=>rfl
theorem w_me_non {j:Nat}:WE X Θ (.Constant .none j pos) (M.eC .non):=by
 delta WE at ⊢
 exact xp fO λ_ _=>rfl
theorem w_me_str {x:Str}{j:Nat} (h:x=ofT y) (ok:okT y):WE X Θ (.Constant (.str x) j pos) (M.eC (.str y)):=by
 delta WE at ⊢
 exact xp bb λ_ _=>by rw[h];exact⟨rfl,ok⟩
theorem w_me_globS {d:M.D} (h:QB X.mg x v) (e:Gl X x) (r:∀ f H,zL X.K f H d v) (hd:(x == ("__debug__" : Str))=false:=by decide):WE X Θ (.Name x pos) (M.eC d):=by
 delta WE at ⊢
 exact xp (Bz h e hd) r
theorem w_me_ty (n:M.Kd) (e:Gl X x) (hm:X.mg x=none) (hv:yB x=some (.type (yt n))) (f:x ≠ "__name__" := by decide) (hd:(x == ("__debug__" : Str))=false:=by decide):WE X Θ (.Name x pos) (M.eC (.ty n)):=by
 delta WE at ⊢
 exact xp (FX (v:=.ty (yt n)) e hm hv rfl f hd) λ_ _=>rfl
def Ad2 (K:PySem.W.Frag) (Θ:Tab) (f:M.D->M.D->M.S->M.R M.D) (r:R2):Prop:=∀ e H S x y X Y Q,zX K Θ e S H->zL K e H x X->zL K e H y Y->zF K Θ (zL K) e H (f x y S) Q->r X Y H Q
def AdC (K:PySem.W.Frag) (Θ:Tab) (f:M.CM) (r:R2):Prop:=∀ e H S x y X Y (Q:VK),zX K Θ e S H->zL K e H x X->zL K e H y Y->zF K Θ rB e H (f x y S) (λb g=>Q (.bl b) g)->r X Y H Q
def AdN (K:PySem.W.Frag) (Θ:Tab) (f:M.F) (r:List V->Hp->VK->Prop):Prop:=∀ e H S xs g Q,zX K Θ e S H->zT K e H xs g->zF K Θ (zL K) e H (f xs S) Q->r g H Q
def AdM (K:PySem.W.Frag) (Θ:Tab) (f:M.D->M.F) (r:V->List V->Hp->VK->Prop):Prop :=
 ∀ e H S x xs X g Q,zX K Θ e S H->zL K e H x X->zT K e H xs g->zF K Θ (zL K) e H (f x xs S) Q->r X g H Q
theorem w_me_op (n:OpR X (yW o) r) (ad:Ad2 X.K Θ f r) (ha:WE X Θ a ma) (m:WE X Θ b mb):WE X Θ (.BinOp a o b pos) (M.eOp f ma mb):=by
 delta WE at ha m ⊢
 exact (mH n ha m).up λσ H Q p e S st q h=>⟨p,e,S,st,q,zF.bind h λg G x s t u v i rx w=>⟨g,e,t,st.mono u v,i,
   zF.bind w λj z y Y A B C l ry E=>ad j z A x y s Y Q l (rx.mono B C) ry E⟩⟩
noncomputable def AV:ze->Bool
 | .Slice _ _ _ _=>false
 | .Tuple _ _ _=>false
 | _=>true
theorem UF {b:ze} (h:AV b=true):cw b:=λo i=>by
 cases b<;>first | rfl | cases h
theorem w_me_ix (n:IxR X r) (ad:Ad2 X.K Θ f r) (ha:WE X Θ a ma) (m:WE X Θ b mb) (hs:AV b=true:=by rfl):WE X Θ (.Subscript a b pos) (M.eOp f ma mb):=by
 delta WE at ha m ⊢
 exact (mY n ha m (UF hs)).up λσ H Q o e S st p h=>⟨o,e,S,st,p,zF.bind h λg E x q s t u i rx v=>⟨g,e,s,st.mono t u,i,
   zF.bind v λj w y Y z A B l ry C=>ad j w z x y q Y Q l (rx.mono A B) ry C⟩⟩
theorem w_me_cmp (q:OpR X (jZ o) r) (ad:AdC X.K Θ f r) (ha:WE X Θ a ma) (p:WE X Θ b mb) (hm:Jn o b=false):WE X Θ (.Compare a [o] [b] pos) (M.ZG f ma mb):=by
 delta WE at ha p ⊢
 exact (Hf q ha p hm).up λσ H Q s g S st t h=>⟨s,g,S,st,t,zF.bind h λi N x u v w z j rx A=>⟨i,g,v,st.mono w z,j,
   zF.bind A λl B y Y C E G m ry I=>ad l B C x y u Y Q m (rx.mono E G) ry (zF.bind I λJ U k k' S3 p3 l3 n e L=>by cases e;exact L.here n rfl)⟩⟩
theorem w_mt_cmp (w:OpR X (jZ q) r) (ad:AdC X.K Θ f r) (ha:WE X Θ a ma) (t:WE X Θ b mb) (hm:Jn q b=false):WT X Θ (.Compare a [q] [b] pos) (M.zO f ma mb):=by
 delta WE WT at ha t ⊢
 exact (E6 w ha t hm).up λσ H Q z i S st A h=>⟨z,i,S,st,A,zF.bind h λj H1 x B C E G l rx I=>⟨j,i,C,st.mono E G,l,
   zF.bind I λm J y Y u L N n ry g=>ad m J u x y B Y _ n (rx.mono L N) ry (by
    revert g;cases f x y u with
    | ok k s=>exact λg o U v p3 l3 p e=>⟨v,rfl,g o U v p3 l3 p e⟩
    | exc e s=>exact λg=>g
    | no=>exact λg=>g)⟩⟩
theorem D4 {K:PySem.W.Frag} (r:zL K e H x v):decide (v=.non)=M.df x:=by
 cases x with
 | non=>cases r;rfl
 | bl b=>cases r;rfl
 | int b=>cases r;rfl
 | str b=>obtain⟨rfl,_⟩:=r;rfl
 | ty b=>cases r;rfl
 | ref i=>obtain⟨_,rfl,_⟩:=r;rfl
 | tup i=>obtain⟨_,_,rfl,_⟩:=r;rfl
 | ro i=>obtain⟨_,_,rfl,_⟩:=r;rfl
theorem w_mt_isN {j pos'} (ha:WE X Θ a ma):WT X Θ (.Compare a [.Is] [.Constant .none j pos'] pos) (M.Jc ma):=by
 delta WE WT at ha ⊢
 exact (FV (GZ ha)).up λσ H Q g e S st i h=>⟨g,e,S,st,i,zF.bind h λl n x o p q r f rx m=>⟨_,rfl,by
  rw[D4 rx];exact m.here f rfl⟩⟩
theorem AdC.to {K:PySem.W.Frag} (ad:AdC K Θ f r) {S:M.S}{Q:VK}{m:Bool->Hp->Prop} (p:zX K Θ i S H) (rx:zL K i H x n) (ry:zL K i H y Y) (h:zF K Θ rB i H (f x y S) m) (e:∀ k o,m k o->Q (.bl k) o):r n Y H Q :=
 ad i H S x y n Y Q p rx ry (by
  revert h;cases f x y S with
  | ok k s=>exact λg j t u v w l q=>e _ _ (g j t u v w l q)
  | exc e s=>exact λg=>g
  | no=>exact λg=>g)
theorem w_me_chain (ho:OpR X (jZ J) r) (v:OpR X (jZ n) r') (ad:AdC X.K Θ f r) (w:AdC X.K Θ g r') (ha:WE X Θ a ma) (L:WE X Θ b mb) (N:WE X Θ c mc)
  (hm:UA [J,n] [b,c]=false:=by with_unfolding_all rfl):WE X Θ (.Compare a [J,n] [b,c] pos) (M.uf f g ma mb mc):=by
 delta WE at ha L N ⊢
 exact (lr ho v ha L N hm).up λσ H Q ρ j S st rp h=>⟨ρ,j,S,st,rp,zF.bind h λA H1 x X1 S1 U l1 B rx h1=>⟨A,j,S1,st.mono U l1,B,
   zF.bind h1 λC H2 y Y S2 p2 l2 E ry h2=>ad.to E (rx.mono p2 l2) ry (zF.bind (Rl:=rB) (Q:=λk o=>∃ i m,C <+: i/\Le H2 o/\zX X.K Θ i m o/\zF X.K Θ (zL X.K) i o (if k=true then (mc j m).bind λz s=>(g y z s).bind λk s=>.ok (.bl k) s else .ok (.bl false) m) Q) h2
    λi H3 k k' m p t l e u=>by cases e;exact⟨i,m,p,t,l,u⟩) λk H3 ⟨i,m,p,t,l,u⟩=>⟨k,rfl,by
     cases k with
     | false=>exact Q6 (zF.here (b:=V.bl false) u l rfl)
     | true =>
      refine Qz ⟨i,j,m,st.mono (U.trans (p2.trans p)) (l1.trans (l2.trans t)),l,zF.bind u λρ4 H4 z Z S4 p4 l4 G rz h4=>w.to G (ry.mono (p.trans p4) (t.trans l4)) rz (zF.bind (Rl:=rB) (Q:=λk o=>Q (.bl k) o) h4 λρ5 H5 k k' S5 p5 l5 I e h5=>by cases e;exact h5.here I rfl) λ_ _ q=>q⟩⟩⟩⟩
theorem w_mt_chain (ho:OpR X (jZ I) r) (v:OpR X (jZ n) r') (ad:AdC X.K Θ f r) (w:AdC X.K Θ g r') (ha:WE X Θ a ma) (J:WE X Θ b mb) (L:WE X Θ c mc)
  (hm:UA [I,n] [b,c]=false:=by with_unfolding_all rfl):WT X Θ (.Compare a [I,n] [b,c] pos) (M.JI f g ma mb mc):=by
 delta WE WT at ha J L ⊢
 exact (IW ho v ha J L hm).up λσ H Q ρ j S st rp h=>⟨ρ,j,S,st,rp,zF.bind h λA H1 x X1 S1 N U B rx h1=>⟨A,j,S1,st.mono N U,B,
   zF.bind h1 λC H2 y Y S2 p2 l2 E ry h2=>ad.to E (rx.mono p2 l2) ry (zF.bind (Rl:=rB) (Q:=λk o=>∃ i m,C <+: i/\Le H2 o/\zX X.K Θ i m o/\zF X.K Θ rB i o (if k=true then (mc j m).bind λz s=>g y z s else .ok false m) Q) h2
    λi H3 k k' m p t l e u=>by cases e;exact⟨i,m,p,t,l,u⟩) λk H3 ⟨i,m,p,t,l,u⟩=>⟨k,rfl,by
     cases k with
     | false=>exact Q6 ⟨false,rfl,zF.here (b:=false) u l rfl⟩
     | true =>
      refine Qz ⟨i,j,m,st.mono (N.trans (p2.trans p)) (U.trans (l2.trans t)),l,zF.bind u λρ4 H4 z Z S4 p4 l4 G rz h4=>w.to G (ry.mono (p.trans p4) (t.trans l4)) rz h4 λk o q=>⟨k,rfl,q⟩⟩⟩⟩⟩
theorem w_mw_one_and (ha:WT X Θ a ta):WW X Θ (.BoolOp .And [a] pos) ta:=by
 delta WT WW at ha ⊢
 exact mI ha
theorem w_mw_one_or (ha:WT X Θ a ta):WW X Θ (.BoolOp .Or [a] pos) ta:=by
 delta WT WW at ha ⊢
 exact LF ha
theorem w_mw_and (ha:WT X Θ a ta) (j:WW X Θ (.BoolOp .And (b::qQ) pos) tb):WW X Θ (.BoolOp .And (a::b::qQ) pos) (M.yY ta tb):=by
 delta WT WW at ha j ⊢
 exact (lq ha j).up λσ H Q m f S st n h=>⟨m,f,S,st,n,zF.bind h λi r k s o p q g e l=>by
   cases e;cases k with
   | true=>exact Qz ⟨i,f,o,st.mono p q,g,l⟩
   | false=>exact Q6 (zF.here (b:=false) l g rfl)⟩
theorem w_mw_or (ha:WT X Θ a ta) (j:WW X Θ (.BoolOp .Or (b::qQ) pos) tb):WW X Θ (.BoolOp .Or (a::b::qQ) pos) (M.tOr ta tb):=by
 delta WT WW at ha j ⊢
 exact (F2 ha j).up λσ H Q m f S st n h=>⟨m,f,S,st,n,zF.bind h λi r k s o p q g e l=>by
   cases e;cases k with
   | true=>exact Qz (zF.here (b:=true) l g rfl)
   | false=>exact Q6 ⟨i,f,o,st.mono p q,g,l⟩⟩
theorem w_mt_not (ha:WT X Θ a ta):WT X Θ (.UnaryOp .Not a pos) (M.qB ta):=by
 delta WT at ha ⊢
 exact (E5 ha).up λσ H Q i f S st j h=>⟨i,f,S,st,j,zF.bind h λl n k o p q r g e m=>by
  cases e;exact zF.here (b:=!k) m g rfl⟩
theorem w_me_one {e} (ha:WE X Θ a ma):WE X Θ (.BoolOp e [a] pos) ma:=by
 delta WE at ha ⊢
 exact GB ha
theorem Hz {K:PySem.W.Frag}{g i:Type}{j:List zE->Hp->g->i->Prop}{e:List zE}{H:Hp}{x:M.D}{v:V}{S:M.S}{f:Bool->M.S->M.R g}{Q:i->Hp->Prop} (r:zL K e H x v) (h:zF K Θ j e H ((M.asB x S).bind f) Q):∃ k,v=.bl k/\zF K Θ j e H (f k S) Q:=by
 cases x with
 | bl b=>cases r;exact⟨b,rfl,h⟩
 | _=>exact h.elim
theorem w_me_and (ha:WE X Θ a ma) (j:WE X Θ (.BoolOp .And (b::qQ) pos) mb):WE X Θ (.BoolOp .And (a::b::qQ) pos) (M.Jp ma mb):=by
 delta WE at ha j ⊢
 exact (GU ha j).up λσ H Q m f S st n h=>⟨m,f,S,st,n,zF.bind h λi s x t o p q g rx r=>by
   obtain⟨k,e,l⟩:=Hz rx r;refine⟨k,e,?_⟩;cases k with
   | true=>exact Qz ⟨i,f,o,st.mono p q,g,l⟩
   | false=>exact Q6 (zF.here (b:=V.bl false) l g rfl)⟩
theorem w_me_ifExp (j:WT X Θ c ta) (ha:WE X Θ a ma) (l:WE X Θ b mb):WE X Θ (.IfExp c a b pos) (M.eIf ta ma mb):=by
 delta WE WT at j ha l ⊢
 exact (fF j ha l).up λσ H Q q f S st r h=>⟨q,f,S,st,r,zF.bind h λg s k t m n o i e p=>by
  cases e;cases k with
  | true=>exact Qz ⟨g,f,m,st.mono n o,i,p⟩
  | false=>exact Q6 ⟨g,f,m,st.mono n o,i,p⟩⟩
theorem Vu:MA X Θ [] M.zC:=WY.up λσ H Q g e S st f h=>zF.here (b:=[]) h f rfl
theorem w_ma_nil:WA X Θ [] M.zC:=by with_unfolding_all exact Vu
theorem Xm (ha:ME X Θ e ma) (l:MA X Θ es r) (hs:qc e=true:=by rfl):MA X Θ (e::es) (M.zB ma r) :=
 (uY ha l (yH hs)).up λσ H Q m f S st n h=>⟨m,f,S,st,n,zF.bind h λg A x o p q s i rx t=>⟨g,f,p,st.mono q s,i,
  zF.bind t λu B ys v C w y j ry z=>z.here j ⟨o,v,rfl,rx.mono w y,ry⟩⟩⟩
theorem w_ma_cons (ha:WE X Θ e ma) (f:WA X Θ es r) (hs:qc e=true:=by rfl):WA X Θ (e::es) (M.zB ma r):=by with_unfolding_all exact Xm (e:=e) (es:=es) (r:=r) ha f hs
theorem w_me_tup {n} (m:WA X Θ es r):WE X Θ (.Tuple es n pos) (M.zr r):=by
 delta WA WE at m ⊢
 exact (Gn m).up λσ H Q o g S st q h=>⟨o,g,S,st,q,zF.bind h λi t xs s u v w j rx e=>by
  by_cases f:xs.length <= M.SZ
  ·rw[if_pos f] at e;rw[ZE,rx.length] at f;exact⟨f,λp l=>e i _ _ (jc _) (Le.new l _) (j.aside l _) ⟨p,s,rfl,SqT.of qN,rx.mono (jc _) (Le.new l _)⟩⟩
  ·rw[if_neg f] at e;exact e.elim⟩
theorem zF.alloc {K:PySem.W.Frag}{e:List zE}{H:Hp}{S:M.S}{ds:List M.D}{Q:VK} (h:zF K Θ (zL K) e H (M.alloc (.lst ds) S) Q) (g:zX K Θ e S H) (r:zT K e H ds xs) {p:zE} (f:H p=none):Q (.ref p) (upd H p (.lst xs)) :=
 h (e++[p]) _ _ (Qy _ _) (Le.new f _) (g.alloc f ⟨xs,qN,r.mono (Qy _ _) (Le.new f _)⟩) ⟨p,rfl,by rw[<- g.len];simp⟩
theorem w_me_lst (j:WA X Θ es r):WE X Θ (.List es pos) (M.jR r):=by
 delta WA WE at j ⊢
 exact (EY j).up λσ H Q l g S st m h=>⟨l,g,S,st,m,zF.bind h λn q xs s t u v i rx e=>by
  by_cases f:xs.length <= M.SZ
  ·rw[if_pos f] at e;rw[ZE,rx.length] at f;exact⟨f,λp o=>e.alloc i rx o⟩
  ·rw[if_neg f] at e;exact e.elim⟩
theorem w_mo_none:WO X Θ none M.yh:=by
 delta WO at ⊢
 exact HP.up λσ H Q g e S st f h=>zF.here (b:=none) h f rfl
theorem w_mo_some (ha:WE X Θ a ma):WO X Θ (some a) (M.qV ma):=by
 delta WE WO at ha ⊢
 exact (fG ha).up λσ H Q j e S st l h=>⟨j,e,S,st,l,zF.bind h λm n x o p q r f rx g=>by
  cases x with
  | int i=>cases rx;exact⟨i,rfl,zF.here (b:=some i) g f rfl⟩
  | _=>exact g.elim⟩
theorem w_me_sl {lo:Option ze}{g:Pos} (z:SlR X r) (ad:∀ f H S x i l u Q,zX X.K Θ f S H->zL X.K f H x i->zF X.K Θ (zL X.K) f H (M.slD x l u S) Q->r i l u H Q) (ha:WE X Θ a ma) (s:WO X Θ lo A) (t:WO X Θ hi B) :
  WE X Θ (.Subscript a (.Slice lo hi none g) pos) (M.eSl ma A B):=by
 delta WE WO at ha s t ⊢
 exact (Fy z ha s t).up λσ H Q f e S st C h=>⟨f,e,S,st,C,zF.bind h λj H1 x i E v w m rx G=>⟨j,e,E,st.mono v w,m,
   zF.bind G λn H2 l l' I g y o J L=>by
    cases J;exact⟨n,e,I,st.mono (v.trans g) (w.trans y),o,zF.bind L λp N u u' U Y l3 q e3 h3=>by
     cases e3;exact ad p N U x i l u Q q (rx.mono (g.trans Y) (y.trans l3)) h3⟩⟩⟩
theorem w_me_callB {p:Pos}{id:String}{e:ze}{es:List ze} (o:jx X (.builtin id) r) (ad:AdN X.K Θ f r) (q:Gl X x) (hm:X.mg x=none) (hv:yB x=some (.builtin id)) (ha:WA X Θ (e::es) m)
  (s:x ≠ "__name__" := by decide) (g:(x == ("__debug__" : Str))=false:=by decide) (t:qc e=true:=by rfl) (i:es.all qc=true:=by rfl) :
  WE X Θ (.Call (.Name x p) (e::es) [] pos) (M.zJ f m):=by
 delta WA WE at ha ⊢
 exact (Bw o q hm hv ha s g (yH t) (JA i)).up λσ H Q u j S st v h=>⟨u,j,S,st,v,zF.bind h λl w xs y z B C n rx A=>ad l w z xs y Q n rx A⟩
theorem w_me_callTy {p:Pos}{T:String}{e:ze}{es:List ze} (o:jx X (.type T) r) (ad:AdN X.K Θ f r) (q:Gl X x) (hm:X.mg x=none) (hv:yB x=some (.type T)) (ha:WA X Θ (e::es) m)
  (s:x ≠ "__name__" := by decide) (g:(x == ("__debug__" : Str))=false:=by decide) (t:qc e=true:=by rfl) (i:es.all qc=true:=by rfl) :
  WE X Θ (.Call (.Name x p) (e::es) [] pos) (M.zJ f m):=by
 delta WA WE at ha ⊢
 exact (iy o q hm hv ha s g (yH t) (JA i)).up λσ H Q u j S st v h=>⟨u,j,S,st,v,zF.bind h λl w xs y z B C n rx A=>ad l w z xs y Q n rx A⟩
theorem aF {K:PySem.W.Frag}{S:M.S}{k:M.Kd} (l:zX K Θ m S H) (r:zL K m H x v) (h:M.ZK k x S=true):tyV K (yt k) v H:=by
 cases x with
 | str z=>obtain⟨rfl,_⟩:=r;cases k<;>first | rfl | cases h
 | ro ds =>
  obtain⟨a,xs,rfl,q,_⟩:=r;cases k<;>first | exact .inl ⟨rfl,xs,q.sq⟩ | cases h
 | ref i =>
  obtain⟨a,rfl,e⟩:=r;cases q:S[i]? with
  | none=>simp[M.ZK,q] at h
  | some o =>
   cases o with
   | lst xs =>
    obtain⟨b,f,j,g,_⟩:=l.obj _ _ q;rw[e] at f;cases f;cases k<;>first | exact .inl ⟨rfl,j,SqL.of g⟩ | simp[M.ZK,q] at h
   | dct xs =>
    obtain⟨b,f,j,g,_⟩:=l.obj _ _ q;rw[e] at f;cases f;cases k<;>first | exact .inr (.inr (.inl ⟨rfl,.inl ⟨j,g⟩⟩)) | simp[M.ZK,q] at h
   | fdc _=>simp[M.ZK,q] at h
   | ftt _=>simp[M.ZK,q] at h
   | dtt xs =>
    obtain⟨b,f,j,g,_⟩:=l.obj _ _ q;rw[e] at f;cases f;cases k<;>first | exact .inr (.inr (.inl ⟨rfl,.inr (.inr ⟨_,g,λh z=>let ⟨_,_,_,o,_,_,n,p,_⟩:=z;⟨o,n,p⟩⟩)⟩)) | simp[M.ZK,q] at h
   | ins c fs=>simp[M.ZK,q] at h
 | _=>cases h
theorem w_me_m {k:M.Kd}{T:String}{e:ze}{es:List ze}{i j:Pos}{id:String} (E:wt T) (slot:Slot T name id) (u:typeOf (.builtin id)=pure (.type "method_descriptor")) (hm:MtR X id r) (ad:AdM X.K Θ f r) (G:T=yt k) (B:WE X Θ o mo) (ha:WA X Θ (e::es) m)
  (l:JM o name X.env (z0 o X.env)=z0 o X.env:=by rfl)
  (p:(e::es).length < 30:=by exact Nat.le_of_ble_eq_true rfl) (n:(i.endLine == j.line)=true:=by rfl) (hs:qc e=true:=by rfl) (g:es.all qc=true:=by rfl) :
  WE X Θ (.Call (.Attribute o name i) (e::es) [] j) (M.eM k f mo m):=by
 delta WA WE at B ha ⊢
 exact (bS E slot u hm B ha l (bD (by rw[JF,hs,g];rfl) p) n (yH hs) (JA g)).up λσ H Q I q S st J h=>⟨I,q,S,st,J,zF.bind h λv H1 x L C N U s rx t=>by
  cases w:M.ZK k x C with
  | false=>rw[w] at t;exact t.elim
  | true =>
   rw[w] at t;exact⟨G ▸ aF s rx w,v,q,C,st.mono N U,s,zF.bind t λy Y xs Xs S2 p2 l2 z A h2=>ad y Y S2 x xs L Xs Q z (rx.mono p2 l2) A h2⟩⟩
theorem w_me_m0 {k:M.Kd}{T:String}{e g:Pos}{id:String} (v:wt T) (slot:Slot T name id) (n:typeOf (.builtin id)=pure (.type "method_descriptor")) (hm:MtR X id r) (ad:AdM X.K Θ f r) (w:T=yt k) (t:WE X Θ o mo)
  (i:JM o name X.env (z0 o X.env)=z0 o X.env:=by rfl) (j:(e.endLine == g.line)=true:=by rfl) :
  WE X Θ (.Call (.Attribute o name e) [] [] g) (M.eM k f mo M.zC):=by
 delta WE at t ⊢
 exact (fK v slot n hm t i j).up λσ H Q y p S st z h=>⟨y,p,S,st,z,zF.bind h λq A x B u C E l rx m=>by
  cases s:M.ZK k x u with
  | false=>rw[s] at m;exact m.elim
  | true =>
   rw[s] at m;exact⟨w ▸ aF l rx s,ad q A u x [] B [] Q l rx rfl m⟩⟩
end
end L2
namespace L2
open PySem PySem.Spec PyProof.Rows
def zu (K:PySem.W.Frag) (h:Tab) (i:List zE) (H:Hp):M.RS->ZN->Prop
 | .nx f g,D=>∀ c e σ,i <+: c->Le H e->zX K h c g e->jL K c e f σ->D.nx σ e
 | .rt d g,D=>∀ c e v,i <+: c->Le H e->zX K h c g e->zL K c e d v->D.rt v e
 | .bk f g,D=>∀ c e σ,i <+: c->Le H e->zX K h c g e->jL K c e f σ->D.bk σ e
 | .ct f g,D=>∀ c e σ,i <+: c->Le H e->zX K h c g e->jL K c e f σ->D.ct σ e
 | .exc d _ j,_=>Zq K h i H d j
 | .no,_=>False
def RdS (K:PySem.W.Frag) (f:Tab) (m:M.SM):TS:=λD σ H=>∃ e c S,jL K e H c σ/\zX K f e S H/\zu K f e H (m c S) D
abbrev MS (X:Cx) (c:Tab) (st:jT) (m:M.SM):Prop:=PS X st (RdS X.K c m)
@[irreducible] def WS (X:Cx) (c:Tab) (st:jT) (m:M.SM):Prop:=MS X c st m
abbrev MSs (X:Cx) (c:Tab) (st:List jT) (m:M.SM):Prop:=PSs X st (RdS X.K c m)
@[irreducible] def WSs (X:Cx) (c:Tab) (st:List jT) (m:M.SM):Prop:=MSs X c st m
theorem PS.imp {X:Cx}{t':TS} (h:PS X e t) (i:∀ D σ H,t' D σ H->t D σ H):PS X e t':=λc s σ H D I q=>h c s σ H D I (i D σ H q)
theorem PSs.imp {X:Cx}{t':TS} (h:PSs X e t) (i:∀ D σ H,t' D σ H->t D σ H):PSs X e t':=λc s σ H D I q=>h c s σ H D I (i D σ H q)
theorem PS.up {X:Cx}{m:M.SM} (h:PS X e t) (i:∀ D σ H g f S,jL X.K g H f σ->zX X.K j g S H->zu X.K j g H (m f S) D->t D σ H):PS X e (RdS X.K j m):=h.imp λD σ H ⟨g,f,S,a,b,c⟩=>i D σ H g f S a b c
theorem PSs.up {X:Cx}{m:M.SM} (h:PSs X e t) (i:∀ D σ H g f S,jL X.K g H f σ->zX X.K j g S H->zu X.K j g H (m f S) D->t D σ H):PSs X e (RdS X.K j m):=h.imp λD σ H ⟨g,f,S,a,b,c⟩=>i D σ H g f S a b c
section
variable {K:PySem.W.Frag}{Θ:Tab}{ρ ρ':List zE}{H H':Hp}{S:M.S}{α β:Type}{Rl:List zE->Hp->α->β->Prop}{Q:β->Hp->Prop}{D D':ZN}
theorem zu.weak (h:zu K Θ ρ H r D) (f:ρ <+: ρ') (le:Le H H'):zu K Θ ρ' H' r D:=by
 cases r with
 | nx a s=>exact λc g b p l=>h c g b (f.trans p) (le.trans l)
 | rt a s=>exact λc g b p l=>h c g b (f.trans p) (le.trans l)
 | bk a s=>exact λc g b p l=>h c g b (f.trans p) (le.trans l)
 | ct a s=>exact λc g b p l=>h c g b (f.trans p) (le.trans l)
 | exc e a s=>exact Zq.weak h f le
 | no=>exact h
theorem zu.stm {r:M.R α}{σ:M.St}{f:α->M.S->M.RS} (h:zu K Θ ρ H (r.stm σ f) D)
  (k:∀ ρ' H' a b g,ρ <+: ρ'->Le H H'->zX K Θ ρ' g H'->Rl ρ' H' a b->zu K Θ ρ' H' (f a g) D->Q b H'):zF K Θ Rl ρ H r Q:=by
 cases r with
 | ok a s=>exact λc i b p l j m=>k c i a b s p l j m (zu.weak h p l)
 | exc e s=>exact h
 | no=>exact h
theorem zu.nx {c:M.St} (h:zu K Θ ρ H (.nx c S) D) (e:zX K Θ ρ S H) (st:jL K ρ H c σ):D.nx σ H:=h ρ H σ (jc _) (Le.refl _) e st
theorem zu.rt {d:M.D} (h:zu K Θ ρ H (.rt d S) D) (c:zX K Θ ρ S H) (r:zL K ρ H d v):D.rt v H:=h ρ H v (jc _) (Le.refl _) c r
end
section
variable {X:Cx}{Θ:Tab}{e:ze}{pos:Pos}{m:M.EM}{st:jT}{qQ:List jT}{ms mr:M.SM}
theorem w_mss_nil:WSs X Θ [] M.z8:=by
 delta WSs at ⊢
 exact lU.up λD σ H g c S st f h=>h.nx f st
theorem w_mss_one (h:WS X Θ st ms):WSs X Θ [st] ms:=by
 delta WS WSs at h ⊢
 exact iT h
theorem w_mss_cons (i:WS X Θ st ms) (j:WSs X Θ qQ mr):WSs X Θ (st::qQ) (M.zG ms mr):=by
 delta WS WSs at i j ⊢
 exact (hY i j).up λD σ H n c S st o h=>⟨n,c,S,st,o,by
  have h':zu X.K Θ n H ((ms c S).then mr) D:=h;revert h';cases ms c S with
  | nx a s=>exact λh' f r q p l g st2=>⟨f,a,s,st2,g,zu.weak h' p l⟩
  | rt a s=>exact λh'=>h'
  | bk a s=>exact λh'=>h'
  | ct a s=>exact λh'=>h'
  | exc e a s=>exact λh'=>h'
  | no=>exact λh'=>h'⟩
theorem w_ms_expr (g:WE X Θ e m) (hs:Qc e none pos.line X.env=pure false:=by rfl):WS X Θ (.Expr e pos) (M.jA m):=by
 delta WE WS at g ⊢
 exact (DI g hs).up λD σ H i c S st j h=>⟨i,c,S,st,j,zu.stm h λl q x r s n o f rx p=>p.nx f (st.mono n o)⟩
theorem w_ms_ret (g:WE X Θ e m):WS X Θ (.Return (some e) pos) (M.zh m):=by
 delta WE WS at g ⊢
 exact (D2 g).up λD σ H i c S st j h=>⟨i,c,S,st,j,zu.stm h λl o x p q r s f rx n=>n.rt f rx⟩
theorem w_ms_set {i:Nat}{x:Str}{pos':Pos} (j:X.N.Nodup) (hi:X.N[i]? = some x) (l:Loc X.env.scope x) (g:WE X Θ e m) (hs:Qc e (some (.Name x pos')) pos.line X.env=pure false:=by kernel_rfl) (n:X.fn x=true\/X.env.scope.names.lookup x=some .local:=by first | exact .inl rfl | exact .inr rfl | assumption) :
  WS X Θ (.Assign [.Name x pos'] e pos) (M.zP i m):=by
 delta WE WS at g ⊢
 exact (HJ j hi l g hs n).up λD σ H o c S st p h=>⟨o,c,S,st,p,zu.stm h λq u x v w r s f rx t=>t.nx f ((st.mono r s).set rx i)⟩
theorem w_ms_if {a b:List jT} (j:WT X Θ c r) (ha:WSs X Θ a s) (l:WSs X Θ b t):WS X Θ (.If c a b pos) (M.sIf r s t):=by
 delta WS WSs WT at j ha l ⊢
 exact (lj j ha l).up λD σ H u f S st v h=>⟨u,f,S,st,v,zu.stm h λg x k y n o p i w q=>by
  cases w;cases k with
  | true=>exact Qz ⟨g,f,n,st.mono o p,i,q⟩
  | false=>exact Q6 ⟨g,f,n,st.mono o p,i,q⟩⟩
end
def RdG (K:PySem.W.Frag) (l:Tab) (m:List Nat) (g:M.GM):TG:=λv σ H Q=>∃ e f S d,jL K e H f σ/\zX K l e S H/\zL K e H d v/\∃ h,g d f=some h /\
 ∀ i c,Le H i->zX K l e S i->jL K e i h c->c.length=σ.length->(∀ j,j∉m->c[j]? = σ[j]?)->Q c i
abbrev MG (X:Cx) (c:Tab) (e:List Nat) (tg:ze) (g:M.GM):Prop:=PG X tg (RdG X.K c e g)
@[irreducible] def WG (X:Cx) (c:Tab) (e:List Nat) (tg:ze) (g:M.GM):Prop:=MG X c e tg g
theorem PG.imp {X:Cx}{t':TG} (h:PG X e t) (i:∀ v σ H Q,t' v σ H Q->t v σ H Q):PG X e t':=λc s σ H v u Q I r q=>h c s σ H v u Q I r (i v σ H Q q)
theorem w_mg_name {X:Cx}{pos:Pos}{i:Nat}{x:Str} (c:X.N.Nodup) (hi:X.N[i]? = some x) (f:Loc X.env.scope x) (g:X.fn x=true\/X.env.scope.names.lookup x=some .local:=by first | exact .inl rfl | exact .inr rfl | assumption) :
  WG X r [i] (.Name x pos) (M.zq i):=by
 delta WG at ⊢
 exact (GY c hi f g).imp λv σ H Q l=>by
  obtain⟨s,m,S,d,st,n,o,p,e,h⟩:=l;cases e;exact h H _ (Le.refl _) n (st.set o i) (by rw[yk]) λj q=>qb (λz=>q (by rw[z];simp))
structure ItR (K:PySem.W.Frag) (Θ:Tab) (ρ:List zE) (H:Hp) (J:It) (xs:List M.D) (g:M.Gd):Prop where
 go:∀ (i:Nat) ρ' S' H',ρ <+: ρ'->Le H H'->zX K Θ ρ' S' H'->M.zj g S'=true->i < xs.length->J.go i H'
 yld:∀ (i:Nat) ρ' S' H' v H2,ρ <+: ρ'->Le H H'->zX K Θ ρ' S' H'->M.zj g S'=true->i < xs.length->J.yld i H' v H2->∃ d,xs[i]? = some d/\zL K ρ' H2 d v/\Le H' H2/\zX K Θ ρ' S' H2
 stop:∀ ρ' S' H',ρ <+: ρ'->Le H H'->zX K Θ ρ' S' H'->M.zj g S'=true->J.stop xs.length H'
def RdI (K:PySem.W.Frag) (e:Tab) (m:M.IM):TI:=λσ H R=>∃ f c S,jL K f H c σ/\zX K e f S H /\
 zF K e (λg h (p:List M.D×M.Gd) (J:It)=>ItR K e g h J p.1 p.2) f H ((m c S).bind λp s=>if M.zj p.2 s then .ok p s else .no) R
abbrev MI (X:Cx) (e:Tab) (tg c:ze) (m:M.IM):Prop:=PI X tg c (RdI X.K e m)
@[irreducible] def WI (X:Cx) (e:Tab) (tg c:ze) (m:M.IM):Prop:=MI X e tg c m
theorem PI.imp {X:Cx}{t':TI} (h:PI X tg e t) (i:∀ σ H R,t' σ H R->t σ H R):PI X tg e t':=λc s σ H R I q=>h c s σ H R I (i σ H R q)
theorem PI.or {X:Cx} (h:PI X tg e t) (h':PI X tg e t'):PI X tg e (λσ H R=>t σ H R\/t' σ H R):=λc s σ H R I q=>by
 rcases q with q | q
 ·exact h c s σ H R I q
 ·exact h' c s σ H R I q
section
variable {X:Cx}{Θ:Tab}{tg e:ze}{m:M.EM}
theorem Hs {K:PySem.W.Frag}{u:List zE}{i:Nat}{a:zE}{ds:List M.D} (ha:u[i]? = some a):ItR K Θ u H (Itl K a) ds [(i,.lst ds)]:=by
 have n:∀ {c:List zE}{o:M.S}{q:Hp},u <+: c->zX K Θ c o q->M.zj [(i,.lst ds)] o=true->∃ f,q a=some (.lst f)/\zT K c q ds f:=λ{c o q} p h g=>by
  have g':o[i]? = some (M.O.lst ds):=by simpa [M.zj] using g
  obtain⟨b,s,f,w,r⟩:=h.obj i _ g';rw[kL p ha] at s;cases s;exact⟨f,w,r⟩
 refine⟨λj c o q p l h g t=>?_,λj c o q v z p l h g t y=>?_,λc o q p l h g=>?_⟩
 ·obtain⟨f,e,r⟩:=n p h g;obtain⟨v,s,_⟩:=r.get (i:=j) (d:=ds[j]) (by simp[t]);exact⟨f,v,SqL.of e,s⟩
 ·obtain⟨f,e,r⟩:=n p h g;obtain⟨A,s,x⟩:=r.get (i:=j) (d:=ds[j]) (by simp[t]);obtain⟨rfl,y2⟩:=y;have y3:=y2 f (SqL.of e);rw[s] at y3;cases y3;exact⟨ds[j],by simp[t],x,Le.refl _,h⟩
 ·obtain⟨f,e,r⟩:=n p h g;exact⟨f,SqL.of e,XU r.length.symm⟩
theorem E9 {K:PySem.W.Frag}{a:zE}{ds:List M.D} (hq:QA K H a xs) (r:zT K s H ds xs):ItR K Θ s H (Itl K a) ds []:=by
 refine⟨λj c o q p l h g f=>?_,λj c o q v u p l h g f y=>?_,λc o q p l h g=>?_⟩
 ·obtain⟨v,n,_⟩:=r.get (i:=j) (d:=ds[j]) (by simp[f]);exact⟨xs,v,(l.rol hq).sq,n⟩
 ·obtain⟨w,n,t⟩:=(r.mono p l).get (i:=j) (d:=ds[j]) (by simp[f]);obtain⟨rfl,y2⟩:=y;have y3:=y2 xs (l.rol hq).sq;rw[n] at y3;cases y3;exact⟨ds[j],by simp[f],t,Le.refl _,h⟩
 ·exact⟨xs,(l.rol hq).sq,XU r.length.symm⟩
theorem Ip {K:PySem.W.Frag}{a:zE}{ds:List M.D} (hq:SqT K H a xs) (r:zT K s H ds xs):ItR K Θ s H (Itt K a) ds []:=by
 refine⟨λj c o q p l h g f=>?_,λj c o q v u p l h g f y=>?_,λc o q p l h g=>?_⟩
 ·obtain⟨v,n,_⟩:=r.get (i:=j) (d:=ds[j]) (by simp[f]);exact⟨xs,v,l.sqT hq,n⟩
 ·obtain⟨w,n,t⟩:=(r.mono p l).get (i:=j) (d:=ds[j]) (by simp[f]);obtain⟨rfl,y2⟩:=y;have y3:=y2 xs (l.sqT hq);rw[n] at y3;cases y3;exact⟨ds[j],by simp[f],t,Le.refl _,h⟩
 ·exact⟨xs,l.sqT hq,XU r.length.symm⟩
theorem ee {K:PySem.W.Frag} (ok:okT x):ItR K Θ s H (Its (ofT x)) (x.map λc=>.str [c]) []:=by
 refine⟨λj f o q p l i g n=>?_,λj f o q v t p l i g n y=>?_,λf o q p l i g=>?_⟩
 ·rw[jH] at n;show j < (ofT x).length;rw[qS];exact n
 ·obtain⟨rfl,c,r,rfl⟩:=y;have h:x[j]? = some c:=by simpa [ofT] using r
  exact⟨.str [c],by rw[qX,h];rfl,⟨rfl,kN ok λd hd=>by rw[List.mem_singleton.mp hd];exact yZ h⟩,Le.refl _,i⟩
 ·show (ofT x).length <= _;rw[qS,jH];exact zg _
theorem b0 {K:PySem.W.Frag}{lo hi:Int}:ItR K Θ q H (Itr lo (hi - lo).toNat) (M.ju lo hi) []:=by
 refine⟨λj c n o p l f g h=>?_,λj c n o v r p l f g h y=>?_,λc n o p l f g=>?_⟩
 ·show j < _;simpa [M.ju] using h
 ·obtain⟨rfl,rfl⟩:=y;have i:j < (hi - lo).toNat:=by simpa [M.ju] using h
  exact⟨.int (lo+j),by unfold M.ju;rw[qX,vt i];rfl,rfl,Le.refl _,f⟩
 ·show _ <= _;simp[M.ju]
theorem w_mi_e (z:WE X Θ e m):WI X Θ tg e (M.iE m):=by
 delta WE WI at z ⊢
 exact (PI.or (HK z) (PI.or (mz z) (EK z))).imp λσ H R I=>by
  obtain⟨y,t,S,st,A,h⟩:=I;have h':zF X.K Θ _ y H (((m t S).bind M.itD).bind λp s=>if M.zj p.2 s then .ok p s else .no) R:=h;clear h;cases hm:m t S with
  | no=>rw[hm] at h';exact h'.elim
  | exc a s=>rw[hm] at h';exact .inl ⟨y,t,S,st,A,by rw[hm];exact h'⟩
  | ok d u =>
   rw[hm] at h';have go:∀ {Q:VK},(∀ f n v,y <+: f->Le H n->zX X.K Θ f u n->zL X.K f n d v->Q v n)->RdE X.K Θ m σ H Q:=λq=>⟨y,t,S,st,A,by rw[hm];exact q⟩
   cases d with
   | str x =>
    refine .inr (.inr (go λf n v p l g w=>?_));have j:zF X.K Θ _ y H ((if x.length <= M.SZ then .ok (x.map λc=>M.D.str [c],[]) u else M.R.no).bind λp s=>if M.zj p.2 s then .ok p s else .no) R:=h';by_cases B:x.length <= M.SZ
    ·rw[if_pos B] at j;exact⟨ofT x,w.1,j f n _ p l g (ee w.2)⟩
    ·rw[if_neg B] at j;exact j.elim
   | tup ds =>
    refine .inr (.inl (go λf n v p l g w=>?_));obtain⟨a,xs,rfl,hq,r⟩:=w;exact⟨a,rfl,⟨xs,hq⟩,h' f n _ p l g (Ip hq r)⟩
   | ro ds =>
    refine .inl (go λf n v p l g w=>?_);obtain⟨a,xs,rfl,hq,r⟩:=w;exact⟨a,rfl,⟨xs,hq.sq⟩,h' f n _ p l g (E9 hq r)⟩
   | ref i =>
    have j:zF X.K Θ _ y H ((match u[i]? with
     | some (.lst xs)=>M.R.ok (xs,[(i,M.O.lst xs)]) u
     | _=>.no).bind λp s=>if M.zj p.2 s then .ok p s else .no) R:=h'
    cases q:u[i]? with
    | none=>rw[q] at j;exact j.elim
    | some o =>
     rw[q] at j;cases o with
     | lst xs =>
      refine .inl (go λf n v p l g w=>?_);obtain⟨a,rfl,C⟩:=w;obtain⟨b,E,J,L,r⟩:=g.obj i _ q;rw[C] at E;cases E;have N:M.zj [(i,M.O.lst xs)] u=true:=by simp[M.zj,q]
      have G:zF X.K Θ _ y H (if M.zj [(i,M.O.lst xs)] u then M.R.ok (xs,[(i,M.O.lst xs)]) u else .no) R:=j;rw[if_pos N] at G;exact⟨a,rfl,⟨J,SqL.of L⟩,G f n _ p l g (Hs C)⟩
     | dct kvs=>exact j.elim
     | fdc _=>exact j.elim
     | dtt _=>exact j.elim
     | ftt _=>exact j.elim
     | ins c fs=>exact j.elim
   | non=>exact h'.elim
   | bl b=>exact h'.elim
   | int b=>exact h'.elim
   | ty b=>exact h'.elim
theorem w_mi_range1 {p pos:Pos} (t:Gl X "range") (hm:X.mg "range" = none) (q:WE X Θ e m) (hs:qc e=true:=by rfl):WI X Θ tg (.Call (.Name "range" p) [e] [] pos) (M.qi m):=by
 delta WE WI at q ⊢
 exact (lQ t hm (Xm q Vu hs) (yH hs)).imp λσ H R ⟨f,c,S,st,u,h⟩=>⟨f,c,S,st,u,by
   have h':zF X.K Θ _ f H (((m c S).bind λx s=>match x with
    | .int j=>if j.natAbs < 4611686018427387904 then M.R.ok (M.ju 0 j,([]:M.Gd)) s else .no
    | _=>.no).bind λp s=>if M.zj p.2 s then .ok p s else .no) R:=h
   show zF X.K Θ _ f H ((m c S).bind λx s=>(M.R.ok [] s).bind λxs s=>.ok (x::xs) s) _;cases hm:m c S with
   | no=>rw[hm] at h';exact h'.elim
   | exc a s=>rw[hm] at h';exact h'
   | ok d w =>
    rw[hm] at h';intro i y vs p l n o;obtain⟨v,ys,rfl,o,z⟩:=o;cases z;cases d with
    | int j =>
     cases o;have g:zF X.K Θ _ f H ((if j.natAbs < 4611686018427387904 then M.R.ok (M.ju 0 j,([]:M.Gd)) w else .no).bind λp s=>if M.zj p.2 s then .ok p s else .no) R:=h';by_cases r:j.natAbs < 4611686018427387904
     ·rw[if_pos r] at g;refine⟨j,rfl,by lia,by lia,?_⟩;have:=g i y _ p l n (b0 (lo:=0) (hi:=j));rw[Int.sub_zero] at this;exact this
     ·rw[if_neg r] at g;exact g.elim
    | _=>exact h'.elim⟩
theorem w_mi_range2 {p pos:Pos} (E:Gl X "range") (hm:X.mg "range" = none) (A:WE X Θ e m) (n:WE X Θ B o)
  (hs:qc e=true:=by rfl) (f:qc B=true:=by rfl):WI X Θ tg (.Call (.Name "range" p) [e,B] [] pos) (M.XT m o):=by
 delta WE WI at A n ⊢
 exact (ER E hm (Xm A (Xm n Vu f) hs) (by rw[yH hs,yH f];rfl) (yH f)).imp λσ H R ⟨q,c,S,st,G,h⟩=>⟨q,c,S,st,G,by
   have h':zF X.K Θ _ q H (((m c S).bind λx s=>(o c s).bind λy s=>match x,y with
    | .int i,.int j=>if i.natAbs < 4611686018427387904/\j.natAbs < 4611686018427387904 then M.R.ok (M.ju i j,([]:M.Gd)) s else .no
    | _,_=>.no).bind λp s=>if M.zj p.2 s then .ok p s else .no) R:=h
   show zF X.K Θ _ q H ((m c S).bind λx s=>((o c s).bind λy s=>(M.R.ok [] s).bind λxs s=>.ok (y::xs) s).bind λxs s=>.ok (x::xs) s) _;cases hm:m c S with
   | no=>rw[hm] at h';exact h'.elim
   | exc a s=>rw[hm] at h';exact h'
   | ok d I =>
    rw[hm] at h';rw[M.R.bind_ok];rw[M.R.bind_ok] at h';cases g:o c I with
    | no=>rw[g] at h';exact h'.elim
    | exc a s=>rw[g] at h';exact h'
    | ok J L =>
     rw[g] at h';intro t N vs p l u w;obtain⟨v,ys,rfl,w,v2,U,rfl,z,Q⟩:=w;cases Q;cases d with
     | int i =>
      cases J with
      | int j =>
       cases w;cases z;have r:zF X.K Θ _ q H ((if i.natAbs < 4611686018427387904/\j.natAbs < 4611686018427387904 then M.R.ok (M.ju i j,([]:M.Gd)) L else .no).bind λp s=>if M.zj p.2 s then .ok p s else .no) R:=h';by_cases C:i.natAbs < 4611686018427387904/\j.natAbs < 4611686018427387904
       ·rw[if_pos C] at r;exact⟨i,j,rfl,⟨by lia,by lia,by lia,by lia⟩,r t N _ p l u b0⟩
       ·rw[if_neg C] at r;exact r.elim
      | _=>exact h'.elim
     | _=>exact h'.elim⟩
end
section
variable {X:Cx}{Θ:Tab}{pos:Pos}
theorem w_ms_while (hp:vp (zN X.prog X.w) X.A X.env X.xe) (N:WT X Θ c v) (Q:WSs X Θ x n):WS X Θ (.While c x [] pos) (M.vn v n):=by
 delta WS WSs WT at N Q ⊢
 exact (Ls hp N Q).up λD σ H ρ E S st rp h=>by
   refine⟨λk o B=>∃ j f C,jL X.K j B f o/\zX X.K Θ j C B/\zu X.K Θ j B (M.q7 k v n f C) D,⟨M.Ke,ρ,E,S,st,rp,h⟩,?_⟩
   rintro k o B ⟨j,f,C,st2,G,U⟩
   cases k with
   | zero=>exact U.elim
   | succ k =>
    refine⟨j,f,C,st2,G,zu.stm U λy H3 b b' I Y l3 z eb h3=>?_⟩;cases eb;cases b with
    | false=>exact Q6 (zu.nx (σ:=o) h3 z (st2.mono Y l3))
    | true =>
     refine Qz ⟨λl u=>∃ g m S4,jL X.K g u m l/\zX X.K Θ g S4 u/\zu X.K Θ g u (M.q7 k v n m S4) D,λl u q=>⟨k,J8 k,q⟩,y,f,I,st2.mono Y l3,z,?_⟩;have i:zu X.K Θ y H3 (match n f I with
      | .nx σ s=>M.q7 k v n σ s
      | .ct σ s=>M.q7 k v n σ s
      | .bk σ s=>.nx σ s
      | r=>r) D:=h3
     revert i;cases n f I with
     | nx a s=>exact λi g u l J L p t=>⟨g,a,s,t,p,zu.weak i J L⟩
     | ct a s=>exact λi g u l J L p t=>⟨g,a,s,t,p,zu.weak i J L⟩
     | bk a s=>exact λi=>i
     | rt a s=>exact λi=>i
     | exc e a s=>exact λi=>i
     | no=>exact λi=>i
theorem bA {K:PySem.W.Frag}{D:ZN} (G:ItR K Θ n I J xs l) (st:jL K n I o σ) (rp1:zX K Θ n S1 I) (hgd:M.zj l S1=true) (h2:zu K Θ n I (M.qK l (M.qO g q) xs o S1) D) :
  ∃ W:Nat->Nat->St->Hp->Prop,(∃ m,W 0 m σ I)/\∀ i m σ H,W i m σ H ->
   (J.stop i H/\D.nx σ H)\/(J.go i H/\∃ N:St->Hp->Prop,(∀ o L,N o L->∃ m',m' < m/\W (i+1) m' o L)/\∀ x L,J.yld i H x L->RdG K Θ js g x σ L λu v=>RdS K Θ q { D with nx:=N,ct:=N,bk:=D.nx } u v):=by
 refine⟨λi k u v=>∃ c j t,n <+: c/\Le I v/\jL K c v j u/\zX K Θ c t v/\M.zj l t=true/\k=xs.length - i/\i <= xs.length/\zu K Θ c v (M.qK l (M.qO g q) (xs.drop i) j t) D,
  ⟨xs.length,n,o,S1,jc _,Le.refl _,st,rp1,hgd,rfl,ZR _,h2⟩,?_⟩
 rintro i k u v ⟨c,j,t,p2,l2,st2,z,g2,rfl,hi2,h3⟩
 by_cases A:i < xs.length
 ·refine .inr ⟨G.go i c t v p2 l2 z g2 A,λQ H3=>∃ f h B,n <+: f/\Le I H3/\jL K f H3 h Q/\zX K Θ f B H3/\M.zj l B=true/\zu K Θ f H3 (M.qK l (M.qO g q) (xs.drop (i+1)) h B) D,
   λQ H3 ⟨f,h,B,a1,a2,a3,a4,a5,a6⟩=>⟨xs.length - (i+1),by lia,f,h,B,a1,a2,a3,a4,a5,rfl,A,a6⟩,λx L y=>?_⟩
  obtain⟨d,ed,rd,ld,rpd⟩:=G.yld i c t v x L p2 l2 z g2 A y;have edr:xs.drop i=d::xs.drop (i+1):=by
   obtain⟨_,e⟩:=List.getElem?_eq_some_iff.mp ed;rw[kQ A,e]
  rw[edr] at h3;have h4:zu K Θ c v (match (match g d j with | some o=>q o t | none=>M.RS.no) with
   | .nx σ s=>if M.zj l s then M.qK l (M.qO g q) (xs.drop (i+1)) σ s else .no
   | .ct σ s=>if M.zj l s then M.qK l (M.qO g q) (xs.drop (i+1)) σ s else .no
   | .bk σ s=>.nx σ s
   | r=>r) D:=h3
  cases U:g d j with
  | none=>rw[U] at h4;exact h4.elim
  | some C =>
   rw[U] at h4;refine⟨c,j,t,d,st2.mono (jc _) ld,rpd,rd,C,U,λY Q le3 rp3 st3 _ _=>⟨c,C,t,st3,rp3,?_⟩⟩;have h5:=zu.weak h4 (jc _) (ld.trans le3);have p:zu K Θ c Y (match q C t with
    | .nx σ s=>if M.zj l s then M.qK l (M.qO g q) (xs.drop (i+1)) σ s else .no
    | .ct σ s=>if M.zj l s then M.qK l (M.qO g q) (xs.drop (i+1)) σ s else .no
    | .bk σ s=>.nx σ s
    | r=>r) D:=h5
   have more:∀ (a:M.St) (s:M.S),zu K Θ c Y (if M.zj l s then M.qK l (M.qO g q) (xs.drop (i+1)) a s else .no) D->∀ w E σ4,c <+: w->Le Y E->zX K Θ w s E->jL K w E a σ4 ->
     ∃ f h B,n <+: f/\Le I E/\jL K f E h σ4/\zX K Θ f B E/\M.zj l B=true/\zu K Θ f E (M.qK l (M.qO g q) (xs.drop (i+1)) h B) D:=λa s h7 w E σ4 p4 l4 rp4 st4=>by
    by_cases hs:M.zj l s=true
    ·rw[if_pos hs] at h7;exact⟨w,a,s,p2.trans p4,l2.trans (ld.trans (le3.trans l4)),st4,rp4,hs,zu.weak h7 p4 l4⟩
    ·rw[if_neg hs] at h7;exact h7.elim
   revert p;cases q C t with
   | nx a s=>exact λp=>more a s p
   | ct a s=>exact λp=>more a s p
   | bk a s=>exact λp=>p
   | rt a s=>exact λp=>p
   | exc e a s=>exact λp=>p
   | no=>exact λp=>p
 ·have e:i=xs.length:=by lia
  subst e;rw[IQ] at h3;exact .inl ⟨G.stop c t v p2 l2 z g2,zu.nx (σ:=u) h3 z st2⟩
theorem w_ms_for (B:vp (zN X.prog X.w) X.A X.env X.xe) (C:X.calm=true) (hi:WI X Θ tg f it) (u:WG X Θ I tg g) (v:WSs X Θ j o)
  (hs:∀ x,Jh f X.env x=pure x:=by intro _;rfl):WS X Θ (.For tg f j [] pos) (M.qZ it g o):=by
 delta WG WI WS WSs at hi u v ⊢
 exact (BO B C hi u v hs).up λD σ H m c S st E h=>⟨m,c,S,st,E,by
   have h':zu X.K Θ m H ((it c S).stm c λp s=>if M.zj p.2 s=true then M.qK p.2 (M.qO g o) p.1 c s else .no) D:=h;cases hit:it c S with
   | no=>rw[hit] at h';exact h'.elim
   | exc a s=>rw[hit] at h';exact h'
   | ok p l =>
    rw[hit] at h';obtain⟨xs,i⟩:=p;show zF X.K Θ _ m H (if M.zj i l then M.R.ok (xs,i) l else .no) _;have n:zu X.K Θ m H (if M.zj i l=true then M.qK i (M.qO g o) xs c l else .no) D:=h';by_cases e:M.zj i l=true
    case neg=>rw[if_neg e] at n;exact n.elim
    rw[if_pos e] at n;rw[if_pos e];intro q G J y z r (t:ItR X.K Θ q G J xs i);exact bA t (st.mono y z) r e (zu.weak n y z)⟩
theorem lY {K:PySem.W.Frag}{js:List Nat}{S:M.S}{R:List V->Hp->Prop} (st:jL K ρ H c σ) (rp:zX K Θ ρ S H) (hj:∀ j∈js,σ.length <= j)
  (h:zF K Θ (zT K) ρ H (M.jz n it g w me c S) R) :
  RdI K Θ it σ H λJ H1=>∃ W:Nat->Nat->List V->Hp->Prop,(∃ m,W 0 m [] H1)/\∀ i m ys t,W i m ys t->ys.length <= zf /\
   ((J.stop i t/\R ys t) \/
    (J.go i t/\∀ x H3,J.yld i t x H3->RdG K Θ js g x (σ++jK n none) H3 λE H4=>Wk (σ++jK n none) E/\RdT K Θ w E H4 λb H5 =>
     if b=true then RdE K Θ me E H5 λy H6=>∃ U,U < m/\W (i+1) U (ys++[y]) H6 else ∃ U,U < m/\W (i+1) U ys H5)):=by
 refine⟨ρ,c,S,st,rp,?_⟩;have h':zF K Θ (zT K) ρ H ((it c S).bind λp s=>if p.1.length <= M.SZ/\M.zj p.2 s=true then M.qt p.2 (M.qu n g w me c) p.1 s else .no) R:=h;cases hit:it c S with
 | no=>rw[hit] at h';exact h'.elim
 | exc a s=>rw[hit] at h';exact h'
 | ok p Y =>
  rw[hit] at h';obtain⟨xs,l⟩:=p;show zF K Θ _ ρ H (if M.zj l Y then M.R.ok (xs,l) Y else .no) _;have h2:zF K Θ (zT K) ρ H (if xs.length <= M.SZ/\M.zj l Y=true then M.qt l (M.qu n g w me c) xs Y else .no) R:=h';by_cases G:xs.length <= M.SZ/\M.zj l Y=true
  case neg=>rw[if_neg G] at h2;exact h2.elim
  rw[if_pos G] at h2;rw[if_pos G.2];intro B H1 J p1 l1 rp1 (itr:ItR K Θ B H1 J xs l);refine⟨λi k ys t=>∃ f u ds,B <+: f/\Le H1 t/\zX K Θ f u t/\M.zj l u=true/\zT K f t ds ys/\ds.length <= i/\k=xs.length - i/\i <= xs.length/\zF K Θ (zT K) f t ((M.qt l (M.qu n g w me c) (xs.drop i) u).bind λes s=>.ok (ds++es) s) R,
   ⟨xs.length,B,Y,[],jc _,Le.refl _,rp1,G.2,rfl,zg _,rfl,ZR _,?_⟩,?_⟩
  ·have A:=zF.weak h2 p1 l1;revert A;show zF K Θ (zT K) B H1 (M.qt l (M.qu n g w me c) xs Y) R->_;rw[JU];cases M.qt l (M.qu n g w me c) xs Y with
   | ok a s=>exact λA=>A
   | exc e s=>exact λA=>A
   | no=>exact λA=>A
  rintro i k ys t ⟨f,u,ds,p2,l2,I,g2,L,hdl,rfl,hi2,A⟩
  refine⟨by rw[<- L.length,<- ZE];lia,?_⟩;by_cases N:i < xs.length
  ·refine .inr ⟨itr.go i f u t p2 l2 I g2 N,λx H3 y=>?_⟩;obtain⟨d,ed,rd,ld,rpd⟩:=itr.yld i f u t x H3 p2 l2 I g2 N y;have edr:xs.drop i=d::xs.drop (i+1):=by
    obtain⟨_,e⟩:=List.getElem?_eq_some_iff.mp ed;rw[kQ N,e]
   rw[edr] at A;have h4:zF K Θ (zT K) f t (((match g d (c++jK n none) with
     | none=>M.R.no
     | some q=>(w q u).bind λb s=>if b then (me q s).bind λd s=>.ok (some d) s else .ok none s).bind λo s =>
      if M.zj l s then (M.qt l (M.qu n g w me c) (xs.drop (i+1)) s).bind λys s=>.ok (match o with | some y=>y::ys | none=>ys) s else .no).bind λes s=>.ok (ds++es) s) R:=A
   cases hgq:g d (c++jK n none) with
   | none=>rw[hgq] at h4;exact h4.elim
   | some q =>
    rw[hgq] at h4;refine⟨f,c++jK n none,u,d,((st.mono (p1.trans p2) (l1.trans (l2.trans ld))).more n),rpd,rd,q,hgq,λH4 E Q rp4 st4 hl4 hj4=>⟨⟨hl4.symm,λj v e=>?_⟩,f,q,u,st4,rp4,?_⟩⟩
    ·by_cases hjj:j∈js
     ·rw[Zh (hj j hjj),KS] at e;split at e<;>cases e
     ·rw[hj4 j hjj];exact e
    ·have h5:=zF.weak h4 (jc _) (ld.trans Q);dsimp only at h5;cases htc:w q u with
     | no=>rw[htc] at h5;exact h5.elim
     | exc a s=>rw[htc] at h5;exact h5
     | ok b S3 =>
      rw[htc] at h5;intro C H5 b' p5 l5 rp5 eb;cases eb;have next:∀ (o:Option M.D) (s:M.S) (r:List zE) (H6:Hp) (zs:List V),f <+: r->Le H4 H6->zX K Θ r s H6->zT K r H6 (match o with | some y=>ds++[y] | none=>ds) zs ->
        zF K Θ (zT K) r H6 ((if M.zj l s then (M.qt l (M.qu n g w me c) (xs.drop (i+1)) s).bind λys s=>.ok (match o with | some y=>y::ys | none=>ys) s else .no).bind λes s=>.ok (ds++es) s) R ->
        ∃ U,U < xs.length - i/\∃ f u es,B <+: f/\Le H1 H6/\zX K Θ f u H6/\M.zj l u=true/\zT K f H6 es zs/\es.length <= i+1/\U=xs.length - (i+1)/\i+1 <= xs.length /\
         zF K Θ (zT K) f H6 ((M.qt l (M.qu n g w me c) (xs.drop (i+1)) u).bind λfs s=>.ok (es++fs) s) R:=λo s r H6 zs p6 l6 rp6 rz z=>by
       by_cases hs:M.zj l s=true
       case neg=>rw[if_neg hs] at z;exact z.elim
       rw[if_pos hs] at z;refine⟨xs.length - (i+1),by lia,r,s,_,p2.trans p6,l2.trans (ld.trans (Q.trans l6)),rp6,hs,rz,?_,rfl,N,?_⟩
       ·cases o<;>simp<;>lia
       ·revert z;cases M.qt l (M.qu n g w me c) (xs.drop (i+1)) s with
        | ok a s2 =>
         intro z;cases o with
         | none=>exact z
         | some y =>
          show zF K Θ (zT K) r H6 (.ok (ds++[y]++a) s2) R;rw[qy];exact z
        | exc e s=>exact λz=>z
        | no=>exact λz=>z
      cases b with
      | false=>exact Q6 (next none S3 C H5 ys p5 l5 rp5 (L.mono p5 (ld.trans (Q.trans l5))) (zF.weak h5 p5 l5))
      | true =>
       refine Qz ⟨C,q,S3,st4.mono p5 l5,rp5,?_⟩;have z:=zF.weak h5 p5 l5;cases hme:me q S3 with
       | no =>
        have h7:zF K Θ (zT K) C H5 ((((me q S3).bind λd s=>M.R.ok (some d) s).bind λo s=>if M.zj l s then (M.qt l (M.qu n g w me c) (xs.drop (i+1)) s).bind λys s=>.ok (match o with | some y=>y::ys | none=>ys) s else .no).bind λes s=>.ok (ds++es) s) R:=z;rw[hme] at h7;exact h7.elim
       | exc a s =>
        have h7:zF K Θ (zT K) C H5 ((((me q S3).bind λd s=>M.R.ok (some d) s).bind λo s=>if M.zj l s then (M.qt l (M.qu n g w me c) (xs.drop (i+1)) s).bind λys s=>.ok (match o with | some y=>y::ys | none=>ys) s else .no).bind λes s=>.ok (ds++es) s) R:=z;rw[hme] at h7;exact h7
       | ok y S6 =>
        have h7:zF K Θ (zT K) C H5 ((((me q S3).bind λd s=>M.R.ok (some d) s).bind λo s=>if M.zj l s then (M.qt l (M.qu n g w me c) (xs.drop (i+1)) s).bind λys s=>.ok (match o with | some y=>y::ys | none=>ys) s else .no).bind λes s=>.ok (ds++es) s) R:=z;rw[hme] at h7;intro r H6 v p6 l6 rp6 rv;exact next (some y) S6 r H6 (ys++[v]) (p5.trans p6) (l5.trans l6) rp6 ((L.mono (p5.trans p6) (ld.trans (Q.trans (l5.trans l6)))).app ⟨v,[],rfl,rv,rfl⟩) (zF.weak h7 p6 l6)
  ·have e:i=xs.length:=by lia
   subst e;rw[IQ] at A;refine .inl ⟨itr.stop f u t p2 l2 I g2,?_⟩;have h4:zF K Θ (zT K) f t (.ok (ds++[]) u) R:=A;rw[qw] at h4;exact h4.here I L
end
end L2
namespace L2
open PySem PySem.Spec PyProof.Rows
section
variable {X:Cx}{Θ:Tab}{pos:Pos}{vars:List Str}{scope:Z3}{cl:List (Str×zE)}{tg elt iter:ze}{ifs:List ze}{it:M.IM}{g:M.GM}{js:List Nat}{tc:M.TM}{me:M.EM}
theorem YP (I:Inv X f σ H s) (m:∀ j∈js,X.N.length <= j) {S:M.S} (st:jL X.K i H c σ) (o:zX X.K Θ i S H) {Q:VK}
  (h:zF X.K Θ (zT X.K) i H (M.jz n it g tc me c S) λys l=>∀ D,l D=none->Q (.ref D) (upd l D (.lst ys))) :
  vx n (RdI X.K Θ it) (RdG X.K Θ js g) (RdT X.K Θ tc) (RdE X.K Θ me) σ H Q:=lY st o (λj e=>by rw[I.len];exact m j e) h
theorem w_me_comp (q:X.calm=true) (C:yp X vars scope cl) (hi:WI X Θ tg iter it) (o:∀ C f c e,WG (jb X vars scope cl C f c e) Θ js tg g) (r:∀ C f c e,Z1 (jb X vars scope cl C f c e) ifs (RdT X.K Θ tc))
  (p:∀ C f c e,WE (jb X vars scope cl C f c e) Θ elt me) (l:(js.all λj=>decide (X.N.length <= j))=true) (hs:∀ x,Jh iter X.env x=pure x:=by intro _;rfl):WE X Θ (.ListComp elt [⟨tg,iter,ifs,0⟩] scope pos) (M.qr vars.length it g tc me):=by
 delta WE WG WI at hi o p ⊢
 intro i s σ H Q I ⟨B,t,S,st,u,h⟩;have v:∀ j∈js,X.N.length <= j:=λj m=>of_decide_eq_true (List.all_eq_true.mp l j m);exact UY q C hi o r p hs i s σ H Q I (YP I v st u (zF.bind h λw E ds ys G J L n y z D A=>z.alloc n y A))
theorem w_ms_setcomp {i:Nat}{y:Str}{B l:Pos} (Y:X.calm=true) (C:yp X vars scope cl) (hN:X.N.Nodup) (t:X.N[i]? = some y) (hy:Loc X.env.scope y) (hi:WI X Θ tg iter it) (G:∀ C n c e,WG (jb X vars scope cl C n c e) Θ js tg g) (ht:∀ C n c e,Z1 (jb X vars scope cl C n c e) ifs (RdT X.K Θ tc))
  (J:∀ C n c e,WE (jb X vars scope cl C n c e) Θ elt me) (u:(js.all λj=>decide (X.N.length <= j))=true) (hs:∀ x,Jh iter X.env x=pure x:=by intro _;rfl)
  (v:Qc (.ListComp elt [⟨tg,iter,ifs,0⟩] scope pos) (some (.Name y B)) l.line X.env=pure true:=by rfl)
  (hf:X.fn y=true\/X.env.scope.names.lookup y=some .local:=by first | exact .inl rfl | exact .inr rfl | assumption) :
  WS X Θ (.Assign [.Name y B] (.ListComp elt [⟨tg,iter,ifs,0⟩] scope pos) l) (M.zP i (M.qr vars.length it g tc me)):=by
 delta WE WG WI WS at hi G J ⊢
 intro o s σ H D I ⟨w,f,S,st,rp,h⟩;have hj:∀ j∈js,X.N.length <= j:=λj z=>of_decide_eq_true (List.all_eq_true.mp u j z);refine Iu Y C hN t hy hi G ht J hs v hf o s σ H D I (YP I hj st rp ?_);have h':zu X.K Θ w H (((M.jz vars.length it g tc me f S).bind λys s=>M.alloc (.lst ys) s).stm f λd s=>.nx (f.set i (some d)) s) D:=h;cases hm:M.jz vars.length it g tc me f S with
 | no=>rw[hm] at h';exact h'.elim
 | exc a s=>rw[hm] at h';exact (show Zq X.K Θ w H a s from h')
 | ok ds q =>
  rw[hm] at h';intro m L ys Q U p r1 E r;have h2:zu X.K Θ w H (.nx (f.set i (some (.ref q.length))) (q++[.lst ds])) D:=h';have A:zX X.K Θ (m++[E]) (q++[.lst ds]) (upd L E (.lst ys)):=p.alloc r ⟨ys,qN,r1.mono (Qy _ _) (Le.new r _)⟩;exact h2 (m++[E]) _ _ (Q.trans (Qy _ _)) (U.trans (Le.new r _)) A (((st.mono Q U).mono (Qy _ _) (Le.new r _)).set (show zL X.K (m++[E]) (upd L E (.lst ys)) (.ref q.length) (.ref E) from ⟨E,rfl,by rw[<- p.len];simp⟩) i)
def AdK (K:PySem.W.Frag) (Θ:Tab) (k:List M.D->M.S->M.R M.D) (r:List V->Hp->VK->Prop):Prop:=∀ c H S ds ys p Q,zX K Θ c S H->zT K c H ds ys->SqL K H p ys->zF K Θ (zL K) c H (k ds S) Q->r [.ref p] H Q
theorem w_me_callC {p:Pos}{id:String}{f:Pos}{k:List M.D->M.S->M.R M.D} (m:jx X (.builtin id) r) (ad:AdK X.K Θ k r) (n:Gl X x) (hm:X.mg x=none) (hv:yB x=some (.builtin id))
  (B:X.calm=true) (C:yp X vars scope cl) (hi:WI X Θ tg iter it) (y:∀ C i c e,WG (jb X vars scope cl C i c e) Θ js tg g) (E:∀ C i c e,Z1 (jb X vars scope cl C i c e) ifs (RdT X.K Θ tc))
  (z:∀ C i c e,WE (jb X vars scope cl C i c e) Θ elt me) (o:(js.all λj=>decide (X.N.length <= j))=true) (hs:∀ x,Jh iter X.env x=pure x:=by intro _;rfl)
  (G:x ≠ "__name__" := by decide) (q:(x == ("__debug__" : Str))=false:=by decide)
  :
  WE X Θ (.Call (.Name x p) [.ListComp elt [⟨tg,iter,ifs,0⟩] scope pos] [] f) (M.Qd k vars.length it g tc me):=by
 delta WE WG WI at hi y z ⊢
 intro l s σ H Q I ⟨ρ,J,S,st,L,h⟩;have U:∀ j∈js,X.N.length <= j:=λj t=>of_decide_eq_true (List.all_eq_true.mp o j t);refine Bw m n hm hv (uY (UY (g:=RdG X.K Θ js g) (ti:=RdT X.K Θ tc) (te:=RdE X.K Θ me) B C hi y E z hs) WY (yH rfl)) G q (yH rfl) rfl l s σ H Q I ?_;show vx vars.length _ _ _ _ σ H (λx A=>r [x] A Q);refine YP I U st L (zF.bind h λu A ds ys Y p1 l1 v r1 h1 D w=>?_);exact ad u _ Y ds ys D Q (v.aside w _) (r1.mono (jc _) (Le.new w _)) (SqL.of qN) (zF.weak h1 (jc _) (Le.new w _))
theorem w_me_joinC {z:Str}{j:Nat}{p f i:Pos} (B:z=ofT y) (E:X.calm=true) (C:yp X vars scope cl) (hi:WI X Θ tg iter it) (w:∀ C m c e,WG (jb X vars scope cl C m c e) Θ js tg g) (G:∀ C m c e,Z1 (jb X vars scope cl C m c e) ifs (RdT X.K Θ tc))
  (A:∀ C m c e,WE (jb X vars scope cl C m c e) Θ elt me) (q:(js.all λj=>decide (X.N.length <= j))=true) (ad:∀ o H S ds ys p Q,zX X.K Θ o S H->zT X.K o H ds ys->SqL X.K H p ys->zF X.K Θ (zL X.K) o H (M.yP y ds S) Q->vW X.K (.str (ofT y)) [.ref p] H Q) (hs:∀ x,Jh iter X.env x=pure x:=by intro _;rfl)
  (l:(f.endLine == i.line)=true:=by rfl)
  :
  WE X Θ (.Call (.Attribute (.Constant (.str z) j p) "join" f) [.ListComp elt [⟨tg,iter,ifs,0⟩] scope pos] [] i) (M.Qd (M.yP y) vars.length it g tc me):=by
 delta WE WG WI at hi w A ⊢
 intro n s σ H Q I ⟨o,J,S,st,L,h⟩;have U:∀ j∈js,X.N.length <= j:=λj r=>of_decide_eq_true (List.all_eq_true.mp q j r);subst B;refine bS PySem.F.plainAttrs_str PySem.F.slot_str_join PySem.F.type_str_join Co bb (uY (UY (g:=RdG X.K Θ js g) (ti:=RdT X.K Θ tc) (te:=RdE X.K Θ me) E C hi w G A hs) WY (yH rfl)) rfl (bD rfl (show 1 < 30 by decide)) l (yH rfl) rfl n s σ H Q I ?_;refine⟨rfl,YP I U st L (zF.bind h λt H1 ds ys Y p1 l1 u r1 h1 D v=>?_)⟩;exact ad t _ Y ds ys D Q (u.aside v _) (r1.mono (jc _) (Le.new v _)) (SqL.of qN) (zF.weak h1 (jc _) (Le.new v _))
end
def SpM (K:PySem.W.Frag) (e:Tab) (n:Nat) (f:M.F):Sp:=λvs H Q _=>∃ c ds S,ds.length=n/\zT K c H ds vs/\zX K e c S H/\zF K e (zL K) c H (f ds S) Q
def ke (m:M.AM) (n:Nat):Prop:=∀ σ s xs c,m σ s=.ok xs c->xs.length=n
theorem wL:ke M.zC 0:=λσ s xs c h=>by cases h;rfl
theorem UU {a:M.EM} (h:ke r n):ke (M.zB a r) (n+1):=λσ s xs i e=>by
 have c:((a σ s).bind λx s=>(r σ s).bind λxs s=>M.R.ok (x::xs) s)=.ok xs i:=e;cases ha:a σ s with
 | no=>rw[ha] at c;cases c
 | exc a s=>rw[ha] at c;cases c
 | ok d j =>
  rw[ha] at c;have f:((r σ j).bind λxs s=>M.R.ok (d::xs) s)=.ok xs i:=c;cases g:r σ j with
  | no=>rw[g] at f;cases f
  | exc a s=>rw[g] at f;cases f
  | ok ds l =>
   rw[g] at f;cases f;rw[jE,h _ _ _ _ g]
section
variable {X:Cx}{Θ:Tab}{pos p:Pos}{x:Str}{ps:List Str}{e:ze}{es:List ze}{f:M.F}{m:M.AM}{k kk n:Nat}
theorem w_me_call (h:Has X.prog X.w X.K X.mg X.base x k ps (SpM X.K Θ n f)) (q:z6 kk X.A) (r:k <= kk) (t:Gl X x) (ha:WA X Θ (e::es) m) (ar:ke m n) (u:Z5 CX0 X E0:=by exact Xa) (g:(x == ("__debug__" : Str))=false:=by decide)
  (v:qc e=true:=by rfl) (i:es.all qc=true:=by rfl):WE X Θ (.Call (.Name x p) (e::es) [] pos) (M.zJ f m):=by
 delta WA WE at ha ⊢
 exact (mU h q r t ha u g (yH v) (JA i)).up λσ H Q o c S st y h=>⟨o,c,S,st,y,by
   have h':zF X.K Θ (zL X.K) o H ((m c S).bind λxs s=>f xs s) Q:=h;cases hm:m c S with
   | no=>rw[hm] at h';exact h'.elim
   | exc a s=>rw[hm] at h';exact h'
   | ok ds z =>
    rw[hm] at h';intro j G vs B C l E;rw[qw];exact⟨j,ds,z,ar _ _ _ _ hm,E,l,zF.weak h' B C⟩⟩
end
theorem aC:∀ {n:Nat}{d:M.D},M.kyD n (M.D.ren e d)=true->M.D.ren e d=d:=by
 intro n
 induction n with
 | zero=>intro d h;cases d<;>first | rfl | cases h
 | succ n g =>
  intro d h;cases d with
  | tup ds =>
   show M.D.tup (M.D.ren.all e ds)=_;have h':(M.D.ren.all e ds).all (M.kyD n)=true:=h;have:∀ ds:List M.D,(M.D.ren.all e ds).all (M.kyD n)=true->M.D.ren.all e ds=ds:=by
    intro ds
    induction ds with
    | nil=>intro _;rfl
    | cons d ds c =>
     intro h;have f:(M.kyD n (M.D.ren e d) && (M.D.ren.all e ds).all (M.kyD n))=true:=h;rw[j7] at f;show M.D.ren e d::M.D.ren.all e ds=_;rw[g f.1,c f.2]
   rw[this ds h']
  | _=>first | rfl | cases h
section
variable {K:PySem.W.Frag}{Θ:Tab}{ρ ρ':List zE}{H:Hp}{e:List Nat}
mutual
theorem zL.unren (f:∀ (i j:Nat) a,e[i]? = some j->ρ[j]? = some a->ρ'[i]? = some a):∀ {d:M.D}{v:V},M.D.cl e.length d=true->zL K ρ H (M.D.ren e d) v->zL K ρ' H d v
 | .non,_,_,h=>h
 | .bl _,_,_,h=>h
 | .int _,_,_,h=>h
 | .str _,_,_,h=>h
 | .ty _,_,_,h=>h
 | .ref i,_,c,⟨a,g,l⟩=>by
  have hi:i < e.length:=of_decide_eq_true c;refine⟨a,g,f i (e.getD i i) a ?_ l⟩;rw[qP,yS hi];rfl
 | .tup _,_,c,⟨a,xs,g,l,m⟩=>⟨a,xs,g,l,zT.unren f c m⟩
 | .ro _,_,c,⟨a,xs,g,l,m⟩=>⟨a,xs,g,l,zT.unren f c m⟩
theorem zT.unren (f:∀ (i j:Nat) a,e[i]? = some j->ρ[j]? = some a->ρ'[i]? = some a):∀ {ds:List M.D}{xs:List V},M.D.cl.all e.length ds=true->zT K ρ H (M.D.ren.all e ds) xs->zT K ρ' H ds xs
 | [],_,_,h=>h
 | d::ds,_,c,⟨y,ys,l,m,n⟩=>by
  have g:(M.D.cl e.length d && M.D.cl.all e.length ds)=true:=c;rw[j7] at g;exact⟨y,ys,l,zL.unren f g.1 m,zT.unren f g.2 n⟩
end
theorem ObR.unren (m:∀ (i j:Nat) a,e[i]? = some j->Q[j]? = some a->B[i]? = some a) {a:zE} (c:M.O.cl e.length o=true) (h:ObR K U Q H a (M.O.ren e o)):ObR K U B H a o:=by
 cases o with
 | lst ds=>obtain⟨xs,n,g⟩:=h;exact⟨xs,n,zT.unren m c g⟩
 | dct kvs =>
  obtain⟨y,n,g⟩:=h;refine⟨y,n,?_⟩;have l:∀ p∈kvs,(M.D.cl e.length p.1 && M.D.cl e.length p.2)=true:=List.all_eq_true.mp c;clear n;revert g l;clear c
  induction kvs generalizing y with
  | nil=>intro g l;cases g;exact .nil
  | cons p kvs t =>
   intro g l;rw[jN] at g;cases g with
   | cons s u =>
    have r:=l p qJ;rw[j7] at r;refine .cons ⟨?_,zL.unren m r.2 s.2⟩ (t _ u (λq hq=>l q (je _ hq)));have w:=s.1;revert w;cases p.1<;>exact λw=>w
 | fdc kvs =>
  obtain⟨o,y,n,g⟩:=h;refine⟨o,y,n,?_⟩;have l:∀ p∈kvs,(M.D.cl e.length p.1 && M.D.cl e.length p.2)=true:=List.all_eq_true.mp c;clear n;revert g l;clear c
  induction kvs generalizing y with
  | nil=>intro g l;cases g;exact .nil
  | cons p kvs t =>
   intro g l;rw[jN] at g;cases g with
   | cons s u =>
    have r:=l p qJ;rw[j7] at r;refine .cons ⟨?_,zL.unren m r.2 s.2⟩ (t _ u (λq hq=>l q (je _ hq)));have w:=s.1;revert w;cases p.1<;>exact λw=>w
 | dtt kvs =>
  obtain⟨xs,n,g⟩:=h;refine⟨xs,n,?_⟩;have l:∀ p∈kvs,(M.D.cl e.length p.1 && M.D.cl e.length p.2)=true:=List.all_eq_true.mp c;clear n;revert g l;clear c
  induction kvs generalizing xs with
  | nil=>intro g l;cases g;exact .nil
  | cons p kvs t =>
   intro g l;rw[jN] at g;cases g with
   | cons s u =>
    have r:=l p qJ;rw[j7] at r;obtain⟨z,x,E,v,G,I⟩:=s;have J:=aC x;rw[J] at z x;exact .cons ⟨z,x,zL.unren m r.1 E,v,zL.unren m r.2 G,I⟩ (t _ u (λq hq=>l q (je _ hq)))
 | ftt kvs =>
  obtain⟨o,xs,n,g⟩:=h;refine⟨o,xs,n,?_⟩;have l:∀ p∈kvs,(M.D.cl e.length p.1 && M.D.cl e.length p.2)=true:=List.all_eq_true.mp c;clear n;revert g l;clear c
  induction kvs generalizing xs with
  | nil=>intro g l;cases g;exact .nil
  | cons p kvs t =>
   intro g l;rw[jN] at g;cases g with
   | cons s u =>
    have r:=l p qJ;rw[j7] at r;obtain⟨z,x,E,v,G,I⟩:=s;have J:=aC x;rw[J] at z x;exact .cons ⟨z,x,zL.unren m r.1 E,v,zL.unren m r.2 G,I⟩ (t _ u (λq hq=>l q (je _ hq)))
 | ins cc fs =>
  obtain⟨C,Y,gs,N,n,g,A⟩:=h;refine⟨C,Y,gs,N,n,g,by rw[<- A.len];simp,A.nd,A.within,λi f d q1 L=>?_⟩;obtain⟨v,k1,k2⟩:=A.get i f (M.D.ren e d) q1 (by rw[qX,L];rfl);refine⟨v,k1,zL.unren m ?_ k2⟩;have:=List.all_eq_true.mp c (some d) (yZ L);exact this
theorem zF.gc {S:M.S}{d:M.D}{Q:VK} (m:M.Emb S.length e u A) (B:M.D.cl u.length d=true) (C:zX K y z S H) (h:zF K y (zL K) z H (.ok d u) Q):zF K y (zL K) z H (.ok (M.D.ren e d) A) Q:=by
 intro c E v G I n J;have f:∀ {i j:Nat},e[i]? = some j->j < c.length:=λ{i j} q=>by
  have hi:i < u.length:=by rw[<- m.len];exact (List.getElem?_eq_some_iff.mp q).1
  obtain⟨j',p,t,_⟩:=m.obj i u[i] (by simp[hi]);rw[q] at p;cases p;rw[n.len];exact (List.getElem?_eq_some_iff.mp t).1
 have g:∀ (i j:Nat) a,e[i]? = some j->c[j]? = some a->(e.map λj=>c.getD j 0)[i]? = some a:=λi j a p t=>by
  rw[qX,p,XA,qP,t];rfl
 refine h (e.map λj=>c.getD j 0) E v ?_ I ⟨by rw[jH,m.len],?_,λi o q=>?_⟩ (zL.unren g (by rw[m.len];exact B) J)
 ·refine List.prefix_iff_getElem?.mpr λi hi=>?_;have w:i < S.length:=C.len ▸ hi;exact g i i _ (m.old i w) (kL G (yS hi))
 ·refine mB λi j x a b=>?_;rw[qX] at a b;cases r:e[i]? with
  | none=>rw[r] at a;cases a
  | some k =>
   cases s:e[j]? with
   | none=>rw[s] at b;cases b
   | some l =>
    rw[r,XA,qP,yS (f r)] at a;rw[s,XA,qP,yS (f s)] at b;have L:c[k]'(f r)=x:=by simpa using a
    have N:c[l]'(f s)=x:=by simpa using b
    have U:=fR n.nd (f r) (f s) (L.trans N.symm);subst U;exact vA m.nd r s
 ·obtain⟨j,p,t,Y⟩:=m.obj i o q;obtain⟨a,q4,q5⟩:=n.obj j _ t;exact⟨a,g i j a p q4,ObR.unren g (by rw[m.len];exact Y) q5⟩
end
section
variable {K:PySem.W.Frag}{Θ:Tab}{ρ:List zE}{H:Hp}
mutual
theorem zL.cl:∀ {d:M.D}{v:V},zL K ρ H d v->M.D.cl ρ.length d=true
 | .non,_,_=>rfl
 | .bl _,_,_=>rfl
 | .int _,_,_=>rfl
 | .str _,_,_=>rfl
 | .ty _,_,_=>rfl
 | .ref _,_,⟨a,_,c⟩=>decide_eq_true (List.getElem?_eq_some_iff.mp c).1
 | .tup _,_,⟨_,_,_,_,h⟩=>zT.cl h
 | .ro _,_,⟨_,_,_,_,h⟩=>zT.cl h
theorem zT.cl:∀ {ds:List M.D}{xs:List V},zT K ρ H ds xs->M.D.cl.all ρ.length ds=true
 | [],_,_=>rfl
 | d::ds,_,⟨_,_,_,c,e⟩=>by
  show (M.D.cl ρ.length d && M.D.cl.all ρ.length ds)=true;rw[zL.cl c,zT.cl e];rfl
end
theorem zX.cl {S:M.S} (w:zX K I f S H):M.clS S.length S=true:=by
 refine List.all_eq_true.mpr λo y=>?_;obtain⟨i,hi,rfl⟩:=List.mem_iff_getElem.mp y;obtain⟨a,J,z⟩:=w.obj i S[i] (by simp[hi]);rw[<- w.len];revert z;cases S[i] with
 | lst ds=>exact λ⟨xs,_,r⟩=>r.cl
 | dct kvs =>
  intro ⟨h,_,r⟩;refine List.all_eq_true.mpr λp e=>?_;have:∀ {kvs:List (M.D×M.D)}{h:List (Key×V)},Paired (λ(p:M.D×M.D) (q:Key×V)=>yL p.1 q.1/\zL K f H p.2 q.2) kvs h->p∈kvs->(M.D.cl f.length p.1 && M.D.cl f.length p.2)=true:=by
   intro kvs h r e
   induction r with
   | nil=>cases e
   | cons g n l =>
    rcases List.mem_cons.mp e with rfl | e
    ·rw[g.2.cl,DN];have m:=g.1;revert m;cases p.1<;>first | exact λ_=>rfl | exact λm=>m.elim
    ·exact l e
  exact this r e
 | fdc kvs =>
  intro ⟨_,h,_,r⟩;refine List.all_eq_true.mpr λp e=>?_;have:∀ {kvs:List (M.D×M.D)}{h:List (Key×V)},Paired (λ(p:M.D×M.D) (q:Key×V)=>yL p.1 q.1/\zL K f H p.2 q.2) kvs h->p∈kvs->(M.D.cl f.length p.1 && M.D.cl f.length p.2)=true:=by
   intro kvs h r e
   induction r with
   | nil=>cases e
   | cons g n l =>
    rcases List.mem_cons.mp e with rfl | e
    ·rw[g.2.cl,DN];have m:=g.1;revert m;cases p.1<;>first | exact λ_=>rfl | exact λm=>m.elim
    ·exact l e
  exact this r e
 | dtt kvs =>
  intro ⟨xs,_,r⟩;refine List.all_eq_true.mpr λp e=>?_;have:∀ {kvs:List (M.D×M.D)}{xs:List (M.D×zE×zD)},Paired (TDr K f H) kvs xs->p∈kvs->(M.D.cl f.length p.1 && M.D.cl f.length p.2)=true:=by
   intro kvs xs r e
   induction r with
   | nil=>cases e
   | cons g n l =>
    rcases List.mem_cons.mp e with rfl | e
    ·obtain⟨_,_,s,v,t,_⟩:=g;rw[s.cl,t.cl];rfl
    ·exact l e
  exact this r e
 | ftt kvs =>
  intro ⟨o,xs,_,r⟩;refine List.all_eq_true.mpr λp e=>?_;have:∀ {kvs:List (M.D×M.D)}{xs:List (M.D×zE×zD)},Paired (TDr K f H) kvs xs->p∈kvs->(M.D.cl f.length p.1 && M.D.cl f.length p.2)=true:=by
   intro kvs xs r e
   induction r with
   | nil=>cases e
   | cons g n l =>
    rcases List.mem_cons.mp e with rfl | e
    ·obtain⟨_,_,s,v,t,_⟩:=g;rw[s.cl,t.cl];rfl
    ·exact l e
  exact this r e
 | ins c fs =>
  intro ⟨C,L,Q,N,_,_,r⟩;refine List.all_eq_true.mpr λA u=>?_;cases A with
  | none=>rfl
  | some d =>
   obtain⟨j,x,B⟩:=List.mem_iff_getElem.mp u;have E:j < N.length:=r.len ▸ x;obtain⟨v,_,G⟩:=r.get j N[j] d (by simp[E]) (by rw[yS x,B]);exact G.cl
end
section
variable {P:jD}{w:jC}{K:PySem.W.Frag}{mg:Str->Option zD}{base:zp}{Θ:Tab}
theorem BQ {ds:List M.D} (r:zT K c H ds vs) (N:List Str):jL K c H (ds.map some++jK (N.length - ds.length) none) (QI N vs):=by
 have f:=r.length;refine⟨by simp[QI,f],λi d q=>?_⟩;unfold QI;by_cases hi:i < ds.length
 ·rw[yc (by simpa using hi),qX] at q;cases e:ds[i]? with
  | none=>rw[e] at q;cases q
  | some d' =>
   rw[e] at q;cases q;obtain⟨v,g,h⟩:=r.get e;refine⟨v,?_,h⟩;rw[yc (by simp;lia),qX,g];rfl
 ·rw[Zh (by simp;lia),KS] at q;split at q<;>cases q
theorem Em {st:jT}{k:Nat}{b:M.SM} (F:Fun K x qual st f fd) (y:Z6 N ps (ji st)) (z:M.jM ps.length (M.fn N.length b) q)
  (i:∀ (g:zD) (A:jj) (outer:List Env) (s:zI) (H:Hp) (E:XK),z6 k (A.deeper (ZD qual (ji st) s.heap.objs.size f g)) ->
   MSs (Zo CX0 P w K mg base N qual (ji st) f g A outer s H E).nox Θ (yV st) b):qC P w K mg base CX0 (k+1) f fd ps (SpM K Θ ps.length q):=by
 refine F.ok (k:=k) y (λvs H Q E h=>?_) (λg A outer s H vs Q E B h=>?_)
 ·obtain⟨l,ds,S,m,r,_⟩:=h;rw[<- r.length,m]
 ·obtain⟨l,ds,S,m,r,j,h⟩:=h;refine⟨_,i g A outer s H E B,l,_,S,BQ r N,j,?_⟩;rcases z ds S m j.cl (j.len ▸ r.cl) with e | ⟨d,S',u,v,C,G,n,I⟩
  ·rw[e] at h;exact h.elim
  ·rw[C] at h;have o:=zF.gc n I j h;have c:(b (ds.map some++jK (N.length - ds.length) none) S).out=.ok (M.D.ren v d) u:=G;show zu K Θ l H (b (ds.map some++jK (N.length - ds.length) none) S) _;revert c;cases b (ds.map some++jK (N.length - ds.length) none) S with
   | rt a s=>intro c;cases c;exact o
   | nx a s =>
    intro c;have J:M.R.ok M.D.non s=.ok (M.D.ren v d) u:=c;injection J with L U;subst U;rw[<- L] at o;exact λp Y σ1 p1 l1 t _=>o p Y .non p1 l1 t rfl
   | bk a s=>intro c;cases c
   | ct a s=>intro c;cases c
   | exc e a s=>intro c;cases c
   | no=>intro c;cases c
theorem w_fun_M {st:jT}{k:Nat}{b:M.SM} (F:Fun K x qual st f fd) (g:Z6 N ps (ji st)) (h:M.jM ps.length (M.fn N.length b) q)
  (c:∀ (e:zD) (A:jj) (outer:List Env) (s:zI) (H:Hp) (E:XK),z6 k (A.deeper (ZD qual (ji st) s.heap.objs.size f e)) ->
   WSs (Zo CX0 P w K mg base N qual (ji st) f e A outer s H E).nox Θ (yV st) b):qC P w K mg base CX0 (k+1) f fd ps (SpM K Θ ps.length q):=by with_unfolding_all exact Em (x:=x) (qual:=qual) (st:=st) (f:=f) (fd:=fd) (N:=N) (ps:=ps) (k:=k) (b:=b) (q:=q) F g h c
end
end L2
namespace L2
open PySem PySem.Spec PyProof.Rows
section
variable {K:PySem.W.Frag}{Θ:Tab}
theorem ir:Ad2 K Θ M.vV CQ:=by
 intro e H S x y X Y Q c rx ry h;cases x with
 | int i =>
  cases y with
  | int j=>cases rx;cases ry;exact zF.here (b:=V.int (i - j)) h c rfl
  | _=>exact h.elim
 | _=>exact h.elim
theorem BD (h:M.qo i=true):-(2 ^ 64) < i/\i < 2 ^ 64:=by
 have h':i.natAbs < 18446744073709551616:=of_decide_eq_true h;exact⟨by lia,by lia⟩
theorem m6:Ad2 K Θ M.jt BE:=by
 intro e H S x y X Y Q f rx ry h;cases x with
 | int i =>
  cases y with
  | int j =>
   cases rx;cases ry;have h':zF K Θ (zL K) e H (if 0 < j/\j.natAbs < 1073741824 then M.R.ok (M.D.int (i / j)) S else .no) Q:=h;by_cases c:0 < j/\j.natAbs < 1073741824
   ·rw[if_pos c] at h';exact⟨⟨c.1,by lia⟩,zF.here (b:=V.int (i / j)) h' f rfl⟩
   ·rw[if_neg c] at h';exact h'.elim
  | _=>exact h.elim
 | _=>exact h.elim
theorem eZ:Ad2 K Θ M.jU Cf:=by
 intro e H S x y X Y Q f rx ry h;cases x with
 | int i =>
  cases y with
  | int j =>
   cases rx;cases ry;have h':zF K Θ (zL K) e H (if 0 < j then M.R.ok (M.D.int (i % j)) S else .no) Q:=h;by_cases c:0 < j
   ·rw[if_pos c] at h';exact⟨c,zF.here (b:=V.int (i % j)) h' f rfl⟩
   ·rw[if_neg c] at h';exact h'.elim
  | _=>exact h.elim
 | _=>exact h.elim
theorem Zz {S:M.S} (g:zX K Θ e S H) {i:Nat}{a:zE} (ha:e[i]? = some a) {xs:List M.D} (q:S[i]? = some (.lst xs)):∃ c,H a=some (.lst c)/\zT K e H xs c:=by
 obtain⟨b,f,c,h,r⟩:=g.obj i _ q;rw[ha] at f;cases f;exact⟨c,h,r⟩
theorem lV:Ad2 K Θ M.zo (λx y H Q=>AC x y H Q\/Wz K x y H Q):=by
 intro g H S x y X Y Q e rx ry h;cases x with
 | int i =>
  cases y with
  | int j=>cases rx;cases ry;exact .inl (zF.here (b:=V.int (i+j)) h e rfl)
  | _=>exact h.elim
 | str a =>
  cases y with
  | str b =>
   obtain⟨rfl,m⟩:=rx;obtain⟨rfl,n⟩:=ry;have h':zF K Θ (zL K) g H (if a.length+b.length <= M.SZ then M.R.ok (M.D.str (a++b)) S else .no) Q:=h;by_cases c:a.length+b.length <= M.SZ
   ·rw[if_pos c] at h';refine .inl ⟨by rw[qS,qS,<- ZE];exact c,?_⟩;rw[aI];exact zF.here (b:=V.str (ofT (a++b))) h' e ⟨rfl,V2 m n⟩
   ·rw[if_neg c] at h';exact h'.elim
  | _=>exact h.elim
 | tup a =>
  cases y with
  | tup b =>
   obtain⟨l,xs,rfl,hq,r⟩:=rx;obtain⟨l',ys,rfl,o,q⟩:=ry;have h':zF K Θ (zL K) g H (if a≠[]/\a.length+b.length <= M.SZ then M.R.ok (M.D.tup (a++b)) S else .no) Q:=h;by_cases c:a≠[]/\a.length+b.length <= M.SZ
   ·rw[if_pos c] at h';refine .inr ⟨l,l',xs,ys,rfl,rfl,hq,o,λz=>c.1 ?_,by rw[<- r.length,<- q.length,<- ZE];exact c.2,λs=>?_,λs p f=>?_⟩
    ·subst z;have:=r.length;exact List.length_eq_zero_iff.mp this
    ·subst s;have v:b=[]:=List.length_eq_zero_iff.mp q.length;subst v;rw[qw] at h';exact zF.here h' e ⟨l,xs,rfl,hq,r⟩
    ·exact h' g _ _ (jc _) (Le.new f _) (e.aside f _) ⟨p,_,rfl,SqT.of qN,(r.app q).mono (jc _) (Le.new f _)⟩
   ·rw[if_neg c] at h';exact h'.elim
  | _=>exact h.elim
 | ref i =>
  cases y with
  | ref j =>
   obtain⟨a,rfl,w⟩:=rx;obtain⟨b,rfl,A⟩:=ry;have h':zF K Θ (zL K) g H (match S[i]?,S[j]? with
    | some (.lst xs),some (.lst ys)=>if xs.length+ys.length <= M.SZ then M.alloc (.lst (xs++ys)) S else .no
    | _,_=>.no) Q:=h
   split at h'
   ·rename_i xs ys B C;obtain⟨E,G,t⟩:=Zz e w B;obtain⟨ws,I,u⟩:=Zz e A C;by_cases c:xs.length+ys.length <= M.SZ
    ·rw[if_pos c] at h';exact .inl ⟨E,ws,G,I,by rw[<- t.length,<- u.length,<- ZE];exact c,λp f=>h'.alloc e (t.app u) f⟩
    ·rw[if_neg c] at h';exact h'.elim
   ·exact h'.elim
  | _=>exact h.elim
 | _=>exact h.elim
theorem eL:AdC K Θ M.cLt uLt:=by
 intro e H S x y X Y Q c rx ry h;cases x with
 | int i =>
  cases y with
  | int j=>cases rx;cases ry;exact zF.here (b:=decide (i < j)) h c rfl
  | _=>exact h.elim
 | str a =>
  cases y with
  | str b =>
   obtain⟨rfl,_⟩:=rx;obtain⟨rfl,_⟩:=ry;show Q (.bl (decide ((ofT a).cps.toList < (ofT b).cps.toList))) H;rw[Zi,Zi];exact zF.here (b:=decide (a < b)) h c rfl
  | _=>exact h.elim
 | _=>exact h.elim
theorem Km:AdC K Θ M.cLe uLe:=by
 intro e H S x y X Y Q c rx ry h;cases x with
 | int i =>
  cases y with
  | int j=>cases rx;cases ry;exact zF.here (b:=decide (i <= j)) h c rfl
  | _=>exact h.elim
 | str a =>
  cases y with
  | str b =>
   obtain⟨rfl,_⟩:=rx;obtain⟨rfl,_⟩:=ry;show Q (.bl (!decide ((ofT b).cps.toList < (ofT a).cps.toList))) H;rw[Zi,Zi];exact zF.here (b:=!decide (b < a)) h c rfl
  | _=>exact h.elim
 | _=>exact h.elim
theorem hH:AdC K Θ M.cGt uGt:=by
 intro e H S x y X Y Q c rx ry h;cases x with
 | int i =>
  cases y with
  | int j=>cases rx;cases ry;exact zF.here (b:=decide (j < i)) h c rfl
  | _=>exact h.elim
 | _=>exact h.elim
theorem u6 {ds:List M.D}{d:M.D} (r:zT K c H ds xs) (e:M.atI ds i=some d):∃ v,atI xs i=some v/\zL K c H d v:=by
 unfold M.atI at e;cases q:M.ixN ds.length i with
 | none=>rw[q] at e;cases e
 | some j =>
  rw[q] at e;obtain⟨v,f,g⟩:=r.get (i:=j) e;have h:ixN xs.length i=some j:=by rw[<- r.length];exact q
  exact⟨v,by unfold atI;rw[h];exact f,g⟩
end
end L2
namespace L2
open PySem PySem.Spec PyProof.Rows
section
variable {K:PySem.W.Frag}{Θ:Tab}
theorem w_mt_tru {X:Cx}{a:ze} (ha:WE X Θ a w) (y:∀ g,isTrue a X.env g=(do let v <- g;standAt a.pos;holding [v] (truthy v)):=by intro _;rfl):WT X Θ a (M.qD w):=by
 delta WE WT at ha ⊢
 exact (Fw ha y).up λσ H Q A s S st B h=>⟨A,s,S,st,B,zF.bind h λC I x J E L N f rx e=>by
   cases x with
   | non=>cases rx;exact⟨false,rfl,zF.here (b:=false) e f rfl⟩
   | bl b=>cases rx;exact⟨b,rfl,zF.here (b:=b) e f rfl⟩
   | int i=>cases rx;exact⟨_,rfl,zF.here (b:=(i != 0)) e f (by show decide (i≠0)=(i != 0);by_cases hi:i=0<;>simp[hi])⟩
   | str z =>
    obtain⟨rfl,_⟩:=rx;by_cases t:z.length <= M.SZ
    ·simp only[M.ZA,if_pos t] at e;refine⟨_,⟨by rw[qS,<- ZE];exact t,rfl⟩,zF.here (b:=(((ofT z).length:Int) != 0)) e f ?_⟩;show (!z.isEmpty)=_;rw[qS];cases z<;>simp<;>lia
    ·simp only[M.ZA,if_neg t] at e;exact e.elim
   | tup ds =>
    obtain⟨l,xs,rfl,hq,r⟩:=rx;refine⟨_,.inr (.inl ⟨xs,hq,rfl⟩),zF.here (b:=!xs.isEmpty) e f ?_⟩;show (!ds.isEmpty)=_;have:=r.length;cases ds<;>cases xs<;>first | rfl | cases this
   | ro ds =>
    obtain⟨l,xs,rfl,hq,r⟩:=rx;refine⟨_,.inl ⟨xs,hq.sq,rfl⟩,zF.here (b:=!xs.isEmpty) e f ?_⟩;show (!ds.isEmpty)=_;have:=r.length;cases ds<;>cases xs<;>first | rfl | cases this
   | ref p =>
    obtain⟨a,rfl,u⟩:=rx;cases q:E[p]? with
    | none=>simp[M.ZA,q] at e;exact e.elim
    | some o =>
     cases o with
     | lst xs =>
      simp only[M.ZA,q] at e;obtain⟨j,m,r⟩:=Zz f u q;refine⟨_,.inl ⟨j,SqL.of m,rfl⟩,zF.here (b:=!j.isEmpty) e f ?_⟩;show (!xs.isEmpty)=_;have:=r.length;cases xs<;>cases j<;>first | rfl | cases this
     | dct kvs =>
      simp only[M.ZA,q] at e;obtain⟨b,m,j,G,r⟩:=f.obj _ _ q;rw[u] at m;cases m;refine⟨_,.inr (.inr ⟨j,G,rfl⟩),zF.here (b:=!j.isEmpty) e f ?_⟩;cases r<;>rfl
     | fdc _=>simp[M.ZA,q] at e;exact e.elim
     | dtt _=>simp[M.ZA,q] at e;exact e.elim
     | ftt _=>simp[M.ZA,q] at e;exact e.elim
     | ins c fs=>simp[M.ZA,q] at e;exact e.elim
   | ty n=>exact e.elim⟩
inductive TyM (K:PySem.W.Frag) (H:Hp):V->String->Prop where
 | of {x:V}{A:String} (h:Zk K H x (.type A)):TyM K H x A
 | sqT {a:zE}{xs:List V} (h:SqT K H a xs):TyM K H (.ref a) "tuple"
 | sqL {a:zE}{xs:List V} (h:SqL K H a xs):TyM K H (.ref a) "list"
noncomputable def UM (K:PySem.W.Frag):List V->Hp->VK->Prop:=λxs H Q=>∃ x n A b,xs=[x,.ty n]/\TyM K H x A/\PySem.W.kitOne K (.type A) (.type n)=some b/\Q (.bl b) H
theorem mP {X:Cx}:jx X (.builtin "isinstance") (UM X.K):=by
 intro j s σ H xs us Q I r h;obtain⟨x,n,A,b,rfl,ty,e,q⟩:=h;obtain⟨u,m,rfl,f,l⟩:=Bj r;cases l;cases ty with
 | of h=>exact yG (n:=1) I.tk (mZ I f h e λtk c=>⟨.bl b,H,I.tok tk c,rfl,q⟩)
 | sqT h =>
  cases f;obtain⟨its,_,⟨o,g,i,_⟩,_⟩:=I.tuple h;exact yG (n:=1) I.tk (PySem.W.kia_one PySem.W.kitx_tuple I.kIn ⟨o,g,i⟩ e (λz=>nomatch z) λtk c=>⟨.bl b,H,I.tok tk c,rfl,q⟩)
 | sqL h =>
  cases f;obtain⟨its,_,⟨o,n,g,i,_⟩,_⟩:=I.list h;exact yG (n:=1) I.tk (PySem.W.kia_one PySem.W.kitx_list I.kIn ⟨o,g,i⟩ e (λz=>nomatch z) λtk c=>⟨.bl b,H,I.tok tk c,rfl,q⟩)
theorem Ha (n:M.Kd):PySem.W.kitOne K (.type "NoneType") (.type (yt n))=some false/\PySem.W.kitOne K (.type "bool") (.type (yt n))=some (match n with | .bool=>true | .int=>true | _=>false) /\
  PySem.W.kitOne K (.type "int") (.type (yt n))=some (match n with | .int=>true | _=>false)/\PySem.W.kitOne K (.type "str") (.type (yt n))=some (match n with | .str=>true | _=>false) /\
  PySem.W.kitOne K (.type "tuple") (.type (yt n))=some (match n with | .tuple=>true | _=>false)/\PySem.W.kitOne K (.type "list") (.type (yt n))=some (match n with | .list=>true | _=>false) /\
  PySem.W.kitOne K (.type "dict") (.type (yt n))=some (match n with | .dict=>true | _=>false):=by
 cases n<;>exact⟨xM (by decide +kernel),xM (by decide +kernel),xM (by decide +kernel),xM (by decide +kernel),xM (by decide +kernel),xM (by decide +kernel),xM (by decide +kernel)⟩
theorem L1:AdN K Θ M.yE (UM K):=by
 intro w H S xs N Q j rx h
 match xs,rx,h with
 | [x,.ty n],rx,h =>
  obtain⟨v,_,rfl,f,_,_,rfl,rfl,rfl⟩:=rx;obtain⟨y,B,C,E,G,t,I⟩:=Ha (K:=K) n;have fin:∀ {A:String}{b:Bool},M.ZC n x S=.ok b S->TyM K H v A->PySem.W.kitOne K (.type A) (.type (yt n))=some b->UM K [v,.ty (yt n)] H Q:=λ{A b} e ty k=>by
   have h':zF K Θ (zL K) w H ((M.ZC n x S).bind λb s=>.ok (.bl b) s) Q:=h;rw[e] at h';exact⟨v,yt n,A,b,rfl,ty,k,zF.here (b:=V.bl b) h' j rfl⟩
  cases x with
  | non=>cases f;exact fin rfl (.of .non) y
  | bl b=>cases f;exact fin rfl (.of (.bl b)) B
  | int i=>cases f;exact fin rfl (.of (.int i)) C
  | str z=>obtain⟨rfl,_⟩:=f;exact fin rfl (.of (.str _)) E
  | tup ds=>obtain⟨l,ys,rfl,hq,r⟩:=f;exact fin rfl (.sqT hq) G
  | ro ds=>obtain⟨l,ys,rfl,hq,r⟩:=f;exact fin rfl (.sqL hq.sq) t
  | ty m=>exact h.elim
  | ref p =>
   obtain⟨a,rfl,u⟩:=f;cases q:S[p]? with
   | none=>simp[M.yE,M.ZC,q] at h;exact h.elim
   | some o =>
    cases o with
    | lst xs =>
     obtain⟨J,g,r⟩:=Zz j u q;refine fin ?_ (.sqL (SqL.of g)) t;simp only[M.ZC,q]<;>(cases n<;>rfl)
    | dct kvs =>
     obtain⟨b,g,J,L,r⟩:=j.obj _ _ q;rw[u] at g;cases g;refine fin ?_ (.of (.dK L)) I;simp only[M.ZC,q]<;>(cases n<;>rfl)
    | fdc _=>simp[M.yE,M.ZC,q] at h;exact h.elim
    | dtt _=>simp[M.yE,M.ZC,q] at h;exact h.elim
    | ftt _=>simp[M.yE,M.ZC,q] at h;exact h.elim
    | ins c fs=>simp[M.yE,M.ZC,q] at h;exact h.elim
 | [_,.non],_,h=>exact h.elim
 | [_,.bl _],_,h=>exact h.elim
 | [_,.int _],_,h=>exact h.elim
 | [_,.str _],_,h=>exact h.elim
 | [_,.tup _],_,h=>exact h.elim
 | [_,.ro _],_,h=>exact h.elim
 | [_,.ref _],_,h=>exact h.elim
 | [],_,h=>exact h.elim
 | [_],_,h=>exact h.elim
 | _::b::_::_,_,h=>cases b<;>exact h.elim
def ofP:M.P->Qk
 | .non=>.none
 | .bl b=>.bool b
 | .int i=>.int i
 | .str x=>.str (ofT x)
 | .tup ps=>.tuple (all ps)
 | .lst ps=>.list (all ps)
where all:List M.P->List Qk
 | []=>[]
 | p::ps=>ofP p::all ps
theorem Ca (x y:M.T):(ofT x == ofT y)=(x == y):=by
 by_cases h:x=y
 ·subst h;simp
 ·rw[beq_eq_false_iff_ne.mpr h,beq_eq_false_iff_ne.mpr λe=>h (YK e)]
mutual
theorem Yx:∀ p q:M.P,xH (ofP p) (ofP q)=M.P.eqv p q
 | .non,.non=>rfl
 | .non,.bl _=>rfl
 | .non,.int _=>rfl
 | .non,.str _=>rfl
 | .non,.tup _=>rfl
 | .non,.lst _=>rfl
 | .bl _,.non=>rfl
 | .bl _,.bl _=>rfl
 | .bl _,.int _=>rfl
 | .bl _,.str _=>rfl
 | .bl _,.tup _=>rfl
 | .bl _,.lst _=>rfl
 | .int _,.non=>rfl
 | .int _,.bl _=>rfl
 | .int _,.int _=>rfl
 | .int _,.str _=>rfl
 | .int _,.tup _=>rfl
 | .int _,.lst _=>rfl
 | .str _,.non=>rfl
 | .str _,.bl _=>rfl
 | .str _,.int _=>rfl
 | .str x,.str y=>Ca x y
 | .str _,.tup _=>rfl
 | .str _,.lst _=>rfl
 | .tup _,.non=>rfl
 | .tup _,.bl _=>rfl
 | .tup _,.int _=>rfl
 | .tup _,.str _=>rfl
 | .tup ps,.tup c=>UL ps c
 | .tup _,.lst _=>rfl
 | .lst _,.non=>rfl
 | .lst _,.bl _=>rfl
 | .lst _,.int _=>rfl
 | .lst _,.str _=>rfl
 | .lst _,.tup _=>rfl
 | .lst ps,.lst c=>UL ps c
theorem UL:∀ ps c:List M.P,eI (ofP.all ps) (ofP.all c)=M.P.eqvs ps c
 | [],[]=>rfl
 | [],_::_=>rfl
 | _::_,[]=>rfl
 | p::ps,q::c=>by
  show (xH (ofP p) (ofP q) && eI (ofP.all ps) (ofP.all c))=(M.P.eqv p q && M.P.eqvs ps c)
  rw[Yx p q,UL ps c]
end
mutual
theorem Xu:∀ p:M.P,Gu (ofP p)=M.P.dep p
 | .non=>rfl
 | .bl _=>rfl
 | .int _=>rfl
 | .str _=>rfl
 | .tup ps=>by show Uo (ofP.all ps)+1=M.P.deps ps+1;rw[wg ps]
 | .lst ps=>by show Uo (ofP.all ps)+1=M.P.deps ps+1;rw[wg ps]
theorem wg:∀ ps:List M.P,Uo (ofP.all ps)=M.P.deps ps
 | []=>rfl
 | p::ps=>by show max (Gu (ofP p)) (Uo (ofP.all ps))=max (M.P.dep p) (M.P.deps ps);rw[Xu p,wg ps]
end
section
variable {ρ:List zE}{H:Hp}
mutual
theorem Y5 {g:Nat->Option M.P} (h:∀ i p v,g i=some p->zL K ρ H (.ref i) v->qh K H v (ofP p)/\(ofP p).canLay0=true):∀ {d:M.D}{p:M.P}{v:V},M.qf g d=some p->zL K ρ H d v->qh K H v (ofP p)/\(ofP p).canLay0=true
 | .non,_,_,e,r=>by cases e;cases r;exact⟨.non,rfl⟩
 | .bl _,_,_,e,r=>by cases e;cases r;exact⟨.bl _,rfl⟩
 | .int _,_,_,e,r=>by cases e;cases r;exact⟨.int _,rfl⟩
 | .str x,_,_,e,r=>by
  cases e;obtain⟨rfl,ok⟩:=r;refine⟨.str _,?_⟩;show ig (ofT x)=true;unfold ig ofT;have j:x.all (λc=>decide (c < 1114112))=true:=ok;simpa using j
 | .tup ds,_,_,e,r=>by
  obtain⟨l,xs,rfl,hq,m⟩:=r;have f:(M.qf.all g ds).map M.P.tup=some _:=e;cases q:M.qf.all g ds with
  | none=>rw[q] at f;cases f
  | some ps =>
   rw[q] at f;cases f;obtain⟨n,o⟩:=VW h q m;exact⟨.tup hq n,o⟩
 | .ro ds,_,_,e,r=>by
  obtain⟨l,xs,rfl,hq,m⟩:=r;have f:(M.qf.all g ds).map M.P.lst=some _:=e;cases q:M.qf.all g ds with
  | none=>rw[q] at f;cases f
  | some ps =>
   rw[q] at f;cases f;obtain⟨n,o⟩:=VW h q m;exact⟨.lst hq.sq n,o⟩
 | .ref i,_,_,e,r=>h i _ _ e r
 | .ty _,_,_,e,_=>by cases e
theorem VW {g:Nat->Option M.P} (j:∀ i p v,g i=some p->zL K ρ H (.ref i) v->qh K H v (ofP p)/\(ofP p).canLay0=true):∀ {ds:List M.D}{ps:List M.P}{xs:List V},M.qf.all g ds=some ps->zT K ρ H ds xs->QR K H xs (ofP.all ps)/\dv (ofP.all ps)=true
 | [],_,_,e,r=>by cases e;cases r;exact⟨.nil,rfl⟩
 | d::ds,_,_,e,r=>by
  obtain⟨y,ys,rfl,l,m⟩:=r;have c:(match M.qf g d,M.qf.all g ds with | some p,some ps=>some (p::ps) | _,_=>none)=some _:=e;cases f:M.qf g d with
  | none=>rw[f] at c;cases c
  | some p =>
   cases h:M.qf.all g ds with
   | none=>rw[f,h] at c;cases c
   | some ps =>
    rw[f,h] at c;cases c;obtain⟨n,o⟩:=Y5 j f l;obtain⟨q,s⟩:=VW j h m;refine⟨.cons n q,?_⟩;show (PyData.canLay0 (ofP p) && dv (ofP.all ps))=true;rw[o,s];rfl
end
theorem KL {S:M.S} (h:zX K x l S H):∀ (n:Nat) {d:M.D}{p:M.P}{v:V},M.toP n S d=some p->zL K l H d v->qh K H v (ofP p)/\(ofP p).canLay0=true
 | 0,_,_,_,e,r=>Y5 (λi p v e _=>by cases e) e r
 | n+1,_,_,_,e,r=>Y5 (λi p v e r=>by
   obtain⟨a,rfl,m⟩:=r;have f:(match M.zv S i with | some xs=>(M.qf.all (λj=>M.toP n S (.ref j)) xs).map M.P.lst | none=>none)=some p:=e;cases q:S[i]? with
   | none=>simp[M.zv,q] at f
   | some o =>
    cases o with
    | lst xs =>
     simp only[M.zv,q] at f;obtain⟨y,s,t⟩:=Zz h m q;cases g:M.qf.all (λj=>M.toP n S (.ref j)) xs with
     | none=>rw[g] at f;cases f
     | some ps =>
      rw[g] at f;cases f;obtain⟨u,w⟩:=VW (λj p v e r=>KL h n e r) g t;exact⟨.lst (SqL.of s) u,w⟩
    | dct kvs=>simp[M.zv,q] at f
    | fdc _=>simp[M.zv,q] at f
    | dtt _=>simp[M.zv,q] at f
    | ftt _=>simp[M.zv,q] at f
    | ins c fs=>simp[M.zv,q] at f) e r
end
abbrev DR (K:PySem.W.Frag) (c:List zE) (H:Hp):List (M.D×M.D)->List (Key×V)->Prop:=Paired λp q=>yL p.1 q.1/\zL K c H p.2 q.2
theorem Y8 {d:M.D}{a b:Key} (ha:yL d a) (c:yL e b):(a=b)=(d=e):=by
 cases d with
 | int i =>
  cases ha;cases e with
  | int j=>cases c;exact propext ⟨λz=>by cases z;rfl,λz=>by cases z;rfl⟩
  | str y=>obtain⟨rfl,_⟩:=c;exact propext ⟨λz=>(nomatch z),λz=>(nomatch z)⟩
  | _=>exact c.elim
 | str x =>
  obtain⟨rfl,_⟩:=ha;cases e with
  | int j=>cases c;exact propext ⟨λz=>(nomatch z),λz=>(nomatch z)⟩
  | str y=>obtain⟨rfl,_⟩:=c;exact propext ⟨λz=>by rw[YK (gT z)],λz=>by cases z;rfl⟩
  | _=>exact c.elim
 | _=>exact ha.elim
theorem XC {d:M.D} (h:M.qU d=true) (r:zL K c H d v):∃ k,yL d k/\v=kV k:=by
 cases d with
 | int i=>cases r;exact⟨.inl i,rfl,rfl⟩
 | str x=>obtain⟨rfl,ok⟩:=r;exact⟨.inr (ofT x),⟨rfl,ok⟩,rfl⟩
 | _=>cases h
section
variable {ρ:List zE}{H:Hp}{kvs:List (M.D×M.D)}{ks:List (Key×V)}{d:M.D}{k:Key}
theorem DR.val (r:DR K ρ H kvs ks) (c:yL d k):match M.qE d kvs with | some e=>∃ v,yO ks k=some v/\zL K ρ H e v | none=>yO ks k=none:=by
 induction r with
 | nil=>exact rfl
 | @cons p q ps g h t f =>
  have e:=Y8 h.1 c;by_cases hd:p.1=d
  ·have hq:q.1=k:=e.mpr hd;rw[YH hq,M.qE,yA,beq_iff_eq.mpr hd.symm];exact⟨_,rfl,h.2⟩
  ·have hq:¬ q.1=k:=λz=>hd (e.mp z);rw[VD hq,M.qE,yA,beq_eq_false_iff_ne.mpr (yK hd)];exact f
theorem DR.any (r:DR K ρ H kvs ks) (e:yL d k):(ks.any λc=>decide (c.1=k))=kvs.any λc=>decide (c.1=d):=by
 induction r with
 | nil=>rfl
 | @cons p q ps g h t f =>
  rw[Qo,Qo,f]
  congr 1
  exact decide_eq_decide.mpr (Y8 h.1 e ▸ Iff.rfl)
theorem DR.put (r:DR K ρ H kvs ks) (c:yL d k) (f:zL K ρ H e v):DR K ρ H (M.ym d e kvs) (yN ks k v):=by
 unfold M.ym yN;rw[r.any c];by_cases ha:(kvs.any λg=>decide (g.1=d))=true
 ·rw[if_pos ha,if_pos ha];clear ha
  induction r with
  | nil=>exact .nil
  | @cons p q ps j h t i =>
   rw[jN,jN];refine .cons ?_ i;have eq:=Y8 h.1 c;by_cases hd:p.1=d
   ·rw[if_pos hd,if_pos (eq.mpr hd)];exact⟨h.1,f⟩
   ·rw[if_neg hd,if_neg λz=>hd (eq.mp z)];exact h
 ·rw[if_neg ha,if_neg ha];exact Paired.snoc r ⟨c,f⟩
end
theorem xZ {S:M.S} (g:zX K l c S H) {i:Nat}{a:zE} (ha:c[i]? = some a) {kvs:List (M.D×M.D)} (q:S[i]? = some (.dct kvs)):∃ e,H a=some (.dK e)/\DR K c H kvs e:=by
 obtain⟨b,f,h,j,r⟩:=g.obj i _ q;rw[ha] at f;cases f;exact⟨h,j,r⟩
theorem dO {S:M.S} (g:zX K l c S H) {i:Nat}{a:zE} (ha:c[i]? = some a) {kvs:List (M.D×M.D)} (q:S[i]? = some (.fdc kvs)):∃ o e,H a=some (.frz o (.dK e))/\DR K c H kvs e:=by
 obtain⟨b,f,o,h,j,r⟩:=g.obj i _ q;rw[ha] at f;cases f;exact⟨o,h,j,r⟩
inductive Qi (K:PySem.W.Frag) (H:Hp) (kb:List (Key×V)):List (Key×V)->Bool->Prop where
 | nil:Qi K H kb [] true
 | miss {k:Key}{v:V}{r:List (Key×V)} (h:yO kb k=none):Qi K H kb ((k,v)::r) false
 | hit {k:Key}{v y:V}{r:List (Key×V)}{d e:Qk}{b:Bool} (h:yO kb k=some y) (hd:qh K H v d) (he:qh K H y e) (sd:Zl d=true) (se:Zl e=true) (t:Qi K H kb r b):Qi K H kb ((k,v)::r) (xH d e && b)
def Yt (neg:Bool) (K:PySem.W.Frag):R2:=λx y H Q=>∃ a b c e r,x=.ref a/\y=.ref b/\H a=some (.dK c)/\H b=some (.dK e)/\(c.length=e.length->Qi K H e c r)/\Q (.bl (if neg then !(c.length == e.length && r) else (c.length == e.length && r))) H
theorem uN {X:Cx}{A:jj} (I:Inv X l σ H s) (m:A.units+64 < Qt) {n:List (Key×V)}{g:List (Key×zD)} (j:KV n g):∀ {o:List (Key×V)}{u:List (Key×zD)}{r:Bool},KV o u->Qi X.K H n o r->PySem.W.KeqHits A s g u r
 | _,_,_,e,.nil=>by cases e;exact .nil
 | _,_,_,e,.miss h=>by
  cases e with
  | @cons p q ps y i t =>
   obtain⟨k,v⟩:=q;have c:_=k:=i.1;have hv:=j.val k;rw[<- c,h] at hv;refine .miss ?_;rw[<- c];cases f:Jw g _ with
   | none=>rfl
   | some w=>rw[f] at hv;exact hv.elim
 | _,_,_,e,.hit h hd z x B t=>by
  cases e with
  | @cons p q ps y i C =>
   obtain⟨k,v⟩:=q;have c:_=k:=i.1;have hv:=j.val k;rw[<- c,h] at hv;cases f:Jw g k with
   | none=>rw[c,f] at hv;exact hv.elim
   | some w =>
    rw[c,f] at hv;obtain⟨as,E⟩:=hd.reads I i.2;obtain⟨bs,G⟩:=z.reads I hv;exact .hit f (SeqAt.eqAt_reads _ _ A s _ _ as bs E G (gI x) (gI B) (SeqAt.room_of_shaped x m)) (uN I m j C t)
theorem Lh {X:Cx}{k:Nat} (g:z6 k X.A):OpR X (jZ .Eq) (Yt false X.K):=by
 intro i s σ H x y v u Q I rx ry h;obtain⟨a,b,t,w,r,rfl,rfl,ha,j,l,q⟩:=h;cases rx;cases ry;obtain⟨za,m,z,c,n⟩:=JW I.hok ha;obtain⟨B,o,C,f,p⟩:=JW I.hok j;refine PySem.W.keq_eq m o n p g.units0 (λe=>uN I (by show X.A.units+1+64 < _;have:=g.un;lia) f c (l (by rw[c.length,f.length];exact e))) ⟨.bl _,H,I,rfl,?_⟩;rw[<- c.length,<- f.length];exact q
theorem ia {X:Cx}{k:Nat} (g:z6 k X.A):OpR X (jZ .NotEq) (Yt true X.K):=by
 intro i s σ H x y v u Q I rx ry h;obtain⟨a,b,t,w,r,rfl,rfl,ha,j,l,q⟩:=h;cases rx;cases ry;obtain⟨za,m,z,c,n⟩:=JW I.hok ha;obtain⟨B,o,C,f,p⟩:=JW I.hok j;refine PySem.W.keq_ne m o n p g.units0 (λe=>uN I (by show X.A.units+1+64 < _;have:=g.un;lia) f c (l (by rw[c.length,f.length];exact e))) ⟨.bl _,H,I,rfl,?_⟩;rw[<- c.length,<- f.length];exact q
theorem cG {S:M.S} (j:zX K C n S H) (o:DR K n H ws p):∀ {f:List (M.D×M.D)}{l:List (Key×V)}{b:Bool},DR K n H f l->M.dEq S ws f=some b->Qi K H p l b
 | _,_,_,.nil,e=>by cases e;exact .nil
 | (k,v)::f,(E,vv)::l,b,.cons h t,e=>by
  have hv:=DR.val o h.1;unfold M.dEq at e;cases q:M.qE k ws with
  | none =>
   rw[q] at e hv;cases e;exact .miss hv
  | some w =>
   rw[q] at e hv;obtain⟨y,r,ry⟩:=hv;dsimp only at e;cases c:M.toP 8 S v with
   | none=>rw[c] at e;cases e
   | some s =>
    cases g:M.toP 8 S w with
    | none=>rw[c,g] at e;cases e
    | some u =>
     cases m:M.dEq S ws f with
     | none=>rw[c,g,m] at e;cases e
     | some G =>
      rw[c,g,m] at e;dsimp only at e;by_cases i:M.P.dep s <= 64/\M.P.dep u <= 64
      ·rw[if_pos i] at e;cases e;obtain⟨x,z⟩:=KL j _ c h.2;obtain⟨A,B⟩:=KL j _ g ry;rw[<- Yx];refine .hit r x A ?_ ?_ (cG j o t m)
       ·unfold Zl;rw[z,vC,Xu];exact decide_eq_true i.1
       ·unfold Zl;rw[B,vC,Xu];exact decide_eq_true i.2
      ·rw[if_neg i] at e;cases e
theorem Bk {S:M.S}{m:Bool->Hp->Prop} (g:zX K v l S H) (rx:zL K l H x w) (ry:zL K l H y Y) (h:zF K v rB l H (M.kz x y S) m) :
  ∃ a b c f r,w=.ref a/\Y=.ref b/\H a=some (.dK c)/\H b=some (.dK f)/\(c.length=f.length->Qi K H f c r)/\m (c.length == f.length && r) H:=by
 unfold M.kz at h;split at h
 ·rename_i i j;split at h
  ·rename_i C ws z A;obtain⟨a,rfl,ha⟩:=rx;obtain⟨b,rfl,B⟩:=ry;obtain⟨c,n,o⟩:=xZ g ha z;obtain⟨f,p,s⟩:=xZ g B A;have E:=Paired.length o;have G:=Paired.length s;split at h
   ·rename_i t;split at h
    ·rename_i u q;refine⟨a,b,c,f,u,rfl,rfl,n,p,λ_=>cG g s o q,?_⟩;rw[show (c.length == f.length)=true by rw[beq_iff_eq];lia,vC];exact zF.here (b:=u) h g rfl
    ·exact h.elim
   ·rename_i t;refine⟨a,b,c,f,false,rfl,rfl,n,p,λe=>absurd (by lia) t,?_⟩;rw[Bool.and_false];exact zF.here (b:=false) h g rfl
  ·exact h.elim
 ·exact h.elim
def Vn (K:PySem.W.Frag) (neg:Bool):R2:=λx y H Q=>(XI x y=true/\Q (.bl (if neg then !decide (x=y) else decide (x=y))) H)\/wR K neg x y H Q\/Yt neg K x y H Q
theorem bF {X:Cx}{k:Nat} (e:z6 k X.A):OpR X (jZ .Eq) (Vn X.K false):=by
 intro c s σ H x y v u Q I rx ry h;rcases h with h | h | h
 ·exact DL c s σ H x y v u Q I rx ry h
 ·exact gD e c s σ H x y v u Q I rx ry h
 ·exact Lh e c s σ H x y v u Q I rx ry h
theorem LP {X:Cx}{k:Nat} (e:z6 k X.A):OpR X (jZ .NotEq) (Vn X.K true):=by
 intro c s σ H x y v u Q I rx ry h;rcases h with h | h | h
 ·exact G0 c s σ H x y v u Q I rx ry h
 ·exact gg e c s σ H x y v u Q I rx ry h
 ·exact ia e c s σ H x y v u Q I rx ry h
theorem aV {S:M.S}{g:Bool->Hp->Prop} (l:zX K u o S H) (rx:zL K o H x f) (ry:zL K o H y Y) (h:zF K u rB o H (M.eqD x y S) g) :
  (XI f Y=true/\g (decide (f=Y)) H)\/(∃ d e,qh K H f d/\qh K H Y e/\Zl d=true/\Zl e=true/\g (xH d e) H)\/∃ a b i j r,f=.ref a/\Y=.ref b/\H a=some (.dK i)/\H b=some (.dK j)/\(i.length=j.length->Qi K H j i r)/\g (i.length == j.length && r) H:=by
 have gen:∀ {p q:M.P},M.toP M.y0 S x=some p->M.toP M.y0 S y=some q->M.P.dep p <= 64/\M.P.dep q <= 64->g (M.P.eqv p q) H->∃ d e,qh K H f d/\qh K H Y e/\Zl d=true/\Zl e=true/\g (xH d e) H:=λ{p q} m n hd hq=>by
  obtain⟨v,w⟩:=KL l _ m rx;obtain⟨z,A⟩:=KL l _ n ry;refine⟨_,_,v,z,?_,?_,by rw[Yx];exact hq⟩
  ·unfold Zl;rw[w,vC,Xu];exact decide_eq_true hd.1
  ·unfold Zl;rw[A,vC,Xu];exact decide_eq_true hd.2
 have qQ:zF K u rB o H (match M.toP M.y0 S x,M.toP M.y0 S y with
   | some p,some q=>if M.P.dep p <= 64/\M.P.dep q <= 64 then M.R.ok (M.P.eqv p q) S else .no
   | _,_=>M.kz x y S) g->(∃ d e,qh K H f d/\qh K H Y e/\Zl d=true/\Zl e=true/\g (xH d e) H)\/∃ a b i j r,f=.ref a/\Y=.ref b/\H a=some (.dK i)/\H b=some (.dK j)/\(i.length=j.length->Qi K H j i r)/\g (i.length == j.length && r) H:=λh'=>by
  cases m:M.toP M.y0 S x with
  | none=>rw[m] at h';exact .inr (Bk l rx ry h')
  | some p =>
   cases n:M.toP M.y0 S y with
   | none=>rw[m,n] at h';exact .inr (Bk l rx ry h')
   | some q =>
    rw[m,n] at h';dsimp only at h';by_cases t:M.P.dep p <= 64/\M.P.dep q <= 64
    ·rw[if_pos t] at h';exact .inl <| gen m n t (zF.here (b:=M.P.eqv p q) h' l rfl)
    ·rw[if_neg t] at h';exact h'.elim
 have s:∀ {b:Bool},XI f Y=true->decide (f=Y)=b->M.eqD x y S=.ok b S->(XI f Y=true/\g (decide (f=Y)) H):=λ{b} B C E=>by
  rw[E] at h;rw[C];exact⟨B,zF.here (b:=b) h l rfl⟩
 cases x with
 | str a =>
  cases y with
  | str b =>
   obtain⟨rfl,_⟩:=rx;obtain⟨rfl,_⟩:=ry;refine .inl (s rfl ?_ rfl);by_cases c:a=b
   ·subst c;simp
   ·rw[decide_eq_false c,decide_eq_false λe=>c (YK (V.str.inj e))]
  | _=>exact .inr (qQ h)
 | int a =>
  cases y with
  | int b =>
   cases rx;cases ry;refine .inl (s rfl ?_ rfl);by_cases c:a=b
   ·subst c;simp
   ·rw[decide_eq_false c,decide_eq_false λe=>c (V.int.inj e)]
  | _=>exact .inr (qQ h)
 | bl a =>
  cases y with
  | bl b =>
   cases rx;cases ry;refine .inl (s rfl ?_ rfl);by_cases c:a=b
   ·subst c;simp
   ·rw[decide_eq_false c,decide_eq_false λe=>c (V.bl.inj e)]
  | _=>exact .inr (qQ h)
 | non =>
  cases y with
  | non=>cases rx;cases ry;exact .inl (s rfl rfl rfl)
  | _=>exact .inr (qQ h)
 | _=>exact .inr (qQ h)
theorem aH:AdC K o M.cEq (Vn K false):=by
 intro p H S x y q Y Q c rx ry h;rcases aV c rx ry h with h | ⟨d,e,f,g,i,j,l⟩ | ⟨a,b,m,n,r,h⟩
 ·exact .inl h
 ·exact .inr (.inl ⟨d,e,f,g,i,j,l⟩)
 ·exact .inr (.inr ⟨a,b,m,n,r,h⟩)
theorem FJ:AdC K g M.cNe (Vn K true):=by
 intro i H S x y u Y Q j rx ry h;have h':zF K g rB i H (M.eqD x y S) (λb l=>Q (.bl (!b)) l):=zF.bind h λm v b w z A B c e f=>by cases e;exact zF.here (b:=!b) f c rfl
 rcases aV j rx ry h' with h | ⟨d,e,f,n,o,p,q⟩ | ⟨a,b,s,t,r,h⟩
 ·exact .inl h
 ·exact .inr (.inl ⟨d,e,f,n,o,p,q⟩)
 ·exact .inr (.inr ⟨a,b,s,t,r,h⟩)
end
end L2
namespace L2
open PySem PySem.Spec PyProof.Rows
section
variable {K:PySem.W.Frag}{Θ:Tab}
theorem kj (n d:Nat) (o:Option Int):M.sIx n d o=HT.sIx n d o:=by
 cases o with
 | none=>rfl
 | some v =>
  have:=HT.Wf v n d;show (if v < 0 then max (v+(n:Int)) 0 else min v (n:Int)).toNat=_;rw[this];simp
theorem WC {lo:Option Int}:∀ c∈M.cut x lo hi,c∈x:=λc e=>ud (Cy e)
theorem UZ {ds:List M.D} (r:zT K c H ds xs) (lo hi:Option Int):zT K c H (M.cut ds lo hi) (Ql xs lo hi):=by
 unfold M.cut Ql;rw[kj,kj,r.length];exact (r.drop _).take _
theorem iG:∀ g H S x m l u Q,zX K Θ g S H->zL K g H x m->zF K Θ (zL K) g H (M.slD x l u S) Q->uSl K m l u H Q:=by
 intro g H S x m l u Q i rx h;cases x with
 | str z =>
  obtain⟨rfl,ok⟩:=rx;by_cases n:z.length <= M.SZ
  ·simp only[M.slD,if_pos n] at h;refine⟨by rw[qS,<- ZE];exact n,zF.here h i ⟨?_,kN ok WC⟩⟩;show V.str (ko (ofT z) l u)=V.str (ofT (M.cut z l u));unfold ko M.cut ofT;have e:(⟨z.toArray⟩:Str).length=z.length:=by simp[Str.length]
   rw[e,kj,kj]
  ·simp only[M.slD,if_neg n] at h;exact h.elim
 | tup ds =>
  obtain⟨a,xs,rfl,hq,r⟩:=rx;by_cases j:M.sIx ds.length 0 l=0/\M.sIx ds.length ds.length u=ds.length
  ·simp only[M.slD,if_pos j] at h;exact h.elim
  ·simp only[M.slD,if_neg j] at h;refine .inr ⟨xs,hq,?_,λp f=>h g _ _ (jc _) (Le.new f _) (i.aside f _) ⟨p,_,rfl,SqT.of qN,(UZ r l u).mono (jc _) (Le.new f _)⟩⟩;rw[kj,kj,r.length] at j;exact j
 | ro ds =>
  obtain⟨a,xs,rfl,hq,r⟩:=rx;exact .inl ⟨xs,hq.sq,λp f=>zF.alloc h i (UZ r l u) f⟩
 | ref p =>
  obtain⟨a,rfl,s⟩:=rx;cases q:S[p]? with
  | none=>simp[M.slD,M.zv,q] at h;exact h.elim
  | some o =>
   cases o with
   | lst xs =>
    simp only[M.slD,M.zv,q] at h;obtain⟨t,v,r⟩:=Zz i s q;exact .inl ⟨t,SqL.of v,λp f=>zF.alloc h i (UZ r l u) f⟩
   | dct kvs=>simp[M.slD,M.zv,q] at h;exact h.elim
   | fdc _=>simp[M.slD,M.zv,q] at h;exact h.elim
   | dtt _=>simp[M.slD,M.zv,q] at h;exact h.elim
   | ftt _=>simp[M.slD,M.zv,q] at h;exact h.elim
   | ins c fs=>simp[M.slD,M.zv,q] at h;exact h.elim
 | _=>exact h.elim
theorem aJ:∀ {ds:List M.D}{ys:List V}{bs:List Bool},M.JL ds=some bs->zT K h H ds ys->ys=bs.map V.bl
 | [],_,_,e,r=>by cases e;cases r;rfl
 | .bl b::ds,_,_,e,r=>by
  obtain⟨y,ys,rfl,f,g⟩:=r;cases f;have c:(M.JL ds).map (b :: ·)=some _:=e;cases q:M.JL ds with
  | none=>rw[q] at c;cases c
  | some i=>rw[q] at c;cases c;rw[aJ q g];rfl
 | .non::_,_,_,e,_=>by cases e
 | .int _::_,_,_,e,_=>by cases e
 | .str _::_,_,_,e,_=>by cases e
 | .tup _::_,_,_,e,_=>by cases e
 | .ro _::_,_,_,e,_=>by cases e
 | .ref _::_,_,_,e,_=>by cases e
 | .ty _::_,_,_,e,_=>by cases e
theorem Hy:AdK K Θ M.Qf (de K):=by
 intro f H S ds ys p Q c r hq h;cases e:M.JL ds with
 | none=>simp only[M.Qf,e] at h;exact h.elim
 | some bs =>
  simp only[M.Qf,e] at h;have:=aJ e r;subst this;exact⟨p,bs,rfl,hq,zF.here (b:=V.bl (bs.all id)) h c rfl⟩
theorem Xz:∀ {ds:List M.D}{ys:List V}{ts:List M.T},M.Zn ds=some ts->zT K m H ds ys->ys=(ts.map ofT).map V.str/\∀ t∈ts,okT t
 | [],_,_,e,r=>by cases e;cases r;exact⟨rfl,λt h=>by cases h⟩
 | .str x::ds,_,_,e,r=>by
  obtain⟨y,ys,rfl,g,i⟩:=r;obtain⟨rfl,ok⟩:=g;have c:(M.Zn ds).map (x :: ·)=some _:=e;cases q:M.Zn ds with
  | none=>rw[q] at c;cases c
  | some n =>
   rw[q] at c;cases c;obtain⟨j,l⟩:=Xz q i;refine⟨by rw[j];rfl,λt f=>?_⟩;rcases List.mem_cons.mp f with rfl | f
   ·exact ok
   ·exact l t f
 | .non::_,_,_,e,_=>by cases e
 | .int _::_,_,_,e,_=>by cases e
 | .bl _::_,_,_,e,_=>by cases e
 | .tup _::_,_,_,e,_=>by cases e
 | .ro _::_,_,_,e,_=>by cases e
 | .ref _::_,_,_,e,_=>by cases e
 | .ty _::_,_,_,e,_=>by cases e
theorem aK (x:M.T):∀ (ys:List M.T) (c:M.T),((ys.map ofT).foldl (λc p=>c++(ofT x).cps++p.cps) c.toArray)=(c++(ys.map (x ++ ·)).flatten).toArray
 | [],c=>by simp
 | y::ys,c=>by
  rw[jN,Z7];have e:c.toArray++(ofT x).cps++(ofT y).cps=(c++x++y).toArray:=by simp[ofT]
  rw[e,aK x ys];simp
theorem BX (x y:M.T):∀ ys:List M.T,M.yD x (y::ys)=y++(ys.map (x ++ ·)).flatten
 | []=>by simp[M.yD]
 | z::ys=>by
  show y++x++M.yD x (z::ys)=_;rw[BX x z ys];simp
theorem Al (x:M.T) (ys:List M.T):kZ (ofT x) (ys.map ofT)=ofT (M.yD x ys):=by
 cases ys with
 | nil=>rfl
 | cons y ys =>
  show (⟨(((y::ys).map ofT).drop 1).foldl (λc p=>c++(ofT x).cps++p.cps) (((y::ys).map ofT).headD Cs).cps⟩:Str)=_;rw[BX,jN,ip,List.tail_cons];have:=aK x ys y;show (⟨(ys.map ofT).foldl _ y.toArray⟩:Str)=_;rw[this];rfl
theorem Wh (c:okT x):∀ {ys:List M.T},(∀ t∈ys,okT t)->okT (M.yD x ys)
 | [],_=>rfl
 | [y],h=>h y (by simp)
 | y::z::ys,h=>V2 (V2 (h y (by simp)) c) (Wh c λt e=>h t (je _ e))
theorem cu (ts:List M.T):((ts.map ofT).map (·.length)).sum=(ts.map List.length).sum:=by
 rw[yo];exact congrArg List.sum (Zv λt _=>qS t)
theorem VM (g:okT y):∀ c H S ds ys p Q,zX K Θ c S H->zT K c H ds ys->(SqL K H p ys\/SqT K H p ys)->zF K Θ (zL K) c H (M.yP y ds S) Q->vW K (.str (ofT y)) [.ref p] H Q:=by
 intro c H S ds ys p Q i r hq h;cases e:M.Zn ds with
 | none=>simp only[M.yP,e] at h;exact h.elim
 | some ts =>
  obtain⟨rfl,ok⟩:=Xz e r;by_cases f:(ts.map List.length).sum+ts.length * y.length <= M.SZ
  ·simp only[M.yP,e,if_pos f] at h;refine⟨ofT y,p,ts.map ofT,rfl,rfl,hq,?_,?_⟩
   ·rw[cu,jH,qS];exact f
   ·rw[Al];exact zF.here h i ⟨rfl,Wh g ok⟩
  ·simp only[M.yP,e,if_neg f] at h;exact h.elim
theorem FM:AdM K Θ M.QN (vW K):=by
 intro g H S x xs n s Q f rx e h;cases x with
 | str y =>
  obtain⟨rfl,ok⟩:=rx
  match xs,e,h with
  | [.tup ds],e,h =>
   obtain⟨_,_,rfl,⟨l,ys,rfl,hq,r⟩,rfl⟩:=e;exact VM ok g H S ds ys l Q f r (.inr hq) h
  | [.ro ds],e,h =>
   obtain⟨_,_,rfl,⟨l,ys,rfl,hq,r⟩,rfl⟩:=e;exact VM ok g H S ds ys l Q f r (.inl hq.sq) h
  | [.ref p],e,h =>
   obtain⟨_,_,rfl,⟨a,rfl,i⟩,rfl⟩:=e;cases q:S[p]? with
   | none=>simp[M.QN,M.Jr,M.zv,q] at h;exact h.elim
   | some o =>
    cases o with
    | lst xs =>
     simp only[M.QN,M.Jr,M.zv,q] at h;obtain⟨j,m,r⟩:=Zz f i q;exact VM ok g H S xs j a Q f r (.inl (SqL.of m)) h
    | dct kvs=>simp[M.QN,M.Jr,M.zv,q] at h;exact h.elim
    | fdc _=>simp[M.QN,M.Jr,M.zv,q] at h;exact h.elim
    | dtt _=>simp[M.QN,M.Jr,M.zv,q] at h;exact h.elim
    | ftt _=>simp[M.QN,M.Jr,M.zv,q] at h;exact h.elim
    | ins c fs=>simp[M.QN,M.Jr,M.zv,q] at h;exact h.elim
  | [.non],_,h=>exact h.elim
  | [.bl _],_,h=>exact h.elim
  | [.int _],_,h=>exact h.elim
  | [.str _],_,h=>exact h.elim
  | [.ty _],_,h=>exact h.elim
  | [],_,h=>exact h.elim
  | a::_::_,_,h=>cases a<;>exact h.elim
 | _=>exact h.elim
end
end L2
namespace L2
open PySem PySem.Spec PyProof.Rows
section
variable {K:PySem.W.Frag}{Θ:Tab}
theorem aX (a:M.T):∀ (n:Nat) (c:Array Nat),(jK n a.toArray).foldl (· ++ ·) c=c++((jK n a).flatten).toArray
 | 0,c=>by simp
 | n+1,c=>by
  rw[JP,Z7,aX a n,JP,Jf];simp
theorem IH (a:M.T) (n:Int) (h:0 <= n):VL (ofT a) n=ofT (jK n.toNat a).flatten:=by
 unfold VL;by_cases f:n < 1
 ·have e:n.toNat=0:=by lia
  rw[if_pos f,e];rfl
 ·rw[if_neg f];by_cases c:(n == 1 || (ofT a).length == 0)=true
  ·rw[if_pos c];rw[Vh] at c;rcases c with c | c
   ·have e:n=1:=eq_of_beq c;subst e;simp
   ·have e:a.length=0:=by rw[<- qS];exact eq_of_beq c
    have g:a=[]:=List.length_eq_zero_iff.mp e;subst g;simp[ofT]
  ·rw[if_neg c];have:=aX a n.toNat #[];show (⟨(jK n.toNat a.toArray).foldl (· ++ ·) #[]⟩:Str)=_;rw[this];simp[ofT]
theorem LJ (a:M.T) (n:Int) (f:0 <= n) (g:n <= 1000000) (c:a.length * n.toNat <= 1000000):MulOk (ofT a) n:=by
 refine⟨?_,λe _=>?_,λe _=>?_⟩
 ·rw[Bool.or_eq_false_iff];exact⟨decide_eq_false (by lia),decide_eq_false (by lia)⟩
 ·rw[qS];have h:1 <= n.toNat:=by lia
  have ha:a.length <= 1000000:=jr (Nat.le_mul_of_pos_right _ (by lia)) c;have hd:(1000000:Int) <= (2 ^ 63 - 1) / n:=Int.le_ediv_of_mul_le (by lia) (by lia)
  lia
 ·rw[qS];unfold MX;exact decide_eq_false (by rw[Zx];lia)
def Ws:R2:=λx y H Q=>aD x y H Q\/Aq x y H Q
theorem iC {X:Cx}:OpR X (yW .Mult) Ws:=OpR.or Fk eF
theorem zT.flat {ds:List M.D} (h:zT K c H ds xs):∀ n:Nat,zT K c H (jK n ds).flatten (jK n xs).flatten
 | 0=>rfl
 | n+1=>by
  rw[JP,JP,Jf,Jf];exact zT.app h (zT.flat h n)
theorem Dp:Ad2 K Θ M.yM Ws:=by
 intro m H S x y X Y Q g rx ry h;cases x with
 | int i =>
  cases y with
  | int j =>
   cases rx;cases ry;have h':zF K Θ (zL K) m H (if (M.qo i || M.qo j)=true then M.R.ok (M.D.int (i * j)) S else .no) Q:=h;by_cases e:(M.qo i || M.qo j)=true
   ·rw[if_pos e] at h';refine .inl ⟨?_,zF.here (b:=V.int (i * j)) h' g rfl⟩;rw[Vh] at e;rcases e with e | e
    ·exact .inl (BD e)
    ·exact .inr (BD e)
   ·rw[if_neg e] at h';exact h'.elim
  | _=>exact h.elim
 | str a =>
  cases y with
  | int n =>
   obtain⟨rfl,s⟩:=rx;cases ry;have h':zF K Θ (zL K) m H (if 0 <= n/\n.natAbs <= 1000000/\a.length * n.natAbs <= 1000000 then M.R.ok (M.D.str (jK n.toNat a).flatten) S else .no) Q:=h;by_cases e:0 <= n/\n.natAbs <= 1000000/\a.length * n.natAbs <= 1000000
   ·rw[if_pos e] at h';have t:n.natAbs=n.toNat:=by lia
    refine .inl ⟨LJ a n e.1 (by lia) (by rw[<- t];exact e.2.2),?_⟩;show Q (.str (VL (ofT a) n)) H;rw[IH a n e.1];refine zF.here h' g ⟨rfl,kN s λc e=>?_⟩;obtain⟨l,u,f⟩:=List.mem_flatten.mp e;rw[(List.mem_replicate.mp u).2] at f;exact f
   ·rw[if_neg e] at h';exact h'.elim
  | _=>exact h.elim
 | ref p =>
  cases y with
  | int n =>
   cases ry;have h':zF K Θ (zL K) m H (match M.zv S p with | some xs=>if n.natAbs <= 1000/\xs.length * n.natAbs <= 1000000 then M.alloc (.lst (jK n.toNat xs).flatten) S else .no | none=>.no) Q:=h;cases q:S[p]? with
   | none=>simp only[M.zv,q] at h';exact h'.elim
   | some o =>
    cases o with
    | lst ds =>
     simp only[M.zv,q] at h';obtain⟨a,rfl,v⟩:=rx;obtain⟨w,z,r⟩:=Zz g v q;by_cases e:n.natAbs <= 1000/\ds.length * n.natAbs <= 1000000
     ·rw[if_pos e] at h';have t:n.toNat <= n.natAbs:=by lia
      refine .inr ⟨a,n,w,rfl,rfl,z,by lia,by lia,?_,λp A=>zF.alloc h' g (zT.flat r n.toNat) A⟩;have hm:=lE ds.length t;rw[<- r.length,Zx]
      lia
     ·rw[if_neg e] at h';exact h'.elim
    | dct _=>simp only[M.zv,q] at h';exact h'.elim
    | fdc _=>simp only[M.zv,q] at h';exact h'.elim
    | dtt _=>simp only[M.zv,q] at h';exact h'.elim
    | ftt _=>simp only[M.zv,q] at h';exact h'.elim
    | ins _ _=>simp only[M.zv,q] at h';exact h'.elim
  | _=>exact h.elim
 | _=>exact h.elim
def cK (K:PySem.W.Frag):R2:=λx y H Q=>uIx K x y H Q\/∃ a v,x=.ref a/\Qq H a y (some v)/\Q v H
theorem Ln {X:Cx}{k:Nat} (j:z6 k X.A):IxR X (cK X.K):=by
 refine IxR.or eX ?_;intro c e i s σ H x y v u Q I rx ry h hs;obtain⟨a,l,rfl,g,q⟩:=h;cases rx;exact vS (Gz I g) PySem.F.slot_dict_getitem.lookup (m7 (Yu j) I g ry λn o m f=>⟨l,H,m,f,q⟩) hs
def cv (K:PySem.W.Frag):List V->Hp->VK->Prop:=λxs H Q=>B2 K xs H Q\/∃ a kvs,xs=[V.ref a]/\H a=some (.dK kvs)/\Q (.int kvs.length) H
theorem Ds {X:Cx}:jx X (.builtin "len") (cv X.K):=jx.or ET Dq
theorem IZ:Ad2 K Θ M.zH (cK K):=by
 intro u H S x y X Y Q g rx ry h;cases x with
 | str a =>
  cases y with
  | int i =>
   obtain⟨rfl,w⟩:=rx;cases ry;have h':zF K Θ (zL K) u H (if a.length <= M.SZ then (match M.atI a i with | some c=>M.R.ok (M.D.str [c]) S | none=>.no) else .no) Q:=h;by_cases z:a.length <= M.SZ
   ·rw[if_pos z] at h';cases q:M.atI a i with
    | none=>rw[q] at h';exact h'.elim
    | some c =>
     rw[q] at h';refine .inl ⟨c,by rw[qS,<- ZE];exact z,?_,zF.here (b:=V.str (ofT [c])) h' g ⟨rfl,kN w λd hd=>by
      have e:d=c:=by simpa using hd
      rw[e];unfold M.atI at q;cases C:M.ixN a.length i with
      | none=>rw[C] at q;cases q
      | some j=>rw[C] at q;exact yZ q⟩⟩
     rw[Zi];exact q
   ·rw[if_neg z] at h';exact h'.elim
  | _=>exact h.elim
 | tup ds =>
  cases y with
  | int i =>
   obtain⟨l,xs,rfl,hq,r⟩:=rx;cases ry;have h':zF K Θ (zL K) u H (match M.atI ds i with | some d=>M.R.ok d S | none=>.no) Q:=h;cases q:M.atI ds i with
   | none=>rw[q] at h';exact h'.elim
   | some d =>
    rw[q] at h';obtain⟨v,m,n⟩:=u6 r q;exact .inl ⟨xs,v,.inr hq,m,zF.here h' g n⟩
  | _=>exact h.elim
 | ro ds =>
  cases y with
  | int i =>
   obtain⟨l,xs,rfl,hq,r⟩:=rx;cases ry;have h':zF K Θ (zL K) u H (match M.atI ds i with | some d=>M.R.ok d S | none=>.no) Q:=h;cases q:M.atI ds i with
   | none=>rw[q] at h';exact h'.elim
   | some d =>
    rw[q] at h';obtain⟨v,m,n⟩:=u6 r q;exact .inl ⟨xs,v,.inl hq.sq,m,zF.here h' g n⟩
  | _=>exact h.elim
 | ref p =>
  obtain⟨a,rfl,A⟩:=rx;cases q:S[p]? with
  | none=>simp[M.zH,q] at h;exact h.elim
  | some o =>
   cases o with
   | lst xs =>
    cases y with
    | int i =>
     cases ry;obtain⟨G,m,r⟩:=Zz g A q;cases f:M.atI xs i with
     | none=>simp[M.zH,q,f] at h;exact h.elim
     | some d =>
      simp[M.zH,q,f] at h;obtain⟨v,t,n⟩:=u6 r f;exact .inl ⟨G,v,.inl (SqL.of m),t,zF.here h g n⟩
    | _=>simp[M.zH,q] at h;exact h.elim
   | dct kvs =>
    by_cases s:M.qU y=true
    case neg=>simp[M.zH,q,s] at h;exact h.elim
    obtain⟨E,m,r⟩:=xZ g A q;obtain⟨k,B,rfl⟩:=XC s ry;have hv:=r.val B;cases f:M.qE y kvs with
    | none=>simp[M.zH,q,s,f] at h;exact h.elim
    | some d =>
     simp[M.zH,q,s,f] at h;rw[f] at hv;obtain⟨v,t,n⟩:=hv;refine .inr ⟨a,v,rfl,?_,zF.here h g n⟩;rw[<- t];exact Qq.k m
   | dtt _=>simp[M.zH,q] at h;exact h.elim
   | ftt _=>simp[M.zH,q] at h;exact h.elim
   | fdc kvs =>
    by_cases s:M.qU y=true
    case neg=>simp[M.zH,q,s] at h;exact h.elim
    obtain⟨I,E,m,r⟩:=dO g A q;obtain⟨k,B,rfl⟩:=XC s ry;have hv:=r.val B;cases f:M.qE y kvs with
    | none=>simp[M.zH,q,s,f] at h;exact h.elim
    | some d =>
     simp[M.zH,q,s,f] at h;rw[f] at hv;obtain⟨v,t,n⟩:=hv;refine .inr ⟨a,v,rfl,?_,zF.here h g n⟩;rw[<- t];exact (.inl ⟨E,k,.inr ⟨I,m⟩,rfl,rfl⟩)
   | ins c fs=>simp[M.zH,q] at h;exact h.elim
 | _=>exact h.elim
theorem iF:AdN K Θ M.jf (cv K):=by
 intro j H S xs s Q e rx h
 match xs,rx,h with
 | [.str a],rx,h =>
  obtain⟨_,_,rfl,⟨rfl,_⟩,rfl⟩:=rx;have h':zF K Θ (zL K) j H (if a.length <= M.SZ then M.R.ok (M.D.int a.length) S else .no) Q:=h;by_cases f:a.length <= M.SZ
  ·rw[if_pos f] at h';refine .inl ⟨by rw[qS,<- ZE];exact f,?_⟩;rw[qS];exact zF.here (b:=V.int a.length) h' e rfl
  ·rw[if_neg f] at h';exact h'.elim
 | [.tup ds],rx,h =>
  obtain⟨_,_,rfl,⟨l,ys,rfl,hq,r⟩,rfl⟩:=rx;exact .inl ⟨ys,.inr hq,by rw[<- r.length];exact zF.here (b:=V.int ds.length) h e rfl⟩
 | [.ro ds],rx,h =>
  obtain⟨_,_,rfl,⟨l,ys,rfl,hq,r⟩,rfl⟩:=rx;exact .inl ⟨ys,.inl hq.sq,by rw[<- r.length];exact zF.here (b:=V.int ds.length) h e rfl⟩
 | [.ref p],rx,h =>
  obtain⟨_,_,rfl,⟨a,rfl,i⟩,rfl⟩:=rx;cases q:S[p]? with
  | none=>simp[M.jf,q] at h;exact h.elim
  | some o =>
   cases o with
   | lst xs =>
    simp[M.jf,q] at h;obtain⟨m,g,r⟩:=Zz e i q;exact .inl ⟨m,.inl (SqL.of g),by rw[<- r.length];exact zF.here (b:=V.int xs.length) h e rfl⟩
   | dct kvs =>
    simp[M.jf,q] at h;obtain⟨n,g,r⟩:=xZ e i q;exact .inr ⟨a,n,rfl,g,by rw[<- Paired.length r];exact zF.here (b:=V.int kvs.length) h e rfl⟩
   | fdc _=>simp[M.jf,q] at h;exact h.elim
   | dtt _=>simp[M.jf,q] at h;exact h.elim
   | ftt _=>simp[M.jf,q] at h;exact h.elim
   | ins c fs=>simp[M.jf,q] at h;exact h.elim
 | [.non],_,h=>exact h.elim
 | [.bl _],_,h=>exact h.elim
 | [.int _],_,h=>exact h.elim
 | [.ty _],_,h=>exact h.elim
 | [],_,h=>exact h.elim
 | a::_::_,_,h=>cases a<;>exact h.elim
def X0 (K:PySem.W.Frag) (neg:Bool):R2:=λx y H Q=>uIn K neg x y H Q\/∃ a o,y=.ref a/\Qq H a x o/\Q (.bl (xor neg o.isSome)) H
theorem cC {X:Cx}{k:Nat} (e:z6 k X.A):OpR X (jZ .In) (X0 X.K false):=by
 refine OpR.or eE ?_;intro c s σ H x y v u Q I rx ry h;obtain⟨a,o,rfl,g,q⟩:=h;cases ry;exact md (Yu e) I g rx λi f=>⟨.bl o.isSome,H,f,rfl,by rw[uq] at q;exact q⟩
theorem bP {X:Cx}{k:Nat} (e:z6 k X.A):OpR X (jZ .NotIn) (X0 X.K true):=by
 refine OpR.or gK ?_;intro c s σ H x y v u Q I rx ry h;obtain⟨a,o,rfl,g,q⟩:=h;cases ry;exact F6 (Yu e) I g rx λi f=>⟨.bl (!o.isSome),H,f,rfl,by rw[Uq] at q;exact q⟩
theorem ak {d:M.D} (r:zL K c H d v):yb v=M.flat d:=by
 cases d with
 | non=>cases r;rfl
 | bl _=>cases r;rfl
 | int _=>cases r;rfl
 | str _=>obtain⟨rfl,_⟩:=r;rfl
 | ty _=>cases r;rfl
 | ref _=>obtain⟨_,rfl,_⟩:=r;rfl
 | tup _=>obtain⟨_,_,rfl,_⟩:=r;rfl
 | ro _=>obtain⟨_,_,rfl,_⟩:=r;rfl
theorem Hl {d:M.D} (r:zL K c H d v) (q:zL K c H e u):eqV v u=M.eqF d e:=by
 cases d with
 | non =>
  cases r;cases e with
  | str _=>obtain⟨rfl,_⟩:=q;rfl
  | ref _=>obtain⟨_,rfl,_⟩:=q;rfl
  | tup _=>obtain⟨_,_,rfl,_⟩:=q;rfl
  | ro _=>obtain⟨_,_,rfl,_⟩:=q;rfl
  | _=>cases q;rfl
 | bl _ =>
  cases r;cases e with
  | str _=>obtain⟨rfl,_⟩:=q;rfl
  | ref _=>obtain⟨_,rfl,_⟩:=q;rfl
  | tup _=>obtain⟨_,_,rfl,_⟩:=q;rfl
  | ro _=>obtain⟨_,_,rfl,_⟩:=q;rfl
  | _=>cases q;rfl
 | int _ =>
  cases r;cases e with
  | str _=>obtain⟨rfl,_⟩:=q;rfl
  | ref _=>obtain⟨_,rfl,_⟩:=q;rfl
  | tup _=>obtain⟨_,_,rfl,_⟩:=q;rfl
  | ro _=>obtain⟨_,_,rfl,_⟩:=q;rfl
  | _=>cases q;rfl
 | str x =>
  obtain⟨rfl,_⟩:=r;cases e with
  | str y=>obtain⟨rfl,_⟩:=q;exact Ca x y
  | ref _=>obtain⟨_,rfl,_⟩:=q;rfl
  | tup _=>obtain⟨_,_,rfl,_⟩:=q;rfl
  | ro _=>obtain⟨_,_,rfl,_⟩:=q;rfl
  | _=>cases q;rfl
 | ty _=>cases r;rfl
 | ref _=>obtain⟨_,rfl,_⟩:=r;rfl
 | tup _=>obtain⟨_,_,rfl,_⟩:=r;rfl
 | ro _=>obtain⟨_,_,rfl,_⟩:=r;rfl
theorem bh:∀ {ds:List M.D}{xs:List V},zT K g H ds xs->xs.all yb=ds.all M.flat
 | [],_,r=>by cases r;rfl
 | _::_,_,⟨y,ys,e,c,f⟩=>by subst e;rw[JF,JF,ak c,bh f]
theorem CG (rx:zL K c H x v):∀ {ds:List M.D}{xs:List V},zT K c H ds xs->inV v xs=M.ZY x ds
 | [],_,r=>by cases r;rfl
 | _::_,_,⟨y,ys,e,f,g⟩=>by
  subst e;unfold inV M.ZY;rw[Qo,Qo,Hl f rx];have:=CG rx g;unfold inV M.ZY at this;rw[this]
theorem uh (a:M.T):∀ b:M.T,M.Qg a b=true ↔ ∃ i,i+a.length <= b.length/\(b.drop i).take a.length=a
 | []=>by
  simp only[M.Qg,List.isEmpty_iff];constructor
  ·rintro rfl;exact⟨0,by simp,by simp⟩
  ·rintro ⟨i,h,e⟩
   simp at h;exact h.2
 | c::r=>by
  simp only[M.Qg,Vh,uh a r];constructor
  ·rintro (h | ⟨i,h,e⟩)
   ·have:=List.isPrefixOf_iff_prefix.mp h;exact⟨0,by simpa using this.length_le,by simpa using (List.prefix_iff_eq_take.mp this).symm⟩
   ·exact⟨i+1,by simp;lia,by simpa using e⟩
  ·rintro ⟨i,h,e⟩
   cases i with
   | zero=>left;exact List.isPrefixOf_iff_prefix.mpr (List.prefix_iff_eq_take.mpr (by simpa using e.symm))
   | succ i=>right;exact⟨i,by simp at h;lia,by simpa using e⟩
theorem WJ (a b:M.T) (i:Nat):bw (ofT b) (ofT a) (ofT b).length i↔(i+a.length <= b.length/\(b.drop i).take a.length=a):=by
 unfold bw Mu;rw[qS,qS];refine and_congr_right λ_=>?_;rw[beq_iff_eq];constructor
 ·intro h;have:=congrArg Ci h;simpa [ofT,XM] using this
 ·intro h;apply Array.ext';simpa [ofT,XM] using h
theorem HL (a b:M.T):(!(xX (ofT b) (ofT a) 0 (ofT b).length 1).isEmpty)=M.Qg a b:=by
 rcases fQ (ofT b) (ofT a) 1 (by decide) with ⟨e,h⟩ | ⟨i,r,e,h,_⟩
 ·rw[e];have:¬ M.Qg a b=true:=λq=>by
   obtain⟨i,q⟩:=(uh a b).mp q;exact h i ((WJ a b i).mpr q)
  simpa using this
 ·rw[e];have:=(uh a b).mpr ⟨i,(WJ a b i).mp h⟩;simp[this]
theorem Bh {neg:Bool}{S:M.S}{Q:VK} (e:zX K Θ m S H) (rx:zL K m H x n) (ry:zL K m H y Y) (h:zF K Θ rB m H (M.inD x y S) (λb w=>Q (.bl (xor neg b)) w)):X0 K neg n Y H Q:=by
 have seq:∀ {ds:List M.D}{xs:List V}{a:zE},(SqL K H a xs\/SqT K H a xs)->zT K m H ds xs->zF K Θ rB m H (if (M.flat x && ds.all M.flat)=true then M.R.ok (M.ZY x ds) S else .no) (λb w=>Q (.bl (xor neg b)) w)->uIn K neg n (.ref a) H Q:=λ{ds xs a} hq r h'=>by
  by_cases s:(M.flat x && ds.all M.flat)=true
  ·rw[if_pos s] at h';rw[j7,<- ak rx,<- bh r] at s;have:=zF.here (b:=M.ZY x ds) h' e rfl;rw[<- CG rx r] at this;have g:∃ xs,(SqL K H a xs\/SqT K H a xs)/\yb n=true/\xs.all yb=true/\Q (.bl (xor neg (inV n xs))) H:=⟨xs,hq,s.1,s.2,this⟩
   cases n<;>exact g
  ·rw[if_neg s] at h';exact h'.elim
 cases y with
 | str b =>
  cases x with
  | str a =>
   obtain⟨rfl,_⟩:=rx;obtain⟨rfl,_⟩:=ry;refine .inl ?_;show Q (.bl (xor neg (!(xX (ofT b) (ofT a) 0 (ofT b).length 1).isEmpty))) H;rw[HL];exact zF.here (b:=M.Qg a b) h e rfl
  | _=>exact h.elim
 | tup ds =>
  obtain⟨l,xs,rfl,hq,r⟩:=ry;exact .inl (seq (.inr hq) r h)
 | ro ds =>
  obtain⟨l,xs,rfl,hq,r⟩:=ry;exact .inl (seq (.inl hq.sq) r h)
 | ref p =>
  obtain⟨a,rfl,z⟩:=ry;cases q:S[p]? with
  | none=>simp[M.inD,q] at h;exact h.elim
  | some o =>
   cases o with
   | lst ds =>
    obtain⟨C,t,r⟩:=Zz e z q;refine .inl (seq (.inl (SqL.of t)) r ?_);simp only[M.inD,q] at h;exact h
   | dct kvs =>
    by_cases f:M.qU x=true
    case neg=>simp[M.inD,q,f] at h;exact h.elim
    simp only[M.inD,q,if_pos f] at h;obtain⟨j,t,r⟩:=xZ e z q;obtain⟨k,A,rfl⟩:=XC f rx;have hv:=r.val A;refine .inr ⟨a,yO j k,rfl,Qq.k t,?_⟩;have i:(yO j k).isSome=(M.qE x kvs).isSome:=by
     cases u:M.qE x kvs with
     | none=>rw[u] at hv;rw[hv];rfl
     | some d=>rw[u] at hv;obtain⟨v,i,_⟩:=hv;rw[i];rfl
    rw[i];exact zF.here (b:=(M.qE x kvs).isSome) h e rfl
   | dtt _=>simp[M.inD,q] at h;exact h.elim
   | ftt _=>simp[M.inD,q] at h;exact h.elim
   | fdc kvs =>
    by_cases f:M.qU x=true
    case neg=>simp[M.inD,q,f] at h;exact h.elim
    simp only[M.inD,q,if_pos f] at h;obtain⟨B,j,t,r⟩:=dO e z q;obtain⟨k,A,rfl⟩:=XC f rx;have hv:=r.val A;refine .inr ⟨a,yO j k,rfl,(.inl ⟨j,k,.inr ⟨B,t⟩,rfl,rfl⟩),?_⟩;have i:(yO j k).isSome=(M.qE x kvs).isSome:=by
     cases u:M.qE x kvs with
     | none=>rw[u] at hv;rw[hv];rfl
     | some d=>rw[u] at hv;obtain⟨v,i,_⟩:=hv;rw[i];rfl
    rw[i];exact zF.here (b:=(M.qE x kvs).isSome) h e rfl
   | ins c fs=>simp[M.inD,q] at h;exact h.elim
 | _=>exact h.elim
theorem aP:AdC K Θ M.cIn (X0 K false):=by
 intro g H S x y n Y Q i rx ry h;refine Bh i rx ry ?_;have h':zF K Θ rB g H (M.inD x y S) (λb j=>Q (.bl b) j):=h;revert h';cases M.inD x y S with
 | ok b s=>exact λh' c m o p l f e=>by cases e;rw[uq];exact h' c m b p l f rfl
 | exc e s=>exact λh'=>h'
 | no=>exact λh'=>h'
theorem bB:AdC K Θ M.QT (X0 K true):=by
 intro j H S x y l Y Q f rx ry h;exact Bh f rx ry (zF.bind h λg m b n o p q c e i=>by cases e;rw[Uq];exact zF.here (b:=!b) i c rfl)
theorem w_me_globT {X:Cx}{pos:Pos}{a:zE}{d:M.D} (h:QB X.mg x (.ref a)) (c:Gl X x) (r:∀ e H,zL X.K e H d (.ref a)) (hd:(x == ("__debug__" : Str))=false:=by decide):WE X Θ (.Name x pos) (M.eC d):=by
 delta WE at ⊢
 exact xp (Bz h c hd) r
theorem w_mt_ofw {X:Cx} (h:WW X Θ e m):WT X Θ e m:=by
 delta WT WW at h ⊢
 exact PW.pt h
theorem Dw {X:Cx}:Z1 X [] (RdT X.K Θ M.jk):=λc s σ H Q I ⟨g,e,S,st,f,h⟩=>Ic c s σ H Q I (zF.here (b:=true) h f rfl)
theorem Eg {X:Cx} (h:WT X Θ c t):Z1 X [c] (RdT X.K Θ t):=Dg (by with_unfolding_all exact h)
theorem CA:∀ ns:List Int,zT K c H (ns.map .int) (ns.map V.int)
 | []=>rfl
 | n::ns=>⟨_,_,rfl,rfl,CA ns⟩
theorem gA {f:M.F} (c:∀ ns:List Int,ns.length <= 63->∃ s,f [.ro (ns.map .int)] []=.ok (.bl true) s) {a:zE}{ns:List Int} (g:ns.length <= 63) (j:Kr H) (l:SqL K H a (ns.map V.int)):SpM K Θ 1 f [.ref a] H (λv _=>v=.bl true) E:=by
 obtain⟨s,e⟩:=c ns g;refine⟨[],[.ro (ns.map .int)],[],rfl,⟨_,_,rfl,⟨a,ns.map V.int,rfl,?_,CA ns⟩,rfl⟩,⟨rfl,xw,λi o q=>by simp at q⟩,?_⟩
 ·rcases l with (h | h) | h
  ·rcases j a with z | ⟨o,xs,z⟩
   ·rw[h] at z;cases z
   ·rw[h] at z;cases z
  ·exact .inl h
  ·exact .inr h
 ·rw[e];exact λm n b _ _ _ r=>r
end
section
variable {P:jD}{w:jC}{K:PySem.W.Frag}{mg:Str->Option zD}{base:zp}{Θ:Tab}
theorem HD {st:jT}{k:Nat}{b:M.SM} (F:Fun K x qual st f fd) (n:Z6 N ps (ji st))
  (g:∀ (c:zD) (A:jj) (outer:List Env) (s:zI) (H:Hp) (E:XK),z6 k (A.deeper (ZD qual (ji st) s.heap.objs.size f c)) ->
   MSs (Zo CX0 P w K mg base N qual (ji st) f c A outer s H E).nox Θ (yV st) b):qC P w K mg base CX0 (k+1) f fd ps (SpM K Θ ps.length (M.fn N.length b)):=by
 refine F.ok (k:=k) n (λvs H Q E h=>?_) (λc A outer s H vs Q E o h=>?_)
 ·obtain⟨i,ds,S,m,r,_⟩:=h;rw[<- r.length,m]
 ·obtain⟨i,ds,S,m,r,p,h⟩:=h;refine⟨_,g c A outer s H E o,i,_,S,BQ r N,p,?_⟩;have h':zF K Θ (zL K) i H (b (ds.map some++jK (N.length - ds.length) none) S).out Q:=h;show zu K Θ i H (b (ds.map some++jK (N.length - ds.length) none) S) _;revert h';cases b (ds.map some++jK (N.length - ds.length) none) S with
  | rt a s=>exact λh'=>h'
  | nx a s=>exact λh' j q t u v l _=>h' j q .non u v l rfl
  | bk a s=>exact λh'=>h'.elim
  | ct a s=>exact λh'=>h'.elim
  | exc e a s=>exact λh'=>h'
  | no=>exact λh'=>h'
theorem w_fun_M0 {st:jT}{k:Nat}{b:M.SM} (F:Fun K x qual st f fd) (g:Z6 N ps (ji st))
  (c:∀ (e:zD) (A:jj) (outer:List Env) (s:zI) (H:Hp) (E:XK),z6 k (A.deeper (ZD qual (ji st) s.heap.objs.size f e)) ->
   WSs (Zo CX0 P w K mg base N qual (ji st) f e A outer s H E).nox Θ (yV st) b):qC P w K mg base CX0 (k+1) f fd ps (SpM K Θ ps.length (M.fn N.length b)):=by with_unfolding_all exact HD (x:=x) (qual:=qual) (st:=st) (f:=f) (fd:=fd) (N:=N) (ps:=ps) (k:=k) (b:=b) F g c
end
theorem HH:yB "sorted" = some (.builtin "sorted"):=by decide +kernel
theorem FO:yB "min" = some (.builtin "min"):=by decide +kernel
theorem L5:yB "max" = some (.builtin "max"):=by decide +kernel
end L2
namespace L2
open PySem PySem.Spec PyProof.Rows PySem.Builtin.Str
section
variable {K:PySem.W.Frag}{Θ:Tab}
theorem U9 (c:Nat):∀ l:M.T,M.jO c l=TX.qs c l
 | []=>rfl
 | d::r=>by
  unfold M.jO TX.qs;rw[U9 c r];rfl
theorem Ae (c:Nat):∀ (l p:List Nat),p∈TX.qs c l->∀ x∈p,x∈l
 | [],p,e,x,f=>by
  simp only[TX.qs,AU,He,or_false] at e;subst e;exact absurd f (by simp)
 | d::r,p,e,x,f=>by
  have g:=Ae c r;unfold TX.qs at e;split at e
  ·rcases List.mem_cons.mp e with rfl | e
   ·cases f
   ·exact je _ (g p e x f)
  ·cases q:TX.qs c r with
   | nil=>exact absurd q (TX.FQ c r)
   | cons a as =>
    rw[q] at e g;rcases List.mem_cons.mp e with rfl | e
    ·rcases List.mem_cons.mp f with rfl | f
     ·exact qJ
     ·exact je _ (g a qJ x f)
    ·exact je _ (g p (je _ e) x f)
theorem u5:∀ (ts:List M.T),(∀ t∈ts,okT t)->zT K e H (ts.map .str) ((ts.map ofT).map V.str)
 | [],_=>rfl
 | t::ts,h=>⟨_,_,rfl,⟨rfl,h t qJ⟩,u5 ts λx c=>h x (je _ c)⟩
theorem i4:AdM K Θ M.KJ Cc:=by
 intro n H S x xs X o Q i rx e h;unfold M.KJ at h;split at h
 ·rename_i z c;obtain⟨rfl,f⟩:=rx;obtain⟨Y,r,rfl,⟨rfl,j⟩,rfl⟩:=e;split at h
  ·rename_i l;refine⟨ofT z,ofT [c],rfl,rfl,rfl,by rw[qS,<- ZE];exact l,λp m=>?_⟩;rw[show ofT [c]=⟨#[c]⟩ from rfl,TX.du,Zi,<- U9];refine h.alloc i (u5 (M.jO c z) λt g=>kN f λd hd=>?_) m;rw[U9] at g;exact Ae c z t g d hd
  ·exact h.elim
 ·exact h.elim
theorem u0 (c:Nat) (b:M.T) (i:Nat):bw (ofT b) (ofT [c]) (ofT b).length i↔b[i]? = some c:=by
 rw[WJ];constructor
 ·rintro ⟨h,e⟩
  have:((b.drop i).take [c].length)[0]? = some c:=by rw[e];rfl
  simpa using this
 ·intro h;obtain⟨f,e⟩:=List.getElem?_eq_some_iff.mp h;refine⟨by simp only[jE,qz];lia,?_⟩;rw[kQ f,e];rfl
theorem Q8 {S:M.S}{p:Nat}{X:V}{ds:List M.D} (g:zX K Θ c S H) (rx:zL K c H (.ref p) X) (e:S[p]? = some (.lst ds)):∃ a xs,X=.ref a/\c[p]? = some a/\H a=some (.lst xs)/\zT K c H ds xs:=by
 obtain⟨a,rfl,ha⟩:=rx;obtain⟨b,f,xs,h,r⟩:=g.obj p _ e;rw[ha] at f;cases f;exact⟨a,xs,rfl,ha,h,r⟩
theorem kh {H:Hp}{a:zE}{xs:List V} (h:H a=some (.lst xs)):Mut (H a):=by rw[h];trivial
theorem Gx:AdM K Θ M.yl bV:=by
 intro l H S x xs X n Q g rx c h;unfold M.yl at h;split at h
 ·rename_i p y;obtain⟨Y,r,rfl,ry,rfl⟩:=c;split at h
  ·rename_i ds e;obtain⟨a,i,rfl,ha,f,j⟩:=Q8 g rx e;split at h
   ·rename_i m;have le:=Le.put (kh f) (.lst (i++[Y]));refine⟨a,i,Y,rfl,rfl,f,by rw[<- ZE,<- j.length];exact m,?_⟩;exact h l _ _ (jc _) le (g.put ha (kh f) ⟨_,qN,(j.mono (jc _) le).app ⟨_,_,rfl,ry.mono (jc _) le,rfl⟩⟩) rfl
   ·exact h.elim
  ·exact h.elim
 ·exact h.elim
theorem f9:AdM K Θ M.qq cx:=by
 intro m H S x xs X o Q i rx c h;unfold M.qq at h;split at h
 ·rename_i p;cases c;split at h
  ·rename_i ds e;obtain⟨a,j,rfl,ha,f,g⟩:=Q8 i rx e;split at h
   ·rename_i y l;rw[List.getLast?_eq_getElem?] at l;obtain⟨Y,n,ry⟩:=g.get l;have le:=Le.put (kh f) (.lst j.dropLast);exact⟨a,j,Y,rfl,rfl,f,by rw[<- g.length];exact n,h m _ _ (jc _) le (i.put ha (kh f) ⟨_,qN,g.dropLast.mono (jc _) le⟩) (ry.mono (jc _) le)⟩
   ·exact h.elim
  ·exact h.elim
 ·exact h.elim
end
end L2
namespace L2
open PySem PySem.Spec PyProof.Rows PySem.Builtin.Str
section
variable {K:PySem.W.Frag}{Θ:Tab}
theorem iD (x:M.T) (a b:Nat):Yc (ofT x) (ofT [a]) (ofT [b])=ofT (x.map λc=>if c=a then b else c):=by
 have h:=TX.LZ (ofT x) a b;have e:∀ s:Str,s=ofT s.cps.toList:=λs=>by cases s;simp[ofT]
 rw[e (Yc (ofT x) (ofT [a]) (ofT [b]))];show ofT (Yc (ofT x) ⟨#[a]⟩ ⟨#[b]⟩).cps.toList=_;rw[h,Zi]
theorem DZ {X:Cx}{to:TE}{y z:Str}{j k:Nat}{w A c e:Pos} (C:PE X o to) (m:(y == z)=false) (f:JM o "replace" X.env (z0 o X.env)=z0 o X.env:=by rfl) (g:(c.endLine == e.line)=true:=by rfl) :
  PE X (.Call (.Attribute o "replace" c) [.Constant (.str y) j w,.Constant (.str z) k A] [] e) (λσ H Q=>to σ H λx p=>∃ a,x=.str a/\a.length+(a.length+1) * z.length <= 16777216/\Q (.str (Yc a y z)) p):=by
 intro i s σ H Q I h;refine Cn f rfl g rfl (zy (C i s σ H _ I h) λv l x p r B ⟨a,ex,E,q⟩=>?_);subst ex;obtain⟨G,J⟩:=vr (T := "str") r B rfl;obtain⟨t,rfl⟩:=B;refine⟨"str","str.replace",PySem.F.plainAttrs_str,PySem.F.slot_str_replace,PySem.F.type_str_replace,G,J,?_⟩;refine Y9 rfl (CJ ?_);show wpAny _ _ (uJ [(false,z0 (.Constant (.str y) j w) X.env),(false,z0 (.Constant (.str z) k A) X.env)]) _ _ l;refine Yl (Uw (Yl (Uw (UK ?_))));have L:=r.tk;exact yG (n:=1) (show 1 <= l.toks+1+1 by lia) (SC.replace (u:=l.toks) (v:=l.toks+1) (Jy L) (Nat.succ_ne_zero _) (jX (J8 _)) m E λt' k M=>⟨.str _,p,r.tok k M,⟨_,rfl⟩,q⟩)
theorem w_me_repl {X:Cx}{y z:Str}{a b:Nat}{j k:Nat}{E N f g:Pos} (G:WE X Θ o mo) (I:y=ofT [a]) (t:z=ofT [b]) (u:(a == b)=false) (hok:okT [b]) (l:JM o "replace" X.env (z0 o X.env)=z0 o X.env:=by rfl) (m:(f.endLine == g.line)=true:=by rfl) :
  WE X Θ (.Call (.Attribute o "replace" f) [.Constant (.str y) j E,.Constant (.str z) k N] [] g) (M.eM .str M.uG mo (M.zB (M.eC (.str [a])) (M.zB (M.eC (.str [b])) M.zC))):=by
 delta WE at G ⊢
 have v:(y == z)=false:=by
  cases q:y == z with
  | false=>rfl
  | true =>
   have e:=eq_of_beq q;rw[I,t] at e;have U:=YK e;cases U;simp at u
 refine (DZ G v l m).up λσ H Q Y A S st rp h=>⟨Y,A,S,st,rp,zF.bind h λr J x X1 s E l1 B rx i=>?_⟩
 cases x with
 | str w =>
  obtain⟨rfl,C⟩:=rx;have n:zF X.K Θ (zL X.K) r J (if 2 * w.length+1 <= M.SZ then .ok (.str (w.map λc=>if c=a then b else c)) s else .no) Q:=i;by_cases L:2 * w.length+1 <= M.SZ
  ·rw[if_pos L] at n;refine⟨ofT w,rfl,?_,?_⟩
   ·rw[t,qS,qS];have:M.SZ=16777216:=rfl;simp only[jE,qz]
    lia
   ·rw[I,t,iD];refine zF.here n B ⟨rfl,List.all_eq_true.mpr λc hc=>?_⟩;obtain⟨d,hd,rfl⟩:=List.mem_map.mp hc;split
    ·exact List.all_eq_true.mp hok b (by simp)
    ·exact List.all_eq_true.mp C d hd
  ·rw[if_neg L] at n;exact n.elim
 | non=>exact i.elim
 | bl _=>exact i.elim
 | int _=>exact i.elim
 | ty _=>exact i.elim
 | tup _=>exact i.elim
 | ro _=>exact i.elim
 | ref p =>
  have n:zF X.K Θ (zL X.K) r J (if M.ZK .str (.ref p) s then _ else .no) Q:=i;have e:M.ZK .str (.ref p) s=false:=by
   simp only[M.ZK];cases s[p]? with
   | none=>rfl
   | some o=>cases o<;>rfl
  rw[e] at n;exact n.elim
theorem gp:AdN K Θ M.u4 (λxs H Q=>(∃ i,xs=[.int i]/\Q (.int i) H)\/∃ k,xs=[.bl k]/\Q (.int (if k then 1 else 0)) H):=by
 intro f H S xs g Q e c h;unfold M.u4 at h;split at h
 ·obtain⟨Y,r,rfl,ry,rfl⟩:=c;cases ry;exact .inl ⟨_,rfl,zF.here h e rfl⟩
 ·obtain⟨Y,r,rfl,ry,rfl⟩:=c;cases ry;exact .inr ⟨_,rfl,zF.here h e rfl⟩
 ·exact h.elim
end
end L2
namespace L2
open PySem PySem.Spec PyProof.Rows
section
variable {Θ:Tab}
theorem PS.or {X:Cx}{st:jT} (h:PS X st t) (h':PS X st t'):PS X st (λD σ H=>t D σ H\/t' D σ H):=λc s σ H D I q=>by
 rcases q with q | q
 ·exact h c s σ H D I q
 ·exact h' c s σ H D I q
theorem JV {H:Hp}{a:zE}{c:List (Key×V)} (h:H a=some (.dK c)):Mut (H a):=by rw[h];trivial
theorem Io {X:Cx}{pos pos':Pos} (hr:z6 n X.A) (ho:ME X Θ o mo) (hi:ME X Θ i mi) (he:ME X Θ e me)
  (ha:∀ v,Qu (.Subscript o i pos') X.env v=(do
   let ov <- holding [v] (z0 o X.env)
   let iv <- holding [v,ov] (z0 i X.env)
   standAt pos'
   holding [v,ov,iv] (vX ov iv v)
   release [v,ov,iv] []):=by intro _;rfl)
  (hs:dJ [.Subscript o i pos'] e pos.line X.env=pure false:=by rfl) (hw:ba [.Subscript o i pos'] e X.env=pure none:=by rfl) (h1:(Wx [.Subscript o i pos'] X.env).map (·.2)=[Qu (.Subscript o i pos') X.env]:=by rfl)
  (hs2:Qc e (some (.Subscript o i pos')) pos.line X.env=pure false:=by rfl):MS X Θ (.Assign [.Subscript o i pos'] e pos) (M.yw mo mi me) :=
 (PS.or (lF he (Ed ho hi F4 ha) hs hw h1) (fN (by have:=hr.units;lia) ho hi he hs2)).up λD σ H G f S st rp h=>by
  have g:zu X.K Θ G H ((me f S).stm f λy s=>(mo f s).stm f λx s=>(mi f s).stm f λk s=>(M.ZT x k y s).stm f λ_ s=>.nx f s) D:=h;clear h;cases U:me f S with
  | no=>rw[U] at g;exact g.elim
  | exc a s=>rw[U] at g;exact .inr ⟨G,f,S,st,rp,by rw[U];exact (show Zq X.K Θ G H a s from g)⟩
  | ok y S1 =>
   rw[U,M.R.stm_ok] at g;cases hO:mo f S1 with
   | no=>rw[hO] at g;exact g.elim
   | exc a s=>rw[hO] at g;exact .inr ⟨G,f,S,st,rp,by rw[U];exact λm H1 v p l t rv=>⟨m,f,S1,st.mono p l,t,by rw[hO];exact Zq.weak (show Zq X.K Θ G H a s from g) p l⟩⟩
   | ok x S2 =>
    rw[hO,M.R.stm_ok] at g;cases hI:mi f S2 with
    | no=>rw[hI] at g;exact g.elim
    | exc a s=>rw[hI] at g;exact .inr ⟨G,f,S,st,rp,by rw[U];exact λm H1 v p l t rv=>⟨m,f,S1,st.mono p l,t,by rw[hO];exact λB H2 v2 u w C rv2=>⟨B,f,S2,st.mono (p.trans u) (l.trans w),C,by rw[hI];exact Zq.weak (show Zq X.K Θ G H a s from g) (p.trans u) (l.trans w)⟩⟩⟩
    | ok k S3 =>
     rw[hI,M.R.stm_ok] at g;cases x with
     | ref p =>
      cases q:S3[p]? with
      | none=>simp only[M.ZT,q] at g;exact g.elim
      | some ob =>
       cases ob with
       | lst xs =>
        cases k with
        | int j =>
         cases hj:M.ixN xs.length j with
         | none=>simp only[M.ZT,q,hj] at g;exact g.elim
         | some j' =>
          simp only[M.ZT,q,hj,M.R.stm_ok] at g;refine .inl ⟨G,f,S,st,rp,?_⟩;rw[U];intro m H1 Y I J t ry;refine⟨m,f,S1,st.mono I J,t,?_⟩;rw[hO];intro B H2 Xv u w C rx;refine⟨B,f,S2,st.mono (I.trans u) (J.trans w),C,?_⟩;rw[hI];intro L H3 Kv N Q E rk;obtain⟨a,zs,rfl,ha,hx,rz⟩:=Q8 E (rx.mono N Q) q;cases rk;have le:=Le.put (kh hx) (.lst (zs.set j' Y));refine⟨a,zs,j,j',rfl,rfl,hx,by rw[<- rz.length];exact hj,?_⟩;exact g L _ σ (I.trans (u.trans N)) (J.trans (w.trans (Q.trans le))) (E.put ha (kh hx) ⟨_,qN,zT.set (ry.mono (u.trans N) (w.trans (Q.trans le))) j' (rz.mono (jc _) le)⟩) (st.mono (I.trans (u.trans N)) (J.trans (w.trans (Q.trans le))))
        | _=>simp only[M.ZT,q] at g;exact g.elim
       | dct kvs =>
        cases hk:(M.qU k && decide (kvs.length < M.SZ)) with
        | false=>simp only[M.ZT,q,hk] at g;exact g.elim
        | true =>
         have hk2:(if (M.qU k && decide (kvs.length < M.SZ))=true then M.R.ok () (S3.set p (.dct (M.ym k y kvs))) else .no)=M.R.ok () (S3.set p (.dct (M.ym k y kvs))):=if_pos hk;simp only[M.ZT,q,hk2,M.R.stm_ok] at g;rw[j7] at hk;refine .inr ⟨G,f,S,st,rp,?_⟩;rw[U];intro m H1 Y I J t ry;refine⟨m,f,S1,st.mono I J,t,?_⟩;rw[hO];intro B H2 Xv u w C rx;refine⟨B,f,S2,st.mono (I.trans u) (J.trans w),C,?_⟩;rw[hI];intro L H3 Kv N Q E rk;obtain⟨a,rfl,ea⟩:=rx.mono N Q;obtain⟨b,e1,ks,e2,r⟩:=E.obj _ _ q;rw[ea] at e1;cases e1;obtain⟨kk,hkk,rfl⟩:=XC hk.1 rk;have le:=Le.put (JV e2) (.dK (yN ks kk Y));refine⟨a,_,rfl,Kf.k e2 (by rw[<- Paired.length r,<- ZE];exact of_decide_eq_true hk.2),?_⟩;have r':DR X.K L (upd H3 a (.dK (yN ks kk Y))) kvs ks:=Paired.mapP r λa b z=>⟨z.1,z.2.mono (jc _) le⟩
         exact g L _ σ (I.trans (u.trans N)) (J.trans (w.trans (Q.trans le))) (E.put ea (JV e2) ⟨_,qN,DR.put r' hkk (ry.mono (u.trans N) (w.trans (Q.trans le)))⟩) (st.mono (I.trans (u.trans N)) (J.trans (w.trans (Q.trans le))))
       | fdc _=>simp only[M.ZT,q] at g;exact g.elim
       | dtt _=>simp only[M.ZT,q] at g;exact g.elim
       | ftt _=>simp only[M.ZT,q] at g;exact g.elim
       | ins c fs=>simp only[M.ZT,q] at g;exact g.elim
     | _=>exact g.elim
theorem w_ms_sub {X:Cx}{pos pos':Pos} (h:z6 n X.A) (j:WE X Θ o mo) (hi:WE X Θ i mi) (l:WE X Θ e me)
  (ha:∀ v,Qu (.Subscript o i pos') X.env v=(do
   let c <- holding [v] (z0 o X.env)
   let f <- holding [v,c] (z0 i X.env)
   standAt pos'
   holding [v,c,f] (vX c f v)
   release [v,c,f] []):=by intro _;rfl)
  (hs:dJ [.Subscript o i pos'] e pos.line X.env=pure false:=by rfl) (hw:ba [.Subscript o i pos'] e X.env=pure none:=by rfl) (m:(Wx [.Subscript o i pos'] X.env).map (·.2)=[Qu (.Subscript o i pos') X.env]:=by rfl)
  (g:Qc e (some (.Subscript o i pos')) pos.line X.env=pure false:=by rfl):WS X Θ (.Assign [.Subscript o i pos'] e pos) (M.yw mo mi me):=by with_unfolding_all exact Io (X:=X) (o:=o) (i:=i) (e:=e) (mo:=mo) (mi:=mi) (me:=me) (pos:=pos) (pos':=pos') (n:=n) h j hi l ha hs hw m g
end
end L2
namespace L2
open PySem PySem.Spec PyProof.Rows
section
variable {K:PySem.W.Frag}{Θ:Tab}
theorem B3:∀ {xs:List V}{us:List zD},xs.length=us.length->(∀ (j:Nat) u,us[j]? = some u->∃ x,xs[j]? = some x/\zm x u)->zd xs us
 | [],[],_,_=>.nil
 | [],_::_,h,_=>by simp at h
 | _::_,[],h,_=>by simp at h
 | x::xs,u::us,h,k=>by
  obtain⟨y,e,r⟩:=k 0 u rfl;cases e;exact .cons r (B3 (by simpa using h) λj u c=>by
   obtain⟨y,e,r⟩:=k (j+1) u (by simpa using c);exact⟨y,by simpa using e,r⟩)
theorem IX {P:jD}{k:Key}{v:zD} (h:(qG P w).is k v=true):zm (kV k) v:=by
 rcases QK (k:=k) (v:=v) h with ⟨i,t,rfl,rfl⟩ | ⟨x,t,rfl,rfl⟩
 ·exact⟨t,rfl⟩
 ·exact⟨t,rfl⟩
def aA (K:PySem.W.Frag):List V->Hp->VK->Prop:=λxs H Q=>(∃ p ys,xs=[.ref p]/\(SqL K H p ys\/SqT K H p ys)/\∀ l,H l=none->Q (.ref l) (upd H l (.lst ys))) \/
 ∃ p c,xs=[.ref p]/\H p=some (.dK c)/\∀ l,H l=none->Q (.ref l) (upd H l (.lst (c.map λe=>kV e.1)))
theorem gC {X:Cx}{k:Nat} (w:z6 k X.A):jx X (.type "list") (aA X.K):=by
 intro c s σ H xs us Q I r h;rcases h with h | ⟨p,g,rfl,y,q⟩
 ·exact Iw c s σ H xs us Q I r h
 ·obtain⟨u,rfl,B⟩:=yd r;cases B;obtain⟨z,lo,vs,m,C⟩:=JW I.hok y;obtain⟨N,E⟩:=C.dictAt;have U:=m.length;refine yG (n:=1) I.tk (PySem.W.kdl_call (PySem.W.kdl_dict lo) w.hd E (by lia) λh' tk i G keep J it l=>?_);obtain⟨hsz,hit⟩:=it;refine⟨.ref s.heap.objs.size,_,I.laid (t':=tk) (o:=.lst (g.map λt=>kV t.1)) keep (zg _) ⟨by rw[jH];exact z,i.toList,G,B3 (by simp;lia) λj u L=>?_,by simpa using J⟩ l,rfl,q _ (I.hok.fresh (zg _))⟩;obtain⟨k,x,e,M⟩:=hit j u (by simpa using L);have Y:j < g.length:=by have:=(List.getElem?_eq_some_iff.mp e).1;lia
  have f:(g.map (·.1))[j]? = some k:=by rw[m.keys,qX,e];rfl
  refine⟨kV k,?_,IX M⟩;rw[qX] at f ⊢;cases v:g[j]? with
  | none=>rw[v] at f;cases f
  | some t=>rw[v] at f;cases f;rfl
theorem BL:∀ {kvs:List (M.D×M.D)}{e:List (Key×V)},DR K f H kvs e->zT K f H (kvs.map (·.1)) (e.map λg=>kV g.1)
 | _,_,.nil=>rfl
 | (d,_)::_,(k,_)::_,.cons h t=>by
  refine⟨_,_,rfl,?_,BL t⟩;have c:yL d k:=h.1;cases d with
  | int i=>cases c;rfl
  | str x=>obtain⟨rfl,ok⟩:=c;exact⟨rfl,ok⟩
  | _=>exact c.elim
theorem Gb:AdN K Θ M.QM (aA K):=by
 intro o H S xs q Q g c h;unfold M.QM at h;split at h
 ·obtain⟨Y,r,rfl,⟨a,i,rfl,hq,j⟩,rfl⟩:=c;exact .inl ⟨a,i,rfl,.inr hq,λp f=>zF.alloc h g j f⟩
 ·obtain⟨Y,r,rfl,⟨a,i,rfl,hq,j⟩,rfl⟩:=c;exact .inl ⟨a,i,rfl,.inl hq.sq,λp f=>zF.alloc h g j f⟩
 ·rename_i p;obtain⟨Y,r,rfl,ry,rfl⟩:=c;split at h
  ·rename_i ds e;obtain⟨a,i,rfl,ha,l,j⟩:=Q8 g ry e;exact .inl ⟨a,i,rfl,.inl (SqL.of l),λp f=>zF.alloc h g j f⟩
  ·rename_i kvs e;obtain⟨a,rfl,ha⟩:=ry;obtain⟨m,n,r⟩:=xZ g ha e;exact .inr ⟨a,m,rfl,n,λp f=>zF.alloc h g (BL r) f⟩
  ·exact h.elim
 ·exact h.elim
def ai:List V->Hp->VK->Prop:=λxs H Q=>∃ p c,xs=[.ref p]/\H p=some (.dK c)/\∀ l,H l=none->Q (.ref l) (upd H l (.dK c))
theorem LN {X:Cx}:jx X (.type "dict") ai:=by
 intro g s σ H xs us Q I r h;obtain⟨p,j,rfl,l,q⟩:=h;obtain⟨u,rfl,m⟩:=yd r;cases m;obtain⟨z,lo,vs,i,n⟩:=JW I.hok l;refine PySem.kt_call_dict lo n (by rw[<- i.length];exact z) λh' c sb=>?_;have f:(s.heap.objs.size == Zs)=false:=by have:=I.big;exact beq_eq_false_iff_ne.mpr (Jy this)
 exact⟨.ref s.heap.objs.size,_,I.laid (t':=s.toks) (o:=.dK j) (λb o e=>(sb.2 b (jX (jQ e))).trans (jd _ e)) (zg _) (Yn z f i c),rfl,q _ (I.hok.fresh (zg _))⟩
theorem Wa {c:List zE}{H:Hp}{S:M.S}{kvs:List (M.D×M.D)}{Q:VK} (h:zF K Θ (zL K) c H (M.alloc (.dct kvs) S) Q) (f:zX K Θ c S H) (r:DR K c H kvs g) {p:zE} (e:H p=none):Q (.ref p) (upd H p (.dK g)) :=
 h (c++[p]) _ _ (Qy _ _) (Le.new e _) (f.alloc e ⟨g,qN,Paired.mapP r λ_ _ z=>⟨z.1,z.2.mono (Qy _ _) (Le.new e _)⟩⟩) ⟨p,rfl,by rw[<- f.len];simp⟩
theorem HY:AdN K Θ M.X9 ai:=by
 intro l H S xs m Q f c h;unfold M.X9 at h;split at h
 ·rename_i p;obtain⟨Y,r,rfl,ry,rfl⟩:=c;split at h
  ·rename_i kvs e;obtain⟨a,rfl,ha⟩:=ry;obtain⟨g,i,r⟩:=xZ f ha e;exact⟨a,g,rfl,i,λp j=>Wa h f r j⟩
  ·exact h.elim
 ·exact h.elim
theorem w_me_dnew {X:Cx}{pos:Pos}:WE X Θ (.Dict [] [] pos) M.xP:=by
 delta WE at ⊢
 exact Ht.up λσ H Q g c S st e h=>λp f=>Wa (kvs:=[]) h e .nil f
def QY {e:Type} (c:e->e->Bool) (y:e) (ys:List e):e:=ys.foldl (λb z=>if c z b then z else b) y
theorem Wd {f:Type} (c:f->f->Bool) (y:f) (ys:List f):∀ k,k <= ys.length->(y::ys).getD (YY (λi j=>c ((y::ys).getD i y) ((y::ys).getD j y)) k) y=QY c y (ys.take k)
 | 0,_=>rfl
 | k+1,h=>by
  have l:=Wd c y ys k (by lia);have e:ys.take (k+1)=ys.take k++[(y::ys).getD (k+1) y]:=by
   rw[uj,yS (by lia)];simp[qP,show k < ys.length by lia]
  rw[e];unfold QY at l ⊢;rw[bq,<- l];show (y::ys).getD (if c ((y::ys).getD (k+1) y) ((y::ys).getD (YY _ k) y) then k+1 else YY _ k) y=_;split
  ·rename_i g;simp only[Z7,eN];rw[if_pos g]
  ·rename_i g;simp only[Z7,eN];rw[if_neg g]
theorem w5 {ys:List Str} (r:zd (ys.map V.str) its) {i:Nat}{v:zD} (h:its[i]? = some v) (d:Str):∃ t,v=.str (ys.getD i d) t:=by
 have e:=r.length;have hi:i < its.length:=(List.getElem?_eq_some_iff.mp h).1;rw[jH] at e;obtain⟨u,c,f⟩:=r.get (i:=i) (x:=V.str (ys.getD i d)) (by rw[qX,qP,yS (by lia)];rfl);rw[h] at c;cases c;exact f
def U2 (K:PySem.W.Frag) (c:Str->Str->Bool):List V->Hp->VK->Prop:=λxs H Q=>∃ p y ys,xs=[.ref p]/\SqL K H p ((y::ys).map V.str)/\Q (.str (QY c y ys)) H
noncomputable def gtS (x y:Str):Bool:=decide (y.cps.toList < x.cps.toList)
theorem E7 {X:Cx}{k:Nat} (z:z6 k X.A):jx X (.builtin "max") (U2 X.K gtS):=by
 intro x s σ H xs us Q I r h;obtain⟨p,y,ys,rfl,hq,q⟩:=h;obtain⟨u,rfl,B⟩:=yd r;cases B;obtain⟨its,g,pl,Y⟩:=I.list hq;have c:its.length=ys.length+1:=by have:=g.length;simp at this;lia
 obtain⟨o,C,E⟩:=pl.isList;have f:p < s.heap.objs.size:=jQ C;refine yG (n:=1) I.tk (call_max_walk (Vw pl.isList ?_));refine⟨s.heap.objs.size,_,_,_,_,_,λi j=>gtS ((y::ys).getD i y) ((y::ys).getD j y),rfl,Uu (show X.A.in1.handled=none from z.hd) s.heap.objs.size p (jX f) its.toArray,⟨⟨_,qd _ rfl,rfl,rfl⟩,pl.isList.push _⟩,?_,by simp[c],?_,λv h' tk G J l=>?_⟩
 ·intro b m;rw[JR];rcases List.mem_cons.mp m with rfl | m
  ·exact J8 _
  ·have:b=p:=by simpa using m
   rw[this];exact vy f
 ·intro i j L M s' Q' E' hi N U;obtain⟨t,rfl⟩:=w5 g (v:=L) (by simpa using hi) y;obtain⟨t',rfl⟩:=w5 g (v:=M) (by simpa using N) y;exact P.gt_str U
 ·have w:∀ b o,s.heap.get? b=some o->h'.get? b=some o:=λb o e=>J b o (by simpa using jX (jQ e)) (jd _ e);obtain⟨t,rfl⟩:=w5 g (v:=v) (i:=YY (λi j=>gtS ((y::ys).getD i y) ((y::ys).getD j y)) (its.toArray.size - 1)) (by rw[<- ik];exact G) y;refine⟨.str (QY gtS y ys),H,I.kept w l,⟨t,?_⟩,q⟩;rw[show its.toArray.size - 1=ys.length by simp[c],Wd gtS y ys ys.length (zg _),WL]
noncomputable def gtI (x y:Int):Bool:=decide (y < x)
def uF (K:PySem.W.Frag):List V->Hp->VK->Prop:=λxs H Q=>∃ p y ys,xs=[.ref p]/\SqL K H p ((y::ys).map V.int)/\Q (.int (QY gtI y ys)) H
theorem uE {ys:List Int} (r:zd (ys.map V.int) its) {i:Nat}{v:zD} (h:its[i]? = some v) (d:Int):∃ t,v=.int (ys.getD i d) t:=by
 have e:=r.length;have hi:i < its.length:=(List.getElem?_eq_some_iff.mp h).1;rw[jH] at e;obtain⟨u,c,f⟩:=r.get (i:=i) (x:=V.int (ys.getD i d)) (by rw[qX,qP,yS (by lia)];rfl);rw[h] at c;cases c;exact f
theorem LW {X:Cx}{k:Nat} (z:z6 k X.A):jx X (.builtin "max") (uF X.K):=by
 intro x s σ H xs us Q I r h;obtain⟨p,y,ys,rfl,hq,q⟩:=h;obtain⟨u,rfl,B⟩:=yd r;cases B;obtain⟨its,g,pl,Y⟩:=I.list hq;have c:its.length=ys.length+1:=by have:=g.length;simp at this;lia
 obtain⟨o,C,E⟩:=pl.isList;have f:p < s.heap.objs.size:=jQ C;refine yG (n:=1) I.tk (call_max_walk (Vw pl.isList ?_));refine⟨s.heap.objs.size,_,_,_,_,_,λi j=>gtI ((y::ys).getD i y) ((y::ys).getD j y),rfl,Uu (show X.A.in1.handled=none from z.hd) s.heap.objs.size p (jX f) its.toArray,⟨⟨_,qd _ rfl,rfl,rfl⟩,pl.isList.push _⟩,?_,by simp[c],?_,λv h' tk G J l=>?_⟩
 ·intro b m;rw[JR];rcases List.mem_cons.mp m with rfl | m
  ·exact J8 _
  ·have:b=p:=by simpa using m
   rw[this];exact vy f
 ·intro i j L M s' Q' E' hi N U;obtain⟨t,rfl⟩:=uE g (v:=L) (by simpa using hi) y;obtain⟨t',rfl⟩:=uE g (v:=M) (by simpa using N) y;exact gt_int U
 ·have w:∀ b o,s.heap.get? b=some o->h'.get? b=some o:=λb o e=>J b o (by simpa using jX (jQ e)) (jd _ e);obtain⟨t,rfl⟩:=uE g (v:=v) (i:=YY (λi j=>gtI ((y::ys).getD i y) ((y::ys).getD j y)) (its.toArray.size - 1)) (by rw[<- ik];exact G) y;refine⟨.int (QY gtI y ys),H,I.kept w l,⟨t,?_⟩,q⟩;rw[show its.toArray.size - 1=ys.length by simp[c],Wd gtI y ys ys.length (zg _),WL]
theorem mn {X:Cx}{k:Nat} (c:z6 k X.A):jx X (.builtin "max") (λxs H Q=>U2 X.K gtS xs H Q\/uF X.K xs H Q):=jx.or (E7 c) (LW c)
theorem CT:∀ {ds:List M.D}{ys:List V}{ns:List Int},M.Q9 ds=some ns->zT K h H ds ys->ys=ns.map V.int
 | [],_,_,e,r=>by cases e;cases r;rfl
 | .int x::ds,_,_,e,r=>by
  obtain⟨y,ys,rfl,f,g⟩:=r;cases f;have c:(M.Q9 ds).map (x :: ·)=some _:=e;cases q:M.Q9 ds with
  | none=>rw[q] at c;cases c
  | some i =>
   rw[q] at c;cases c;rw[CT q g];rfl
 | .non::_,_,_,e,_=>by cases e
 | .bl _::_,_,_,e,_=>by cases e
 | .str _::_,_,_,e,_=>by cases e
 | .tup _::_,_,_,e,_=>by cases e
 | .ro _::_,_,_,e,_=>by cases e
 | .ref _::_,_,_,e,_=>by cases e
 | .ty _::_,_,_,e,_=>by cases e
theorem ax:∀ (ys:List Int) (y:Int),QY gtI y ys=ys.foldl (λb y=>if b < y then y else b) y
 | [],_=>rfl
 | z::ys,y=>by
  have c:=ax ys;unfold QY at c ⊢;rw[Z7,Z7];have e:(if gtI z y=true then z else y)=if y < z then z else y:=by unfold gtI;simp
  rw[e];exact c _
theorem aU {c:Str->Str->Bool}{d:M.T->M.T->Bool} (h:∀ x y,c (ofT x) (ofT y)=d x y):∀ (ys:List M.T) (y:M.T),QY c (ofT y) (ys.map ofT)=ofT (ys.foldl (λb z=>if d z b then z else b) y)
 | [],y=>rfl
 | z::ys,y=>by
  have e:=aU h ys;unfold QY at e ⊢;rw[jN,Z7,Z7,h];split
  ·exact e z
  ·exact e y
theorem As {f:M.T->M.T->Bool}:∀ (ys:List M.T) (y:M.T),okT y->(∀ t∈ys,okT t)->okT (ys.foldl (λb z=>if f z b then z else b) y)
 | [],_,h,_=>h
 | z::ys,y,h,k=>by
  rw[Z7];refine As ys _ ?_ λt c=>k t (je _ c);split
  ·exact k z qJ
  ·exact h
theorem GQ:AdN K Θ M.YL (λxs H Q=>U2 K gtS xs H Q\/uF K xs H Q):=by
 intro w H S xs A Q g i h;unfold M.YL M.wb at h;split at h
 ·rename_i p;obtain⟨Y,r,rfl,ry,rfl⟩:=i;split at h
  ·rename_i ds e;have o:S[p]? = some (.lst ds):=by
    unfold M.zv at e;split at e
    ·rename_i q s;cases e;exact s
    ·cases e
   obtain⟨a,B,rfl,ha,l,m⟩:=Q8 g ry o;unfold M.Yk at h;split at h
   ·rename_i ts j;obtain⟨rfl,hok⟩:=Xz j m;split at h
    ·rename_i y c;cases ts with
     | nil=>cases c
     | cons t ts =>
      cases c;refine .inl ⟨a,ofT t,ts.map ofT,rfl,SqL.of l,?_⟩;rw[aU (d:=λx y=>decide (y < x)) (λx y=>by unfold gtS;rw[Zi,Zi])];have n:(ts.foldl (λb z=>if (λx y=>decide (y < x)) z b then z else b) t)=ts.foldl (λb y=>if b < y then y else b) t:=by
       congr 1
       funext b z
       simp
      refine zF.here h g ⟨by rw[n],?_⟩;have:=As (f:=λx y=>decide (y < x)) ts t (hok t (by simp)) λu v=>hok u (by simp[v])
      rwa [n] at this
    ·exact h.elim
   ·unfold M.Ua at h;split at h
    ·rename_i ts j;have:=CT j m;subst this;split at h
     ·rename_i y c;cases ts with
      | nil=>cases c
      | cons t ts =>
       cases c;refine .inr ⟨a,t,ts,rfl,SqL.of l,?_⟩;rw[ax];exact zF.here h g rfl
     ·exact h.elim
    ·exact h.elim
  ·exact h.elim
 ·exact h.elim
theorem E8 {c:Type} (xs:List c):(j8 xs.length).filterMap (xs[·]?)=xs:=by
 induction xs with
 | nil=>rfl
 | cons x xs e =>
  rw[jE,hE,Vf,BW];simp only[jP]
  congr 1
theorem gy (its:List zD):uS its.toArray none none (some (-1))=its.reverse.toArray:=by
 unfold uS;have c:Jv none none (some (-1)) its.toArray.size=((its.length:Int) - 1,-1,-1):=by
  simp[Jv]
 rw[c];have f:Y2 ((its.length:Int) - 1) (-1) (-1)=(j8 its.length).reverse:=by
  unfold Y2;have e:(if (-1:Int) > 0 then (if (its.length:Int) - 1 < -1 then (-1 - ((its.length:Int) - 1) + -1 - 1) / -1 else 0) else (if (its.length:Int) - 1 > -1 then ((its.length:Int) - 1 - -1 - -1 - 1) / - -1 else 0)).toNat=its.length:=by
   rw[if_neg (by decide)];split
   ·rw[show (- -1:Int)=1 by decide,cM];lia
   ·lia
  dsimp only;rw[e];apply Hc
  ·simp
  ·intro i g h;simp at g ⊢
   lia
 dsimp only;rw[f,List.filterMap_reverse]
 congr 2
 have:=E8 its;simpa using this
theorem HN {X:Cx}{st:ze}{l pos:Pos} (z:PE X e te) (i:PE X st (tC (.int (-1)))):PE X (.Subscript e (.Slice none none (some st) l) pos) (λσ H Q=>te σ H λx g=>∃ a xs,x=.ref a/\SqL X.K g a xs/\∀ p,g p=none->Q (.ref p) (upd g p (.lst xs.reverse))):=by
 intro c s σ H Q I h;refine UB (zy (z c s σ H _ I h) λv B x g C E G=>?_);obtain⟨a,xs,rfl,hq,q⟩:=G;cases E;refine BP ?_;rw[wY];refine wpAny_pure (wpAny_pure ?_);rw[Cu];refine zy (i c B σ g (λv J=>v=.int (-1)/\J=g) C ⟨rfl,rfl⟩) λu f y L M N ⟨U,Y⟩=>?_;subst U;subst Y;obtain⟨t,rfl⟩:=N;have j:Inv X c σ L { f with heap:=f.heap.push { cls:=.type "slice",data:=.fields #[.none,.none,.int (-1) t] } }:=M.kept (t':=f.toks) λb ob q=>jd _ q;obtain⟨its,r,m,hz⟩:=j.list hq;have n:=r.length;show wpAny (zN X.prog X.w) X.A (Ui e (.Slice none none (some st) l) (.ref a) (.ref f.heap.objs.size)) (EP X c σ Q) X.xe { f with heap:=f.heap.push { cls:=.type "slice",data:=.fields #[.none,.none,.int (-1) t] } };refine vS (ops:=[.ref a,.ref f.heap.objs.size]) m.isList.typeIs slot_list_getitem.lookup ?_ (by with_unfolding_all rfl);refine EE m.isList (FE ..) .none .none (.int (-1) t) (by decide) ?_ (by rw[jw]<;>lia);rw[gy];refine⟨.ref _,_,j.laid (t':=f.toks) (o:=.lst xs.reverse) (λb ob q=>jd _ q) (zg _) ?_,rfl,q _ (j.hok.fresh (zg _))⟩;exact⟨by rw[k6];exact hz,_,0,r.reverse,qd _ rfl⟩
end
end L2
namespace L2
open PySem PySem.Spec PyProof.Rows
noncomputable def Bu:List V->Hp->VK->Prop:=λxs H Q=>∃ i,xs=[.int i]/\i.natAbs.log2 < 1920/\Q (.str (toString i)) H
theorem EC {X:Cx}:jx X (.type "str") Bu:=gB
theorem LO (i:Int):(KO (toString i))=ofT (M.Js i):=by
 rw[Str.ofString_eq_toList];rfl
theorem G1 (i:Int):okT (M.Js i):=List.all_eq_true.mpr λc e=>by
 obtain⟨d,_,rfl⟩:=List.mem_map.mp e;have:=d.valid;rw[decide_eq_true_iff];rcases this with h | h
 ·exact Kt h (by decide)
 ·exact h.2
theorem Gk {K:PySem.W.Frag}:AdN K j M.Uh Bu:=by
 intro l H S xs m Q g e h;unfold M.Uh at h;split at h
 ·rename_i i;obtain⟨Y,r,rfl,ry,rfl⟩:=e;cases ry;by_cases c:M.qo i=true
  ·rw[if_pos c] at h;unfold M.qo at c;rw[decide_eq_true_iff] at c;refine⟨i,rfl,?_,?_⟩
   ·by_cases f:i.natAbs=0
    ·rw[f];decide
    ·exact Kt ((Nat.log2_lt f).mpr (show i.natAbs < 2 ^ 64 from c)) (by decide)
   ·show Q (.str (KO (toString i))) H;rw[LO];exact zF.here h g ⟨rfl,G1 i⟩
  ·rw[if_neg c] at h;exact h.elim
 ·exact h.elim
section
variable {K:PySem.W.Frag}{Θ:Tab}
theorem iK:Ad2 K Θ M.JN (λx y H Q=>match x,y with | .int i,.int j=>Q (.int (i+j)) H | .str a,.str b=>a.length+b.length <= zf/\Q (.str (a++b)) H | _,_=>False):=by
 intro f H S x y X Y Q e rx ry h;cases x with
 | int i =>
  cases y with
  | int j=>cases rx;cases ry;exact zF.here (b:=V.int (i+j)) h e rfl
  | _=>exact h.elim
 | str a =>
  cases y with
  | str b =>
   obtain⟨rfl,oa⟩:=rx;obtain⟨rfl,ob⟩:=ry;have h':zF K Θ (zL K) f H (if a.length+b.length <= M.SZ then M.R.ok (M.D.str (a++b)) S else .no) Q:=h;by_cases c:a.length+b.length <= M.SZ
   ·rw[if_pos c] at h';refine⟨by rw[qS,qS,<- ZE];exact c,?_⟩;rw[aI];exact zF.here h' e ⟨rfl,V2 oa ob⟩
   ·rw[if_neg c] at h';exact h'.elim
  | _=>exact h.elim
 | _=>exact h.elim
def cn (K:PySem.W.Frag):List V->Hp->VK->Prop:=λxs H Q=>∃ p ys,xs=[.ref p]/\((SqL K H p ys/\∀ l,H l=none->Q (.ref l) (upd H l (.tup ys)))\/(SqT K H p ys/\Q (.ref p) H))
theorem g5 {X:Cx}:jx X (.type "tuple") (cn X.K):=dr
theorem FW:AdN K Θ M.XY (cn K):=by
 intro m H S xs t Q g c h;unfold M.XY at h;split at h
 ·rename_i ds;obtain⟨Y,r,rfl,ry,rfl⟩:=c;obtain⟨a,f,rfl,hq,j⟩:=id ry;exact⟨a,f,rfl,.inr ⟨hq,zF.here h g ry⟩⟩
 ·rename_i p;obtain⟨Y,r,rfl,ry,rfl⟩:=c;split at h
  ·rename_i ds e;have n:S[p]? = some (.lst ds):=by
    unfold M.zv at e;split at e
    ·rename_i o q;cases e;exact q
    ·cases e
   obtain⟨a,f,rfl,ha,s,j⟩:=Q8 g ry n;exact⟨a,f,rfl,.inl ⟨SqL.of s,λl i=>h m _ _ (jc _) (Le.new i _) (g.aside i _) ⟨l,f,rfl,.inl (.inl qN),j.mono (jc _) (Le.new i _)⟩⟩⟩
  ·exact h.elim
 ·exact h.elim
end
end L2
namespace L2
open PySem PySem.Spec PyProof.Rows
structure QU (K:PySem.W.Frag) (Θ:Tab) (c:Nat) (C:zE) (N:List Str):Prop where
 tab:Θ c=some (C,N)
 cl:Cls K C
 no:∀ f∈N,Jl K C f
 few:N.length < 999
 nd:N.Nodup
theorem J5 {c:Type}{Pr:c->Prop}{a:c}{l:List c} (h:Pr a) (k:∀ x∈l,Pr x):∀ x∈a::l,Pr x:=λx f=>(List.mem_cons.mp f).elim (λe=>by rw[e];exact h) (k x)
structure K1 (P:jD) (w:jC) (K:PySem.W.Frag) (mg:Str->Option zD) (base:zp) (C:zE) (m:Str) (k:Nat) (ps:List Str) (sp:Sp):Prop where
 ex:∃ f fd,qC P w K mg base CX0 k f fd ps sp/\ZX K fd ps []/\vQ K C m f
structure uc (P:jD) (w:jC) (K:PySem.W.Frag) (mg:Str->Option zD) (base:zp) (C:zE) (x:Str) (k:Nat) (ps:List Str) (sp:Sp):Prop where
 ex:∃ f fd,qC P w K mg base CX0 k f fd ps sp/\ZX K fd ps []/\Mk K C f/\mg x=some (.ref C)
theorem bT {c:Type} [DecidableEq c]:∀ {l N:List c},l.Nodup->(∀ x∈l,x∈N)->l.length <= N.length
 | [],_,_,_=>ZR _
 | a::l,N,h,k=>by
  have ha:=k a qJ;have f:=List.nodup_cons.mp h;have i:l.length <= (N.erase a).length:=bT f.2 λx g=>(gP (show x≠a from λe=>f.1 (by rw[<- e];exact g))).mpr (k x (je _ g));rw[IJ ha] at i;have j:=Gw ha;rw[jE]
  lia
theorem kD (f:Str) (v:V):∀ fs:List (Str×V),∀ g,g∈(qR f v fs).map (·.1)->g=f\/g∈fs.map (·.1)
 | [],g,h=>by
  have h':g∈[f]:=h;exact .inl (by simpa using h')
 | (k,x)::r,g,h=>by
  rw[show qR f v ((k,x)::r)=(if k=f then (k,v)::r else (k,x)::qR f v r) from rfl] at h;by_cases c:k=f
  ·rw[if_pos c] at h;exact .inr h
  ·rw[if_neg c,jN] at h;rcases List.mem_cons.mp h with e | h
   ·exact .inr (by rw[e];simp)
   ·rcases kD f v r g h with e | e
    ·exact .inl e
    ·exact .inr (je _ e)
theorem A3 (f:Str) (v:V):∀ fs:List (Str×V),(fs.map (·.1)).Nodup->((qR f v fs).map (·.1)).Nodup
 | [],_=>by show [f].Nodup;simp
 | (k,x)::r,h=>by
  rw[jN,Kq] at h;rw[show qR f v ((k,x)::r)=(if k=f then (k,v)::r else (k,x)::qR f v r) from rfl];by_cases c:k=f
  ·rw[if_pos c,jN,Kq];exact h
  ·rw[if_neg c,jN,Kq];refine⟨λm=>?_,A3 f v r h.2⟩;rcases kD f v r k m with e | e
   ·exact c e
   ·exact h.1 e
theorem dW {f:Str}:∀ {c:List (Str×V)},f∉c.map (·.1)->c.lookup f=none
 | [],_=>rfl
 | (g,x)::r,h=>by
  rw[jN,AU,not_or] at h;have e:(f == g)=false:=beq_eq_false_iff_ne.mpr h.1;rw[yA,e];exact dW h.2
theorem GR {P:jD}{K:PySem.W.Frag}{mg:Str->Option zD}{k:Nat}{q:M.F} (h:∀ ds s,q ds s=.no):qC P w K mg base CX0 k f fd ps (SpM K e n q) :=
 ⟨λvs H Q E ⟨c,ds,S,_,_,_,z⟩=>by rw[h] at z;exact z.elim,λA outer s H args us vs Q E _ _ _ _ _ ⟨c,ds,S,_,_,_,z⟩=>by rw[h] at z;exact z.elim⟩
section
variable {K:PySem.W.Frag}{Θ:Tab}{ρ:List zE}{H:Hp}
theorem Jm.few {fs:List (Option M.D)} (r:Jm K ρ H N fs c):c.length <= N.length:=by
 have:=bT r.nd r.within
 rwa [jH] at this
theorem Jm.put {fs:List (Option M.D)}{i:Nat}{f:Str}{d:M.D} (r:Jm K ρ H N fs m) (p:N.Nodup) (hi:N[i]? = some f) (le:Le H o) (q:zL K ρ o d v):Jm K ρ o N (fs.set i (some d)) (qR f v m):=by
 refine⟨by rw[yk];exact r.len,A3 f v m r.nd,λg s=>?_,λj g e h l=>?_⟩
 ·rcases kD f v m g s with z | z
  ·rw[z];exact yZ hi
  ·exact r.within g z
 ·rw[Y4];by_cases c:i=j
  ·subst c;rw[hi] at h;cases h;rw[if_pos rfl];have t:i < fs.length:=by rw[r.len];exact (List.getElem?_eq_some_iff.mp hi).1
   rw[ZI t] at l;cases l;exact⟨v,rfl,q⟩
  ·rw[qb c] at l;have n:¬ g=f:=λz=>c (vA p (by rw[hi]) (by rw[h,z]));rw[if_neg n];obtain⟨u,w,x⟩:=r.get j g e h l;exact⟨u,w,x.mono (jc _) le⟩
theorem VA {S:M.S}{p:Nat}{a:zE}{fs:List (Option M.D)} (j:QU K Θ c C N) (l:zX K Θ ρ S H) (ha:ρ[p]? = some a) (e:S[p]? = some (.ins c fs)):∃ g f,H a=some (.ins C g f)/\Jm K ρ H N fs f:=by
 obtain⟨b,h,o,g,f,q,m,i,n⟩:=l.obj p _ e;rw[ha] at h;cases h;rw[j.tab] at i;cases i;exact⟨g,f,m,n⟩
theorem bx {a C c:zE}{e:List (Str×V)} (h:H a=some (.ins C c e)):Mut (H a):=by rw[h];trivial
theorem BZ {S:M.S}{i:Nat}{f:Str}{Q:VK} (l:QU K Θ c C N) (hi:N[i]? = some f) (j:zX K Θ ρ S H) (rx:zL K ρ H x m) (h:zF K Θ (zL K) ρ H (M.XN c i x S) Q) :
  ∃ a g fs v,m=.ref a/\H a=some (.ins C g fs)/\fs.lookup f=some v/\Q v H:=by
 unfold M.XN at h;split at h
 ·rename_i p;split at h
  ·rename_i w fs e;split at h
   ·rename_i n;subst n;split at h
    ·rename_i d o;obtain⟨a,rfl,ha⟩:=rx;obtain⟨g,q,r,s⟩:=VA l j ha e;obtain⟨v,t,u⟩:=s.get i f d hi o;exact⟨a,g,q,v,rfl,r,t,zF.here h j u⟩
    ·exact h.elim
   ·exact h.elim
  ·exact h.elim
 ·exact h.elim
theorem w_me_fld {X:Cx}{i:Nat}{f:Str}{pos:Pos} (g:QU X.K Θ c C N) (hi:N[i]? = some f) (n:WE X Θ e m) (o:JM e f X.env (z0 e X.env)=z0 e X.env:=by rfl):WE X Θ (.Attribute e f pos) (M.jG c i m):=by
 delta WE at n ⊢
 exact (e9 n o).up λσ H Q ρ j S st p h=>⟨ρ,j,S,st,p,zF.bind h λr z x A B E G l rx s=>by
   obtain⟨a,t,fs,v,u,w,y,q⟩:=BZ g hi l rx s;exact⟨a,C,t,fs,v,u,w,g.cl,g.no f (yZ hi),y,q⟩⟩
theorem AB {S:M.S}{i:Nat}{f:Str}{D:ZN} (l:QU K Θ c C N) (hi:N[i]? = some f) (n:zX K Θ ρ S H) (st:jL K ρ H j σ) (rx:zL K ρ H x r) (ry:zL K ρ H y Y) (h:zu K Θ ρ H ((M.xK c i x y S).stm j λ_ s=>.nx j s) D) :
  ∃ a g fs,r=.ref a/\H a=some (.ins C g fs)/\fs.length < 1000/\D.nx σ (upd H a (.ins C g (qR f Y fs))):=by
 unfold M.xK at h;split at h
 ·rename_i p;split at h
  ·rename_i u fs e;split at h
   ·rename_i t;subst t;obtain⟨a,rfl,ha⟩:=rx;obtain⟨g,o,m,q⟩:=VA l n ha e;have le:=Le.put (bx m) (.ins C g (qR f Y o));refine⟨a,g,o,rfl,m,by have:=q.few;have:=l.few;lia,?_⟩;exact h ρ _ σ (jc _) le (n.put ha (bx m) ⟨C,g,_,N,qN,l.tab,q.put l.nd hi le (ry.mono (jc _) le)⟩) (st.mono (jc _) le)
   ·exact h.elim
  ·exact h.elim
 ·exact h.elim
theorem w_ms_fld {X:Cx}{i:Nat}{f:Str}{pos pos':Pos} (j:QU X.K Θ c C N) (hi:N[i]? = some f) (r:WE X Θ o mo) (s:WE X Θ e m) (hs:Qc e (some (.Attribute o f pos')) pos.line X.env=pure false:=by kernel_rfl):WS X Θ (.Assign [.Attribute o f pos'] e pos) (M.Zj c i mo m):=by
 delta WE WS at r s ⊢
 exact (HB r s hs).up λD σ H ρ g S st z h=>⟨ρ,g,S,st,z,zu.stm h λl U y Y A t u n ry B=>⟨l,g,A,st.mono t u,n,zu.stm B λE H2 x X1 S2 v w p rx G=>by
   obtain⟨a,I,fs,J,L,Q,q⟩:=AB j hi p (st.mono (t.trans v) (u.trans w)) rx (ry.mono v w) G;exact⟨a,C,I,fs,J,L,j.cl,j.no f (yZ hi),Q,q⟩⟩⟩
theorem w_ms_fldaug {X:Cx}{i:Nat}{f:Str}{pos pos':Pos} (B:QU X.K Θ c C N) (hi:N[i]? = some f) (ho:WE X Θ o mo) (he:WE X Θ e m) (G:PIp X op r) (ad:Ad2 X.K Θ g r):WS X Θ (.AugAssign (.Attribute o f pos') op e pos) (M.QC g c i mo m):=by
 delta WE WS at ho he ⊢
 exact (HW ho he G).up λD σ H ρ n S st rp h=>⟨ρ,n,S,st,rp,zu.stm h λw p x I S1 p1 l1 J rx h1=>by
   have L:zu X.K Θ w p ((M.XN c i x S1).stm n λv s=>(m n s).stm n λy s=>(g v y s).stm n λz s=>(M.xK c i x z s).stm n λ_ s=>.nx n s) D:=h1;have hp:∃ a A fs v,I=.ref a/\p a=some (.ins C A fs)/\fs.lookup f=some v/\∃ j l t d,jL X.K j p l σ/\zX X.K Θ j t p/\zL X.K j p d v/\zL X.K j p x I/\zu X.K Θ j p ((m l t).stm l λy s=>(g d y s).stm l λz s=>(M.xK c i x z s).stm l λ_ s=>.nx l s) D:=by
    have h2:zF X.K Θ (zL X.K) w p (M.XN c i x S1) (λv H2=>H2=p->∃ j l t d,jL X.K j p l σ/\zX X.K Θ j t p/\zL X.K j p d v/\zL X.K j p x I/\zu X.K Θ j p ((m l t).stm l λy s=>(g d y s).stm l λz s=>(M.xK c i x z s).stm l λ_ s=>.nx l s) D) :=
     zu.stm L λj H2 d v t p2 l2 u Q h3 e=>by
      subst e;exact⟨j,n,t,d,st.mono (p1.trans p2) (l1.trans l2),u,Q,rx.mono p2 l2,h3⟩
    obtain⟨a,A,fs,v,E,U,e3,q⟩:=BZ B hi J rx h2;exact⟨a,A,fs,v,E,U,e3,q rfl⟩
   obtain⟨a,A,fs,v,E,U,e3,j,l,t,d,st2,u,Q,rx2,h4⟩:=hp;refine⟨a,C,A,fs,v,E,U,B.cl,B.no f (yZ hi),e3,j,l,t,st2,u,zu.stm h4 λρ3 H3 y Y S3 p3 l3 rp3 ry h5=>ad ρ3 H3 S3 d y v Y _ rp3 (Q.mono p3 l3) ry (zu.stm h5 λρ4 H4 z Z S4 p4 l4 rp4 rz h6=>?_)⟩;obtain⟨a',dx',fs',f1,f2,f3,q⟩:=AB B hi rp4 (st2.mono (p3.trans p4) (l3.trans l4)) (rx2.mono (p3.trans p4) (l3.trans l4)) rz h6;rw[E] at f1;cases f1;exact⟨dx',fs',f2,f3,q⟩⟩
theorem dU {fs:List (Option M.D)}{m:Str} (r:Jm K ρ H N fs c) (hm:m∉N):c.lookup m=none:=dW λz=>hm (r.within m z)
theorem w_me_meth {X:Cx}{k n:Nat}{e:ze}{es:List ze}{pos l:Pos} (L:QU X.K Θ c C N) (h:K1 X.prog X.w X.K X.mg X.base C name k ps (SpM X.K Θ (n+1) f)) (hr:z6 kk X.A) (hk:k <= kk) (hm:name∉N) (U:WE X Θ o mo) (ha:WA X Θ (e::es) m) (ar:ke m n) (hx:Z5 CX0 X E0:=by exact Xa)
  (he:qc e=true:=by rfl) (B:es.all qc=true:=by rfl)
  (ht:z0 (.Call (.Attribute o name l) (e::es) [] pos) X.env=(do
   let Y <- z0 o X.env
   standAt l.atName
   let (f,first) <- holding [Y] (vG Y name pl)
   callWith pos f first (yR pos (jY (e::es) X.env)) (Kl pos (Xc [] X.env))):=by rfl):WE X Θ (.Call (.Attribute o name l) (e::es) [] pos) (M.jS c f mo m):=by
 delta WA WE at U ha ⊢
 obtain⟨g,fd,F,b,mt⟩:=h.ex;refine (Hi U L.cl mt F (hr.mono hk) b .nil hx ha (yH he) (JA B) ht).up λσ H Q ρ j S st rp h=>⟨ρ,j,S,st,rp,zF.bind h λt E x X1 u p1 l1 y rx h1=>?_⟩
 cases x with
 | ref p =>
  have i:zF X.K Θ (zL X.K) t E (match u[p]? with | some (.ins v _)=>if v=c then (m j u).bind λxs s=>f (.ref p::xs) s else .no | _=>.no) Q:=h1;cases q:u[p]? with
  | none=>rw[q] at i;exact i.elim
  | some ob =>
   rw[q] at i;cases ob with
   | ins v fs =>
    by_cases hc:v=c
    ·subst hc;have r:zF X.K Θ (zL X.K) t E (if v=v then (m j u).bind λxs s=>f (.ref p::xs) s else .no) Q:=i;rw[if_pos rfl] at r;obtain⟨a,rfl,G⟩:=id rx;obtain⟨dx,gs,e1,e2⟩:=VA L y G q;refine⟨a,dx,gs,rfl,e1,dU e2 hm,t,j,u,st.mono p1 l1,y,?_⟩;cases z:m j u with
     | no=>rw[z] at r;exact r.elim
     | exc a s=>rw[z] at r;exact r
     | ok ds S2 =>
      rw[z] at r;intro I H2 vs p2 l2 J r2;rw[qw];exact⟨I,.ref p::ds,S2,by rw[jE,ar _ _ _ _ z],⟨_,_,rfl,rx.mono p2 l2,r2⟩,J,zF.weak r p2 l2⟩
    ·have r:zF X.K Θ (zL X.K) t E (if v=c then (m j u).bind λxs s=>f (.ref p::xs) s else .no) Q:=i;rw[if_neg hc] at r;exact r.elim
   | lst _=>exact i.elim
   | dct _=>exact i.elim
   | fdc _=>exact i.elim
   | dtt _=>exact i.elim
   | ftt _=>exact i.elim
 | _=>exact h1.elim
theorem w_me_meth0 {X:Cx}{k:Nat}{pos i:Pos} (v:QU X.K Θ c C N) (h:K1 X.prog X.w X.K X.mg X.base C name k ps (SpM X.K Θ 1 f)) (G:z6 I X.A) (J:k <= I) (hm:name∉N) (y:WE X Θ o mo) (L:Z5 CX0 X E0:=by exact Xa)
  (U:z0 (.Call (.Attribute o name i) [] [] pos) X.env=(do
   let z <- z0 o X.env
   standAt i.atName
   let (f,first) <- holding [z] (vG z name pl)
   callWith pos f first (yR pos (jY [] X.env)) (Kl pos (Xc [] X.env))):=by rfl):WE X Θ (.Call (.Attribute o name i) [] [] pos) (M.jS c f mo M.zC):=by
 delta WE at y ⊢
 obtain⟨g,fd,F,b,mt⟩:=h.ex;refine (Fx y v.cl mt F (G.mono J) b .nil L U).up λσ H Q ρ s S st Y h=>⟨ρ,s,S,st,Y,zF.bind h λj t x X1 l p1 l1 n rx B=>?_⟩
 cases x with
 | ref p =>
  have e:zF X.K Θ (zL X.K) j t (match l[p]? with | some (.ins m _)=>if m=c then f [.ref p] l else .no | _=>.no) Q:=B;cases q:l[p]? with
  | none=>rw[q] at e;exact e.elim
  | some ob =>
   rw[q] at e;cases ob with
   | ins m fs =>
    by_cases E:m=c
    ·subst E;have r:zF X.K Θ (zL X.K) j t (if m=m then f [.ref p] l else .no) Q:=e;rw[if_pos rfl] at r;obtain⟨a,rfl,u⟩:=id rx;obtain⟨dx,gs,e1,e2⟩:=VA v n u q;exact⟨a,dx,gs,rfl,e1,dU e2 hm,j,[.ref p],l,rfl,⟨_,_,rfl,rx,rfl⟩,n,r⟩
    ·have r:zF X.K Θ (zL X.K) j t (if m=c then f [.ref p] l else .no) Q:=e;rw[if_neg E] at r;exact r.elim
   | lst _=>exact e.elim
   | dct _=>exact e.elim
   | fdc _=>exact e.elim
   | dtt _=>exact e.elim
   | ftt _=>exact e.elim
 | _=>exact B.elim
theorem w_me_make {X:Cx}{k n E:Nat}{e:ze}{es:List ze}{pos p:Pos} (cm:QU X.K Θ c C N) (h:uc X.prog X.w X.K X.mg X.base C x k ps (SpM X.K Θ (n+1) f)) (hr:z6 kk X.A) (hk:k+1 <= kk) (hn:N.length=E) (hg:Gl X x) (ha:WA X Θ (e::es) m) (ar:ke m n) (hx:Z5 CX0 X E0:=by exact Xa) (J:(x == ("__debug__" : Str))=false:=by decide)
  (he:qc e=true:=by rfl) (L:es.all qc=true:=by rfl):WE X Θ (.Call (.Name x p) (e::es) [] pos) (M.K0 c E f m):=by
 delta WA WE at ha ⊢
 obtain⟨g,fd,F,b,mk,U⟩:=h.ex;refine (Ff mk F (hr.mono hk) hg U b .nil hx ha J (yH he) (JA L)).up λσ H Q ρ r S st rp h=>⟨ρ,r,S,st,rp,?_⟩
 have h':zF X.K Θ (zL X.K) ρ H ((m r S).bind λxs s=>(f (.ref s.length::xs) (s++[.ins c (jK E none)])).bind λd s'=>if d=.non then .ok (.ref s.length) s' else .no) Q:=h;cases G:m r S with
 | no=>rw[G] at h';exact h'.elim
 | exc a s=>rw[G] at h';exact h'
 | ok ds Y =>
  rw[G,M.R.bind_ok] at h';intro j t vs p1 l1 u r1 y o hy z hne;rw[qw];have l2:Le t (upd t o (.own y)):=Le.new z _;have rp2:=u.aside z (.own y);have B:upd t o (.own y) y=none:=by rw[jF (yK hne)];exact hy
  have l3:Le (upd t o (.own y)) (upd (upd t o (.own y)) y (.ins C o [])):=Le.new B _;have pre:j <+: j++[y]:=Qy _ _;have rp3:zX X.K Θ (j++[y]) (Y++[.ins c (jK E none)]) (upd (upd t o (.own y)) y (.ins C o [])):=by
   refine rp2.alloc B ⟨C,o,[],N,qN,cm.tab,by rw[Ax];exact hn.symm,xw,(λf hf=>nomatch hf),λi f d _ q=>?_⟩;rw[KS] at q;split at q<;>cases q
  have l:(j++[y])[Y.length]? = some y:=by rw[<- u.len];simp
  refine⟨j++[y],.ref Y.length::ds,_,by rw[jE,ar _ _ _ _ G],⟨_,_,rfl,⟨y,rfl,l⟩,r1.mono pre (l2.trans l3)⟩,rp3,?_⟩;refine zF.bind (zF.weak h' (p1.trans pre) (l1.trans (l2.trans l3))) λρ4 H4 d v S4 p4 l4 rp4 rv I=>?_;by_cases hd:d=.non
  ·subst hd;rw[if_pos rfl] at I;cases rv;exact⟨rfl,zF.here I rp4 ⟨y,rfl,kL p4 l⟩⟩
  ·rw[if_neg hd] at I;exact I.elim
end
end L2
namespace L2
open PySem PySem.Spec PyProof.Rows
section
variable {P:jD}{w:jC}{A:jj}{E:zD->zI->Prop}{s:zI}
theorem Lc:YS (.type "list_reverseiterator") "__len__" = pure none:=by rw[kC,kS];kernel_rfl
theorem eU:YS (.type "list_reverseiterator") "__length_hint__" = pure (some (.builtin "list_reverseiterator.__length_hint__")):=by rw[kC,kS];kernel_rfl
theorem Ef {I l:zE}{i:Int}{R:Bool->zI->Prop} (h:s.heap.IsRevIter I l i) (q:R false s):wpAny (zN P w) A (Lw (.ref I)) R E s:=by
 unfold Lw;refine zQ (vm h.typeIs Lc ?_);show wpAny (zN P w) _ (specialOf (qF I) (KO "__length_hint__") >>= _) _ _ _;refine zQ (vm h.typeIs eU ?_);generalize e:("list_reverseiterator.__length_hint__" : String)=f
 wp_delta
 rw[show splitId f=some ("list_reverseiterator","__length_hint__") from by subst e;decide +kernel];subst e;refine zQ (Bn (T := "list_reverseiterator") (b:=true) h.typeIs (by rw[VY];kernel_rfl) ?_);refine kB (λc=>absurd c (by decide)) (λ_=>?_);refine kB (λ_=>?_) (λc=>absurd (by decide +kernel) c);refine kB (λc=>absurd c (by decide +kernel)) (λ_=>?_);exact wpAny_pure q
end
theorem gm:PySem.Slot "reversed" "__init__" "object.__init__" :=
 .of (owner := "object") (n := "__init__") (by rw[kC,kS];kernel_rfl) (by decide +kernel) (by decide +kernel) (by decide +kernel)
  (by first | exact .inl (by decide +kernel) | exact .inr (by decide +kernel)) (by rw[VY];kernel_rfl)
theorem g9:TypeCalled "reversed" "reversed.__new__" "object.__init__" :=
 ⟨by decide +kernel,by decide +kernel,⟨_,_,PySem.F.mro_reversed⟩,PySem.F.made_reversed,by decide +kernel,PySem.F.sub_reversed_self,gm⟩
theorem X4:PySem.Slot "reversed" "__next__" "reversed.__next__" :=
 .of (owner := "reversed") (n := "__next__") (by rw[kC,kS];kernel_rfl) (by decide +kernel) (by decide +kernel) (by decide +kernel)
  (by first | exact .inl (by decide +kernel) | exact .inr (by decide +kernel)) (by rw[VY];kernel_rfl)
theorem Aa:PySem.Slot "reversed" "__iter__" "reversed.__iter__" :=
 .of (owner := "reversed") (n := "__iter__") (by rw[kC,kS];kernel_rfl) (by decide +kernel) (by decide +kernel) (by decide +kernel)
  (by first | exact .inl (by decide +kernel) | exact .inr (by decide +kernel)) (by rw[VY];kernel_rfl)
theorem cI:Manifest.owners.lookup (String.ofList ['d','e','s','r','e','v','e','r'].reverse)=some Manifest.sig_reversed:=by kernel_rfl
theorem cR (a:zD):argsOk "reversed.__next__" ⟨[a],[]⟩:=by
 unfold argsOk;rw[signature?_of (id := "reversed.__next__") (n:=['_','_','t','x','e','n','_','_']) (o:=['d','e','s','r','e','v','e','r']) (by kernel_rfl) cI];kernel_rfl
theorem Dh (a:zD):argsOk "reversed.__iter__" ⟨[a],[]⟩:=by
 unfold argsOk;rw[signature?_of (id := "reversed.__iter__") (n:=['_','_','r','e','t','i','_','_']) (o:=['d','e','s','r','e','v','e','r']) (by kernel_rfl) cI];kernel_rfl
theorem Bi:entryFor table "reversed.__next__" = some Builtin.«reversed.__next__» := F0 (by kernel_rfl)
theorem ib:entryFor table "reversed.__iter__" = some Builtin.«dict_keyiterator.__iter__» :=
 entryFor_alias (id' := "dict_keyiterator.__iter__") (by kernel_rfl) (by first | rfl | decide +kernel | (unfold String.splitOn;simp +decide [String.splitOnAux])) (by decide +kernel) (by kernel_rfl)
theorem f7:YS (.type "tuple") "__reversed__" = pure none:=by rw[kC,kS];kernel_rfl
def Ju (h:zp) (a t:zE) (i:Int):Prop:=h.get? a=some { cls:=.type "reversed",dict:=none,data:=.fields #[.ref t,Qx i],slots:=#[] }
section
variable {P:jD}{w:jC}{A:jj}{E:zD->zI->Prop}{s:zI}
theorem Ju.typeIs {a:zE} (x:Ju s.heap a t i):s.TypeIs (.ref a) "reversed" := ⟨_,x,rfl⟩
theorem Ei (t:zE) (xs:Array zD):Meets (Builtin.«reversed.__new__» ⟨[.type "reversed",.ref t],[]⟩) (λ_ R s=>xI s.heap t xs/\(xs.size:Int) < 2 ^ 63/\R (.ok (.ret (.ref s.heap.objs.size))) { s with heap:=s.heap.push { cls:=.type "reversed",data:=.fields #[.ref t,Qx ((xs.size:Int) - 1)] },toks:=s.toks+1+1 }) :=
 .of_wp λprog w A R s h=>by
  obtain⟨e,f,h⟩:=h;unfold Builtin.«reversed.__new__»;refine zQ (vN (newClass_reversed _) ?_)
  try dsimp only
  refine zQ (vN (a:=()) (by first | rfl | kernel_rfl) ?_);refine zQ (vN (a:=()) (by first | rfl | kernel_rfl) ?_)
  try dsimp only
  refine zQ (vm e.typeIs f7 ?_)
  try dsimp only
  refine zQ (zQ (Bn (T := "tuple") (b:=false) e.typeIs (by rw[VY];kernel_rfl) ?_));refine kB (λc=>absurd c (by decide)) (λ_=>?_);refine zQ (vm e.typeIs PySem.F.slot_tuple_getitem.lookup ?_);refine kB (λ_=>?_) (λc=>absurd (by decide +kernel) c);refine wpAny_pure ?_;refine kB (λc=>absurd c (by decide)) (λ_=>?_);refine zQ (len_tuple e f ?_);refine zQ (m:=asInt? _) (wpAny_pure ?_);refine zQ (m:=MK _ _) ?_;show wpAny (zN prog w) _ (newObj (.type "reversed") (.fields #[.ref t,Qx ((xs.size:Int) - 1)])) _ _ _;exact JK (wpAny_pure ⟨_,rfl,h⟩)
theorem DM {Q:zD->zI->Prop} (c:xI s.heap t xs) (e:(xs.size:Int) < 2 ^ 63)
  (q:Q (.ref s.heap.objs.size) { s with heap:=s.heap.push { cls:=.type "reversed",data:=.fields #[.ref t,Qx ((xs.size:Int) - 1)] },toks:=s.toks+1+1 }):wpAny (zN P w) A (call (.type "reversed") [.ref t]) Q E s:=by
 refine callType_new g9 (by decide) (PySem.F.typeCall_reversed_1 _) (PySem.F.newCall_reversed_1 _) (λobj=>PySem.F.args_object_init_2 obj _) PySem.F.entry_reversed_new (Ei t xs) ⟨c,e,?_⟩;exact⟨⟨_,qd _ rfl,rfl⟩,q⟩
theorem gu {i:Nat}{x:zD}{Q:Option zD->zI->Prop} (hit:Ju s.heap it t (i:Int)) (l:xI s.heap t xs) (hi:i < 2 ^ 62) (c:xs[i]? = some x)
  (q:∀ h',Ju h' it t ((i:Int) - 1)->Jx it s.heap h'->Q (some x) { s with heap:=h',toks:=s.toks+1 }):wpAny (zN P w) A (J7 (.ref it)) Q E s:=by
 unfold J7;refine zQ (UN (Wy (name:=KO "__next__") hit.typeIs X4
  (YM X4 hit.typeIs Bi ?_ (cR _))))
 unfold Builtin.«reversed.__next__»;refine zQ (vN (a:=(qF it,[])) rfl ?_)
 try dsimp only
 refine zQ (xS hit rfl (x:=.ref t) rfl ?_);refine zQ (xS hit rfl (x:=Qx (i:Int)) rfl ?_);show wpAny (zN P w) _ (if (i:Int) < 0 then _ else _) _ _ s;rw[if_neg (by lia)];refine zQ (vm l.typeIs PySem.F.slot_tuple_getitem.lookup ?_);refine kB (λe=>absurd e (by decide)) (λ_=>?_);refine zQ (wpAny_mkInt ?_);have lt:i < xs.size:=by
  rcases HC i xs.size with h | h
  ·exact h
  ·rw[Array.getElem?_eq_none h] at c;cases c
 refine zQ (UN (MY (s:={ s with toks:=s.toks+1 }) l (by lia) (by lia) (j:=i) (by unfold ck;simp;lia) c ?_));refine zQ (xS (s:={ s with toks:=s.toks+1 }) hit rfl (x:=Qx (i:Int)) rfl ?_);refine zQ (Wr (s:={ s with toks:=s.toks+1 }) hit (by simp) λh' f g=>?_);exact wpAny_pure ⟨x,rfl,wpAny_pure (q h' f g)⟩
theorem GC {Q:Option zD->zI->Prop} (c:A.handled=none) (hit:Ju s.heap it t (-1))
  (q:∀ h',Heap.ExtBut it s.heap h'->Q none { s with heap:=h' }):wpAny (zN P w) A (J7 (.ref it)) Q E s:=by
 unfold J7;refine zQ (UN (Wy (name:=KO "__next__") hit.typeIs X4
  (YM X4 hit.typeIs Bi ?_ (cR _))))
 unfold Builtin.«reversed.__next__»;refine zQ (vN (a:=(qF it,[])) rfl ?_)
 try dsimp only
 refine zQ (xS hit rfl (x:=.ref t) rfl ?_);refine zQ (xS hit rfl (x:=Qx (-1)) rfl ?_);show wpAny (zN P w) _ (if (-1:Int) < 0 then _ else _) _ _ s;rw[if_pos (by decide)];refine zQ (xc ?_);refine zQ ?_;show wpAny (zN P w) _ (setField (.ref it) 1 (Qx (-1)) >>= λ_=>setField (.ref it) 0 .none) _ _ s;refine zQ (Wr hit (by simp) λe f g=>?_);refine Wr (s:={ s with heap:=e }) f (by simp) λi j h=>?_
 first
 | show wpAny (zN P w) _ (newExc (.type "StopIteration") [] >>= _) _ _ _
 | (refine zQ ?_;show wpAny (zN P w) _ (newExc (.type "StopIteration") [] >>= _) _ _ _)
 refine zQ ?_;simp only[newExc,newTuple];refine zQ (JK ?_ (by size_fits));refine zQ (m:=gJ _ _) (vN (a:=Xf) (by first | rfl | (simp only[gJ];rfl)) ?_);refine JK ?_ (by size_fits);simp only[raiseNew];refine zQ (wpAny_handled ?_)
 first | rw[show A.in1.handled=none from c] | rw[c]
 refine zQ (wpAny_pure (wpAny_throw ?_));refine zQ (Bn (T := "StopIteration") (b:=true) ⟨_,qd _ rfl,rfl⟩ isSubtype_stop ?_);exact wpAny_pure (q _ (((g.extBut.trans h.extBut).push _).push _))
theorem BC {Q:zD->zI->Prop} (hit:Ju s.heap it t i) (h:Q (.ref it) s):wpAny (zN P w) A (X3 (.ref it)) Q E s:=by
 refine wpAny_pyIter_slot hit.typeIs Aa (YM Aa hit.typeIs ib ?_ (Dh _));show wpAny (zN P w) _ (ret (.ref it)) _ _ s;exact wpAny_pure ⟨_,rfl,"reversed",_,hit.typeIs,X4.lookup,h⟩
end
theorem F9 {xs:List zD} (h:ItemsOf (λi v=>xs.toArray[xs.toArray.size - 1 - i]? = some v) c xs.length):c=xs.reverse.toArray:=by
 apply Array.toList_inj.mp;apply Ba;intro j;rcases HC j xs.length with f | f
 ·have e:c[j]? = some (c[j]'(by rw[h.1];exact f)):=Array.getElem?_eq_getElem _;have g:=h.2 j _ e;rw[xq,e,<- g,Ld f];simp
 ·rw[xA (by rw[jy,h.1];exact f),xA (by simpa using f)]
section
variable {Θ:Tab}
theorem aS:yB "reversed" = some (.type "reversed"):=by decide +kernel
end
end L2
namespace L2
open PySem PySem.Spec PyProof.Rows
section
variable {Θ:Tab}
theorem az {S:M.S}{ds:List M.D} (e:M.zv S p=some ds):S[p]? = some (.lst ds):=by
 unfold M.zv at e;split at e
 ·rename_i c f;cases e;exact f
 ·cases e
end
end L2
namespace L2
open PySem PySem.Spec PyProof.Rows
section
variable {P:jD}{w:jC}{A:jj}{E:zD->zI->Prop}{s:zI}
set_option maxHeartbeats 4000000 in
end
end L2
namespace L2
open PySem PySem.Spec PyProof.Rows
theorem Inv.swapD {X:Cx}{a:zE}{g:HO} (I:Inv X f σ H s) (e:H a=some g) (j:∀ xs,g≠.tup xs) (t:∀ o u,X.H₀ a≠some (.frz o u)) (v:∀ ps,g≠.tbl ps) (y:∀ x,g≠.own x)
  (new:jn X.prog X.w (upd H a l) s.heap a l):Inv X f σ (upd H a l) s:=by
 have h:∀ {b},H b=none->b≠a:=λz q=>by rw[q,e] at z;cases z
 refine⟨I.ok,I.os,I.bare,⟨I.base.keep,I.base.slot,λb ob q n A=>?_,I.base.there,λb xs q=>?_,λb ob u q=>?_,λb ps q=>?_⟩,I.loc,I.cell,?_,λx c q=>?_,λp i=>?_,λb u q=>?_,I.len,I.tk⟩
 ·have z:=I.base.free b ob q n A;rw[jF (h z)];exact z
 ·have z:=I.base.tups b xs q;rw[jF (λw=>by rw[w,e] at z;cases z;exact j xs rfl)];exact z
 ·have z:=I.base.frzs b ob u q;rw[jF (λw=>by rw[w] at q;exact t _ _ q)];exact z
 ·obtain⟨mo,z⟩:=I.base.tbls b ps q;exact⟨mo,by rw[jF (λw=>by rw[w,e] at z;cases z;exact v _ rfl)];exact z⟩
 ·rw[jF (h I.free)];exact I.free
 ·rw[jF (h (I.freeC x c q))];exact I.freeC x c q
 ·obtain⟨B,m,C,E,G⟩:=I.pin p i;exact⟨B,by rw[jF (h m)];exact m,C,E,G⟩
 ·by_cases r:b=a
  ·subst r;rw[qN] at q;cases q;exact new
  ·rw[jF r] at q;exact (I.hok b u q).stay (λ_ _ _ q=>q) (λc z=>by rw[jF (λw=>by rw[w,e] at z;cases z;exact y _ rfl)];exact z) λc xs z=>by rw[jF (λw=>by rw[w,e] at z;cases z;exact j _ rfl)];exact z
noncomputable def wk:HO->Bool
 | .dK _=>true
 | .ext _=>true
 | _=>false
theorem Inv.dict_base {X:Cx}{a:zE} (f:wk u=true) (I:Inv X c σ H s) (e:H a=some u):∀ o u,X.H₀ a≠some (.frz o u):=λo u q=>by
 have z:=I.base.frzs a o u q;rw[e] at z;cases z;cases f
theorem Inv.freeze {X:Cx}{a:zE}{kvs:List (Key×V)} (I:Inv X c σ H s) (e:H a=some (.dK kvs)) :
  ∃ o vs f,KV kvs vs/\(∀ h:zp,h.get? a=some o->h.DictAt (qG X.prog X.w) a vs f)/\s.heap.get? a=some o/\Inv X c σ (upd H a (.frz o (.dK kvs))) s:=by
 have x:=I.hok a _ e;obtain⟨z,hd,vs,rel,o,es,f,g,r⟩:=id x;refine⟨o,vs,f,rel,λh q=>⟨o,es,q,r⟩,g,I.swapD e (λ_ q=>nomatch q) (I.dict_base rfl e) (λ_ q=>nomatch q) (λ_ q=>nomatch q) ⟨g,z,hd,vs,rel,o,es,f,g,r⟩⟩
theorem Inv.thaw {X:Cx}{a:zE}{o:Obj} (f:wk u=true) (I:Inv X c σ H s) (e:H a=some (.frz o u)) (g:∀ o u,X.H₀ a≠some (.frz o u)):Inv X c σ (upd H a u) s:=by
 obtain⟨_,z⟩:=(show jn X.prog X.w H s.heap a (.frz o u) from I.hok a _ e)
 refine I.swapD e (λ_ q=>nomatch q) g (λ_ q=>nomatch q) (λ_ q=>nomatch q) ?_;cases u with
 | dK _=>exact z
 | ext _=>exact z
 | _=>cases f
theorem Fn {P:jD}{k:Key}{u:zD} (h:(qG P w).is k u=true):zm (kV k) u:=by
 rcases QK h with ⟨i,t,rfl,rfl⟩ | ⟨x,t,rfl,rfl⟩
 ·exact⟨t,rfl⟩
 ·exact⟨t,rfl⟩
theorem Lk {kvs:List (Key×V)}{vs:List (Key×zD)}{i:Nat}{p:Key×V} (h:KV kvs vs) (e:kvs[i]? = some p):∃ q,vs[i]? = some q/\p.1=q.1/\zm p.2 q.2:=by
 unfold KV at h
 induction h generalizing i with
 | nil=>simp at e
 | cons h t c =>
  cases i with
  | zero=>cases e;exact⟨_,rfl,h⟩
  | succ n =>
   obtain⟨q,hq,r⟩:=c (by simpa using e);exact⟨q,by simpa using hq,r⟩
section
variable {K:PySem.W.Frag}{Θ:Tab}{ρ:List zE}{H H':Hp}
mutual
theorem zL.move (c:∀ b xs,SqT K H b xs->SqT K H' b xs) (f:∀ b xs,QA K H b xs->QA K H' b xs):∀ {d:M.D}{v:V},zL K ρ H d v->zL K ρ H' d v
 | .non,_,h=>h
 | .bl _,_,h=>h
 | .int _,_,h=>h
 | .str _,_,h=>h
 | .ty _,_,h=>h
 | .ref _,_,h=>h
 | .tup _,_,⟨a,xs,e,h,r⟩=>⟨a,xs,e,c a xs h,zT.move c f r⟩
 | .ro _,_,⟨a,xs,e,h,r⟩=>⟨a,xs,e,f a xs h,zT.move c f r⟩
theorem zT.move (c:∀ b xs,SqT K H b xs->SqT K H' b xs) (f:∀ b xs,QA K H b xs->QA K H' b xs):∀ {ds:List M.D}{xs:List V},zT K ρ H ds xs->zT K ρ H' ds xs
 | [],_,h=>h
 | _::_,_,⟨y,ys,e,h,r⟩=>⟨y,ys,e,zL.move c f h,zT.move c f r⟩
end
section
variable {a:zE}{o:Obj}{u:HO} (hu:wk u=true) (ha:H a=some (.frz o u))
include hu ha
theorem dc:∀ b xs,SqT K H b xs->SqT K (upd H a u) b xs:=λb xs h=>by
 rcases h with (h | ⟨c,h⟩) | h
 ·exact .inl (.inl (by rw[jF (λz=>by rw[z,ha] at h;cases h)];exact h))
 ·exact .inl (.inr ⟨c,by rw[jF (λz=>by rw[z,ha] at h;cases h;cases hu)];exact h⟩)
 ·exact .inr h
theorem dS:∀ b xs,QA K H b xs->QA K (upd H a u) b xs:=λb xs h=>by
 rcases h with ⟨c,h⟩ | h
 ·exact .inl ⟨c,by rw[jF (λz=>by rw[z,ha] at h;cases h;cases hu)];exact h⟩
 ·exact .inr h
theorem zL.thaw {d:M.D} (r:zL K c H d v):zL K c (upd H a u) d v:=zL.move (dc hu ha) (dS hu ha) r
theorem jL.thaw (h:jL K f H c σ):jL K f (upd H a u) c σ :=
 ⟨h.len,λi d e=>let ⟨v,g,j⟩:=h.get i d e;⟨v,g,zL.thaw hu ha j⟩⟩
theorem TDr.thaw (z:TDr K c H p q):TDr K c (upd H a u) p q:=⟨z.1,z.2.1,zL.thaw hu ha z.2.2.1,let ⟨v,e,f⟩:=z.2.2.2;⟨v,zL.thaw hu ha e,f⟩⟩
theorem ObR.thaw {b:zE}{ob:M.O} (m:b≠a) (h:ObR K n s H b ob):ObR K n s (upd H a u) b ob:=by
 have e:=jF (H:=H) (o:=u) m;cases ob with
 | lst ds=>obtain⟨xs,g,r⟩:=h;exact⟨xs,e.trans g,zT.move (dc hu ha) (dS hu ha) r⟩
 | dct kvs=>obtain⟨t,g,r⟩:=h;exact⟨t,e.trans g,Paired.mapP r λp q z=>⟨z.1,zL.thaw hu ha z.2⟩⟩
 | dtt kvs=>obtain⟨xs,g,r⟩:=h;exact⟨xs,e.trans g,Paired.mapP r λp q z=>TDr.thaw hu ha z⟩
 | ftt kvs=>obtain⟨j,xs,g,r⟩:=h;exact⟨j,xs,e.trans g,Paired.mapP r λp q z=>TDr.thaw hu ha z⟩
 | fdc kvs=>obtain⟨j,l,g,r⟩:=h;exact⟨j,l,e.trans g,Paired.mapP r λp q z=>⟨z.1,zL.thaw hu ha z.2⟩⟩
 | ins c fs =>
  obtain⟨C,w,x,N,g,y,r⟩:=h;exact⟨C,w,x,N,e.trans g,y,r.len,r.nd,r.within,λi f d A B=>let ⟨v,E,G⟩:=r.get i f d A B;⟨v,E,zL.thaw hu ha G⟩⟩
theorem zX.thaw {S:M.S}{i:Nat} (h:zX K f c S H) (hi:c[i]? = some a) (r:ObR K f c (upd H a u) a t):zX K f c (S.set i t) (upd H a u):=by
 refine⟨by simp[h.len],h.nd,λj ob q=>?_⟩;by_cases e:i=j
 ·subst e;by_cases l:i < S.length
  ·rw[ZI l] at q;cases q;exact⟨a,hi,r⟩
  ·rw[xA (by rw[yk];lia)] at q;cases q
 ·rw[qb e] at q;obtain⟨b,g,m⟩:=h.obj j ob q;exact⟨b,g,ObR.thaw hu ha (λz=>e (vA h.nd hi (z ▸ g))) m⟩
end
theorem DW {f c:Type}{R:f->c->Prop}{xs:List f}{ys:List c}{i:Nat}{y:c} (h:Paired R xs ys) (e:ys[i]? = some y):∃ x,xs[i]? = some x/\R x y:=by
 induction h generalizing i with
 | nil=>simp at e
 | cons h t g =>
  cases i with
  | zero=>cases e;exact⟨_,rfl,h⟩
  | succ n =>
   obtain⟨q,hq,r⟩:=g (by simpa using e);exact⟨q,by simpa using hq,r⟩
theorem yL.rel {d:M.D}{k:Key} (h:yL d k):zL K c H d (kV k):=by
 cases d with
 | int i=>cases h;rfl
 | str x=>obtain⟨rfl,ok⟩:=h;exact⟨rfl,ok⟩
 | _=>exact h.elim
end
def VV (H₀:Hp) (H:Hp) (Q:Hp->Prop):Prop:=∃ a o u,wk u=true/\H a=some (.frz o u)/\(∀ o u,H₀ a≠some (.frz o u))/\Q (upd H a u)
noncomputable def uC (H₀:Hp) (D:ZN):ZN where
 nx:=λσ H=>VV H₀ H (D.nx σ)
 rt:=λv H=>VV H₀ H (D.rt v)
 bk:=λσ H=>VV H₀ H (D.bk σ)
 ct:=λσ H=>VV H₀ H (D.ct σ)
theorem aR {X:Cx}{st:jT} (h:PS X st t):PS X st λD σ H=>t (uC X.H₀ D) σ H:=λj s σ H D I q=>thn (h j s σ H _ I q) λf m z=>by
 cases f with
 | next=>obtain⟨c,l,g,a,o,u,i,e,n,d⟩:=z;exact⟨c,_,g.thaw i e n,d⟩
 | brk=>obtain⟨c,l,g,a,o,u,i,e,n,d⟩:=z;exact⟨c,_,g.thaw i e n,d⟩
 | cont=>obtain⟨c,l,g,a,o,u,i,e,n,d⟩:=z;exact⟨c,_,g.thaw i e n,d⟩
 | ret _=>obtain⟨v,c,l,g,r,a,o,u,i,e,n,d⟩:=z;exact⟨v,c,_,g.thaw i e n,r,d⟩
section
variable {X:Cx}{Θ:Tab}
theorem Iy {K:PySem.W.Frag}{H₀:Hp}{x:List zE}{H:Hp}{i:Nat}{a:zE}{o:Obj}{D:ZN} (w:wk u=true) (hi:x[i]? = some a) (ha:H a=some u) (n:∀ o u,H₀ a≠some (.frz o u)) (ob:∀ {c:List zE}{g:Hp},x <+: c->Le H g->g a=some u->ObR K Θ c g a t)
  (h:zu K Θ x H (M.KY i f t r) D):zu K Θ x (upd H a (.frz o u)) r (uC H₀ D):=by
 have y:∀ {c:List zE}{g:Hp}{S:M.S},x <+: c->Le (upd H a (.frz o u)) g->zX K Θ c S g->g a=some (.frz o u)/\Le H (upd g a u)/\zX K Θ c (S.set i t) (upd g a u):=λ{c g S} p l A=>by
  have e:=l.frzs a o u qN;have le:Le H (upd g a u):=by
   refine⟨λb xs q=>?_,λb ob C q=>?_⟩
   ·have B:b≠a:=λz=>by rw[z,ha] at q;cases q;cases w
    rw[jF B];exact l.tups b xs (by rw[jF B];exact q)
   ·have B:b≠a:=λz=>by rw[z,ha] at q;cases q;cases w
    rw[jF B];exact l.frzs b ob C (by rw[jF B];exact q)
  exact⟨e,le,A.thaw w e (kL p hi) (ob p le qN)⟩
 cases r with
 | nx m s =>
  intro c g σ p l A st;obtain⟨e,le,j⟩:=y p l A;have h':zu K Θ x H (if s[i]? = some f then .nx m (s.set i t) else .no) D:=h;split at h'
  ·exact⟨a,o,u,w,e,n,h' c _ σ p le j (jL.thaw w e st)⟩
  ·exact h'.elim
 | bk m s =>
  intro c g σ p l A st;obtain⟨e,le,j⟩:=y p l A;have h':zu K Θ x H (if s[i]? = some f then .bk m (s.set i t) else .no) D:=h;split at h'
  ·exact⟨a,o,u,w,e,n,h' c _ σ p le j (jL.thaw w e st)⟩
  ·exact h'.elim
 | ct m s =>
  intro c g σ p l A st;obtain⟨e,le,j⟩:=y p l A;have h':zu K Θ x H (if s[i]? = some f then .ct m (s.set i t) else .no) D:=h;split at h'
  ·exact⟨a,o,u,w,e,n,h' c _ σ p le j (jL.thaw w e st)⟩
  ·exact h'.elim
 | rt d s =>
  intro c g v p l A E;obtain⟨e,le,j⟩:=y p l A;have h':zu K Θ x H (if s[i]? = some f then .rt d (s.set i t) else .no) D:=h;split at h'
  ·exact⟨a,o,u,w,e,n,h' c _ v p le j (zL.thaw w e E)⟩
  ·exact h'.elim
 | exc e m s=>exact (show False from h).elim
 | no=>exact h
theorem Cb {K:PySem.W.Frag}{H₀:Hp}{c:List zE}{H:Hp}{i:Nat}{a:zE}{o:Obj}{g:List (Key×V)}{D:ZN} (hi:c[i]? = some a) (ha:H a=some (.dK g)) (n:∀ o u,H₀ a≠some (.frz o u)) (j:Paired (λ(p:M.D×M.D) (q:Key×V)=>yL p.1 q.1/\zL K c H p.2 q.2) kvs g)
  (h:zu K Θ c H (M.thaw i kvs r) D):zu K Θ c (upd H a (.frz o (.dK g))) r (uC H₀ D):=Iy (f:=.fdc kvs) (t:=.dct kvs) rfl hi ha n (λp le e=>⟨g,e,Paired.mapP j λx y z=>⟨z.1,z.2.mono p le⟩⟩) h
end
end L2
namespace L2
open PySem PySem.Spec PyProof.Rows
noncomputable def Itv (K:PySem.W.Frag) (a:zE) (xs:List V):It :=
 ⟨λi H=>SqT K H a xs/\∃ x,xs.reverse[i]? = some x,λi H x c=>c=H/\xs.reverse[i]? = some x,λi H=>SqT K H a xs/\xs.length <= i⟩
theorem De {P:jD}{K:PySem.W.Frag} (a it:zE) (xs:List V) (hz:xs.length < 2 ^ 62):Q1 P w K tg (Itv K a xs) [it] it (λi h=>i <= xs.length/\Ju h it a ((xs.length:Int) - 1 - (i:Int))) where
 mem:=by simp
 obj:=λi h st b g=>by
  have e:b=it:=by simpa using g
  subst e;exact⟨_,st.2,λv z=>nomatch z⟩
 keep:=λi h h' st k=>⟨st.1,k it (by simp) _ st.2⟩
 item:=by
  intro X m hw n G i f s σ H E I l st q;subst m hw n;obtain⟨hq,x,j⟩:=q;obtain⟨its,J,p,_⟩:=I.tuple hq;have hl:=J.length;have hi:i < xs.length:=by have:=(List.getElem?_eq_some_iff.mp j).1;rwa [k6] at this
  have r:xs[xs.length - 1 - i]? = some x:=by rw[Ld hi] at j;exact j
  obtain⟨u,L,M⟩:=J.get r;obtain⟨t,y,N,A,B,C⟩:=l it (by simp);have e:(xs.length:Int) - 1 - (i:Int)=((xs.length - 1 - i:Nat):Int):=by lia
  have hit:=st.2;rw[e] at hit;refine gu hit p (by lia) (x:=u) (by simpa using L) λh' c sb=>?_;have Q:((xs.length - 1 - i:Nat):Int) - 1=(xs.length:Int) - 1 - ((i+1:Nat):Int):=by lia
  rw[Q] at c;have U:Inv X f σ H { s with heap:=h',toks:=s.toks+1 }:=I.turned (t':=s.toks+1) (λb o g e=>sb.extBut b o g e) t y A B C;exact⟨u,rfl,xV (s:={ s with heap:=h',toks:=s.toks+1 }) c rfl rfl (by decide) ⟨x,H,U,M,⟨rfl,j⟩,⟨hi,c⟩,λb g=>(l b g).1⟩⟩
 done:=by
  intro X m hw n G i f s σ H E I l st q;subst m hw n;obtain⟨hq,j⟩:=q;obtain⟨t,y,N,A,B,C⟩:=l it (by simp);have e:(xs.length:Int) - 1 - (i:Int) = -1:=by have:=st.1;lia
  have hit:=st.2;rw[e] at hit;exact GC (I.ok.hd G) hit λh' Y=>⟨rfl,I.turned (t':=s.toks) (λb o g e=>Y b o g e) t y A B C⟩
 self:=λ_ _ _ _ _ st h=>BC st.2 h
def gn (K:PySem.W.Frag) (e:TA):TI:=λσ H R=>e σ H λvs c=>∃ a xs,vs=[.ref a]/\SqT K c a xs/\R (Itv K a xs) c
theorem fu {X:Cx}{a:ze}{p pos:Pos} (r:Gl X "reversed") (hm:X.mg "reversed" = none) (ha:PA X [a] t) (l:qc a=true):PI X tg (.Call (.Name "reversed" p) [a] [] pos) (gn X.K t):=by
 intro f s σ H R I h;refine Call_ (xl I r hm aS (Va (zy (ha pos f s σ H _ I h) λus c vs u i v w=>?_) (yH l) (JA (by simp))));obtain⟨j,xs,rfl,hq,q⟩:=w;obtain⟨m,rfl,x⟩:∃ m,us=[m]/\m=.ref j:=by
  cases v with
  | cons y z=>cases z;exact⟨_,rfl,y⟩
 subst x;obtain⟨its,A,p,B⟩:=i.tuple hq;have n:=A.length;rw[Zx] at B;refine DM p (by simp;lia) ?_;have g:Ju (c.heap.push { cls:=.type "reversed",data:=.fields #[.ref j,Qx ((its.toArray.size:Int) - 1)] }) c.heap.objs.size j ((its.toArray.size:Int) - 1):=qd _ rfl;refine BC g ⟨c.heap.objs.size,[c.heap.objs.size],_,_,u,rfl,i.kept (t':=c.toks+1+1) λb o e=>jd _ e,De j _ xs (by rw[n];lia),⟨ZR _,?_⟩,λb C=>?_,q⟩
 ·have e:((its.toArray.size:Int) - 1)=(xs.length:Int) - 1 - ((0:Nat):Int):=by rw[jw,n];lia
  rw[<- e];exact g
 ·have e:b=c.heap.objs.size:=by simpa using C
  subst e;exact i.fpOk (zg _) (i.hok.fresh (zg _))
section
variable {Θ:Tab}
theorem fS {K:PySem.W.Frag}{a:zE}{ds:List M.D} (hq:SqT K H a xs) (r:zT K q H ds xs):ItR K Θ q H (Itv K a xs) ds.reverse []:=by
 have m:=r.rev;refine⟨λj c n o p l f g e=>?_,λj c n o v t p l f g e y=>?_,λc n o p l f g=>?_⟩
 ·obtain⟨v,h,_⟩:=m.get (i:=j) (d:=ds.reverse[j]) (yS e);exact⟨l.sqT hq,v,h⟩
 ·obtain⟨u,h,s⟩:=(m.mono p l).get (i:=j) (d:=ds.reverse[j]) (yS e);obtain⟨rfl,y2⟩:=y;rw[h] at y2;cases y2;exact⟨ds.reverse[j],yS e,s,Le.refl _,f⟩
 ·exact⟨l.sqT hq,by rw[k6,r.length];exact zg _⟩
theorem w_mi_reversed {X:Cx}{p pos:Pos} (o:Gl X "reversed") (hm:X.mg "reversed" = none) (n:WE X Θ e m) (hs:qc e=true:=by rfl):WI X Θ tg (.Call (.Name "reversed" p) [e] [] pos) (M.Kh m):=by
 delta WE WI at n ⊢
 exact (fu o hm (Xm n Vu hs) hs).imp λσ H R ⟨f,c,S,st,q,h⟩=>⟨f,c,S,st,q,by
   have h':zF X.K Θ _ f H (((m c S).bind λx s=>match x with
    | .tup ds=>M.R.ok (ds.reverse,([]:M.Gd)) s
    | _=>.no).bind λp s=>if M.zj p.2 s then .ok p s else .no) R:=h
   show zF X.K Θ _ f H ((m c S).bind λx s=>(M.R.ok [] s).bind λxs s=>.ok (x::xs) s) _;cases hm:m c S with
   | no=>rw[hm] at h';exact h'.elim
   | exc a s=>rw[hm] at h';exact h'
   | ok d w =>
    rw[hm] at h';intro g t vs p l i j;obtain⟨v,ys,rfl,j,u⟩:=j;cases u;cases d with
    | tup ds =>
     obtain⟨a,xs,rfl,hq,r⟩:=j;exact⟨a,xs,rfl,hq,h' g t _ p l i (fS hq r)⟩
    | _=>exact h'.elim⟩
end
theorem bt:∀ {us:List zD}{ys:List Str},Yh us ys->zd (ys.map V.str) us
 | _,_,.nil=>.nil
 | _,_,.cons x t r=>.cons ⟨t,rfl⟩ (bt r)
def An (K:PySem.W.Frag):List V->Hp->VK->Prop:=λxs H Q=>∃ p ys,xs=[.ref p]/\SqL K H p (ys.map V.str)/\ys.length <= 16777216/\∀ q c,H q=none->c.Perm ys->Y0 c=true->Q (.ref q) (upd H q (.lst (c.map V.str)))
theorem L8 {X:Cx}{k:Nat} (x:z6 k X.A):jx X (.builtin "sorted") (An X.K):=by
 intro f s σ H xs us Q I r h;obtain⟨p,ys,rfl,hq,l,q⟩:=h;obtain⟨u,rfl,m⟩:=yd r;cases m;obtain⟨its,g,pl,y⟩:=I.list hq;have i:its.length=ys.length:=by have:=g.length;simp at this;lia
 refine TS.iz pl.isList (Vz g) (by lia) λout c n j t=>?_;obtain⟨e,v⟩:=sortedAll_at s.heap its out;have w:=j.length_eq;refine⟨.ref (s.heap.objs.size+1),_,I.laid (t':=s.toks) (o:=.lst (c.map V.str)) (λb ob q=>sortedAll_old q) (Ky _) ⟨by rw[jH,Zx];lia,out.toList,e,bt n,?_⟩,rfl,q _ _ (I.hok.fresh (Ky _)) j t⟩;simpa [Zu] using v
theorem F5 (a:M.T):¬ a < a:=λh=>List.lt_irrefl a h
theorem dQ {a b c:M.T} (e:¬ b < a) (f:¬ c < b):¬ c < a:=by
 rw[lR] at e f ⊢;exact List.le_trans e f
theorem fU {a b:M.T} (c:¬ b < a) (e:¬ a < b):a=b:=by
 rw[lR] at c e;exact List.le_antisymm c e
theorem WH (x:M.T):∀ ts:List M.T,(M.qg.insT' x ts).Perm (x::ts)
 | []=>.refl _
 | y::r=>by
  unfold M.qg.insT';split
  ·exact ((WH x r).cons y).trans (.swap x y r)
  ·exact .refl _
theorem UD:∀ ts:List M.T,(M.qg ts).Perm ts
 | []=>.refl _
 | x::r=>(WH x _).trans ((UD r).cons x)
theorem cN (x:M.T):∀ ts:List M.T,ts.Pairwise (λa b=>¬ b < a)->(M.qg.insT' x ts).Pairwise (λa b=>¬ b < a)
 | [],_=>by unfold M.qg.insT';simp
 | y::r,h=>by
  rw[uB] at h;unfold M.qg.insT';split
  ·rename_i e;rw[uB];refine⟨λb c=>?_,cN x r h.2⟩;rcases List.mem_cons.mp ((WH x r).mem_iff.mp c) with rfl | c
   ·exact λz=>F5 _ (List.lt_trans z e)
   ·exact h.1 b c
  ·rename_i e;rw[uB];refine⟨λb c=>?_,List.pairwise_cons.mpr h⟩;rcases List.mem_cons.mp c with rfl | c
   ·exact e
   ·exact dQ e (h.1 b c)
theorem BS:∀ ts:List M.T,(M.qg ts).Pairwise (λa b=>¬ b < a)
 | []=>.nil
 | x::r=>cN x _ (BS r)
theorem Ad:∀ (p:Str) (l:List Str),risingS p l=true->(p::l).Pairwise (λa b=>¬ b.cps.toList < a.cps.toList)
 | p,[],_=>by simp
 | p,x::r,h=>by
  unfold risingS at h;rw[j7,Xy,ltCps_eq,decide_eq_false_iff_not] at h;have e:=Ad x r h.2;rw[uB];refine⟨λb c=>?_,e⟩;rcases List.mem_cons.mp c with rfl | c
  ·exact h.1
  ·exact dQ h.1 ((List.pairwise_cons.mp e).1 b c)
theorem ek (h:Y0 l=true):l.Pairwise (λa b=>¬ b.cps.toList < a.cps.toList):=by
 cases l with
 | nil=>exact .nil
 | cons x r=>exact Ad x r h
theorem eJ {ts:List M.T}{ys:List Str} (c:ys.Perm (ts.map ofT)) (hs:Y0 ys=true):ys=(M.qg ts).map ofT:=by
 refine List.Perm.eq_of_pairwise (le:=λa b=>¬ b.cps.toList < a.cps.toList) (λa b _ i f g=>?_) (ek hs) ?_ (c.trans ((UD ts).map ofT).symm)
 ·have e:=fU f g;cases a with
  | mk j=>cases b with
   | mk l=>exact congrArg Str.mk (Array.toList_inj.mp e)
 ·rw[List.pairwise_map];refine (BS ts).imp λ{a b} h=>?_;rw[Zi,Zi];exact h
section
variable {K:PySem.W.Frag}{Θ:Tab}
theorem gY:AdN K Θ M.Yz (An K):=by
 intro s H S xs u Q g c h;unfold M.Yz at h;split at h
 ·rename_i p;obtain⟨Y,r,rfl,ry,rfl⟩:=c;split at h
  ·rename_i ds e;obtain⟨a,v,rfl,ha,i,j⟩:=Q8 g ry (az e);unfold M.Yw at h;split at h
   ·rename_i ts l;obtain⟨rfl,hok⟩:=Xz l j;split at h
    ·rename_i f;refine⟨a,ts.map ofT,rfl,SqL.of i,by rw[jH];exact f,λq m hq n hs=>?_⟩;rw[eJ n hs];exact h.alloc g (u5 (M.qg ts) λt o=>hok t ((UD ts).mem_iff.mp o)) hq
    ·exact h.elim
   ·exact h.elim
  ·exact h.elim
 ·exact h.elim
end
theorem hQ {X:Cx}:MtR X "str.find" (λx vs H Q=>∃ z y,x=.str z/\vs=[.str y]/\Q (.int (Wg z y)) H):=by
 intro c s σ H x vs v us Q I rx e h;obtain⟨z,y,rfl,rfl,q⟩:=h;obtain⟨t,rfl⟩:=rx;obtain⟨u,rfl,f,rfl⟩:=yd e;exact SC.find ⟨.int _,H,I.tok _,⟨_,rfl⟩,q⟩
theorem HA (x:M.T) (c:Nat):Wg (ofT x) (ofT [c])=M.xb c x 0:=by
 unfold Wg M.xb;rw[JU];rcases fQ (ofT x) (ofT [c]) 1 (by decide) with ⟨e,h⟩ | ⟨i,r,e,h,f⟩
 ·have g:x.findIdx? (· == c)=none:=by
   rw[Df];intro d hd;obtain⟨i,hi,q⟩:=List.mem_iff_getElem.mp hd;cases l:d == c with
   | false=>rfl
   | true =>
    exact absurd ((u0 c x i).mpr (by rw[yS hi,q,eq_of_beq l])) (h i)
  rw[e,g]
 ·have hi:=(u0 c x i).mp h;have hs:x.findIdx? (· == c)=some i:=by
   rw[List.findIdx?_eq_some_iff_getElem];obtain⟨m,n⟩:=List.getElem?_eq_some_iff.mp hi;refine⟨m,by simp[n],λj o q=>f j o ((u0 c x j).mpr ?_)⟩;rw[yS (by lia)];exact congrArg some (eq_of_beq q)
  rw[e,hs];simp
section
variable {K:PySem.W.Frag}{Θ:Tab}
theorem i9:AdM K Θ M.um (λx vs H Q=>∃ z y,x=.str z/\vs=[.str y]/\Q (.int (Wg z y)) H):=by
 intro j H S x xs X l Q f rx e h;unfold M.um at h;split at h
 ·rename_i z c;obtain⟨rfl,g⟩:=rx;obtain⟨Y,r,rfl,⟨rfl,i⟩,rfl⟩:=e;split at h
  ·refine⟨ofT z,ofT [c],rfl,rfl,?_⟩;rw[HA];exact zF.here h f rfl
  ·exact h.elim
 ·exact h.elim
end
theorem G7 (x:M.T) (u:Tok):cY (ofT x) none none (-1,u)=ofT x.reverse:=by
 have h:=step_rev_list (ofT x) u;have f:(ofT x).length=x.length:=qS x;have e:(cY (ofT x) none none (-1,u)).cps.toList=x.reverse:=by
  rw[h,f];refine Hc (by simp) λi j g=>?_;rw[List.getElem_map,CV,List.getElem_reverse];have hi:i < x.length:=by simpa using g
  simp[ofT,Array.getD,show x.length - 1 - i < x.length by lia]
 cases hq:cY (ofT x) none none (-1,u) with
 | mk c =>
  rw[hq] at e;exact congrArg Str.mk (Array.toList_inj.mp e)
theorem FU {X:Cx}{st:ze}{m pos:Pos} (r:PE X e te) (j:PE X st (tC (.int (-1)))):PE X (.Subscript e (.Slice none none (some st) m) pos) (λσ H Q=>te σ H λx i=>∃ z:M.T,x=.str (ofT z)/\(ofT z).length <= zf/\Q (.str (ofT z.reverse)) i):=by
 intro f s σ H Q I h;refine UB (zy (r f s σ H _ I h) λv B x i C E G=>?_);obtain⟨z,rfl,J,q⟩:=G;obtain⟨tx,rfl⟩:=E;refine BP ?_;rw[wY];refine wpAny_pure (wpAny_pure ?_);rw[Cu];refine zy (j f B σ i (λv L=>v=.int (-1)/\L=i) C ⟨rfl,rfl⟩) λu g y o N U ⟨Y,eh⟩=>?_;subst Y;subst eh;obtain⟨t,rfl⟩:=U;have p:Inv X f σ o { g with heap:=g.heap.push { cls:=.type "slice",data:=.fields #[.none,.none,.int (-1) t] } }:=N.kept (t':=g.toks) λb ob q=>jd _ q;show wpAny (zN X.prog X.w) X.A (Ui e (.Slice none none (some st) m) (.str (ofT z) tx) (.ref g.heap.objs.size)) (EP X f σ Q) X.xe { g with heap:=g.heap.push { cls:=.type "slice",data:=.fields #[.none,.none,.int (-1) t] } };refine yG (n:=1) p.tk ?_;refine vS (ops:=[.ref g.heap.objs.size,.str (ofT z) tx]) (xo _ _ _) F.slot_str_getitem.lookup ?_ (by with_unfolding_all rfl);refine Vd (l:=none) (u:=none) (st:=some (-1,t)) ⟨_,qd _ rfl,rfl,rfl⟩ rfl (VP ⟨jr (Txt.sliceBy_le (ofT z) none none (-1,t) (show (-1:Int)≠0 by decide)) J,λt' c hc=>⟨.str (ofT z.reverse),o,p.tok c hc,⟨t',?_⟩,q⟩⟩);exact congrArg (λy=>vF y t') (G7 z t)
section
variable {X:Cx}{Θ:Tab}
theorem PE.or (h:PE X e t) (h':PE X e t'):PE X e (λσ H Q=>t σ H Q\/t' σ H Q):=λc s σ H Q I q=>by
 rcases q with q | q
 ·exact h c s σ H Q I q
 ·exact h' c s σ H Q I q
theorem w_me_rev {j:Nat}{r B C pos:Pos} (u:WE X Θ e m):WE X Θ (.Subscript e (.Slice none none (some (.UnaryOp .USub (.Constant (.int 1) j r) B)) C) pos) (M.eUn M.uw m):=by
 delta WE at u ⊢
 exact (PE.or (HN u ((Wv cJ wC).imp λσ H Q h=>⟨1,rfl,h⟩)) (FU u ((Wv cJ wC).imp λσ H Q h=>⟨1,rfl,h⟩))).up λσ H Q o g S st y h=>by
   have h':zF X.K Θ (zL X.K) o H ((m g S).bind M.uw) Q:=h;cases hm:m g S with
   | no=>rw[hm] at h';exact h'.elim
   | exc a s=>rw[hm] at h';exact .inl ⟨o,g,S,st,y,by rw[hm];exact h'⟩
   | ok d t =>
    rw[hm] at h';have go:∀ {A:VK},(∀ f n v,o <+: f->Le H n->zX X.K Θ f t n->zL X.K f n d v->A v n)->RdE X.K Θ m σ H A:=λq=>⟨o,g,S,st,y,by rw[hm];exact q⟩
    cases d with
    | ref p =>
     refine .inl (go λf n v r w i rx=>?_);have l:zF X.K Θ (zL X.K) o H (match M.zv t p with | some xs=>M.alloc (.lst xs.reverse) t | none=>.no) Q:=h';cases e:M.zv t p with
     | none=>rw[e] at l;exact l.elim
     | some ds =>
      rw[e] at l;obtain⟨a,E,rfl,ha,G,I⟩:=Q8 i rx (az e);exact⟨a,E,rfl,SqL.of G,λp J=>zF.alloc (zF.weak l r w) i I.rev J⟩
    | str z =>
     refine .inr (go λf n v r w i rx=>?_);obtain⟨rfl,ok⟩:=rx;have l:zF X.K Θ (zL X.K) o H (if z.length <= M.SZ then M.R.ok (.str z.reverse) t else .no) Q:=h';by_cases x:z.length <= M.SZ
     ·rw[if_pos x] at l;exact⟨z,rfl,by rw[qS,<- ZE];exact x,l f n _ r w i ⟨rfl,kN ok λc L=>List.mem_reverse.mp L⟩⟩
     ·rw[if_neg x] at l;exact l.elim
    | _=>exact h'.elim
end
end L2
namespace L2
open PySem PySem.Spec PyProof.Rows
def Itk (a:zE) (o:Obj) (kvs:List (Key×V)):It :=
 ⟨λi H=>H a=some (.frz o (.dK kvs))/\∃ p,kvs[i]? = some p,λi H v c=>c=H/\∃ p,kvs[i]? = some p/\v=kV p.1,λi H=>H a=some (.frz o (.dK kvs))/\kvs.length <= i⟩
theorem fZ {P:jD}{K:PySem.W.Frag} (a it:zE) (o:Obj) (kvs:List (Key×V)) (vs:List (Key×zD)) (C:Nat) (rel:KV kvs vs) (hd:∀ h:zp,h.get? a=some o->h.DictAt (qG P w) a vs C) :
  Q1 P w K tg (Itk a o kvs) [it] it (λi h=>h.IsKeyIter it a i vs.length C) where
 mem:=by simp
 obj:=λi h st b g=>by
  have z:b=it:=by simpa using g
  subst z;obtain⟨o,e,c,d⟩:=st;exact⟨o,e,λv z=>by rw[d] at z;cases z⟩
 keep:=λi h h' st k=>st.at λo e=>k it (by simp) o e
 item:=by
  intro X m hw n G i f s σ H E I l st r;subst m hw n;obtain⟨ha,p,J⟩:=r;obtain⟨go,_⟩:=(show jn X.prog X.w H s.heap a (.frz o (.dK kvs)) from I.hok a _ ha)
  obtain⟨q,hq,L,Y⟩:=Lk rel J;obtain⟨k,v⟩:=q;obtain⟨t,u,M,x,y,A⟩:=l it (by simp);refine wpAny_pyNext_dict_item st (hd _ go) hq λB h' N j sb=>?_;have Q:Inv X f σ H { s with heap:=h' }:=I.turned (t':=s.toks) (λb o g e=>sb.extBut b o g e) t u x y A;obtain⟨o',e,c,d⟩:=id j;exact⟨B,rfl,xV (s:={ s with heap:=h' }) e c d (by decide) ⟨kV p.1,H,Q,by rw[L];exact Fn N,⟨rfl,p,J,rfl⟩,j,λb g=>(l b g).1⟩⟩
 done:=by
  intro X m hw n G i f s σ H E I l st r;subst m hw n;obtain⟨ha,hl⟩:=r;obtain⟨go,_⟩:=(show jn X.prog X.w H s.heap a (.frz o (.dK kvs)) from I.hok a _ ha)
  obtain⟨t,u,M,x,y,A⟩:=l it (by simp);have el:kvs.length=vs.length:=Paired.length rel;exact wpAny_pyNext_dict_end (I.ok.hd G) st (hd _ go) (xA (by lia)) λh' U=>⟨rfl,I.turned (t':=s.toks) (λb o g e=>U b o g e) t u x y A⟩
 self:=λ_ _ _ _ _ st h=>wpAny_pyIter_keyiter st h
def L4 (te:TE):TI:=λσ H R=>te σ H λv c=>∃ a o kvs,v=.ref a/\c a=some (.frz o (.dK kvs))/\R (Itk a o kvs) c
theorem mT {X:Cx}{a:zE}{o:Obj}{kvs:List (Key×V)} (I:Inv X f σ H s) (e:H a=some (.frz o (.dK kvs))) :
  (a == Zs)=false/\∃ vs c,KV kvs vs/\(∀ h:zp,h.get? a=some o->h.DictAt (qG X.prog X.w) a vs c)/\s.heap.get? a=some o:=by
 obtain⟨go,z,hd,vs,rel,i,es,c,g,r⟩:=(show jn X.prog X.w H s.heap a (.frz o (.dK kvs)) from I.hok a _ e)
 rw[go] at g;cases g;exact⟨hd,vs,c,rel,λh q=>⟨o,es,q,r⟩,go⟩
theorem W2 {X:Cx}{a:zE}{o:Obj}{kvs:List (Key×V)}{R:It->Hp->Prop} (I:Inv X c σ H s) (e:H a=some (.frz o (.dK kvs))) (q:R (Itk a o kvs) H) :
  wpAny (zN X.prog X.w) X.A (X3 (.ref a)) (PIE X c σ tg R) E s:=by
 obtain⟨hd,vs,g,rel,f,go⟩:=mT I e;refine wpAny_pyIter_dict hd (f _ go) ?_;refine⟨s.heap.objs.size,[s.heap.objs.size],_,_,H,rfl,I.kept (t':=s.toks) (λb ob e=>jd _ e),fZ a _ o kvs vs g rel f,⟨_,qd _ rfl,rfl,rfl⟩,λb h=>?_,q⟩;have i:b=s.heap.objs.size:=by simpa using h
 subst i;exact I.fpOk (zg _) (I.hok.fresh (zg _))
theorem lW {X:Cx} (f:PE X e te):PI X tg e (L4 te):=by
 intro c s σ H R I h;refine zy (f c s σ H _ I h) λv l x m g i j=>?_;obtain⟨a,o,kvs,rfl,ha,q⟩:=j;obtain rfl:v=qF a:=i;exact W2 g ha q
def iKy (H₀:Hp) (te:TE):TI:=λσ H R=>te σ H λv c=>∃ a kvs,v=.ref a/\c a=some (.dK kvs)/\∀ o,(∀ o u,H₀ a≠some (.frz o u))->R (Itk a o kvs) (upd c a (.frz o (.dK kvs)))
theorem dh {X:Cx} (i:PE X e te):PI X tg e (iKy X.H₀ te):=by
 intro c s σ H R I h;refine zy (i c s σ H _ I h) λv p x r f j l=>?_;obtain⟨a,kvs,rfl,ha,q⟩:=l;obtain rfl:v=qF a:=j;obtain⟨o,m,t,g,u,go,n⟩:=f.freeze ha;exact W2 n qN (q o (f.dict_base rfl ha))
section
variable {K:PySem.W.Frag}{Θ:Tab}{ρ:List zE}{H:Hp}
theorem AS {a:zE}{o:Obj}{c:List (Key×V)} (ha:H a=some (.frz o (.dK c))) (r:Paired (λ(p:M.D×M.D) (q:Key×V)=>yL p.1 q.1/\zL K ρ H p.2 q.2) kvs c):ItR K Θ ρ H (Itk a o c) (kvs.map (·.1)) []:=by
 have i:kvs.length=c.length:=Paired.length r;refine⟨λj e m n p l f g h=>?_,λj e m n v w p l f g h y=>?_,λe m n p l f g=>?_⟩
 ·rw[jH,i] at h;exact⟨l.frzs _ _ _ ha,c[j],by simp[h]⟩
 ·obtain⟨rfl,q,s,rfl⟩:=y;obtain⟨x,t,u,z⟩:=DW r s;exact⟨x.1,by rw[qX,t];rfl,yL.rel u,Le.refl _,f⟩
 ·exact⟨l.frzs _ _ _ ha,by rw[jH,i];exact zg _⟩
end
section
variable {X:Cx}{Θ:Tab}
theorem w_ms_forKeys {pos:Pos} (Q:vp (zN X.prog X.w) X.A X.env X.xe) (U:X.calm=true) (E:WE X Θ e m) (G:WG X Θ js tg g) (I:WSs X Θ j J)
  (hs:∀ x,Jh e X.env x=pure x:=by intro _;rfl):WS X Θ (.For tg e j [] pos) (M.vD m g J):=by
 delta WE WG WS WSs at E G I ⊢
 exact (aR (BO Q U (dh E) G I hs)).up λD σ H Y l S st rp h=>by
   refine⟨Y,l,S,st,rp,zu.stm h λp u d v C p1 l1 r rv L=>?_⟩;cases d with
   | ref i =>
    obtain⟨a,rfl,hi⟩:=rv;have f:zu X.K Θ p u (match C[i]? with
     | some (.dct kvs)=>M.thaw i kvs (M.qK [] (M.qO g J) (kvs.map (·.1)) l (C.set i (.fdc kvs)))
     | _=>.no) D:=L
    cases q:C[i]? with
    | none=>rw[q] at f;exact f.elim
    | some ob =>
     rw[q] at f;cases ob with
     | dct kvs =>
      obtain⟨b,s,B,ha,N⟩:=r.obj i _ q;rw[hi] at s;cases s;refine⟨a,B,rfl,ha,λo n=>?_⟩;have le:Le u (upd u a (.frz o (.dK B))):=Le.put (JV ha) _;have t:=Paired.mapP N λx y z=>(⟨z.1,z.2.mono (jc _) le⟩:yL x.1 y.1/\zL X.K p (upd u a (.frz o (.dK B))) x.2 y.2)
      exact bA (AS qN t) (st.mono p1 (l1.trans le)) (r.put (o:=.fdc kvs) hi (JV ha) ⟨o,B,qN,t⟩) rfl (Cb hi ha n N f)
     | lst xs=>exact f.elim
     | fdc _=>exact f.elim
     | dtt _=>exact f.elim
     | ftt _=>exact f.elim
     | ins c fs=>exact f.elim
   | _=>exact L.elim
theorem w_mi_keys (w:WE X Θ e m):WI X Θ tg e (M.QH m):=by
 delta WE WI at w ⊢
 exact (lW w).imp λσ H R ⟨r,g,S,st,y,h⟩=>⟨r,g,S,st,y,by
  have h':zF X.K Θ _ r H (((m g S).bind λx s=>match x with
   | .ref i=>(match s[i]? with | some (.fdc kvs)=>M.R.ok (kvs.map λp:M.D×M.D=>p.1,([]:M.Gd)) s | _=>.no)
   | _=>.no).bind λp s=>if M.zj p.2 s then .ok p s else .no) R:=h
  clear h;cases hm:m g S with
  | no=>rw[hm] at h';exact h'.elim
  | exc a s=>rw[hm] at h';exact h'
  | ok d t =>
   rw[hm] at h';intro u z v p l j A;cases d with
   | ref i =>
    obtain⟨a,rfl,hi⟩:=A;have f:zF X.K Θ _ r H ((match t[i]? with | some (.fdc kvs)=>M.R.ok (kvs.map λp:M.D×M.D=>p.1,([]:M.Gd)) t | _=>.no).bind λp s=>if M.zj p.2 s then .ok p s else .no) R:=h';cases q:t[i]? with
    | none=>rw[q] at f;exact f.elim
    | some ob =>
     rw[q] at f;cases ob with
     | fdc kvs =>
      obtain⟨b,n,o,B,ha,C⟩:=j.obj i _ q;rw[hi] at n;cases n;exact⟨a,o,B,rfl,ha,f u z _ p l j (AS ha C)⟩
     | lst xs=>exact f.elim
     | dct _=>exact f.elim
     | dtt _=>exact f.elim
     | ftt _=>exact f.elim
     | ins c fs=>exact f.elim
   | _=>exact h'.elim⟩
theorem w_ms_frz {stm:jT} (r:WS X Θ stm t):WS X Θ stm (M.Q3 i t):=by
 delta WS at r ⊢
 intro f s σ H D I ⟨j,c,S,st,u,h⟩;have h':zu X.K Θ j H (match c[i]? with
  | some (some (.ref p))=>(match S[p]? with
   | some (.dct kvs)=>M.thaw p kvs (t c (S.set p (.fdc kvs)))
   | _=>.no)
  | _=>.no) D:=h
 clear h;split at h'
 ·rename_i p e;split at h'
  ·rename_i kvs q;obtain⟨v,E,a,rfl,hi⟩:=st.get i _ e;obtain⟨b,g,l,ha,w⟩:=u.obj p _ q;rw[hi] at g;cases g;obtain⟨o,B,G,A,J,go,C⟩:=I.freeze ha;have n:=I.dict_base rfl ha;have le:Le H (upd H a (.frz o (.dK l))):=Le.put (JV ha) _;have m:=Paired.mapP w λx y z=>(⟨z.1,z.2.mono (jc _) le⟩:yL x.1 y.1/\zL X.K j (upd H a (.frz o (.dK l))) x.2 y.2)
   exact aR r f s σ _ D C ⟨j,c,S.set p (.fdc kvs),st.mono (jc _) le,u.put (o:=.fdc kvs) hi (JV ha) ⟨o,l,qN,m⟩,Cb hi ha n w h'⟩
  ·exact h'.elim
 ·exact h'.elim
end
end L2
namespace L2
open PySem PySem.Spec PyProof.Rows
section
variable {P:jD}{w:jC}{A:jj}{E:zD->zI->Prop}{s:zI}
theorem fh:YS (.type "list") "keys" = pure none:=by rw[kC,kS];kernel_rfl
theorem Hv {a:zE}{o:Obj}{xs:Array zD}{k:Nat}{Q:Option zD->zI->Prop} (l:s.heap.get? a=some o) (m:o.cls=.type "list") (f:o.data=.seq xs k) (hd:o.dict=none) (p:A.handled=none)
  (h:∀ h' tk,(∀ b ob,s.heap.get? b=some ob->h'.get? b=some ob)->Q none { s with heap:=h',toks:=tk }):wpAny (zN P w) A (getAttr? (.ref a) "keys") Q E s:=by
 obtain⟨c,dct,q,r⟩:=o;simp only at m f hd;subst m f hd;obtain⟨t,g,d,tk,os⟩:=s;have n:∀ i,(⟨t,g,d,i,os⟩:zI).TypeIs (.ref a) "list" := λ_=>⟨_,l,rfl⟩
 have u:=sub_AttributeError;have v:=PySem.F.slot_list_getattribute.lookup;have x:=PySem.F.slot_list_getattribute.bind (.ref a);have y:=am_list_getattr_none;unfold getAttr? getAttrBy? getAttrBy
 repeat (any_goals (first | assumption | exact n _ | ((with_reducible show wpAny _ _ (call (Value.builtin "list.__getattribute__") _ _) _ _ _);refine J9 PySem.F.slot_list_getattribute (n _) am_entry_list_getattribute (PySem.F.args_list_getattribute_2 _ _) (meets_getattribute_miss_list a xs k r "keys" _ fh (by decide +kernel) (by size_fits)) ⟨l,p,λh' i e j=>?_⟩) | wp_step))
 obtain⟨t',z,B⟩:=j.there;show wpAny _ _ (Gc _ _ _ _ _ _ _) _ _ _;unfold Gc
 repeat (any_goals (first | assumption | wp_step))
 exact h _ _ j.keeps
theorem cg:entryFor table "dict.update.loop" = some Builtin.«dict.update.loop» := F0 (by kernel_rfl)
theorem VB:plainId "dict.update.loop" = true:=by decide +kernel
def xJ (h:zp) (a:zE) (its:List zD):Prop:=∃ o n,h.get? a=some o/\o.cls=.type "tuple" /\ o.data=.seq its.toArray n
theorem xJ.at {h':zp}{a:zE} (x:xJ h a its) (e:∀ o,h.get? a=some o->h'.get? a=some o):xJ h' a its:=by
 obtain⟨o,n,c,r⟩:=x;exact⟨o,n,e _ c,r⟩
abbrev Pq:=zE×Key×zD×zD
noncomputable def stL (e:List Pq):List (Key×zD):=e.foldl (λc q=>stored c q.2.1 q.2.2.2) []
theorem FR (c:List Pq) (q:Pq):stL (c++[q])=stored (stL c) q.2.1 q.2.2.2:=by
 unfold stL;rw[bq];rfl
theorem gL (kvs:List (Key×zD)) (k:Key) (v:zD):(stored kvs k v).length <= kvs.length+1:=by
 unfold stored;split<;>simp
theorem aW (e:List Pq):(stL e).length <= e.length:=by
 have:∀ (e:List Pq) (c:List (Key×zD)),(e.foldl (λc q=>stored c q.2.1 q.2.2.2) c).length <= c.length+e.length:=by
  intro e
  induction e with
  | nil=>intro c;simp
  | cons q e f =>
   intro c;have g:=f (stored c q.2.1 q.2.2.2);have h:=gL c q.2.1 q.2.2.2;simp only[Z7,jE]
   lia
 have:=this e [];simpa [stL] using this
theorem Ga {R:V0->zI->Prop}{c:List Pq}{Pv:Nat->zD->Prop}{St:Nat->zI->Prop} (W:WalksS P w A.in1 I fp p G c.length Pv St) (D:zE) (Y:D∉fp) (hv:∀ i v,Pv i v->∃ q,c[i]? = some q/\v=.ref q.1)
  (hq:∀ q∈c,q.1∉D::p/\(qG P w).is q.2.1 q.2.2.1=true) (m:c.length <= zf) :
  ∀ (k i:Nat) (s:zI) (j:Tok) (C:Int),c.length - i=k->i <= c.length->St i s->s.heap.DictOf (qG P w) D (stL (c.take i))->(∀ q∈c,xJ s.heap q.1 [q.2.2.1,q.2.2.2])->(∀ f,Moved (D::p) G s f->f.heap.DictOf (qG P w) D (stL c)->R (.ok (.ret .none)) f) ->
   codeAny (zN P w) A (.builtin "dict.update.loop" ⟨[.ref D,.ref I,.int C j,.none],[]⟩) R s:=by
 have nw:D∉p:=λh=>Y (W.sub _ h);have sb:∀ b∈p,b∈D::p:=λb m=>je _ m;intro k
 induction k with
 | zero =>
  intro i s j C hk hi st B ht H;have e:i=c.length:=by lia
  subst e;rw[WL] at B;refine we cg ?_;rw[ug VB _];show wpAny (zN P w) A.in1 (J7 (.ref I) >>= _) _ _ s;refine zQ (W.done s _ _ st λf hm=>?_);show wpAny (zN P w) A.in1 (Ml D [] >>= _) _ _ f;refine zQ (wpAny_pure (wpAny_pure (H f (hm.mono sb) ?_)));obtain⟨o,es,J,g,r⟩:=B;exact⟨o,es,J,hm.heap D _ nw g,r⟩
 | succ k ih =>
  intro i s j C hk hi st B ht H;have lt:i < c.length:=by lia
  refine we cg ?_;rw[ug VB _];show wpAny (zN P w) A.in1 (J7 (.ref I) >>= _) _ _ s;refine zQ (W.item i s _ _ lt st λv f hP L hm=>?_);obtain⟨q,ex,rfl⟩:=hv i v hP;have l:q∈c:=yZ ex;obtain⟨hnq,M⟩:=hq q l;have N:f.heap.DictOf (qG P w) D (stL (c.take i)):=by
   obtain⟨o,es,J,g,r⟩:=B;exact⟨o,es,J,hm.heap D _ nw g,r⟩
  have t:∀ q∈c,xJ f.heap q.1 [q.2.2.1,q.2.2.2]:=λu h'=>(ht u h').at λo g=>hm.heap _ _ (λz=>(hq u h').1 (sb _ z)) g;obtain⟨o,n,g,hc,hd⟩:=t q l;refine zQ (JO ?_);refine zQ (Fh ?_);unfold Mm;refine zQ (Vq (T := "tuple") ⟨o,g,hc⟩ ?_);rw[if_pos (by decide)];refine zQ (wpAny_seqItems g hd ?_);refine wpAny_pure ?_;show wpAny (zN P w) A.in1 (holding [q.2.2.1,q.2.2.2] (dictSet D q.2.2.1 q.2.2.2)) _ _ f;refine JO ?_;have x:(stL (c.take i)).length <= zf:=by
   have:=aW (c.take i);rw[yz] at this
   lia
  refine wpAny_dictSet_pairs M N (λh' y hs=>?_) x;have e3:stored (stL (c.take i)) q.2.1 q.2.2.2=stL (c.take (i+1)):=by
   rw[uj,ex,Option.toList_some,FR]
  rw[e3] at y;refine wpAny_pure ⟨UR VB _,ih (i+1) _ _ _ (by lia) lt (W.frame _ f _ _ L (Ky _) λb m o e=>?_) y (λu h'=>(t u h').at λo g=>?_) λs2 Q U=>?_⟩
  ·rw[hs.2 b (λh:b=D=>Y (by rw[<- h];exact m))];exact e
  ·rw[hs.2 _ (λh:_=D=>(hq u h').1 (by rw[h];exact qJ))];exact g
  ·refine H s2 (Moved.trans W.gtrans ((hm.mono sb).then_heap (Ky _) λb o m e=>?_) Q) U;rw[hs.2 b (λh:b=D=>m (by rw[h];exact qJ))];exact e
end
end L2
namespace L2
open PySem PySem.Spec PyProof.Rows
section
variable {P:jD}{w:jC}{A:jj}{E:zD->zI->Prop}{s:zI}
theorem eK {l:zE}{its:List zD}{m:List Pq}{Q:zD->zI->Prop} (J:A.handled=none) {p:Obj}{L:Nat} (C:s.heap.get? l=some p) (cl:p.cls=.type "list") (dl:p.data=.seq its.toArray L) (Y:p.dict=none) (hn:its.length=m.length) (hi:∀ (i:Nat) (v:zD),its[i]? = some v->∃ q,m[i]? = some q/\v=.ref q.1)
  (hq:∀ q∈m,(qG P w).is q.2.1 q.2.2.1=true/\xJ s.heap q.1 [q.2.2.1,q.2.2.2]) (hb:m.length <= zf)
  (h:∀ (h':zp) (tk:Nat),h'.DictOf (qG P w) s.heap.objs.size (stL m)->(∀ b o,s.heap.get? b=some o->h'.get? b=some o)->Q (.ref s.heap.objs.size) { s with heap:=h',toks:=tk }) :
  wpAny (zN P w) A (call (.type "dict") [.ref l]) Q E s:=by
 refine callType_codes (Q₁:=λobj j=>obj=.ref s.heap.objs.size/\j={ s with heap:=s.heap.push { cls:=.type "dict",data:=.dict #[] } }) PySem.F.kt_called_dict (PySem.F.kt_typeCall_dict_1 _) PySem.F.entry_dict_init (PySem.kt_code_dict_new _ ⟨rfl,rfl⟩) ?_
 rintro obj j ⟨rfl,rfl⟩
 have c:(s.heap.push { cls:=.type "dict",data:=.dict #[] }).DictOf (qG P w) s.heap.objs.size []:=m8 s.heap;have gl1:(s.heap.push { cls:=.type "dict",data:=.dict #[] }).get? l=some p:=jd _ C;have lt:l < s.heap.objs.size:=jQ C;refine⟨c.typeIs,PySem.F.args_dict_init_2 _ _,?_⟩;unfold Builtin.«dict.__init__»;refine zQ ?_;unfold Mg;refine zQ (wpAny_notOrdered_dict c.typeIs ?_);show wpAny _ _ (pure (s.heap.objs.size,[qF l])) _ _ _;refine wpAny_pure ?_;show wpAny _ _ (fw "dict.__init__" s.heap.objs.size (.ref l) [] .none) _ _ _;unfold fw;refine zQ (Vq (T := "list") ⟨p,gl1,cl⟩ ?_);rw[if_pos (by decide)];refine zQ (Hv gl1 cl dl Y J λt G x=>?_);have H:∀ b o,s.heap.get? b=some o->t.get? b=some o:=λb o e=>x _ _ (jd _ e);have y:t.DictOf (qG P w) s.heap.objs.size []:=by
  obtain⟨o,es,M,u,r⟩:=c;exact⟨o,es,M,x _ _ u,r⟩
 have B:t.IsList l its.toArray:=⟨p,H _ _ C,cl,L,dl⟩
 rw[if_pos (by rfl)];refine zQ (xc ?_);refine zQ (Vw (s:={ s with heap:=t,toks:=G }) B ?_);refine wpAny_pure ⟨UR VB _,?_⟩;have g:s.heap.objs.size < t.objs.size:=by
  obtain⟨o,es,M,u,r⟩:=y;exact jQ u
 have nf:s.heap.objs.size∉[t.objs.size,l]:=by
  intro hm;rcases List.mem_cons.mp hm with e | hm
  ·exact absurd e (jX g)
  ·exact absurd (List.mem_singleton.mp hm) (Jy lt)
 have W:=(Uu (prog:=P) (w:=w) (A:=A.in1.in1) J t.objs.size l (jX (Kt lt g)) its.toArray).toS;have ez:its.toArray.size=m.length:=by rw[jw];exact hn
 rw[ez] at W;refine Ga W s.heap.objs.size nf (λi v hv=>hi i v (by simpa using hv)) (λq hm=>⟨λz=>?_,(hq q hm).1⟩) hb m.length 0 _ _ _ (by lia) (ZR _) ⟨⟨_,qd _ rfl,rfl,rfl⟩,B.push _⟩ (y.push _) (λq hm=>(hq q hm).2.at λo u=>jd _ (H _ _ u)) λs' hm I=>?_
 ·obtain⟨o,n,u,_⟩:=(hq q hm).2;have N:=jQ u;rcases List.mem_cons.mp z with e | z
  ·exact absurd e (jX N)
  ·exact absurd (List.mem_singleton.mp z) (jX (Kt N g))
 ·rw[gr hm];refine⟨rfl,h _ _ I λb o e=>hm.heap b o (λf=>?_) (jd _ (H _ _ e))⟩;have U:=jQ e;rcases List.mem_cons.mp f with e' | f
  ·exact jX U e'
  ·exact jX (Kt U g) (List.mem_singleton.mp f)
end
end L2
namespace L2
open PySem PySem.Spec PyProof.Rows
abbrev Wi (K:PySem.W.Frag) (H:Hp):Key×V->V->Prop:=λp y=>∃ t,y=.ref t/\SqT K H t [kV p.1,p.2]
def VN (ps:List (Key×V)):List (Key×V):=ps.foldl (λa p=>yN a p.1 p.2) []
def A9 (K:PySem.W.Frag):List V->Hp->VK->Prop:=λxs H Q=>∃ p ys ps,xs=[.ref p]/\SqL K H p ys/\ys.length <= 1000/\Paired (Wi K H) ps ys/\∀ l,H l=none->Q (.ref l) (upd H l (.dK (VN ps)))
abbrev QP:Key×V->Pq->Prop:=λp q=>p.1=q.2.1/\zm p.2 q.2.2.2
theorem AJ {X:Cx} (I:Inv X l σ H s):∀ {ps:List (Key×V)}{ys:List V}{its:List zD},Paired (Wi X.K H) ps ys->zd ys its ->
  ∃ f:List Pq,its.length=f.length/\(∀ (i:Nat) (v:zD),its[i]? = some v->∃ q,f[i]? = some q/\v=.ref q.1)/\(∀ q∈f,(qG X.prog X.w).is q.2.1 q.2.2.1=true/\xJ s.heap q.1 [q.2.2.1,q.2.2.2])/\Paired QP ps f
 | [],_,_,.nil,.nil=>⟨[],rfl,λi v e=>by simp at e,λq h=>absurd h He,Paired.nil⟩
 | p::ps,_,_,.cons m r,.cons hv u=>by
  obtain⟨f,x,y,z,A⟩:=AJ I r u;obtain⟨t,rfl,hq⟩:=m;obtain⟨us,B,⟨o,C,E,n,G⟩,_⟩:=I.tuple hq;obtain⟨g,j,rfl,J,L⟩:∃ g j,us=[g,j]/\zm (kV p.1) g/\zm p.2 j:=by
   cases B with
   | cons a b=>cases b with
    | cons c d=>cases d;exact⟨_,_,rfl,a,c⟩
  refine⟨(t,p.1,g,j)::f,by simp[x],λi v e=>?_,λq h=>?_,.cons ⟨rfl,L⟩ A⟩
  ·cases i with
   | zero=>cases e;exact⟨_,rfl,hv⟩
   | succ i=>exact y i v e
  ·rcases List.mem_cons.mp h with rfl | h
   ·exact⟨kF J,o,n,C,E,G⟩
   ·exact z q h
theorem fq (h:Paired QP ps f):∀ {kvs:List (Key×V)}{vs:List (Key×zD)},KV kvs vs->KV (ps.foldl (λa p=>yN a p.1 p.2) kvs) (f.foldl (λc q=>stored c q.2.1 q.2.2.2) vs):=by
 induction h with
 | nil=>exact λr=>r
 | @cons p q _ _ h t g =>
  intro kvs vs r;have e:KV (yN kvs p.1 p.2) (stored vs q.2.1 q.2.2.2):=by rw[<- h.1];exact r.put p.1 h.2
  exact g e
theorem mD {X:Cx}{k:Nat} (l:z6 k X.A):jx X (.type "dict") (A9 X.K):=by
 intro g s σ H xs us Q I r h;obtain⟨p,ys,ps,rfl,m,M,t,q⟩:=h;obtain⟨u,rfl,v⟩:=yd r;cases v;obtain⟨its,i,⟨o,n,w,x,y,B⟩,_⟩:=I.list m;obtain⟨C,E,G,J,L⟩:=AJ I t i;have N:=i.length;have c:(s.heap.objs.size == Zs)=false:=by have:=I.big;exact beq_eq_false_iff_ne.mpr (Jy this)
 have j:=fq L (.nil:KV ([]:List (Key×V)) []);have z:(VN ps).length <= zf:=by
  have a:=j.length;have b:=aW C;unfold stL at b;unfold VN;rw[Zx]
  lia
 refine yG (n:=1) I.tk (eK l.hd w x B y E G J (by rw[Zx];lia) λh' tk e kp f=>?_);exact⟨.ref s.heap.objs.size,_,I.laid (t':=tk) (o:=.dK (VN ps)) kp (zg _) (Yn z c j e) f,rfl,q _ (I.hok.fresh (zg _))⟩
section
variable {K:PySem.W.Frag}{Θ:Tab}
theorem W8:∀ {ds:List M.D}{ys:List V}{kvs:List (M.D×M.D)},M.xk ds=some kvs->zT K i H ds ys->∃ ps,Paired (Wi K H) ps ys/\DR K i H kvs ps
 | [],_,_,e,r=>by cases e;cases r;exact⟨[],.nil,.nil⟩
 | d::ds,_,kvs,e,r=>by
  unfold M.xk at e;split at e
  ·rename_i z;cases z
  ·rename_i k v u z;cases z;obtain⟨Y,w,rfl,ry,j⟩:=r;split at e
   ·rename_i l;cases q:M.xk ds with
    | none=>rw[q] at e;cases e
    | some h =>
     rw[q] at e;cases e;obtain⟨ps,m,n⟩:=W8 q j;obtain⟨t,x,rfl,hq,o⟩:=ry;obtain⟨y,A,rfl,c,p,B,rfl,f,rfl⟩:=o;obtain⟨s,g,rfl⟩:=XC l c;exact⟨(s,p)::ps,.cons ⟨t,rfl,hq⟩ m,.cons ⟨g,f⟩ n⟩
   ·cases e
  ·cases e
theorem IB (h:DR K e H kvs ps):∀ {c:List (M.D×M.D)}{f:List (Key×V)},DR K e H c f->DR K e H (kvs.foldl (λa p=>M.ym p.1 p.2 a) c) (ps.foldl (λa p=>yN a p.1 p.2) f):=by
 unfold DR at h
 induction h with
 | nil=>exact λr=>r
 | cons g t i=>exact λr=>i (DR.put r g.1 g.2)
theorem Ea:AdN K Θ M.Q2 (A9 K):=by
 intro q H S xs s Q f c h;unfold M.Q2 at h;split at h
 ·rename_i p;obtain⟨Y,r,rfl,ry,rfl⟩:=c;split at h
  ·rename_i ds e;obtain⟨a,j,rfl,ha,l,m⟩:=Q8 f ry e;split at h
   ·rename_i kvs n;obtain⟨ps,g,i⟩:=W8 n m;split at h
    ·rename_i t;have u:=Paired.length g;have v:=Paired.length i;exact⟨a,j,ps,rfl,SqL.of l,by lia,g,λp o=>Wa h f (IB i .nil) o⟩
    ·exact h.elim
   ·exact h.elim
  ·exact h.elim
 ·exact h.elim
end
noncomputable abbrev X5 (X:Cx) (N:List Str):Cx:={ X with N:=N }
theorem ag {c:Type}{σ:List (Option c)}{i j:Nat}{v:c} (h:(σ.set i none)[j]? = some (some v)):j≠i/\σ[j]? = some (some v):=by
 by_cases e:i=j
 ·subst e;by_cases f:i < σ.length
  ·rw[ZI f] at h;cases h
  ·rw[xA (by rw[yk];lia)] at h;cases h
 ·rw[qb e] at h;exact⟨λz=>e z.symm,h⟩
theorem Inv.renamed {X:Cx}{N:List Str}{i:Nat} (I:Inv X c σ H s) (f:N.length=X.N.length) (g:∀ j,j≠i->N[j]? = X.N[j]?):Inv (X5 X N) c (σ.set i none) H s where
 ok:=⟨I.ok.mod,I.ok.kind,I.ok.glob,I.ok.blt,I.ok.above,I.ok.inj,I.ok.has,I.ok.cab,I.ok.hd,I.ok.frames,I.ok.stk,I.ok.exf,I.ok.bs,I.ok.bsz,I.ok.noex,I.ok.exfs,I.ok.funs,I.ok.frf⟩
 os:=I.os
 bare:=I.bare
 base:=I.base
 loc:=by
  obtain⟨m,h,l⟩:=I.loc;refine⟨m,h,λj x v n hv=>?_⟩;obtain⟨ne,e⟩:=ag hv;exact l j x v (by rw[<- g j ne];exact n) e
 cell:=I.cell
 free:=I.free
 freeC:=I.freeC
 pin:=I.pin
 hok:=I.hok
 len:=by rw[yk,I.len];exact f.symm
 tk:=I.tk
noncomputable abbrev I9 (i:Nat) (D:ZN):ZN:=⟨λσ H=>D.nx (σ.set i none) H,D.rt,λσ H=>D.bk (σ.set i none) H,λσ H=>D.ct (σ.set i none) H⟩
theorem fe {X:Cx}{i:Nat}{st:jT}{N:List Str} (n:N.length=X.N.length) (o:∀ j,j≠i->N[j]? = X.N[j]?) (h:PS (X5 X N) st t):PS X st λD σ H=>t (I9 i D) (σ.set i none) H:=λg s σ H D I q=>thn (h g s _ H _ (I.renamed n o) q) λf p z=>by
 have c:∀ {e:St}{l:Hp},Inv (X5 X N) g e l p->Inv X g (e.set i none) l p:=λJ=>Inv.renamed (X:=X5 X N) (N:=X.N) (i:=i) J n.symm λj ne=>(o j ne).symm;cases f with
 | next=>obtain⟨e,l,m,d⟩:=z;exact⟨_,l,c m,d⟩
 | brk=>obtain⟨e,l,m,d⟩:=z;exact⟨_,l,c m,d⟩
 | cont=>obtain⟨e,l,m,d⟩:=z;exact⟨_,l,c m,d⟩
 | ret u=>obtain⟨v,e,l,m,r,d⟩:=z;exact⟨v,_,l,c m,r,d⟩
theorem jL.forget {K:PySem.W.Frag} (h:jL K f H c σ) (i:Nat):jL K f H (c.set i none) (σ.set i none):=⟨by rw[yk,yk];exact h.len,λj d e=>by
 obtain⟨ne,g⟩:=ag e;obtain⟨v,l,m⟩:=h.get j d g;exact⟨v,by rw[qb (yK ne)];exact l,m⟩⟩
theorem Bv {N c:List Str}{i:Nat} (h:c=N.set i ""):c.length=N.length/\∀ j,j≠i->c[j]? = N[j]? := by
 subst h;exact⟨yk,λj ne=>qb (yK ne)⟩
theorem w_ms_hide {X:Cx}{i:Nat}{stm:jT}{N:List Str} (u:N=X.N.set i "") (v:WS (X5 X N) w stm r):WS X w stm (M.KA i r):=by
 delta WS at v ⊢
 exact (fe (Bv u).1 (Bv u).2 v).up λD σ H x j S st y h=>⟨x,j.set i none,S,st.forget i,y,by
   have h':zu X.K w x H (M.wB i (r (j.set i none) S)) D:=h;cases q:r (j.set i none) S with
   | nx o t=>rw[q] at h';exact λc m n p l f g=>h' c m _ p l f (g.forget i)
   | bk o t=>rw[q] at h';exact λc m n p l f g=>h' c m _ p l f (g.forget i)
   | ct o t=>rw[q] at h';exact λc m n p l f g=>h' c m _ p l f (g.forget i)
   | rt d t=>rw[q] at h';exact λc m n p l f g=>h' c m _ p l f g
   | exc e a s=>rw[q] at h';exact (show False from h').elim
   | no=>rw[q] at h';exact h'⟩
end L2
namespace L2
open PySem PySem.Spec PyProof.Rows PySem.Builtin.Str
section
variable {P:jD}{w:jC}{A:jj}{E:zD->zI->Prop}{s:zI}
theorem ff {I l:zE}{its:Array zD}{Q:List zD->zI->Prop} (z:A.handled=none) (n:l≠I) (y:I < s.heap.objs.size) (B:l < s.heap.objs.size) (hit:s.heap.IsRevIter I l ((its.size:Int) - 1)) (C:s.heap.IsList l its) (G:its.size <= zf)
  (q:∀ h' tk h,s.toks <= tk->(∀ b o,b≠I->s.heap.get? b=some o->h'.get? b=some o)->ItemsOf (λi v=>its[its.size - 1 - i]? = some v) h its.size->Q h.toList { s with heap:=h',toks:=tk }):wpAny (zN P w) A (collect (.ref I)) Q E s:=by
 have W:=Walks.listRev (prog:=P) (w:=w) (A:=A.in1) z I l n its;have p:s.heap.objs.size∉[I,l]:=λhm=>by
  rcases List.mem_cons.mp hm with e | hm
  ·exact QF _ (e ▸ y)
  ·exact QF _ (List.mem_singleton.mp hm ▸ B)
 have r:s.heap.objs.size≠I:=Jy y;unfold collect;refine zQ (wpAny_runValue (we PySem.F.entry_proto_collect ?_));rw[ug PySem.F.plain_proto_collect _];show wpAny _ A.in1 (newList [] >>= λl=>again (.builtin "list.__iadd__" ⟨[l,.ref I],[]⟩)) _ _ s;refine zQ (JK ?_);refine wpAny_pure ⟨UR PySem.F.plain_list_iadd _,we PySem.F.entry_list_iadd ?_⟩;rw[ug PySem.F.plain_list_iadd _];have t:(0:Nat) <= its.size/\s.heap.IsRevIter I l ((its.size:Int) - 1 - ((0:Nat):Int))/\s.heap.IsList l its:=⟨ZR _,by simpa using hit,C⟩
 have f:=W.frame 0 s.heap (s.heap.push { cls:=.type "list",data:=.seq ([]:List zD).toArray }) t λb _ o e=>jd _ e;have g:(s.heap.push { cls:=.type "list",data:=.seq ([]:List zD).toArray }).get? s.heap.objs.size=some { cls:=.type "list",data:=.seq ([]:List zD).toArray }:=qd _ rfl;have H:F3 (.ref s.heap.objs.size) (.ref I)=false:=by simp[F3,r]
 have J:(Jb "list_reverseiterator" == Jb "list")=false:=by decide
 have L:(Jb "list_reverseiterator" == Jb "tuple")=false:=by decide
 show wpAny _ A.in1 (HU (.ref s.heap.objs.size) (.ref I) (.ref s.heap.objs.size)) _ _ _;unfold HU;refine zQ (Vq (DU f.2.1) ?_);simp only[H,J,L,iM,j9,if_false];refine zQ (W.self 0 _ _ _ f ?_);refine zQ (JO (Ef f.2.1 ?_));rw[if_neg (by decide)];refine wpAny_pure ⟨UR PySem.F.plain_extend_loop _,codeAny_extend_loopS W.toS G _ p _ its.size 0 _ _ _ rfl (ZR _) f g (ItemsOf.nil _) λu j U hm x m=>?_⟩;show wpAny _ A (load s.heap.objs.size >>= _) _ _ u;refine zQ (wpAny_load x (wpAny_pure ?_));rw[gr hm];refine q u.heap u.toks j hm.toks (λb o M e=>hm.heap b o (λc=>?_) (jd _ e)) m;rcases List.mem_cons.mp c with N | c
 ·exact jX (jQ e) N
 ·exact M (List.mem_singleton.mp c)
theorem Il {I l:zE}{its:List zD}{x:Str}{t:Tok}{Q:zD->zI->Prop} (n:A.handled=none) (i:l≠I) (u:I < s.heap.objs.size) (v:l < s.heap.objs.size) (hit:s.heap.IsRevIter I l ((its.toArray.size:Int) - 1)) (y:s.heap.IsList l its.toArray) (hs:Yh its ys) (z:its.length <= zf) (B:(ys.map (·.length)).sum+ys.length * x.length <= 16777216)
  (q:∀ h' t' tk,(∀ b o,b≠I->s.heap.get? b=some o->h'.get? b=some o)->Q (.str (kZ x ys.reverse) t') { s with heap:=h',toks:=tk }):wpAny (zN P w) A (call (.builtin "str.join") [.str x t,.ref I]) Q E s:=by
 refine aQ (codeAny_call_builtin PySem.F.slot_str_join.plain PySem.F.entry_str_join (PySem.F.slot_str_join.check _ _ _ _ _ _ _ _ (xo _ _ _) (PySem.F.args_str_join_2 _ _) ?_));rw[join_tree_other];refine zQ (Vq (DU hit) ?_);show wpAny _ A.in1 ((X3 (.ref I)).tryCatch _ >>= λit=>collect it >>= λe=>joinTail x e) _ _ s;refine zQ (Fh (wpAny_pyIter_revIter hit ?_));refine zQ (ff (A:=A.in1) n i u v hit y (by rw[jw];exact z) λh' tk f C G h=>?_);have H:f=its.reverse.toArray:=F9 (by simpa using h);obtain⟨c,hv,J⟩:=strsAre_values hs;have L:f.toList=Vt c.reverse:=by
  rw[H];show its.reverse=_;rw[hv];unfold Vt;rw[XF]
 rw[L];have m:c.reverse.map (·.1)=ys.reverse:=by rw[<- J,XF]
 have hok:JoinOk x (c.reverse.map (·.1))=true:=by
  rw[m];refine joinOk_of ?_;rw[XF,Ii,k6];exact B
 unfold JoinOk at hok;rw[Xy] at hok;have g:Gives (joinTail x (Vt c.reverse)) (joinMade x c.reverse):=by
  have j:=gives_joinTail x c.reverse hok;generalize c.reverse=l at *;cases l with
  | nil=>exact j
  | cons p r=>cases r with
   | nil=>exact j
   | cons q M=>exact j
 refine g P w A (wants Q E) _ (post_join c.reverse ⟨joinFit_length hok,λt' k=>?_⟩);rw[m];exact q h' t' k G
end
section
variable {X:Cx}{Θ:Tab}{k:Nat}
noncomputable def GS (K:PySem.W.Frag) (x:Str):V->Hp->VK->Prop:=λv H Q=>∃ p,∃ ys:List Str,v=.ref p/\SqL K H p (ys.map V.str)/\(ys.map (·.length)).sum+ys.length * x.length <= 16777216/\Q (.str (kZ x ys.reverse)) H
theorem Fc {z:Str}{j:Nat}{p J f i m:Pos}{a:ze} (U:z6 k X.A) (x:Gl X "reversed") (y:X.mg "reversed" = none) (ha:PE X a Y) (w:qc a=true:=by rfl) (t:(i.endLine == m.line)=true:=by rfl) :
  PE X (.Call (.Attribute (.Constant (.str z) j p) "join" i) [.Call (.Name "reversed" J) [a] [] f] [] m) (λσ H Q=>Y σ H λv B=>GS X.K z v B Q):=by
 intro r s σ H Q I h;refine Cn rfl rfl t rfl (Uw ?_);have I0:Inv X r σ H { s with toks:=s.toks+1 }:=I.tok _;obtain⟨h1,h2⟩:=vr (T := "str") I0 (show zm (.str z) (.str z s.toks) from ⟨_,rfl⟩) rfl;refine⟨"str","str.join",PySem.F.plainAttrs_str,PySem.F.slot_str_join,PySem.F.type_str_join,h1,h2,?_⟩;refine Y9 rfl (CJ ?_);show wpAny _ _ (uJ [(false,z0 (.Call (.Name "reversed" J) [a] [] f) X.env)]) _ _ _;refine Yl ?_;refine Call_ (xl I0 x y aS (Va ?_ (yH w) (JA (by simp))));rw[yH (e:=a) (es:=[]) w];refine Yl (zy (ha r _ σ H _ I0 h) λu c v B C r1 q1=>UK ?_);obtain⟨l,ys,rfl,hq,hz,q⟩:=q1;cases r1;obtain⟨its,L,pl,E⟩:=C.list hq;have hl:=L.length;have M:l < c.heap.objs.size:=by obtain⟨o,e,_⟩:=pl.isList;exact jQ e
 refine call_reversed_list pl.isList ?_;have g:(c.heap.push (revObj l ((its.toArray.size:Int) - 1))).IsRevIter c.heap.objs.size l ((its.toArray.size:Int) - 1):=⟨_,qd _ rfl,rfl,rfl⟩
 have N:(c.heap.push (revObj l ((its.toArray.size:Int) - 1))).objs.size=c.heap.objs.size+1:=JR ..;refine UK ?_;refine yG (n:=1) (show 1 <= _ from C.tk) (Il (I:=c.heap.objs.size) (l:=l) (its:=its) (ys:=ys) U.hd (jX M) (by show c.heap.objs.size < (c.heap.push _).objs.size;rw[N];exact J8 _) (by show l < (c.heap.push _).objs.size;rw[N];exact vy M) g (pl.isList.push _) (Vz L) (by rw[<- hl];exact E) hz λh' t' tk kk G=>?_);exact⟨.str (kZ z ys.reverse),B,C.kept (t':=tk) (λb o e=>kk b o (jX (jQ e)) (jd _ e)) G,⟨_,rfl⟩,q⟩
theorem w_me_joinrev {z:Str}{j:Nat}{p N t g l:Pos}{a:ze} (v:z=ofT y) (U:okT y) (Y:z6 k X.A) (w:Gl X "reversed") (B:X.mg "reversed" = none) (ha:WE X Θ a m) (C:qc a=true:=by rfl) (s:(g.endLine == l.line)=true:=by rfl) :
  WE X Θ (.Call (.Attribute (.Constant (.str z) j p) "join" g) [.Call (.Name "reversed" N) [a] [] t] [] l) (M.eUn (M.V4 y) m):=by
 delta WE at ha ⊢
 exact (Fc Y w B ha C s).up λσ H Q ρ E S st rp h=>⟨ρ,E,S,st,rp,zF.bind h λG H1 x X1 I p1 l1 u rx n=>by
   subst v;cases x with
   | ref i =>
    obtain⟨ad,rfl,ea⟩:=rx;have f:zF X.K Θ (zL X.K) G H1 (match M.zv I i with | some xs=>M.yP y xs.reverse I | none=>.no) Q:=n;cases q:I[i]? with
    | none=>simp[M.zv,q] at f;exact f.elim
    | some o =>
     cases o with
     | lst ds =>
      simp only[M.zv,q] at f;obtain⟨zs,e1,r⟩:=Zz u ea q;cases e:M.Zn ds.reverse with
      | none=>simp only[M.yP,e] at f;exact f.elim
      | some ts =>
       obtain⟨ez,ok⟩:=Xz e r.rev;have J:zs=(ts.reverse.map ofT).map V.str:=by
        have:=congrArg List.reverse ez;rw[UV] at this;rw[this,XF,XF]
       by_cases L:(ts.map List.length).sum+ts.length * y.length <= M.SZ
       ·simp only[M.yP,e,if_pos L] at f;refine⟨ad,ts.reverse.map ofT,rfl,SqL.of (by rw[<- J];exact e1),?_,?_⟩
        ·rw[cu,jH,qS,XF,Ii,k6];exact L
        ·rw[<- XF,UV,Al];exact zF.here f u ⟨rfl,Wh U ok⟩
       ·simp only[M.yP,e,if_neg L] at f;exact f.elim
     | dct kvs=>simp[M.zv,q] at f;exact f.elim
     | fdc _=>simp[M.zv,q] at f;exact f.elim
     | dtt _=>simp[M.zv,q] at f;exact f.elim
     | ftt _=>simp[M.zv,q] at f;exact f.elim
     | ins c fs=>simp[M.zv,q] at f;exact f.elim
   | non=>exact n.elim
   | bl _=>exact n.elim
   | int _=>exact n.elim
   | str _=>exact n.elim
   | tup _=>exact n.elim
   | ro _=>exact n.elim
   | ty _=>exact n.elim⟩
end
theorem mF {K:PySem.W.Frag}:AdN K g M.Kw (λxs H Q=>∃ i j,xs=[.int i,.int j]/\Q (.int (if j < i then j else i)) H):=by
 intro l H S xs m Q e c h;unfold M.Kw at h;split at h
 ·rename_i i j;obtain⟨Y,r,rfl,ry,Z,n,rfl,f,rfl⟩:=c;cases ry;cases f;exact⟨i,j,rfl,zF.here h e rfl⟩
 ·exact h.elim
end L2
namespace L2
open PySem PySem.Spec PyProof.Rows PySem.Builtin.Str
def Br:V->List V->Hp->VK->Prop:=λx vs H Q=>∃ a kvs,x=.ref a/\vs=[]/\H a=some (.dK kvs)/\Q .non (upd H a (.dK []))
theorem mO {X:Cx}:MtM X "dict.clear" Br:=by
 intro e s σ H x vs v us Q I rx f h;obtain⟨a,kvs,rfl,rfl,g,q⟩:=h;cases rx;have c:=f.zero;subst c;exact gH I g λj i=>⟨.non,_,i,rfl,q⟩
theorem DA {K:PySem.W.Frag}:AdM K m M.K5 Br:=by
 intro j H S x xs X n Q f rx c h;unfold M.K5 at h;split at h
 ·rename_i p;cases c;split at h
  ·rename_i kvs q;obtain⟨a,rfl,g⟩:=rx;obtain⟨b,i,l,e,r⟩:=f.obj _ _ q;rw[g] at i;cases i;have le:=Le.put (JV e) (.dK []);exact⟨a,l,rfl,rfl,e,h j _ _ (jc _) le (f.put g (JV e) ⟨_,qN,.nil⟩) rfl⟩
  ·exact h.elim
 ·exact h.elim
end L2
namespace L2
open PySem PySem.Spec PyProof.Rows PySem.SeqAt
mutual
inductive IsV (h:zp):Nat->M.D->zD->Prop
 | non {n:Nat}:IsV h n .non .none
 | int {n:Nat}{i:Int}{t:Tok}:IsV h n (.int i) (.int i t)
 | str {n:Nat}{x:M.T}{t:Tok}:IsV h n (.str x) (.str (ofT x) t)
 | tup {n:Nat}{ds:List M.D}{a:zE}{us:List zD}:h.IsTuple a us.toArray->VR h n ds us->IsV h (n+1) (.tup ds) (.ref a)
inductive VR (h:zp):Nat->List M.D->List zD->Prop
 | nil {n:Nat}:VR h n [] []
 | cons {n:Nat}{d:M.D}{ds:List M.D}{u:zD}{us:List zD}:IsV h n d u->VR h n ds us->VR h n (d::ds) (u::us)
end
end L2
namespace L2
open PySem PySem.Spec PyProof.Rows
def IsG (K:PySem.W.Frag) (n:Str) (st:jT):Prop:=∃ f,PySem.W.nsIn K jV n=some (some (.ref f))/\∃ fd,Fun K n n st f fd
def IsM (K:PySem.W.Frag) (C:zE) (n q:Str) (st:jT):Prop:=∃ f,PySem.W.findIn K (.ref C) n=some (some (.ref f))/\PySem.W.isFn K (.ref f)=true/\∃ fd,Fun K n q st f fd
section
variable {K:PySem.W.Frag}{h:zp}{mg:Str->Option zD}{n q x:Str}{st:jT}{f C:zE}{P:jD}{w:jC}{base:zp}{k:Nat}{ps:List Str}{sp:Sp}
theorem isM {j kV pm:zD}{m an:Option zE}{e:Array (Option zD)} (a:PySem.W.findIn K (.ref C) n=some (some (.ref f))) (i:PySem.W.isFn K (.ref f)=true) (l:K.lookup f=some ⟨j,m,.func (PySem.W.fnOf n q (Qp st) (yV st) (ji st) .none kV o pm an g ct),e⟩) (c:PySem.W.codeIn K g q=true) (kp:PySem.W.keepIn K (.ref f)=true):IsM K C n q st:=⟨f,a,i,_,ui l c kp⟩
theorem isG {i kV pm:zD}{j an:Option zE}{e:Array (Option zD)} (a:PySem.W.nsIn K jV n=some (some (.ref f))) (l:K.lookup f=some ⟨i,j,.func (PySem.W.fnOf n n (Qp st) (yV st) (ji st) .none kV m pm an g ct),e⟩) (c:PySem.W.codeIn K g n=true) (kp:PySem.W.keepIn K (.ref f)=true):IsG K n st:=⟨f,a,_,ui l c kp⟩
def BA (x q:Str) (st:jT) (ps:List Str) (us:List zD):Prop:=∀ (kV c pm:zD) (an:Option zE) (e ct:zD),uQ (PySem.W.fnOf x q (Qp st) (yV st) (ji st) .none kV c pm an e ct) ⟨us,[]⟩=pure (ps.zip us)
def Bnd (x q:Str) (st:jT) (ps:List Str):Prop:=∀ (kV c pm:zD) (an:Option zE) (e ct:zD) (us:List zD),us.length=ps.length->uQ (PySem.W.fnOf x q (Qp st) (yV st) (ji st) .none kV c pm an e ct) ⟨us,[]⟩=pure (ps.zip us)
noncomputable def wN:Nat->(List zD->Prop)->Prop
 | 0,p=>p []
 | n+1,p=>∀ a,wN n λus=>p (a::us)
theorem Wo:∀ (n:Nat) (p:List zD->Prop),wN n p->∀ us:List zD,us.length=n->p us
 | 0,p,h,us,e=>by
  cases us with
  | nil=>exact h
  | cons a us=>cases e
 | n+1,p,h,us,e=>by
  cases us with
  | nil=>cases e
  | cons a us=>exact Wo n _ (h a) us (Nat.succ.inj e)
theorem bnd {x q:Str}{st:jT}{ps:List Str} (h:wN ps.length (BA x q st ps)):Bnd x q st ps:=λkV c pm an g ct us e=>Wo _ _ h us e kV c pm an g ct
theorem fT (i:IsG K n st) (X:K.In h) (G:h.Ns jV mg) (b:Bnd n n st ps):∃ f fd,Fun K n n st f fd/\ZX K fd ps []/\PySem.W.keepIn K (.ref f)=true/\mg n=some (.ref f):=by
 obtain⟨f,a,fd,F⟩:=i;exact⟨f,fd,F,F.binds b,F.kp,PySem.W.mg_of X G a⟩
theorem ub (i:IsG K n st) (X:K.In h) (G:h.Ns jV mg) (o:∀ f fd,Fun K n n st f fd->ZX K fd ps []->PySem.W.keepIn K (.ref f)=true->mg n=some (.ref f)->qC P w K mg base CX0 k f fd ps sp) (b:Bnd n n st ps:=by exact bnd (by (repeat intro _);rfl)):Has P w K mg base n k ps sp:=by
 obtain⟨f,fd,F,B,kp,m⟩:=fT i X G b;exact⟨f,fd,o f fd F B kp m,B,kp,m⟩
theorem ey (i:IsM K C n q st) (o:∀ f fd,Fun K n q st f fd->qC P w K mg base CX0 k f fd ps sp) (b:Bnd n q st ps:=by exact bnd (by (repeat intro _);rfl)):K1 P w K mg base C n k ps sp:=by
 obtain⟨f,a,j,fd,F⟩:=i;exact⟨f,fd,o f fd F,F.binds b,a,j,F.kp⟩
theorem dj (i:IsM K C "__init__" q st) (X:K.In h) (G:h.Ns jV mg) (a:PySem.W.nsIn K jV x=some (some (.ref C))) (mk:PySem.W.makesIn K C=true) (c:PySem.W.keepIn K (.ref C)=true) (o:∀ f fd,Fun K "__init__" q st f fd->qC P w K mg base CX0 k f fd ps sp) (b:Bnd "__init__" q st ps:=by exact bnd (by (repeat intro _);rfl)):uc P w K mg base C x k ps sp:=by
 obtain⟨f,e,j,fd,F⟩:=i;exact⟨f,fd,o f fd F,F.binds b,⟨mk,e,j,c⟩,PySem.W.mg_of X G a⟩
end
section
variable {P:jD}{w:jC}{K:PySem.W.Frag}{mg:Str->Option zD}{base:zp}{Θ:Tab}{x qual:Str}{st:jT}{f:zE}{fd:Q5}{N ps:List Str}{k:Nat}{b:M.SM}{q:M.F}
theorem w_fun_Mn (F:Fun K x qual st f fd) (h:M.jM ps.length (M.fn N.length b) q)
  (c:N.Nodup->∀ (e:zD) (A:jj) (outer:List Env) (s:zI) (H:Hp) (E:XK),z6 k (A.deeper (ZD qual (ji st) s.heap.objs.size f e))->WSs (Zo CX0 P w K mg base N qual (ji st) f e A outer s H E).nox Θ (yV st) b)
  (g:Z6 N ps (ji st):=by exact⟨rfl,rfl,rfl,by decide +kernel,rfl,by decide +kernel,by decide +kernel⟩):qC P w K mg base CX0 (k+1) f fd ps (SpM K Θ ps.length q):=w_fun_M F g h (c g.nd)
theorem w_fun_M0n (F:Fun K x qual st f fd)
  (c:N.Nodup->∀ (e:zD) (A:jj) (outer:List Env) (s:zI) (H:Hp) (E:XK),z6 k (A.deeper (ZD qual (ji st) s.heap.objs.size f e))->WSs (Zo CX0 P w K mg base N qual (ji st) f e A outer s H E).nox Θ (yV st) b)
  (g:Z6 N ps (ji st):=by exact⟨rfl,rfl,rfl,by decide +kernel,rfl,by decide +kernel,by decide +kernel⟩):qC P w K mg base CX0 (k+1) f fd ps (SpM K Θ ps.length (M.fn N.length b)):=w_fun_M0 F g (c g.nd)
end
section
variable {K:PySem.W.Frag}{h:zp}{mg:Str->Option zD}{n qual x:Str}{st:jT}{C:zE}{P:jD}{w:jC}{base:zp}{k:Nat}{ps:List Str}{Θ:Tab}{q:M.F}
abbrev Bo (P:jD) (w:jC) (K:PySem.W.Frag) (mg:Str->Option zD) (base:zp) (Θ:Tab) (k:Nat) (qual:Str) (st:jT) (N:List Str) (b:M.SM):Prop:=∀ f,N.Nodup->∀ (c:zD) (A:jj) (outer:List Env) (s:zI) (H:Hp) (E:XK),z6 k (A.deeper (ZD qual (ji st) s.heap.objs.size f c))->WSs (Zo CX0 P w K mg base N qual (ji st) f c A outer s H E).nox Θ (yV st) b
theorem gG {b:M.SM} (i:IsG K n st) (X:K.In h) (G:h.Ns jV mg) (N:List Str) (c:M.jM ps.length (M.fn N.length b) q) (o:Bo P w K mg base Θ k n st N b) (e:Z6 N ps (ji st):=by exact⟨rfl,rfl,rfl,by decide +kernel,rfl,by decide +kernel,by decide +kernel⟩) (g:Bnd n n st ps:=by exact bnd (by (repeat intro _);rfl)):Has P w K mg base n (k+1) ps (SpM K Θ ps.length q):=ub i X G (λf _ F _ _ _=>w_fun_Mn F c (o f) e) g
theorem gG0 (i:IsG K n st) (X:K.In h) (G:h.Ns jV mg) (N:List Str) (b:M.SM) (o:Bo P w K mg base Θ k n st N b) (c:Z6 N ps (ji st):=by exact⟨rfl,rfl,rfl,by decide +kernel,rfl,by decide +kernel,by decide +kernel⟩) (e:Bnd n n st ps:=by exact bnd (by (repeat intro _);rfl)):Has P w K mg base n (k+1) ps (SpM K Θ ps.length (M.fn N.length b)):=ub i X G (λf _ F _ _ _=>w_fun_M0n F (o f) c) e
theorem gM0 (i:IsM K C n qual st) (N:List Str) (b:M.SM) (o:Bo P w K mg base Θ k qual st N b) (c:Z6 N ps (ji st):=by exact⟨rfl,rfl,rfl,by decide +kernel,rfl,by decide +kernel,by decide +kernel⟩) (e:Bnd n qual st ps:=by exact bnd (by (repeat intro _);rfl)):K1 P w K mg base C n (k+1) ps (SpM K Θ ps.length (M.fn N.length b)):=ey i (λf _ F=>w_fun_M0n F (o f) c) e
end
end L2
set_option maxHeartbeats 4000000
namespace M
noncomputable section
def uM:SM :=
  (Zj 4 0 (zA 0) (zA 2))
def UT:SM :=
  (Zj 4 1 (zA 0) (zA 3))
def WU:SM :=
  (Zj 4 2 (zA 0) xP)
def ue:SM :=
  (Zj 4 3 (zA 0) (eC (.int 0)))
def Up:SM :=
  (Zj 4 4 (zA 0) (jR zC))
def WB:SM :=
  (Zj 4 5 (zA 0) (jR (zB (zr (zB (eC (.str [112,97,114,116])) (zB (zA 1) (zB (eC .non) zC)))) zC)))
def Yp:SM :=
  (Zj 4 6 (zA 0) (eC .non))
def VQ:SM:=(zG uM (zG UT (zG WU (zG ue (zG Up (zG WB Yp))))))
def cz:F:=fn 4 VQ
abbrev YJ:F:=cz
noncomputable abbrev Jj:T:=[116,101,120,116]
noncomputable abbrev jh:T:=[97,115,107,115]
noncomputable abbrev ja:T:=[102,97,105,108,115]
noncomputable abbrev yQ:T:=[116,111,111,32,108,111,110,103]
noncomputable abbrev Xk:T:=[116,111,111,32,109,117,99,104]
noncomputable abbrev tNo:T:=[110,111,32,110,97,109,101]
noncomputable abbrev ZQ:T:=[106,111,105,110]
noncomputable abbrev tIf:T:=[105,102]
noncomputable abbrev QG:T:=[101,97,99,104]
noncomputable abbrev Hj:T:=[114,111,117,110,100]
noncomputable abbrev tOf:T:=[111,102]
noncomputable abbrev xC:T:=[102,97,105,108]
noncomputable abbrev Bs:T:=[98,97,99,107]
noncomputable abbrev cP:T:=[102,105,114,115,116]
noncomputable abbrev Aw:T:=[114,101,115,116]
noncomputable abbrev aZ:T:=[99,111,117,110,116]
noncomputable abbrev Dj:T:=[115,111,114,116,101,100]
def W5 (w:T):Prop:=w=Bs\/w=cP\/w=Aw\/w=aZ\/w=Dj
def W7 (w:T):Prop:=w=tOf\/w=xC\/W5 w
noncomputable def zW (r:T×T):D:=.tup [.str r.1,.str r.2]
noncomputable def zt (kvs:List (T×T)) (x:T):Option T:=kvs.lookup x
noncomputable def pd (p:T×T):D×D:=(.str p.1,.str p.2)
theorem Z9 (x:T):∀ kvs:List (T×T),qE (.str x) (kvs.map pd)=(zt kvs x).map .str
 | []=>rfl
 | (k,v)::kvs=>by
  have c:=Z9 x kvs;unfold qE zt at *;rw[jN,yA,yA];show (match D.str x == D.str k with | true=>_ | false=>_)=_;by_cases e:x=k
  ·subst e;simp[pd]
  ·have f:(D.str x == D.str k)=false:=by simpa using e
   have g:(x == k)=false:=by simpa using e
   rw[f,g];exact c
theorem VZ {v:T} (h:zt ans x=some v):(x,v)∈ans:=by
 obtain⟨c,f,e,_⟩:=List.lookup_eq_some_iff.mp h;rw[e];simp
theorem at0 (x:D) (r:List D):atI (x::r) 0=some x:=by simp[atI,ixN]
theorem at1 (x y:D) (r:List D):atI (x::y::r) 1=some y:=by
 unfold atI ixN;rw[if_pos (by decide),if_pos (by simp only[jE];lia)];rfl
theorem Wp {S:M.S}{a:Nat}{ans:List (T×T)} (ha:S[a]? = some (.dct (ans.map pd))) (x:T):inD (.str x) (.ref a) S=.ok (zt ans x).isSome S:=by
 simp only[inD,ha];rw[if_pos (show qU (.str x)=true from rfl),Z9,UQ]
theorem fm {S:M.S}{a:Nat}{ans:List (T×T)} (ha:S[a]? = some (.dct (ans.map pd))) {v:T} (h:zt ans x=some v):zH (.ref a) (.str x) S=.ok (.str v) S:=by
 have hd:qE (.str x) (ans.map pd)=some (.str v):=by rw[Z9,h];rfl
 simp only[zH,ha,hd];rfl
def qm (u:List T) (n:T):List T:=u++(if u.contains n=true then [] else [n])
theorem DQ (u:List T) (n:T):(qm u n).length <= u.length+1:=by
 unfold qm;split<;>simp
noncomputable def usD (c:List T):List (D×D):=c.map λx=>(D.str x,D.bl true)
theorem aN (c:List T):(usD c).map (λp:D×D=>p.1)=c.map D.str:=by unfold usD;rw[yo];rfl
theorem Iq (t:T) (c:List T):ym (.str t) (.bl true) (usD c)=usD (qm c t):=by
 have ha:((usD c).any λp=>decide (p.1=.str t))=c.contains t:=by
  unfold usD;rw[g0,List.contains_eq_any_beq]
  congr 1
  funext x
  simp only[V5];by_cases h:x=t
  ·subst h;simp
  ·have e:(t == x)=false:=by simpa using λz:t=x=>h z.symm
   rw[e];simp[h]
 unfold ym qm;rw[ha];by_cases h:c.contains t=true
 ·rw[if_pos h,if_pos h,qw];unfold usD;rw[yo];refine Zv λx f=>?_;simp only[V5];split<;>rfl
 ·rw[if_neg h,if_neg h];unfold usD;rw[JC];rfl
inductive Tr where
 | txt (t:T) | line | it | stem | thing (n:T) | kin (n:T) | join (ts:List Tr) | ife (a b x y:Tr) | each (a b:Tr) | one (w:T) (a:Tr)
noncomputable def Tr.d:Tr->D
 | .txt t=>.tup [.str [116,101,120,116],.str t]
 | .line=>.tup [.str [108,105,110,101]]
 | .it=>.tup [.str [105,116]]
 | .stem=>.tup [.str [115,116,101,109]]
 | .thing n=>.tup [.str [116,104,105,110,103],.str n]
 | .kin n=>.tup [.str [107,105,110],.str n]
 | .join ts=>.tup (.str [106,111,105,110]::ds ts)
 | .ife a b x y=>.tup [.str [105,102],a.d,b.d,x.d,y.d]
 | .each a b=>.tup [.str [101,97,99,104],a.d,b.d]
 | .one w a=>.tup [.str w,a.d]
where ds:List Tr->List D
 | []=>[]
 | t::ts=>t.d::ds ts
theorem Tr.ds_map:∀ ts:List Tr,Tr.d.ds ts=ts.map Tr.d
 | []=>rfl
 | t::ts=>by rw[Tr.d.ds,Tr.ds_map ts];rfl
theorem Tr.d_join (ts:List Tr):(Tr.join ts).d=.tup (.str ZQ::ts.map Tr.d):=by
 rw[Tr.d,Tr.ds_map]
inductive Out where
 | tx (t:T) | en (r:T×T)
abbrev Ct:=Nat×List T
def Zc (ans:List (T×T)) (n:T) (c:Ct):Out×Ct:=match zt ans n with
 | some v=>(.tx v,(c.1,qm c.2 n))
 | none=>(.en (jh,n),c)
def ZJ:Out×Ct->Out×Ct
 | (.tx t,c)=>if 900 < t.length then (.en (ja,yQ),c) else (.tx t,c)
 | r=>r
noncomputable def evs (f:Tr->Ct->Out×Ct):List Tr->T->Ct->Out×Ct
 | [],t,c=>(.tx t,c)
 | a::r,t,c=>match f a c with
  | (.en e,c)=>(.en e,c)
  | (.tx x,c)=>evs f r (t++x) c
def evw (f:T->Ct->Out×Ct):List T->T->Ct->Out×Ct
 | [],t,c=>(.tx t,c)
 | w::r,t,c=>match f w c with
  | (.en e,c)=>(.en e,c)
  | (.tx x,c)=>if 900 < (t++x).length then (.en (ja,yQ),c) else evw f r (t++x) c
noncomputable def Wk (S:M.S) (st:D) (a:Nat) (us:List (D×D)) (k:Int) (tx td:List D) (en:D) (g:M.S):M.S :=
 S++(.ins 4 [some st,some (.ref a),some (.ref (S.length+1)),some (.int k),some (.ref (S.length+2)),some (.ref (S.length+3)),some en]::.dct us::.lst tx::.lst td::g)
section
variable {S:M.S}{st:D}{a:Nat}{us us':List (D×D)}{k k':Int}{tx tx' td td':List D}{en en':D}{g:M.S}
theorem wk0:(Wk S st a us k tx td en g)[S.length]? = some (.ins 4 [some st,some (.ref a),some (.ref (S.length+1)),some (.int k),some (.ref (S.length+2)),some (.ref (S.length+3)),some en]):=by simp[Wk]
theorem wk1:(Wk S st a us k tx td en g)[S.length+1]? = some (.dct us):=by simp[Wk]
theorem wk2:(Wk S st a us k tx td en g)[S.length+2]? = some (.lst tx):=by simp[Wk]
theorem wk3:(Wk S st a us k tx td en g)[S.length+3]? = some (.lst td):=by simp[Wk]
theorem wkO {p:Nat}{o:O} (h:S[p]? = some o):(Wk S st a us k tx td en g)[p]? = some o:=yI h _
theorem ws0:(Wk S st a us k tx td en g).set S.length (.ins 4 [some st,some (.ref a),some (.ref (S.length+1)),some (.int k'),some (.ref (S.length+2)),some (.ref (S.length+3)),some en'])=Wk S st a us k' tx td en' g:=by
 unfold Wk;rw[KR _ _ (zg _),GO];rfl
theorem ws1:(Wk S st a us k tx td en g).set (S.length+1) (.dct us')=Wk S st a us' k tx td en g:=by
 unfold Wk;rw[KR _ _ (by lia),show S.length+1 - S.length=1 by lia];rfl
theorem ws2:(Wk S st a us k tx td en g).set (S.length+2) (.lst tx')=Wk S st a us k tx' td en g:=by
 unfold Wk;rw[KR _ _ (by lia),show S.length+2 - S.length=2 by lia];rfl
theorem ws3:(Wk S st a us k tx td en g).set (S.length+3) (.lst td')=Wk S st a us k tx td' en g:=by
 unfold Wk;rw[KR _ _ (by lia),show S.length+3 - S.length=3 by lia];rfl
theorem uX (h:M.S):Wk S st a us k tx td en g++h=Wk S st a us k tx td en (g++h):=by simp[Wk]
end
theorem Lb (S:M.S) (c:D) (st:D) (a:Nat):YJ [.ref S.length,c,st,.ref a] (S++[.ins 4 (jK 7 none)])=.ok .non (Wk S st a [] 0 [] [.tup [.str [112,97,114,116],c,.non]] .non []):=by
 have e:(3:Nat) <= SZ:=by decide
 have f:(1:Nat) <= SZ:=by decide
 have g:(0:Nat) <= SZ:=by decide
 simp[cz,VQ,uM,UT,WU,ue,Up,WB,Yp,e,f,g,Wk,RS.out]
def YV:SM :=
  (Zj 4 6 (zA 0) (zr (zB (eC (.str [102,97,105,108,115])) (zB (zA 1) zC))))
def ka:F:=fn 2 YV
abbrev kK:F:=ka
section
variable {S:M.S}{st:D}{a:Nat}{us:List (D×D)}{k:Int}{tx td:List D}{en:D}{g:M.S}
theorem VC (w:T):kK [.ref S.length,.str w] (Wk S st a us k tx td en g)=.ok .non (Wk S st a us k tx td (zW (ja,w)) g):=by
 have c:(2:Nat) <= SZ:=by decide
 simp[ka,YV,wk0,c,ws0,zW,RS.out]
end
def X7:SM :=
  (sIf (zO cGt (zJ jf (zB (zA 1) zC)) (eC (.int 900)))
  (jA (jS 4 kK (zA 0) (zB (eC (.str [116,111,111,32,108,111,110,103])) zC)))
  (jA (eM .list yl (jG 4 4 (zA 0)) (zB (zA 1) zC))))
def xQ:F:=fn 2 X7
abbrev Zg:F:=xQ
section
variable {S:M.S}{st:D}{a:Nat}{us:List (D×D)}{k:Int}{tx td:List D}{en:D}{g:M.S}
theorem Xj (t:T) (c:t.length <= 900) (i:tx.length <= 5000):Zg [.ref S.length,.str t] (Wk S st a us k tx td en g)=.ok .non (Wk S st a us k (tx++[.str t]) td en g):=by
 have e:t.length <= SZ:=by unfold SZ;lia
 have f:tx.length < SZ:=by unfold SZ;lia
 have h:¬ (900:Int) < (t.length:Int):=by lia
 simp[xQ,X7,e,h,c,wk0,wk2,f,ws2,RS.out]
theorem VG (t:T) (f:900 < t.length) (i:t.length <= 100000):Zg [.ref S.length,.str t] (Wk S st a us k tx td en g)=.ok .non (Wk S st a us k tx td (zW (ja,yQ)) g):=by
 have c:t.length <= SZ:=by unfold SZ;lia
 have h:(900:Int) < (t.length:Int):=by lia
 have e:=VC (S:=S) (st:=st) (a:=a) (us:=us) (k:=k) (tx:=tx) (td:=td) (en:=en) (g:=g) yQ;simp[xQ,X7,c,h,wk0,-ka,e,RS.out]
end
def kA:SM :=
  (sIf (zO cEq (eOp zH (zA 1) (eC (.int 0))) (eC (.str [116,101,120,116])))
  (zh (eOp zH (zA 1) (eC (.int 1))))
  z8)
def Xq:SM :=
  (sIf (zO cEq (eOp zH (zA 1) (eC (.int 0))) (eC (.str [108,105,110,101])))
  (zh (eC (.str [10])))
  z8)
def VX:SM :=
  (sIf (zO cEq (eOp zH (zA 1) (eC (.int 0))) (eC (.str [105,116])))
  (zh (zA 2))
  z8)
def Um:SM :=
  (zh (jG 4 0 (zA 0)))
def xg:SM:=(zG kA (zG Xq (zG VX Um)))
def kY:F:=fn 3 xg
abbrev JS:F:=kY
section
variable {S:M.S}{st:D}{a:Nat}{us:List (D×D)}{k:Int}{tx td:List D}{en:D}{g:M.S}
theorem Hu (t:T) (i:D):JS [.ref S.length,(Tr.txt t).d,i] (Wk S st a us k tx td en g)=.ok (.str t) (Wk S st a us k tx td en g):=by
 simp[kY,xg,kA,Tr.d,at0,at1,RS.out]
theorem gz (i:D):JS [.ref S.length,Tr.line.d,i] (Wk S st a us k tx td en g)=.ok (.str [10]) (Wk S st a us k tx td en g):=by
 simp[kY,xg,kA,Xq,Tr.d,at0,RS.out]
theorem lI (i:D):JS [.ref S.length,Tr.it.d,i] (Wk S st a us k tx td en g)=.ok i (Wk S st a us k tx td en g):=by
 simp[kY,xg,kA,Xq,VX,Tr.d,at0,RS.out]
theorem gv (i:D):JS [.ref S.length,Tr.stem.d,i] (Wk S st a us k tx td en g)=.ok st (Wk S st a us k tx td en g):=by
 simp[kY,xg,kA,Xq,VX,Um,Tr.d,at0,wk0,RS.out]
end
def XS:SM :=
  (sIf (zO cIn (zA 1) (jG 4 1 (zA 0)))
  (zG (yw (jG 4 2 (zA 0)) (zA 1) (eC (.bl true)))
  (jA (jS 4 Zg (zA 0) (zB (eOp zH (jG 4 1 (zA 0)) (zA 1)) zC))))
  (Zj 4 6 (zA 0) (zr (zB (eC (.str [97,115,107,115])) (zB (zA 1) zC)))))
def kT:F:=fn 2 XS
abbrev QW:F:=kT
section
variable {S:M.S}{st:D}{a:Nat}{us:List (D×D)}{k:Int}{tx td:List D}{en:D}{g:M.S}{ans:List (T×T)}
theorem LU (ha:S[a]? = some (.dct (ans.map pd))) {v:T} (h:zt ans x=some v) (hv:v.length <= 900) (c:tx.length <= 5000) (i:us.length <= 5000):QW [.ref S.length,.str x] (Wk S st a us k tx td en g)=.ok .non (Wk S st a (ym (.str x) (.bl true) us) k (tx++[.str v]) td en g):=by
 have hi:=Wp (wkO (st:=st) (a:=a) (us:=us) (k:=k) (tx:=tx) (td:=td) (en:=en) (g:=g) ha) x;rw[h] at hi;have e:=λus=>fm (wkO (st:=st) (a:=a) (us:=us) (k:=k) (tx:=tx) (td:=td) (en:=en) (g:=g) ha) h;have z:us.length < SZ:=by unfold SZ;lia
 have f:=Xj (S:=S) (st:=st) (a:=a) (us:=ym (.str x) (.bl true) us) (k:=k) (tx:=tx) (td:=td) (en:=en) (g:=g) v hv c;simp[kT,XS,wk0,wk1,-inD,hi,-zH,e,qU,z,ws1,-xQ,f,RS.out]
theorem IF (ha:S[a]? = some (.dct (ans.map pd))) (h:zt ans x=none):QW [.ref S.length,.str x] (Wk S st a us k tx td en g)=.ok .non (Wk S st a us k tx td (zW (jh,x)) g):=by
 have hi:=Wp (wkO (st:=st) (a:=a) (us:=us) (k:=k) (tx:=tx) (td:=td) (en:=en) (g:=g) ha) x;rw[h] at hi;have c:(2:Nat) <= SZ:=by decide
 simp[kT,XS,wk0,-inD,hi,c,ws0,zW,RS.out]
end
def UW:SM :=
  (qZ (Kh (zA 1)) (zq 3)
  (jA (eM .list yl (jG 4 5 (zA 0)) (zB (zr (zB (eC (.str [112,97,114,116])) (zB (zA 3) (zB (zA 2) zC)))) zC))))
def Kp:F:=fn 4 UW
abbrev XJ:F:=Kp
section
variable {S:M.S}{st:D}{a:Nat}{us:List (D×D)}{k:Int}{tx td:List D}{en:D}{g:M.S}
noncomputable def ptD (i p:D):D:=.tup [.str [112,97,114,116],p,i]
abbrev uT:SM:=(jA (eM .list yl (jG 4 5 (zA 0)) (zB (zr (zB (eC (.str [112,97,114,116])) (zB (zA 3) (zB (zA 2) zC)))) zC)))
theorem Bl (c:Option D) (i:D):∀ (ps:List D) (td:List D) (v:Option D),td.length+ps.length <= 5000->∃ f,qK [] (qO (zq 3) uT) ps [some (.ref S.length),c,some i,v] (Wk S st a us k tx td en g)=.nx [some (.ref S.length),c,some i,f] (Wk S st a us k tx (td++ps.map (ptD i)) en g)
 | [],td,v,_=>⟨v,by simp[qK]⟩
 | p::ps,td,v,h=>by
  rw[jE] at h;have z:td.length < SZ:=by unfold SZ;lia
  have j:(3:Nat) <= SZ:=by decide
  have l:∀ s,zj [] s=true:=λ_=>rfl;obtain⟨f,e⟩:=Bl c i ps (td++[ptD i p]) (some p) (by simp;lia);refine⟨f,?_⟩;have m:qO (zq 3) uT p [some (.ref S.length),c,some i,v] (Wk S st a us k tx td en g)=.nx [some (.ref S.length),c,some i,some p] (Wk S st a us k tx (td++[ptD i p]) en g):=by
   simp[wk0,wk3,z,j,ws3,ptD]
  rw[qK,m];dsimp only;rw[if_pos (l _),e];simp
theorem Ye (i:D) (ps:List D) (h:td.length+ps.length <= 5000):XJ [.ref S.length,.tup ps,i] (Wk S st a us k tx td en g)=.ok .non (Wk S st a us k tx (td++ps.reverse.map (ptD i)) en g):=by
 have c:∀ s,zj [] s=true:=λ_=>rfl;obtain⟨f,e⟩:=Bl (S:=S) (st:=st) (a:=a) (us:=us) (k:=k) (tx:=tx) (en:=en) (g:=g) (some (.tup ps)) i ps.reverse td none (by rw[k6];exact h);show (qZ (Kh (zA 1)) (zq 3) uT [some (.ref S.length),some (.tup ps),some i,none] (Wk S st a us k tx td en g)).out=_;simp only[qZ,Kh,zA,jP,jg,R.bind_ok,R.stm_ok,c,if_true,e];rfl
end
def xa:SM :=
  (zG (zP 3 (eOp zH (zA 1) (eC (.int 0))))
  (sIf (zO cEq (zA 3) (eC (.str [106,111,105,110])))
  (zG (jA (eM .list yl (jG 4 5 (zA 0)) (zB (zr (zB (eC (.str [106,111,105,110])) (zB (eOp vV (zJ jf (zB (zA 1) zC)) (eC (.int 1))) zC))) zC)))
  (jA (jS 4 XJ (zA 0) (zB (eSl (zA 1) (qV (eC (.int 1))) yh) (zB (zA 2) zC)))))
  (sIf (zO cEq (zA 3) (eC (.str [105,102])))
  (zG (jA (eM .list yl (jG 4 5 (zA 0)) (zB (zr (zB (eC (.str [105,102])) (zB (zA 1) (zB (zA 2) zC)))) zC)))
  (jA (jS 4 XJ (zA 0) (zB (eSl (zA 1) (qV (eC (.int 1))) (qV (eC (.int 3)))) (zB (zA 2) zC)))))
  (sIf (zO cEq (zA 3) (eC (.str [101,97,99,104])))
  (zG (jA (eM .list yl (jG 4 5 (zA 0)) (zB (zr (zB (eC (.str [101,97,99,104])) (zB (eOp zH (zA 1) (eC (.int 2))) zC))) zC)))
  (jA (jS 4 XJ (zA 0) (zB (eSl (zA 1) (qV (eC (.int 1))) (qV (eC (.int 2)))) (zB (zA 2) zC)))))
  (zG (jA (eM .list yl (jG 4 5 (zA 0)) (zB (zr (zB (zA 3) zC)) zC)))
  (jA (jS 4 XJ (zA 0) (zB (eSl (zA 1) (qV (eC (.int 1))) yh) (zB (zA 2) zC)))))))))
def ku:F:=fn 4 xa
abbrev xT:F:=ku
section
variable {S:M.S}{st:D}{a:Nat}{us:List (D×D)}{k:Int}{tx td:List D}{en:D}{g:M.S}
theorem g7 (i:D) (ps:List D) (h:td.length+ps.length <= 3000) (m:1 <= ps.length):xT [.ref S.length,.tup (.str ZQ::ps),i] (Wk S st a us k tx td en g)=.ok .non (Wk S st a us k tx (td++[.tup [.str ZQ,.int (ps.length:Int)]]++ps.reverse.map (ptD i)) en g):=by
 have z:td.length < SZ:=by unfold SZ;lia
 have e:(2:Nat) <= SZ:=by decide
 have c:=Ye (S:=S) (st:=st) (a:=a) (us:=us) (k:=k) (tx:=tx) (td:=td++[.tup [.str ZQ,.int (ps.length:Int)]]) (en:=en) (g:=g) i ps (by simp;lia);have f:cut (D.str ZQ::ps) (some 1) none=ps:=by rw[KD _ (by decide)];rfl
 have j:¬ (sIx (ps.length+1) 0 (some 1)=0):=by unfold sIx;simp;lia
 have l:((ps.length:Int)+1) - 1=(ps.length:Int):=by lia
 simp[ku,xa,at0,wk0,wk3,z,e,ws3,f,j,l,-Kp,c,RS.out]
theorem IT (i p q x y:D) (h:td.length <= 3000):xT [.ref S.length,.tup [.str tIf,p,q,x,y],i] (Wk S st a us k tx td en g)=.ok .non (Wk S st a us k tx (td++[.tup [.str tIf,.tup [.str tIf,p,q,x,y],i],ptD i q,ptD i p]) en g):=by
 have z:td.length < SZ:=by unfold SZ;lia
 have e:(3:Nat) <= SZ:=by decide
 have c:=Ye (S:=S) (st:=st) (a:=a) (us:=us) (k:=k) (tx:=tx) (td:=td++[.tup [.str tIf,.tup [.str tIf,p,q,x,y],i]]) (en:=en) (g:=g) i [p,q] (by simp;lia);have f:cut [D.str tIf,p,q,x,y] (some 1) (some 3)=[p,q]:=rfl;have j:¬ (sIx 5 0 (some 1)=0):=by decide
 simp[ku,xa,at0,wk0,wk3,z,e,ws3,f,j,-Kp,c,RS.out]
theorem Hw (i p q:D) (h:td.length <= 3000):xT [.ref S.length,.tup [.str QG,p,q],i] (Wk S st a us k tx td en g)=.ok .non (Wk S st a us k tx (td++[.tup [.str QG,q],ptD i p]) en g):=by
 have z:td.length < SZ:=by unfold SZ;lia
 have e:(2:Nat) <= SZ:=by decide
 have c:=Ye (S:=S) (st:=st) (a:=a) (us:=us) (k:=k) (tx:=tx) (td:=td++[.tup [.str QG,q]]) (en:=en) (g:=g) i [p] (by simp;lia);have f:cut [D.str QG,p,q] (some 1) (some 2)=[p]:=rfl;have j:¬ (sIx 3 0 (some 1)=0):=by decide
 have l:atI [D.str QG,p,q] 2=some q:=rfl;simp[ku,xa,at0,l,wk0,wk3,z,e,ws3,f,j,-Kp,c,RS.out]
theorem fi (hw:W7 w) (i p:D) (h:td.length <= 3000):xT [.ref S.length,.tup [.str w,p],i] (Wk S st a us k tx td en g)=.ok .non (Wk S st a us k tx (td++[.tup [.str w],ptD i p]) en g):=by
 have z:td.length < SZ:=by unfold SZ;lia
 have e:(1:Nat) <= SZ:=by decide
 have f:¬ w=[106,111,105,110]:=by rcases hw with rfl | rfl | rfl | rfl | rfl | rfl | rfl<;>decide
 have j:¬ w=[105,102]:=by rcases hw with rfl | rfl | rfl | rfl | rfl | rfl | rfl<;>decide
 have l:¬ w=[101,97,99,104]:=by rcases hw with rfl | rfl | rfl | rfl | rfl | rfl | rfl<;>decide
 have c:=Ye (S:=S) (st:=st) (a:=a) (us:=us) (k:=k) (tx:=tx) (td:=td++[.tup [.str w]]) (en:=en) (g:=g) i [p] (by simp;lia);have m:cut [D.str w,p] (some 1) none=[p]:=rfl;have n:sIx 2 0 (some 1)=1:=rfl;simp[ku,xa,at0,f,j,l,wk0,wk3,z,e,ws3,m,n,-Kp,c,RS.out]
end
def Zt:SM :=
  (zG (QC JN 4 3 (zA 0) (eC (.int 1)))
  (sIf (zO cGt (jG 4 3 (zA 0)) (eC (.int 500)))
  (jA (jS 4 kK (zA 0) (zB (eC (.str [116,111,111,32,109,117,99,104])) zC)))
  (sIf (zO cIn (eOp zH (zA 1) (eC (.int 0))) (zr (zB (eC (.str [116,101,120,116])) (zB (eC (.str [108,105,110,101])) (zB (eC (.str [105,116])) (zB (eC (.str [115,116,101,109])) zC))))))
  (jA (jS 4 Zg (zA 0) (zB (jS 4 JS (zA 0) (zB (zA 1) (zB (zA 2) zC))) zC)))
  (sIf (zO cEq (eOp zH (zA 1) (eC (.int 0))) (eC (.str [116,104,105,110,103])))
  (jA (jS 4 QW (zA 0) (zB (eOp zH (zA 1) (eC (.int 1))) zC)))
  (sIf (zO cEq (eOp zH (zA 1) (eC (.int 0))) (eC (.str [107,105,110])))
  (jA (jS 4 QW (zA 0) (zB (eOp zo (eOp zo (eOp zH (zA 1) (eC (.int 1))) (eC (.str [46]))) (jG 4 0 (zA 0))) zC)))
  (jA (jS 4 xT (zA 0) (zB (zA 1) (zB (zA 2) zC)))))))))
def mh:F:=fn 3 Zt
abbrev Q7:F:=mh
section
variable {S:M.S}{st:D}{a:Nat}{us:List (D×D)}{k:Int}{tx td:List D}{en:D}{g:M.S}{ans:List (T×T)}
theorem Kj (b i:D) (r:SM):(QC JN 4 3 (zA 0) (eC (.int 1)) [some (.ref S.length),some b,some i] (Wk S st a us k tx td .non g)).then r=r [some (.ref S.length),some b,some i] (Wk S st a us (k+1) tx td .non g):=by
 simp[wk0,ws0]
theorem Gm (b i:D) (f:500 <= k):Q7 [.ref S.length,b,i] (Wk S st a us k tx td .non g)=.ok .non (Wk S st a us (k+1) tx td (zW (ja,Xk)) g):=by
 have c:500 < k+1:=by lia
 have e:=VC (S:=S) (st:=st) (a:=a) (us:=us) (k:=k+1) (tx:=tx) (td:=td) (en:=.non) (g:=g) Xk;show (Zt [some (.ref S.length),some b,some i] (Wk S st a us k tx td .non g)).out=_;unfold Zt;show (((QC JN 4 3 (zA 0) (eC (.int 1)) [some (.ref S.length),some b,some i] (Wk S st a us k tx td .non g)).then _).out)=_;rw[Kj];simp[wk0,c,-ka,e,RS.out]
theorem GI {b i:D}{w t:T}{r:List D} (f:b=.tup (.str w::r)) (hw:w=[116,101,120,116]\/w=[108,105,110,101]\/w=[105,116]\/w=[115,116,101,109]) (h:∀ k,JS [.ref S.length,b,i] (Wk S st a us k tx td .non g)=.ok (.str t) (Wk S st a us k tx td .non g)) (j:t.length <= 100000) (l:tx.length <= 5000) (q:k <= 499):Q7 [.ref S.length,b,i] (Wk S st a us k tx td .non g)=.ok .non (if 900 < t.length then Wk S st a us (k+1) tx td (zW (ja,yQ)) g else Wk S st a us (k+1) (tx++[.str t]) td .non g):=by
 have m:(4:Nat) <= SZ:=by decide
 have n:¬ 500 < k+1:=by lia
 have hm:ZY (.str w) [D.str [116,101,120,116],D.str [108,105,110,101],D.str [105,116],D.str [115,116,101,109]]=true:=by rcases hw with rfl | rfl | rfl | rfl<;>decide
 have c:=h (k+1);have o:Zg [.ref S.length,.str t] (Wk S st a us (k+1) tx td .non g)=.ok .non (if 900 < t.length then Wk S st a us (k+1) tx td (zW (ja,yQ)) g else Wk S st a us (k+1) (tx++[.str t]) td .non g):=by
  by_cases e:900 < t.length
  ·rw[if_pos e,VG t e j]
  ·rw[if_neg e,Xj t (by lia) l]
 show (Zt [some (.ref S.length),some b,some i] (Wk S st a us k tx td .non g)).out=_;unfold Zt;show (((QC JN 4 3 (zA 0) (eC (.int 1)) [some (.ref S.length),some b,some i] (Wk S st a us k tx td .non g)).then _).out)=_;rw[Kj];generalize (if 900 < t.length then Wk S st a us (k+1) tx td (zW (ja,yQ)) g else Wk S st a us (k+1) (tx++[.str t]) td .non g)=u at *;have p:∀ s,zH b (.int 0) s=.ok (.str w) s:=λs=>by rw[f];simp[at0]
 simp[wk0,n,-zH,p,flat,hm,m,-kY,-xQ,c,o,RS.out]
theorem Di {i:D}{n:T}{c:M.S} (e:QW [.ref S.length,.str n] (Wk S st a us (k+1) tx td .non g)=.ok .non c) (j:k <= 499):Q7 [.ref S.length,(Tr.thing n).d,i] (Wk S st a us k tx td .non g)=.ok .non c:=by
 have f:(4:Nat) <= SZ:=by decide
 have h:¬ 500 < k+1:=by lia
 show (Zt [some (.ref S.length),some (Tr.thing n).d,some i] (Wk S st a us k tx td .non g)).out=_;unfold Zt;show (((QC JN 4 3 (zA 0) (eC (.int 1)) [some (.ref S.length),some (Tr.thing n).d,some i] (Wk S st a us k tx td .non g)).then _).out)=_;rw[Kj];simp only[Tr.d];simp[wk0,h,at0,at1,flat,ZY,eqF,f,-kT,e,RS.out]
theorem gS {i:D}{n x:T}{c:M.S} (hs:st=.str x) (m:x.length <= 1000) (o:n.length <= 1000) (e:QW [.ref S.length,.str (n++[46]++x)] (Wk S st a us (k+1) tx td .non g)=.ok .non c) (p:k <= 499):Q7 [.ref S.length,(Tr.kin n).d,i] (Wk S st a us k tx td .non g)=.ok .non c:=by
 have f:(4:Nat) <= SZ:=by decide
 have h:¬ 500 < k+1:=by lia
 have j:n.length+1 <= SZ:=by unfold SZ;lia
 have l:n.length+1+x.length <= SZ:=by unfold SZ;lia
 subst hs;simp only[qy,Vv,XG] at e;show (Zt [some (.ref S.length),some (Tr.kin n).d,some i] (Wk S (.str x) a us k tx td .non g)).out=_;unfold Zt;show (((QC JN 4 3 (zA 0) (eC (.int 1)) [some (.ref S.length),some (Tr.kin n).d,some i] (Wk S (.str x) a us k tx td .non g)).then _).out)=_;rw[Kj];simp only[Tr.d];simp[wk0,h,at0,at1,flat,ZY,eqF,f,j,l,-kT,e,RS.out]
theorem YZ {b i:D}{w:T}{r:List D}{c:M.S} (e:b=.tup (.str w::r)) (hw:W7 w\/w=ZQ\/w=tIf\/w=QG) (hi:xT [.ref S.length,b,i] (Wk S st a us (k+1) tx td .non g)=.ok .non c) (n:k <= 499):Q7 [.ref S.length,b,i] (Wk S st a us k tx td .non g)=.ok .non c:=by
 have f:(4:Nat) <= SZ:=by decide
 have h:¬ 500 < k+1:=by lia
 have hm:ZY (.str w) [D.str [116,101,120,116],D.str [108,105,110,101],D.str [105,116],D.str [115,116,101,109]]=false:=by rcases hw with (rfl | rfl | rfl | rfl | rfl | rfl | rfl) | rfl | rfl | rfl<;>decide
 have j:¬ w=[116,104,105,110,103]:=by rcases hw with (rfl | rfl | rfl | rfl | rfl | rfl | rfl) | rfl | rfl | rfl<;>decide
 have l:¬ w=[107,105,110]:=by rcases hw with (rfl | rfl | rfl | rfl | rfl | rfl | rfl) | rfl | rfl | rfl<;>decide
 have m:∀ s,zH b (.int 0) s=.ok (.str w) s:=λs=>by rw[e];simp[at0]
 show (Zt [some (.ref S.length),some b,some i] (Wk S st a us k tx td .non g)).out=_;unfold Zt;show (((QC JN 4 3 (zA 0) (eC (.int 1)) [some (.ref S.length),some b,some i] (Wk S st a us k tx td .non g)).then _).out)=_;rw[Kj];simp[wk0,h,-zH,m,flat,hm,j,l,f,-ku,hi,RS.out]
end
def K8:SM :=
  (zG (zP 2 (qr 1 (qi (zA 1)) (zq 3) jk (eM .list qq (jG 4 4 (zA 0)) zC)))
  (jA (jS 4 Zg (zA 0) (zB (eUn (V4 []) (zA 2)) zC))))
def Hh:F:=fn 3 K8
abbrev xW:F:=Hh
section
variable {S:M.S}{st:D}{a:Nat}{us:List (D×D)}{k:Int}{tx td:List D}{g:M.S}
theorem CU (c e:Option D):∀ (ys ds:List D),ds.length=ys.length->qt [] (qu 1 (zq 3) jk (eM .list qq (jG 4 4 (zA 0)) zC) [some (.ref S.length),c,e]) ds (Wk S st a us k (tx++ys.reverse) td .non g)=.ok ys (Wk S st a us k tx td .non g)
 | [],[],_=>by simp[qt]
 | [],_::_,h=>by cases h
 | _::_,[],h=>by cases h
 | y::ys,d::ds,h=>by
  have f:=CU c e ys ds (by simpa using h);have i:∀ s,zj [] s=true:=λ_=>rfl;have j:qu 1 (zq 3) jk (eM .list qq (jG 4 4 (zA 0)) zC) [some (.ref S.length),c,e] d (Wk S st a us k (tx++ys.reverse++[y]) td .non g)=.ok (some y) (Wk S st a us k (tx++ys.reverse) td .non g):=by
   simp[wk0,wk2,ws2]
  rw[YU,<- qy,qt,j,R.bind_ok,if_pos (i _),f];rfl
theorem I7 (xs:List T) (f:(xs.map List.length).sum <= 100000) (s:M.S) {p:Nat} (c:s[p]? = some (.lst (xs.map D.str).reverse)):V4 [] (.ref p) s=.ok (.str xs.flatten) s:=by
 have e:zv s p=some (xs.map D.str).reverse:=by simp[zv,c]
 have z:(xs.map List.length).sum+xs.length * 0 <= SZ:=by unfold SZ;lia
 simp only[V4,e,UV];unfold yP;rw[Ub];dsimp only;rw[qz,if_pos z,CB]
theorem c6 (xs:List T) (n:xs.length <= 3000) (i:(xs.map List.length).sum <= 100000) (r:R D):(Zg [.ref S.length,.str xs.flatten] (Wk S st a us k tx td .non (g++[.lst (xs.map D.str).reverse]))=r)->(∀ d s,r=.ok d s->d=.non)->(∃ d s,r=.ok d s)->xW [.ref S.length,.int (xs.length:Int)] (Wk S st a us k (tx++xs.map .str) td .non g)=r:=by
 intro h hd ⟨d,s,e⟩;have c:=hd d s e;subst e;subst c;have j:(xs.length:Int).natAbs < 4611686018427387904:=by lia
 have f:=CU (S:=S) (st:=st) (a:=a) (us:=us) (k:=k) (tx:=tx) (td:=td) (g:=g) (some (.int (xs.length:Int))) none (xs.map D.str).reverse (ju 0 (xs.length:Int)) (by simp[ju]);rw[UV] at f;have z:(ju 0 (xs.length:Int)).length <= SZ:=by simp only[ju,jH,Yo];unfold SZ;lia
 have l:jz 1 (qi (zA 1)) (zq 3) jk (eM .list qq (jG 4 4 (zA 0)) zC) [some (.ref S.length),some (.int (xs.length:Int)),none] (Wk S st a us k (tx++xs.map .str) td .non g)=.ok (xs.map D.str).reverse (Wk S st a us k tx td .non g):=by
  unfold jz;simp only[qi,zA,jP,jg,R.bind_ok,j,if_true];rw[if_pos ⟨z,rfl⟩];exact f
 have m:=I7 xs i (Wk S st a us k tx td .non (g++[.lst (xs.map D.str).reverse])) (p:=(Wk S st a us k tx td .non g).length) (by rw[<- uX,DC]);show (K8 [some (.ref S.length),some (.int (xs.length:Int)),none] (Wk S st a us k (tx++xs.map .str) td .non g)).out=_;unfold K8;simp only[zG,zP,qr,l,R.bind_ok,alloc,R.stm_ok,ZV,Ze,RS.then_nx,uX,jA,jS,zA,jP,jg,wk0,if_true,zB,zC,eUn,m,h];rfl
theorem GW (xs:List T) (c:xs.length <= 3000) (f:tx.length <= 5000) (h:xs.flatten.length <= 900):xW [.ref S.length,.int (xs.length:Int)] (Wk S st a us k (tx++xs.map .str) td .non g)=.ok .non (Wk S st a us k (tx++[.str xs.flatten]) td .non (g++[.lst (xs.map D.str).reverse])):=by
 have hs:(xs.map List.length).sum <= 100000:=by rw[<- F8];lia
 have i:=Xj (S:=S) (st:=st) (a:=a) (us:=us) (k:=k) (tx:=tx) (td:=td) (en:=.non) (g:=g++[.lst (xs.map D.str).reverse]) xs.flatten h f;exact c6 xs c hs _ i (λd s e=>by cases e;rfl) ⟨_,_,rfl⟩
theorem gW (xs:List T) (c:xs.length <= 3000) (f:900 < xs.flatten.length) (h:xs.flatten.length <= 100000):xW [.ref S.length,.int (xs.length:Int)] (Wk S st a us k (tx++xs.map .str) td .non g)=.ok .non (Wk S st a us k tx td (zW (ja,yQ)) (g++[.lst (xs.map D.str).reverse])):=by
 have hs:(xs.map List.length).sum <= 100000:=by rw[<- F8];lia
 have i:=VG (S:=S) (st:=st) (a:=a) (us:=us) (k:=k) (tx:=tx) (td:=td) (en:=.non) (g:=g++[.lst (xs.map D.str).reverse]) xs.flatten f h;exact c6 xs c hs _ i (λd s e=>by cases e;rfl) ⟨_,_,rfl⟩
end
def Xo:SM :=
  (zG (zP 3 (eM .list qq (jG 4 4 (zA 0)) zC))
  (zG (zP 4 (eM .list qq (jG 4 4 (zA 0)) zC))
  (jA (eM .list yl (jG 4 5 (zA 0)) (zB (zr (zB (eC (.str [112,97,114,116])) (zB (eIf (zO cEq (zA 4) (zA 3)) (eOp zH (zA 1) (eC (.int 3))) (eOp zH (zA 1) (eC (.int 4)))) (zB (zA 2) zC)))) zC)))))
def Fm:F:=fn 5 Xo
abbrev KU:F:=Fm
section
variable {S:M.S}{st:D}{a:Nat}{us:List (D×D)}{k:Int}{tx td:List D}{en:D}{g:M.S}{ans:List (T×T)}
theorem at3 (x y z w:D) (r:List D):atI (x::y::z::w::r) 3=some w:=by
 unfold atI ixN;rw[if_pos (by decide),if_pos (by simp only[jE];lia)];rfl
theorem at4 (x y z w v:D) (r:List D):atI (x::y::z::w::v::r) 4=some v:=by
 unfold atI ixN;rw[if_pos (by decide),if_pos (by simp only[jE];lia)];rfl
theorem fo (i p q x y:D) (t u:T) (h:td.length <= 5000):KU [.ref S.length,.tup [.str tIf,p,q,x,y],i] (Wk S st a us k (tx++[.str t]++[.str u]) td .non g)=.ok .non (Wk S st a us k tx (td++[ptD i (if t=u then x else y)]) .non g):=by
 have z:td.length < SZ:=by unfold SZ;lia
 have c:(3:Nat) <= SZ:=by decide
 have f:∀ (v:Option D) (r:SM),(zP 3 (eM .list qq (jG 4 4 (zA 0)) zC) [some (.ref S.length),some (.tup [.str tIf,p,q,x,y]),some i,none,none] (Wk S st a us k (tx++[.str t]++[.str u]) td .non g)).then r=r [some (.ref S.length),some (.tup [.str tIf,p,q,x,y]),some i,some (.str u),none] (Wk S st a us k (tx++[.str t]) td .non g):=λv r=>by
  simp[wk0,wk2,ws2,-qy]
 have j:∀ (r:SM),(zP 4 (eM .list qq (jG 4 4 (zA 0)) zC) [some (.ref S.length),some (.tup [.str tIf,p,q,x,y]),some i,some (.str u),none] (Wk S st a us k (tx++[.str t]) td .non g)).then r=r [some (.ref S.length),some (.tup [.str tIf,p,q,x,y]),some i,some (.str u),some (.str t)] (Wk S st a us k tx td .non g):=λr=>by
  simp[wk0,wk2,ws2]
 show (Xo [some (.ref S.length),some (.tup [.str tIf,p,q,x,y]),some i,none,none] (Wk S st a us k (tx++[.str t]++[.str u]) td .non g)).out=_;unfold Xo;show (((zP 3 _ _ _).then (zG _ _)).out)=_;rw[f none];show (((zP 4 _ _ _).then _).out)=_;rw[j];by_cases e:t=u
 ·simp[wk0,wk3,ws3,z,c,e,at3,ptD,RS.out]
 ·simp[wk0,wk3,ws3,z,c,e,at4,ptD,RS.out]
end
def w8:SM :=
  (zh (qr 1 (iE (eM .str KJ (eM .str uG (zA 0) (zB (eC (.str [10])) (zB (eC (.str [32])) zC))) (zB (eC (.str [32])) zC))) (zq 1) (zO cNe (zA 1) (eC (.str []))) (zA 1)))
def bG:F:=fn 1 w8
def ZH:F
 | [.str x],s=>if x.length <= 100000 then alloc (.lst ((z9 x).map .str)) s else .no
 | _,_=>.no
theorem E2:jM 1 bG ZH:=jM.new λds S i c n=>by
 match ds,i with
 | [.str x],_ =>
  by_cases f:x.length <= 100000
  ·have j:2 * x.length+1 <= SZ:=by unfold SZ;lia
   have l:x.length+2 <= SZ:=by unfold SZ;lia
   have hs:=uI 32 (qv x);have m:(qv x).length=x.length:=by simp[qv]
   have e:jz 1 (iE (eM .str KJ (eM .str uG (zA 0) (zB (eC (.str [10])) (zB (eC (.str [32])) zC))) (zB (eC (.str [32])) zC))) (zq 1) (zO cNe (zA 1) (eC (.str []))) (zA 1) [some (.str x)] S=.ok ((z9 x).map .str) (S++[.lst ((jO 32 (qv x)).map .str)]) :=
    Dd (ts:=jO 32 (qv x)) (g:=[(S.length,.lst ((jO 32 (qv x)).map .str))]) (λw=>decide (w≠[])) (by simp[j,l];rfl) (by unfold SZ;lia) (by simp[zj]) λw _=>by by_cases h:w=[]<;>simp[h]
   refine .inr ⟨.lst ((z9 x).map .str),S.length+1,[.lst ((jO 32 (qv x)).map .str),.lst ((z9 x).map .str)],by simp[ZH,f],by simp[bG,w8,e],by simp,by lia,wM _ _⟩
  ·exact .inl (by simp[ZH,f])
 | [.non],_=>exact .inl rfl
 | [.bl _],_=>exact .inl rfl
 | [.int _],_=>exact .inl rfl
 | [.ty _],_=>exact .inl rfl
 | [.ref _],_=>exact .inl rfl
 | [.tup _],_=>exact .inl rfl
 | [.ro _],_=>exact .inl rfl
def KW:SM :=
  (sIf (zO cLt (zA 3) (zJ jf (zB (zA 2) zC)))
  (zG (jA (eM .list yl (jG 4 5 (zA 0)) (zB (zr (zB (eC (.str [114,111,117,110,100])) (zB (zA 1) (zB (zA 2) (zB (eOp zo (zA 3) (eC (.int 1))) zC))))) zC)))
  (jA (eM .list yl (jG 4 5 (zA 0)) (zB (zr (zB (eC (.str [112,97,114,116])) (zB (zA 1) (zB (eOp zH (zA 2) (zA 3)) zC)))) zC))))
  z8)
def vB:F:=fn 4 KW
abbrev Qs:F:=vB
section
variable {S:M.S}{st:D}{a:Nat}{us:List (D×D)}{k:Int}{tx td:List D}{en:D}{g:M.S}{ans:List (T×T)}
def rdD (b:D) (l:Nat) (j:Int):D:=.tup [.str Hj,b,.ref l,.int j]
theorem EB (b:D) {l:Nat}{ws:List T} (c:(Wk S st a us k tx td en g)[l]? = some (.lst (ws.map .str))) {j:Nat} (e:ws.length <= j):Qs [.ref S.length,b,.ref l,.int (j:Int)] (Wk S st a us k tx td en g)=.ok .non (Wk S st a us k tx td en g):=by
 have h:¬ ((j:Int) < (ws.length:Int)):=by lia
 simp[vB,KW,c,h,RS.out]
theorem Lp (b:D) {l:Nat}{ws:List T} (c:∀ td,(Wk S st a us k tx td en g)[l]? = some (.lst (ws.map .str))) {j:Nat} (m:j < ws.length) (n:td.length <= 5000):Qs [.ref S.length,b,.ref l,.int (j:Int)] (Wk S st a us k tx td en g)=.ok .non (Wk S st a us k tx (td++[rdD b l ((j:Int)+1),ptD (.str (ws.getD j [])) b]) en g):=by
 have h:(j:Int) < (ws.length:Int):=by lia
 have z:td.length < SZ:=by unfold SZ;lia
 have e:td.length+1 < SZ:=by unfold SZ;lia
 have f:(3:Nat) <= SZ:=by decide
 have i:(4:Nat) <= SZ:=by decide
 have x:atI (ws.map D.str) (j:Int)=some (.str (ws.getD j [])):=by
  rw[Qb (d:=.str []) (by lia) (by simpa using h),Yb,qP,qP,qX];cases ws[j]?<;>rfl
 generalize ws.getD j []=w at *;simp[vB,KW,c,h,wk0,wk3,ws3,z,e,f,i,x,rdD,ptD,RS.out]
def ZL (b:D) (l:Nat) (ws:List T) (j:Nat):List D:=if j < ws.length then [rdD b l ((j:Int)+1),ptD (.str (ws.getD j [])) b] else []
theorem wkG (n:Nat):(Wk S st a us k tx td en g)[S.length+4+n]? = g[n]? := by
 unfold Wk;rw[Zh (by lia),show S.length+4+n - S.length=n+1+1+1+1 by lia];simp
theorem Uz (b:D) {n:Nat}{ws:List T} (f:g[n]? = some (.lst (ws.map .str))) (j:Nat) (h:td.length <= 5000):Qs [.ref S.length,b,.ref (S.length+4+n),.int (j:Int)] (Wk S st a us k tx td en g)=.ok .non (Wk S st a us k tx (td++ZL b (S.length+4+n) ws j) en g):=by
 have e:∀ td,(Wk S st a us k tx td en g)[S.length+4+n]? = some (.lst (ws.map .str)):=λtd=>by rw[wkG];exact f
 unfold ZL;by_cases c:j < ws.length
 ·rw[if_pos c];exact Lp b e c h
 ·rw[if_neg c,qw];exact EB b (e td) (by lia)
end
def WD:SM :=
  (zG (zP 2 (zJ ZH (zB (eM .list qq (jG 4 4 (zA 0)) zC) zC)))
  (zG (jA (eM .list yl (jG 4 4 (zA 0)) (zB (eC (.str [])) zC)))
  (jA (jS 4 Qs (zA 0) (zB (zA 1) (zB (zA 2) (zB (eC (.int 0)) zC)))))))
def Im:F:=fn 3 WD
abbrev Ka:F:=Im
section
variable {S:M.S}{st:D}{a:Nat}{us:List (D×D)}{k:Int}{tx td:List D}{en:D}{g:M.S}{ans:List (T×T)}
theorem HF (b:D) (t:T) (j:t.length <= 2000) (l:tx.length <= 5000) (hd:td.length <= 5000):Ka [.ref S.length,b] (Wk S st a us k (tx++[.str t]) td .non g)=.ok .non (Wk S st a us k (tx++[.str []]) (td++ZL b (S.length+4+g.length) (z9 t) 0) .non (g++[.lst ((z9 t).map .str)])):=by
 have z:tx.length < SZ:=by unfold SZ;lia
 have hq:∀ s,ZH [.str t] s=.ok (.ref s.length) (s++[.lst ((z9 t).map .str)]):=λs=>by
  simp only[ZH];rw[if_pos (by lia)];rfl
 have e:(Wk S st a us k tx td .non g).length=S.length+4+g.length:=by simp[Wk];lia
 have f:=Uz (S:=S) (st:=st) (a:=a) (us:=us) (k:=k) (tx:=tx++[.str []]) (td:=td) (en:=.non) (g:=g++[.lst ((z9 t).map .str)]) b (n:=g.length) (ws:=z9 t) (by simp) 0 hd;generalize z9 t=ws at *;have h:(zP 2 (zJ ZH (zB (eM .list qq (jG 4 4 (zA 0)) zC) zC))) [some (.ref S.length),some b,none] (Wk S st a us k (tx++[.str t]) td .non g)=.nx [some (.ref S.length),some b,some (.ref (S.length+4+g.length))] (Wk S st a us k tx td .non (g++[.lst (ws.map .str)])):=by
  simp[wk0,wk2,ws2,hq,e,uX]
 have i:(jA (eM .list yl (jG 4 4 (zA 0)) (zB (eC (.str [])) zC))) [some (.ref S.length),some b,some (.ref (S.length+4+g.length))] (Wk S st a us k tx td .non (g++[.lst (ws.map .str)]))=.nx [some (.ref S.length),some b,some (.ref (S.length+4+g.length))] (Wk S st a us k (tx++[.str []]) td .non (g++[.lst (ws.map .str)])):=by
  simp[wk0,wk2,ws2,z]
 show (zG (zP 2 (zJ ZH (zB (eM .list qq (jG 4 4 (zA 0)) zC) zC))) (zG (jA (eM .list yl (jG 4 4 (zA 0)) (zB (eC (.str [])) zC))) (jA (jS 4 Qs (zA 0) (zB (zA 1) (zB (zA 2) (zB (eC (.int 0)) zC)))))) [some (.ref S.length),some b,none] (Wk S st a us k (tx++[.str t]) td .non g)).out=_;rw[zG,h,RS.then_nx,zG,i,RS.then_nx];have c:Qs [.ref S.length,b,.ref (S.length+4+g.length),.int 0] (Wk S st a us k (tx++[.str []]) td .non (g++[.lst (ws.map .str)]))=.ok .non (Wk S st a us k (tx++[.str []]) (td++ZL b (S.length+4+g.length) ws 0) .non (g++[.lst (ws.map .str)])):=f;simp[wk0,-vB,c,RS.out]
end
def WM:SM :=
  (zG (zP 4 (eM .list qq (jG 4 4 (zA 0)) zC))
  (zG (jA (jS 4 Zg (zA 0) (zB (eOp zo (eM .list qq (jG 4 4 (zA 0)) zC) (zA 4)) zC)))
  (jA (jS 4 Qs (zA 0) (zB (zA 1) (zB (zA 2) (zB (zA 3) zC)))))))
def LB:F:=fn 5 WM
abbrev Xb:F:=LB
section
variable {S:M.S}{st:D}{a:Nat}{us:List (D×D)}{k:Int}{tx td:List D}{en:D}{g:M.S}{ans:List (T×T)}
theorem IV (b:D) {n:Nat}{ws:List T} (f:g[n]? = some (.lst (ws.map .str))) (j:Nat) (t x:T) (r:t.length <= 900) (h:x.length <= 900) (i:tx.length <= 5000) (hd:td.length <= 5000):Xb [.ref S.length,b,.ref (S.length+4+n),.int (j:Int)] (Wk S st a us k (tx++[.str t]++[.str x]) td .non g)=.ok .non (if 900 < (t++x).length then Wk S st a us k tx (td++ZL b (S.length+4+n) ws j) (zW (ja,yQ)) g else Wk S st a us k (tx++[.str (t++x)]) (td++ZL b (S.length+4+n) ws j) .non g):=by
 have z:t.length+x.length <= SZ:=by unfold SZ;lia
 have l:(zP 4 (eM .list qq (jG 4 4 (zA 0)) zC)) [some (.ref S.length),some b,some (.ref (S.length+4+n)),some (.int (j:Int)),none] (Wk S st a us k (tx++[.str t]++[.str x]) td .non g)=.nx [some (.ref S.length),some b,some (.ref (S.length+4+n)),some (.int (j:Int)),some (.str x)] (Wk S st a us k (tx++[.str t]) td .non g):=by
  simp[wk0,wk2,ws2,-qy]
 obtain⟨W,m,o,p⟩:∃ W:M.S,(∃ tx' c,W=Wk S st a us k tx' td c g)/\Zg [.ref S.length,.str (t++x)] (Wk S st a us k tx td .non g)=.ok .non W/\Qs [.ref S.length,b,.ref (S.length+4+n),.int (j:Int)] W=.ok .non (if 900 < (t++x).length then Wk S st a us k tx (td++ZL b (S.length+4+n) ws j) (zW (ja,yQ)) g else Wk S st a us k (tx++[.str (t++x)]) (td++ZL b (S.length+4+n) ws j) .non g):=by
  by_cases e:900 < (t++x).length
  ·rw[if_pos e];exact⟨_,⟨_,_,rfl⟩,VG _ e (by rw[jv];lia),Uz b f j hd⟩
  ·rw[if_neg e];exact⟨_,⟨_,_,rfl⟩,Xj _ (by lia) i,Uz b f j hd⟩
 generalize (if 900 < (t++x).length then Wk S st a us k tx (td++ZL b (S.length+4+n) ws j) (zW (ja,yQ)) g else Wk S st a us k (tx++[.str (t++x)]) (td++ZL b (S.length+4+n) ws j) .non g)=s at *;obtain⟨tx',c,rfl⟩:=m;have q:(jA (jS 4 Zg (zA 0) (zB (eOp zo (eM .list qq (jG 4 4 (zA 0)) zC) (zA 4)) zC))) [some (.ref S.length),some b,some (.ref (S.length+4+n)),some (.int (j:Int)),some (.str x)] (Wk S st a us k (tx++[.str t]) td .non g)=.nx [some (.ref S.length),some b,some (.ref (S.length+4+n)),some (.int (j:Int)),some (.str x)] (Wk S st a us k tx' td c g):=by
  simp[wk0,wk2,ws2,z,-xQ,o]
 show (zG (zP 4 (eM .list qq (jG 4 4 (zA 0)) zC)) (zG (jA (jS 4 Zg (zA 0) (zB (eOp zo (eM .list qq (jG 4 4 (zA 0)) zC) (zA 4)) zC))) (jA (jS 4 Qs (zA 0) (zB (zA 1) (zB (zA 2) (zB (zA 3) zC)))))) [some (.ref S.length),some b,some (.ref (S.length+4+n)),some (.int (j:Int)),none] (Wk S st a us k (tx++[.str t]++[.str x]) td .non g)).out=_;rw[zG,l,RS.then_nx,zG,q,RS.then_nx];simp[wk0,-vB,p,RS.out]
end
def wK:SM :=
  (zh (uf cLe cLe (eC (.str [97])) (zA 0) (eC (.str [122]))))
def AX:F:=fn 1 wK
def Xw:F
 | [.str x],s=>.ok (.bl (Zw x)) s
 | _,_=>.no
theorem gO:jM 1 AX Xw:=jM.pure λds S e c f=>by
 match ds,e with
 | [a],_ =>
  cases a with
  | str x=>exact .inr ⟨_,[],rfl,by by_cases h:x < [97]<;>simp[AX,wK,Zw,h],rfl⟩
  | _=>exact .inl rfl
def Zm:SM :=
  (zG (sIf (tOr (qB (qD (zJ yE (zB (zA 0) (zB (eC (.ty .str)) zC))))) (qB (JI cLe cLe (eC (.int 1)) (zJ jf (zB (zA 0) zC)) (eC (.int 8)))))
  (zh (eC (.bl false)))
  z8)
  (zh (Jp (Qd Qf 1 (iE (zA 0)) (zq 1) jk (zJ Xw (zB (zA 1) zC))) (ZG QT (zA 0) (eC (.tup [(.str [111,102]),(.str [105,102]),(.str [105,115]),(.str [116,104,101,110]),(.str [101,108,115,101]),(.str [101,97,99,104]),(.str [100,111]),(.str [105,116]),(.str [98,97,99,107]),(.str [102,105,114,115,116]),(.str [114,101,115,116]),(.str [99,111,117,110,116]),(.str [115,111,114,116,101,100]),(.str [102,97,105,108]),(.str [108,105,110,101]),(.str [109,111,114,101])]))))))
def Z8:F:=fn 1 Zm
def ZF:F
 | [.str x],s=>if x.length <= SZ then .ok (.bl (qH x)) s else .no
 | [d],s=>if yn s d then .ok (.bl false) s else .no
 | _,_=>.no
theorem Dm:jM 1 Z8 ZF:=jM.pure λds S n c r=>by
 match ds,n with
 | [a],_ =>
  cases a with
  | str x =>
   by_cases i:x.length <= SZ
   ·refine .inr ⟨_,[],by simp[ZF,i];rfl,?_,rfl⟩;have e:jz 1 (iE (zA 0)) (zq 1) jk (zJ Xw (zB (zA 1) zC)) [some (.str x)] S=.ok (x.map λc=>.bl (Zw [c])) S :=
     A7 _ (by simp[i]) i λc _=>by simp[Xw]
    by_cases j:1 <= x.length
    ·by_cases l:x.length <= 8
     ·have f:¬ (x.length:Int) < 1:=by lia
      have g:¬ (8:Int) < (x.length:Int):=by lia
      cases m:(x.all λc=>Zw [c]) with
      | true =>
       by_cases q:x∈jI<;>simp[Z8,Zm,i,f,g,j,l,e,all_map,m,qH,EN,va,flat,q]
      | false=>simp[Z8,Zm,i,f,g,j,l,e,all_map,m,qH]
     ·have g:(8:Int) < (x.length:Int):=by lia
      simp[Z8,Zm,i,g,qH,l]
    ·have f:(x.length:Int) < 1:=by lia
     simp[Z8,Zm,i,f,qH,j]
   ·exact .inl (by simp[ZF,i])
  | non=>exact .inr ⟨_,[],rfl,by simp[Z8,Zm],rfl⟩
  | bl b=>exact .inr ⟨_,[],rfl,by simp[Z8,Zm],rfl⟩
  | int b=>exact .inr ⟨_,[],rfl,by simp[Z8,Zm],rfl⟩
  | tup b=>exact .inr ⟨_,[],rfl,by simp[Z8,Zm],rfl⟩
  | ro b=>exact .inr ⟨_,[],rfl,by simp[Z8,Zm],rfl⟩
  | ty b=>exact .inl rfl
  | ref p =>
   cases h:S[p]? with
   | none=>exact .inl (by simp[ZF,yn,h])
   | some o =>
    cases o with
    | lst xs=>exact .inr ⟨_,[],by simp[ZF,yn,h];rfl,by simp[Z8,Zm,h],rfl⟩
    | dct xs=>exact .inr ⟨_,[],by simp[ZF,yn,h];rfl,by simp[Z8,Zm,h],rfl⟩
    | ins c fs=>exact .inl (by simp[ZF,yn,h])
    | fdc _=>exact .inl (by simp[ZF,yn,h])
    | dtt _=>exact .inl (by simp[ZF,yn,h])
    | ftt _=>exact .inl (by simp[ZF,yn,h])
def QQ:SM :=
  (zG (sIf (qB (qD (zJ yE (zB (zA 0) (zB (eC (.ty .str)) zC)))))
  (zh (eC (.bl false)))
  z8)
  (zG (zP 1 (eM .str KJ (zA 0) (zB (eC (.str [46])) zC)))
  (zh (Jp (ZG cLe (zJ jf (zB (zA 1) zC)) (eC (.int 2))) (Qd Qf 1 (iE (zA 1)) (zq 2) jk (zJ ZF (zB (zA 2) zC)))))))
def Qe:F:=fn 2 QQ
def qk (x:T):Bool:=decide ((jO 46 x).length <= 2) && (jO 46 x).all qH
def yx:F
 | [.str x],s=>if x.length+2 <= 10000 then .ok (.bl (qk x)) s else .no
 | [d],s=>if yn s d then .ok (.bl false) s else .no
 | _,_=>.no
theorem dY (c:Nat):∀ x:T,(jO c x).length <= x.length+1
 | []=>by simp[jO]
 | d::r=>by
  have e:=dY c r;unfold jO;split
  ·simp;lia
  ·split<;>simp_all<;>lia
theorem Bb (c:Nat):∀ (x:T),∀ p∈jO c x,p.length <= x.length
 | [],p,h=>by simp[jO] at h;subst h;simp
 | d::r,p,h=>by
  have f:=Bb c r;unfold jO at h;split at h
  ·rcases List.mem_cons.mp h with rfl | h
   ·simp
   ·have:=f p h;simp;lia
  ·split at h
   ·simp at h;subst h;simp
   ·rename_i q g e;rw[e] at f;rcases List.mem_cons.mp h with rfl | h
    ·have:=f q (by simp);simp;lia
    ·have:=f p (by simp[h]);simp;lia
theorem Ee:jM 1 Qe yx:=jM.pure λds S m c v=>by
 match ds,m with
 | [a],_ =>
  cases a with
  | str x =>
   by_cases i:x.length+2 <= 10000
   ·refine .inr ⟨.bl (qk x),[.lst ((jO 46 x).map .str)],by simp[yx,i],?_,rfl⟩;have hs:=dY 46 x;have j:x.length+2 <= SZ:=jr i (by decide);have q:(jO 46 x).length <= SZ:=jr (by lia:_ <= 10000) (by decide);have e:jz 1 (iE (zA 1)) (zq 2) jk (zJ ZF (zB (zA 2) zC)) [some (.str x),some (.ref S.length)] (S++[.lst ((jO 46 x).map .str)])=.ok ((jO 46 x).map λt=>.bl (qH t)) (S++[.lst ((jO 46 x).map .str)]):=by
     have:=Uj (n:=1) (it:=iE (zA 1)) (tg:=zq 2) (e:=zJ ZF (zB (zA 2) zC)) (σ:=[some (.str x),some (.ref S.length)]) (s:=S++[.lst ((jO 46 x).map .str)]) (xs:=(jO 46 x).map .str) (g:=[(S.length,.lst ((jO 46 x).map .str))]) (λd=>match d with | .str y=>.bl (qH y) | _=>.non) (by simp) (by simpa using q) (by simp[zj]) (λd hd=>by
      obtain⟨t,r,rfl⟩:=List.mem_map.mp hd;have:=Bb 46 x t r;have u:t.length <= SZ:=jr (by lia:_ <= 10000) (by decide);simp[ZF,u])
     rw[this,yo];rfl
    by_cases l:(jO 46 x).length <= 2
    ·have f:((jO 46 x).length:Int) <= 2:=by lia
     simp[Qe,QQ,j,e,all_map,f,qk,l]
    ·have f:¬ ((jO 46 x).length:Int) <= 2:=by lia
     simp[Qe,QQ,j,f,qk,l]
   ·exact .inl (by simp[yx];lia)
  | non=>exact .inr ⟨_,[],rfl,by simp[Qe,QQ],rfl⟩
  | bl b=>exact .inr ⟨_,[],rfl,by simp[Qe,QQ],rfl⟩
  | int b=>exact .inr ⟨_,[],rfl,by simp[Qe,QQ],rfl⟩
  | tup b=>exact .inr ⟨_,[],rfl,by simp[Qe,QQ],rfl⟩
  | ro b=>exact .inr ⟨_,[],rfl,by simp[Qe,QQ],rfl⟩
  | ty b=>exact .inl rfl
  | ref p =>
   cases h:S[p]? with
   | none=>exact .inl (by simp[yx,yn,h])
   | some o =>
    cases o with
    | lst xs=>exact .inr ⟨_,[],by simp[yx,yn,h];rfl,by simp[Qe,QQ,h],rfl⟩
    | dct xs=>exact .inr ⟨_,[],by simp[yx,yn,h];rfl,by simp[Qe,QQ,h],rfl⟩
    | ins c fs=>exact .inl (by simp[yx,yn,h])
    | fdc _=>exact .inl (by simp[yx,yn,h])
    | dtt _=>exact .inl (by simp[yx,yn,h])
    | ftt _=>exact .inl (by simp[yx,yn,h])
def Uk:SM :=
  (zh (eM .str QN (eC (.str [32])) (zB (zJ Yz (zB (zJ ZH (zB (zA 0) zC)) zC)) zC)))
def Uc:F:=fn 1 Uk
theorem VJ (c:Nat):∀ (x:T),∀ p∈jO c x,p.length <= x.length
 | [],p,h=>by simp[jO] at h;subst h;simp
 | d::r,p,h=>by
  have f:=VJ c r;unfold jO at h;split at h
  ·rcases List.mem_cons.mp h with rfl | h
   ·simp
   ·have:=f p h;simp;lia
  ·split at h
   ·simp at h;subst h;simp
   ·rename_i q g e;rw[e] at f;rcases List.mem_cons.mp h with rfl | h
    ·have:=f q (by simp);simp;lia
    ·have:=f p (by simp[h]);simp;lia
theorem x9 {t:T} (h:t.length <= 2000):(z9 t).length <= 2001/\∀ p∈z9 t,p.length <= 2000:=by
 have f:(qv t).length=t.length:=by simp[qv]
 have g:=uI 32 (qv t);have c:=VJ 32 (qv t);unfold z9;refine⟨jr (dZ _ _) (by lia),λp e=>?_⟩;have:=c p (List.mem_filter.mp e).1
 lia
theorem wj {m:Nat}:∀ ys:List T,(∀ p∈ys,p.length <= m)->(ys.map List.length).sum <= m * ys.length
 | [],_=>by simp
 | y::ys,h=>by
  have:=wj ys λp c=>h p (je _ c);have:=h y qJ;simp only[jN,B9,jE,Nat.mul_add,Nat.mul_one]
  lia
theorem UG (x:T) (c:x.length <= 1) (ys:List T) (e:ys.length <= 2001) (h:∀ p∈ys,p.length <= 2000) (s:M.S):yP x (ys.map .str) s=.ok (.str (yD x ys)) s:=by
 unfold yP;rw[Ub];have:=wj ys h;have f:ys.length * x.length <= ys.length * 1:=lE _ c;dsimp only;rw[if_pos (by unfold SZ;lia)]
theorem Ap (x:T):∀ ts:List T,(qg.insT' x ts).Perm (x::ts)
 | []=>.refl _
 | y::r=>by
  unfold qg.insT';split
  ·exact ((Ap x r).cons y).trans (.swap x y r)
  ·exact .refl _
theorem wd:∀ ts:List T,(qg ts).Perm ts
 | []=>.refl _
 | x::r=>(Ap x _).trans ((wd r).cons x)
theorem YB {t:T} (h:t.length <= 2000) (s:M.S):ZH [.str t] s=.ok (.ref s.length) (s++[.lst ((z9 t).map .str)]):=by
 simp only[ZH];rw[if_pos (by lia)];rfl
noncomputable def YG:F:=chS Uc
theorem lZ:jM 1 Uc YG:=yj _
theorem F7 {t:T} (h:t.length <= 2000) (S:M.S):YG [.str t] S=.ok (.str (yD [32] (qg (z9 t)))) S:=by
 have c:=x9 h;have e:=λs=>UG [32] (by simp) (qg (z9 t)) (by rw[(wd (z9 t)).length_eq];lia) (λp f=>jr (c.2 p ((wd (z9 t)).mem_iff.mp f)) (by lia)) s;refine yi (g:=[.lst ((z9 t).map .str),.lst ((qg (z9 t)).map .str)]) ?_ rfl;simp[Uc,Uk,YB h,Yw,Ub,show (z9 t).length <= 16777216 by lia,e]
def u7:SM :=
  (zh (eUn uw (zA 0)))
def Ug:F:=fn 1 u7
noncomputable def V3:F:=chS Ug
theorem EG:jM 1 Ug V3:=yj _
theorem i8 {t:T} (h:t.length <= 2000) (S:M.S):V3 [.str t] S=.ok (.str t.reverse) S:=by
 have z:t.length <= SZ:=by unfold SZ;lia
 refine yi (g:=[]) ?_ rfl;simp[Ug,u7,z]
def ua:SM :=
  (zh (eM .str QN (eC (.str [32])) (zB (eSl (zJ ZH (zB (zA 0) zC)) yh (qV (eC (.int 1)))) zC)))
def uZ:F:=fn 1 ua
noncomputable def Vs:F:=chS uZ
theorem Ho:jM 1 uZ Vs:=yj _
theorem dk {t:T} (h:t.length <= 2000) (S:M.S):Vs [.str t] S=.ok (.str (yD [32] ((z9 t).take 1))) S:=by
 have c:=x9 h;have e:cut ((z9 t).map D.str) none (some 1)=((z9 t).take 1).map D.str:=by rw[KQ _ (by decide)];simp
 have f:=λs=>UG [32] (by simp) ((z9 t).take 1) (by rw[yz];lia) (λp i=>jr (c.2 p (Cy i)) (by lia)) s;refine yi (g:=[.lst ((z9 t).map .str),.lst (((z9 t).take 1).map .str)]) ?_ rfl;simp[uZ,ua,YB h,-gV,e,f]
def U7:SM :=
  (zh (eM .str QN (eC (.str [32])) (zB (eSl (zJ ZH (zB (zA 0) zC)) (qV (eC (.int 1))) yh) zC)))
def U5:F:=fn 1 U7
noncomputable def V8:F:=chS U5
theorem lD:jM 1 U5 V8:=yj _
theorem mV {t:T} (h:t.length <= 2000) (S:M.S):V8 [.str t] S=.ok (.str (yD [32] ((z9 t).drop 1))) S:=by
 have c:=x9 h;have e:cut ((z9 t).map D.str) (some 1) none=((z9 t).drop 1).map D.str:=by rw[KD _ (by decide)];simp
 have f:=λs=>UG [32] (by simp) ((z9 t).drop 1) (by rw[Qa];lia) (λp i=>jr (c.2 p (ud i)) (by lia)) s;refine yi (g:=[.lst ((z9 t).map .str),.lst (((z9 t).drop 1).map .str)]) ?_ rfl;simp[U5,U7,YB h,-List.map_drop,-ip,e,f]
def ur:SM :=
  (zh (zJ Uh (zB (zJ jf (zB (zJ ZH (zB (zA 0) zC)) zC)) zC)))
def wx:F:=fn 1 ur
noncomputable def YC:F:=chS wx
theorem d7:jM 1 wx YC:=yj _
theorem dy {t:T} (h:t.length <= 2000) (S:M.S):YC [.str t] S=.ok (.str (Js (z9 t).length)) S:=by
 have c:=x9 h;have e:qo ((z9 t).length:Int)=true:=by unfold qo;rw[decide_eq_true_iff];lia
 refine yi (g:=[.lst ((z9 t).map .str)]) ?_ rfl;simp[wx,ur,YB h,e]
def xj:SM :=
  (sIf (zO cEq (zA 0) (eC (.str [98,97,99,107])))
  (zh (zJ V3 (zB (zA 1) zC)))
  z8)
def kP:SM :=
  (sIf (zO cEq (zA 0) (eC (.str [102,105,114,115,116])))
  (zh (zJ Vs (zB (zA 1) zC)))
  z8)
def Xx:SM :=
  (sIf (zO cEq (zA 0) (eC (.str [114,101,115,116])))
  (zh (zJ V8 (zB (zA 1) zC)))
  z8)
def Vr:SM :=
  (sIf (zO cEq (zA 0) (eC (.str [99,111,117,110,116])))
  (zh (zJ YC (zB (zA 1) zC)))
  z8)
def WK:SM :=
  (zh (zJ YG (zB (zA 1) zC)))
def xB:SM:=(zG xj (zG kP (zG Xx (zG Vr WK))))
def xi:F:=fn 2 xB
noncomputable def vw:F:=chS xi
theorem Dx:jM 2 xi vw:=yj _
def yy (w t:T):T:=if w=Bs then t.reverse else if w=cP then yD [32] ((z9 t).take 1) else if w=Aw then yD [32] ((z9 t).drop 1) else if w=aZ then Js (z9 t).length else yD [32] (qg (z9 t))
theorem mX {t:T} (hw:W5 w) (h:t.length <= 2000) (S:M.S):vw [.str w,.str t] S=.ok (.str (yy w t)) S:=by
 have c:=x9 h;have e:=i8 h S;have f:=dk h S;have i:=mV h S;have j:=dy h S;have l:=F7 h S;refine yi (g:=[]) ?_ rfl;unfold yy;rcases hw with rfl | rfl | rfl | rfl | rfl
 ·simp[xi,xB,xj,e]
 ·simp[xi,xB,xj,kP,f]
 ·simp[xi,xB,xj,kP,Xx,i]
 ·simp[xi,xB,xj,kP,Xx,Vr,j]
 ·simp[xi,xB,xj,kP,Xx,Vr,WK,l]
noncomputable def tot (ys:List T):Nat:=(ys.map List.length).sum+ys.length
theorem Z2 (y:T) (ys:List T):tot (y::ys)=y.length+1+tot ys:=by
 unfold tot;simp only[jN,B9,jE]
 lia
theorem Ut (c:Nat):∀ x:T,tot (jO c x)=x.length+1
 | []=>rfl
 | d::r=>by
  have f:=Ut c r;unfold jO;split
  ·rw[Z2,f];simp only[jE,qz];lia
  ·split
   ·rename_i e;rw[e] at f;simp[tot] at f
   ·rename_i p ps e;rw[e,Z2] at f;rw[Z2];simp only[jE]
    lia
theorem Us {ys c:List T} (h:ys.Sublist c):tot ys <= tot c:=by
 induction h with
 | slnil=>exact zg _
 | cons a _ e=>rw[Z2];lia
 | cons_cons a _ e=>rw[Z2,Z2];lia
theorem DH (ts:List T):tot (qg ts)=tot ts:=by
 have ins:∀ (x:T) (l:List T),tot (qg.insT' x l)=x.length+1+tot l:=by
  intro x l
  induction l with
  | nil=>simp[qg.insT',Z2]
  | cons y l c =>
   unfold qg.insT';split
   ·rw[Z2,c,Z2];lia
   ·rw[Z2]
 induction ts with
 | nil=>rfl
 | cons t ts c=>unfold qg;rw[ins,c,Z2]
theorem Yj:∀ ys:List T,(yD [32] ys).length <= tot ys
 | []=>by simp[yD,tot]
 | [y]=>by simp[yD,tot]
 | y::z::ys=>by
  have:=Yj (z::ys);rw[Z2];show (y++[32]++yD [32] (z::ys)).length <= _;simp only[jv,jE,qz]
  lia
theorem hW {t:T} (h:t.length <= 2000):tot (z9 t) <= 2001:=by
 have c:=Ut 32 (qv t);have e:(qv t).length=t.length:=by simp[qv]
 have f:tot (z9 t) <= tot (jO 32 (qv t)):=Us List.filter_sublist
 lia
theorem cH (b:Nat):∀ (f n:Nat) (ds:List Char),(Cd b f n ds).length <= f+ds.length
 | 0,n,ds=>by rw[Cd];lia
 | f+1,n,ds=>by
  rw[Cd];split
  ·simp;lia
  ·have:=cH b f (n / b) (Nat.digitChar (n % b)::ds);rw[jE] at this
   lia
theorem hZ (n:Nat):(Js (n:Int)).length <= n+1:=by
 have e:(toString (n:Int)).toList=Nat.toDigits 10 n:=by
  show (Nat.repr n).toList=_;unfold Nat.repr;simp
 unfold Js;rw[e,jH];exact cH 10 (n+1) n []
theorem Hg {t:T} (hw:W5 w) (h:t.length <= 2000):(yy w t).length <= 3000:=by
 have c:=x9 h;have f:=hW h;have e:∀ n:Nat,n < 2002->(Js (n:Int)).length <= 3000:=λn g=>jr (hZ n) (by lia);unfold yy;rcases hw with rfl | rfl | rfl | rfl | rfl
 ·rw[if_pos rfl,k6];lia
 ·rw[if_neg (by decide),if_pos rfl];have:=Yj ((z9 t).take 1);have:=Us (fj 1 (z9 t))
  lia
 ·rw[if_neg (by decide),if_neg (by decide),if_pos rfl];have:=Yj ((z9 t).drop 1);have:=Us (List.drop_sublist 1 (z9 t))
  lia
 ·rw[if_neg (by decide),if_neg (by decide),if_neg (by decide),if_pos rfl];exact e _ (by lia)
 ·rw[if_neg (by decide),if_neg (by decide),if_neg (by decide),if_neg (by decide)];have:=Yj (qg (z9 t));rw[DH] at this
  lia
def QL:SM :=
  (zG (zP 2 (eM .list qq (jG 4 4 (zA 0)) zC))
  (sIf (zO cEq (zA 1) (eC (.str [102,97,105,108])))
  (jA (jS 4 kK (zA 0) (zB (zA 2) zC)))
  (sIf (zO cNe (zA 1) (eC (.str [111,102])))
  (jA (jS 4 Zg (zA 0) (zB (zJ vw (zB (zA 1) (zB (zA 2) zC))) zC)))
  (sIf (qD (zJ yx (zB (zA 2) zC)))
  (jA (jS 4 QW (zA 0) (zB (zA 2) zC)))
  (jA (jS 4 kK (zA 0) (zB (eC (.str [110,111,32,110,97,109,101])) zC)))))))
def gh:F:=fn 3 QL
abbrev JZ:F:=gh
section
variable {S:M.S}{st:D}{a:Nat}{us:List (D×D)}{k:Int}{tx td:List D}{en:D}{g:M.S}{ans:List (T×T)}
theorem vT (t:T):∀ (v1 v2:Option D) r,zG (zP 2 (eM .list qq (jG 4 4 (zA 0)) zC)) r [some (.ref S.length),v1,v2] (Wk S st a us k (tx++[.str t]) td en g)=r [some (.ref S.length),v1,some (.str t)] (Wk S st a us k tx td en g):=λv1 v2 r=>by
 simp[wk0,wk2,ws2]
theorem Eu {t:T} (hw:W5 w) (e:t.length <= 2000) (f:tx.length <= 5000):JZ [.ref S.length,.str w] (Wk S st a us k (tx++[.str t]) td en g)=.ok .non (if 900 < (yy w t).length then Wk S st a us k tx td (zW (ja,yQ)) g else Wk S st a us k (tx++[.str (yy w t)]) td en g):=by
 have h:=mX hw e (Wk S st a us k tx td en g);have m:=Hg hw e;have i:Zg [.ref S.length,.str (yy w t)] (Wk S st a us k tx td en g)=.ok .non (if 900 < (yy w t).length then Wk S st a us k tx td (zW (ja,yQ)) g else Wk S st a us k (tx++[.str (yy w t)]) td en g):=by
  by_cases c:900 < (yy w t).length
  ·rw[if_pos c,VG _ c (by lia)]
  ·rw[if_neg c,Xj _ (by lia) f]
 have j:¬ w=xC:=by rcases hw with rfl | rfl | rfl | rfl | rfl<;>decide
 have l:¬ w=tOf:=by rcases hw with rfl | rfl | rfl | rfl | rfl<;>decide
 show (QL [some (.ref S.length),some (.str w),none] (Wk S st a us k (tx++[.str t]) td en g)).out=_;unfold QL;rw[vT t];generalize (if 900 < (yy w t).length then Wk S st a us k tx td (zW (ja,yQ)) g else Wk S st a us k (tx++[.str (yy w t)]) td en g)=n at *;simp[j,l,wk0,h,-xQ,i,RS.out]
theorem hJ (t:T):JZ [.ref S.length,.str xC] (Wk S st a us k (tx++[.str t]) td en g)=.ok .non (Wk S st a us k tx td (zW (ja,t)) g):=by
 have c:=VC (S:=S) (st:=st) (a:=a) (us:=us) (k:=k) (tx:=tx) (td:=td) (en:=en) (g:=g) t;show (QL [some (.ref S.length),some (.str xC),none] (Wk S st a us k (tx++[.str t]) td en g)).out=_;unfold QL;rw[vT t];simp[wk0,-ka,c,RS.out]
theorem iA {t:T} (f:t.length <= 2000) (c:qk t=false):JZ [.ref S.length,.str tOf] (Wk S st a us k (tx++[.str t]) td en g)=.ok .non (Wk S st a us k tx td (zW (ja,tNo)) g):=by
 have hq:∀ s,yx [.str t] s=.ok (.bl (qk t)) s:=λs=>by
  simp only[yx];rw[if_pos (by lia)]
 have e:=VC (S:=S) (st:=st) (a:=a) (us:=us) (k:=k) (tx:=tx) (td:=td) (en:=en) (g:=g) tNo;show (QL [some (.ref S.length),some (.str tOf),none] (Wk S st a us k (tx++[.str t]) td en g)).out=_;unfold QL;rw[vT t];simp[wk0,hq,c,-ka,e,RS.out]
theorem DJ {t:T}{c:M.S} (h:t.length <= 2000) (e:qk t=true) (f:QW [.ref S.length,.str t] (Wk S st a us k tx td en g)=.ok .non c):JZ [.ref S.length,.str tOf] (Wk S st a us k (tx++[.str t]) td en g)=.ok .non c:=by
 have hq:∀ s,yx [.str t] s=.ok (.bl (qk t)) s:=λs=>by
  simp only[yx];rw[if_pos (by lia)]
 show (QL [some (.ref S.length),some (.str tOf),none] (Wk S st a us k (tx++[.str t]) td en g)).out=_;unfold QL;rw[vT t];simp[wk0,hq,e,-kT,f,RS.out]
end
def Kk:SM :=
  (zG (vn (yY (Jc (jG 4 6 (zA 0))) (zO cGt (zJ jf (zB (jG 4 5 (zA 0)) zC)) (eC (.int 0))))
  (zG (zP 1 (eM .list qq (jG 4 5 (zA 0)) zC))
  (sIf (zO cEq (eOp zH (zA 1) (eC (.int 0))) (eC (.str [112,97,114,116])))
  (jA (jS 4 Q7 (zA 0) (zB (eOp zH (zA 1) (eC (.int 1))) (zB (eOp zH (zA 1) (eC (.int 2))) zC))))
  (sIf (zO cEq (eOp zH (zA 1) (eC (.int 0))) (eC (.str [106,111,105,110])))
  (jA (jS 4 xW (zA 0) (zB (eOp zH (zA 1) (eC (.int 1))) zC)))
  (sIf (zO cEq (eOp zH (zA 1) (eC (.int 0))) (eC (.str [105,102])))
  (jA (jS 4 KU (zA 0) (zB (eOp zH (zA 1) (eC (.int 1))) (zB (eOp zH (zA 1) (eC (.int 2))) zC))))
  (sIf (zO cEq (eOp zH (zA 1) (eC (.int 0))) (eC (.str [101,97,99,104])))
  (jA (jS 4 Ka (zA 0) (zB (eOp zH (zA 1) (eC (.int 1))) zC)))
  (sIf (zO cEq (eOp zH (zA 1) (eC (.int 0))) (eC (.str [114,111,117,110,100])))
  (jA (jS 4 Xb (zA 0) (zB (eOp zH (zA 1) (eC (.int 1))) (zB (eOp zH (zA 1) (eC (.int 2))) (zB (eOp zH (zA 1) (eC (.int 3))) zC)))))
  (jA (jS 4 JZ (zA 0) (zB (eOp zH (zA 1) (eC (.int 0))) zC))))))))))
  (zG (sIf (Jc (jG 4 6 (zA 0)))
  (zh (zr (zB (eC (.str [116,101,120,116])) (zB (eOp zH (jG 4 4 (zA 0)) (eC (.int 0))) zC))))
  z8)
  (zh (jG 4 6 (zA 0)))))
def LX:F:=fn 2 Kk
abbrev vE:F:=LX
abbrev yr:TM:=yY (Jc (jG 4 6 (zA 0))) (zO cGt (zJ jf (zB (jG 4 5 (zA 0)) zC)) (eC (.int 0)))
abbrev Y7:SM:=zP 1 (eM .list qq (jG 4 5 (zA 0)) zC)
abbrev QZ:SM :=
  (sIf (zO cEq (eOp zH (zA 1) (eC (.int 0))) (eC (.str [112,97,114,116])))
  (jA (jS 4 Q7 (zA 0) (zB (eOp zH (zA 1) (eC (.int 1))) (zB (eOp zH (zA 1) (eC (.int 2))) zC))))
  (sIf (zO cEq (eOp zH (zA 1) (eC (.int 0))) (eC (.str [106,111,105,110])))
  (jA (jS 4 xW (zA 0) (zB (eOp zH (zA 1) (eC (.int 1))) zC)))
  (sIf (zO cEq (eOp zH (zA 1) (eC (.int 0))) (eC (.str [105,102])))
  (jA (jS 4 KU (zA 0) (zB (eOp zH (zA 1) (eC (.int 1))) (zB (eOp zH (zA 1) (eC (.int 2))) zC))))
  (sIf (zO cEq (eOp zH (zA 1) (eC (.int 0))) (eC (.str [101,97,99,104])))
  (jA (jS 4 Ka (zA 0) (zB (eOp zH (zA 1) (eC (.int 1))) zC)))
  (sIf (zO cEq (eOp zH (zA 1) (eC (.int 0))) (eC (.str [114,111,117,110,100])))
  (jA (jS 4 Xb (zA 0) (zB (eOp zH (zA 1) (eC (.int 1))) (zB (eOp zH (zA 1) (eC (.int 2))) (zB (eOp zH (zA 1) (eC (.int 3))) zC)))))
  (jA (jS 4 JZ (zA 0) (zB (eOp zH (zA 1) (eC (.int 0))) zC))))))))
abbrev Zr:SM:=zG Y7 QZ
abbrev uV:SM:=(zG (sIf (Jc (jG 4 6 (zA 0)))
  (zh (zr (zB (eC (.str [116,101,120,116])) (zB (eOp zH (jG 4 4 (zA 0)) (eC (.int 0))) zC))))
  z8)
  (zh (jG 4 6 (zA 0))))
theorem Ew:Kk=zG (vn yr Zr) uV:=rfl
section
variable {S:M.S}{st:D}{a:Nat}{us:List (D×D)}{k:Int}{tx td:List D}{en:D}{g:M.S}{ans:List (T×T)}
theorem LD (n:Nat) (v:Option D):q7 (n+1) yr Zr [some (.ref S.length),v] (Wk S st a us k tx [] .non g)=.nx [some (.ref S.length),v] (Wk S st a us k tx [] .non g):=by
 have c:yr [some (.ref S.length),v] (Wk S st a us k tx [] .non g)=.ok false (Wk S st a us k tx [] .non g):=by
  simp[wk0,wk3]
 rw[q7,c];simp
theorem eT (n:Nat) (v:Option D) (r:T×T):q7 (n+1) yr Zr [some (.ref S.length),v] (Wk S st a us k tx td (zW r) g)=.nx [some (.ref S.length),v] (Wk S st a us k tx td (zW r) g):=by
 have c:yr [some (.ref S.length),v] (Wk S st a us k tx td (zW r) g)=.ok false (Wk S st a us k tx td (zW r) g):=by
  simp[wk0,zW]
 rw[q7,c];simp
theorem Ig {x:D}{c:M.S} (n:Nat) (v:Option D) (hd:QZ [some (.ref S.length),some x] (Wk S st a us k tx td .non g)=.nx [some (.ref S.length),some x] c):q7 (n+1) yr Zr [some (.ref S.length),v] (Wk S st a us k tx (td++[x]) .non g)=q7 n yr Zr [some (.ref S.length),some x] c:=by
 have e:yr [some (.ref S.length),v] (Wk S st a us k tx (td++[x]) .non g)=.ok true (Wk S st a us k tx (td++[x]) .non g):=by
  have:(0:Int) < (td.length:Int)+1:=by lia
  simp[wk0,wk3,this]
 have f:Y7 [some (.ref S.length),v] (Wk S st a us k tx (td++[x]) .non g)=.nx [some (.ref S.length),some x] (Wk S st a us k tx td .non g):=by
  simp[wk0,wk3,ws3]
 rw[q7,e,R.stm_ok,if_pos rfl];show (match ((Y7 [some (.ref S.length),v] (Wk S st a us k tx (td++[x]) .non g)).then QZ) with | .nx σ s=>q7 n yr Zr σ s | .ct σ s=>q7 n yr Zr σ s | .bk σ s=>.nx σ s | r=>r)=_;rw[f,RS.then_nx,hd]
theorem at2 (x y z:D) (r:List D):atI (x::y::z::r) 2=some z:=by
 unfold atI ixN;rw[if_pos (by decide),if_pos (by simp only[jE];lia)];rfl
theorem Je {p i:D}{c:M.S} (e:Q7 [.ref S.length,p,i] (Wk S st a us k tx td .non g)=.ok .non c):QZ [some (.ref S.length),some (ptD i p)] (Wk S st a us k tx td .non g)=.nx [some (.ref S.length),some (ptD i p)] c:=by
 unfold ptD;simp[at0,at1,at2,wk0,e]
theorem Ag {n:Int}{c:M.S} (e:xW [.ref S.length,.int n] (Wk S st a us k tx td .non g)=.ok .non c):QZ [some (.ref S.length),some (.tup [.str ZQ,.int n])] (Wk S st a us k tx td .non g)=.nx [some (.ref S.length),some (.tup [.str ZQ,.int n])] c:=by
 simp[at0,at1,wk0,e]
theorem GL {p i:D}{c:M.S} (e:KU [.ref S.length,p,i] (Wk S st a us k tx td .non g)=.ok .non c):QZ [some (.ref S.length),some (.tup [.str tIf,p,i])] (Wk S st a us k tx td .non g)=.nx [some (.ref S.length),some (.tup [.str tIf,p,i])] c:=by
 simp[at0,at1,at2,wk0,e]
theorem Lo {p:D}{c:M.S} (e:Ka [.ref S.length,p] (Wk S st a us k tx td .non g)=.ok .non c):QZ [some (.ref S.length),some (.tup [.str QG,p])] (Wk S st a us k tx td .non g)=.nx [some (.ref S.length),some (.tup [.str QG,p])] c:=by
 simp[at0,at1,wk0,e]
theorem lb {b:D}{l:Nat}{j:Int}{c:M.S} (e:Xb [.ref S.length,b,.ref l,.int j] (Wk S st a us k tx td .non g)=.ok .non c):QZ [some (.ref S.length),some (rdD b l j)] (Wk S st a us k tx td .non g)=.nx [some (.ref S.length),some (rdD b l j)] c:=by
 unfold rdD;simp[at0,at1,at2,at3,wk0,e]
theorem vc (hw:W7 w) {c:M.S} (e:JZ [.ref S.length,.str w] (Wk S st a us k tx td .non g)=.ok .non c):QZ [some (.ref S.length),some (.tup [.str w])] (Wk S st a us k tx td .non g)=.nx [some (.ref S.length),some (.tup [.str w])] c:=by
 have n0:¬ w=[112,97,114,116]:=by rcases hw with rfl | rfl | rfl | rfl | rfl | rfl | rfl<;>decide
 have f:¬ w=[106,111,105,110]:=by rcases hw with rfl | rfl | rfl | rfl | rfl | rfl | rfl<;>decide
 have h:¬ w=[105,102]:=by rcases hw with rfl | rfl | rfl | rfl | rfl | rfl | rfl<;>decide
 have i:¬ w=[101,97,99,104]:=by rcases hw with rfl | rfl | rfl | rfl | rfl | rfl | rfl<;>decide
 have j:¬ w=[114,111,117,110,100]:=by rcases hw with rfl | rfl | rfl | rfl | rfl | rfl | rfl<;>decide
 simp[at0,n0,f,h,i,j,wk0,e]
def Go (S s c:M.S) (m:Nat):Prop:=∀ f v,∃ e,q7 (f+m) yr Zr [some (.ref S.length),v] s=q7 f yr Zr [some (.ref S.length),e] c
theorem Go.nil (s:M.S):Go S s s 0:=λf v=>⟨v,rfl⟩
theorem Go.then (h:Go S s c m) (e:Go S c i n):Go S s i (m+n):=λf v=>by
 obtain⟨v1,j⟩:=h (f+n) v;obtain⟨v2,l⟩:=e f v1;exact⟨v2,by rw[show f+(m+n)=f+n+m by lia,j,l]⟩
theorem Go.one {x:D}{c:M.S} (hd:QZ [some (.ref S.length),some x] (Wk S st a us k tx td .non g)=.nx [some (.ref S.length),some x] c):Go S (Wk S st a us k tx (td++[x]) .non g) c 1:=λf v=>⟨some x,Ig f v hd⟩
end
def Arr (S:M.S) (st:D) (a:Nat) (tx td:List D) (g:M.S) (r:Out×Ct) (c:M.S):Prop:=match r.1 with
 | .tx x=>∃ h,c=Wk S st a (usD r.2.2) (r.2.1:Int) (tx++[.str x]) td .non (g++h)
 | .en e=>∃ h tx' td',c=Wk S st a (usD r.2.2) (r.2.1:Int) tx' td' (zW e) (g++h)
noncomputable def yT:D->T
 | .str x=>x
 | _=>[]
noncomputable def andO (r:Out×Ct) (f:T->Ct->Out×Ct):Out×Ct:=match r with
 | (.tx x,c)=>f x c
 | (.en e,c)=>(.en e,c)
def Kg (ans:List (T×T)) (w p:T) (c:Ct):Out×Ct:=if w=xC then (.en (ja,p),c) else if w=tOf then (if qk p=true then Zc ans p c else (.en (ja,tNo),c)) else ZJ (.tx (yy w p),c)
def ev (ans:List (T×T)) (st:D):Nat->Tr->D->Ct->Out×Ct
 | 0,_,_,c=>(.en ([],[]),c)
 | n+1,t,i,c=>if 500 <= c.1 then (.en (ja,Xk),(c.1+1,c.2)) else match t with
  | .txt x=>(.tx x,(c.1+1,c.2))
  | .line=>(.tx [10],(c.1+1,c.2))
  | .it=>(.tx (yT i),(c.1+1,c.2))
  | .stem=>(.tx (yT st),(c.1+1,c.2))
  | .thing m=>Zc ans m (c.1+1,c.2)
  | .kin m=>Zc ans (m++[46]++yT st) (c.1+1,c.2)
  | .join ts=>ZJ (evs (λa c=>ev ans st n a i c) ts [] (c.1+1,c.2))
  | .ife a b x y=>andO (ev ans st n a i (c.1+1,c.2)) λp c=>andO (ev ans st n b i c) λq c=>ev ans st n (if p=q then x else y) i c
  | .each a b=>andO (ev ans st n a i (c.1+1,c.2)) λp c=>evw (λw c=>ev ans st n b (.str w) c) (z9 p) [] c
  | .one w a=>andO (ev ans st n a i (c.1+1,c.2)) λp c=>Kg ans w p c
noncomputable def jq (st:D):Nat->Bool->Tr->Prop
 | 0,_,_=>False
 | n+1,b,t=>match t with
  | .txt x=>x.length <= 900
  | .line=>True
  | .it=>b=true
  | .stem=>∃ x,st=.str x
  | .thing m=>m.length <= 1000
  | .kin m=>m.length <= 1000/\∃ x,st=.str x
  | .join ts=>1 <= ts.length/\ts.length <= 50/\∀ a∈ts,jq st n b a
  | .ife p q x y=>jq st n b p/\jq st n b q/\jq st n b x/\jq st n b y
  | .each p q=>jq st n b p/\jq st n true q
  | .one w p=>W7 w/\jq st n b p
def zY (S:M.S) (st:D) (a:Nat) (tx td:List D) (g s:M.S) (c:Ct) (r:Out×Ct) (lo hi e:Nat):Prop:=∃ m f,m+lo <= 4 * (r.2.1 - c.1)+hi/\c.1 <= r.2.1/\Go S s f m/\Arr S st a tx td g r f/\r.2.1 <= 501/\∀ x,r.1=.tx x->r.2.1 <= 500/\r.2.2.length+c.1 <= c.2.length+r.2.1+e/\x.length <= 900
def I0 (c:Ct):Prop:=c.1 <= 500/\c.2.length <= c.1
theorem zY.weak {S:M.S}{st:D}{a:Nat}{lo f i:Nat} (h:zY S st a tx td g s c r lo hi e) (n:f+hi <= lo+i):zY S st a tx td g s c r f i e:=by
 obtain⟨m,j,o,l⟩:=h;exact⟨m,j,by lia,l⟩
theorem zY.slack {S:M.S}{st:D}{a:Nat}{lo:Nat} (h:zY S st a tx td g s c r lo hi 0):zY S st a tx td g s c r lo hi 1:=by
 obtain⟨m,e,f,i,j,l,n,o⟩:=h;exact⟨m,e,f,i,j,l,n,λx p=>by have:=o x p;lia⟩
theorem zY.pre {S:M.S}{st:D}{a:Nat}{c:Ct}{lo:Nat} (i:Go S s j 1) (h:zY S st a tx td g j (c.1+1,c.2) r lo hi e) (v:e <= 1) (w:hi+2 <= lo+4):zY S st a tx td g s c r 1 0 0:=by
 obtain⟨m,l,n,o,p,q,t,f⟩:=h;dsimp only at n o f;exact⟨1+m,l,by lia,by lia,i.then p,q,t,λx u=>by have:=f x u;lia⟩
theorem zY.step {S:M.S}{st:D}{a:Nat}{lo:Nat} (f:Go S s i 1) (h:zY S st a tx td g i c r lo hi e):zY S st a tx td g s c r lo (hi+1) e:=by
 obtain⟨m,j,p,l,n,o⟩:=h;exact⟨1+m,j,by lia,l,f.then n,o⟩
theorem Arr.grow {S:M.S}{st:D}{a:Nat}{g h:M.S} (k:Arr S st a tx td (g++h) r s):Arr S st a tx td g r s:=by
 unfold Arr at k ⊢;split at k
 ·obtain⟨h',e⟩:=k;exact⟨h++h',by rw[e,qy]⟩
 ·obtain⟨h',tx',td',e⟩:=k;exact⟨h++h',tx',td',by rw[e,qy]⟩
theorem zY.andO {S:M.S}{st:D}{a:Nat}{f:T->Ct->Out×Ct} (w:I0 c) (z:zY S st a l n g s c j 1 0 0) (A:∀ x h,j.1=.tx x->I0 j.2->x.length <= 900->zY S st a tx td (g++h) (Wk S st a (usD j.2.2) (j.2.1:Int) (l++[.str x]) n .non (g++h)) j.2 (f x j.2) 0 hi e):zY S st a tx td g s c (andO j f) 1 hi e:=by
 obtain⟨m,s',p,q,r,t,B,C⟩:=z;obtain⟨o,i⟩:=j;cases o with
 | tx x =>
  obtain⟨u,E,G⟩:=C x rfl;obtain⟨h,rfl⟩:=t;have H:=w.2;dsimp only at u E;obtain⟨I,J,L,N,Q,U,Y,v⟩:=A x h rfl ⟨u,by show i.2.length <= i.1;lia⟩ G;dsimp only at p q L N v;exact⟨m+I,J,by show _ <= 4 * ((f x i).2.1 - _)+_;lia,by show _ <= (f x i).2.1;lia,r.then Q,U.grow,Y,λy hy=>by have:=v y hy;show (f x i).2.1 <= 500/\(f x i).2.2.length+c.1 <= c.2.length+(f x i).2.1+e/\_;lia⟩
 | en e =>
  obtain⟨h,tx',td',rfl⟩:=t;exact⟨m,_,by have e1':m+1 <= 4 * (i.1 - c.1)+0:=p;show m+1 <= 4 * (i.1 - c.1)+hi;lia,q,r,⟨h,tx',td',rfl⟩,B,λx hx=>nomatch hx⟩
theorem zY.here {S:M.S}{st:D}{a:Nat}{h:M.S}{x:T} (e:I0 c) (f:x.length <= 900):zY S st a tx td g (Wk S st a (usD c.2) (c.1:Int) (tx++[.str x]) td .non (g++h)) c (.tx x,c) 0 0 0 :=
 ⟨0,_,by simp,zg _,Go.nil _,⟨h,rfl⟩,JH e.1,λy i=>by cases i;exact⟨e.1,by show c.2.length+c.1 <= c.2.length+c.1+0;lia,f⟩⟩
theorem zY.over {S:M.S}{st:D}{a:Nat}{h:M.S}{c:Ct} (f:c.1 <= 501):zY S st a tx td g (Wk S st a (usD c.2) (c.1:Int) tx' td' (zW e) (g++h)) c (.en e,c) 0 0 0 :=
 ⟨0,_,by simp,zg _,Go.nil _,⟨h,tx',td',rfl⟩,f,λy i=>nomatch i⟩
theorem zY.here0 {S:M.S}{st:D}{a:Nat}{x:T} (e:I0 c) (f:x.length <= 900):zY S st a tx td g (Wk S st a (usD c.2) (c.1:Int) (tx++[.str x]) td .non g) c (.tx x,c) 0 0 0:=by
 have:=zY.here (S:=S) (st:=st) (a:=a) (tx:=tx) (td:=td) (g:=g) (h:=[]) e f
 rwa [qw] at this
theorem zY.over0 {S:M.S}{st:D}{a:Nat}{c:Ct} (f:c.1 <= 501):zY S st a tx td g (Wk S st a (usD c.2) (c.1:Int) tx' td' (zW e) g) c (.en e,c) 0 0 0:=by
 have:=zY.over (S:=S) (st:=st) (a:=a) (tx:=tx) (tx':=tx') (td:=td) (td':=td') (g:=g) (h:=[]) (e:=e) f
 rwa [qw] at this
section
variable {S:M.S}{st:D}{a:Nat}{ans:List (T×T)}
theorem dt (f:Tr->Ct->Out×Ct) (p:Tr) (ts:List Tr) (t:T) (c:Ct):ZJ (evs f (p::ts) t c)=andO (f p c) λx c=>ZJ (evs f ts (t++x) c):=by
 rw[evs];unfold andO;cases f p c with
 | mk o c=>cases o<;>rfl
theorem fV (f:T->Ct->Out×Ct) (w:T) (ws:List T) (t:T) (c:Ct):evw f (w::ws) t c=andO (f w c) λx c=>if 900 < (t++x).length then (.en (ja,yQ),c) else evw f ws (t++x) c:=by
 rw[evw];unfold andO;cases f w c with
 | mk o c=>cases o<;>rfl
theorem Gq:∀ xs:List T,(∀ x∈xs,x.length <= 900)->xs.flatten.length <= 900 * xs.length:=λxs=>by
 induction xs with
 | nil=>intro _;simp
 | cons x xs c =>
  intro h;have f:=h x qJ;have g:=c λy e=>h y (je _ e);rw[Jf,jv,jE]
  lia
theorem WZ (ha:S[a]? = some (.dct (ans.map pd))) (hv:∀ q∈ans,q.2.length <= 900) (n:T) (f:I0 c) {tx:List D} (l:tx.length <= 5000) :
  ∃ i,QW [.ref S.length,.str n] (Wk S st a (usD c.2) (c.1:Int) tx td .non g)=.ok .non i/\zY S st a tx td g i c (Zc ans n c) 0 0 1:=by
 unfold Zc;cases q:zt ans n with
 | none =>
  obtain⟨m,i,j,o,p,r,s,_⟩:=zY.over0 (S:=S) (st:=st) (a:=a) (tx:=tx) (tx':=tx) (td:=td) (td':=td) (g:=g) (c:=c) (e:=(jh,n)) (JH f.1);exact⟨_,IF ha q,m,i,j,o,p,r,s,λx l=>nomatch l⟩
 | some v =>
  have h:=hv _ (VZ q);have j:=LU (S:=S) (st:=st) (a:=a) (us:=usD c.2) (k:=(c.1:Int)) (tx:=tx) (td:=td) (en:=.non) (g:=g) ha q h l (by unfold usD;rw[jH];have:=f.1;have:=f.2;lia);rw[Iq] at j;refine⟨_,j,?_⟩;have u:=DQ c.2 n;exact⟨0,_,by simp,zg _,Go.nil _,⟨[],by rw[qw]⟩,JH f.1,λy t=>by cases t;exact⟨f.1,by show (qm c.2 n).length+c.1 <= c.2.length+c.1+1;lia,h⟩⟩
abbrev VE (S:M.S) (st:D) (a:Nat) (ans:List (T×T)) (n:Nat) (p:Tr) (i:D):Prop:=∀ (tx td:List D) (g:M.S) (c:Ct),I0 c->tx.length+60 * n <= 3000->td.length+60 * n <= 3000->zY S st a tx td g (Wk S st a (usD c.2) (c.1:Int) tx (td++[ptD i p.d]) .non g) c (ev ans st n p i c) 1 0 0
theorem af {n N:Nat}{tx td:List D} (w:N <= 50) (z:tx.length+60 * (n+1) <= 3000) (hd:td.length+60 * (n+1) <= 3000):∀ (ts:List Tr) (xs:List T) (c:Ct) (g:M.S),(∀ p∈ts,VE S st a ans n p i)->I0 c->xs.length+ts.length=N->(∀ x∈xs,x.length <= 900) ->
  zY S st a tx td g (Wk S st a (usD c.2) (c.1:Int) (tx++xs.map .str) (td++[.tup [.str ZQ,.int (N:Int)]]++(ts.map Tr.d).reverse.map (ptD i)) .non g) c (ZJ (evs (λa c=>ev ans st n a i c) ts xs.flatten c)) 0 1 0
 | [],xs,c,g,_,e,f,j=>by
  have l:xs.length=N:=by simpa using f
  subst l;have E:=Gq xs j;have m:td++[D.tup [.str ZQ,.int (xs.length:Int)]]++(([]:List Tr).map Tr.d).reverse.map (ptD i)=td++[D.tup [.str ZQ,.int (xs.length:Int)]]:=by simp
  rw[m];show zY S st a tx td g _ c (if 900 < xs.flatten.length then (.en (ja,yQ),c) else (.tx xs.flatten,c)) 0 1 0;by_cases o:900 < xs.flatten.length
  ·rw[if_pos o];have r:=gW (S:=S) (st:=st) (a:=a) (us:=usD c.2) (k:=(c.1:Int)) (tx:=tx) (td:=td) (g:=g) xs (by lia) o (by lia);exact zY.step (Go.one (Ag r)) (zY.over (JH e.1))
  ·rw[if_neg o];have r:=GW (S:=S) (st:=st) (a:=a) (us:=usD c.2) (k:=(c.1:Int)) (tx:=tx) (td:=td) (g:=g) xs (by lia) (by lia) (by lia);exact zY.step (Go.one (Ag r)) (zY.here e (by lia))
 | p::ts,xs,c,g,u,e,f,j=>by
  rw[jE] at f;rw[dt];have m:td++[D.tup [.str ZQ,.int (N:Int)]]++((p::ts).map Tr.d).reverse.map (ptD i)=(td++[D.tup [.str ZQ,.int (N:Int)]]++(ts.map Tr.d).reverse.map (ptD i))++[ptD i p.d]:=by simp
  rw[m];refine zY.weak (zY.andO e (u p qJ (tx++xs.map .str) (td++[D.tup [.str ZQ,.int (N:Int)]]++(ts.map Tr.d).reverse.map (ptD i)) g c e (by simp;lia) (by simp;lia)) λx h A s t=>?_) (show 0+1 <= 1+1 by lia);have v:=af w z hd ts (xs++[x]) (ev ans st n p i c).2 (g++h) (λq hq=>u q (je _ hq)) s (by simp;lia) (λy B=>by
   rcases List.mem_append.mp B with h | h
   ·exact j y h
   ·rw[List.mem_singleton.mp h];exact t)
  have C:(xs++[x]).flatten=xs.flatten++x:=by simp
  rw[C,JC,<- qy] at v;exact v
theorem bY {n l0:Nat}{b:Tr}{tx td:List D}{ws:List T} (z:tx.length+60 * (n+1) <= 3000) (hd:td.length+60 * (n+1) <= 3000) (hw:∀ w∈ws,VE S st a ans n b (.str w)):∀ (d j:Nat) (t:T) (c:Ct) (g:M.S),ws.length - j=d->g[l0]? = some (.lst (ws.map .str))->I0 c->t.length <= 900 ->
  zY S st a tx td g (Wk S st a (usD c.2) (c.1:Int) (tx++[.str t]) (td++ZL b.d (S.length+4+l0) ws j) .non g) c (evw (λw c=>ev ans st n b (.str w) c) (ws.drop j) t c) 0 0 0
 | 0,j,t,c,g,A,v,o,p=>by
  have q:ZL b.d (S.length+4+l0) ws j=[]:=by unfold ZL;rw[if_neg (by lia)]
  have r:ws.drop j=[]:=dP (by lia);rw[q,r,qw];exact zY.here0 o p
 | d+1,j,t,c,g,A,v,o,p=>by
  have e:j < ws.length:=by lia
  have q:td++ZL b.d (S.length+4+l0) ws j=(td++[rdD b.d (S.length+4+l0) ((j:Int)+1)])++[ptD (.str (ws.getD j [])) b.d]:=by unfold ZL;rw[if_pos e];simp
  have r:ws.drop j=ws.getD j []::ws.drop (j+1):=by
   rw[kQ e,qP,yS e];rfl
  have i:ws.getD j []∈ws:=by
   rw[qP,yS e];exact wU e
  rw[q,r,fV];refine zY.weak (zY.andO o (hw _ i (tx++[.str t]) (td++[rdD b.d (S.length+4+l0) ((j:Int)+1)]) g c o (by simp;lia) (by simp;lia)) (hi:=1) λx h B l s=>?_) (show 0+1 <= 1+0 by lia);have m:=yI v h;have u:=IV (S:=S) (st:=st) (a:=a) (us:=usD (ev ans st n b (.str (ws.getD j [])) c).2.2) (k:=((ev ans st n b (.str (ws.getD j [])) c).2.1:Int)) (tx:=tx) (td:=td) (g:=g++h) b.d m (j+1) t x p s (by lia) (by lia);have f:=u;rw[show (((j+1:Nat):Int))=(j:Int)+1 by lia] at f;have go:=Go.one (lb f);by_cases y:900 < (t++x).length
  ·rw[if_pos y] at go ⊢;exact zY.step go (zY.over0 (JH l.1))
  ·rw[if_neg y] at go ⊢;exact zY.step go (bY z hd hw d (j+1) (t++x) _ (g++h) (by lia) m l (by lia))
end
section
variable {S:M.S}{st:D}{a:Nat}{ans:List (T×T)}
theorem iB:∀ p∈z9 t,p.length <= t.length:=λp c=>by
 have e:(qv t).length=t.length:=by simp[qv]
 have:=VJ 32 (qv t) p (List.mem_filter.mp c).1
 lia
theorem JG (ha:S[a]? = some (.dct (ans.map pd))) (hv:∀ q∈ans,q.2.length <= 900) (o:(yT st).length <= 900):∀ (n:Nat) (t:Tr) (b:Bool) (i:D),jq st n b t->(b=true->∃ x,i=.str x/\x.length <= 900)->VE S st a ans n t i
 | 0,t,b,i,z,_=>z.elim
 | n+1,t,b,i,z,hi=>λtx td g c hc hx hd=>by
  by_cases v:500 <= c.1
  ·have f:=Gm (S:=S) (st:=st) (a:=a) (us:=usD c.2) (k:=(c.1:Int)) (tx:=tx) (td:=td) (g:=g) t.d i (by lia);have e:ev ans st (n+1) t i c=(.en (ja,Xk),(c.1+1,c.2)):=by rw[ev.eq_def];dsimp only;rw[if_pos v]
   rw[e];refine zY.pre (c:=c) (lo:=0) (hi:=0) (e:=0) (Go.one (Je f)) ?_ (by lia) (by lia);have j:=hc.1;exact zY.over0 (c:=(c.1+1,c.2)) (by show c.1+1 <= 501;lia)
  have B:(c.1:Int) <= 499:=by lia
  have j:I0 (c.1+1,c.2):=⟨by show c.1+1 <= 500;lia,JH hc.2⟩
  have C:((c.1:Int)+1)=((c.1+1:Nat):Int):=by lia
  have bare:∀ {w x:T}{r:List D},t.d=.tup (.str w::r)->(w=[116,101,120,116]\/w=[108,105,110,101]\/w=[105,116]\/w=[115,116,101,109])->(∀ k,JS [.ref S.length,t.d,i] (Wk S st a (usD c.2) k tx td .non g)=.ok (.str x) (Wk S st a (usD c.2) k tx td .non g))->x.length <= 900->ev ans st (n+1) t i c=(.tx x,(c.1+1,c.2))->zY S st a tx td g (Wk S st a (usD c.2) (c.1:Int) tx (td++[ptD i t.d]) .non g) c (ev ans st (n+1) t i c) 1 0 0:=λ{w x r} E G e3 e4 e5=>by
   have f:=GI (S:=S) (st:=st) (a:=a) (us:=usD c.2) (k:=(c.1:Int)) (tx:=tx) (td:=td) (g:=g) E G e3 (by lia) (by lia) B;rw[if_neg (by lia),C] at f;rw[e5];exact zY.pre (c:=c) (lo:=0) (hi:=0) (Go.one (Je f)) (zY.here0 (c:=(c.1+1,c.2)) j e4) (by lia) (by lia)
  cases t with
  | txt x=>exact bare rfl (.inl rfl) (λk=>Hu x i) z (by rw[ev,if_neg v])
  | line=>exact bare rfl (.inr (.inl rfl)) (λk=>gz i) (by decide) (by rw[ev,if_neg v])
  | it =>
   obtain⟨x,rfl,hxl⟩:=hi z;exact bare rfl (.inr (.inr (.inl rfl))) (λk=>lI _) hxl (by rw[ev,if_neg v];rfl)
  | stem =>
   obtain⟨x,rfl⟩:=z;exact bare rfl (.inr (.inr (.inr rfl))) (λk=>gv _) o (by rw[ev,if_neg v];rfl)
  | thing m =>
   obtain⟨s',E,G⟩:=WZ (S:=S) (st:=st) (a:=a) ha hv m (c:=(c.1+1,c.2)) j (tx:=tx) (td:=td) (g:=g) (by lia);have f:=Di (S:=S) (st:=st) (a:=a) (us:=usD c.2) (k:=(c.1:Int)) (tx:=tx) (td:=td) (g:=g) (i:=i) (by rw[C];exact E) B;have e:ev ans st (n+1) (.thing m) i c=Zc ans m (c.1+1,c.2):=by rw[ev,if_neg v]
   rw[e];exact zY.pre (c:=c) (lo:=0) (hi:=0) (Go.one (Je f)) G (by lia) (by lia)
  | kin m =>
   obtain⟨hm,x,rfl⟩:=z;have hst':x.length <= 900:=o;obtain⟨s',E,G⟩:=WZ (S:=S) (st:=.str x) (a:=a) ha hv (m++[46]++x) (c:=(c.1+1,c.2)) j (tx:=tx) (td:=td) (g:=g) (by lia);have f:=gS (S:=S) (st:=.str x) (a:=a) (us:=usD c.2) (k:=(c.1:Int)) (tx:=tx) (td:=td) (g:=g) (i:=i) rfl (by lia) hm (by rw[C];exact E) B;have e:ev ans (.str x) (n+1) (.kin m) i c=Zc ans (m++[46]++x) (c.1+1,c.2):=by rw[ev,if_neg v];rfl
   rw[e];exact zY.pre (c:=c) (lo:=0) (hi:=0) (Go.one (Je f)) G (by lia) (by lia)
  | join ts =>
   obtain⟨h1,Y,h3⟩:=z;have u:=g7 (S:=S) (st:=st) (a:=a) (us:=usD c.2) (k:=(c.1:Int)+1) (tx:=tx) (td:=td) (en:=.non) (g:=g) i (ts.map Tr.d) (by rw[jH];lia) (by rw[jH];exact h1);have f:=YZ (S:=S) (st:=st) (a:=a) (us:=usD c.2) (k:=(c.1:Int)) (tx:=tx) (td:=td) (g:=g) (i:=i) (Tr.d_join ts) (.inr (.inl rfl)) (by rw[Tr.d_join];exact u) B;rw[C,jH] at f;have e:ev ans st (n+1) (.join ts) i c=ZJ (evs (λa c=>ev ans st n a i c) ts [] (c.1+1,c.2)):=by rw[ev,if_neg v]
   rw[e];have hr:=af (S:=S) (st:=st) (a:=a) (ans:=ans) (n:=n) (N:=ts.length) (i:=i) (tx:=tx) (td:=td) Y hx hd ts [] (c.1+1,c.2) g (λp hp=>JG ha hv o n p b i (h3 p hp) hi) j (by simp) (by simp);rw[xf,qw] at hr;exact zY.pre (c:=c) (lo:=0) (hi:=1) (Go.one (Je f)) hr (by lia) (by lia)
  | ife p q x y =>
   obtain⟨H,g2,g3,g4⟩:=z;have u:=IT (S:=S) (st:=st) (a:=a) (us:=usD c.2) (k:=(c.1:Int)+1) (tx:=tx) (td:=td) (en:=.non) (g:=g) i p.d q.d x.d y.d (by lia);have f:=YZ (S:=S) (st:=st) (a:=a) (us:=usD c.2) (k:=(c.1:Int)) (tx:=tx) (td:=td) (g:=g) (i:=i) (show (Tr.ife p q x y).d=.tup (.str tIf::[p.d,q.d,x.d,y.d]) by rw[Tr.d]) (.inr (.inr (.inl rfl))) (by rw[Tr.d];exact u) B;rw[C] at f;have e:ev ans st (n+1) (.ife p q x y) i c=andO (ev ans st n p i (c.1+1,c.2)) λs c=>andO (ev ans st n q i c) λt c=>ev ans st n (if s=t then x else y) i c:=by rw[ev,if_neg v]
   rw[e];have I:td++[D.tup [.str tIf,.tup [.str tIf,p.d,q.d,x.d,y.d],i],ptD i q.d,ptD i p.d]=(td++[D.tup [.str tIf,.tup [.str tIf,p.d,q.d,x.d,y.d],i]]++[ptD i q.d])++[ptD i p.d]:=by simp
   rw[I] at f;refine zY.pre (c:=c) (lo:=1) (hi:=0) (e:=0) (Go.one (Je f)) ?_ (by lia) (by lia);refine zY.andO j (JG ha hv o n p b i H hi tx _ g (c.1+1,c.2) j (by lia) (by simp;lia)) λs h hs l J=>?_;refine zY.weak (zY.andO (hi:=0) l (JG ha hv o n q b i g2 hi (tx++[.str s]) _ (g++h) _ l (by simp;lia) (by simp;lia)) λL Y hs2 Q hsl2=>?_) (show 0+0 <= 1+0 by lia);have U:=fo (S:=S) (st:=st) (a:=a) (us:=usD (ev ans st n q i (ev ans st n p i (c.1+1,c.2)).2).2.2) (k:=((ev ans st n q i (ev ans st n p i (c.1+1,c.2)).2).2.1:Int)) (tx:=tx) (td:=td) (g:=g++h++Y) i p.d q.d x.d y.d s L (by lia);have ed:(if s=L then x.d else y.d)=(if s=L then x else y).d:=by split<;>rfl
   rw[ed] at U;have gx:jq st n b (if s=L then x else y):=by split<;>assumption
   have:=zY.step (Go.one (GL U)) (JG ha hv o n (if s=L then x else y) b i gx hi tx td (g++h++Y) _ Q (by lia) (by lia));exact zY.weak this (show 0+(0+1) <= 1+0 by lia)
  | each p q =>
   obtain⟨H,g2⟩:=z;have u:=Hw (S:=S) (st:=st) (a:=a) (us:=usD c.2) (k:=(c.1:Int)+1) (tx:=tx) (td:=td) (en:=.non) (g:=g) i p.d q.d (by lia);have f:=YZ (S:=S) (st:=st) (a:=a) (us:=usD c.2) (k:=(c.1:Int)) (tx:=tx) (td:=td) (g:=g) (i:=i) (show (Tr.each p q).d=.tup (.str QG::[p.d,q.d]) by rw[Tr.d]) (.inr (.inr (.inr rfl))) (by rw[Tr.d];exact u) B;rw[C] at f;have e:ev ans st (n+1) (.each p q) i c=andO (ev ans st n p i (c.1+1,c.2)) λs c=>evw (λw c=>ev ans st n q (.str w) c) (z9 s) [] c:=by rw[ev,if_neg v]
   rw[e];have I:td++[D.tup [.str QG,q.d],ptD i p.d]=(td++[D.tup [.str QG,q.d]])++[ptD i p.d]:=by simp
   rw[I] at f;refine zY.pre (c:=c) (lo:=1) (hi:=1) (e:=0) (Go.one (Je f)) ?_ (by lia) (by lia);refine zY.andO j (JG ha hv o n p b i H hi tx _ g (c.1+1,c.2) j (by lia) (by simp;lia)) λs h hs l J=>?_;have he:=HF (S:=S) (st:=st) (a:=a) (us:=usD (ev ans st n p i (c.1+1,c.2)).2.2) (k:=((ev ans st n p i (c.1+1,c.2)).2.1:Int)) (tx:=tx) (td:=td) (g:=g++h) q.d s (by lia) (by lia) (by lia);have hw:∀ w∈z9 s,VE S st a ans n q (.str w):=λw hw=>JG ha hv o n q true (.str w) g2 λ_=>⟨w,rfl,by have:=iB w hw;lia⟩
   have hr:=bY (S:=S) (st:=st) (a:=a) (ans:=ans) (n:=n) (l0:=(g++h).length) (b:=q) (tx:=tx) (td:=td) (ws:=z9 s) hx hd hw (z9 s).length 0 [] _ (g++h++[.lst ((z9 s).map .str)]) (by lia) (by simp) l (by simp);obtain⟨m,s',k1,k2,k3,k4,k5⟩:=zY.step (Go.one (Lo he)) hr;exact⟨m,s',k1,k2,k3,k4.grow,k5⟩
  | one w p =>
   obtain⟨hw,H⟩:=z;have u:=fi (S:=S) (st:=st) (a:=a) (us:=usD c.2) (k:=(c.1:Int)+1) (tx:=tx) (td:=td) (en:=.non) (g:=g) hw i p.d (by lia);have f:=YZ (S:=S) (st:=st) (a:=a) (us:=usD c.2) (k:=(c.1:Int)) (tx:=tx) (td:=td) (g:=g) (i:=i) (show (Tr.one w p).d=.tup (.str w::[p.d]) by rw[Tr.d]) (.inl hw) (by rw[Tr.d];exact u) B;rw[C] at f;have e:ev ans st (n+1) (.one w p) i c=andO (ev ans st n p i (c.1+1,c.2)) λs c=>Kg ans w s c:=by rw[ev,if_neg v]
   rw[e];have I:td++[D.tup [.str w],ptD i p.d]=(td++[D.tup [.str w]])++[ptD i p.d]:=by simp
   rw[I] at f;refine zY.pre (c:=c) (lo:=1) (hi:=1) (e:=1) (Go.one (Je f)) ?_ (by lia) (by lia);have hp:=JG ha hv o n p b i H hi tx (td++[D.tup [.str w]]) g (c.1+1,c.2) j (by lia) (by simp;lia);obtain⟨m0,s0,j1,j2,j3,j4,j5,j6⟩:=hp;refine zY.andO (e:=1) j ⟨m0,s0,j1,j2,j3,j4,j5,j6⟩ λs h hs l J=>?_;generalize (ev ans st n p i (c.1+1,c.2)).2=A at *;unfold Kg;rcases hw with rfl | rfl | hw
   ·rw[if_neg (by decide),if_pos rfl];cases hn:qk s with
    | false =>
     rw[if_neg (by decide)];exact zY.slack <| zY.step (Go.one (vc (.inl rfl) (iA (S:=S) (st:=st) (a:=a) (us:=usD A.2) (k:=(A.1:Int)) (tx:=tx) (td:=td) (en:=.non) (g:=g++h) (by lia) hn))) (zY.over0 (JH l.1))
    | true =>
     rw[if_pos rfl];obtain⟨s1,E,G⟩:=WZ (S:=S) (st:=st) (a:=a) ha hv s (c:=A) l (tx:=tx) (td:=td) (g:=g++h) (by lia);exact zY.step (Go.one (vc (.inl rfl) (DJ (S:=S) (st:=st) (a:=a) (us:=usD A.2) (k:=(A.1:Int)) (tx:=tx) (td:=td) (en:=.non) (g:=g++h) (by lia) hn E))) G
   ·rw[if_pos rfl];exact zY.slack <| zY.step (Go.one (vc (.inr (.inl rfl)) (hJ (S:=S) (st:=st) (a:=a) (us:=usD A.2) (k:=(A.1:Int)) (tx:=tx) (td:=td) (en:=.non) (g:=g++h) s))) (zY.over0 (JH l.1))
   ·have n1:¬ w=xC:=by rcases hw with rfl | rfl | rfl | rfl | rfl<;>decide
    have n2:¬ w=tOf:=by rcases hw with rfl | rfl | rfl | rfl | rfl<;>decide
    rw[if_neg n1,if_neg n2];have hs1:=Eu (S:=S) (st:=st) (a:=a) (us:=usD A.2) (k:=(A.1:Int)) (tx:=tx) (td:=td) (en:=.non) (g:=g++h) (t:=s) hw (by lia) (by lia);have go:=Go.one (vc (.inr (.inr hw)) hs1);unfold ZJ;by_cases h9:900 < (yy w s).length
    ·rw[if_pos h9] at go;dsimp only;rw[if_pos h9];exact zY.slack (zY.step go (zY.over0 (JH l.1)))
    ·rw[if_neg h9] at go;dsimp only;rw[if_neg h9];exact zY.slack (zY.step go (zY.here0 l (by lia)))
end
section
variable {S:M.S}{st:D}{a:Nat}{us:List (D×D)}{k:Int}{tx td:List D}{en:D}{g:M.S}{ans:List (T×T)}
def Fin (S:M.S) (st:D) (a:Nat) (r:(T×T)×List T) (s:M.S):Prop :=
 ∃ us k tx td g,us.map (λp:D×D=>p.1)=r.2.map D.str/\((s=Wk S st a us k [.str r.1.2] [] .non g/\r.1.1=Jj)\/s=Wk S st a us k tx td (zW r.1) g)
theorem lu {r:(T×T)×List T}{s:M.S} (h:Fin S st a r s) (n:Nat) (v:Option D):((q7 (n+1) yr Zr [some (.ref S.length),v] s).then uV).out=.ok (zW r.1) s:=by
 have f:(2:Nat) <= SZ:=by decide
 obtain⟨us,k,tx,td,g,_,⟨rfl,e⟩ | rfl⟩:=h
 ·rw[LD];obtain⟨⟨i,t⟩,c⟩:=r;dsimp only at e;subst e;simp[wk0,wk2,at0,f,zW,RS.out]
 ·rw[eT];simp[wk0,zW,RS.out]
def JX:Out->T×T
 | .tx x=>(Jj,x)
 | .en e=>e
theorem Fs (ha:S[a]? = some (.dct (ans.map pd))) (hv:∀ q∈ans,q.2.length <= 900) (j:(yT st).length <= 900) {n:Nat} (z:n <= 40) (p:jq st n false t) :
  ∃ i,vE [.ref S.length] (Wk S st a [] 0 [] [ptD .non t.d] .non [])=.ok (zW (JX (ev ans st n t .non (0,[])).1)) i/\Fin S st a (JX (ev ans st n t .non (0,[])).1,(ev ans st n t .non (0,[])).2.2) i:=by
 obtain⟨m,i,s,A,u,l,B,C⟩:=JG ha hv j n t false .non p (λh=>nomatch h) [] [] [] (0,[]) ⟨ZR _,zg _⟩ (by simp;lia) (by simp;lia);generalize ev ans st n t .non (0,[])=r at *;have f:Fin S st a (JX r.1,r.2.2) i:=by
  obtain⟨o,c⟩:=r;cases o with
  | tx x =>
   obtain⟨h,rfl⟩:=l;exact⟨_,_,[],[],_,aN _,.inl ⟨rfl,rfl⟩⟩
  | en e =>
   obtain⟨h,tx',td',rfl⟩:=l;exact⟨_,_,_,_,_,aN _,.inr rfl⟩
 refine⟨i,?_,f⟩;show (Kk [some (.ref S.length),none] _).out=_;rw[Ew];have hm:m <= 3000:=by dsimp only at s;lia
 obtain⟨v,e⟩:=u (999999999999 - m+1) none;have w:Ke=999999999999 - m+1+m:=by unfold Ke;lia
 show ((q7 Ke yr Zr [some (.ref S.length),none] (Wk S st a [] 0 [] ([]++[ptD .non t.d]) .non [])).then uV).out=_;rw[w];have y:q7 (999999999999 - m+1+m) yr Zr [some (.ref S.length),none] (Wk S st a [] 0 [] ([]++[ptD .non t.d]) .non [])=q7 (999999999999 - m+1) yr Zr [some (.ref S.length),v] i:=e;rw[y];exact lu f _ _
end
def Kx:SM :=
  (zG (zP 3 (K0 4 7 YJ (zB (zA 0) (zB (zA 1) (zB (zA 2) zC)))))
  (zG (zP 4 (jS 4 vE (zA 3) zC))
  (zh (zr (zB (zA 4) (zB (zJ QM (zB (jG 4 2 (zA 3)) zC)) zC))))))
def IS:F:=fn 5 Kx
abbrev Qj:F:=IS
theorem fW {S:M.S}{st:D}{a:Nat}{r:(T×T)×List T}{i:M.S} (h:vE [.ref S.length] (Wk S st a [] 0 [] [ptD .non c] .non [])=.ok (zW r.1) i) (f:Fin S st a r i) :
  ∃ l g,Qj [c,st,.ref a] S=.ok (.tup [zW r.1,.ref l]) (S++g)/\(S++g)[l]? = some (.lst (r.2.map D.str)):=by
 have j:(2:Nat) <= SZ:=by decide
 have hi:=Lb S c st a;obtain⟨us,k,tx,td,g,m,hs⟩:=f;obtain⟨tx',td',en,rfl⟩:∃ tx td en,i=Wk S st a us k tx td en g:=by
  rcases hs with ⟨e,_⟩ | e
  ·exact⟨_,_,_,e⟩
  ·exact⟨_,_,_,e⟩
 refine⟨S.length+4+g.length,.ins 4 [some st,some (.ref a),some (.ref (S.length+1)),some (.int k),some (.ref (S.length+2)),some (.ref (S.length+3)),some en]::.dct us::.lst tx'::.lst td'::(g++[.lst (r.2.map D.str)]),?_,?_⟩
 ·have n:(Wk S st a us k tx' td' en g).length=S.length+4+g.length:=by simp[Wk];lia
  have o:(zP 3 (K0 4 7 YJ (zB (zA 0) (zB (zA 1) (zB (zA 2) zC))))) [some c,some st,some (.ref a),none,none] S=.nx [some c,some st,some (.ref a),some (.ref S.length),none] (Wk S st a [] 0 [] [ptD .non c] .non []):=by
   simp only[zP,K0,zB,zC,zA,jP,jg,R.bind_ok,hi,if_true,R.stm_ok,ZV,Ze];rfl
  have p:(zP 4 (jS 4 vE (zA 3) zC)) [some c,some st,some (.ref a),some (.ref S.length),none] (Wk S st a [] 0 [] [ptD .non c] .non [])=.nx [some c,some st,some (.ref a),some (.ref S.length),some (zW r.1)] (Wk S st a us k tx' td' en g):=by
   simp[wk0,h]
  show (Kx [some c,some st,some (.ref a),none,none] S).out=_;unfold Kx;show ((((zP 3 _) [some c,some st,some (.ref a),none,none] S).then _).out)=_;rw[o,RS.then_nx];show ((((zP 4 _) [some c,some st,some (.ref a),some (.ref S.length),none] (Wk S st a [] 0 [] [ptD .non c] .non [])).then _).out)=_;rw[p,RS.then_nx];have q:Wk S st a us k tx' td' en g++[.lst (r.2.map D.str)]=S++(.ins 4 [some st,some (.ref a),some (.ref (S.length+1)),some (.int k),some (.ref (S.length+2)),some (.ref (S.length+3)),some en]::.dct us::.lst tx'::.lst td'::(g++[.lst (r.2.map D.str)])):=by simp[Wk]
  rw[<- q];simp[wk0,wk1,m,n,j,RS.out]
 ·rw[Zh (by lia),show S.length+4+g.length - S.length=g.length+1+1+1+1 by lia];simp
theorem Ud {S:M.S}{st:D}{a:Nat}{ans:List (T×T)} (ha:S[a]? = some (.dct (ans.map pd))) (hv:∀ q∈ans,q.2.length <= 900) (c:(yT st).length <= 900) {n:Nat} (e:n <= 40) (f:jq st n false t) :
  ∃ l g,Qj [t.d,st,.ref a] S=.ok (.tup [zW (JX (ev ans st n t .non (0,[])).1),.ref l]) (S++g)/\(S++g)[l]? = some (.lst ((ev ans st n t .non (0,[])).2.2.map D.str)):=by
 obtain⟨j,h,i⟩:=Fs (S:=S) (st:=st) (a:=a) ha hv c e f;exact fW (r:=(JX (ev ans st n t .non (0,[])).1,(ev ans st n t .non (0,[])).2.2)) h i
def U3:SM :=
  (zh (eOp zH (eC (.str [97,98,99,100,101,102,103,104,105,106,107,108,109,110,111,112,113,114,115,116,117,118,119,120,121,122])) (eOp jU (zA 0) (eC (.int 26)))))
def C8:F:=fn 1 U3
noncomputable def yJ (c:Int):Nat:=97+(c % 26).toNat
noncomputable def abc:T:=[97,98,99,100,101,102,103,104,105,106,107,108,109,110,111,112,113,114,115,116,117,118,119,120,121,122]
theorem fH (c:Int):atI abc (c % 26)=some (yJ c):=by
 have a:=yv c (show (26:Int)≠0 by decide);have b:=Za c (show (0:Int) < 26 by decide);rw[Qb a (by show _ < ((26:Nat):Int);exact b) 0];unfold yJ;have:∀ n:Nat,n < 26->abc.getD n 0=97+n:=by decide
 rw[this _ (by lia)]
theorem aM (c:Int):97 <= yJ c/\yJ c <= 122:=by
 have a:=yv c (show (26:Int)≠0 by decide);have b:=Za c (show (0:Int) < 26 by decide);unfold yJ
 lia
def ZP:F
 | [.int c],s=>.ok (.str [yJ c]) s
 | _,_=>.no
theorem L3:jM 1 C8 ZP:=jM.pure λds S f c g=>by
 match ds,f with
 | [a],_ =>
  cases a with
  | int c =>
   have e:=fH c;unfold abc at e;have z:(26:Nat) <= SZ:=by decide
   exact .inr ⟨.str [yJ c],[],rfl,by simp[C8,U3,e,z],rfl⟩
  | _=>exact .inl rfl
def K9:SM :=
  (zP 2 (Qd (yP []) 1 (qi (eC (.int 8))) (zq 5) jk (zJ ZP (zB (eOp jU (eOp yM (eOp zo (eOp jt (zA 0) (eC (.int 468))) (eOp yM (zA 5) (eC (.int 977)))) (eC (.int 48271))) (eC (.int 7919))) zC))))
def k8:SM :=
  (zP 3 (eOp zH (jR (zB (eC (.int 1)) (zB (eC (.int 2)) (zB (eC (.int 3)) (zB (eC (.int 4)) (zB (eC (.int 6)) (zB (eC (.int 8)) zC))))))) (eOp jU (eOp jt (zA 0) (eC (.int 26))) (eC (.int 6)))))
def k9:SM :=
  (sIf (zO cEq (eOp jU (eOp jt (zA 0) (eC (.int 156))) (eC (.int 3))) (eC (.int 0)))
  (zh (eSl (zA 2) yh (qV (eOp zo (zA 1) (eC (.int 1))))))
  z8)
def vJ:SM :=
  (zP 4 (eOp jU (eOp jt (zA 0) (eC (.int 468))) (zA 3)))
def Xr:SM :=
  (sIf (zO cEq (eOp jU (eOp jt (zA 0) (eC (.int 156))) (eC (.int 3))) (eC (.int 1)))
  (zh (eOp zo (eOp zo (eSl (zA 2) yh (qV (zA 4))) (zJ ZP (zB (eOp zo (zA 0) (zA 1)) zC))) (eSl (zA 2) (qV (eOp zo (zA 4) (eC (.int 1)))) (qV (zA 3)))))
  z8)
def vb:SM :=
  (zh (eOp zo (zJ ZP (zB (eOp zo (zA 0) (zA 1)) zC)) (eSl (zA 2) (qV (zA 1)) (qV (eOp zo (zA 1) (eOp jU (eOp zo (zA 3) (zA 1)) (eC (.int 8))))))))
def dC:SM:=(zG K9 (zG k8 (zG k9 (zG vJ (zG Xr vb)))))
def EX:F:=fn 5 dC
def yg (c:Int):T:=(j8 8).map λ(j:Nat)=>yJ ((c / 468+j * 977) * 48271 % 7919)
noncomputable def qI (c:Int):Int:=([1,2,3,4,6,8]:List Int).getD (c / 26 % 6).toNat 1
def plT (c k:Int):T:=if c / 156 % 3=0 then cut (yg c) none (some (k+1)) else if c / 156 % 3=1 then cut (yg c) none (some (c / 468 % qI c))++[yJ (c+k)]++cut (yg c) (some (c / 468 % qI c+1)) (some (qI c)) else [yJ (c+k)]++cut (yg c) (some k) (some (k+(qI c+k) % 8))
def QS (x:T):Prop:=∀ ch∈x,97 <= ch/\ch <= 122
theorem Vx (h:QS x) (k:QS y):QS (x++y):=λch c=>(List.mem_append.mp c).elim (h ch) (k ch)
theorem wV (c:Int):QS [yJ c]:=λch e=>by rw[List.mem_singleton.mp e];exact aM c
theorem vj (c:Int):QS (yg c):=λch e=>by
 obtain⟨j,_,rfl⟩:=List.mem_map.mp e;exact aM _
theorem WC {x:T}{lo hi:Option Int}{ch:Nat} (h:ch∈cut x lo hi):ch∈x:=by
 unfold cut at h;exact ud (Cy h)
theorem vd (h:QS x) (lo hi:Option Int):QS (cut x lo hi):=λch c=>h ch (WC c)
theorem uK (c:Int):(yg c).length=8:=by simp[yg]
theorem mj (c k:Int):QS (plT c k):=by
 unfold plT;split
 ·exact vd (vj c) _ _
 ·split
  ·exact Vx (Vx (vd (vj c) _ _) (wV _)) (vd (vj c) _ _)
  ·exact Vx (wV _) (vd (vj c) _ _)
theorem l9 (c k:Int):(plT c k).length <= 17:=by
 unfold plT;have h:=λlo hi=>br (yg c) lo hi;have b:=uK c;split
 ·have:=h none (some (k+1));lia
 ·split
  ·have e:=h none (some (c / 468 % qI c));have f:=h (some (c / 468 % qI c+1)) (some (qI c));simp only[jv,KH];lia
  ·have e:=h (some k) (some (k+(qI c+k) % 8));simp only[jv,KH];lia
theorem BM (c:Int):atI ([.int 1,.int 2,.int 3,.int 4,.int 6,.int 8]:List D) (c / 26 % 6)=some (.int (qI c))/\0 < qI c/\qI c <= 8:=by
 have a:=yv (c / 26) (show (6:Int)≠0 by decide);have b:=Za (c / 26) (show (0:Int) < 6 by decide);unfold qI;rw[Qb a (by show _ < ((6:Nat):Int);exact b) (.int 1)];generalize f:(c / 26 % 6).toNat=n;have e:n < 6:=by lia
 have:∀ n:Nat,n < 6->([.int 1,.int 2,.int 3,.int 4,.int 6,.int 8]:List D).getD n (.int 1)=.int (([1,2,3,4,6,8]:List Int).getD n 1)/\0 < ([1,2,3,4,6,8]:List Int).getD n 1/\([1,2,3,4,6,8]:List Int).getD n 1 <= 8:=by decide
 have:=this n e;exact⟨by rw[this.1],this.2⟩
def Xt:F
 | [.int c,.int k],s=>.ok (.str (plT c k)) s
 | _,_=>.no
theorem eS (c k:Int) (S:M.S) (r:SM):(K9 [some (.int c),some (.int k),none,none,none] S).then r=r [some (.int c),some (.int k),some (.str (yg c)),none,none] S:=by
 have g:qo 977=true:=by decide
 have h:qo 48271=true:=by decide
 have i:jz 1 (qi (eC (.int 8))) (zq 5) jk (zJ ZP (zB (eOp jU (eOp yM (eOp zo (eOp jt (zA 0) (eC (.int 468))) (eOp yM (zA 5) (eC (.int 977)))) (eC (.int 48271))) (eC (.int 7919))) zC)) [some (.int c),some (.int k),none,none,none] S=.ok ((j8 8).map λ(j:Nat)=>.str [yJ ((c / 468+j * 977) * 48271 % 7919)]) S:=by
  have:=uu (n:=1) (it:=qi (eC (.int 8))) (tg:=zq 5) (e:=zJ ZP (zB (eOp jU (eOp yM (eOp zo (eOp jt (zA 0) (eC (.int 468))) (eOp yM (zA 5) (eC (.int 977)))) (eC (.int 48271))) (eC (.int 7919))) zC)) (σ:=[some (.int c),some (.int k),none,none,none]) (s:=S) (lo:=0) (hi:=8) (λ(j:Nat)=>.str [yJ ((c / 468+j * 977) * 48271 % 7919)]) (by simp) (by decide) λj f=>by
   simp[ZP,g,h]
  exact this
 have f:=cq (λ(j:Nat)=>yJ ((c / 468+j * 977) * 48271 % 7919)) (j8 8) S (by decide);simp[K9,i,f,yg]
theorem Ib:jM 2 EX Xt:=jM.pure λds S o c r=>by
 match ds,o with
 | [a,b],_ =>
  cases a with
  | int c =>
   cases b with
   | int k =>
    obtain⟨e,l,s⟩:=BM c;refine .inr ⟨.str (plT c k),[.lst [.int 1,.int 2,.int 3,.int 4,.int 6,.int 8]],rfl,?_,rfl⟩;show ((K9 [some (.int c),some (.int k),none,none,none] S).then (zG k8 (zG k9 (zG vJ (zG Xr vb))))).out=_;rw[eS];have f:(6:Nat) <= SZ:=by decide
    have g:(8:Nat) <= SZ:=by decide
    have i:=uK c;have h:=λlo hi=>br (yg c) lo hi;have t:(qI c).natAbs < 1073741824:=by lia
    unfold plT;by_cases m:c / 156 % 3=0
    ·simp[k8,k9,f,g,e,m,i]
    ·by_cases n:c / 156 % 3=1
     ·have p:=h none (some (c / 468 % qI c));have u:=h (some (c / 468 % qI c+1)) (some (qI c));have j:(cut (yg c) none (some (c / 468 % qI c))).length+1 <= SZ:=by unfold SZ;lia
      have q:(cut (yg c) none (some (c / 468 % qI c))).length+1+(cut (yg c) (some (c / 468 % qI c+1)) (some (qI c))).length <= SZ:=by unfold SZ;lia
      simp[k8,k9,vJ,Xr,f,g,e,n,i,l,ZP,j];exact q
     ·have p:=h (some k) (some (k+(qI c+k) % 8));have j:1+(cut (yg c) (some k) (some (k+(qI c+k) % 8))).length <= SZ:=by unfold SZ;lia
      simp[k8,k9,vJ,Xr,vb,f,g,e,m,n,i,l,ZP,j]
   | _=>exact .inl rfl
  | _=>exact .inl rfl
def XO:SM :=
  (zP 1 (jR (zB (eC (.str [111,102])) (zB (eC (.str [105,102])) (zB (eC (.str [105,115])) (zB (eC (.str [116,104,101,110])) (zB (eC (.str [101,108,115,101])) (zB (eC (.str [101,97,99,104])) (zB (eC (.str [100,111])) (zB (eC (.str [105,116])) (zB (eC (.str [98,97,99,107])) (zB (eC (.str [102,105,114,115,116])) (zB (eC (.str [114,101,115,116])) (zB (eC (.str [99,111,117,110,116])) (zB (eC (.str [115,111,114,116,101,100])) zC)))))))))))))))
def X6:SM :=
  (zP 1 (eOp zo (zA 1) (jR (zB (eC (.str [102,97,105,108])) (zB (eC (.str [108,105,110,101])) (zB (eC (.str [109,111,114,101])) zC))))))
def XZ:SM :=
  (zP 2 (jR zC))
def kJ:SM :=
  (qZ (qi (eC (.int 8))) (zq 3)
  (zG (zP 4 (zJ Xt (zB (zA 0) (zB (zA 3) zC))))
  (zG (qZ (qi (eC (.int 26))) (zq 5)
  (sIf (tOr (zO cIn (zA 4) (zA 1)) (zO cIn (zA 4) (zA 2)))
  (zP 4 (eOp zo (zJ ZP (zB (eOp zo (zA 0) (zA 5)) zC)) (eSl (zA 4) (qV (eC (.int 1))) yh)))
  z8))
  (jA (eM .list yl (zA 2) (zB (zA 4) zC))))))
def vf:SM :=
  (zh (zA 2))
def W4:SM:=(zG XO (zG X6 (zG XZ (zG kJ vf))))
def Lj:F:=fn 6 W4
def xD (c:Int) (N:List T) (w:T) (j:Nat):T:=if jI.contains w=true\/N.contains w=true then yJ (c+j)::w.drop 1 else w
def qa (c:Int) (k:Nat) (N:List T) (j:Nat):T:=(j8 j).foldl (xD c N) (plT c k)
def qx (c:Int):Nat->List T
 | 0=>[]
 | k+1=>qx c k++[qa c k (qx c k) 26]
theorem vO (c:Int) (k:Nat) (N:List T) (j:Nat):qa c k N (j+1)=xD c N (qa c k N j) j:=by
 unfold qa;rw[Gj,bq];rfl
theorem Vp (c:Int) (k:Nat) (N:List T):∀ j,QS (qa c k N j)/\(qa c k N j).length <= 17
 | 0=>⟨mj c k,l9 c k⟩
 | j+1=>by
  obtain⟨e,f⟩:=Vp c k N j;rw[vO];unfold xD;split
  ·refine⟨Vx (x:=[yJ (c+j)]) (wV _) λch g=>e ch (ud g),?_⟩;simp only[jE,Qa]
   lia
  ·exact⟨e,f⟩
theorem W9 (c:Int):∀ k,∀ t∈qx c k,QS t/\t.length <= 17
 | 0,t,h=>by cases h
 | k+1,t,h=>by
  unfold qx at h;rcases List.mem_append.mp h with h | h
  ·exact W9 c k t h
  ·rw[List.mem_singleton.mp h];exact Vp c k _ 26
theorem YQ (c:Int):∀ k,(qx c k).length=k
 | 0=>rfl
 | k+1=>by rw[qx,jv,YQ c k];rfl
def V7:F
 | [.int c],s=>alloc (.lst ((qx c 8).map .str)) s
 | _,_=>.no
abbrev dR:SM:=sIf (tOr (zO cIn (zA 4) (zA 1)) (zO cIn (zA 4) (zA 2)))
  (zP 4 (eOp zo (zJ ZP (zB (eOp zo (zA 0) (zA 5)) zC)) (eSl (zA 4) (qV (eC (.int 1))) yh)))
  z8
abbrev nb1:SM:=zP 4 (zJ Xt (zB (zA 0) (zB (zA 3) zC)))
abbrev nb2:SM:=qZ (qi (eC (.int 26))) (zq 5) dR
abbrev nb3:SM:=jA (eM .list yl (zA 2) (zB (zA 4) zC))
abbrev Ah:SM:=zG nb1 (zG nb2 nb3)
theorem Gp:kJ=qZ (qi (eC (.int 8))) (zq 3) Ah:=rfl
theorem vg {s:M.S}{p:Nat}{ts:List T} (e:s[p]? = some (.lst (ts.map .str))) (x:T):inD (.str x) (.ref p) s=.ok (ts.contains x) s:=by
 simp only[inD,e];rw[if_pos (by rw[cF];rfl),va]
theorem gE {c:Int}{k:Nat}{K N:List T}{s:M.S}{p q:Nat} (B:s[p]? = some (.lst (jI.map .str))) (hq:s[q]? = some (.lst (N.map .str))) (v5:Option D) :
  ∃ h,∀ r,zG nb2 r [some (.int c),some (.ref p),some (.ref q),some (.int (k:Nat)),some (.str (plT c k)),v5] s=r [some (.int c),some (.ref p),some (.ref q),some (.int (k:Nat)),some (.str (qa c k N 26)),h] s:=by
 obtain⟨C,i,e,E,h,G⟩:=xh (g:=[]) (f:=qO (zq 5) dR) (λj σ i=>i=s/\∃ v5:Option D,σ=[some (.int c),some (.ref p),some (.ref q),some (.int (k:Nat)),some (.str (qa c k N j)),v5]) (ju 0 26) 0 [some (.int c),some (.ref p),some (.ref q),some (.int (k:Nat)),some (.str (plT c k)),v5] s ⟨rfl,v5,rfl⟩ λj d hd σ i ⟨es,v5,l⟩=>by
  subst es l;have n:d=.int (j:Int):=by
   unfold ju at hd;rw[qX] at hd;cases o:(j8 ((26:Int) - 0).toNat)[j]? with
   | none=>rw[o] at hd;cases hd
   | some m =>
    rw[o] at hd;have:=(List.getElem?_eq_some_iff.mp o).2;rw[CV] at this;subst this;simp at hd;exact hd.symm
  subst n;rw[yU,vO];have J:=(Vp c k N j).2;have t:=vg B (qa c k N j);have v:=vg hq (qa c k N j);generalize qa c k N j=w at *;refine⟨_,i,?_,rfl,rfl,some (.int (j:Int)),rfl⟩;have x:w.length <= SZ:=by unfold SZ;lia
  have y:1+(w.drop 1).length <= SZ:=by rw[Qa];unfold SZ;lia
  have z:cut w (some 1) none=w.drop 1:=by rw[KD _ (by decide)];rfl
  unfold xD;by_cases u:jI.contains w=true
  ·simp[-inD,-AR,t,u,ZP,x,z];simpa using y
  ·by_cases A:N.contains w=true
   ·simp[-inD,-AR,t,v,u,A,ZP,x,z];simpa using y
   ·simp[-inD,-AR,t,v,u,A]
 subst E G;refine⟨h,λr=>?_⟩;have H:∀ s,zj [] s=true:=λ_=>rfl;have I:(26:Int).natAbs < 4611686018427387904:=by decide
 show ((qZ _ _ _ _ _).then r)=_;simp only[qZ,qi,eC,R.bind_ok,I,if_true,R.stm_ok,H,e,RS.then_nx];rfl
theorem Hb:jM 1 Lj V7:=jM.new λds S t c L=>by
 match ds,t with
 | [a],_ =>
  cases a with
  | int c =>
   have h:(13:Nat) <= SZ:=by decide
   have u:(3:Nat) <= SZ:=by decide
   have i:(16:Nat) <= SZ:=by decide
   have v:(0:Nat) <= SZ:=by decide
   have w:∀ r,(XO [some (.int c),none,none,none,none,none] S).then (zG X6 (zG XZ r))=r [some (.int c),some (.ref (S.length+2)),some (.ref (S.length+3)),none,none,none] (S++[.lst ((jI.take 13).map .str),.lst ((jI.drop 13).map .str),.lst (jI.map .str),.lst []]):=λr=>by
    simp[XO,X6,XZ,h,u,i,v,jI]
   generalize Q:O.lst ((jI.take 13).map .str)=A at *;generalize U:O.lst ((jI.drop 13).map .str)=B at *;obtain⟨x,j,e,y,v3,v4,v5,z⟩:=xh (g:=[]) (f:=qO (zq 3) Ah) (λk σ j=>j=S++[A,B,.lst (jI.map .str),.lst ((qx c k).map .str)]/\∃ v3 v4 v5:Option D,σ=[some (.int c),some (.ref (S.length+2)),some (.ref (S.length+3)),v3,v4,v5]) (ju 0 8) 0 [some (.int c),some (.ref (S.length+2)),some (.ref (S.length+3)),none,none,none] (S++[A,B,.lst (jI.map .str),.lst []]) ⟨rfl,_,_,_,rfl⟩ λk d hd σ j ⟨es,v3,v4,v5,l⟩=>by
    subst es l;have m:k < 8:=by have:=(List.getElem?_eq_some_iff.mp hd).1;simpa [ju] using this
    have n:d=.int (k:Int):=by
     have:∀ k:Nat,k < 8->(ju 0 8)[k]? = some (.int (k:Int)):=by decide
     rw[this k m] at hd;cases hd;rfl
    subst n;rw[yU];obtain⟨o,C⟩:=gE (c:=c) (k:=k) (K:=jI) (N:=qx c k) (s:=S++[A,B,.lst (jI.map .str),.lst ((qx c k).map .str)]) (p:=S.length+2) (q:=S.length+3) (by simp) (by simp) v5;refine⟨[some (.int c),some (.ref (S.length+2)),some (.ref (S.length+3)),some (.int (k:Int)),some (.str (qa c k (qx c k) 26)),o],S++[A,B,.lst (jI.map .str),.lst ((qx c (k+1)).map .str)],?_,rfl,rfl,_,_,_,rfl⟩;show zG nb1 (zG nb2 nb3) [some (.int c),some (.ref (S.length+2)),some (.ref (S.length+3)),some (.int (k:Int)),v4,v5] _=_;have E:∀ (r:SM) (s:M.S),zG nb1 r [some (.int c),some (.ref (S.length+2)),some (.ref (S.length+3)),some (.int (k:Int)),v4,v5] s=r [some (.int c),some (.ref (S.length+2)),some (.ref (S.length+3)),some (.int (k:Int)),some (.str (plT c k)),v5] s:=λr s=>by
     simp[Xt]
    rw[E,C];have G:(qx c k).length < SZ:=by rw[YQ];unfold SZ;lia
    simp[G,qx]
   refine .inr ⟨.lst ((qx c 8).map .str),S.length+3,[A,B,.lst (jI.map .str),.lst ((qx c 8).map .str)],rfl,?_,by simp,by lia,wM _ _⟩;show ((XO [some (.int c),none,none,none,none,none] S).then (zG X6 (zG XZ (zG kJ vf)))).out=_;rw[w];subst y z;have H:∀ r,(kJ [some (.int c),some (.ref (S.length+2)),some (.ref (S.length+3)),none,none,none] (S++[A,B,.lst (jI.map .str),.lst []])).then r=r [some (.int c),some (.ref (S.length+2)),some (.ref (S.length+3)),v3,v4,v5] (S++[A,B,.lst (jI.map .str),.lst ((qx c 8).map .str)]):=λr=>by
    rw[Gp];have I:∀ s,zj [] s=true:=λ_=>rfl;have J:(8:Int).natAbs < 4611686018427387904:=by decide
    simp only[qZ,qi,eC,R.bind_ok,J,if_true,R.stm_ok,I,e,RS.then_nx];rfl
   show ((kJ _ _).then _).out=_;rw[H];simp[vf]
  | _=>exact .inl rfl
def wG:SM :=
  (zG (zP 1 (eC (.str [32,33,35,36,38,39,40,41,42,43,44,45,46,47,48,49,50,51,52,53,54,55,56,57,58,59,60,61,62,63,64,65,66,67,68,69,70,71,72,73,74,75,76,77,78,79,80,81,82,83,84,85,86,87,88,89,90,91,92,93,94,95,96])))
  (zG (zP 1 (eOp zo (zA 1) (eC (.str [97,98,99,100,101,102,103,104,105,106,107,108,109,110,111,112,113,114,115,116,117,118,119,120,121,122,123,124,125,126]))))
  (zh (eOp zH (zA 1) (eOp jU (zA 0) (eC (.int 93)))))))
def wX:F:=fn 2 wG
noncomputable def k7:F:=chS wX
theorem GX:jM 1 wX k7:=yj _
noncomputable def Vj:T:=[32,33,35,36,38,39,40,41,42,43,44,45,46,47,48,49,50,51,52,53,54,55,56,57,58,59,60,61,62,63,64,65,66,67,68,69,70,71,72,73,74,75,76,77,78,79,80,81,82,83,84,85,86,87,88,89,90,91,92,93,94,95,96]++[97,98,99,100,101,102,103,104,105,106,107,108,109,110,111,112,113,114,115,116,117,118,119,120,121,122,123,124,125,126]
def sgN (c:Int):Nat:=Vj.getD (c % 93).toNat 0
theorem eu (c:Int) (S:M.S):k7 [.int c] S=.ok (.str [sgN c]) S:=by
 have a:=yv c (show (93:Int)≠0 by decide);have b:=Za c (show (0:Int) < 93 by decide);have e:atI Vj (c % 93)=some (sgN c):=Qb (xs:=Vj) a (show c % 93 < ((93:Nat):Int) from b) 0;have f:(93:Nat) <= SZ:=by decide
 refine yi (g:=[]) ?_ rfl;rw[qw];unfold Vj at e;have h:(63:Nat)+30 <= SZ:=by decide
 simp only[wX,wG,fn,jN,xf,jE,qz,jK,Vv,XG,zG,zP,eC,R.stm_ok,Ze,ZV,RS.then_nx,eOp,zA,jg,jP,R.bind_ok,zo,zh,jU];simp only[Vv,XG] at e;simp[e,f,RS.out]
def wh:SM :=
  (zh (Qd (yP []) 1 (qi (zA 1)) (zq 2) jk (zJ k7 (zB (eOp zo (eOp jU (eOp yM (eOp zo (zA 0) (eOp yM (zA 2) (eC (.int 977)))) (eC (.int 48271))) (eC (.int 7919))) (eOp yM (eOp jU (eOp jt (zA 0) (eC (.int 93))) (eC (.int 2))) (zA 2))) zC))))
def wz:F:=fn 2 wh
noncomputable def Xd:F:=chS wz
theorem ES:jM 2 wz Xd:=yj _
def kX (c:Int) (n:Nat):T:=(j8 n).map λ(k:Nat)=>sgN ((c+k * 977) * 48271 % 7919+c / 93 % 2 * k)
theorem B5 (c:Int) (n:Nat) (o:n <= 60) (S:M.S):Xd [.int c,.int (n:Int)] S=.ok (.str (kX c n)) S/\(kX c n).length <= 60:=by
 have f:qo 977=true:=by decide
 have h:qo 48271=true:=by decide
 have a:=yv (c / 93) (show (2:Int)≠0 by decide);have b:=Za (c / 93) (show (0:Int) < 2 by decide);have i:qo (c / 93 % 2)=true:=by unfold qo;rw[decide_eq_true_iff];lia
 have j:n < 4611686018427387904:=by lia
 have l:jz 1 (qi (zA 1)) (zq 2) jk (zJ k7 (zB (eOp zo (eOp jU (eOp yM (eOp zo (zA 0) (eOp yM (zA 2) (eC (.int 977)))) (eC (.int 48271))) (eC (.int 7919))) (eOp yM (eOp jU (eOp jt (zA 0) (eC (.int 93))) (eC (.int 2))) (zA 2))) zC)) [some (.int c),some (.int (n:Int))] S=.ok ((j8 n).map λ(k:Nat)=>.str [sgN ((c+k * 977) * 48271 % 7919+c / 93 % 2 * k)]) S:=by
  have:=uu (n:=1) (it:=qi (zA 1)) (tg:=zq 2) (e:=zJ k7 (zB (eOp zo (eOp jU (eOp yM (eOp zo (zA 0) (eOp yM (zA 2) (eC (.int 977)))) (eC (.int 48271))) (eC (.int 7919))) (eOp yM (eOp jU (eOp jt (zA 0) (eC (.int 93))) (eC (.int 2))) (zA 2))) zC)) (σ:=[some (.int c),some (.int (n:Int))]) (s:=S) (lo:=0) (hi:=(n:Int)) (λ(k:Nat)=>.str [sgN ((c+k * 977) * 48271 % 7919+c / 93 % 2 * k)]) (by simp[j]) (by unfold SZ;lia) λk p=>by
   simp[eu,f,h,i]
  simpa using this
 have m:=cq (λ(k:Nat)=>sgN ((c+k * 977) * 48271 % 7919+c / 93 % 2 * k)) (j8 n) S (by rw[Yo];unfold SZ;lia);refine⟨?_,by unfold kX;simp;lia⟩;refine yi (g:=[]) ?_ rfl;rw[qw];unfold kX;simp[wz,wh,l,m]
def vH:SM :=
  (zP 3 (eOp jU (zA 0) (eC (.int 6))))
def wO:SM :=
  (sIf (yY (qD (zA 2)) (zO cEq (zA 3) (eC (.int 0))))
  (zh (zr (zB (eC (.str [115,116,101,109])) zC)))
  z8)
def uH:SM :=
  (sIf (yY (qD (zA 2)) (zO cEq (zA 3) (eC (.int 1))))
  (zh (zr (zB (eC (.str [107,105,110])) (zB (eOp zH (zA 1) (eOp jU (eOp jt (zA 0) (eC (.int 6))) (eC (.int 8)))) zC))))
  z8)
def WQ:SM :=
  (sIf (zO cLt (zA 3) (eC (.int 3)))
  (zh (zr (zB (eC (.str [116,101,120,116])) (zB (zJ Xd (zB (eOp jt (zA 0) (eC (.int 18))) (zB (eOp yM (eOp jU (eOp jt (zA 0) (eC (.int 6))) (eC (.int 3))) (eC (.int 2))) zC))) zC))))
  z8)
def UX:SM :=
  (sIf (zO cEq (zA 3) (eC (.int 3)))
  (zh (zr (zB (eC (.str [108,105,110,101])) zC)))
  z8)
def U1:SM :=
  (sIf (zO cEq (zA 3) (eC (.int 4)))
  (zh (zr (zB (eC (.str [116,104,105,110,103])) (zB (eOp zH (zA 1) (eOp jU (eOp jt (zA 0) (eC (.int 6))) (eC (.int 8)))) zC))))
  z8)
def uW:SM :=
  (zh (zr (zB (eC (.str [116,104,105,110,103])) (zB (eOp zo (eOp zo (eOp zH (zA 1) (eOp jU (eOp jt (zA 0) (eC (.int 6))) (eC (.int 8)))) (eC (.str [46]))) (eOp zH (zA 1) (eOp jU (eOp jt (zA 0) (eC (.int 48))) (eC (.int 8))))) zC))))
def Ar:SM:=(zG vH (zG wO (zG uH (zG WQ (zG UX (zG U1 uW))))))
def vZ:F:=fn 4 Ar
noncomputable def xU:F:=chS vZ
theorem hG:jM 3 vZ xU:=yj _
noncomputable def JY (c:Bool) (N:List T):Tr->Prop
 | .stem=>c=true
 | .kin n=>c=true/\n∈N
 | .txt t=>t.length <= 60
 | .line=>True
 | .thing n=>n∈N\/∃ a∈N,∃ b∈N,n=a++[46]++b
 | _=>False
theorem Ym {ts:List T}{k:Int} (e:0 <= k) (h:k < ts.length):∃ t∈ts,atI (ts.map D.str) k=some (.str t):=by
 have c:k.toNat < ts.length:=by lia
 refine⟨ts[k.toNat],wU c,?_⟩;rw[Qb (d:=.str []) e (by simpa using h),qP,qX,yS c];rfl
theorem vK {c:TM}{e:EM}{b:Bool}{d:D}{σ:St}{s:M.S} (f:c σ s=.ok b s) (g:e σ s=.ok d s):(zG (sIf c (zh e) z8) r σ s).out=if b=true then .ok d s else (r σ s).out:=by
 rw[zG,sIf,f,R.stm_ok];cases b
 ·rfl
 ·simp only[if_true,zh,g,R.stm_ok];rfl
theorem gF {N:List T} (hN:N.length=8) (h:∀ t∈N,t.length <= 17) {S:M.S}{p:Nat} (v:S[p]? = some (.lst (N.map .str))) (c:Int) (e:Bool):∃ m,JY e N m/\xU [.int c,.ref p,.bl e] S=.ok m.d S:=by
 have x:(1:Nat) <= SZ:=by decide
 have q:(2:Nat) <= SZ:=by decide
 have C:=yv (c / 6) (show (8:Int)≠0 by decide);have a1:=Za (c / 6) (show (0:Int) < 8 by decide);have E:=yv (c / 48) (show (8:Int)≠0 by decide);have b1:=Za (c / 48) (show (0:Int) < 8 by decide);obtain⟨f,r,w⟩:=Ym (ts:=N) C (by lia);obtain⟨g,y,G⟩:=Ym (ts:=N) E (by lia);have m:=h f r;have lg:=h g y;have tx:=λs=>B5 (c / 18) (c / 6 % 3 * 2).toNat (by lia) s;rw[show (((c / 6 % 3 * 2).toNat:Nat):Int)=c / 6 % 3 * 2 by lia] at tx;generalize kX (c / 18) (c / 6 % 3 * 2).toNat=u at *;have H:=(tx S).2;have tx':=λs=>(tx s).1;have I:qo 2=true:=by decide
 have k0:=yv c (show (6:Int)≠0 by decide);have k1:=Za c (show (0:Int) < 6 by decide);have J:f.length+1 <= SZ:=by unfold SZ;lia
 have L:f.length+1+g.length <= SZ:=by unfold SZ;lia
 have i:vZ [.int c,.ref p,.bl e] S=if (e && decide (c % 6=0))=true then .ok Tr.stem.d S else if (e && decide (c % 6=1))=true then .ok (Tr.kin f).d S else if decide (c % 6 < 3)=true then .ok (Tr.txt u).d S else if decide (c % 6=3)=true then .ok Tr.line.d S else if decide (c % 6=4)=true then .ok (Tr.thing f).d S else .ok (Tr.thing (f++[46]++g)).d S:=by
  have z:∀ k:Int,(yY (qD (zA 2)) (zO cEq (zA 3) (eC (.int k)))) [some (.int c),some (.ref p),some (.bl e),some (.int (c % 6))] S=.ok (e && decide (c % 6=k)) S:=λk=>by cases e<;>simp
  have A:∀ k:Int,(zO cEq (zA 3) (eC (.int k))) [some (.int c),some (.ref p),some (.bl e),some (.int (c % 6))] S=.ok (decide (c % 6=k)) S:=λk=>by simp
  have Q:(zO cLt (zA 3) (eC (.int 3))) [some (.int c),some (.ref p),some (.bl e),some (.int (c % 6))] S=.ok (decide (c % 6 < 3)) S:=by simp
  have U:vH [some (.int c),some (.ref p),some (.bl e),none] S=.nx [some (.int c),some (.ref p),some (.bl e),some (.int (c % 6))] S:=by simp[vH]
  show (zG vH _ [some (.int c),some (.ref p),some (.bl e),none] S).out=_;rw[zG,U,RS.then_nx];unfold wO uH WQ UX U1 uW;rw[vK (z 0) (d:=Tr.stem.d) (by simp[x,Tr.d]),vK (z 1) (d:=(Tr.kin f).d) (by simp[v,w,q,Tr.d]),vK Q (d:=(Tr.txt u).d) (by simp[tx',q,I,Tr.d]),vK (A 3) (d:=Tr.line.d) (by simp[x,Tr.d]),vK (A 4) (d:=(Tr.thing f).d) (by simp[v,w,q,Tr.d])];have Y:(zh (zr (zB (eC (.str [116,104,105,110,103])) (zB (eOp zo (eOp zo (eOp zH (zA 1) (eOp jU (eOp jt (zA 0) (eC (.int 6))) (eC (.int 8)))) (eC (.str [46]))) (eOp zH (zA 1) (eOp jU (eOp jt (zA 0) (eC (.int 48))) (eC (.int 8))))) zC)))) [some (.int c),some (.ref p),some (.bl e),some (.int (c % 6))] S=.rt (Tr.thing (f++[46]++g)).d S:=by simp[v,w,G,q,J,L,Tr.d]
  rw[Y];rfl
 have fin:∀ t:Tr,JY e N t->D.cl S.length t.d=true->vZ [.int c,.ref p,.bl e] S=.ok t.d S->∃ m,JY e N m/\xU [.int c,.ref p,.bl e] S=.ok m.d S:=λt j n o=>⟨t,j,yi (g:=[]) (by rw[qw];exact o) n⟩
 by_cases l:(e && decide (c % 6=0))=true
 ·exact fin .stem (Bool.and_eq_true_iff.mp l).1 rfl (by rw[i,if_pos l])
 by_cases j:(e && decide (c % 6=1))=true
 ·exact fin (.kin f) ⟨(Bool.and_eq_true_iff.mp j).1,r⟩ rfl (by rw[i,if_neg l,if_pos j])
 by_cases n:decide (c % 6 < 3)=true
 ·exact fin (.txt u) H rfl (by rw[i,if_neg l,if_neg j,if_pos n])
 by_cases o:decide (c % 6=3)=true
 ·exact fin .line trivial rfl (by rw[i,if_neg l,if_neg j,if_neg n,if_pos o])
 by_cases B:decide (c % 6=4)=true
 ·exact fin (.thing f) (.inl r) rfl (by rw[i,if_neg l,if_neg j,if_neg n,if_neg o,if_pos B])
 exact fin (.thing (f++[46]++g)) (.inr ⟨f,r,g,y,rfl⟩) rfl (by rw[i,if_neg l,if_neg j,if_neg n,if_neg o,if_neg B])
def XW (c:F):SM :=
  (zG (zP 1 (jR zC))
  (zG (sIf (zO QT (eOp zH (zA 0) (eC (.int 0))) (jR (zB (eC (.str [116,101,120,116])) (zB (eC (.str [116,104,105,110,103])) (zB (eC (.str [107,105,110])) zC)))))
  (zP 1 (zJ QM (zB (eSl (zA 0) (qV (eC (.int 1))) yh) zC)))
  z8)
  (zh (eOp zo (eC (.int 1)) (zJ YL (zB (eOp zo (jR (zB (eC (.int 0)) zC)) (qr 1 (iE (zA 1)) (zq 2) jk (zJ c (zB (zA 2) zC)))) zC))))))
def W6 (c:F):F:=fn 2 (XW c)
noncomputable def Tr.kids:Tr->List Tr
 | .join ts=>ts
 | .ife a b x y=>[a,b,x,y]
 | .each a b=>[a,b]
 | .one _ a=>[a]
 | _=>[]
noncomputable def Tr.hgt:Tr->Nat
 | .join ts=>1+hs ts
 | .ife a b x y=>1+max a.hgt (max b.hgt (max x.hgt (max y.hgt 0)))
 | .each a b=>1+max a.hgt (max b.hgt 0)
 | .one _ a=>1+max a.hgt 0
 | _=>1
where hs:List Tr->Nat
 | []=>0
 | t::ts=>max t.hgt (hs ts)
theorem Tr.hgt_kids:∀ t:Tr,t.hgt=1+Tr.hgt.hs t.kids
 | .join _=>by rw[Tr.hgt,Tr.kids]
 | .ife _ _ _ _=>by rw[Tr.hgt,Tr.kids,Tr.hgt.hs,Tr.hgt.hs,Tr.hgt.hs,Tr.hgt.hs,Tr.hgt.hs]
 | .each _ _=>by rw[Tr.hgt,Tr.kids,Tr.hgt.hs,Tr.hgt.hs,Tr.hgt.hs]
 | .one _ _=>by rw[Tr.hgt,Tr.kids,Tr.hgt.hs,Tr.hgt.hs]
 | .txt _=>rfl
 | .line=>rfl
 | .it=>rfl
 | .stem=>rfl
 | .thing _=>rfl
 | .kin _=>rfl
theorem Tr.hs_le {n:Nat}:∀ {ts:List Tr},Tr.hgt.hs ts <= n ↔ ∀ t∈ts,t.hgt <= n
 | []=>by simp[Tr.hgt.hs]
 | t::ts=>by
  rw[Tr.hgt.hs,Nat.max_le,Tr.hs_le (ts:=ts)];simp
theorem BY {st:D}{n:Nat}{b:Bool} (h:jq st (n+1) b t):∀ k∈t.kids,∃ e,jq st n e k:=by
 intro k c;cases t with
 | join ts=>exact⟨b,h.2.2 k c⟩
 | ife p q x y =>
  simp[Tr.kids] at c;rcases c with rfl | rfl | rfl | rfl
  ·exact⟨b,h.1⟩
  ·exact⟨b,h.2.1⟩
  ·exact⟨b,h.2.2.1⟩
  ·exact⟨b,h.2.2.2⟩
 | each p q =>
  simp[Tr.kids] at c;rcases c with rfl | rfl
  ·exact⟨b,h.1⟩
  ·exact⟨true,h.2⟩
 | one w p =>
  simp[Tr.kids] at c;subst c;exact⟨b,h.2⟩
 | _=>cases c
theorem wJ {st:D}:∀ {n:Nat}{b:Bool}{t:Tr},jq st n b t->t.hgt <= n
 | 0,_,_,h=>h.elim
 | n+1,b,t,h=>by
  rw[Tr.hgt_kids];have:Tr.hgt.hs t.kids <= n:=Tr.hs_le.mpr λk c=>by
   obtain⟨e,h'⟩:=BY h k c;exact wJ h'
  lia
theorem Z4 {st:D}:∀ {n m:Nat}{b c:Bool}{t:Tr},jq st n b t->t.hgt <= m->(b=true->c=true)->jq st m c t
 | 0,_,_,_,_,h,_,_=>h.elim
 | n+1,m,b,c,t,h,hm,e=>by
  rw[Tr.hgt_kids] at hm;obtain⟨m,rfl⟩:∃ g,m=g+1:=⟨m - 1,by lia⟩
  have f:∀ k∈t.kids,k.hgt <= m:=Tr.hs_le.mp (by lia);cases t with
  | txt x=>exact h
  | line=>trivial
  | it=>exact e h
  | stem=>exact h
  | thing x=>exact h
  | kin x=>exact h
  | join ts=>exact⟨h.1,h.2.1,λk z=>Z4 (h.2.2 k z) (f k z) e⟩
  | ife p q x y=>exact⟨Z4 h.1 (f _ (by simp[Tr.kids])) e,Z4 h.2.1 (f _ (by simp[Tr.kids])) e,Z4 h.2.2.1 (f _ (by simp[Tr.kids])) e,Z4 h.2.2.2 (f _ (by simp[Tr.kids])) e⟩
  | each p q=>exact⟨Z4 h.1 (f _ (by simp[Tr.kids])) e,Z4 h.2 (f _ (by simp[Tr.kids])) λz=>z⟩
  | one w p=>exact⟨h.1,Z4 h.2 (f _ (by simp[Tr.kids])) e⟩
noncomputable abbrev Qh:List T:=[[116,101,120,116],[116,104,105,110,103],[107,105,110]]
theorem fc {st:D}{n:Nat}{b:Bool} (h:jq st (n+1) b t):∃ k ds,t.d=.tup (.str k::ds)/\(Qh.contains k=true->t.kids=[])/\(Qh.contains k=false->ds=t.kids.map Tr.d)/\ds.length <= 50:=by
 cases t with
 | txt x=>exact⟨_,_,rfl,λ_=>rfl,λz=>absurd z (by decide),by simp⟩
 | line=>exact⟨_,_,rfl,λ_=>rfl,λ_=>rfl,by simp⟩
 | it=>exact⟨_,_,rfl,λ_=>rfl,λ_=>rfl,by simp⟩
 | stem=>exact⟨_,_,rfl,λ_=>rfl,λ_=>rfl,by simp⟩
 | thing x=>exact⟨_,_,rfl,λ_=>rfl,λz=>absurd z (by decide),by simp⟩
 | kin x=>exact⟨_,_,rfl,λ_=>rfl,λz=>absurd z (by decide),by simp⟩
 | join ts=>exact⟨_,_,rfl,λz=>absurd z (by decide),λ_=>Tr.ds_map ts,by rw[Tr.ds_map,jH];exact h.2.1⟩
 | ife p q x y=>exact⟨_,_,rfl,λz=>absurd z (by decide),λ_=>rfl,by simp⟩
 | each p q=>exact⟨_,_,rfl,λz=>absurd z (by decide),λ_=>rfl,by simp⟩
 | one w p =>
  refine⟨w,_,rfl,λz=>?_,λ_=>rfl,by simp⟩;obtain⟨hw,_⟩:=h;rcases hw with rfl | rfl | rfl | rfl | rfl | rfl | rfl<;>exact absurd z (by decide)
theorem cU {g:Gd}{c:Type}{F:D->M.S->R (Option D)}{s:M.S} (f h:c->D) (e:zj g s=true):∀ as:List c,(∀ a∈as,F (f a) s=.ok (some (h a)) s)->qt g F (as.map f) s=.ok (as.map h) s
 | [],_=>rfl
 | a::as,i=>by
  have j:=cU f h e as λb l=>i b (je _ l);rw[jN,qt,i a qJ,R.bind_ok,if_pos e,j];rfl
theorem wA {n:Nat}{it:IM}{tg:GM}{e:EM}{σ:St}{s:M.S}{c:Type}{as:List c} (f h:c->D) {g:Gd} (hi:it σ s=.ok (as.map f,g) s) (j:as.length <= SZ) (i:zj g s=true) (l:∀ a∈as,qu n tg jk e σ (f a) s=.ok (some (h a)) s):jz n it tg jk e σ s=.ok (as.map h) s:=by
 unfold jz;rw[hi,R.bind_ok,if_pos ⟨by rw[jH];exact j,i⟩];exact cU f h i as l
noncomputable def Z0:Nat->F
 | 0=>λ_ _=>.no
 | n+1=>chS (W6 (Z0 n))
theorem IU (ds:List D) (s:M.S):Z0 0 ds s=.no:=rfl
noncomputable abbrev XD:F:=Z0 20
theorem Iv (n:Nat):jM 1 (W6 (Z0 n)) (Z0 (n+1)):=yj _
theorem B8:∀ (ts:List Tr) (b:Nat),(ts.map λt=>((t.hgt:Nat):Int)).foldl (λb y=>if b < y then y else b) (b:Int)=((max b (Tr.hgt.hs ts):Nat):Int)
 | [],b=>by simp[Tr.hgt.hs]
 | t::ts,b=>by
  rw[jN,Z7,Tr.hgt.hs];have e:(if (b:Int) < (t.hgt:Int) then (t.hgt:Int) else (b:Int))=((max b t.hgt:Nat):Int):=by split<;>lia
  rw[e,B8 ts (max b t.hgt),Nat.max_assoc]
theorem BI:∀ ts:List Tr,Q9 (ts.map λt=>.int (t.hgt:Int))=some (ts.map λt=>(t.hgt:Int))
 | []=>rfl
 | t::ts=>by rw[jN,Q9,BI ts];rfl
theorem bJ {st:D}:∀ (n:Nat) {b:Bool}{t:Tr} (S:M.S),jq st n b t->Z0 n [t.d] S=.ok (.int (t.hgt:Int)) S
 | 0,_,_,_,h=>h.elim
 | n+1,b,t,S,h=>by
  obtain⟨k,ds,e,w,x,y⟩:=fc h;have C:=BY h;have z:(0:Nat) <= SZ:=by decide
  have E:(1:Nat) <= SZ:=by decide
  have A:(3:Nat) <= SZ:=by decide
  have zk:t.kids.length <= 50:=by
   cases i:Qh.contains k with
   | true=>rw[w i];simp
   | false=>rw[x i,jH] at y;exact y
  have G:t.kids.length <= SZ:=by unfold SZ;lia
  have j:1+t.kids.length <= SZ:=by unfold SZ;lia
  have B:atI (D.str k::ds) 0=some (.str k):=at0 _ _;have f:inD (.str k) (.ref (S.length+1)) (S++[.lst [],.lst (Qh.map .str)])=.ok (Qh.contains k) (S++[.lst [],.lst (Qh.map .str)]):=vg (by simp) k;have hw:[D.str [116,101,120,116],.str [116,104,105,110,103],.str [107,105,110]]=Qh.map .str:=rfl;have m:∃ g q,(S++g)[q]? = some (.lst (t.kids.map Tr.d))/\∀ r:SM,(zG (zP 1 (jR zC)) (zG (sIf (zO QT (eOp zH (zA 0) (eC (.int 0))) (jR (zB (eC (.str [116,101,120,116])) (zB (eC (.str [116,104,105,110,103])) (zB (eC (.str [107,105,110])) zC))))) (zP 1 (zJ QM (zB (eSl (zA 0) (qV (eC (.int 1))) yh) zC))) z8) r)) [some (.tup (.str k::ds)),none] S=r [some (.tup (.str k::ds)),some (.ref q)] (S++g):=by
   have H:cut (D.str k::ds) (some 1) none=ds:=by rw[KD _ (by decide)];rfl
   have I:ds.length+1 <= SZ:=by unfold SZ;lia
   have J:¬ sIx (ds.length+1) 0 (some 1)=0:=by unfold sIx;simp;lia
   cases i:Qh.contains k with
   | true =>
    refine⟨[.lst [],.lst (Qh.map .str)],S.length,by rw[w i];simp,λr=>?_⟩;rw[i] at f;simp[-inD,-jN,-xf,z,A,B,hw,f]
   | false =>
    refine⟨[.lst [],.lst (Qh.map .str),.lst ds],S.length+2,by rw[<- x i];simp,λr=>?_⟩;rw[i] at f;simp[-inD,-jN,-xf,z,A,B,hw,f,H,I,J]
  obtain⟨g,q,hq,m⟩:=m;have o:q < (S++g).length:=(List.getElem?_eq_some_iff.mp hq).1;have l:(S++g++[O.lst [.int 0]])[q]? = some (.lst (t.kids.map Tr.d)):=by rw[yc o];exact hq
  have p:zj [(q,O.lst (t.kids.map Tr.d))] (S++g++[O.lst [.int 0]])=true:=by simp[-qy,zj,l]
  have i:jz 1 (iE (zA 1)) (zq 2) jk (zJ (Z0 n) (zB (zA 2) zC)) [some (.tup (.str k::ds)),some (.ref q)] (S++g++[O.lst [.int 0]])=.ok ((t.kids.map λc=>.int (c.hgt:Int))) (S++g++[O.lst [.int 0]]):=by
   have:=wA (n:=1) (it:=iE (zA 1)) (tg:=zq 2) (e:=zJ (Z0 n) (zB (zA 2) zC)) (σ:=[some (.tup (.str k::ds)),some (.ref q)]) (s:=S++g++[O.lst [.int 0]]) (as:=t.kids) Tr.d (λc=>.int (c.hgt:Int)) (g:=[(q,O.lst (t.kids.map Tr.d))]) (by simp only[iE,zA,jP,jg,R.bind_ok,itD,l]) G p λc i=>by
    obtain⟨b',h'⟩:=C c i;have:=bJ n (S++g++[O.lst [.int 0]]) h';simp[-qy,this]
   exact this
  rw[e];have L:(S++g++[O.lst [.int 0]]++[O.lst (t.kids.map λc=>.int (c.hgt:Int))])[(S++g).length]? = some (.lst [.int 0]):=by
   rw[yc (by simp)];simp
  have N:(S++g++[O.lst [.int 0]]++[O.lst (t.kids.map λc=>.int (c.hgt:Int))])[(S++g++[O.lst [.int 0]]).length]? = some (.lst (t.kids.map λc=>.int (c.hgt:Int))):=by simp
  have Q:(S++g++[O.lst [.int 0]]++[O.lst (t.kids.map λc=>.int (c.hgt:Int))]++[O.lst (.int 0::t.kids.map λc=>.int (c.hgt:Int))])[(S++g++[O.lst [.int 0]]++[O.lst (t.kids.map λc=>.int (c.hgt:Int))]).length]? = some (.lst (.int 0::t.kids.map λc=>.int (c.hgt:Int))):=by simp
  have hm:∀ s,Yk (.int 0::t.kids.map λc=>.int (c.hgt:Int)) s=.ok (.int (Tr.hgt.hs t.kids:Int)) s:=λs=>by
   have U:Zn (.int 0::t.kids.map λc=>.int (c.hgt:Int))=none:=rfl;have Y:Q9 (.int 0::t.kids.map λc=>.int (c.hgt:Int))=some (0::t.kids.map λc=>(c.hgt:Int)):=by rw[Q9,BI];rfl
   have u:=B8 t.kids 0;rw[Nat.zero_max] at u;unfold Yk;rw[U];dsimp only;unfold Ua;rw[Y];show R.ok (D.int (wo _ 0 _)) s=_;rw[show ((0:Nat):Int)=0 from rfl] at u;rw[u]
  refine yi (g:=g++[O.lst [.int 0]]++[O.lst (t.kids.map λc=>.int (c.hgt:Int))]++[O.lst (.int 0::t.kids.map λc=>.int (c.hgt:Int))]) ?_ rfl;show (XW (Z0 n) [some (.tup (.str k::ds)),none] S).out=_;unfold XW;rw[m];have v:[D.int 0].length+(t.kids.map λc=>D.int (c.hgt:Int)).length <= SZ:=by simpa using j
  simp only[zh,eOp,eC,zJ,zB,zC,jR,qr,jE,qz,E,if_true,alloc,R.bind_ok,i,zo,L,N,v,YL,wb,zv,Vv,XG,Q,hm,R.stm_ok,RS.out,Tr.hgt_kids t];simp[j,hm]
def Xp:SM :=
  (zP 3 (zr (zB (eC (.str [108,105,110,101])) zC)))
def KN:SM :=
  (zP 4 (eC (.bl false)))
def kH:SM :=
  (qZ (iE (zA 0)) (zq 5)
  (zG (zP 6 (zJ xU (zB (eOp jt (zA 5) (eC (.int 20))) (zB (zA 1) (zB (zA 2) zC)))))
  (zG (zP 7 (eOp jU (zA 5) (eC (.int 20))))
  (sIf (tOr (zO cGt (zJ XD (zB (zA 3) zC)) (eC (.int 9))) (zO cLt (zA 7) (eC (.int 3))))
  (zG (zP 3 (eOp zH (jR (zB (zA 6) (zB (zA 6) (zB (zr (zB (eC (.str [105,116])) zC)) zC)))) (eOp jU (zA 7) (eC (.int 3)))))
  (zP 4 (ZG cEq (zA 3) (zr (zB (eC (.str [105,116])) zC)))))
  (sIf (zO cEq (zA 7) (eC (.int 3)))
  (zP 3 (zr (zB (eC (.str [106,111,105,110])) (zB (zA 3) (zB (zA 6) zC)))))
  (sIf (zO cEq (zA 7) (eC (.int 4)))
  (zP 3 (zr (zB (eC (.str [106,111,105,110])) (zB (zA 6) (zB (zA 3) (zB (zA 6) zC))))))
  (sIf (zO cEq (zA 7) (eC (.int 5)))
  (zG (zP 3 (zr (zB (eC (.str [106,111,105,110])) (zB (zA 3) (zB (zr (zB (eC (.str [105,116])) zC)) zC)))))
  (zP 4 (eC (.bl true))))
  (sIf (zO cLt (zA 7) (eC (.int 8)))
  (zG (zP 8 (jR (zB (zA 6) (zB (zr (zB (eC (.str [108,105,110,101])) zC)) (zB (zA 6) (zB (zA 6) zC))))))
  (zG (yw (zA 8) (eOp jU (eOp jt (zA 5) (eC (.int 20))) (eC (.int 4))) (zA 3))
  (zP 3 (zJ XY (zB (eOp zo (jR (zB (eC (.str [105,102])) zC)) (zA 8)) zC)))))
  (sIf (zO cLt (zA 7) (eC (.int 10)))
  (zP 3 (zr (zB (eC (.str [101,97,99,104])) (zB (zA 3) (zB (zr (zB (eC (.str [106,111,105,110])) (zB (zr (zB (eC (.str [105,116])) zC)) (zB (zA 6) zC)))) zC)))))
  (sIf (zO cLt (zA 7) (eC (.int 13)))
  (zG (zP 3 (zr (zB (eC (.str [101,97,99,104])) (zB (zA 6) (zB (eOp zH (jR (zB (zr (zB (eC (.str [106,111,105,110])) (zB (zA 3) (zB (zr (zB (eC (.str [105,116])) zC)) zC)))) (zB (zA 3) zC))) (eOp jt (zA 7) (eC (.int 12)))) zC)))))
  (zP 4 (eC (.bl false))))
  (zP 3 (zr (zB (eOp zH (jR (zB (eC (.str [111,102])) (zB (eC (.str [98,97,99,107])) (zB (eC (.str [114,101,115,116])) (zB (eC (.str [115,111,114,116,101,100])) (zB (eC (.str [102,97,105,108])) (zB (eC (.str [102,105,114,115,116])) (zB (eC (.str [99,111,117,110,116])) zC)))))))) (eOp vV (zA 7) (eC (.int 13)))) (zB (zA 3) zC))))))))))))))
def kc:SM :=
  (sIf (qD (zA 4))
  (zh (zr (zB (eC (.str [101,97,99,104])) (zB (zr (zB (eC (.str [116,101,120,116])) (zB (eOp zo (eOp zo (eOp zH (zA 1) (eC (.int 2))) (eC (.str [32]))) (eOp zH (zA 1) (eC (.int 3)))) zC))) (zB (zA 3) zC)))))
  z8)
def Kc:SM :=
  (zh (zA 3))
def Cz:SM:=(zG Xp (zG KN (zG kH (zG kc Kc))))
def Bd:F:=fn 9 Cz
noncomputable def Tr.allL (p:Tr->Prop):Tr->Prop
 | .join ts=>ls ts
 | .ife a b x y=>a.allL p/\b.allL p/\x.allL p/\y.allL p
 | .each a b=>a.allL p/\b.allL p
 | .one _ a=>a.allL p
 | t=>p t
where ls:List Tr->Prop
 | []=>True
 | t::ts=>t.allL p/\ls ts
def Ja (c:Bool) (N:List T) (t:Tr):Prop:=JY c N t\/t=.it
theorem IK (h:JY c N t):t.allL (Ja c N):=by
 cases t<;>first | exact h.elim | exact .inl h
theorem VO:Tr.allL (Ja c N) .it:=.inr rfl
theorem EF {c:Bool}{N:List T} (f:∀ t∈N,t.length <= 17) {st:D} (e:c=true->∃ x,st=.str x) {t:Tr} (h:JY c N t) (n:Nat) (b:Bool):jq st (n+1) b t:=by
 cases t with
 | txt x=>exact jr (show x.length <= 60 from h) (by decide)
 | line=>trivial
 | stem=>exact e h
 | thing m =>
  show m.length <= 1000;rcases h with h | ⟨a,ha,b,g,rfl⟩
  ·exact jr (f m h) (by decide)
  ·have:=f a ha;have:=f b g;simp;lia
 | kin m=>exact⟨jr (f m h.2) (by decide),e h.1⟩
 | _=>exact h.elim
theorem AF (h:JY c N t) (s:M.S):eqD t.d (.tup [.str [105,116]]) s=.ok false s:=by
 cases t with
 | it=>exact h.elim
 | join _=>exact h.elim
 | ife _ _ _ _=>exact h.elim
 | each _ _=>exact h.elim
 | one _ _=>exact h.elim
 | _=>rfl
theorem mL (s:M.S):eqD (.tup [.str [105,116]]) (.tup [.str [105,116]]) s=.ok true s:=rfl
abbrev YX:SM:=(sIf (tOr (zO cGt (zJ XD (zB (zA 3) zC)) (eC (.int 9))) (zO cLt (zA 7) (eC (.int 3))))
  (zG (zP 3 (eOp zH (jR (zB (zA 6) (zB (zA 6) (zB (zr (zB (eC (.str [105,116])) zC)) zC)))) (eOp jU (zA 7) (eC (.int 3)))))
  (zP 4 (ZG cEq (zA 3) (zr (zB (eC (.str [105,116])) zC)))))
  (sIf (zO cEq (zA 7) (eC (.int 3)))
  (zP 3 (zr (zB (eC (.str [106,111,105,110])) (zB (zA 3) (zB (zA 6) zC)))))
  (sIf (zO cEq (zA 7) (eC (.int 4)))
  (zP 3 (zr (zB (eC (.str [106,111,105,110])) (zB (zA 6) (zB (zA 3) (zB (zA 6) zC))))))
  (sIf (zO cEq (zA 7) (eC (.int 5)))
  (zG (zP 3 (zr (zB (eC (.str [106,111,105,110])) (zB (zA 3) (zB (zr (zB (eC (.str [105,116])) zC)) zC)))))
  (zP 4 (eC (.bl true))))
  (sIf (zO cLt (zA 7) (eC (.int 8)))
  (zG (zP 8 (jR (zB (zA 6) (zB (zr (zB (eC (.str [108,105,110,101])) zC)) (zB (zA 6) (zB (zA 6) zC))))))
  (zG (yw (zA 8) (eOp jU (eOp jt (zA 5) (eC (.int 20))) (eC (.int 4))) (zA 3))
  (zP 3 (zJ XY (zB (eOp zo (jR (zB (eC (.str [105,102])) zC)) (zA 8)) zC)))))
  (sIf (zO cLt (zA 7) (eC (.int 10)))
  (zP 3 (zr (zB (eC (.str [101,97,99,104])) (zB (zA 3) (zB (zr (zB (eC (.str [106,111,105,110])) (zB (zr (zB (eC (.str [105,116])) zC)) (zB (zA 6) zC)))) zC)))))
  (sIf (zO cLt (zA 7) (eC (.int 13)))
  (zG (zP 3 (zr (zB (eC (.str [101,97,99,104])) (zB (zA 6) (zB (eOp zH (jR (zB (zr (zB (eC (.str [106,111,105,110])) (zB (zA 3) (zB (zr (zB (eC (.str [105,116])) zC)) zC)))) (zB (zA 3) zC))) (eOp jt (zA 7) (eC (.int 12)))) zC)))))
  (zP 4 (eC (.bl false))))
  (zP 3 (zr (zB (eOp zH (jR (zB (eC (.str [111,102])) (zB (eC (.str [98,97,99,107])) (zB (eC (.str [114,101,115,116])) (zB (eC (.str [115,111,114,116,101,100])) (zB (eC (.str [102,97,105,108])) (zB (eC (.str [102,105,114,115,116])) (zB (eC (.str [99,111,117,110,116])) zC)))))))) (eOp vV (zA 7) (eC (.int 13)))) (zB (zA 3) zC)))))))))))
abbrev V1:SM:=zG (zP 6 (zJ xU (zB (eOp jt (zA 5) (eC (.int 20))) (zB (zA 1) (zB (zA 2) zC))))) (zG (zP 7 (eOp jU (zA 5) (eC (.int 20)))) YX)
theorem FF:kH=qZ (iE (zA 0)) (zq 5) V1:=rfl
theorem qL {c:TM}{a b:SM}{σ:St}{s:M.S} (h:c σ s=.ok false s):sIf c a b σ s=b σ s:=by rw[sIf,h];rfl
theorem JQ {c:TM}{a b:SM}{σ:St}{s:M.S} (h:c σ s=.ok true s):sIf c a b σ s=a σ s:=by rw[sIf,h];rfl
abbrev tbN:SM:=(zG (zP 3 (eOp zH (jR (zB (zA 6) (zB (zA 6) (zB (zr (zB (eC (.str [105,116])) zC)) zC)))) (eOp jU (zA 7) (eC (.int 3)))))
  (zP 4 (ZG cEq (zA 3) (zr (zB (eC (.str [105,116])) zC)))))
abbrev tbF:SM:=(zG (zP 8 (jR (zB (zA 6) (zB (zr (zB (eC (.str [108,105,110,101])) zC)) (zB (zA 6) (zB (zA 6) zC))))))
  (zG (yw (zA 8) (eOp jU (eOp jt (zA 5) (eC (.int 20))) (eC (.int 4))) (zA 3))
  (zP 3 (zJ XY (zB (eOp zo (jR (zB (eC (.str [105,102])) zC)) (zA 8)) zC)))))
theorem uk {x y d:D}{b:Bool}{v0 v1 v2 v4 v8:Option D}{c:Int}{S:M.S} (ha:atI [y,y,.tup [.str [105,116]]] (c % 20 % 3)=some d) (e:∀ s,eqD d (.tup [.str [105,116]]) s=.ok b s) :
  tbN [v0,v1,v2,some x,v4,some (.int c),some y,some (.int (c % 20)),v8] S=.nx [v0,v1,v2,some d,some (.bl b),some (.int c),some y,some (.int (c % 20)),v8] (S++[.lst [y,y,.tup [.str [105,116]]]]):=by
 have f:(1:Nat) <= SZ:=by decide
 have g:(3:Nat) <= SZ:=by decide
 simp[-eqD,f,g,ha,e]
theorem Vm {x y:D}{v0 v1 v2 v4 v8:Option D}{c:Int}{k:Nat} (j:k < 4) (e:c / 20 % 4=(k:Int)) {S:M.S} :
  tbF [v0,v1,v2,some x,v4,some (.int c),some y,some (.int (c % 20)),v8] S=.nx [v0,v1,v2,some (.tup (.str [105,102]::[y,.tup [.str [108,105,110,101]],y,y].set k x)),v4,some (.int c),some y,some (.int (c % 20)),some (.ref S.length)] (S++[.lst ([y,.tup [.str [108,105,110,101]],y,y].set k x),.lst [.str [105,102]],.lst (.str [105,102]::[y,.tup [.str [108,105,110,101]],y,y].set k x)]):=by
 have f:(1:Nat) <= SZ:=by decide
 have g:(4:Nat) <= SZ:=by decide
 have h:(5:Nat) <= SZ:=by decide
 have i:ixN 4 (k:Int)=some k:=by unfold ixN;rw[if_pos (by lia),if_pos (by lia)];rfl
 have l:([y,.tup [.str [108,105,110,101]],y,y].set k x).length=4:=by simp
 simp only[tbF,zG,zP,jR,zB,zC,zr,zA,eC,jP,jg,R.bind_ok,jE,qz,yU,f,g,if_true,alloc,R.stm_ok,Ze,ZV,RS.then_nx,yw,eOp,jt,jU];simp[e,i,h];decide
theorem Eb {q:Bool}{N:List T} (hN:∀ t∈N,t.length <= 17) {st:D} (hst:q=true->∃ x,st=.str x) {t:Tr}{free:Bool} (L:jq st 12 free t) (ha:t.allL (Ja q N)) (Q:JY q N f) {v0 v1 v2 v8:Option D}{c:Int} (S:M.S) :
  ∃ t' r g v8',YX [v0,v1,v2,some t.d,some (.bl free),some (.int c),some f.d,some (.int (c % 20)),v8] S=.nx [v0,v1,v2,some t'.d,some (.bl r),some (.int c),some f.d,some (.int (c % 20)),v8'] (S++g)/\jq st 12 r t'/\t'.allL (Ja q N):=by
 have z1:(1:Nat) <= SZ:=by decide
 have z2:(2:Nat) <= SZ:=by decide
 have z3:(3:Nat) <= SZ:=by decide
 have z4:(4:Nat) <= SZ:=by decide
 have z5:(5:Nat) <= SZ:=by decide
 have z7:(7:Nat) <= SZ:=by decide
 have hi:∀ s,XD [t.d] s=.ok (.int (t.hgt:Int)) s:=λs=>bJ 20 s (Z4 L (jr (wJ L) (by decide)) λz=>z);have l:∀ n b,jq st (n+1) b f:=λn b=>EF hN hst Q n b;have o:=IK Q;have w0:=yv c (show (20:Int)≠0 by decide);have w1:=Za c (show (0:Int) < 20 by decide);by_cases hA:9 < t.hgt\/c % 20 < 3
 ·have ht:(tOr (zO cGt (zJ XD (zB (zA 3) zC)) (eC (.int 9))) (zO cLt (zA 7) (eC (.int 3)))) [v0,v1,v2,some t.d,some (.bl free),some (.int c),some f.d,some (.int (c % 20)),v8] S=.ok true S:=by
   by_cases U:(9:Int) < (t.hgt:Int)
   ·simp[hi,U]
   ·have:c % 20 < 3:=by lia
    simp[hi,U,this]
  have m:c % 20 % 3=0\/c % 20 % 3=1\/c % 20 % 3=2:=by lia
  unfold YX;rw[JQ ht];rcases m with m | m | m
  ·exact⟨f,false,_,v8,uk (by rw[m];rfl) (AF Q),l 11 false,o⟩
  ·exact⟨f,false,_,v8,uk (by rw[m];rfl) (AF Q),l 11 false,o⟩
  ·exact⟨.it,true,_,v8,uk (by rw[m];rfl) mL,rfl,VO⟩
 ·have i:∀ b:Bool,(free=true->b=true)->jq st 11 b t:=λb hb=>Z4 L (by lia) hb;have g10:∀ b:Bool,(free=true->b=true)->jq st 10 b t:=λb hb=>Z4 L (by lia) hb;have id':free=true->free=true:=λz=>z;have v:free=true->true=true:=λ_=>rfl;have ht:(tOr (zO cGt (zJ XD (zB (zA 3) zC)) (eC (.int 9))) (zO cLt (zA 7) (eC (.int 3)))) [v0,v1,v2,some t.d,some (.bl free),some (.int c),some f.d,some (.int (c % 20)),v8] S=.ok false S:=by
   have U:¬ (9:Int) < (t.hgt:Int):=by lia
   have:¬ c % 20 < 3:=by lia
   simp[hi,U,this]
  unfold YX;rw[qL ht];have j:∀ k:Int,¬ c % 20=k->(zO cEq (zA 7) (eC (.int k))) [v0,v1,v2,some t.d,some (.bl free),some (.int c),some f.d,some (.int (c % 20)),v8] S=.ok false S:=λk h=>by simp[h]
  have eY:∀ k:Int,c % 20=k->(zO cEq (zA 7) (eC (.int k))) [v0,v1,v2,some t.d,some (.bl free),some (.int c),some f.d,some (.int (c % 20)),v8] S=.ok true S:=λk h=>by simp[h]
  have u:∀ k:Int,¬ c % 20 < k->(zO cLt (zA 7) (eC (.int k))) [v0,v1,v2,some t.d,some (.bl free),some (.int c),some f.d,some (.int (c % 20)),v8] S=.ok false S:=λk h=>by simp[h]
  have Y:∀ k:Int,c % 20 < k->(zO cLt (zA 7) (eC (.int k))) [v0,v1,v2,some t.d,some (.bl free),some (.int c),some f.d,some (.int (c % 20)),v8] S=.ok true S:=λk h=>by simp[h]
  have hw:c % 20=3\/c % 20=4\/c % 20=5\/(6 <= c % 20/\c % 20 < 8)\/(8 <= c % 20/\c % 20 < 10)\/(10 <= c % 20/\c % 20 < 12)\/c % 20=12\/13 <= c % 20:=by lia
  have hk4:c / 20 % 4=0\/c / 20 % 4=1\/c / 20 % 4=2\/c / 20 % 4=3:=by lia
  have x4:ixN 4 0=some 0/\ixN 4 1=some 1/\ixN 4 2=some 2/\ixN 4 3=some 3:=⟨rfl,rfl,rfl,rfl⟩
  have p0:∀ x y:D,atI [x,y] 0=some x:=λ_ _=>rfl;have p1:∀ x y:D,atI [x,y] 1=some y:=λ_ _=>rfl;rcases hw with e | e | e | e | e | e | e | e
  ·rw[JQ (eY 3 e)];refine⟨.join [t,f],free,[],v8,?_,⟨by simp,by simp,λk p=>?_⟩,ha,o,trivial⟩
   ·rw[qw];rfl
   ·simp at p;rcases p with rfl | rfl
    ·exact i _ id'
    ·exact l 10 _
  ·rw[qL (j 3 (by lia)),JQ (eY 4 e)];refine⟨.join [f,t,f],free,[],v8,?_,⟨by simp,by simp,λk p=>?_⟩,o,ha,o,trivial⟩
   ·rw[qw];rfl
   ·simp at p;rcases p with rfl | rfl | rfl
    ·exact l 10 _
    ·exact i _ id'
    ·exact l 10 _
  ·rw[qL (j 3 (by lia)),qL (j 4 (by lia)),JQ (eY 5 e)];refine⟨.join [t,.it],true,[],v8,?_,⟨by simp,by simp,λk p=>?_⟩,ha,VO,trivial⟩
   ·rw[qw];rfl
   ·simp at p;rcases p with rfl | rfl
    ·exact i _ v
    ·rfl
  ·have A:¬ c % 20=3:=by lia
   have B:¬ c % 20=4:=by lia
   have C:¬ c % 20=5:=by lia
   rw[qL (j 3 A),qL (j 4 B),qL (j 5 C),JQ (Y 8 e.2)];have E:jq st 11 free .line:=trivial;have G:Tr.allL (Ja q N) .line:=.inl trivial;rcases hk4 with k | k | k | k
   ·exact⟨.ife t .line f f,free,_,_,Vm (k:=0) (by decide) k,⟨i _ id',E,l 10 _,l 10 _⟩,ha,G,o,o⟩
   ·exact⟨.ife f t f f,free,_,_,Vm (k:=1) (by decide) k,⟨l 10 _,i _ id',l 10 _,l 10 _⟩,o,ha,o,o⟩
   ·exact⟨.ife f .line t f,free,_,_,Vm (k:=2) (by decide) k,⟨l 10 _,E,i _ id',l 10 _⟩,o,G,ha,o⟩
   ·exact⟨.ife f .line f t,free,_,_,Vm (k:=3) (by decide) k,⟨l 10 _,E,l 10 _,i _ id'⟩,o,G,o,ha⟩
  ·have A:¬ c % 20=3:=by lia
   have B:¬ c % 20=4:=by lia
   have C:¬ c % 20=5:=by lia
   have J:¬ c % 20 < 8:=by lia
   rw[qL (j 3 A),qL (j 4 B),qL (j 5 C),qL (u 8 J),JQ (Y 10 e.2)];refine⟨.each t (.join [.it,f]),free,[],v8,?_,⟨i _ id',by simp,by simp,λk p=>?_⟩,ha,VO,o,trivial⟩
   ·rw[qw];rfl
   ·simp at p;rcases p with rfl | rfl
    ·rfl
    ·exact l 9 _
  ·have A:¬ c % 20=3:=by lia
   have B:¬ c % 20=4:=by lia
   have C:¬ c % 20=5:=by lia
   have J:¬ c % 20 < 8:=by lia
   have H:¬ c % 20 < 10:=by lia
   have I:c % 20 < 13:=by lia
   have d12:c % 20 / 12=0:=by lia
   rw[qL (j 3 A),qL (j 4 B),qL (j 5 C),qL (u 8 J),qL (u 10 H),JQ (Y 13 I)];refine⟨.each f (.join [t,.it]),false,[.lst [Tr.d (.join [t,.it]),t.d]],v8,?_,⟨l 10 _,by simp,by simp,λk p=>?_⟩,o,ha,VO,trivial⟩
   ·simp[d12,z1,z2,z3,Tr.d,Tr.d.ds,p0]
   ·simp at p;rcases p with rfl | rfl
    ·exact g10 _ v
    ·rfl
  ·rw[qL (j 3 (by lia)),qL (j 4 (by lia)),qL (j 5 (by lia)),qL (u 8 (by lia)),qL (u 10 (by lia)),JQ (Y 13 (by lia))];refine⟨.each f t,false,[.lst [Tr.d (.join [t,.it]),t.d]],v8,?_,⟨l 10 _,i _ v⟩,o,ha⟩;simp[e,z1,z2,z3,Tr.d,Tr.d.ds,p1]
  ·have A:¬ c % 20=3:=by lia
   have B:¬ c % 20=4:=by lia
   have C:¬ c % 20=5:=by lia
   have J:¬ c % 20 < 8:=by lia
   have H:¬ c % 20 < 10:=by lia
   have I:¬ c % 20 < 13:=by lia
   rw[qL (j 3 A),qL (j 4 B),qL (j 5 C),qL (u 8 J),qL (u 10 H),qL (u 13 I)];obtain⟨w,hw7,hw⟩:∃ w:T,W7 w/\atI [D.str [111,102],.str [98,97,99,107],.str [114,101,115,116],.str [115,111,114,116,101,100],.str [102,97,105,108],.str [102,105,114,115,116],.str [99,111,117,110,116]] (c % 20 - 13)=some (.str w):=by
    have:c % 20 - 13=0\/c % 20 - 13=1\/c % 20 - 13=2\/c % 20 - 13=3\/c % 20 - 13=4\/c % 20 - 13=5\/c % 20 - 13=6:=by lia
    rcases this with e | e | e | e | e | e | e<;>rw[e]<;>refine⟨_,?_,rfl⟩
    ·exact .inl rfl
    ·exact .inr (.inr (.inl rfl))
    ·exact .inr (.inr (.inr (.inr (.inl rfl))))
    ·exact .inr (.inr (.inr (.inr (.inr (.inr rfl)))))
    ·exact .inr (.inl rfl)
    ·exact .inr (.inr (.inr (.inl rfl)))
    ·exact .inr (.inr (.inr (.inr (.inr (.inl rfl)))))
   refine⟨.one w t,free,[.lst [D.str [111,102],.str [98,97,99,107],.str [114,101,115,116],.str [115,111,114,116,101,100],.str [102,97,105,108],.str [102,105,114,115,116],.str [99,111,117,110,116]]],v8,?_,⟨hw7,i _ id'⟩,ha⟩;simp[z2,z7,hw,Tr.d]
noncomputable def X8:F:=chS Bd
theorem Ek:jM 3 Bd X8:=yj _
mutual
theorem Tr.cl_d (n:Nat):∀ t:Tr,D.cl n t.d=true
 | .txt _=>rfl
 | .line=>rfl
 | .it=>rfl
 | .stem=>rfl
 | .thing _=>rfl
 | .kin _=>rfl
 | .join ts=>by
  show D.cl.all n (.str [106,111,105,110]::Tr.d.ds ts)=true;exact Tr.cl_ds n ts
 | .ife a b x y=>by
  show (true && (D.cl n a.d && (D.cl n b.d && (D.cl n x.d && (D.cl n y.d && true)))))=true;rw[Tr.cl_d n a,Tr.cl_d n b,Tr.cl_d n x,Tr.cl_d n y];rfl
 | .each a b=>by
  show (true && (D.cl n a.d && (D.cl n b.d && true)))=true;rw[Tr.cl_d n a,Tr.cl_d n b];rfl
 | .one w a=>by
  show (true && (D.cl n a.d && true))=true;rw[Tr.cl_d n a];rfl
theorem Tr.cl_ds (n:Nat):∀ ts:List Tr,D.cl.all n (Tr.d.ds ts)=true
 | []=>rfl
 | t::ts=>by
  show (D.cl n t.d && D.cl.all n (Tr.d.ds ts))=true;rw[Tr.cl_d n t,Tr.cl_ds n ts];rfl
end
theorem LS {i:Bool}{N:List T} (y:N.length=8) (u:∀ t∈N,t.length <= 17) {st:D} (A:i=true->∃ x,st=.str x) {S:M.S}{p q:Nat}{v:List Int} (B:S[p]? = some (.lst (v.map .int))) (hq:S[q]? = some (.lst (N.map .str))):∃ t,jq st 13 false t/\t.allL (Ja i N)/\X8 [.ref p,.ref q,.bl i] S=.ok t.d S:=by
 have J:(1:Nat) <= SZ:=by decide
 have L:(2:Nat) <= SZ:=by decide
 have Q:(3:Nat) <= SZ:=by decide
 obtain⟨U,s',e,g,t,free,v5,v6,v7,v8,C,E,n,w⟩:=xh (g:=[(p,.lst (v.map .int))]) (f:=qO (zq 5) V1) (λj σ s=>∃ (g:M.S) (t:Tr) (free:Bool) (v5 v6 v7 v8:Option D),σ=[some (.ref p),some (.ref q),some (.bl i),some t.d,some (.bl free),v5,v6,v7,v8]/\s=S++g/\jq st 12 free t/\t.allL (Ja i N)) (v.map .int) 0 [some (.ref p),some (.ref q),some (.bl i),some Tr.line.d,some (.bl false),none,none,none,none] S ⟨[],.line,false,none,none,none,none,rfl,by simp,trivial,.inl trivial⟩ λj d hd σ s ⟨g,t,free,v5,v6,v7,v8,C,E,n,w⟩=>by
  subst C E;rw[qX] at hd;obtain⟨c,_,rfl⟩:=Option.map_eq_some_iff.mp hd;obtain⟨I,Y,el⟩:=gF y u (yI hq g) (c / 20) i;obtain⟨t',l,g',G,e',g1,a1⟩:=Eb u A n w Y (v0:=some (.ref p)) (v1:=some (.ref q)) (v2:=some (.bl i)) (v8:=v8) (c:=c) (S++g);refine⟨_,_,?_,by simp[zj,yI B],g++g',t',l,some (.int c),some I.d,some (.int (c % 20)),G,rfl,rfl,g1,a1⟩;have b1:∀ r:SM,zG (zP 6 (zJ xU (zB (eOp jt (zA 5) (eC (.int 20))) (zB (zA 1) (zB (zA 2) zC))))) (zG (zP 7 (eOp jU (zA 5) (eC (.int 20)))) r) [some (.ref p),some (.ref q),some (.bl i),some t.d,some (.bl free),some (.int c),v6,v7,v8] (S++g)=r [some (.ref p),some (.ref q),some (.bl i),some t.d,some (.bl free),some (.int c),some I.d,some (.int (c % 20)),v8] (S++g):=λr=>by
   simp[el]
  show V1 [some (.ref p),some (.ref q),some (.bl i),some t.d,some (.bl free),some (.int c),v6,v7,v8] (S++g)=_;unfold V1;rw[b1,e',qy]
 subst C E;obtain⟨m,i2,a2⟩:=Ym (ts:=N) (k:=2) (by decide) (by lia);obtain⟨o,i3,a3⟩:=Ym (ts:=N) (k:=3) (by decide) (by lia);have l2:=u m i2;have l3:=u o i3;have m1:m.length+1 <= SZ:=by unfold SZ;lia
 have m2:m.length+1+o.length <= SZ:=by unfold SZ;lia
 have H:∀ r,(Xp [some (.ref p),some (.ref q),some (.bl i),none,none,none,none,none,none] S).then (zG KN r)=r [some (.ref p),some (.ref q),some (.bl i),some Tr.line.d,some (.bl false),none,none,none,none] S:=λr=>by
  simp[Xp,KN,J,Tr.d]
 have e3:∀ r,(kH [some (.ref p),some (.ref q),some (.bl i),some Tr.line.d,some (.bl false),none,none,none,none] S).then r=r [some (.ref p),some (.ref q),some (.bl i),some t.d,some (.bl free),v5,v6,v7,v8] (S++g):=λr=>by
  have hg:zj [(p,O.lst (v.map .int))] S=true:=by simp[zj,B]
  rw[FF];simp only[qZ,iE,itD,zA,jP,R.bind_ok,B,R.stm_ok,hg,if_true,e,RS.then_nx]
 have fin:∀ t':Tr,(zG kc Kc [some (.ref p),some (.ref q),some (.bl i),some t.d,some (.bl free),v5,v6,v7,v8] (S++g)).out=.ok t'.d (S++g)->X8 [.ref p,.ref q,.bl i] S=.ok t'.d S:=λt' h=>by
  refine yi (g:=g) ?_ (Tr.cl_d _ _);show ((Xp [some (.ref p),some (.ref q),some (.bl i),none,none,none,none,none,none] S).then (zG KN (zG kH (zG kc Kc)))).out=_;rw[H];show ((kH _ _).then _).out=_;rw[e3];exact h
 cases free with
 | true =>
  refine⟨.each (.txt (m++[32]++o)) t,⟨?_,n⟩,⟨.inl ?_,w⟩,fin _ ?_⟩
  ·show (m++[32]++o).length <= 900;simp;lia
  ·show (m++[32]++o).length <= 60;simp;lia
  ·simp[kc,yI hq g,a2,a3,m1,m2,L,Q,Tr.d,RS.out]
 | false =>
  refine⟨t,Z4 n (jr (wJ n) (by decide)) λz=>z,w,fin _ ?_⟩;simp[kc,Kc,RS.out]
def vR:SM :=
  (zh (ZG cEq (zJ jf (zB (qr 1 (iE (zA 0)) (zq 1) (zO cNe (eOp zH (zA 1) (eC (.int 0))) (eOp zH (zA 1) (eC (.int 1)))) (zA 1)) zC)) (eC (.int 0))))
def B4:F:=fn 1 vR
noncomputable def kn:F:=chS B4
theorem iJ:jM 1 B4 kn:=yj _
noncomputable def zU (kvs:List (T×T)):List T:=kvs.map (·.1)
theorem Ux (c:(zU kvs).Nodup) {p:T×T} (h:p∈kvs):zt kvs p.1=some p.2:=by
 induction kvs with
 | nil=>cases h
 | cons q kvs f =>
  obtain⟨k,v⟩:=q;unfold zU at c f;rw[jN,Kq] at c;unfold zt at f ⊢;rw[yA];rcases List.mem_cons.mp h with h | h
  ·subst h;simp
  ·have g:(p.1 == k)=false:=by
    simp only[beq_eq_false_iff_ne,ne_eq];exact λe=>c.1 (by have hm:p.1∈kvs.map (λx=>x.1):=Ak h;rw[e] at hm;exact hm)
   rw[g];exact f c.2 h
theorem Ys:(zt kvs x).isSome=true↔x∈zU kvs:=by
 induction kvs with
 | nil=>simp[zt,zU]
 | cons q kvs c =>
  obtain⟨k,v⟩:=q;unfold zt zU at *;rw[yA];by_cases h:x=k
  ·subst h;simp
  ·have:(x == k)=false:=by simpa using h
   rw[this];simp only[jN,AU];rw[c];simp[h]
theorem bE:zt kvs x=none↔x∉zU kvs:=by
 rw[<- Ys (kvs:=kvs) (x:=x)];cases zt kvs x<;>simp
noncomputable def jo (x:T) (kvs:List (T×T)):List (T×T):=kvs.filter λq=>decide (q.1≠x)
theorem V6:∀ kvs:List (T×T),zt (jo x kvs) y=if y=x then none else zt kvs y
 | []=>by unfold jo zt;simp
 | (k,v)::kvs=>by
  have c:=V6 (x:=x) (y:=y) kvs;unfold jo zt at *;rw[List.filter_cons];by_cases h:k=x
  ·subst h;simp only[ne_eq,not_true_eq_false,decide_false,j9,if_false];rw[c];by_cases e:y=k
   ·rw[if_pos e,if_pos e]
   ·rw[if_neg e,if_neg e,yA];have:(y == k)=false:=by simpa using e
    rw[this]
  ·simp only[ne_eq,h,not_false_eq_true,decide_true,if_true];rw[yA,yA,c];by_cases e:y=k
   ·subst e;simp[h]
   ·have:(y == k)=false:=by simpa using e
    rw[this]
theorem i6 (h:(zU kvs).Nodup):(zU (jo x kvs)).Nodup:=by
 unfold zU jo at *;exact h.sublist (List.filter_sublist.map _)
theorem h8 {k v:T} (h:k∉zU kvs):ym (.str k) (.str v) (kvs.map pd)=(kvs++[(k,v)]).map pd:=by
 unfold ym;have e:((kvs.map pd).any λp=>decide (p.1=.str k))=false:=by
  rw[eV];intro p c;obtain⟨q,hq,rfl⟩:=List.mem_map.mp c;simp only[pd,decide_eq_true_eq,D.str.injEq];exact λz=>h (by rw[<- z];exact Ak hq)
 rw[e,if_neg (by decide),JC];rfl
theorem CO:∀ (l c:List (T×T)),(zU (c++l)).Nodup->(l.map pd).foldl (λa p=>ym p.1 p.2 a) (c.map pd)=(c++l).map pd
 | [],c,_=>by simp
 | p::l,c,h=>by
  have e:c++p::l=(c++[p])++l:=by simp
  rw[e] at h;have g:=CO l (c++[p]) h;rw[e,<- g,jN,Z7];have i:p.1∉zU c:=by
   unfold zU at *;rw[JC,JC,KC] at h;have f:=h.1;rw[KC] at f;exact λz=>f.2.2 p.1 z p.1 (by simp) rfl
  have:ym (pd p).1 (pd p).2 (c.map pd)=(c++[p]).map pd:=h8 i;rw[this]
theorem AK:∀ l:List (T×T),xk (l.map λp=>.tup [.str p.1,.str p.2])=some (l.map pd)
 | []=>rfl
 | p::l=>by
  have c:=AK l;rw[jN];unfold xk;rw[if_pos (show qU (.str p.1)=true from rfl),c];rfl
theorem aa {g:Gd}{c:Type}{F:D->M.S->R (Option D)}{s:M.S} (f h:c->D) (p:c->Bool) (e:zj g s=true):∀ as:List c,(∀ a∈as,F (f a) s=.ok (if p a then some (h a) else none) s)->qt g F (as.map f) s=.ok ((as.filter p).map h) s
 | [],_=>rfl
 | a::as,i=>by
  have j:=aa f h p e as λb l=>i b (je _ l);rw[jN,qt,i a qJ,R.bind_ok,if_pos e,j,R.bind_ok];cases m:p a<;>simp[m]
theorem Ue {n:Nat}{it:IM}{tg:GM}{c:TM}{e:EM}{σ:St}{s:M.S}{i:Type}{as:List i} (f h:i->D) (p:i->Bool) {g:Gd} (hi:it σ s=.ok (as.map f,g) s) (l:as.length <= SZ) (j:zj g s=true) (m:∀ a∈as,qu n tg c e σ (f a) s=.ok (if p a then some (h a) else none) s):jz n it tg c e σ s=.ok ((as.filter p).map h) s:=by
 unfold jz;rw[hi,R.bind_ok,if_pos ⟨by rw[jH];exact l,j⟩];exact aa f h p j as m
theorem wc {s:M.S}{l l':Nat}{us:List T} (h:s[l]? = some (.lst (us.map .str))) (h':s[l']? = some (.lst (us.map .str))):eqD (.ref l) (.ref l') s=.ok true s:=by
 have c:∀ k:Nat,s[k]? = some (.lst (us.map .str))->toP y0 s (.ref k)=some (.lst (us.map P.str)):=λk e=>by
  show (match zv s k with | some xs=>(qf.all (λj=>toP 8 s (.ref j)) xs).map P.lst | none=>none)=_;have:zv s k=some (us.map .str):=by simp[zv,e]
  rw[this];show (qf.all _ (us.map .str)).map P.lst=_;rw[wQ];rfl
 simp only[eqD,c l h,c l' h'];have q:P.eqvs (us.map P.str) (us.map P.str)=true:=by rw[Yv];simp
 simp[P.dep,UE,P.eqv,q]
theorem Lx (r:T×T):eqD (zW r) (zW r) s=.ok true s:=by
 have:toP y0 s (zW r)=some (.tup [.str r.1,.str r.2]):=rfl;show (match toP y0 s (zW r),toP y0 s (zW r) with | some p,some q=>if P.dep p <= 64/\P.dep q <= 64 then R.ok (P.eqv p q) s else R.no | _,_=>kz (zW r) (zW r) s)=_;rw[this];simp[P.dep,P.deps,P.eqv,P.eqvs]
theorem bO (A:List (T×T)):(A.map pd).map (·.1)=A.map λq=>D.str q.1:=by rw[yo];rfl
theorem bg (e:(zU A).Nodup) (i:A.length <= 900) (x:T) {s:M.S}:∀ {p:Nat},s[p]? = some (.lst ((jo x A).map λq=>.tup [.str q.1,.str q.2]))->Q2 [.ref p] s=.ok (.ref s.length) (s++[.dct ((jo x A).map pd)]):=λf=>by
 have c:=CO (jo x A) [] (by rw[XG];exact i6 e);rw[XG] at c;have g:((jo x A).map pd).length <= 1000:=by
  rw[jH];exact jr (dZ _ _) (by lia)
 have h:Ck ((jo x A).map pd)=(jo x A).map pd:=c;simp only[Q2,f,AK,g,if_true,h,alloc]
def qT (k v:T) (kvs:List (T×T)):List (T×T):=if (kvs.any λp=>decide (p.1=k))=true then kvs.map λp=>if p.1=k then (p.1,v) else p else kvs++[(k,v)]
theorem wm (k v:T) (kvs:List (T×T)):ym (.str k) (.str v) (kvs.map pd)=(qT k v kvs).map pd:=by
 unfold ym qT;have e:((kvs.map pd).any λp=>decide (p.1=.str k))=kvs.any λp=>decide (p.1=k):=by
  rw[g0]
  congr 1
  funext p
  simp[pd]
 rw[e];split
 ·rw[yo,yo];apply Zv;intro p _;simp only[V5,pd];by_cases h:p.1=k<;>simp[h]
 ·rw[JC];rfl
theorem uL {k:T}:(qT k v kvs).length <= kvs.length+1:=by
 unfold qT;split
 ·rw[jH];lia
 ·simp
theorem YT {m:Nat}{k v:T}{kvs:List (T×T)} (h:∀ q∈kvs,q.2.length <= m) (hv:v.length <= m):∀ q∈qT k v kvs,q.2.length <= m:=λq hq=>by
 unfold qT at hq;split at hq
 ·obtain⟨p,c,rfl⟩:=List.mem_map.mp hq;split
  ·exact hv
  ·exact h p c
 ·rcases List.mem_append.mp hq with hq | hq
  ·exact h q hq
  ·rw[List.mem_singleton.mp hq];exact hv
theorem dg (k v:T):∀ kvs:List (T×T),zt (qT k v kvs) k=some v:=λkvs=>by
 have f:∀ kvs:List (T×T),(kvs.any λp=>decide (p.1=k))=true->zt (kvs.map λp=>if p.1=k then (p.1,v) else p) k=some v:=λkvs=>by
  induction kvs with
  | nil=>intro h;cases h
  | cons p kvs c =>
   intro h;unfold zt at *;by_cases e:p.1=k
   ·rw[jN,if_pos e,yA];have:(k == p.1)=true:=by simp[e]
    rw[this]
   ·rw[jN,if_neg e,yA];have:(k == p.1)=false:=by simpa using λz=>e z.symm
    rw[this];refine c ?_;simpa [e] using h
 have g:∀ kvs:List (T×T),¬ (kvs.any λp=>decide (p.1=k))=true->zt (kvs++[(k,v)]) k=some v:=λkvs=>by
  induction kvs with
  | nil=>intro _;unfold zt;simp
  | cons p kvs c =>
   intro h;unfold zt at *;have e:¬ p.1=k:=λz=>h (by simp[z]);rw[Vv,yA];have:(k == p.1)=false:=by simpa using λz=>e z.symm
   rw[this];refine c λz=>h ?_;rw[Qo,z];simp
 unfold qT;split
 ·rename_i h;exact f kvs h
 ·rename_i h;exact g kvs h
theorem ej {s:M.S}{l l':Nat}{us:List T} (r:T×T) (h:s[l]? = some (.lst (us.map .str))) (h':s[l']? = some (.lst (us.map .str))):eqD (.tup [zW r,.ref l]) (.tup [zW r,.ref l']) s=.ok true s:=by
 have c:∀ k:Nat,s[k]? = some (.lst (us.map .str))->toP y0 s (.tup [zW r,.ref k])=some (.tup [.tup [.str r.1,.str r.2],.lst (us.map P.str)]):=λk e=>by
  have f:toP y0 s (.ref k)=some (.lst (us.map P.str)):=by
   show (match zv s k with | some xs=>(qf.all (λj=>toP 8 s (.ref j)) xs).map P.lst | none=>none)=_;have:zv s k=some (us.map .str):=by simp[zv,e]
   rw[this];show (qf.all _ (us.map .str)).map P.lst=_;rw[wQ];rfl
  show (match (some (P.tup [.str r.1,.str r.2])),(match toP y0 s (.ref k),(some ([]:List P)) with | some p,some ps=>some (p::ps) | _,_=>none) with | some p,some ps=>some (p::ps) | _,_=>none).map P.tup=_;rw[f];rfl
 simp only[eqD,c l h,c l' h'];have q:P.eqvs (us.map P.str) (us.map P.str)=true:=by rw[Yv];simp
 simp[P.dep,P.deps,UE,P.eqv,P.eqvs,q]
theorem kD {k:T}:zU (qT k v kvs)=if k∈zU kvs then zU kvs else zU kvs++[k]:=by
 have hm:(kvs.any λp=>decide (p.1=k))=true↔k∈zU kvs:=by
  unfold zU;rw[List.any_eq_true];constructor
  ·rintro ⟨p,c,e⟩
   have e:=of_decide_eq_true e;rw[<- e];exact Ak c
  ·intro h;obtain⟨p,c,e⟩:=List.mem_map.mp h;exact⟨p,c,decide_eq_true e⟩
 unfold qT;by_cases h:k∈zU kvs
 ·rw[if_pos (hm.mpr h),if_pos h];unfold zU;rw[yo];apply Zv;intro p _;simp only[V5];split<;>rfl
 ·rw[if_neg (λz=>h (hm.mp z)),if_neg h];unfold zU;rw[JC];rfl
theorem bj {k:T} (h:(zU kvs).Nodup):(zU (qT k v kvs)).Nodup:=by
 rw[kD];split
 ·exact h
 ·rename_i c;rw[KC];refine⟨h,by simp,λa ha b e=>?_⟩;rw[List.mem_singleton.mp e]
  rintro rfl
  exact c ha
theorem c8 {s:M.S}{h:Nat}{hs:List ((Nat×Nat)×List T)} (t:hs.length <= 1000) (i:s[h]? = some (.lst (hs.map λq=>.tup [.ref q.1.1,.ref q.1.2]))) (hq:∀ q∈hs,s[q.1.1]? = some (.lst (q.2.map .str))/\s[q.1.2]? = some (.lst (q.2.map .str))):kn [.ref h] s=.ok (.bl true) s:=by
 have j:jz 1 (iE (zA 0)) (zq 1) (zO cNe (eOp zH (zA 1) (eC (.int 0))) (eOp zH (zA 1) (eC (.int 1)))) (zA 1) [some (.ref h)] s=.ok [] s:=by
  have:=Ue (n:=1) (it:=iE (zA 0)) (tg:=zq 1) (c:=zO cNe (eOp zH (zA 1) (eC (.int 0))) (eOp zH (zA 1) (eC (.int 1)))) (e:=zA 1) (σ:=[some (.ref h)]) (s:=s) (as:=hs) (λq=>.tup [.ref q.1.1,.ref q.1.2]) (λq=>.tup [.ref q.1.1,.ref q.1.2]) (λ_=>false) (g:=[(h,.lst (hs.map λq=>.tup [.ref q.1.1,.ref q.1.2]))]) (by simp only[iE,zA,jP,R.bind_ok,itD,i]) (by unfold SZ;lia) (by simp[zj,i]) λq hm=>by
   obtain⟨l,m⟩:=hq q hm;have e:=wc l m;have o:zH (.tup [.ref q.1.1,.ref q.1.2]) (.int 0) s=.ok (.ref q.1.1) s:=rfl;have p:zH (.tup [.ref q.1.1,.ref q.1.2]) (.int 1) s=.ok (.ref q.1.2) s:=rfl;simp[-eqD,-zH,o,p,e]
  rw[this];simp
 refine yi (g:=[.lst []]) ?_ rfl;have f:(s++[O.lst []])[s.length]? = some (.lst []):=by simp
 have r:∀ s,eqD (.int 0) (.int 0) s=.ok true s:=λs=>by simp
 show (vR [some (.ref h)] s).out=_;unfold vR;simp only[zh,ZG,zJ,zB,zC,qr,j,alloc,R.bind_ok,jf,f,qz,eC,cEq,Int.natCast_zero,r,R.stm_ok,RS.out]
def wD:SM :=
  (zh (eOp jU (eOp yM (eOp zo (zA 0) (eOp yM (eC (.int 7919)) (zA 1))) (eC (.int 48271))) (eC (.int 2147483647))))
def AW:F:=fn 2 wD
noncomputable def mix (c k:Int):Int:=(c+7919 * k) * 48271 % 2147483647
def xN:F
 | [.int c,.int k],s=>.ok (.int (mix c k)) s
 | _,_=>.no
theorem Eo:jM 2 AW xN:=jM.pure λds S e c h=>by
 match ds,e with
 | [a,b],_ =>
  cases a with
  | int c =>
   cases b with
   | int k =>
    have f:qo 7919=true:=by decide
    have g:qo 48271=true:=by decide
    exact .inr ⟨_,[],rfl,by simp[AW,wD,f,g,mix],rfl⟩
   | _=>exact .inl rfl
  | _=>exact .inl rfl
def V9:SM :=
  (zG (sIf (zO cLt (zA 1) (zJ jf (zB (zA 0) zC)))
  (zh (zJ xN (zB (eOp zH (zA 0) (zA 1)) (zB (zA 1) zC))))
  z8)
  (zh (eC (.int 0))))
def Wb:F:=fn 2 V9
def kU (xs:List D) (k:Int):Option Int:=if k < xs.length then (match xs.getD k.toNat .non with | .int i=>some (mix i k) | _=>none) else some 0
def Zf:F
 | [.ro xs,.int k],s=>if 0 <= k then (match kU xs k with | some i=>.ok (.int i) s | none=>.no) else .no
 | _,_=>.no
theorem EJ:jM 2 Wb Zf:=jM.pure λds S f c l=>by
 match ds,f with
 | [a,b],_ =>
  cases a with
  | ro xs =>
   cases b with
   | int k =>
    by_cases e:0 <= k
    ·have m:qo 48271=true:=by decide
     have n:qo 7919=true:=by decide
     by_cases h:k < (xs.length:Int)
     ·have g:=Qb e h (D.non);cases hd:xs.getD k.toNat .non with
      | int i =>
       have j:kU xs k=some (mix i k):=by unfold kU;rw[if_pos h,hd]
       exact .inr ⟨_,[],by simp[Zf,e,j];rfl,by simp[Wb,V9,h,g,-qP,hd,xN],rfl⟩
      | _=>exact .inl (by simp[Zf,e,kU,h,-qP,hd])
     ·exact .inr ⟨.int 0,[],by simp[Zf,e,kU,h],by simp[Wb,V9,h],rfl⟩
    ·exact .inl (by simp[Zf,e])
   | _=>exact .inl rfl
  | _=>exact .inl rfl
def kM (ns:List Int) (k:Nat):Int:=if k < ns.length then mix (ns.getD k 0) k else 0
theorem wH (ns:List Int) (k:Nat) (s:M.S):Zf [.ro (ns.map .int),.int (k:Int)] s=.ok (.int (kM ns k)) s:=by
 have c:(0:Int) <= (k:Int):=by lia
 simp only[Zf,c,if_true];unfold kU kM;by_cases h:k < ns.length
 ·have h':(k:Int) < ((ns.map D.int).length:Int):=by rw[jH];lia
  rw[if_pos h',if_pos h];have:(ns.map D.int).getD (k:Int).toNat .non=.int (ns.getD k 0):=by
   rw[Yb,qP,qX,qP,yS h];rfl
  rw[this]
 ·have h':¬ (k:Int) < ((ns.map D.int).length:Int):=by rw[jH];lia
  rw[if_neg h',if_neg h]
def vl:SM :=
  (zh (qr 1 (XT (zA 1) (zJ Kw (zB (zA 2) (zB (zJ jf (zB (zA 0) zC)) zC)))) (zq 3) jk (zJ xN (zB (eOp zH (zA 0) (zA 3)) (zB (zA 3) zC)))))
def Cm:F:=fn 3 vl
noncomputable def K6:F:=chN Cm
theorem d8:jM 3 Cm K6:=A6 _
theorem iY (ns:List Int) (r:ns.length <= 63) (a b:Nat) (t:b <= 100) (ha:a <= 100) (S:M.S):∃ i:List Int,K6 [.ro (ns.map .int),.int (a:Int),.int (b:Int)] S=.ok (.ref S.length) (S++[.lst (i.map .int)]):=by
 obtain⟨h,c⟩:∃ h:Int,h=if (ns.length:Int) < (b:Int) then (ns.length:Int) else (b:Int):=⟨_,rfl⟩
 have u:h <= ns.length/\0 <= h/\h <= 100:=by rw[c];split<;>lia
 have m:(a:Int).natAbs < 4611686018427387904/\h.natAbs < 4611686018427387904:=by lia
 have o:=uu (n:=1) (it:=XT (zA 1) (zJ Kw (zB (zA 2) (zB (zJ jf (zB (zA 0) zC)) zC)))) (tg:=zq 3) (e:=zJ xN (zB (eOp zH (zA 0) (zA 3)) (zB (zA 3) zC))) (σ:=[some (.ro (ns.map .int)),some (.int (a:Int)),some (.int (b:Int))]) (s:=S) (lo:=(a:Int)) (hi:=h) (λ(k:Nat)=>.int (mix (ns.getD (a+k) 0) ((a:Int)+k)))
  (by simp only[XT,zA,zJ,zB,zC,jP,jg,R.bind_ok,jf,jH,Kw,<- c,m,and_self,if_true]) (by unfold SZ;lia) λk v=>by
   have p:atI (ns.map D.int) ((a:Int)+(k:Int))=some (.int (ns.getD (a+k) 0)):=by
    rw[Qb (d:=.int 0) (by lia) (by rw[jH];lia),show ((a:Int)+(k:Int)).toNat=a+k by lia,qP,qX,qP];cases ns[a+k]?<;>rfl
   simp[p,xN]
 refine⟨(j8 (h - (a:Int)).toNat).map λ(k:Nat)=>mix (ns.getD (a+k) 0) ((a:Int)+k),?_⟩;rw[yo];refine da (g:=[.lst ((j8 (h - (a:Int)).toNat).map λ(k:Nat)=>.int (mix (ns.getD (a+k) 0) ((a:Int)+k)))]) (j:=S.length) ?_ (by simp) (zg _) ?_
 ·show (vl [some (.ro (ns.map .int)),some (.int (a:Int)),some (.int (b:Int))] S).out=_;unfold vl;simp only[zh,qr,o,R.bind_ok,alloc,R.stm_ok,RS.out]
 ·have:∀ (f:Nat->Int) (l:List Nat) (n:Nat),D.cl.all n (l.map λk=>.int (f k))=true:=λf l n=>by
   induction l with
   | nil=>rfl
   | cons x l q=>exact q
  exact this (λ(k:Nat)=>mix (ns.getD (a+k) 0) ((a:Int)+k)) _ _
def YN:SM :=
  (zG (zP 2 xP)
  (zG (qZ (iE (eOp zo (zA 1) (qr 1 (iE (zA 1)) (zq 4) jk (eOp zo (eOp zo (eOp zH (zA 1) (eC (.int 0))) (eC (.str [46]))) (zA 4))))) (zq 3)
  (sIf (zO QT (zA 3) (zA 0))
  (yw (zA 2) (zA 3) (eOp zo (eC (.str [109,111,114,101,32])) (zA 3)))
  z8))
  (zh (zA 2))))
def AQ:F:=fn 4 YN
noncomputable def X2:F:=chN AQ
theorem mS:jM 2 AQ X2:=A6 _
abbrev Xh:SM:=(sIf (zO QT (zA 3) (zA 0))
  (yw (zA 2) (zA 3) (eOp zo (eC (.str [109,111,114,101,32])) (zA 3)))
  z8)
theorem Ih (n:Nat) (B:List (T×T)):O.cl n (.dct (B.map pd))=true:=by
 simp only[O.cl,We];rw[Ao];intro q _;rfl
theorem fD {A:List (T×T)}{N:List T} (G:N.length=8) (l:∀ t∈N,t.length <= 17) {S:M.S}{a p:Nat} (ha:S[a]? = some (.dct (A.map pd))) (hp:S[p]? = some (.lst (N.map .str))) :
  ∃ B:List (T×T),X2 [.ref a,.ref p] S=alloc (.dct (B.map pd)) S/\(zU B).Nodup/\(∀ q∈B,q.2.length <= 900)/\B.length <= 16:=by
 have i0:atI (N.map D.str) 0=some (.str (N.getD 0 [])):=by
  rw[Qb (d:=.str []) (by lia) (by rw[jH];lia),qP,qX];cases N with
  | nil=>simp at G
  | cons x xs=>rfl
 have h0:(N.getD 0 []).length <= 17:=by
  cases N with
  | nil=>simp at G
  | cons x xs=>exact l x (by simp)
 generalize N.getD 0 []=n0 at *;obtain⟨i,m⟩:∃ i:M.S,i=S++[.dct (([]:List (T×T)).map pd)]:=⟨_,rfl⟩
 obtain⟨c,o⟩:∃ c:List T,c=N.map λx=>n0++[46]++x:=⟨_,rfl⟩
 obtain⟨z,e⟩:∃ z:M.S,z=i++[.lst (c.map .str)]:=⟨_,rfl⟩
 obtain⟨r,u⟩:∃ r:M.S,r=z++[.lst ((N++c).map .str)]:=⟨_,rfl⟩
 have H:i[p]? = some (.lst (N.map .str)):=by rw[m];exact yI hp _
 have hc:jz 1 (iE (zA 1)) (zq 4) jk (eOp zo (eOp zo (eOp zH (zA 1) (eC (.int 0))) (eC (.str [46]))) (zA 4)) [some (.ref a),some (.ref p),some (.ref S.length),none] i=.ok (c.map .str) i:=by
  rw[o,yo];refine wA (as:=N) D.str (λx=>.str (n0++[46]++x)) (g:=[(p,.lst (N.map .str))]) ?_ (by rw[G];decide) (by simp[zj,H]) λx C=>?_
  ·simp only[iE,zA,jP,jg,R.bind_ok,itD,H]
  ·have hx17:=l x C;have z1:n0.length+1 <= SZ:=by unfold SZ;lia
   have z2:n0.length+1+x.length <= SZ:=by unfold SZ;lia
   simp[H,i0,z1,z2]
 have e3:∀ s,s=r->s=S++[.dct (([]:List (T×T)).map pd),.lst (c.map .str),.lst ((N++c).map .str)]:=λs h=>by rw[h,u,e,m];simp
 have J:∀ x∈N++c,x.length <= 40:=λx C=>by
  rcases List.mem_append.mp C with h | h
  ·have:=l x h;lia
  ·rw[o] at h;obtain⟨y,hy,rfl⟩:=List.mem_map.mp h;have:=l y hy;simp only[jv,KH]
   lia
 have L:(N++c).length=16:=by rw[jv,o,jH,G]
 obtain⟨σ',s',e5,B,v3,w,hs,n,I,E⟩:=xh (g:=[(S.length+2,.lst ((N++c).map .str))]) (f:=qO (zq 3) Xh)
  (λj σ s=>∃ (B:List (T×T)) (v3:Option D),σ=[some (.ref a),some (.ref p),some (.ref S.length),v3]/\s=S++[.dct (B.map pd),.lst (c.map .str),.lst ((N++c).map .str)]/\(zU B).Nodup/\(∀ q∈B,q.2.length <= 900)/\B.length <= j)
  ((N++c).map .str) 0 [some (.ref a),some (.ref p),some (.ref S.length),none] r ⟨[],none,rfl,e3 _ rfl,xw,(λq h=>nomatch h),zg _⟩ λj d hd σ s ⟨B,v3,w,hs,n,I,E⟩=>by
   have hj:=(List.getElem?_eq_some_iff.mp hd).1;rw[jH,L] at hj;obtain⟨x,C,rfl⟩:=List.mem_map.mp (yZ hd);have hx4:=J x C;subst w hs;have ga:∀ g,(S++g)[a]? = some (.dct (A.map pd)):=λg=>yI ha g;have gb:(S++[.dct (B.map pd),.lst (c.map .str),.lst ((N++c).map .str)])[S.length]? = some (.dct (B.map pd)):=by simp
   have zb:B.length < SZ:=by unfold SZ;lia
   have zx:5+x.length <= SZ:=by unfold SZ;lia
   by_cases hm:zt A x=none
   ·refine⟨_,_,?_,?_,qT x ([109,111,114,101,32]++x) B,some (.str x),rfl,rfl,bj n,YT I (by simp;lia),by have:=uL (k:=x) (v:=[109,111,114,101,32]++x) (kvs:=B);lia⟩
    ·have Q:qE (.str x) (A.map pd)=none:=by rw[Z9,hm];rfl
     simp[qO,Xh,ga,gb,qU,Q,zb,zx,wm]
    ·simp[zj]
   ·obtain⟨v,hv⟩:=Option.ne_none_iff_exists'.mp hm;refine⟨_,_,?_,?_,B,some (.str x),rfl,rfl,n,I,by lia⟩
    ·have Q:qE (.str x) (A.map pd)=some (.str v):=by rw[Z9,hv];rfl
     simp[qO,Xh,ga,qU,Q]
    ·simp[zj]
 subst w hs;refine⟨B,da (j:=S.length) (g:=[.dct (B.map pd),.lst (c.map .str),.lst ((N++c).map .str)]) ?_ (by simp) (zg _) (Ih _ _),n,I,by rw[jH,L] at E;lia⟩;show (YN [some (.ref a),some (.ref p),none,none] S).out=_;have U:i.length=S.length+1:=by rw[m];simp
 have l2:z.length=S.length+2:=by rw[e];simp[U]
 have pp:z[p]? = some (.lst (N.map .str)):=by rw[e];exact yI H _
 have g2:z[S.length+1]? = some (.lst (c.map .str)):=by rw[e,<- U];simp
 have g3:r[S.length+2]? = some (.lst ((N++c).map .str)):=by rw[u,<- l2];simp
 have Y:zj [(S.length+2,.lst ((N++c).map .str))] r=true:=by simp only[zj,JF,List.all_nil,g3,decide_true,W3]
 have zz:(N.map D.str).length+(c.map D.str).length <= SZ:=by rw[<- jv,<- JC,jH,L];decide
 have ei:iE (eOp zo (zA 1) (qr 1 (iE (zA 1)) (zq 4) jk (eOp zo (eOp zo (eOp zH (zA 1) (eC (.int 0))) (eC (.str [46]))) (zA 4)))) [some (.ref a),some (.ref p),some (.ref S.length),none] i=.ok ((N++c).map .str,[(S.length+2,.lst ((N++c).map .str))]) r:=by
  simp only[iE,eOp,zA,jP,jg,R.bind_ok,qr,hc,alloc,<- e,U,zo,pp,g2,zz,if_true,<- JC,<- u,l2,itD,g3]
 have e1:(zP 2 xP) [some (.ref a),some (.ref p),none,none] S=.nx [some (.ref a),some (.ref p),some (.ref S.length),none] i:=by
  rw[m];rfl
 have e2:(qZ (iE (eOp zo (zA 1) (qr 1 (iE (zA 1)) (zq 4) jk (eOp zo (eOp zo (eOp zH (zA 1) (eC (.int 0))) (eC (.str [46]))) (zA 4))))) (zq 3) Xh) [some (.ref a),some (.ref p),some (.ref S.length),none] i=.nx [some (.ref a),some (.ref p),some (.ref S.length),v3] (S++[.dct (B.map pd),.lst (c.map .str),.lst ((N++c).map .str)]):=by
  rw[qZ,ei,R.stm_ok];dsimp only;rw[Y];exact e5
 unfold YN;show ((zP 2 xP _ _).then _).out=_;rw[e1,RS.then_nx];show ((qZ _ _ Xh _ _).then _).out=_;rw[e2,RS.then_nx];rfl
def Xl:SM :=
  (zP 2 (eOp zH (zA 1) (eOp jU (eOp jt (zA 0) (eC (.int 6))) (eC (.int 8)))))
def Kz:SM :=
  (zP 3 (eOp zH (zA 1) (eOp jU (eOp jt (zA 0) (eC (.int 48))) (eC (.int 8)))))
def xr:SM :=
  (zP 4 (jR (zB (zA 2) (zB (eOp zo (eOp zo (zA 2) (eC (.str [46]))) (zA 3)) (zB (eC (.str [])) (zB (eOp zo (eOp zo (eOp zo (eOp zo (eC (.str [32,32])) (zA 3)) (eC (.str [10]))) (zA 2)) (eC (.str [32]))) (zB (eOp zo (eOp zo (eOp zo (eOp zo (zA 2) (eC (.str [32]))) (zA 3)) (eC (.str [32]))) (zA 2)) zC)))))))
def vh:SM :=
  (zP 4 (eOp zo (zA 4) (jR (zB (zJ Xd (zB (eOp jt (zA 0) (eC (.int 384))) (zB (eOp jU (eOp jt (zA 0) (eC (.int 6))) (eC (.int 31))) zC))) zC))))
def vz:SM :=
  (zh (eOp zH (zA 4) (eOp jU (zA 0) (eC (.int 6)))))
def Ce:SM:=(zG Xl (zG Kz (zG xr (zG vh vz))))
def cW:F:=fn 5 Ce
noncomputable def kE:F:=chS cW
theorem mu:jM 2 cW kE:=yj _
theorem U4 {ts:List T}{k:Int} (c:0 <= k) (h:k < ts.length):atI (ts.map D.str) k=some (.str (ts.getD k.toNat [])):=by
 rw[Qb (d:=.str []) c (by simpa using h),qP,qP,qX];cases ts[k.toNat]?<;>rfl
theorem Bm {N:List T} (h:∀ t∈N,t.length <= 17) (i:Nat):(N.getD i []).length <= 17:=by
 rw[qP];cases q:N[i]? with
 | none=>simp
 | some t=>exact h t (yZ q)
theorem HI {N:List T} (C:N.length=8) (h:∀ t∈N,t.length <= 17) {S:M.S}{p:Nat} (m:S[p]? = some (.lst (N.map .str))) (c:Int):∃ t,kE [.int c,.ref p] S=.ok (.str t) S/\t.length <= 60:=by
 have o:=yv (c / 6) (show (8:Int)≠0 by decide);have E:=Za (c / 6) (show (0:Int) < 8 by decide);have q:=yv (c / 48) (show (8:Int)≠0 by decide);have G:=Za (c / 48) (show (0:Int) < 8 by decide);have v:=U4 (ts:=N) o (by lia);have w:=U4 (ts:=N) q (by lia);have H:=Bm h (c / 6 % 8).toNat;have I:=Bm h (c / 48 % 8).toNat;generalize N.getD (c / 6 % 8).toNat []=f at *;generalize N.getD (c / 48 % 8).toNat []=g at *;have J:=yv (c / 6) (show (31:Int)≠0 by decide);have Q:=Za (c / 6) (show (0:Int) < 31 by decide);have tx:=λs=>B5 (c / 384) (c / 6 % 31).toNat (by lia) s;rw[show (((c / 6 % 31).toNat:Nat):Int)=c / 6 % 31 by lia] at tx;generalize U:kX (c / 384) (c / 6 % 31).toNat=u at *;have x:=(tx S).2;have tx':=λs=>(tx s).1;have Y:=yv c (show (6:Int)≠0 by decide);have k1:=Za c (show (0:Int) < 6 by decide);have z5:(5:Nat) <= SZ:=by decide
 have y:(1:Nat) <= SZ:=by decide
 have z:(6:Nat) <= SZ:=by decide
 have A:∀ r,(Xl [some (.int c),some (.ref p),none,none,none] S).then (zG Kz r)=r [some (.int c),some (.ref p),some (.str f),some (.str g),none] S:=λr=>by
  simp[Xl,Kz,m,v,w]
 have m1:f.length+1 <= SZ:=by unfold SZ;lia
 have m2:f.length+1+g.length <= SZ:=by unfold SZ;lia
 have m3:g.length+1+1 <= SZ:=by unfold SZ;lia
 have m4:g.length+1+1+1 <= SZ:=by unfold SZ;lia
 have m5:g.length+f.length+1+1+1 <= SZ:=by unfold SZ;lia
 have zz:∀ n,n <= 200->n <= SZ:=λn h=>by unfold SZ;lia
 have B:xr [some (.int c),some (.ref p),some (.str f),some (.str g),none] S=.nx [some (.int c),some (.ref p),some (.str f),some (.str g),some (.ref S.length)] (S++[.lst [.str f,.str (f++[46]++g),.str [],.str ([32,32]++g++[10]++f++[32]),.str (f++[32]++g++[32]++f)]]):=by
  have w1:=zz (f.length+1) (by lia);simp only[xr,zP,jR,zB,zC,zA,eOp,eC,jP,jg,R.bind_ok,zo,jv,jE,qz];rw[if_pos (zz _ (by lia))];simp only[R.bind_ok,jv,jE,qz];rw[if_pos (zz _ (by lia))];simp only[R.bind_ok,jv,jE,qz];rw[if_pos (zz _ (by lia))];simp only[R.bind_ok,jv,jE,qz];rw[if_pos (zz _ (by lia))];simp only[R.bind_ok,jv,jE,qz];rw[if_pos (zz _ (by lia))];simp only[R.bind_ok,jv,jE,qz];rw[if_pos (zz _ (by lia))];simp only[R.bind_ok,jv,jE,qz];rw[if_pos (zz _ (by lia))];simp only[R.bind_ok,jv,jE,qz];rw[if_pos (zz _ (by lia))];simp only[R.bind_ok,jv,jE,qz];rw[if_pos (zz _ (by lia))];simp only[R.bind_ok,jv,jE,qz];rw[if_pos (zz _ (by lia))];simp only[R.bind_ok,jv,jE,qz];rw[if_pos (zz _ (by lia))];rfl
 generalize l:[D.str f,.str (f++[46]++g),.str [],.str ([32,32]++g++[10]++f++[32]),.str (f++[32]++g++[32]++f)]=L at *;have j:L.length=5:=by rw[<- l];rfl
 have i:∀ t,atI (L++[.str u]) (c % 6)=some (.str t)->kE [.int c,.ref p] S=.ok (.str t) S:=λt e=>by
  refine yi (g:=[.lst L,.lst [.str u],.lst (L++[.str u])]) ?_ rfl;show ((Xl [some (.int c),some (.ref p),none,none,none] S).then (zG Kz (zG xr (zG vh vz)))).out=_;rw[A];show ((xr _ _).then _).out=_;rw[B];simp[vh,vz,tx',y,z,j,e,RS.out]
 rw[<- l] at i;have:c % 6=0\/c % 6=1\/c % 6=2\/c % 6=3\/c % 6=4\/c % 6=5:=by lia
 rcases this with e | e | e | e | e | e<;>rw[e] at i
 ·exact⟨_,i _ rfl,by lia⟩
 ·exact⟨_,i _ rfl,by simp;lia⟩
 ·exact⟨_,i _ rfl,by simp⟩
 ·exact⟨_,i _ rfl,by simp;lia⟩
 ·exact⟨_,i _ rfl,by simp;lia⟩
 ·exact⟨_,i _ rfl,x⟩
def Vo:SM :=
  (zG (sIf (tOr (qB (qD (zJ yE (zB (zA 0) (zB (eC (.ty .tuple)) zC))))) (tOr (zO cNe (zJ jf (zB (zA 0) zC)) (eC (.int 2))) (qB (qD (zJ yE (zB (eOp zH (zA 0) (eC (.int 1))) (zB (eC (.ty .list)) zC)))))))
  (zh (eC (.bl false)))
  z8)
  (zG (sIf (tOr (qB (qD (zJ yE (zB (eOp zH (zA 0) (eC (.int 0))) (zB (eC (.ty .tuple)) zC))))) (tOr (zO cNe (zJ jf (zB (eOp zH (zA 0) (eC (.int 0))) zC)) (eC (.int 2))) (zO QT (eOp zH (eOp zH (zA 0) (eC (.int 0))) (eC (.int 0))) (jR (zB (eC (.str [116,101,120,116])) (zB (eC (.str [102,97,105,108,115])) (zB (eC (.str [97,115,107,115])) zC)))))))
  (zh (eC (.bl false)))
  z8)
  (zh (Jp (zJ yE (zB (eOp zH (eOp zH (zA 0) (eC (.int 0))) (eC (.int 1))) (zB (eC (.ty .str)) zC))) (Jp (ZG cLe (zJ jf (zB (eOp zH (eOp zH (zA 0) (eC (.int 0))) (eC (.int 1))) zC)) (eC (.int 900))) (Qd Qf 1 (iE (eOp zH (zA 0) (eC (.int 1)))) (zq 1) jk (zJ yE (zB (zA 1) (zB (eC (.ty .str)) zC)))))))))
def ao:F:=fn 1 Vo
inductive Pr where
 | ret (o:Out) (k:Nat)
 | ask (k:Nat) (n:T) (f:T->Pr)
def Pr.run (A:List (T×T)):Pr->List T->Out×Ct
 | .ret o k,us=>(o,(k,us))
 | .ask k n f,us=>match zt A n with
  | none=>(.en (jh,n),(k,us))
  | some v=>(f v).run A (qm us n)
def Pr.bind (g:T->Nat->Pr):Pr->Pr
 | .ret (.tx x) k=>g x k
 | .ret (.en e) k=>.ret (.en e) k
 | .ask k n f=>.ask k n λv=>(f v).bind g
theorem ay (A:List (T×T)) (g:T->Nat->Pr):∀ (p:Pr) (us:List T),(p.bind g).run A us=andO (p.run A us) λx c=>(g x c.1).run A c.2
 | .ret (.tx x) k,us=>rfl
 | .ret (.en e) k,us=>rfl
 | .ask k n f,us=>by
  rw[Pr.bind,Pr.run,Pr.run];cases zt A n with
  | none=>rfl
  | some v=>exact ay A g (f v) _
def Pr.fine (b:Bool):Pr->Prop
 | .ret (.tx x) _=>b=true->x.length <= 900
 | .ret (.en e) _=>e.1=ja/\e.2.length <= 900
 | .ask _ n f=>qk n=true/\∀ v:T,v.length <= 900->(f v).fine b
theorem Wj {a b:Bool}{g:T->Nat->Pr}:∀ {p:Pr},p.fine a->(∀ x k,(a=true->x.length <= 900)->(g x k).fine b)->(p.bind g).fine b
 | .ret (.tx x) k,c,h=>h x k c
 | .ret (.en e) k,c,_=>c
 | .ask k n f,c,h=>⟨c.1,λv hv=>Wj (c.2 v hv) h⟩
def vI (x:T) (k:Nat):Pr:=if 900 < x.length then .ret (.en (ja,yQ)) k else .ret (.tx x) k
theorem FG (x:T) (k:Nat):(vI x k).fine true:=by
 unfold vI;split
 ·exact⟨rfl,by decide⟩
 ·intro _;lia
theorem D8 (A:List (T×T)) (x:T) (c:Ct):(vI x c.1).run A c.2=ZJ (.tx x,c):=by
 unfold vI ZJ;dsimp only;split<;>rfl
theorem G5 (r:Out×Ct):ZJ r=andO r λx c=>ZJ (.tx x,c):=by
 obtain⟨o,c⟩:=r;cases o<;>rfl
theorem vo {A:List (T×T)} (i:∀ q∈A,q.2.length <= 900) {b:Bool}:∀ {p:Pr}{us:List T},p.fine b->(∀ x,(p.run A us).1=.tx x->b=true->x.length <= 900)/\∀ e,(p.run A us).1=.en e->(e.1=ja/\e.2.length <= 900)\/(e.1=jh/\qk e.2=true/\zt A e.2=none)
 | .ret (.tx x) k,us,c=>⟨λy g=>(by cases g;exact c),λe h=>(by cases h)⟩
 | .ret (.en e) k,us,c=>⟨λy g=>(by cases g),λe h=>(by cases h;exact .inl c)⟩
 | .ask k n f,us,c=>by
  rw[Pr.run];cases j:zt A n with
  | none=>exact⟨λy g=>(by cases g),λe h=>(by cases h;exact .inr ⟨rfl,c.1,j⟩)⟩
  | some v=>exact vo i (c.2 v (i _ (VZ j)))
section
variable {st:D}{fam:Bool}{N:List T}
def Is (p:Pr) (b:Bool) (k:Nat) (f:List (T×T)->Ct->Out×Ct):Prop:=p.fine b/\∀ A us,(∀ q∈A,q.2.length <= 900)->f A (k,us)=p.run A us
theorem xF {a b:Bool}{k:Nat}{g:List (T×T)->T->Ct->Out×Ct} (j:Is p a k f) (n:∀ x k,(a=true->x.length <= 900)->∃ q,Is q b k λA c=>g A x c):∃ q,Is q b k λA c=>andO (f A c) (g A):=by
 have i:∀ x k,∃ q:Pr,(a=true->x.length <= 900)->Is q b k λA c=>g A x c:=λx k=>by
  by_cases h:a=true->x.length <= 900
  ·obtain⟨q,hq⟩:=n x k h;exact⟨q,λ_=>hq⟩
  ·exact⟨.ret (.tx []) 0,λz=>absurd z h⟩
 obtain⟨G,i⟩:∃ G:T->Nat->Pr,∀ x k,(a=true->x.length <= 900)->Is (G x k) b k λA c=>g A x c:=⟨λx k=>(i x k).choose,λx k=>(i x k).choose_spec⟩
 refine⟨p.bind G,Wj j.1 λx k h=>(i x k h).1,λA us l=>?_⟩;rw[ay];show andO (f A (k,us)) (g A)=_;rw[j.2 A us l];have m:=(vo l (us:=us) j.1).1;cases r:p.run A us with
 | mk o c =>
  rw[r] at m;cases o with
  | en e=>rfl
  | tx x=>exact (i x c.1 (m x rfl)).2 A c.2 l
theorem Y3 {k:Nat} (e:qk n=true):Is (.ask k n λv=>.ret (.tx v) k) true k λA c=>Zc A n c:=⟨⟨e,λv hv _=>hv⟩,λA us _=>by
 rw[Pr.run];show Zc A n (k,us)=_;unfold Zc;cases zt A n<;>rfl⟩
theorem Bx {a:Bool}{k:Nat} (e:Is p a k f):∃ q,Is q true k λA c=>ZJ (f A c):=by
 obtain⟨q,h,i⟩:=xF (b:=true) (g:=λ_ x c=>ZJ (.tx x,c)) e λx k _=>⟨vI x k,FG x k,λA us _=>(D8 A x (k,us)).symm⟩
 refine⟨q,h,λA us j=>?_⟩;show ZJ (f A (k,us))=_;rw[G5];exact i A us j
theorem c9:∀ (ts:List Tr) (e:T) (k:Nat),(∀ t∈ts,∀ k,∃ p,Is p true k λA c=>ev A st n t i c)->∃ p,Is p false k λA c=>evs (λa c=>ev A st n a i c) ts e c
 | [],e,k,_=>⟨.ret (.tx e) k,λh=>(by cases h),λ_ _ _=>rfl⟩
 | t::ts,e,k,h=>by
  obtain⟨p,f⟩:=h t qJ k;obtain⟨q,j,l⟩:=xF (b:=false) (g:=λA x c=>evs (λa c=>ev A st n a i c) ts (e++x) c) f λx k _=>c9 ts (e++x) k λt' h'=>h t' (je _ h');refine⟨q,j,λA us m=>?_⟩;rw[<- l A us m];show evs _ (t::ts) e (k,us)=_;rw[evs];dsimp only;cases ev A st n t i (k,us) with
  | mk o c=>cases o<;>rfl
theorem Bg {b:Tr}:∀ (ws:List T) (e:T) (k:Nat),e.length <= 900->(∀ w∈ws,∀ k,∃ p,Is p true k λA c=>ev A st n b (.str w) c)->∃ p,Is p true k λA c=>evw (λw c=>ev A st n b (.str w) c) ws e c
 | [],e,k,ha,_=>⟨.ret (.tx e) k,λ_=>ha,λ_ _ _=>rfl⟩
 | w::ws,e,k,ha,h=>by
  obtain⟨p,j⟩:=h w qJ k;obtain⟨q,l,m⟩:=xF (b:=true) (g:=λA x c=>if 900 < (e++x).length then (.en (ja,yQ),c) else evw (λw c=>ev A st n b (.str w) c) ws (e++x) c) j λx k _=>by
   by_cases i:900 < (e++x).length
   ·exact⟨.ret (.en (ja,yQ)) k,⟨rfl,by decide⟩,λA us _=>by simp only[if_pos i];rfl⟩
   ·obtain⟨q,hq⟩:=Bg ws (e++x) k (by lia) λr h'=>h r (je _ h');exact⟨q,hq.1,λA us f=>by simp only[if_neg i];exact hq.2 A us f⟩
  refine⟨q,l,λA us f=>?_⟩;rw[<- m A us f];show evw _ (w::ws) e (k,us)=_;rw[evw];dsimp only;cases ev A st n b (.str w) (k,us) with
  | mk o c=>cases o<;>rfl
def nmL (st:D):Tr->Prop
 | .thing m=>qk m=true
 | .kin m=>qk (m++[46]++yT st)=true
 | _=>True
theorem bZ {p:Tr->Prop}:∀ {ts:List Tr},Tr.allL.ls p ts->∀ t∈ts,t.allL p
 | t::ts,h,x,c=>by
  rcases List.mem_cons.mp c with rfl | c
  ·exact h.1
  ·exact bZ h.2 x c
theorem Ab (u:(yT st).length <= 900):∀ (n:Nat) (t:Tr) (b:Bool) (i:D),jq st n b t->t.allL (nmL st)->(b=true->∃ x,i=.str x/\x.length <= 900)->∀ k,∃ p,Is p true k λA c=>ev A st n t i c
 | 0,t,b,i,j,_,_=>j.elim
 | n+1,t,b,i,j,l,hi=>λk=>by
  have r:=Ab u n;by_cases z:500 <= k
  ·refine⟨.ret (.en (ja,Xk)) (k+1),⟨rfl,by decide⟩,λA us _=>?_⟩;show ev A st (n+1) t i (k,us)=_;rw[ev.eq_def];dsimp only;rw[if_pos z];rfl
  ·have go:∀ (g:List (T×T)->Ct->Out×Ct),(∀ A us,ev A st (n+1) t i (k,us)=g A (k+1,us))->(∃ p,Is p true (k+1) g)->∃ p,Is p true k λA c=>ev A st (n+1) t i c:=λg j ⟨p,o⟩=>⟨p,o.1,λA us G=>by
    show ev A st (n+1) t i (k,us)=_;rw[j];exact o.2 A us G⟩
   have un:∀ A us,ev A st (n+1) t i (k,us)=match (generalizing:=false) t with
     | .txt x=>(.tx x,(k+1,us))
     | .line=>(.tx [10],(k+1,us))
     | .it=>(.tx (yT i),(k+1,us))
     | .stem=>(.tx (yT st),(k+1,us))
     | .thing m=>Zc A m (k+1,us)
     | .kin m=>Zc A (m++[46]++yT st) (k+1,us)
     | .join ts=>ZJ (evs (λa c=>ev A st n a i c) ts [] (k+1,us))
     | .ife a b x y=>andO (ev A st n a i (k+1,us)) λp c=>andO (ev A st n b i c) λq c=>ev A st n (if p=q then x else y) i c
     | .each a b=>andO (ev A st n a i (k+1,us)) λs c=>evw (λw c=>ev A st n b (.str w) c) (z9 s) [] c
     | .one w a=>andO (ev A st n a i (k+1,us)) λs c=>Kg A w s c:=λA us=>by
    rw[ev.eq_def];dsimp only;rw[if_neg z]<;>cases t<;>rfl
   cases t with
   | txt x=>exact go (λ_ c=>(.tx x,c)) un ⟨.ret (.tx x) (k+1),λ_=>j,λ_ _ _=>rfl⟩
   | line=>exact go (λ_ c=>(.tx [10],c)) un ⟨.ret (.tx [10]) (k+1),λ_=>by decide,λ_ _ _=>rfl⟩
   | it =>
    obtain⟨x,rfl,H⟩:=hi j;exact go (λ_ c=>(.tx x,c)) un ⟨.ret (.tx x) (k+1),λ_=>H,λ_ _ _=>rfl⟩
   | stem=>exact go (λ_ c=>(.tx (yT st),c)) un ⟨.ret (.tx (yT st)) (k+1),λ_=>u,λ_ _ _=>rfl⟩
   | thing m=>exact go (λA c=>Zc A m c) un ⟨_,Y3 l⟩
   | kin m=>exact go (λA c=>Zc A (m++[46]++yT st) c) un ⟨_,Y3 l⟩
   | join ts =>
    obtain⟨p,o⟩:=c9 (st:=st) (n:=n) (i:=i) ts [] (k+1) λt B k=>r t b i (j.2.2 t B) (bZ l t B) hi k;exact go _ un (Bx o)
   | ife a c x y =>
    obtain⟨p,o⟩:=r a b i j.1 l.1 hi (k+1);refine go _ un (xF o λs k _=>?_);obtain⟨q,hq⟩:=r c b i j.2.1 l.2.1 hi k;refine xF hq λI k _=>?_;by_cases e:s=I
    ·simp only[if_pos e];exact r x b i j.2.2.1 l.2.2.1 hi k
    ·simp only[if_neg e];exact r y b i j.2.2.2 l.2.2.2 hi k
   | each a c =>
    obtain⟨p,o⟩:=r a b i j.1 l.1 hi (k+1);refine go _ un (xF o λs k hs=>?_);exact Bg (z9 s) [] k (ZR _) λw hw k=>r c true (.str w) j.2 l.2 (λ_=>⟨w,rfl,by
     have J:(qv s).length=s.length:=by simp[qv]
     have:=VJ 32 (qv s) w (List.mem_filter.mp hw).1;have:=hs rfl
     lia⟩) k
   | one w a =>
    obtain⟨p,o⟩:=r a b i j.2 l hi (k+1);refine go _ un (xF o λs k hs=>?_);unfold Kg;by_cases C:w=xC
    ·simp only[if_pos C];exact⟨.ret (.en (ja,s)) k,⟨rfl,hs rfl⟩,λ_ _ _=>rfl⟩
    ·simp only[if_neg C];by_cases E:w=tOf
     ·simp only[if_pos E];by_cases v:qk s=true
      ·simp only[if_pos v];exact⟨_,Y3 v⟩
      ·simp only[if_neg v];exact⟨.ret (.en (ja,tNo)) k,⟨rfl,by decide⟩,λ_ _ _=>rfl⟩
     ·simp only[if_neg E];exact Bx (p:=.ret (.tx (yy w s)) k) (a:=false) (f:=λ_ c=>(.tx (yy w s),c)) ⟨λh=>(by cases h),λ_ _ _=>rfl⟩
end
theorem vU (A:List (T×T)):∀ (p:Pr) (us:List T),∃ W,(p.run A us).2.2=us++W
 | .ret o k,us=>⟨[],by rw[Pr.run];simp⟩
 | .ask k n f,us=>by
  rw[Pr.run];cases zt A n with
  | none=>exact⟨[],by simp⟩
  | some v =>
   obtain⟨W,h⟩:=vU A (f v) (qm us n);exact⟨_,by rw[h];unfold qm;rw[qy]⟩
theorem U8 {x:T}:x∈qm us n↔x∈us\/x=n:=by
 unfold qm;by_cases h:us.contains n=true
 ·rw[if_pos h,qw];constructor
  ·exact .inl
  ·rintro (h' | rfl)
   ·exact h'
   ·simpa using h
 ·rw[if_neg h];simp
theorem il {us:List T} (h:us.Nodup):(qm us n).Nodup:=by
 unfold qm;by_cases c:us.contains n=true
 ·rw[if_pos c,qw];exact h
 ·rw[if_neg c,KC];refine⟨h,by simp,λa ha b e=>?_⟩;rw[List.mem_singleton.mp e]
  rintro rfl
  exact c (by simpa using ha)
theorem Yy {A:List (T×T)}:∀ {p:Pr}{us:List T},us.Nodup->(p.run A us).2.2.Nodup/\∀ x∈(p.run A us).2.2,x∈us\/(zt A x).isSome=true
 | .ret o k,us,h=>⟨h,λx c=>.inl c⟩
 | .ask k n f,us,h=>by
  rw[Pr.run];cases g:zt A n with
  | none=>exact⟨h,λx c=>.inl c⟩
  | some v =>
   obtain⟨i,j⟩:=Yy (A:=A) (p:=f v) (il (n:=n) h);refine⟨i,λx c=>?_⟩;rcases j x c with e | e
   ·rcases U8.mp e with l | rfl
    ·exact .inl l
    ·exact .inr (by rw[g];rfl)
   ·exact .inr e
theorem CF {A:List (T×T)}:∀ {p:Pr}{us:List T},(∀ x∈(p.run A us).2.2,zt B x=zt A x)->(∀ n,(p.run A us).1=.en (jh,n)->zt B n=none)->p.run B us=p.run A us
 | .ret o k,us,_,_=>rfl
 | .ask k n f,us,e,c=>by
  rw[Pr.run] at e c;rw[Pr.run,Pr.run];cases g:zt A n with
  | none =>
   rw[g] at c;rw[c n rfl]
  | some v =>
   rw[g] at e c;obtain⟨W,h⟩:=vU A (f v) (qm us n);have:zt B n=some v:=by
    rw[<- g];refine e n ?_;show n∈(Pr.run A (f v) (qm us n)).2.2;rw[h];exact uP _ (U8.mpr (.inr rfl))
   rw[this];exact CF e c
theorem cb (s:zt A n=none) (i:(zt B n).isSome=true) (g:∀ x,x≠n->zt B x=zt A x):∀ {p:Pr}{b:Bool}{us:List T}{c:Ct},p.fine b->(∀ q∈A,q.2.length <= 900)->p.run A us=(.en (jh,n),c)->∃ W,(p.run B us).2.2=qm c.2 n++W
 | .ret o k,b,us,c,j,_,h=>by
  rw[Pr.run] at h;cases h;exact absurd (show jh=ja from j.1) (by decide)
 | .ask k m f,b,us,c,j,t,h=>by
  rw[Pr.run] at h;rw[Pr.run];cases hm:zt A m with
  | none =>
   rw[hm] at h;obtain⟨l,u⟩:=ef h;have e:m=n:=by injection l with l;exact (ef l).2
   subst e u;cases q:zt B m with
   | none=>rw[q] at i;cases i
   | some v=>exact vU B (f v) (qm us m)
  | some v =>
   rw[hm] at h;have r:m≠n:=λz=>by rw[z,s] at hm;cases hm
   rw[g m r,hm];exact cb s i g (j.2 v (t _ (VZ hm))) t h
theorem bM (j:zt B x=none) (g:∀ y,y≠x->zt B y=zt A y):∀ {p:Pr}{us:List T},x∉us->x∈(p.run A us).2.2->∃ k U W,p.run B us=(.en (jh,x),(k,U))/\(p.run A us).2.2=U++x::W
 | .ret o k,us,h,c=>absurd c h
 | .ask k n f,us,h,c=>by
  rw[Pr.run] at c;rw[Pr.run,Pr.run];cases i:zt A n with
  | none=>rw[i] at c;exact absurd c h
  | some v =>
   rw[i] at c;by_cases e:n=x
   ·subst e;rw[j];obtain⟨W,l⟩:=vU A (f v) (qm us n);refine⟨k,us,W,rfl,?_⟩;show (Pr.run A (f v) (qm us n)).2.2=_;rw[l];have:qm us n=us++[n]:=by
     unfold qm;rw[if_neg (by simpa using h)]
    rw[this];simp
   ·rw[g n e,i];exact bM j g (λz=>(U8.mp z).elim h λz=>e z.symm) c
noncomputable def xG:F:=chS ao
theorem iO:jM 1 ao xG:=yj _
theorem av {r:T×T} (w:r.1=Jj\/r.1=ja\/r.1=jh) (U:r.2.length <= 900) {us:List T} (Y:us.length <= 1000) {s:M.S}{l:Nat} (q:s[l]? = some (.lst (us.map .str))):xG [.tup [zW r,.ref l]] s=.ok (.bl true) s:=by
 have x:(3:Nat) <= SZ:=by decide
 have y:r.2.length <= SZ:=by unfold SZ;lia
 have o:∀ s,zH (.tup [zW r,.ref l]) (.int 0) s=.ok (zW r) s:=λ_=>rfl;have v:∀ s,zH (.tup [zW r,.ref l]) (.int 1) s=.ok (.ref l) s:=λ_=>rfl;have z:∀ s,zH (zW r) (.int 0) s=.ok (.str r.1) s:=λ_=>rfl;have A:∀ s,zH (zW r) (.int 1) s=.ok (.str r.2) s:=λ_=>rfl;have k1:ZC .list (.ref l) s=.ok true s:=by simp[ZC,q]
 have B:∀ s,ZC .tuple (zW r) s=.ok true s:=λ_=>rfl;have C:∀ s,jf [zW r] s=.ok (.int 2) s:=λ_=>rfl;have t:∀ s,jf [.tup [zW r,.ref l]] s=.ok (.int 2) s:=λ_=>rfl;have f:∀ s,eqD (.int 2) (.int 2) s=.ok true s:=λs=>by simp
 obtain⟨c,e⟩:∃ c:M.S,c=s++[.lst (([Jj,ja,jh]:List T).map .str)]:=⟨_,rfl⟩
 have i:∀ σ,jR (zB (eC (.str [116,101,120,116])) (zB (eC (.str [102,97,105,108,115])) (zB (eC (.str [97,115,107,115])) zC))) σ s=.ok (.ref s.length) c:=λσ=>by
  rw[e];simp[x]
 have u:inD (.str r.1) (.ref s.length) c=.ok true c:=by
  have:=vg (s:=c) (p:=s.length) (ts:=[Jj,ja,jh]) (by rw[e];simp) r.1;rw[this];rcases w with h | h | h<;>rw[h]<;>rfl
 have j:c[l]? = some (.lst (us.map .str)):=by rw[e];exact yI q _
 have E:jz 1 (iE (eOp zH (zA 0) (eC (.int 1)))) (zq 1) jk (zJ yE (zB (zA 1) (zB (eC (.ty .str)) zC))) [some (.tup [zW r,.ref l])] c=.ok (us.map λ_=>.bl true) c:=by
  refine wA (as:=us) D.str (λ_=>.bl true) (g:=[(l,.lst (us.map .str))]) ?_ (by unfold SZ;lia) (by simp[zj,j]) λn _=>by simp
  simp only[iE,eOp,zA,eC,jP,R.bind_ok,v,itD,j]
 have m:Qf (us.map λ_=>D.bl true) c=.ok (.bl true) c:=by
  have:=all_map (λ_:T=>true) us c;rw[this];simp
 have G:(r.2.length:Int) <= 900:=by lia
 refine yi (g:=[.lst (([Jj,ja,jh]:List T).map .str)]) ?_ rfl;rw[<- e];show (Vo [some (.tup [zW r,.ref l])] s).out=_;have H:(tOr (qB (qD (zJ yE (zB (zA 0) (zB (eC (.ty .tuple)) zC))))) (tOr (zO cNe (zJ jf (zB (zA 0) zC)) (eC (.int 2))) (qB (qD (zJ yE (zB (eOp zH (zA 0) (eC (.int 1))) (zB (eC (.ty .list)) zC))))))) [some (.tup [zW r,.ref l])] s=.ok false s:=by
  simp only[tOr,qB,qD,zO,zJ,zB,zC,zA,eC,eOp,jP,R.bind_ok,yE,ZC,ZA,ZW,j9,if_false,t,cNe,f,v];simp[q]
 have I:(tOr (qB (qD (zJ yE (zB (eOp zH (zA 0) (eC (.int 0))) (zB (eC (.ty .tuple)) zC))))) (tOr (zO cNe (zJ jf (zB (eOp zH (zA 0) (eC (.int 0))) zC)) (eC (.int 2))) (zO QT (eOp zH (eOp zH (zA 0) (eC (.int 0))) (eC (.int 0))) (jR (zB (eC (.str [116,101,120,116])) (zB (eC (.str [102,97,105,108,115])) (zB (eC (.str [97,115,107,115])) zC))))))) [some (.tup [zW r,.ref l])] s=.ok false c:=by
  have J:(qB (qD (zJ yE (zB (eOp zH (zA 0) (eC (.int 0))) (zB (eC (.ty .tuple)) zC))))) [some (.tup [zW r,.ref l])] s=.ok false s:=by
   simp only[qB,qD,zJ,zB,zC,zA,eC,eOp,jP,R.bind_ok,o,yE,B,ZA,ZW]
  have L:(zO cNe (zJ jf (zB (eOp zH (zA 0) (eC (.int 0))) zC)) (eC (.int 2))) [some (.tup [zW r,.ref l])] s=.ok false s:=by
   simp only[zO,zJ,zB,zC,zA,eC,eOp,jP,R.bind_ok,o,C,cNe,f,ZW]
  have N:(eOp zH (eOp zH (zA 0) (eC (.int 0))) (eC (.int 0))) [some (.tup [zW r,.ref l])] s=.ok (.str r.1) s:=by
   simp only[zA,eC,eOp,jP,R.bind_ok,o,z]
  rw[tOr,J,R.bind_ok];show (if false=true then _ else (tOr _ _ _ s))=_;rw[if_neg (by decide),tOr,L,R.bind_ok];show (if false=true then _ else (zO QT _ _ _ s))=_;rw[if_neg (by decide)];show ((eOp zH (eOp zH (zA 0) (eC (.int 0))) (eC (.int 0))) [some (.tup [zW r,.ref l])] s).bind _=_;rw[N,R.bind_ok,i,R.bind_ok];simp only[QT,u,R.bind_ok,ZW]
 unfold Vo;rw[zG,sIf,H,R.stm_ok,if_neg (by decide)];show ((RS.nx _ s).then _).out=_;rw[RS.then_nx,zG,sIf,I,R.stm_ok,if_neg (by decide)];show ((RS.nx _ c).then _).out=_;rw[RS.then_nx];have Q:∀ s,ZC .str (.str r.2) s=.ok true s:=λ_=>rfl;simp only[zh,Jp,zJ,zB,zC,zA,eC,eOp,jP,R.bind_ok,o,A,yE,Q,asB,if_true,ZG,jf,y,cLe,G,decide_true,Qd,E,m,R.stm_ok,RS.out]
def vu:SM :=
  (zG (qZ (qi (zJ jf (zB (zA 3) zC))) (zq 4)
  (zG (Q3 2 (zP 5 (zJ Q2 (zB (qr 1 (QH (zA 2)) (zq 7) (zO cNe (zA 7) (eOp zH (zA 3) (zA 4))) (zr (zB (zA 7) (zB (eOp zH (zA 2) (zA 7)) zC)))) zC))))
  (zG (zP 6 (zJ Qj (zB (zA 0) (zB (zA 1) (zB (zA 5) zC)))))
  (sIf (tOr (qB (qD (zJ xG (zB (zA 6) zC)))) (tOr (zO cNe (eOp zH (zA 6) (eC (.int 0))) (zr (zB (eC (.str [97,115,107,115])) (zB (eOp zH (zA 3) (zA 4)) zC)))) (zO cNe (eOp zH (zA 6) (eC (.int 1))) (eSl (zA 3) yh (qV (zA 4))))))
  (zh (eC (.bl false)))
  z8))))
  (zh (eC (.bl true))))
def cZ:F:=fn 7 vu
noncomputable def KP:F:=chS cZ
theorem eO:jM 4 cZ KP:=yj _
theorem AN (h:qk x=true):x.length <= 900:=by
 unfold qk at h;rw[j7,decide_eq_true_iff,Ao] at h;have c:=Ut 46 x;have e:∀ y∈jO 46 x,y.length <= 8:=λy f=>by
  have:=h.2 y f;unfold qH at this;simp only[j7,decide_eq_true_eq] at this;exact this.1.1.2
 have:=wj (m:=8) (jO 46 x) e;unfold tot at c
 lia
abbrev YE:SM:=(zG (Q3 2 (zP 5 (zJ Q2 (zB (qr 1 (QH (zA 2)) (zq 7) (zO cNe (zA 7) (eOp zH (zA 3) (zA 4))) (zr (zB (zA 7) (zB (eOp zH (zA 2) (zA 7)) zC)))) zC))))
  (zG (zP 6 (zJ Qj (zB (zA 0) (zB (zA 1) (zB (zA 5) zC)))))
  (sIf (tOr (qB (qD (zJ xG (zB (zA 6) zC)))) (tOr (zO cNe (eOp zH (zA 6) (eC (.int 0))) (zr (zB (eC (.str [97,115,107,115])) (zB (eOp zH (zA 3) (zA 4)) zC)))) (zO cNe (eOp zH (zA 6) (eC (.int 1))) (eSl (zA 3) yh (qV (zA 4))))))
  (zh (eC (.bl false)))
  z8)))
theorem w_eq:vu=zG (qZ (qi (zJ jf (zB (zA 3) zC))) (zq 4) YE) (zh (eC (.bl true))):=rfl
section
variable {A:List (T×T)}{st:D}{t:Tr}{n:Nat}{pr:Pr}
theorem w_step (hst:(yT st).length <= 900) (H:n <= 40) (hg:jq st n false t) (hA:∀ q∈A,q.2.length <= 900) (hk:(zU A).Nodup) (hlA:A.length <= 400) (C:Is pr true 0 λA c=>ev A st n t .non c) (hu:(ev A st n t .non (0,[])).2.2=zU A) {S:M.S}{a u:Nat} (ha:S[a]? = some (.dct (A.map pd))) (E:S[u]? = some (.lst ((zU A).map .str))) {j:Nat} (hj:j < (zU A).length) {v5 v6:Option D} :
  ∃ g v5' v6',YE [some t.d,some st,some (.ref a),some (.ref u),some (.int (j:Int)),v5,v6] S=.nx [some t.d,some st,some (.ref a),some (.ref u),some (.int (j:Int)),v5',v6'] (S++g):=by
 have z2:(2:Nat) <= SZ:=by decide
 obtain⟨x,hx⟩:∃ x,(zU A)[j]? = some x:=⟨_,yS hj⟩
 have au:a≠u:=λz=>by rw[z,E] at ha;cases ha
 have la:a < S.length:=(List.getElem?_eq_some_iff.mp ha).1;have ix:∀ s:M.S,s[u]? = some (.lst ((zU A).map .str))->zH (.ref u) (.int (j:Int)) s=.ok (.str x) s:=λs e=>by
  have:atI ((zU A).map D.str) (j:Int)=some (.str x):=by
   rw[Qb (d:=.str []) (by lia) (by rw[jH];lia),qP,qX,Yb,hx];rfl
  simp only[zH,e,this]
 obtain⟨f,m⟩:∃ f:M.S,f=S.set a (.fdc (A.map pd)):=⟨_,rfl⟩
 have a1:f[a]? = some (.fdc (A.map pd)):=by rw[m,ZI la]
 have u1:f[u]? = some (.lst ((zU A).map .str)):=by rw[m,qb au];exact E
 have l1:f.length=S.length:=by rw[m];simp
 have hc:jz 1 (QH (zA 2)) (zq 7) (zO cNe (zA 7) (eOp zH (zA 3) (zA 4))) (zr (zB (zA 7) (zB (eOp zH (zA 2) (zA 7)) zC))) [some t.d,some st,some (.ref a),some (.ref u),some (.int (j:Int)),v5,v6] f=.ok ((jo x A).map λq=>.tup [.str q.1,.str q.2]) f:=by
  refine Ue (as:=A) (λq=>.str q.1) (λq=>.tup [.str q.1,.str q.2]) (λq=>decide (q.1≠x)) (g:=[]) ?_ (by unfold SZ;lia) rfl λq hq=>?_
  ·simp only[QH,zA,jP,jg,R.bind_ok,a1,bO]
  ·have hgq:qE (.str q.1) (A.map pd)=some (.str q.2):=by rw[Z9,Ux hk hq];rfl
   have ga:zH (.ref a) (.str q.1) f=.ok (.str q.2) f:=by simp[a1,qU,hgq]
   have gx:=ix f u1;by_cases e:q.1=x
   ·simp[-zH,gx,e]
   ·simp[-zH,gx,e,ga,z2]
 obtain⟨L,hL⟩:∃ L:O,L=.lst ((jo x A).map λq=>.tup [.str q.1,.str q.2]):=⟨_,rfl⟩
 have hd:=bg hk (by lia) x (s:=f++[L]) (p:=f.length) (by rw[hL];simp);have s2e:(f++[L]++[O.dct ((jo x A).map pd)]).set a (.dct (A.map pd))=S++[L,.dct ((jo x A).map pd)]:=by
  rw[qy,gM _ _ (by lia),m,fI];have:S.set a (.dct (A.map pd))=S:=by
   apply Ba;intro i;by_cases e:a=i
   ·subst e;rw[ZI la,ha]
   ·rw[qb e]
  rw[this];rfl
 have b1:∀ r,zG (Q3 2 (zP 5 (zJ Q2 (zB (qr 1 (QH (zA 2)) (zq 7) (zO cNe (zA 7) (eOp zH (zA 3) (zA 4))) (zr (zB (zA 7) (zB (eOp zH (zA 2) (zA 7)) zC)))) zC)))) r [some t.d,some st,some (.ref a),some (.ref u),some (.int (j:Int)),v5,v6] S=r [some t.d,some st,some (.ref a),some (.ref u),some (.int (j:Int)),some (.ref (S.length+1)),v6] (S++[L,.dct ((jo x A).map pd)]):=λr=>by
  have fa:(f++[L]++[O.dct ((jo x A).map pd)])[a]? = some (.fdc (A.map pd)):=yI (yI a1 _) _;have ln:(f++[L]).length=S.length+1:=by simp[l1]
  rw[zG,Q3];simp only[jP,jg,ha,<- m,zP,zJ,zB,zC,qr,hc,<- hL,alloc,R.bind_ok,hd,R.stm_ok,ZV,Ze,thaw,KY,fa,if_true,s2e,RS.then_nx,ln]
 obtain⟨I,v⟩:∃ I:M.S,I=S++[L,.dct ((jo x A).map pd)]:=⟨_,rfl⟩
 have hB:∀ q∈jo x A,q.2.length <= 900:=λq hq=>hA q (List.mem_filter.mp hq).1;obtain⟨l,g,ew,el⟩:=Ud (S:=I) (st:=st) (a:=S.length+1) (ans:=jo x A) (by rw[v];simp) hB hst H hg;have eA:ev A st n t .non (0,[])=pr.run A []:=C.2 A [] hA;have eB:ev (jo x A) st n t .non (0,[])=pr.run (jo x A) []:=C.2 (jo x A) [] hB;have hux:x∈(pr.run A []).2.2:=by rw[<- eA,hu];exact yZ hx
 obtain⟨k',U,W,h1,h2⟩:=bM (A:=A) (B:=jo x A) (x:=x) (by rw[V6,if_pos rfl]) (λy hy=>by rw[V6,if_neg hy]) (p:=pr) (us:=[]) (by simp) hux;rw[<- eA,hu] at h2;have hU:(zU A).take j=U:=by
  have hx2:(zU A)[U.length]? = some x:=by rw[h2];simp
  have:j=U.length:=by
   have h3:=(List.getElem?_eq_some_iff.mp hx2)
   have h4:=(List.getElem?_eq_some_iff.mp hx)
   exact (D9 hk).mp (h4.2.trans h3.2.symm)
  rw[this,h2];simp
 rw[eB,h1] at ew el;obtain⟨o,G⟩:∃ o:M.S,o=I++g:=⟨_,rfl⟩
 rw[<- G] at ew el;have ew':Qj [t.d,st,.ref (S.length+1)] I=.ok (.tup [zW (jh,x),.ref l]) o:=ew;have J:o[l]? = some (.lst (U.map .str)):=el;have N:=vo hB (us:=[]) C.1;rw[h1] at N;have hx9:x.length <= 900:=by
  rcases N.2 (jh,x) rfl with h | h
  ·exact h.2
  ·have:=h.2.1;exact AN this
 have hUl:U.length <= 1000:=by
  have:U.length <= (zU A).length:=by rw[h2];simp
  unfold zU at this;rw[jH] at this
  lia
 have Q:=av (r:=(jh,x)) (.inr (.inr rfl)) hx9 hUl J;have u3:o[u]? = some (.lst ((zU A).map .str)):=by rw[G,v];exact yI (yI E _) _
 have gx:=ix o u3;have Y:cut ((zU A).map D.str) none (some (j:Int))=U.map .str:=by
  rw[KQ _ (by lia),<- hU,gV];rfl
 obtain⟨S4,w⟩:∃ S4:M.S,S4=o++[.lst (U.map .str)]:=⟨_,rfl⟩
 have hsl:slD (.ref u) none (some (j:Int)) o=.ok (.ref o.length) S4:=by
  rw[w,<- Y];simp[slD,zv,u3]
 have qp:=Lx (s:=o) (jh,x);have ql:=wc (s:=S4) (l:=l) (l':=o.length) (us:=U) (by rw[w];exact yI J _) (by rw[w];simp);refine⟨[L,.dct ((jo x A).map pd)]++g++[.lst (U.map .str)],some (.ref (S.length+1)),some (.tup [zW (jh,x),.ref l]),?_⟩;have hfin:S++([L,.dct ((jo x A).map pd)]++g++[.lst (U.map .str)])=S4:=by rw[w,G,v];simp
 rw[hfin];have i0:∀ s,zH (.tup [zW (jh,x),.ref l]) (.int 0) s=.ok (zW (jh,x)) s:=λ_=>rfl;have i1:∀ s,zH (.tup [zW (jh,x),.ref l]) (.int 1) s=.ok (.ref l) s:=λ_=>rfl;have et:D.tup [.str [97,115,107,115],.str x]=zW (jh,x):=rfl;unfold YE;rw[b1,<- v];simp only[zG,zP,zJ,zB,zC,zA,jP,jg,R.bind_ok,ew',R.stm_ok,ZV,Ze,RS.then_nx,sIf,tOr,qB,qD,Q,ZA,ZW,j9,if_false,zO,eOp,eC,i0,gx,zr,jE,qz,yU,lS,z2,if_true,et,cNe,qp,i1,eSl,yh,qV,hsl,ql,z8]
theorem EI (l:(yT st).length <= 900) (h:n <= 40) (E:jq st n false t) (G:∀ q∈A,q.2.length <= 900) (H:(zU A).Nodup) (o:A.length <= 400) (p:Is pr true 0 λA c=>ev A st n t .non c) (I:(ev A st n t .non (0,[])).2.2=zU A) {S:M.S}{a u:Nat} (ha:S[a]? = some (.dct (A.map pd))) (i:S[u]? = some (.lst ((zU A).map .str))):KP [t.d,st,.ref a,.ref u] S=.ok (.bl true) S:=by
 have J:(zU A).length=A.length:=by unfold zU;simp
 obtain⟨L,U,e,g,v4,v5,v6,r,v⟩:=xh (g:=[]) (f:=qO (zq 4) YE) (λj σ s=>∃ (g:M.S) (v4 v5 v6:Option D),σ=[some t.d,some st,some (.ref a),some (.ref u),v4,v5,v6]/\s=S++g) (ju 0 ((zU A).length:Int)) 0 [some t.d,some st,some (.ref a),some (.ref u),none,none,none] S ⟨[],none,none,none,rfl,by simp⟩ λj d hd σ s ⟨g,v4,v5,v6,r,v⟩=>by
  subst r v;have w:j < (zU A).length:=by have:=(List.getElem?_eq_some_iff.mp hd).1;simpa [ju] using this
  have x:d=.int (j:Int):=by
   unfold ju at hd;rw[qX] at hd;cases y:(j8 (((zU A).length:Int) - 0).toNat)[j]? with
   | none=>rw[y] at hd;cases hd
   | some m =>
    rw[y] at hd;have:=(List.getElem?_eq_some_iff.mp y).2;rw[CV] at this;subst this;simp at hd;exact hd.symm
  subst x;obtain⟨g',z,B,N⟩:=w_step l h E G H o p I (yI ha g) (yI i g) w (v5:=v5) (v6:=v6);exact⟨_,_,N,rfl,g++g',_,z,B,rfl,by rw[qy]⟩
 subst r v;have C:∀ s,zj [] s=true:=λ_=>rfl;have Q:((zU A).length:Int).natAbs < 4611686018427387904:=by lia
 refine yi (g:=g) ?_ rfl;show (vu [some t.d,some st,some (.ref a),some (.ref u),none,none,none] S).out=_;rw[w_eq];simp only[zG,qZ,qi,zJ,zB,zC,zA,jP,jg,R.bind_ok,jf,i,jH,Q,if_true,R.stm_ok,C,e,RS.then_nx,zh,eC,RS.out]
end
def Yi:SM :=
  (zG (zP 1 (jR (zB (eC (.str [111,102])) (zB (eC (.str [105,102])) (zB (eC (.str [105,115])) (zB (eC (.str [116,104,101,110])) (zB (eC (.str [101,108,115,101])) (zB (eC (.str [101,97,99,104])) (zB (eC (.str [100,111])) (zB (eC (.str [105,116])) (zB (eC (.str [98,97,99,107])) (zB (eC (.str [102,105,114,115,116])) (zB (eC (.str [114,101,115,116])) (zB (eC (.str [99,111,117,110,116])) (zB (eC (.str [115,111,114,116,101,100])) zC)))))))))))))))
  (zG (sIf (tOr (zO cIn (zA 0) (eOp zo (zA 1) (jR (zB (eC (.str [102,97,105,108])) (zB (eC (.str [108,105,110,101])) (zB (eC (.str [109,111,114,101])) zC)))))) (qB (JI cLe cLe (eC (.int 1)) (zJ jf (zB (zA 0) zC)) (eC (.int 8)))))
  (zh (eC (.bl false)))
  z8)
  (zh (Qd Qf 1 (iE (zA 0)) (zq 2) jk (ZG cIn (zA 2) (eC (.str [97,98,99,100,101,102,103,104,105,106,107,108,109,110,111,112,113,114,115,116,117,118,119,120,121,122])))))))
def aq:F:=fn 2 Yi
noncomputable def kR:F:=chS aq
theorem fA:jM 1 aq kR:=yj _
theorem AA (c:Nat):∀ x:T,Qg [c] x=x.contains c
 | []=>rfl
 | d::r=>by
  unfold Qg;rw[AA c r,IC];simp[List.isPrefixOf]
theorem xv (a b:Nat):(([a]:List Nat) < [b])↔a < b:=by
 rw[List.cons_lt_cons_iff];simp
theorem Ie (c:Nat):abc.contains c=Zw [c]:=by
 unfold Zw;by_cases i:97 <= c
 ·by_cases j:c <= 122
  ·have:∀ n,n < 26->abc.contains (97+n)=true:=by decide
   have e:=this (c - 97) (by lia);rw[show 97+(c - 97)=c by lia] at e;rw[e];have f:¬ ([c]:T) < [97]:=by intro h;have:=(xv _ _).mp h;lia
   have g:¬ ([122]:T) < [c]:=by intro h;have:=(xv _ _).mp h;lia
   simp[f,g]
  ·have e:abc.contains c=false:=by
    cases q:abc.contains c with
    | false=>rfl
    | true =>
     have:∀ d∈abc,d <= 122:=by decide
     have:=this c (by simpa using q)
     lia
   have g:([122]:T) < [c]:=(xv _ _).mpr (by lia);rw[e];simp[g]
 ·have e:abc.contains c=false:=by
   cases q:abc.contains c with
   | false=>rfl
   | true =>
    have:∀ d∈abc,97 <= d:=by decide
    have:=this c (by simpa using q)
    lia
  have f:([c]:T) < [97]:=(xv _ _).mpr (by lia);rw[e];simp[f]
theorem ux (x:T) (E:x.length <= 1000) (S:M.S):kR [.str x] S=.ok (.bl (qH x)) S:=by
 have j:(13:Nat) <= SZ:=by decide
 have y:(3:Nat) <= SZ:=by decide
 have l:(16:Nat) <= SZ:=by decide
 have m:x.length <= SZ:=by unfold SZ;lia
 have z:∀ (s:M.S) (v:Option D),jz 1 (iE (zA 0)) (zq 2) jk (ZG cIn (zA 2) (eC (.str abc))) [some (.str x),v] s=.ok (x.map λc=>.bl (Zw [c])) s:=λs v =>
  A7 _ (by simp[m]) m λc _=>by
   have:=Ie c;simp only[qu,zq,jk,ZG,zA,eC,cIn,inD];simp;rw[AA,this]
 have e:=λs=>all_map (λc=>Zw [c]) x s;have n:∀ s:M.S,inD (.str x) (.ref s.length) (s++[.lst (jI.map .str)])=.ok (jI.contains x) (s++[.lst (jI.map .str)]):=λs=>by
  simp only[inD,DC];rw[if_pos (by rw[cF];rfl),va]
 have A:∀ r,(zG (zP 1 (jR (zB (eC (.str [111,102])) (zB (eC (.str [105,102])) (zB (eC (.str [105,115])) (zB (eC (.str [116,104,101,110])) (zB (eC (.str [101,108,115,101])) (zB (eC (.str [101,97,99,104])) (zB (eC (.str [100,111])) (zB (eC (.str [105,116])) (zB (eC (.str [98,97,99,107])) (zB (eC (.str [102,105,114,115,116])) (zB (eC (.str [114,101,115,116])) (zB (eC (.str [99,111,117,110,116])) (zB (eC (.str [115,111,114,116,101,100])) zC))))))))))))))) r) [some (.str x),none] S=r [some (.str x),some (.ref S.length)] (S++[.lst ((jI.take 13).map .str)]):=λr=>by
  simp[j,jI]
 have t:eOp zo (zA 1) (jR (zB (eC (.str [102,97,105,108])) (zB (eC (.str [108,105,110,101])) (zB (eC (.str [109,111,114,101])) zC)))) [some (.str x),some (.ref S.length)] (S++[.lst ((jI.take 13).map .str)])=.ok (.ref (S.length+2)) (S++[.lst ((jI.take 13).map .str),.lst ((jI.drop 13).map .str)]++[.lst (jI.map .str)]):=by
  simp[y,l,jI]
 generalize u:S++[O.lst ((jI.take 13).map .str),.lst ((jI.drop 13).map .str)]=i at *;have o:i.length=S.length+2:=by rw[<- u];simp
 rw[<- o] at t;have f:=n i;refine yi (g:=[.lst ((jI.take 13).map .str),.lst ((jI.drop 13).map .str),.lst (jI.map .str)]) ?_ rfl;have B:S++[O.lst ((jI.take 13).map .str),.lst ((jI.drop 13).map .str),.lst (jI.map .str)]=i++[.lst (jI.map .str)]:=by rw[<- u];simp
 rw[B];show (Yi [some (.str x),none] S).out=_;unfold Yi;rw[A];unfold qH;simp only[zG,sIf,tOr,zO,zA,jP,R.bind_ok,t,cIn,f,qB,JI,eC,zJ,zB,zC,jf,m,if_true,cLe];by_cases a:jI.contains x=true
 ·rw[a];simp
 ·have C:jI.contains x=false:=(mN _).mp a;rw[C];by_cases p:1 <= x.length
  ·by_cases w:x.length <= 8
   ·have h:(1:Int) <= (x.length:Int):=by lia
    have q:(x.length:Int) <= 8:=by lia
    have:=z (i++[.lst (jI.map .str)]) (some (.ref S.length));unfold abc at this;simp[h,q,p,w,this,e]
   ·have h:(1:Int) <= (x.length:Int):=by lia
    have q:¬ (x.length:Int) <= 8:=by lia
    simp[h,q,p,w]
  ·have h:¬ (1:Int) <= (x.length:Int):=by lia
   simp[h,p]
def vM:SM :=
  (zG (zP 1 (eM .str um (zA 0) (zB (eC (.str [46])) zC)))
  (zG (sIf (zO cLt (zA 1) (eC (.int 0)))
  (zh (zJ kR (zB (zA 0) zC)))
  z8)
  (zh (Jp (zJ kR (zB (eSl (zA 0) yh (qV (zA 1))) zC)) (zJ kR (zB (eSl (zA 0) (qV (eOp zo (zA 1) (eC (.int 1)))) yh) zC))))))
def Xn:F:=fn 2 vM
noncomputable def kr:F:=chS Xn
theorem Dk:jM 1 Xn kr:=yj _
def kG (x:T):Bool:=match x.findIdx? (· == 46) with
 | none=>qH x
 | some i=>qH (x.take i) && qH (x.drop (i+1))
theorem IL (x:T) (o:x.length <= 900) (S:M.S):kr [.str x] S=.ok (.bl (kG x)) S:=by
 have h:x.length <= SZ:=by unfold SZ;lia
 refine yi (g:=[]) ?_ rfl;rw[qw];unfold kG;cases q:x.findIdx? (· == 46) with
 | none =>
  have c:xb 46 x 0 = -1:=by unfold xb;rw[JU,q]
  have:=ux x (by lia) S;simp[Xn,vM,h,c,this]
 | some i =>
  have c:xb 46 x 0=(i:Int):=by unfold xb;rw[JU,q];simp
  have j:cut x none (some (i:Int))=x.take i:=by rw[KQ _ (by lia)];simp
  have l:cut x (some ((i:Int)+1)) none=x.drop (i+1):=by rw[KD _ (by lia)];congr 1
  have e:=ux (x.take i) (by rw[yz];lia) S;have m:=ux (x.drop (i+1)) (by rw[Qa];lia) S;have n:¬ ((i:Int) < 0):=by lia
  cases f:qH (x.take i) with
  | true =>
   rw[f] at e;simp[Xn,vM,h,c,j,l,e,m,n,f]
  | false =>
   rw[f] at e;simp[Xn,vM,h,c,j,l,e,m,n,f]
theorem YD (c:Nat):∀ x:T,jO c x=match x.findIdx? (· == c) with | none=>[x] | some i=>x.take i::jO c (x.drop (i+1))
 | []=>rfl
 | d::r=>by
  have f:=YD c r;have e:jO c (d::r)=(if d=c then []::jO c r else match jO c r with | []=>[[d]] | p::ps=>(d::p)::ps):=rfl;rw[e,Dr];by_cases h:d=c
  ·subst h;simp
  ·have g:(d == c)=false:=by simpa using h
   rw[if_neg h,g];cases q:r.findIdx? (· == c) with
   | none =>
    rw[q] at f;dsimp only at f;rw[f];simp
   | some i =>
    rw[q] at f;dsimp only at f;rw[f];simp
theorem AO {x:T} (h:46∈x):qH x=false:=by
 unfold qH;have:(x.all λc=>Zw [c])=false:=by
  rw[List.all_eq_false];exact⟨46,h,by decide⟩
 rw[this];simp
theorem uR (x:T):kG x=qk x:=by
 unfold kG qk;have hs:=YD 46 x;cases q:x.findIdx? (· == 46) with
 | none =>
  rw[q] at hs;dsimp only at hs ⊢;rw[hs];simp
 | some i =>
  rw[q] at hs;dsimp only at hs ⊢;have c:=YD 46 (x.drop (i+1));cases f:(x.drop (i+1)).findIdx? (· == 46) with
  | none =>
   rw[f] at c;dsimp only at c;rw[c] at hs;rw[hs];simp
  | some j =>
   rw[f] at c;dsimp only at c;have hm:46∈x.drop (i+1):=by
    obtain⟨g,h,_⟩:=List.findIdx?_eq_some_iff_getElem.mp f;have:=eq_of_beq h;rw[<- this];exact wU _
   rw[AO hm];have g:∀ y:T,1 <= (jO 46 y).length:=λy=>by
    rw[YD];split<;>simp
   have:=g ((x.drop (i+1)).drop (j+1));have e:¬ (jO 46 x).length <= 2:=by
    rw[hs,c];simp only[jE]
    lia
   rw[decide_eq_false e];simp
def Xi:SM :=
  (zP 1 (zJ V7 (zB (zJ Zf (zB (zA 0) (zB (eC (.int 0)) zC))) zC)))
def Ya:SM :=
  (zP 2 (ZG cEq (eOp jU (zJ Zf (zB (zA 0) (zB (eC (.int 1)) zC))) (eC (.int 2))) (eC (.int 0))))
def Vi:SM :=
  (zP 3 (eOp zH (jR (zB (eC .non) (zB (eOp zH (zA 1) (eC (.int 5))) zC))) (zJ u4 (zB (zA 2) zC))))
def Yd:SM :=
  (zP 4 (zJ X8 (zB (zJ K6 (zB (zA 0) (zB (eC (.int 20)) (zB (eC (.int 30)) zC)))) (zB (zA 1) (zB (zA 2) zC)))))
def YW:SM :=
  (zP 5 xP)
def Vk:SM :=
  (zP 6 (jR zC))
def XX:SM :=
  (qZ (qi (eC (.int 12))) (zq 7)
  (zG (zP 8 (zJ X9 (zB (zA 5) zC)))
  (zG (zP 9 (zJ Qj (zB (zA 4) (zB (zA 3) (zB (zA 8) zC)))))
  (zG (sIf (tOr (zO cNe (zA 8) (zA 5)) (tOr (qB (qD (zJ xG (zB (zA 9) zC)))) (zO cNe (eOp zH (zA 9) (eC (.int 1))) (zJ QM (zB (zA 5) zC)))))
  (zh (eC (.bl false)))
  z8)
  (zG (jA (eM .dict K5 (zA 8) zC))
  (zG (zP 6 (eOp zo (zA 6) (jR (zB (zr (zB (eOp zH (zA 9) (eC (.int 1))) (zB (zJ QM (zB (eOp zH (zA 9) (eC (.int 1))) zC)) zC))) zC))))
  (zG (sIf (qB (qD (zJ KP (zB (zA 4) (zB (zA 3) (zB (zA 5) (zB (eOp zH (zA 9) (eC (.int 1))) zC)))))))
  (zh (eC (.bl false)))
  z8)
  (zG (zP 10 (eOp zH (eOp zH (zA 9) (eC (.int 0))) (eC (.int 1))))
  (zG (sIf (yY (zO cEq (eOp zH (eOp zH (zA 9) (eC (.int 0))) (eC (.int 0))) (eC (.str [97,115,107,115]))) (tOr (zO cIn (zA 10) (zA 5)) (qB (qD (zJ kr (zB (zA 10) zC))))))
  (zh (eC (.bl false)))
  z8)
  (zG (zP 11 (zJ X2 (zB (zA 5) (zB (zA 1) zC))))
  (zG (sIf (yY (zO cEq (eOp zH (eOp zH (zA 9) (eC (.int 0))) (eC (.int 0))) (eC (.str [97,115,107,115]))) (zO cIn (zA 10) (zA 11)))
  (KA 12 (Q3 11 (zP 11 (zJ Q2 (zB (qr 1 (QH (zA 11)) (zq 13) (zO cNe (zA 13) (zA 10)) (zr (zB (zA 13) (zB (eOp zH (zA 11) (zA 13)) zC)))) zC)))))
  z8)
  (zG (vD (zA 5) (zq 12)
  (yw (zA 11) (zA 12) (eOp zH (zA 5) (zA 12))))
  (zG (sIf (zO cNe (zJ Qj (zB (zA 4) (zB (zA 3) (zB (zA 11) zC)))) (zA 9))
  (zh (eC (.bl false)))
  z8)
  (zG (sIf (zO cNe (eOp zH (eOp zH (zA 9) (eC (.int 0))) (eC (.int 0))) (eC (.str [97,115,107,115])))
  (zh (zJ kn (zB (zA 6) zC)))
  z8)
  (yw (zA 5) (zA 10) (zJ kE (zB (zJ Zf (zB (zA 0) (zB (eOp zo (eC (.int 2)) (zA 7)) zC))) (zB (zA 1) zC))))))))))))))))))
def vP:SM :=
  (zh (zJ kn (zB (zA 6) zC)))
def WV:SM:=(zG Xi (zG Ya (zG Vi (zG Yd (zG YW (zG Vk (zG XX vP)))))))
def Yf:F:=fn 13 WV
theorem Bp {c:Type} (xs:List c) {lo hi:Int} (f:0 <= lo) (g:0 <= hi):(cut xs (some lo) (some hi)).length <= (hi - lo).toNat:=by
 obtain⟨a,rfl⟩:=Ir f;obtain⟨b,rfl⟩:=Ir g;have e:∀ k d:Nat,sIx xs.length d (some (k:Int))=min k xs.length:=λk d=>by
  unfold sIx;dsimp only;rw[if_neg (Int.not_lt.mpr (Int.natCast_nonneg k))];rcases Nat.le_total k xs.length with h | h
  ·rw[Int.min_eq_left (Int.ofNat_le.mpr h),di h,Yb]
  ·rw[Int.min_eq_right (Int.ofNat_le.mpr h),Nat.min_eq_right h,Yb]
 unfold cut;rw[e,e,yz,<- Int.toNat_sub];exact jr (Nat.min_le_left _ _) (by omega)
theorem ab (c:Int) {k:Nat} (g:k < 8):1 <= (plT c k).length/\(plT c k).length <= 8:=by
 have b:=uK c;have sz:=(BM c).2;unfold plT;split
 ·rw[KQ _ (by lia),yz,b]
  lia
 ·split
  ·have e:=yv (c / 468) (show qI c≠0 by lia);have h:=Za (c / 468) sz.1;have f:=Bp (yg c) (lo:=c / 468 % qI c+1) (hi:=qI c) (by lia) (by lia);rw[KQ _ e,jv,jv,yz,b];simp only[KH]
   lia
  ·have i:=yv (qI c+k) (show (8:Int)≠0 by decide);have j:=Za (qI c+k) (show (0:Int) < 8 by decide);have f:=Bp (yg c) (lo:=(k:Int)) (hi:=(k:Int)+(qI c+k) % 8) (by lia) (by lia);rw[jv];simp only[KH]
   lia
theorem wW (c:Int) {k:Nat} (e:k < 8) (N:List T):∀ j,(qa c k N j).drop 1=(plT c k).drop 1/\(qa c k N j).length=(plT c k).length
 | 0=>⟨rfl,rfl⟩
 | j+1=>by
  obtain⟨f,g⟩:=wW c e N j;have h:=ab c e;rw[vO];unfold xD;split
  ·refine⟨by rw[List.drop_succ_cons,JU];exact f,?_⟩;rw[jE,Qa]
   lia
  ·exact⟨f,g⟩
theorem aG:∀ {P Q:List T},P.Nodup->(∀ t∈P,t∈Q)->P.length <= Q.length
 | [],_,_,_=>by simp
 | t::P,Q,h,k=>by
  rw[Kq] at h;have f:=k t (by simp);have:=aG (P:=P) (Q:=Q.erase t) h.2 λu g=>by
   have c:u≠t:=λe=>h.1 (e ▸ g);exact (gP c).mpr (k u (by simp[g]))
  have i:=IJ f;have:0 < Q.length:=Gw f;rw[jE]
  lia
theorem lG (c:Int) {k:Nat} (q:k < 8) (N:List T) (w:N.length <= 7):¬ (jI.contains (qa c k N 26)=true\/N.contains (qa c k N 26)=true):=by
 intro g;have l:∀ j,(jI.contains (qa c k N (j+1))=true\/N.contains (qa c k N (j+1))=true)->(jI.contains (qa c k N j)=true\/N.contains (qa c k N j)=true):=λj h=>by
  by_cases f:jI.contains (qa c k N j)=true\/N.contains (qa c k N j)=true
  ·exact f
  ·rw[vO] at h;unfold xD at h;rw[if_neg f] at h;exact h
 have all:∀ i,i <= 26->(jI.contains (qa c k N (26 - i))=true\/N.contains (qa c k N (26 - i))=true):=by
  intro i
  induction i with
  | zero=>intro _;exact g
  | succ i r =>
   intro hi;have:=r (by lia);rw[show 26 - i=(26 - (i+1))+1 by lia] at this;exact l _ this
 have m:∀ j,j < 26->qa c k N (j+1)=yJ (c+j)::(plT c k).drop 1:=λj f=>by
  have h:=all (26 - j) (by lia);rw[show 26 - (26 - j)=j by lia] at h;rw[vO];unfold xD;rw[if_pos h,(wW c q N j).1]
 have sub:∀ t∈(j8 26).map (λ(j:Nat)=>yJ (c+j)::(plT c k).drop 1),t∈jI++N:=λt s=>by
  obtain⟨j,f,e⟩:=List.mem_map.mp s;have f:=List.mem_range.mp f;have h:=all (26 - (j+1)) (by lia);rw[show 26 - (26 - (j+1))=j+1 by lia,m j f] at h;rw[<- e,List.mem_append];simpa using h
 have nd:((j8 26).map (λ(j:Nat)=>yJ (c+j)::(plT c k).drop 1)).Nodup:=by
  refine List.Pairwise.map _ (R:=λ(a b:Nat)=>a < 26/\b < 26/\a≠b) (λa b ⟨ha,o,u⟩ e=>?_) ?_
  ·have v:=(dB e).1;unfold yJ at v;have x:=yv (c+a) (show (26:Int)≠0 by decide);have y:=yv (c+b) (show (26:Int)≠0 by decide)
   lia
  ·have:=Av (n:=26);refine MU (λ{a b} ha o h=>⟨List.mem_range.mp ha,List.mem_range.mp o,h⟩) this
 have:=aG nd sub;rw[jH,Yo,jv] at this;have p:jI.length=16:=rfl
 lia
theorem UF {t:T} (f:1 <= t.length) (g:t.length <= 8) (h:¬ jI.contains t=true) (i:QS t):qH t=true:=by
 unfold qH;have e:(t.all λc=>Zw [c])=true:=by
  rw[Ao];intro ch j;have:=i ch j;unfold Zw;have l:¬ ([ch]:T) < [97]:=λz=>by have:=(xv _ _).mp z;lia
  have m:¬ ([122]:T) < [ch]:=λz=>by have:=(xv _ _).mp z;lia
  simp[l,m]
 rw[e,(mN _).mp h];simp[f,g]
theorem Bc (c:Int):∀ k,k <= 8->∀ t∈qx c k,qH t=true
 | 0,_,t,h=>by cases h
 | k+1,f,t,h=>by
  unfold qx at h;rcases List.mem_append.mp h with h | h
  ·exact Bc c k (by lia) t h
  ·rw[List.mem_singleton.mp h];have hw:=wW c (k:=k) (by lia) (qx c k) 26;have g:=ab c (k:=k) (by lia);have e:=lG c (k:=k) (by lia) (qx c k) (by rw[YQ];lia);exact UF (by lia) (by lia) (λz=>e (.inl z)) (Vp c k _ 26).1
theorem AH (h:qH t=true):46∉t:=λhm=>by rw[AO hm] at h;cases h
theorem BU {t:T} (h:46∉t):t.findIdx? (· == 46)=none:=by
 rw[Df];intro d hd;cases c:d == 46 with
 | false=>rfl
 | true=>exact absurd (eq_of_beq c ▸ hd) h
theorem lA (h:qH t=true):qk t=true:=by
 rw[<- uR];unfold kG;rw[BU (AH h)];exact h
theorem cB (h:qH t=true) (k:qH u=true):qk (t++[46]++u)=true:=by
 rw[<- uR];unfold kG;have e:(t++[46]++u).findIdx? (· == 46)=some t.length:=by
  rw[qy,List.findIdx?_append,BU (AH h)];simp[Dr]
 rw[e];dsimp only;have c:(t++[46]++u).take t.length=t:=by simp
 have f:(t++[46]++u).drop (t.length+1)=u:=by
  rw[show t.length+1=(t++[46]).length by simp,List.drop_left]
 rw[c,f,h,k];rfl
theorem bu (c:(zU kvs).Nodup) (s:M.S):∀ l:List (T×T),(∀ p∈l,p∈kvs)->dEq s (kvs.map pd) (l.map pd)=some true
 | [],_=>rfl
 | p::l,h=>by
  have e:=bu c s l λq hq=>h q (je _ hq);have f:=Ux c (h p qJ);have hd:qE (.str p.1) (kvs.map pd)=some (.str p.2):=by rw[Z9,f];rfl
  show dEq s (kvs.map pd) ((.str p.1,.str p.2)::l.map pd)=_;unfold dEq;rw[hd,e];have g:toP 8 s (.str p.2)=some (.str p.2):=rfl;simp[g,P.dep,P.eqv]
theorem FL (f:(zU kvs).Nodup) {s:M.S}{i j:Nat} (hi:s[i]? = some (.dct (kvs.map pd))) (c:s[j]? = some (.dct (kvs.map pd))):eqD (.ref i) (.ref j) s=.ok true s:=by
 have h:∀ k:Nat,s[k]? = some (.dct (kvs.map pd))->toP y0 s (.ref k)=none:=λk e=>by
  show (match zv s k with | some xs=>(qf.all (λj=>toP 8 s (.ref j)) xs).map P.lst | none=>none)=_;have:zv s k=none:=by simp[zv,e]
  rw[this]
 simp only[eqD,h i hi,h j c,kz,hi,c];rw[if_pos trivial,bu f s kvs λ_ h=>h]
mutual
theorem Qw {p q:Tr->Prop} (h:∀ t,p t->q t):∀ t:Tr,t.allL p->t.allL q
 | .join ts,a=>CH h ts a
 | .ife x y z w,a=>⟨Qw h x a.1,Qw h y a.2.1,Qw h z a.2.2.1,Qw h w a.2.2.2⟩
 | .each x y,a=>⟨Qw h x a.1,Qw h y a.2⟩
 | .one w x,a=>Qw h x a
 | .txt x,a=>h _ a
 | .line,a=>h _ a
 | .it,a=>h _ a
 | .stem,a=>h _ a
 | .thing x,a=>h _ a
 | .kin x,a=>h _ a
theorem CH {p q:Tr->Prop} (h:∀ t,p t->q t):∀ ts:List Tr,Tr.allL.ls p ts->Tr.allL.ls q ts
 | [],_=>trivial
 | t::ts,a=>⟨Qw h t a.1,CH h ts a.2⟩
end
theorem fy {c:Bool}{N:List T}{st:D} (e:∀ t∈N,qH t=true) (f:c=true->∃ x,st=.str x/\qH x=true) (t:Tr) (h:Ja c N t):nmL st t:=by
 rcases h with h | rfl
 ·cases t with
  | thing m =>
   rcases h with h | ⟨a,ha,b,g,rfl⟩
   ·exact lA (e _ h)
   ·exact cB (e _ ha) (e _ g)
  | kin m =>
   obtain⟨x,rfl,i⟩:=f h.1;exact cB (e _ h.2) i
  | _=>trivial
 ·trivial
theorem w9 {k x:T} (h:x≠k):∀ kvs:List (T×T),zt (qT k v kvs) x=zt kvs x:=λkvs=>by
 unfold qT;split
 ·unfold zt
  induction kvs with
  | nil=>rfl
  | cons q kvs j =>
   obtain⟨a,b⟩:=q;have c:JD x (kvs.map λp=>if p.1=k then (p.1,v) else p)=JD x kvs:=by
    by_cases i:(kvs.any λp=>decide (p.1=k))=true
    ·exact j i
    ·have:(kvs.map λp=>if p.1=k then (p.1,v) else p)=kvs:=by
      rw[Zv (g:=id),Zb];intro p l;have:¬ p.1=k:=λz=>i (List.any_eq_true.mpr ⟨p,l,by simp[z]⟩);simp[this]
     rw[this]
   by_cases e:a=k
   ·have f:(x == a)=false:=by rw[e];simpa using h
    simp only[jN,e,if_true,yA];rw[e] at f;rw[f,c]
   ·simp only[jN,e,if_false,yA,c]
 ·unfold zt;rw[List.lookup_append];have:(x == k)=false:=by simpa using h
  simp[yA,this]
structure Ex (S s:M.S):Prop where
 le:S.length <= s.length
 eq:∀ q,q < S.length->s[q]? = S[q]?
theorem Ex.get (h:Ex s c) {q:Nat}{o:O} (e:s[q]? = some o):c[q]? = some o:=by
 rw[h.eq q (List.getElem?_eq_some_iff.mp e).1];exact e
theorem Ex.trans {a b:M.S} (h:Ex a b) (k:Ex b c):Ex a c:=⟨jr h.le k.le,λq hq=>by rw[k.eq q (qW hq h.le),h.eq q hq]⟩
theorem Ex.refl (s:M.S):Ex s s:=⟨zg _,λ_ _=>rfl⟩
theorem Ex.app (s g:M.S):Ex s (s++g):=⟨by simp,λq hq=>yc hq⟩
theorem Ex.set (h:Ex s c) {q:Nat} (hq:s.length <= q) (o:O):Ex s (c.set q o):=⟨by rw[yk];exact h.le,λr e=>by rw[qb (by lia)];exact h.eq r e⟩
theorem ye {a:SM}{c:St}{e:M.S} (h:a σ s=.nx c e) (r:SM):(zG a r) σ s=r c e:=by rw[zG,h];rfl
theorem Cr {a:SM}{d:D}{c:M.S} (h:a σ s=.rt d c) (r:SM):(zG a r) σ s=.rt d c:=by rw[zG,h];rfl
theorem cL {f:D->SM} (I:Nat->St->M.S->Prop):∀ (xs:List D) (i:Nat) (σ:St) (s:M.S),I i σ s->(∀ (j:Nat) x,xs[j]? = some x->∀ σ s,I (i+j) σ s->(∃ c,f x σ s=.rt (.bl true) c)\/∃ l c,f x σ s=.nx l c/\zj g c=true/\I (i+j+1) l c)->(∃ c,qK g f xs σ s=.rt (.bl true) c)\/∃ l c,qK g f xs σ s=.nx l c/\I (i+xs.length) l c
 | [],i,σ,s,h,_=>.inr ⟨σ,s,rfl,h⟩
 | x::xs,i,σ,s,h,e=>by
  rcases e 0 x rfl σ s h with ⟨c,m⟩ | ⟨n,o,m,p,q⟩
  ·exact .inl ⟨c,by rw[qK,m]⟩
  ·have:=cL I xs (i+1) n o q λj y r σ s t=>by
    have:=e (j+1) y r σ s (by rw[show i+(j+1)=i+1+j by lia];exact t)
    rwa [show i+(j+1)+1=i+1+j+1 by lia] at this
   rw[qK,m];dsimp only;rw[if_pos p,jE,show i+(xs.length+1)=i+1+xs.length by lia];exact this
section
variable {A:List (T×T)}{st:D}{t:Tr}{n:Nat}{pr:Pr}
theorem bR (l:∀ q∈A,q.2.length <= 900) (f:Is pr true 0 λA c=>ev A st n t .non c) {r:T×T} (g:r=JX (ev A st n t .non (0,[])).1) :
  (r.1=Jj\/r.1=ja\/r.1=jh)/\r.2.length <= 900/\(r.1=jh->qk r.2=true/\zt A r.2=none/\(ev A st n t .non (0,[])).1=.en (jh,r.2)):=by
 have e:ev A st n t .non (0,[])=pr.run A []:=f.2 A [] l;have j:=vo l (us:=[]) f.1;rw[<- e] at j;cases i:(ev A st n t .non (0,[])).1 with
 | tx x =>
  rw[i] at g;subst g;exact⟨.inl rfl,j.1 x i rfl,λz=>absurd (show Jj=jh from z) (by decide)⟩
 | en d =>
  rw[i] at g;have hd:d=r:=g.symm;subst hd;rcases j.2 d i with h | h
  ·exact⟨.inr (.inl h.1),h.2,λz=>absurd (show ja=jh from h.1.symm.trans z) (by decide)⟩
  ·refine⟨.inr (.inr h.1),AN h.2.1,λz=>⟨h.2.1,h.2.2,?_⟩⟩;rw[<- z]
theorem H8 {us:List T}{x:T} (h:x∉us):qm us x=us++[x]:=by
 unfold qm;rw[if_neg (by simpa using h)]
theorem iR (j:∀ q∈A,q.2.length <= 900) (f:Is pr true 0 λA c=>ev A st n t .non c) (I:(zU A).Nodup) (C:(ev A st n t .non (0,[])).2.2=zU A) {v:T} (m:zt A x=none) (hv:v.length <= 900) (E:(ev A st n t .non (0,[])).1=.en (jh,x)) :
  (ev (qT x v A) st n t .non (0,[])).2.2=zU (qT x v A):=by
 have e:ev A st n t .non (0,[])=pr.run A []:=f.2 A [] j;have G:ev (qT x v A) st n t .non (0,[])=pr.run (qT x v A) []:=f.2 _ [] (YT j hv);have g:x∉zU A:=bE.mp m;have i:zU (qT x v A)=zU A++[x]:=by rw[kD,if_neg g]
 obtain⟨c,o⟩:∃ c,pr.run A []=(.en (jh,x),c):=⟨(pr.run A []).2,by rw[<- e];exact Prod.ext E rfl⟩
 have l:c.2=zU A:=by rw[<- C,e,o]
 obtain⟨W,r⟩:=cb m (B:=qT x v A) (by rw[dg];rfl) (λy H=>w9 H A) f.1 j o;rw[l,H8 g] at r;obtain⟨s,u⟩:=Yy (A:=qT x v A) (p:=pr) (us:=[]) xw;rw[G,i];rw[r] at s u ⊢;cases W with
 | nil=>simp
 | cons w W =>
  rcases u w (by simp) with h | h
  ·cases h
  ·have z:=Ys.mp h;rw[i] at z;exact absurd rfl ((List.nodup_append.mp s).2.2 w z w (by simp))
theorem FH (i:∀ q∈A,q.2.length <= 900) (f:Is pr true 0 λA c=>ev A st n t .non c) (g:(ev A st n t .non (0,[])).2.2=zU A) {W:List (T×T)} (j:∀ q∈W,q.2.length <= 900) (l:∀ x∈zU A,zt W x=zt A x) (h:∀ x,(ev A st n t .non (0,[])).1=.en (jh,x)->zt W x=none) :
  ev W st n t .non (0,[])=ev A st n t .non (0,[]):=by
 have e:ev A st n t .non (0,[])=pr.run A []:=f.2 A [] i;have m:ev W st n t .non (0,[])=pr.run W []:=f.2 W [] j;rw[e] at g h;rw[e,m];exact CF (λx o=>l x (by rw[<- g];exact o)) h
end
abbrev y1:SM:=zP 8 (zJ X9 (zB (zA 5) zC))
abbrev y2:SM:=zP 9 (zJ Qj (zB (zA 4) (zB (zA 3) (zB (zA 8) zC))))
abbrev y3:SM:=sIf (tOr (zO cNe (zA 8) (zA 5)) (tOr (qB (qD (zJ xG (zB (zA 9) zC)))) (zO cNe (eOp zH (zA 9) (eC (.int 1))) (zJ QM (zB (zA 5) zC)))))
  (zh (eC (.bl false)))
  z8
abbrev y4:SM:=jA (eM .dict K5 (zA 8) zC)
abbrev y5:SM:=zP 6 (eOp zo (zA 6) (jR (zB (zr (zB (eOp zH (zA 9) (eC (.int 1))) (zB (zJ QM (zB (eOp zH (zA 9) (eC (.int 1))) zC)) zC))) zC)))
abbrev y6:SM:=sIf (qB (qD (zJ KP (zB (zA 4) (zB (zA 3) (zB (zA 5) (zB (eOp zH (zA 9) (eC (.int 1))) zC)))))))
  (zh (eC (.bl false)))
  z8
abbrev y7:SM:=zP 10 (eOp zH (eOp zH (zA 9) (eC (.int 0))) (eC (.int 1)))
abbrev y8:SM:=sIf (yY (zO cEq (eOp zH (eOp zH (zA 9) (eC (.int 0))) (eC (.int 0))) (eC (.str [97,115,107,115]))) (tOr (zO cIn (zA 10) (zA 5)) (qB (qD (zJ kr (zB (zA 10) zC))))))
  (zh (eC (.bl false)))
  z8
abbrev y9:SM:=zP 11 (zJ X2 (zB (zA 5) (zB (zA 1) zC)))
abbrev y10:SM:=sIf (yY (zO cEq (eOp zH (eOp zH (zA 9) (eC (.int 0))) (eC (.int 0))) (eC (.str [97,115,107,115]))) (zO cIn (zA 10) (zA 11)))
  (KA 12 (Q3 11 (zP 11 (zJ Q2 (zB (qr 1 (QH (zA 11)) (zq 13) (zO cNe (zA 13) (zA 10)) (zr (zB (zA 13) (zB (eOp zH (zA 11) (zA 13)) zC)))) zC)))))
  z8
abbrev uv:SM:=yw (zA 11) (zA 12) (eOp zH (zA 5) (zA 12))
abbrev y11:SM:=vD (zA 5) (zq 12) uv
abbrev y12:SM:=sIf (zO cNe (zJ Qj (zB (zA 4) (zB (zA 3) (zB (zA 11) zC)))) (zA 9))
  (zh (eC (.bl false)))
  z8
abbrev y13:SM:=sIf (zO cNe (eOp zH (eOp zH (zA 9) (eC (.int 0))) (eC (.int 0))) (eC (.str [97,115,107,115])))
  (zh (zJ kn (zB (zA 6) zC)))
  z8
abbrev y14:SM:=yw (zA 5) (zA 10) (zJ kE (zB (zJ Zf (zB (zA 0) (zB (eOp zo (eC (.int 2)) (zA 7)) zC))) (zB (zA 1) zC)))
theorem fx:XX=qZ (qi (eC (.int 12))) (zq 7) (zG y1 (zG y2 (zG y3 (zG y4 (zG y5 (zG y6 (zG y7 (zG y8 (zG y9 (zG y10 (zG y11 (zG y12 (zG y13 y14))))))))))))):=rfl
noncomputable abbrev hpD (q:(Nat×Nat)×List T):D:=.tup [.ref q.1.1,.ref q.1.2]
structure KI (N:List T) (a h:Nat) (A:List (T×T)) (hs:List ((Nat×Nat)×List T)) (s:M.S):Prop where
 n0:s[0]? = some (.lst (N.map .str))
 an:s[a]? = some (.dct (A.map pd))
 hd:s[h]? = some (.lst (hs.map hpD))
 hq:∀ q∈hs,s[q.1.1]? = some (.lst (q.2.map .str))/\s[q.1.2]? = some (.lst (q.2.map .str))
theorem KI.mono {a:Nat} (k:KI N a h A hs s) (e:Ex s c):KI N a h A hs c :=
 ⟨e.get k.n0,e.get k.an,e.get k.hd,λq hq=>⟨e.get (k.hq q hq).1,e.get (k.hq q hq).2⟩⟩
section
variable {A:List (T×T)}{st:D}{t:Tr}{n:Nat}{pr:Pr}{N:List T}
theorem G4 (C:(yT st).length <= 900) (p:n <= 40) (hg:jq st n false t) (hA:∀ q∈A,q.2.length <= 900) (hk:(zU A).Nodup) (E:A.length <= 400) (G:Is pr true 0 λA c=>ev A st n t .non c) (hu:(ev A st n t .non (0,[])).2.2=zU A) {a:Nat} (U:KI N a h A hs s) (hh:hs.length <= 400) {r:T×T} (hr:r=JX (ev A st n t .non (0,[])).1) {v0 v2 v7 v8 v9 v10 v11 v12:Option D} :
  ∃ (v8':Option D) (l l2 h':Nat) (Y:M.S),(∀ kk:SM,zG y1 (zG y2 (zG y3 (zG y4 (zG y5 (zG y6 (zG y7 (zG y8 kk))))))) [v0,some (.ref 0),v2,some st,some t.d,some (.ref a),some (.ref h),v7,v8,v9,v10,v11,v12] s=kk [v0,some (.ref 0),v2,some st,some t.d,some (.ref a),some (.ref h'),v7,v8',some (.tup [zW r,.ref l]),some (.str r.2),v11,v12] Y) /\
   Ex s Y/\KI N a h' A (hs++[((l,l2),zU A)]) Y/\Y[l]? = some (.lst ((zU A).map .str)):=by
 obtain⟨o1,o2,o3⟩:=bR hA G hr;have z1:(1:Nat) <= SZ:=by decide
 have z2:(2:Nat) <= SZ:=by decide
 have kl:(zU A).length <= 400:=by unfold zU;rw[jH];exact E
 obtain⟨j,v⟩:∃ j:M.S,j=s++[.dct (A.map pd)]:=⟨_,rfl⟩
 have x1:Ex s j:=by rw[v];exact Ex.app _ _
 have g1:j[s.length]? = some (.dct (A.map pd)):=by rw[v];simp
 obtain⟨l,g,ew,w⟩:=Ud (S:=j) (st:=st) (a:=s.length) (ans:=A) g1 hA C p hg;rw[<- hr] at ew;rw[hu] at w;obtain⟨u,H⟩:∃ u:M.S,u=j++g:=⟨_,rfl⟩
 rw[<- H] at ew w;have I:Ex j u:=by rw[H];exact Ex.app _ _
 obtain⟨m,x⟩:∃ m:M.S,m=u++[.lst ((zU A).map .str)]:=⟨_,rfl⟩
 have x3:Ex u m:=by rw[x];exact Ex.app _ _
 have g3:m[s.length]? = some (.dct (A.map pd)):=x3.get (I.get g1);obtain⟨e,y⟩:∃ e:M.S,e=m.set s.length (.dct []):=⟨_,rfl⟩
 have x4:Ex s e:=by rw[y];exact (x1.trans (I.trans x3)).set (zg _) _
 have ll:l≠s.length:=λz=>by rw[z,I.get g1] at w;cases w
 have J:e[l]? = some (.lst ((zU A).map .str)):=by rw[y,qb (yK ll)];exact x3.get w
 obtain⟨i,o⟩:∃ i:M.S,i=e++[.lst ((zU A).map .str),.lst [hpD ((l,e.length),zU A)],.lst ((hs++[((l,e.length),zU A)]).map hpD)]:=⟨_,rfl⟩
 have x5:Ex e i:=by rw[o];exact Ex.app _ _
 have L:=U.mono (x4.trans x5);have B:=x5.get J;have c5:i[e.length]? = some (.lst ((zU A).map .str)):=by rw[o];simp
 have h5:i[e.length+2]? = some (.lst ((hs++[((l,e.length),zU A)]).map hpD)):=by rw[o];simp
 have hw:=EI C p hg hA hk E G hu L.an B;refine⟨some (.ref s.length),l,e.length,e.length+2,i,λkk=>?_,x4.trans x5,⟨L.n0,L.an,h5,λq hq=>?_⟩,B⟩
 ·obtain⟨σ,f⟩:∃ σ:Nat->Option D->Option D->Option D->St,σ=λh v8 v9 v10=>[v0,some (.ref 0),v2,some st,some t.d,some (.ref a),some (.ref h),v7,v8,v9,v10,v11,v12]:=⟨_,rfl⟩
  have i0:∀ s,zH (.tup [zW r,.ref l]) (.int 0) s=.ok (zW r) s:=λ_=>rfl;have i1:∀ s,zH (.tup [zW r,.ref l]) (.int 1) s=.ok (.ref l) s:=λ_=>rfl;have j0:∀ s,zH (zW r) (.int 0) s=.ok (.str r.1) s:=λ_=>rfl;have j1:∀ s,zH (zW r) (.int 1) s=.ok (.str r.2) s:=λ_=>rfl;have b1:y1 (σ h v8 v9 v10) s=.nx (σ h (some (.ref s.length)) v9 v10) j:=by
   simp only[y1,f,zP,zJ,zB,zC,zA,jP,jg,R.bind_ok,X9,U.an,alloc,R.stm_ok,ZV,Ze,v]
  have b2:y2 (σ h (some (.ref s.length)) v9 v10) j=.nx (σ h (some (.ref s.length)) (some (.tup [zW r,.ref l])) v10) u:=by
   simp only[y2,f,zP,zJ,zB,zC,zA,jP,jg,R.bind_ok,ew,R.stm_ok,ZV,Ze]
  have Q:=(x1.trans I).get U.an;have q1:=FL hk (I.get g1) Q;have q2:=av o1 o2 (by lia) w;have q3:eqD (.ref l) (.ref u.length) m=.ok true m:=wc (x3.get w) (by rw[x];simp);have b3:y3 (σ h (some (.ref s.length)) (some (.tup [zW r,.ref l])) v10) u=.nx (σ h (some (.ref s.length)) (some (.tup [zW r,.ref l])) v10) m:=by
   have hkk:(A.map pd).map (·.1)=(zU A).map .str:=by unfold zU;rw[yo,yo];rfl
   simp only[y3,f,sIf,tOr,zO,qB,qD,zJ,zB,zC,zA,eOp,eC,jP,jg,R.bind_ok,cNe,q1,ZW,j9,if_false,q2,ZA,i1,QM,Q,hkk,alloc,<- x,q3,R.stm_ok,z8]
  have b4:y4 (σ h (some (.ref s.length)) (some (.tup [zW r,.ref l])) v10) m=.nx (σ h (some (.ref s.length)) (some (.tup [zW r,.ref l])) v10) e:=by
   simp only[y4,f,jA,eM,zA,jP,jg,R.bind_ok,ZK,g3,if_true,zC,K5,R.stm_ok,y]
  have hh4:=x4.get U.hd;have b5:y5 (σ h (some (.ref s.length)) (some (.tup [zW r,.ref l])) v10) e=.nx (σ (e.length+2) (some (.ref s.length)) (some (.tup [zW r,.ref l])) v10) i:=by
   have e1:(e++[O.lst ((zU A).map .str)]++[O.lst [hpD ((l,e.length),zU A)]])[h]? = some (.lst (hs.map hpD)):=yI (yI hh4 _) _;have e2:(e++[O.lst ((zU A).map .str)]++[O.lst [hpD ((l,e.length),zU A)]])[e.length+1]? = some (.lst [hpD ((l,e.length),zU A)]):=by simp
   have e3:(hs.map hpD).length+1 <= SZ:=by rw[jH];unfold SZ;lia
   have e4:D.tup [.ref l,.ref e.length]=hpD ((l,e.length),zU A):=rfl;have e5:(e++[O.lst ((zU A).map .str)]).length=e.length+1:=by simp
   have e6:(e++[O.lst ((zU A).map .str)]++[O.lst [hpD ((l,e.length),zU A)]]).length=e.length+2:=by simp
   have e7:e++[O.lst ((zU A).map .str)]++[O.lst [hpD ((l,e.length),zU A)]]++[O.lst (hs.map hpD++[hpD ((l,e.length),zU A)])]=i:=by rw[o];simp
   simp only[y5,f,zP,eOp,zA,jP,jg,R.bind_ok,jR,zB,zr,eC,i1,zJ,zC,QM,J,alloc,jE,qz,yU,lS,z2,if_true,e4,z1,e5,zo,e1,e2];rw[if_pos e3];simp only[R.stm_ok,f,e6,e7,ZV,Ze]
  have b6:y6 (σ (e.length+2) (some (.ref s.length)) (some (.tup [zW r,.ref l])) v10) i=.nx (σ (e.length+2) (some (.ref s.length)) (some (.tup [zW r,.ref l])) v10) i:=by
   simp only[y6,f,sIf,qB,qD,zJ,zB,zC,zA,eOp,eC,jP,jg,R.bind_ok,i1,hw,ZA,ZW,R.stm_ok,j9,if_false,z8]
  have b7:y7 (σ (e.length+2) (some (.ref s.length)) (some (.tup [zW r,.ref l])) v10) i=.nx (σ (e.length+2) (some (.ref s.length)) (some (.tup [zW r,.ref l])) (some (.str r.2))) i:=by
   simp only[y7,f,zP,zA,eOp,eC,jP,jg,R.bind_ok,i0,j1,R.stm_ok,ZV,Ze]
  have b8:y8 (σ (e.length+2) (some (.ref s.length)) (some (.tup [zW r,.ref l])) (some (.str r.2))) i=.nx (σ (e.length+2) (some (.ref s.length)) (some (.tup [zW r,.ref l])) (some (.str r.2))) i:=by
   by_cases hq:r.1=jh
   ·obtain⟨n1,n2,_⟩:=o3 hq;have m1:eqD (.str r.1) (.str [97,115,107,115]) i=.ok true i:=by rw[hq];simp
    have m2:qE (.str r.2) (A.map pd)=none:=by rw[Z9,n2];rfl
    have m3:kr [.str r.2] i=.ok (.bl true) i:=by rw[IL _ o2,uR,n1]
    simp only[y8,f,sIf,yY,tOr,zO,qB,qD,zJ,zB,zC,zA,eOp,eC,jP,jg,R.bind_ok,i0,j0,cEq,m1,if_true,cIn,inD,L.an,qU,m2,Ay,j9,if_false,m3,ZA,ZW,R.stm_ok,z8]
   ·have m1:eqD (.str r.1) (.str [97,115,107,115]) i=.ok false i:=by
     have:¬ r.1=[97,115,107,115]:=hq;simp[this]
    simp only[y8,f,sIf,yY,zO,zA,eOp,eC,jP,jg,R.bind_ok,i0,j0,cEq,m1,j9,if_false,R.stm_ok,z8]
  subst f;rw[ye b1,ye b2,ye b3,ye b4,ye b5,ye b6,ye b7,ye b8]
 ·rcases List.mem_append.mp hq with hq | hq
  ·exact L.hq q hq
  ·rw[List.mem_singleton.mp hq];exact⟨B,c5⟩
end
section
variable {A:List (T×T)}{st:D}{t:Tr}{n:Nat}{pr:Pr}{N:List T}
theorem FA (U:(zU B).Nodup) (h:∀ q∈B,q.2.length <= 900) (j:B.length <= 16) {s:M.S}{w l:Nat} (m:s[w]? = some (.dct (B.map pd))) (r:T×T) {v0 v1 v2 v3 v4 v5 v6 v7 v8 v12:Option D} :
  ∃ (x:Nat) (W:List (T×T)) (o:Option D) (y:M.S),y10 [v0,v1,v2,v3,v4,v5,v6,v7,v8,some (.tup [zW r,.ref l]),some (.str r.2),some (.ref w),v12] s=.nx [v0,v1,v2,v3,v4,v5,v6,v7,v8,some (.tup [zW r,.ref l]),some (.str r.2),some (.ref x),o] y /\
   Ex s y/\w <= x/\y[x]? = some (.dct (W.map pd))/\(∀ q∈W,q.2.length <= 900)/\W.length <= 16/\(r.1=jh->zt W r.2=none):=by
 have C:∀ s,zH (.tup [zW r,.ref l]) (.int 0) s=.ok (zW r) s:=λ_=>rfl;have E:∀ s,zH (zW r) (.int 0) s=.ok (.str r.1) s:=λ_=>rfl;have z2:(2:Nat) <= SZ:=by decide
 have Y:w < s.length:=(List.getElem?_eq_some_iff.mp m).1;by_cases hq:r.1=jh
 ·have u:∀ s,eqD (.str r.1) (.str [97,115,107,115]) s=.ok true s:=λs=>by rw[hq];simp
  by_cases G:zt B r.2=none
  ·have H:qE (.str r.2) (B.map pd)=none:=by rw[Z9,G];rfl
   refine⟨w,B,v12,s,?_,Ex.refl _,zg _,m,h,j,λ_=>G⟩;simp only[y10,sIf,yY,zO,zA,eOp,eC,jP,jg,R.bind_ok,C,E,cEq,u,if_true,cIn,inD,m,qU,H,Ay,j9,if_false,R.stm_ok,z8]
  ·obtain⟨v,hv⟩:=Option.ne_none_iff_exists'.mp G;have H:qE (.str r.2) (B.map pd)=some (.str v):=by rw[Z9,hv];rfl
   obtain⟨c,f⟩:∃ c:M.S,c=s.set w (.fdc (B.map pd)):=⟨_,rfl⟩
   have I:c[w]? = some (.fdc (B.map pd)):=by rw[f,ZI Y]
   have l1:c.length=s.length:=by rw[f];simp
   obtain⟨L,hL⟩:∃ L:O,L=.lst ((jo r.2 B).map λq=>.tup [.str q.1,.str q.2]):=⟨_,rfl⟩
   have hc:jz 1 (QH (zA 11)) (zq 13) (zO cNe (zA 13) (zA 10)) (zr (zB (zA 13) (zB (eOp zH (zA 11) (zA 13)) zC))) [v0,v1,v2,v3,v4,v5,v6,v7,v8,some (.tup [zW r,.ref l]),some (.str r.2),some (.ref w),none] c=.ok ((jo r.2 B).map λq=>.tup [.str q.1,.str q.2]) c:=by
    refine Ue (as:=B) (λq=>.str q.1) (λq=>.tup [.str q.1,.str q.2]) (λq=>decide (q.1≠r.2)) (g:=[]) ?_ (by unfold SZ;lia) rfl λq hq=>?_
    ·simp only[QH,zA,jP,jg,R.bind_ok,I,bO]
    ·have J:qE (.str q.1) (B.map pd)=some (.str q.2):=by rw[Z9,Ux U hq];rfl
     have ga:zH (.ref w) (.str q.1) c=.ok (.str q.2) c:=by simp[I,qU,J]
     by_cases e:q.1=r.2
     ·simp[-zH,e]
     ·simp[-zH,e,ga,z2]
   have hd:=bg U (by lia) r.2 (s:=c++[L]) (p:=c.length) (by rw[hL];simp);have fa:(c++[L]++[O.dct ((jo r.2 B).map pd)])[w]? = some (.fdc (B.map pd)):=yI (yI I _) _;have ln:(c++[L]).length=s.length+1:=by simp[l1]
   have Q:(c++[L]++[O.dct ((jo r.2 B).map pd)]).set w (.dct (B.map pd))=s++[L,.dct ((jo r.2 B).map pd)]:=by
    rw[qy,gM _ _ (by lia),f,fI];have:s.set w (.dct (B.map pd))=s:=by
     apply Ba;intro i;by_cases e:w=i
     ·subst e;rw[ZI Y,m]
     ·rw[qb e]
    rw[this];rfl
   refine⟨s.length+1,jo r.2 B,none,s++[L,.dct ((jo r.2 B).map pd)],?_,Ex.app _ _,by lia,by simp,λq hq=>h q (List.mem_filter.mp hq).1,jr (dZ _ _) j,λ_=>by rw[V6,if_pos rfl]⟩;simp only[y10,sIf,yY,zO,zA,eOp,eC,jP,jg,R.bind_ok,C,E,cEq,u,if_true,cIn,inD,m,qU,H,Du,R.stm_ok,KA,Q3,ZV,Ze,<- f,zP,zJ,zB,zC,qr,hc,<- hL,alloc,hd,thaw,KY,fa,Q,wB,ln]
 ·have u:∀ s,eqD (.str r.1) (.str [97,115,107,115]) s=.ok false s:=λs=>by
   have:¬ r.1=[97,115,107,115]:=hq;simp[this]
  refine⟨w,B,v12,s,?_,Ex.refl _,zg _,m,h,j,λz=>absurd z hq⟩;simp only[y10,sIf,yY,zO,zA,eOp,eC,jP,jg,R.bind_ok,C,E,cEq,u,j9,if_false,R.stm_ok,z8]
theorem DP (hA:∀ q∈A,q.2.length <= 900) (hk:(zU A).Nodup) (hlA:A.length <= 400) {l:List (T×T)} (L:∀ q∈l,q.2.length <= 900) (Q:l.length <= 16) {a w:Nat} (xs:Ex p s) (ha:p[a]? = some (.dct (A.map pd))) (lw:p.length <= w) (gw:s[w]? = some (.dct (l.map pd))) {v0 v1 v2 v3 v4 v6 v7 v8 v9 v10 v12:Option D} :
  ∃ (W:List (T×T)) (i:Option D) (r:M.S),y11 [v0,v1,v2,v3,v4,some (.ref a),v6,v7,v8,v9,v10,some (.ref w),v12] s=.nx [v0,v1,v2,v3,v4,some (.ref a),v6,v7,v8,v9,v10,some (.ref w),i] r /\
   Ex p r/\r[w]? = some (.dct (W.map pd))/\(∀ q∈W,q.2.length <= 900)/\(∀ x∈zU A,zt W x=zt A x)/\∀ x,x∉zU A->zt W x=zt l x:=by
 have la:a < p.length:=(List.getElem?_eq_some_iff.mp ha).1;have u:a < s.length:=qW la xs.le;have aw:a≠w:=by lia
 obtain⟨m,c⟩:∃ m:M.S,m=s.set a (.fdc (A.map pd)):=⟨_,rfl⟩
 have a1:m[a]? = some (.fdc (A.map pd)):=by rw[c,ZI u]
 have w1:m[w]? = some (.dct (l.map pd)):=by rw[c,qb aw];exact gw
 have kl:(zU A).length=A.length:=by unfold zU;rw[jH]
 obtain⟨σ',r,e5,W,i,o,G,H,I,U,Y,f6,B,f8⟩:=xh (g:=[]) (f:=qO (zq 12) uv)
  (λj σ s=>∃ (W:List (T×T)) (v12:Option D),σ=[v0,v1,v2,v3,v4,some (.ref a),v6,v7,v8,v9,v10,some (.ref w),v12]/\s[a]? = some (.fdc (A.map pd))/\s[w]? = some (.dct (W.map pd))/\m.length=s.length/\(∀ q,q < p.length->s[q]? = m[q]?)/\(∀ q∈W,q.2.length <= 900)/\W.length <= 16+j/\(∀ x∈(zU A).take j,zt W x=zt A x)/\∀ x,x∉zU A->zt W x=zt l x)
  ((zU A).map .str) 0 [v0,v1,v2,v3,v4,some (.ref a),v6,v7,v8,v9,v10,some (.ref w),v12] m ⟨l,v12,rfl,a1,w1,rfl,λ_ _=>rfl,L,Q,(λx J=>by simp at J),λ_ _=>rfl⟩ λj d hd σ s ⟨W,v12,o,G,H,I,U,Y,f6,B,f8⟩=>by
   have hj:=(List.getElem?_eq_some_iff.mp hd).1;rw[jH,kl] at hj;rw[qX] at hd;obtain⟨x,J,rfl⟩:=Option.map_eq_some_iff.mp hd;have C:x∈zU A:=yZ J;obtain⟨v,hv⟩:=Option.isSome_iff_exists.mp (Ys.mpr C);have hv9:=hA _ (VZ hv);subst o;rw[yU] at f6 B ⊢;have lws:w < s.length:=(List.getElem?_eq_some_iff.mp H).1;have zw:(W.map pd).length < SZ:=by rw[jH];unfold SZ;lia
   have m2:qE (.str x) (A.map pd)=some (.str v):=by rw[Z9,hv];rfl
   refine⟨[v0,v1,v2,v3,v4,some (.ref a),v6,v7,v8,v9,v10,some (.ref w),some (.str x)],s.set w (.dct ((qT x v W).map pd)),?_,rfl,qT x v W,some (.str x),rfl,?_,?_,by rw[yk];exact I,λq hq=>?_,YT Y hv9,?_,λy E=>?_,λy E=>?_⟩
   ·simp only[qO,zq,ZV,Ze,uv,yw,eOp,zA,jP,jg,R.bind_ok,zH,G,qU,if_true,m2,R.stm_ok,ZT,H,zw,decide_true,W3,wm]
   ·rw[qb (by lia)];exact G
   ·rw[ZI lws]
   ·rw[qb (by lia)];exact U q hq
   ·have:=uL (k:=x) (v:=v) (kvs:=W);lia
   ·by_cases e:y=x
    ·rw[e,dg,hv]
    ·rw[w9 e];refine B y ?_;rw[uj,J] at E;rcases List.mem_append.mp E with h | h
     ·exact h
     ·exact absurd (by simpa using h) e
   ·rw[w9 (λz=>E (by rw[z];exact C))];exact f8 y E
 subst o;rw[jH,yU,WL] at B;refine⟨W,i,r.set a (.dct (A.map pd)),?_,⟨?_,λq hq=>?_⟩,by rw[qb aw];exact H,Y,B,f8⟩
 ·have hkk:(A.map pd).map (·.1)=(zU A).map .str:=by unfold zU;rw[yo,yo];rfl
  simp only[y11,vD,zA,jP,jg,R.bind_ok,R.stm_ok,xs.get ha,<- c,hkk,e5,thaw,KY,G,if_true]
 ·rw[yk,<- I,c,yk];exact xs.le
 ·by_cases e:a=q
  ·rw[<- e,ZI (by rw[<- I,c,yk];exact u),ha]
  ·rw[qb e,U q hq,c,qb e];exact xs.eq q hq
end
section
variable {A:List (T×T)}{st:D}{t:Tr}{n:Nat}{pr:Pr}{N:List T}
theorem FC (hN:N.length=8) (Q:∀ t∈N,t.length <= 17) (U:(yT st).length <= 900) (C:n <= 40) (hg:jq st n false t) (I:∀ q∈A,q.2.length <= 900) (hk:(zU A).Nodup) (hlA:A.length <= 100) (y:Is pr true 0 λA c=>ev A st n t .non c) (hu:(ev A st n t .non (0,[])).2.2=zU A) {a:Nat} (ki:KI N a h A hs s) (hh:hs.length <= 100) {ns:List Int}{j:Nat}{v2 v8 v9 v10 v11 v12:Option D} :
  let RR:=(zG y1 (zG y2 (zG y3 (zG y4 (zG y5 (zG y6 (zG y7 (zG y8 (zG y9 (zG y10 (zG y11 (zG y12 (zG y13 y14))))))))))))) [some (.ro (ns.map .int)),some (.ref 0),v2,some st,some t.d,some (.ref a),some (.ref h),some (.int (j:Int)),v8,v9,v10,v11,v12] s
  (∃ s',RR=.rt (.bl true) s')\/∃ (h':Nat) (J:List (T×T)) (Y:List ((Nat×Nat)×List T)) (f v9' v10' v11' m:Option D) (s':M.S),RR=.nx [some (.ro (ns.map .int)),some (.ref 0),v2,some st,some t.d,some (.ref a),some (.ref h'),some (.int (j:Int)),f,v9',v10',v11',m] s' /\
   KI N a h' J Y s'/\Y.length <= hs.length+1/\(∀ q∈J,q.2.length <= 900)/\(zU J).Nodup/\J.length <= A.length+1/\(ev J st n t .non (0,[])).2.2=zU J:=by
 intro RR;obtain⟨r,hr⟩:∃ r,r=JX (ev A st n t .non (0,[])).1:=⟨_,rfl⟩
 obtain⟨o1,o2,o3⟩:=bR I y hr;obtain⟨f,l,l2,h',L,e1,x1,k1,el⟩:=G4 U C hg I hk (by lia) y hu ki (by lia) hr (v0:=some (.ro (ns.map .int))) (v2:=v2) (v7:=some (.int (j:Int))) (v8:=v8) (v9:=v9) (v10:=v10) (v11:=v11) (v12:=v12);obtain⟨B,e2,b1,b2,b3⟩:=fD hN Q k1.an k1.n0;obtain⟨s2,E⟩:∃ s2:M.S,s2=L++[.dct (B.map pd)]:=⟨_,rfl⟩
 have x2:Ex L s2:=by rw[E];exact Ex.app _ _
 have g2:s2[L.length]? = some (.dct (B.map pd)):=by rw[E];simp
 obtain⟨w,W0,m,s3,e3,x3,lw,g3,w1,w2,w3⟩:=FA b1 b2 b3 g2 r (l:=l) (v0:=some (.ro (ns.map .int))) (v1:=some (.ref 0)) (v2:=v2) (v3:=some st) (v4:=some t.d) (v5:=some (.ref a)) (v6:=some (.ref h')) (v7:=some (.int (j:Int))) (v8:=f) (v12:=v12);obtain⟨W,o,s4,e4,x4,g4,u1,u2,u3⟩:=DP I hk (by lia) w1 w2 (x2.trans x3) k1.an lw g3 (v0:=some (.ro (ns.map .int))) (v1:=some (.ref 0)) (v2:=v2) (v3:=some st) (v4:=some t.d) (v6:=some (.ref h')) (v7:=some (.int (j:Int))) (v8:=f) (v9:=some (.tup [zW r,.ref l])) (v10:=some (.str r.2)) (v12:=m);have es:=FH I y hu u1 u2 λx hx=>by
  have hr2:r=(jh,x):=by rw[hr,hx];rfl
  have ha:r.1=jh:=by rw[hr2]
  have hx2:r.2=x:=by rw[hr2]
  have:=o3 ha;rw[hx2] at this;rw[u3 x (bE.mp this.2.1),<- hx2];exact w3 ha
 obtain⟨l',g,ew,G⟩:=Ud (S:=s4) (st:=st) (a:=w) (ans:=W) g4 u1 U C hg;rw[es,<- hr] at ew;rw[es,hu] at G;obtain⟨i,hs5⟩:∃ i:M.S,i=s4++g:=⟨_,rfl⟩
 rw[<- hs5] at ew G;have x5:Ex L i:=x4.trans (by rw[hs5];exact Ex.app _ _);have p:=k1.mono x5;have qe:=ej r G (x5.get el);have i0:∀ s,zH (.tup [zW r,.ref l]) (.int 0) s=.ok (zW r) s:=λ_=>rfl;have j0:∀ s,zH (zW r) (.int 0) s=.ok (.str r.1) s:=λ_=>rfl;have b9:y9 [some (.ro (ns.map .int)),some (.ref 0),v2,some st,some t.d,some (.ref a),some (.ref h'),some (.int (j:Int)),f,some (.tup [zW r,.ref l]),some (.str r.2),v11,v12] L=.nx [some (.ro (ns.map .int)),some (.ref 0),v2,some st,some t.d,some (.ref a),some (.ref h'),some (.int (j:Int)),f,some (.tup [zW r,.ref l]),some (.str r.2),some (.ref L.length),v12] s2:=by
  simp only[y9,zP,zJ,zB,zC,zA,jP,jg,R.bind_ok,e2,alloc,<- E,R.stm_ok,ZV,Ze]
 obtain⟨σ,u⟩:∃ σ:St,σ=[some (.ro (ns.map .int)),some (.ref 0),v2,some st,some t.d,some (.ref a),some (.ref h'),some (.int (j:Int)),f,some (.tup [zW r,.ref l]),some (.str r.2),some (.ref w),o]:=⟨_,rfl⟩
 have b12:y12 σ s4=.nx σ i:=by
  simp only[y12,u,sIf,zO,zJ,zB,zC,zA,jP,jg,R.bind_ok,ew,cNe,qe,ZW,j9,if_false,R.stm_ok,z8]
 have eR:RR=(zG y13 y14) σ i:=by
  show (zG y1 _ _ _)=_;rw[e1,ye b9,ye e3,ye e4,<- u,ye b12]
 have lh:(hs++[((l,l2),zU A)]).length=hs.length+1:=by simp
 by_cases hq:r.1=jh
 ·refine .inr ?_;obtain⟨n1,n2,n3⟩:=o3 hq;have m1:eqD (.str r.1) (.str [97,115,107,115]) i=.ok true i:=by rw[hq];simp
  have H:y13 σ i=.nx σ i:=by
   simp only[y13,u,sIf,zO,zA,eOp,eC,jP,jg,R.bind_ok,i0,j0,cNe,m1,ZW,j9,if_false,R.stm_ok,z8]
  have hc:∀ s,Zf [.ro (ns.map .int),.int (2+(j:Int))] s=.ok (.int (kM ns (2+j))) s:=λs=>by
   have:=wH ns (2+j) s
   rwa [show ((2+j:Nat):Int)=2+(j:Int) by lia] at this
  obtain⟨v,ea,hv⟩:=HI hN Q p.n0 (kM ns (2+j));have la:a < i.length:=(List.getElem?_eq_some_iff.mp p.an).1;have za:(A.map pd).length < SZ:=by rw[jH];unfold SZ;lia
  have hv9:v.length <= 900:=by lia
  have ah:∀ (q:Nat) (xs:List D),i[q]? = some (.lst xs)->q≠a:=λq xs e z=>by rw[z,p.an] at e;cases e
  refine⟨h',qT r.2 v A,hs++[((l,l2),zU A)],f,some (.tup [zW r,.ref l]),some (.str r.2),some (.ref w),o,i.set a (.dct ((qT r.2 v A).map pd)),?_,⟨?_,by rw[ZI la],?_,λq hq'=>?_⟩,by lia,YT I hv9,bj hk,uL,iR I y hk hu n2 hv9 n3⟩
  ·rw[eR,ye H];simp only[y14,u,yw,zJ,zB,zC,zA,eOp,eC,jP,jg,R.bind_ok,zo,hc,ea,R.stm_ok,ZT,p.an,qU,za,decide_true,W3,if_true,wm]
  ·rw[qb (yK (ah _ _ p.n0))];exact p.n0
  ·rw[qb (yK (ah _ _ p.hd))];exact p.hd
  ·obtain⟨c1,c2⟩:=p.hq q hq';exact⟨by rw[qb (yK (ah _ _ c1))];exact c1,by rw[qb (yK (ah _ _ c2))];exact c2⟩
 ·refine .inl ⟨i,?_⟩;have m1:eqD (.str r.1) (.str [97,115,107,115]) i=.ok false i:=by
   have:¬ r.1=[97,115,107,115]:=hq;simp[this]
  have hkp:=c8 (hs:=hs++[((l,l2),zU A)]) (by lia) p.hd p.hq;have H:y13 σ i=.rt (.bl true) i:=by
   simp only[y13,u,sIf,zO,zA,eOp,eC,jP,jg,R.bind_ok,i0,j0,cNe,m1,Gr,if_true,R.stm_ok,zh,zJ,zB,zC,hkp]
  rw[eR,Cr H]
end
theorem E3 (ns:List Int) (hl:ns.length <= 63):∃ s,Yf [.ro (ns.map .int)] []=.ok (.bl true) s:=by
 obtain⟨N,U⟩:∃ N,N=qx (kM ns 0) 8:=⟨_,rfl⟩
 have hN:N.length=8:=by rw[U];exact YQ _ 8
 have r:∀ t∈N,t.length <= 17:=λt z=>by rw[U] at z;exact (W9 _ 8 t z).2
 have hp:∀ t∈N,qH t=true:=λt z=>by rw[U] at z;exact Bc _ 8 (zg _) t z
 obtain⟨c,B⟩:∃ c:Bool,c=decide (kM ns 1 % 2=0):=⟨_,rfl⟩
 have h5:N.getD 5 []∈N:=by
  rw[qP,yS (by lia)];exact wU _
 have i5:atI (N.map D.str) 5=some (.str (N.getD 5 [])):=U4 (by lia) (by rw[hN];decide);obtain⟨st,u⟩:∃ st:D,st=if c then .str (N.getD 5 []) else .non:=⟨_,rfl⟩
 have C:(yT st).length <= 900:=by
  rw[u];split
  ·have:=r _ h5;show (N.getD 5 []).length <= 900
   lia
  ·show ([]:T).length <= 900;simp
 have E:c=true->∃ x,st=.str x/\qH x=true:=λh=>⟨N.getD 5 [],by rw[u,h];rfl,hp _ h5⟩
 obtain⟨l,G⟩:∃ l:M.S,l=[.lst (N.map .str)]++[.lst [.non,.str (N.getD 5 [])]]:=⟨_,rfl⟩
 have g1:l[0]? = some (.lst (N.map .str)):=by rw[G];rfl
 obtain⟨cs,ec⟩:=iY ns hl 20 30 (by decide) (by decide) l;obtain⟨i,v⟩:∃ i:M.S,i=l++[.lst (cs.map .int)]:=⟨_,rfl⟩
 rw[<- v] at ec;have x2:Ex l i:=by rw[v];exact Ex.app _ _
 have g2:i[l.length]? = some (.lst (cs.map .int)):=by rw[v];simp
 obtain⟨t,tg,tl,et⟩:=LS hN r (st:=st) (λh=>let ⟨x,e,_⟩:=E h;⟨x,e⟩) g2 (x2.get g1);obtain⟨pr,H⟩:=Ab C 13 t false .non tg (Qw (λt h=>fy hp E t h) t tl) (λh=>nomatch h) 0;obtain⟨n,o⟩:∃ n:M.S,n=i++[.dct (([]:List (T×T)).map pd),.lst (([]:List ((Nat×Nat)×List T)).map hpD)]:=⟨_,rfl⟩
 have x3:Ex i n:=by rw[o];exact Ex.app _ _
 have k0:KI N i.length (i.length+1) [] [] n:=⟨x3.get (x2.get g1),by rw[o];simp,by rw[o];simp,λq hq=>nomatch hq⟩
 have hu0:(ev [] st 13 t .non (0,[])).2.2=zU []:=by
  have e:ev [] st 13 t .non (0,[])=pr.run [] []:=H.2 [] [] (λq hq=>nomatch hq);obtain⟨_,m2⟩:=Yy (A:=[]) (p:=pr) (us:=[]) xw;rw[e];cases hc:(pr.run [] []).2.2 with
  | nil=>rfl
  | cons x xs =>
   rw[hc] at m2;rcases m2 x (by simp) with h | h
   ·cases h
   ·cases h
 have I:=cL (g:=[]) (f:=qO (zq 7) (zG y1 (zG y2 (zG y3 (zG y4 (zG y5 (zG y6 (zG y7 (zG y8 (zG y9 (zG y10 (zG y11 (zG y12 (zG y13 y14))))))))))))))
  (λj σ s=>∃ (h:Nat) (A:List (T×T)) (hs:List ((Nat×Nat)×List T)) (v7 v8 v9 v10 v11 v12:Option D),σ=[some (.ro (ns.map .int)),some (.ref 0),some (.bl c),some st,some t.d,some (.ref i.length),some (.ref h),v7,v8,v9,v10,v11,v12]/\KI N i.length h A hs s/\hs.length <= j/\(∀ q∈A,q.2.length <= 900)/\(zU A).Nodup/\A.length <= j/\(ev A st 13 t .non (0,[])).2.2=zU A)
  (ju 0 12) 0 [some (.ro (ns.map .int)),some (.ref 0),some (.bl c),some st,some t.d,some (.ref i.length),some (.ref (i.length+1)),none,none,none,none,none,none] n ⟨i.length+1,[],[],none,none,none,none,none,none,rfl,k0,zg _,(λq hq=>nomatch hq),xw,zg _,hu0⟩ λj d hd σ s ⟨h,A,hs,v7,v8,v9,v10,v11,v12,w,Y,c1,c2,c3,c4,c5⟩=>by
   have hj:j < 12:=by
    have:=(List.getElem?_eq_some_iff.mp hd).1;simpa [ju] using this
   obtain⟨m,hm⟩:∃ m:Nat,d=.int (m:Int):=by
    unfold ju at hd;rw[qX] at hd;obtain⟨m,_,e⟩:=Option.map_eq_some_iff.mp hd;exact⟨m,by rw[<- e];simp⟩
   subst hm w;rw[yU] at c1 c4 ⊢;have:=FC hN r C (by decide) tg c2 c3 (by lia) H c5 Y (by lia) (ns:=ns) (j:=m) (v2:=some (.bl c)) (v8:=v8) (v9:=v9) (v10:=v10) (v11:=v11) (v12:=v12);rcases this with ⟨y,e⟩ | ⟨h',A',hs',v8',v9',J,L,Q,y,e,ki',d1,d2,d3,d4,d5⟩
   ·exact .inl ⟨y,e⟩
   ·exact .inr ⟨_,y,e,rfl,h',A',hs',_,v8',v9',J,L,Q,rfl,ki',by lia,d2,d3,by lia,d5⟩
 have l1:Xi [some (.ro (ns.map .int)),none,none,none,none,none,none,none,none,none,none,none,none] []=.nx [some (.ro (ns.map .int)),some (.ref 0),none,none,none,none,none,none,none,none,none,none,none] [.lst (N.map .str)]:=by
  have:=wH ns 0 [];rw[show ((0:Nat):Int)=0 by rfl] at this;simp only[Xi,zP,zJ,zB,zC,zA,eC,jP,R.bind_ok,this,V7,<- U,alloc,R.stm_ok,ZV,Ze];rfl
 have l2:Ya [some (.ro (ns.map .int)),some (.ref 0),none,none,none,none,none,none,none,none,none,none,none] [.lst (N.map .str)]=.nx [some (.ro (ns.map .int)),some (.ref 0),some (.bl c),none,none,none,none,none,none,none,none,none,none] [.lst (N.map .str)]:=by
  have:=wH ns 1 [.lst (N.map .str)];rw[show ((1:Nat):Int)=1 by rfl] at this;rw[B];simp[-Zf,Ya,this]
 have l3:Vi [some (.ro (ns.map .int)),some (.ref 0),some (.bl c),none,none,none,none,none,none,none,none,none,none] [.lst (N.map .str)]=.nx [some (.ro (ns.map .int)),some (.ref 0),some (.bl c),some st,none,none,none,none,none,none,none,none,none] l:=by
  have z2:(2:Nat) <= SZ:=by decide
  rw[G,u];have a0:atI [D.non,.str (N.getD 5 [])] 0=some .non:=rfl;have a1:atI [D.non,.str (N.getD 5 [])] 1=some (.str (N.getD 5 [])):=rfl;generalize N.getD 5 []=n5 at *;cases c<;>simp[Vi,i5,z2,a0,a1]
 have l4:Yd [some (.ro (ns.map .int)),some (.ref 0),some (.bl c),some st,none,none,none,none,none,none,none,none,none] l=.nx [some (.ro (ns.map .int)),some (.ref 0),some (.bl c),some st,some t.d,none,none,none,none,none,none,none,none] i:=by
  have ec':K6 [.ro (ns.map .int),.int 20,.int 30] l=.ok (.ref l.length) i:=ec;simp only[Yd,zP,zJ,zB,zC,zA,eC,jP,jg,R.bind_ok,ec',et,R.stm_ok,ZV,Ze]
 have l56:∀ kk:SM,zG YW (zG Vk kk) [some (.ro (ns.map .int)),some (.ref 0),some (.bl c),some st,some t.d,none,none,none,none,none,none,none,none] i=kk [some (.ro (ns.map .int)),some (.ref 0),some (.bl c),some st,some t.d,some (.ref i.length),some (.ref (i.length+1)),none,none,none,none,none,none] n:=λkk=>by
  rw[o];simp[YW,Vk]
 have hq:(12:Int).natAbs < 4611686018427387904:=by decide
 have l7:XX [some (.ro (ns.map .int)),some (.ref 0),some (.bl c),some st,some t.d,some (.ref i.length),some (.ref (i.length+1)),none,none,none,none,none,none] n=qK [] (qO (zq 7) (zG y1 (zG y2 (zG y3 (zG y4 (zG y5 (zG y6 (zG y7 (zG y8 (zG y9 (zG y10 (zG y11 (zG y12 (zG y13 y14)))))))))))))) (ju 0 12) [some (.ro (ns.map .int)),some (.ref 0),some (.bl c),some st,some t.d,some (.ref i.length),some (.ref (i.length+1)),none,none,none,none,none,none] n:=by
  rw[fx];show (R.stm _ _ _)=_;rw[show qi (eC (.int 12)) [some (.ro (ns.map .int)),some (.ref 0),some (.bl c),some st,some t.d,some (.ref i.length),some (.ref (i.length+1)),none,none,none,none,none,none] n=.ok (ju 0 12,[]) n from by simp only[qi,eC,R.bind_ok,hq,if_true]];rfl
 have eA:Yf [.ro (ns.map .int)] []=((zG XX vP) [some (.ro (ns.map .int)),some (.ref 0),some (.bl c),some st,some t.d,some (.ref i.length),some (.ref (i.length+1)),none,none,none,none,none,none] n).out:=by
  show (zG Xi _ [some (.ro (ns.map .int)),none,none,none,none,none,none,none,none,none,none,none,none] []).out=_;rw[ye l1,ye l2,ye l3,ye l4,l56]
 rw[eA];rcases I with ⟨y,e⟩ | ⟨σ',y,e,h,A,hs,v7,v8,v9,v10,v11,v12,w,Y,c1,_⟩
 ·refine⟨y,?_⟩;rw[Cr (l7.trans e)];rfl
 ·subst w;refine⟨y,?_⟩;have c12:hs.length <= 12:=by simpa [ju] using c1
  have hkp:=c8 (hs:=hs) (by lia) Y.hd Y.hq;rw[ye (l7.trans e)];simp only[vP,zh,zJ,zB,zC,zA,jP,jg,R.bind_ok,hkp,R.stm_ok,RS.out]
end
end M
namespace My
open PySem L2 PyProof.Rows
noncomputable def top (i:Nat):jT:=PySem.Challenge.pw_thingyard_k45_whole_worked_from_answers.main.body.getD i (.Pass ⟨0,0,0,0⟩)
theorem vv {X:Cx}{pos:Pos}{x:Str} (i:Nat) (c:X.N[i]? = some x:=by rfl) (e:Vis X.env.scope x:=by exact ZU (by kernel_rfl)) (f:(x == ("__debug__" : Str))=false:=by kernel_rfl) (g:(x == ("__classdict__" : Str))=false:=by kernel_rfl):WE X h (.Name x pos) (M.zA i):=w_me_var i c e f g
structure Zd (i:Nat):Prop
theorem vcm {X:Cx}{pos:Pos}{x:Str} (i:Nat) (_:Zd i) (c:X.N[i]? = some x:=by rfl) (e:Vis X.env.scope x:=by exact x8 (ZU (by kernel_rfl))) (f:(x == ("__debug__" : Str))=false:=by kernel_rfl) (g:(x == ("__classdict__" : Str))=false:=by kernel_rfl):WE X h (.Name x pos) (M.zA i):=w_me_var i c e f g
theorem zz {X:Cx}{pos:Pos}{x:Str}{j:Nat} (h:x=ofT y:=by decide +kernel) (ok:okT y:=by decide +kernel):WE X c (.Constant (.str x) j pos) (M.eC (.str y)):=w_me_str h ok
theorem gk {X:Cx}{x:Str} (h:X.env.kindOf x=some .globalImplicit:=by kernel_rfl):Gl X x:=h
def ve (K:PySem.W.Frag):Sp:=λvs H Q E=>∀ c:Tab,SpM K c 1 M.Yf vs H Q E
theorem G9 {K:PySem.W.Frag}{a:zE}{ns:List Int} (c:ns.length <= 63) (e:Kr H) (f:SqL K H a (ns.map V.int)):ve K [.ref a] H (λv _=>v=.bl true) E:=λ_=>gA M.E3 c e f
def Θ1 (e:zE):Tab:=⟨λc=>if c=4 then some (e,["stem","answers","used","steps","texts","todo","ended"]) else none,λ_=>0,λ_ _ _=>False⟩
variable {P:jD}{w:jC}{K:PySem.W.Frag}{mg:Str->Option zD}{base:zp}{f:zE}{fd:Q5}{cdv:zD}{A:jj}{outer:List Env}{s:zI}{H:Hp}{E:XK}{zS:zE}
abbrev uz (K:PySem.W.Frag) (zS:zE):Prop:=QU K (Θ1 zS) 4 zS ["stem","answers","used","steps","texts","todo","ended"]
local macro_rules
 | `(tactic| ac_rfl)=>`(tactic| first
  | ((with_reducible show WE _ _ _ _);first
   | ((with_reducible show WE _ _ _ (M.zA _));first
    | exact vcm _ (by assumption)
    | exact vv _)
   | ((with_reducible show WE _ _ _ (M.eC _));first
    | exact w_me_int
    | exact zz
    | exact w_me_bl
    | exact w_me_ty .str gk (by assumption) BH
    | exact w_me_non
    | (refine' w_me_globS ?g gk ?r;(case g=>assumption);(case r=>intro _ _;rfl))
    | exact w_me_ty .tuple gk (by assumption) BR
    | (refine' w_me_globT ?g gk ?r;(case g=>assumption);(case r=>intro _ _;refine⟨_,_,rfl,(by apply_assumption),?_⟩;repeat first | exact rfl | refine⟨_,_,rfl,⟨by decide +kernel,by decide +kernel⟩,?_⟩))
    | exact w_me_ty .list gk (by assumption) dI)
   | ((with_reducible show WE _ _ _ (M.eOp _ _ _));first
    | ((with_reducible show WE _ _ _ (M.eOp M.zH _ _));refine w_me_ix (Ln (by assumption)) IZ ?_ ?_<;>ac_rfl)
    | ((with_reducible show WE _ _ _ (M.eOp M.zo _ _));refine w_me_op (OpR.or iQ HZ) lV ?_ ?_<;>ac_rfl)
    | ((with_reducible show WE _ _ _ (M.eOp M.jU _ _));refine w_me_op IP eZ ?_ ?_<;>ac_rfl)
    | ((with_reducible show WE _ _ _ (M.eOp M.jt _ _));refine w_me_op Ez m6 ?_ ?_<;>ac_rfl)
    | ((with_reducible show WE _ _ _ (M.eOp M.yM _ _));refine w_me_op iC Dp ?_ ?_<;>ac_rfl)
    | ((with_reducible show WE _ _ _ (M.eOp M.vV _ _));refine w_me_op iZ ir ?_ ?_<;>ac_rfl))
   | ((with_reducible show WE _ _ _ (M.zJ _ _));first
    | (refine w_me_call (by assumption) (by assumption) (by first | decide | omega) gk ?_ (by repeat first | exact wL | refine UU ?_)<;>ac_rfl)
    | (refine w_me_callB Ds iF gk (by assumption) Lr ?_<;>ac_rfl)
    | (refine w_me_callB mP L1 gk (by assumption) GN ?_<;>ac_rfl)
    | (refine w_me_callTy (gC (by assumption)) Gb gk (by assumption) dI ?_<;>ac_rfl)
    | (refine w_me_callTy (mD (by assumption)) Ea gk (by assumption) aL ?_<;>ac_rfl)
    | (refine w_me_callB (L8 (by assumption)) gY gk (by assumption) HH ?_<;>ac_rfl)
    | (refine w_me_callTy EC Gk gk (by assumption) BH ?_<;>ac_rfl)
    | (refine w_me_callB (mn (by assumption)) GQ gk (by assumption) L5 ?_<;>ac_rfl)
    | (refine w_me_callTy g5 FW gk (by assumption) BR ?_<;>ac_rfl)
    | (refine w_me_callB (IY rfl) mF gk (by assumption) FO ?_<;>ac_rfl)
    | (refine w_me_callTy lP gp gk (by assumption) gN ?_<;>ac_rfl)
    | (refine w_me_callTy LN HY gk (by assumption) aL ?_<;>ac_rfl))
   | ((with_reducible show WE _ _ _ (M.zr _));(refine w_me_tup ?_<;>ac_rfl))
   | ((with_reducible show WE _ _ _ (M.jG _ _ _));(refine w_me_fld (by assumption) rfl ?_<;>ac_rfl))
   | ((with_reducible show WE _ _ _ (M.jS _ _ _ _));first
    | (refine w_me_meth (by assumption) (by assumption) (by assumption) (by first | decide | omega) (by decide +kernel) ?_ ?_ (by repeat first | exact wL | refine UU ?_)<;>ac_rfl)
    | (refine w_me_meth0 (by assumption) (by assumption) (by assumption) (by first | decide | omega) (by decide +kernel) ?_<;>ac_rfl))
   | ((with_reducible show WE _ _ _ (M.eM _ _ _ _));first
    | (refine w_me_m PySem.F.plainAttrs_list PySem.F.slot_list_append PySem.F.type_list_append Dz Gx rfl ?_ ?_<;>ac_rfl)
    | (refine w_me_m0 PySem.F.plainAttrs_list PySem.F.slot_list_pop PySem.F.type_list_pop eg f9 rfl ?_<;>ac_rfl)
    | (refine w_me_m PySem.F.plainAttrs_str PySem.F.slot_str_join PySem.F.type_str_join Co FM rfl ?_ ?_<;>ac_rfl)
    | (refine w_me_m PySem.F.plainAttrs_str PySem.F.slot_str_split PySem.F.type_str_split EZ i4 rfl ?_ ?_<;>ac_rfl)
    | (refine w_me_repl ?_ (by decide +kernel) (by decide +kernel) rfl (by decide +kernel)<;>ac_rfl)
    | (refine w_me_m PySem.F.plainAttrs_str PySem.F.slot_str_find PySem.F.type_str_find hQ i9 rfl ?_ ?_<;>ac_rfl)
    | (refine w_me_m0 PySem.F.plainAttrs_dict PySem.F.slot_dict_clear PySem.F.type_dict_clear mO DA rfl ?_<;>ac_rfl))
   | ((with_reducible show WE _ _ _ (M.jR _));(refine w_me_lst ?_<;>ac_rfl))
   | ((with_reducible show WE _ _ _ (M.eSl _ _ _));(refine w_me_sl hX iG ?_ ?_ ?_<;>ac_rfl))
   | ((with_reducible show WE _ _ _ (M.qr _ _ _ _ _));first
    | (refine w_me_comp (vars:=[_]) rfl ⟨rfl,rfl,(by kernel_rfl),(by kernel_rfl),(by decide +kernel),trivial,(by kernel_rfl)⟩ ?_ (λ_ _ _ _=>(w_mg_name (by first | assumption | exact of_decide_eq_true (by kernel_rfl)) rfl (ZU (by kernel_rfl)) (.inr (by kernel_rfl)))) ?_ ?_ (by kernel_rfl)<;>ac_rfl)
    | (refine w_me_comp (vars:=[_]) rfl ⟨rfl,rfl,(by kernel_rfl),(by kernel_rfl),(by decide +kernel),⟨(by kernel_rfl),trivial⟩,(by kernel_rfl)⟩ ?_ (λ_ _ _ _=>(w_mg_name (by first | assumption | exact of_decide_eq_true (by kernel_rfl)) rfl (ZU (by kernel_rfl)) (.inr (by kernel_rfl)))) ?_ ?_ (by kernel_rfl)<;>ac_rfl)
    | (refine w_me_comp (vars:=[_]) rfl ⟨rfl,rfl,(by kernel_rfl),(by kernel_rfl),(by decide +kernel),⟨(by kernel_rfl),(by kernel_rfl),(by kernel_rfl),trivial⟩,(by kernel_rfl)⟩ ?_ (λ_ _ _ _=>(w_mg_name (by first | assumption | exact of_decide_eq_true (by kernel_rfl)) rfl (ZU (by kernel_rfl)) (.inr (by kernel_rfl)))) ?_ ?_ (by kernel_rfl)<;>ac_rfl)
    | (refine w_me_comp (vars:=[_]) rfl ⟨rfl,rfl,(by kernel_rfl),(by kernel_rfl),(by decide +kernel),⟨(by kernel_rfl),(by kernel_rfl),trivial⟩,(by kernel_rfl)⟩ ?_ (λ_ _ _ _=>(w_mg_name (by first | assumption | exact of_decide_eq_true (by kernel_rfl)) rfl (ZU (by kernel_rfl)) (.inr (by kernel_rfl)))) ?_ ?_ (by kernel_rfl)<;>ac_rfl))
   | ((with_reducible show WE _ _ _ (M.ZG _ _ _));first
    | ((with_reducible show WE _ _ _ (M.ZG M.cEq _ _));refine w_me_cmp (bF (by assumption)) aH ?_ ?_ (xu _)<;>ac_rfl)
    | ((with_reducible show WE _ _ _ (M.ZG M.cLe _ _));refine w_me_cmp Ku Km ?_ ?_ (xu _)<;>ac_rfl)
    | ((with_reducible show WE _ _ _ (M.ZG M.QT _ _));refine w_me_cmp (bP (by assumption)) bB ?_ ?_ (by rfl)<;>ac_rfl)
    | ((with_reducible show WE _ _ _ (M.ZG M.cIn _ _));refine w_me_cmp (cC (by assumption)) aP ?_ ?_ (by rfl)<;>ac_rfl))
   | ((with_reducible show WE _ _ _ (M.Qd _ _ _ _ _ _));first
    | (refine w_me_callC (D5 rfl) Hy gk (by assumption) FI (vars:=[_]) rfl ⟨rfl,rfl,(by kernel_rfl),(by kernel_rfl),(by decide +kernel),trivial,(by kernel_rfl)⟩ ?_ (λ_ _ _ _=>(w_mg_name (by first | assumption | exact of_decide_eq_true (by kernel_rfl)) rfl (ZU (by kernel_rfl)) (.inr (by kernel_rfl)))) ?_ ?_ (by kernel_rfl)<;>ac_rfl)
    | (refine w_me_joinC (by decide +kernel) (vars:=[_]) rfl ⟨rfl,rfl,(by kernel_rfl),(by kernel_rfl),(by decide +kernel),⟨(by kernel_rfl),trivial⟩,(by kernel_rfl)⟩ ?_ (λ_ _ _ _=>(w_mg_name (by first | assumption | exact of_decide_eq_true (by kernel_rfl)) rfl (ZU (by kernel_rfl)) (.inr (by kernel_rfl)))) ?_ ?_ (by kernel_rfl) (λρ H S ds ys p Q rp r hq h=>VM (by decide +kernel) ρ H S ds ys p Q rp r (.inl hq) h)<;>ac_rfl))
   | ((with_reducible show WE _ _ _ (M.Jp _ _));(refine w_me_and ?_ ?_<;>ac_rfl))
   | ((with_reducible show WE _ _ _ M.xP);exact w_me_dnew)
   | ((with_reducible show WE _ _ _ (M.eUn _ _));first
    | (refine w_me_joinrev (by decide +kernel) (by decide +kernel) (by assumption) gk (by assumption) ?_<;>ac_rfl)
    | (refine w_me_rev ?_<;>ac_rfl))
   | ((with_reducible show WE _ _ _ (M.eIf _ _ _));(refine w_me_ifExp ?_ ?_ ?_<;>ac_rfl))
   | ((with_reducible show WE _ _ _ (M.uf _ _ _ _ _));(refine w_me_chain Ku Ku Km Km ?_ ?_ ?_<;>ac_rfl))
   | ((with_reducible show WE _ _ _ (M.K0 _ _ _ _));(refine w_me_make (by assumption) (by assumption) (by assumption) (by first | decide | omega) rfl gk ?_ (by repeat first | exact wL | refine UU ?_)<;>ac_rfl)))
  | ((with_reducible show WS _ _ _ _);first
   | ((with_reducible show WS _ _ _ (M.zP _ _));first
    | ((with_reducible show WS _ _ _ (M.zP 11 _));have:=(by assumption:Zd 11);(refine w_ms_set (by first | assumption | exact of_decide_eq_true (by kernel_rfl)) rfl (x8 (by kernel_rfl)) ?_<;>ac_rfl))
    | ((with_reducible show WS _ _ _ (M.zP 10 _));have:=(by assumption:Zd 10);(refine w_ms_set (by first | assumption | exact of_decide_eq_true (by kernel_rfl)) rfl (x8 (by kernel_rfl)) ?_<;>ac_rfl))
    | (refine w_ms_setcomp (vars:=["part"]) rfl ⟨rfl,rfl,(by kernel_rfl),(by kernel_rfl),(by decide +kernel),⟨(by kernel_rfl),trivial⟩,(by kernel_rfl)⟩ (by first | assumption | exact of_decide_eq_true (by kernel_rfl)) rfl (ZU (by kernel_rfl)) ?_ (λ_ _ _ _=>(w_mg_name (by first | assumption | exact of_decide_eq_true (by kernel_rfl)) rfl (ZU (by kernel_rfl)) (.inr (by kernel_rfl)))) ?_ ?_ (by kernel_rfl)<;>ac_rfl)
    | (refine w_ms_set (by first | assumption | exact of_decide_eq_true (by kernel_rfl)) rfl (ZU (by kernel_rfl)) ?_<;>ac_rfl))
   | ((with_reducible show WS _ _ _ (M.qZ _ _ _));first
    | ((with_reducible show WS _ _ _ (M.qZ _ (M.zq 4) _));have:=(by assumption:Zd 4);(refine w_ms_for UH rfl ?_ (w_mg_name (by first | assumption | exact of_decide_eq_true (by kernel_rfl)) rfl (x8 (by kernel_rfl)) (.inl rfl)) ?_<;>ac_rfl))
    | (refine w_ms_for UH rfl ?_ (w_mg_name (by first | assumption | exact of_decide_eq_true (by kernel_rfl)) rfl (ZU (by kernel_rfl)) (.inl rfl)) ?_<;>ac_rfl))
   | ((with_reducible show WS _ _ _ (M.zh _));(refine w_ms_ret ?_<;>ac_rfl))
   | ((with_reducible show WS _ _ _ (M.sIf _ _ _));(refine w_ms_if ?_ ?_ ?_<;>ac_rfl))
   | ((with_reducible show WS _ _ _ (M.jA _));(refine w_ms_expr ?_<;>ac_rfl))
   | ((with_reducible show WS _ _ _ (M.Zj _ _ _ _));(refine w_ms_fld (by assumption) rfl ?_ ?_<;>ac_rfl))
   | ((with_reducible show WS _ _ _ (M.yw _ _ _));(refine w_ms_sub (by assumption) ?_ ?_ ?_<;>ac_rfl))
   | ((with_reducible show WS _ _ _ (M.Q3 _ _));(refine w_ms_frz ?_<;>ac_rfl))
   | ((with_reducible show WS _ _ _ (M.QC _ _ _ _ _));(refine w_ms_fldaug (by assumption) rfl ?_ ?_ g8 iK<;>ac_rfl))
   | ((with_reducible show WS _ _ _ (M.vn _ _));(refine w_ms_while UH ?_ ?_<;>ac_rfl))
   | ((with_reducible show WS _ _ _ (M.KA _ _));(refine w_ms_hide (N:=["_law_script","_law_names","_law_family","_law_stem","_law_tree","_law_answers","_law_held","_law_k","_law_given","_law_gave","_law_name","_law_wide",""]) rfl ?_<;>ac_rfl))
   | ((with_reducible show WS _ _ _ (M.vD _ _ _));(refine w_ms_forKeys UH rfl ?_ (w_mg_name (by first | assumption | exact of_decide_eq_true (by kernel_rfl)) rfl (ZU (by kernel_rfl)) (.inl rfl)) ?_<;>ac_rfl)))
  | ((with_reducible show WA _ _ _ _);first
   | ((with_reducible show WA _ _ _ (M.zB _ _));(refine w_ma_cons ?_ ?_<;>ac_rfl))
   | ((with_reducible show WA _ _ _ M.zC);exact w_ma_nil))
  | ((with_reducible show WSs _ _ _ _);first
   | ((with_reducible show WSs _ _ _ (M.zG _ _));(refine w_mss_cons ?_ ?_<;>ac_rfl))
   | ((with_reducible show WSs _ _ _ M.z8);exact w_mss_nil))
  | ((with_reducible show WT _ _ _ _);first
   | ((with_reducible show WT _ _ _ (M.zO _ _ _));first
    | ((with_reducible show WT _ _ _ (M.zO M.cEq _ _));refine w_mt_cmp (bF (by assumption)) aH ?_ ?_ (xu _)<;>ac_rfl)
    | ((with_reducible show WT _ _ _ (M.zO M.cNe _ _));refine w_mt_cmp (LP (by assumption)) FJ ?_ ?_ (xu _)<;>ac_rfl)
    | ((with_reducible show WT _ _ _ (M.zO M.cLt _ _));refine w_mt_cmp LI eL ?_ ?_ (xu _)<;>ac_rfl)
    | ((with_reducible show WT _ _ _ (M.zO M.cIn _ _));refine w_mt_cmp (cC (by assumption)) aP ?_ ?_ (by rfl)<;>ac_rfl)
    | ((with_reducible show WT _ _ _ (M.zO M.cGt _ _));refine w_mt_cmp fY hH ?_ ?_ (xu _)<;>ac_rfl)
    | ((with_reducible show WT _ _ _ (M.zO M.QT _ _));refine w_mt_cmp (bP (by assumption)) bB ?_ ?_ (by rfl)<;>ac_rfl))
   | ((with_reducible show WT _ _ _ (M.qD _));(refine w_mt_tru ?_<;>ac_rfl))
   | ((with_reducible show WT _ _ _ (M.qB _));(refine w_mt_not ?_<;>ac_rfl))
   | ((with_reducible show WT _ _ _ (M.JI _ _ _ _ _));(refine w_mt_chain Ku Ku Km Km ?_ ?_ ?_<;>ac_rfl))
   | ((with_reducible show WT _ _ _ (M.Jc _));(refine w_mt_isN ?_<;>ac_rfl)))
  | ((with_reducible show WO _ _ _ _);first
   | ((with_reducible show WO _ _ _ (M.qV _));(refine w_mo_some ?_<;>ac_rfl))
   | ((with_reducible show WO _ _ _ M.yh);exact w_mo_none))
  | ((with_reducible show WI _ _ _ _ _);first
   | ((with_reducible show WI _ _ _ _ (M.iE _));(refine w_mi_e ?_<;>ac_rfl))
   | ((with_reducible show WI _ _ _ _ (M.qi _));(refine w_mi_range1 gk (by assumption) ?_<;>ac_rfl))
   | ((with_reducible show WI _ _ _ _ (M.QH _));(refine w_mi_keys ?_<;>ac_rfl))
   | ((with_reducible show WI _ _ _ _ (M.Kh _));(refine w_mi_reversed gk (by assumption) ?_<;>ac_rfl))
   | ((with_reducible show WI _ _ _ _ (M.XT _ _));(refine w_mi_range2 gk (by assumption) ?_ ?_<;>ac_rfl)))
  | ((with_reducible show WW _ _ _ _);first
   | ((with_reducible show WW _ _ _ (M.tOr _ _));(refine w_mw_or ?_ ?_<;>ac_rfl))
   | ((with_reducible show WW _ _ _ (M.yY _ _));(refine w_mw_and ?_ ?_<;>ac_rfl)))
  | (refine w_mss_one ?_<;>ac_rfl)
  | (refine w_mt_ofw ?_<;>ac_rfl)
  | exact Dw
  | (refine w_mw_one_or ?_<;>ac_rfl)
  | (refine w_mw_one_and ?_<;>ac_rfl)
  | (refine Eg ?_<;>ac_rfl)
  | (refine w_me_one ?_<;>ac_rfl)
  | (intro _ _ _ _;ac_rfl))
abbrev Jk:jT:=top 38
theorem hv {a b:Prop} (x:a) (f:a->b):a/\b:=⟨x,f x⟩
abbrev HS (l:PySem.W.OpenLaw) (w:jC) (K:PySem.W.Frag) (mg:Str->Option zD) (base:zp) (zS:zE) (x:Str) (k:Nat) (ps:List Str) (n:Nat) (q:M.F):Prop:=Has l.prog w K mg base x k ps (SpM K (Θ1 zS) n q)
abbrev HM (l:PySem.W.OpenLaw) (w:jC) (K:PySem.W.Frag) (mg:Str->Option zD) (base:zp) (zS:zE) (x:Str) (k:Nat) (ps:List Str) (n:Nat) (q:M.F):Prop:=K1 l.prog w K mg base zS x k ps (SpM K (Θ1 zS) n q)
abbrev BB (mg:Str->Option zD):Prop:=mg "len" = none/\mg "reversed" = none/\mg "range" = none/\mg "all" = none/\mg "isinstance" = none/\mg "str" = none/\mg "sorted" = none/\mg "list" = none/\mg "max" = none/\mg "tuple" = none/\mg "min" = none/\mg "dict" = none/\mg "int" = none
local macro_rules
 | `(tactic| ac_nf0)=>`(tactic| (intro;intros;show WSs _ _ (_::_) _;ac_rfl))
section
variable {l:PySem.W.OpenLaw}{w:jC}{K:PySem.W.Frag}{h base:zp}{mg:Str->Option zD}{zS:zE}{f:zE}{fd:Q5}
abbrev A0 (K:PySem.W.Frag) (zS:zE):Prop:=IsM K zS "__init__" "Working.__init__" (ZO (top 17) 0)/\IsM K zS "fail" "Working.fail" (ZO (top 17) 2)/\IsM K zS "come_to" "Working.come_to" (ZO (top 17) 3)/\IsM K zS "bare_text" "Working.bare_text" (ZO (top 17) 6)/\IsM K zS "come_to_answer" "Working.come_to_answer" (ZO (top 17) 4)/\IsM K zS "put_parts" "Working.put_parts" (ZO (top 17) 8)/\IsM K zS "begin_inner" "Working.begin_inner" (ZO (top 17) 7)/\IsM K zS "begin" "Working.begin" (ZO (top 17) 5)/\IsM K zS "end_join" "Working.end_join" (ZO (top 17) 9)/\IsM K zS "choose" "Working.choose" (ZO (top 17) 10)/\IsG K "words_of" (top 7)/\IsM K zS "go_on_round" "Working.go_on_round" (ZO (top 17) 13)/\IsM K zS "begin_each" "Working.begin_each" (ZO (top 17) 11)/\IsM K zS "go_round" "Working.go_round" (ZO (top 17) 12)/\IsG K "is_letter" (top 4)/\IsG K "is_plain" (top 5)/\IsG K "is_name" (top 6)/\IsG K "sorted_words" (top 13)/\IsG K "turned_about" (top 9)/\IsG K "first_word" (top 10)/\IsG K "rest_words" (top 11)/\IsG K "counted" (top 12)/\IsG K "made_of" (top 16)/\IsM K zS "end_single" "Working.end_single" (ZO (top 17) 14)
abbrev C0 (l:PySem.W.OpenLaw) (w:jC) (K:PySem.W.Frag) (mg:Str->Option zD) (base:zp) (zS:zE):Prop:=uc l.prog w K mg base zS "Working" 1 ["self","tree","stem","answers"] (SpM K (Θ1 zS) 4 M.YJ)/\HM l w K mg base zS "fail" 1 ["self","words"] 2 M.kK/\HM l w K mg base zS "come_to" 2 ["self","text"] 2 M.Zg/\HM l w K mg base zS "bare_text" 1 ["self","part","it"] 3 M.JS/\HM l w K mg base zS "come_to_answer" 3 ["self","name"] 2 M.QW/\HM l w K mg base zS "put_parts" 1 ["self","parts","it"] 3 M.XJ/\HM l w K mg base zS "begin_inner" 2 ["self","part","it"] 3 M.xT/\HM l w K mg base zS "begin" 4 ["self","part","it"] 3 M.Q7/\HM l w K mg base zS "end_join" 3 ["self","number"] 2 M.xW/\HM l w K mg base zS "choose" 1 ["self","part","it"] 3 M.KU/\HS l w K mg base zS "words_of" 1 ["text"] 1 M.ZH/\HM l w K mg base zS "go_on_round" 1 ["self","part","words","number"] 4 M.Qs/\HM l w K mg base zS "begin_each" 2 ["self","part"] 2 M.Ka/\HM l w K mg base zS "go_round" 3 ["self","part","words","number"] 4 M.Xb/\HS l w K mg base zS "is_letter" 1 ["sign"] 1 M.Xw/\HS l w K mg base zS "is_plain" 2 ["thing"] 1 M.ZF/\HS l w K mg base zS "is_name" 3 ["thing"] 1 M.yx/\HS l w K mg base zS "sorted_words" 2 ["text"] 1 M.YG/\HS l w K mg base zS "turned_about" 1 ["text"] 1 M.V3/\HS l w K mg base zS "first_word" 2 ["text"] 1 M.Vs/\HS l w K mg base zS "rest_words" 2 ["text"] 1 M.V8/\HS l w K mg base zS "counted" 2 ["text"] 1 M.YC/\HS l w K mg base zS "made_of" 3 ["kind","text"] 2 M.vw/\HM l w K mg base zS "end_single" 4 ["self","kind"] 2 M.JZ
set_option maxHeartbeats 0 in
theorem Dn {c:zE} (X:K.In h) (G:h.Ns jV mg) (a:A0 K zS) (m:PySem.W.nsIn K jV "Working" = some (some (.ref zS))) (n:PySem.W.makesIn K zS=true) (o:PySem.W.keepIn K (.ref zS)=true) (Mj:uz K zS) (J:QB mg "MOST_SIGNS" (.int 900)) (L:QB mg "MOST_STEPS" (.int 500)) (Q:QB mg "KEPT_WORDS" (.ref c)) (U:∀ H,SqT K H c [(.str "of"),(.str "if"),(.str "is"),(.str "then"),(.str "else"),(.str "each"),(.str "do"),(.str "it"),(.str "back"),(.str "first"),(.str "rest"),(.str "count"),(.str "sorted"),(.str "fail"),(.str "line"),(.str "more")]) (z:QB mg "MOST_LETTERS" (.int 8)) (b:BB mg):C0 l w K mg base zS:=by
 obtain⟨UP,dD,cA,CY,Y,C4,AD,-,-,-,-,-,-⟩:=b;obtain⟨a1,a2,a3,a4,a5,a6,a7,a8,a9,a10,a11,a12,a13,a14,a15,a16,a17,a18,a19,a20,a21,a22,a23,a24⟩:=a;refine hv (dj a1 X G m n o λ_ _ F=>by
  refine w_fun_M0n (N:=["self","tree","stem","answers"]) (b:=M.VQ) F λnd cdv A outer s H E hr=>?_
  delta M.VQ M.uM M.UT M.WU M.ue M.Up M.WB M.Yp
  show WSs _ _ (_::_) _
  ac_rfl) λr=>?_
 refine hv (gM0 a2 ["self","words"] M.YV (by
  delta M.YV
  ac_nf0)) λB=>?_
 refine hv (gM0 a3 ["self","text"] M.X7 (by
  delta M.X7
  ac_nf0)) λv=>?_
 refine hv (gM0 a4 ["self","part","it"] M.xg (by
  delta M.xg M.kA M.Xq M.VX M.Um
  ac_nf0)) λp=>?_
 refine hv (gM0 a5 ["self","name"] M.XS (by
  delta M.XS
  ac_nf0)) λe=>?_
 refine hv (gM0 a6 ["self","parts","it","part"] M.UW (by
  delta M.UW
  ac_nf0)) λq=>?_
 refine hv (gM0 a7 ["self","part","it","kind"] M.xa (by
  delta M.xa
  ac_nf0)) λg=>?_
 refine hv (gM0 a8 ["self","part","it"] M.Zt (by
  delta M.Zt
  ac_nf0)) λy=>?_
 refine hv (gM0 a9 ["self","number","texts"] M.K8 (by
  delta M.K8
  have k0:Zd 0:=⟨⟩
  ac_nf0)) λt=>?_
 refine hv (gM0 a10 ["self","part","it","second","first"] M.Xo (by
  delta M.Xo
  ac_nf0)) λx=>?_
 refine hv (gG a11 X G ["text"] M.E2 (by
  delta M.w8
  ac_nf0)) λMJ=>?_
 refine hv (gM0 a12 ["self","part","words","number"] M.KW (by
  delta M.KW
  ac_nf0)) λi=>?_
 refine hv (gM0 a13 ["self","part","words"] M.WD (by
  delta M.WD
  ac_nf0)) λj=>?_
 refine hv (gM0 a14 ["self","part","words","number","text"] M.WM (by
  delta M.WM
  ac_nf0)) λu=>?_
 refine hv (gG a15 X G ["sign"] M.gO (by
  delta M.wK
  ac_nf0)) λM0=>?_
 refine hv (gG a16 X G ["thing"] M.Dm (by
  delta M.Zm
  ac_nf0)) λMZ=>?_
 refine hv (gG a17 X G ["thing","parts"] M.Ee (by
  delta M.QQ
  ac_nf0)) λMP=>?_
 refine hv (gG a18 X G ["text"] M.lZ (by
  delta M.Uk
  ac_nf0)) λC=>?_
 refine hv (gG a19 X G ["text"] M.EG (by
  delta M.u7
  ac_nf0)) λI=>?_
 refine hv (gG a20 X G ["text"] M.Ho (by
  delta M.ua
  ac_nf0)) λMw=>?_
 refine hv (gG a21 X G ["text"] M.lD (by
  delta M.U7
  ac_nf0)) λMs=>?_
 refine hv (gG a22 X G ["text"] M.d7 (by
  delta M.ur
  ac_nf0)) λMe=>?_
 refine hv (gG a23 X G ["kind","text"] M.Dx (by
  delta M.xB M.xj M.kP M.Xx M.Vr M.WK
  ac_nf0)) λMd=>?_
 exact gM0 a24 ["self","kind","text"] M.QL (by
  delta M.QL
  ac_nf0)
abbrev A1 (K:PySem.W.Frag) (zS:zE):Prop:=IsM K zS "run" "Working.run" (ZO (top 17) 1)/\IsG K "worked" (top 18)/\IsG K "_law_letter" (top 23)/\IsG K "_law_plain_by" (top 24)/\IsG K "_law_names_by" (top 25)/\IsG K "_law_sign_by" (top 26)/\IsG K "_law_text_by" (top 27)/\IsG K "_law_leaf_by" (top 28)/\IsG K "_law_high" (top 29)/\IsG K "_law_tree_by" (top 30)/\IsG K "_law_kept" (top 37)/\IsG K "_law_mixed" (top 20)/\IsG K "_law_cell_at" (top 21)/\IsG K "_law_cells" (top 22)/\IsG K "_law_more" (top 36)
abbrev C1 (l:PySem.W.OpenLaw) (w:jC) (K:PySem.W.Frag) (mg:Str->Option zD) (base:zp) (zS:zE):Prop:=HM l w K mg base zS "run" 5 ["self"] 1 M.vE/\HS l w K mg base zS "worked" 6 ["tree","stem","answers"] 3 M.Qj/\HS l w K mg base zS "_law_letter" 1 ["_law_cell"] 1 M.ZP/\HS l w K mg base zS "_law_plain_by" 2 ["_law_cell","_law_k"] 2 M.Xt/\HS l w K mg base zS "_law_names_by" 3 ["_law_cell"] 1 M.V7/\HS l w K mg base zS "_law_sign_by" 1 ["_law_cell"] 1 M.k7/\HS l w K mg base zS "_law_text_by" 2 ["_law_cell","_law_size"] 2 M.Xd/\HS l w K mg base zS "_law_leaf_by" 3 ["_law_cell","_law_names","_law_family"] 3 M.xU/\HS l w K mg base zS "_law_high" 20 ["_law_tree"] 1 M.XD/\HS l w K mg base zS "_law_tree_by" 21 ["_law_cells_here","_law_names","_law_family"] 3 M.X8/\HS l w K mg base zS "_law_kept" 1 ["_law_held"] 1 M.kn/\HS l w K mg base zS "_law_mixed" 1 ["_law_cell","_law_k"] 2 M.xN/\HS l w K mg base zS "_law_cell_at" 2 ["_law_script","_law_k"] 2 M.Zf/\HS l w K mg base zS "_law_cells" 2 ["_law_script","_law_at","_law_end"] 3 M.K6/\HS l w K mg base zS "_law_more" 1 ["_law_answers","_law_names"] 2 M.X2
set_option maxHeartbeats 0 in
theorem iV (X:K.In h) (G:h.Ns jV mg) (a:A1 K zS) (Q:uz K zS) (b:BB mg) (c0:C0 l w K mg base zS):C1 l w K mg base zS:=by
 obtain⟨UP,-,Y,-,-,-,-,Ac,Aj,Cq,aY,-,-⟩:=b;obtain⟨i,-,-,-,-,-,-,p,j,n,-,-,e,m,-,-,-,-,-,-,-,-,-,g⟩:=c0;obtain⟨a25,a26,a27,a28,a29,a30,a31,a32,a33,a34,a35,a36,a37,a38,a39⟩:=a;refine hv (gM0 a25 ["self","task"] M.Kk (by
  delta M.Kk
  ac_nf0)) λz=>?_
 refine hv (gG0 a26 X G ["tree","stem","answers","working","came"] M.Kx (by
  delta M.Kx
  ac_nf0)) λU=>?_
 refine hv (gG a27 X G ["_law_cell"] M.L3 (by
  delta M.U3
  ac_nf0)) λB=>?_
 refine hv (gG a28 X G ["_law_cell","_law_k","_law_base","_law_size","_law_at"] M.Ib (by
  delta M.dC M.K9 M.k8 M.k9 M.vJ M.Xr M.vb
  have k0:Zd 0:=⟨⟩
  ac_nf0)) λq=>?_
 refine hv (gG a29 X G ["_law_cell","_law_some","_law_names","_law_k","_law_word","_law_j"] M.Hb (by
  delta M.W4 M.XO M.X6 M.XZ M.kJ M.vf
  ac_nf0)) λr=>?_
 refine hv (gG a30 X G ["_law_cell","_law_some"] M.GX (by
  delta M.wG
  ac_nf0)) λt=>?_
 refine hv (gG a31 X G ["_law_cell","_law_size"] M.ES (by
  delta M.wh
  have k0:Zd 0:=⟨⟩
  ac_nf0)) λu=>?_
 refine hv (gG a32 X G ["_law_cell","_law_names","_law_family","_law_way"] M.hG (by
  delta M.Ar M.vH M.wO M.uH M.WQ M.UX M.U1 M.uW
  ac_nf0)) λv=>?_
 refine hv (ub a33 X G λf fd F Bf kf mf=>by
  have o:∀ C,qC l.prog w K mg base CX0 (0+C) f fd ["_law_tree"] (SpM K (Θ1 zS) 1 (M.Z0 C)):=λC=>by
   induction C with
   | zero=>exact GR M.IU
   | succ C ih =>
    have c:Has l.prog w K mg base "_law_high" (0+C) ["_law_tree"] (SpM K (Θ1 zS) 1 (M.Z0 C)):=⟨⟨_,_,ih,Bf,kf,mf⟩⟩
    refine w_fun_Mn (N:=["_law_tree","_law_parts"]) (k:=(0+C)) (b:=M.XW (M.Z0 C)) F (M.Iv C) λnd cdv A outer s H E hr=>?_
    delta M.XW
    show WSs _ _ (_::_) _
    ac_rfl
  exact o 20) λc=>?_
 refine hv (gG a34 X G ["_law_cells_here","_law_names","_law_family","_law_tree","_law_free","_law_cell","_law_bud","_law_way","_law_four"] M.Ek (by
  delta M.Cz M.Xp M.KN M.kH M.kc M.Kc
  ac_nf0)) λx=>?_
 refine hv (gG a35 X G ["_law_held"] M.iJ (by
  delta M.vR
  ac_nf0)) λL=>?_
 refine hv (gG a36 X G ["_law_cell","_law_k"] M.Eo (by
  delta M.wD
  ac_nf0)) λI=>?_
 refine hv (gG a37 X G ["_law_script","_law_k"] M.EJ (by
  delta M.V9
  ac_nf0)) λy=>?_
 refine hv (gG a38 X G ["_law_script","_law_at","_law_end"] M.d8 (by
  delta M.vl
  have k0:Zd 0:=⟨⟩
  ac_nf0)) λJ=>?_
 exact gG a39 X G ["_law_answers","_law_names","_law_some","_law_name"] M.mS (by
  delta M.YN
  have k1:Zd 1:=⟨⟩
  ac_nf0)
abbrev A2 (K:PySem.W.Frag) (zS:zE):Prop:=IsG K "_law_answer_by" (top 31)/\IsG K "_law_ended" (top 34)/\IsG K "_law_without" (top 35)/\IsG K "_law_is_plain" (top 32)/\IsG K "_law_is_name" (top 33)
abbrev C2 (l:PySem.W.OpenLaw) (w:jC) (K:PySem.W.Frag) (mg:Str->Option zD) (base:zp) (zS:zE):Prop:=HS l w K mg base zS "_law_answer_by" 3 ["_law_cell","_law_names"] 2 M.kE/\HS l w K mg base zS "_law_ended" 1 ["_law_gave"] 1 M.xG/\HS l w K mg base zS "_law_without" 7 ["_law_tree","_law_stem","_law_answers","_law_used"] 4 M.KP/\HS l w K mg base zS "_law_is_plain" 1 ["_law_word"] 1 M.kR/\HS l w K mg base zS "_law_is_name" 2 ["_law_text"] 1 M.kr
set_option maxHeartbeats 0 in
theorem Dl (X:K.In h) (G:h.Ns jV mg) (a:A2 K zS) (b:BB mg) (J:C0 l w K mg base zS) (I:C1 l w K mg base zS):C2 l w K mg base zS:=by
 obtain⟨t,-,o,u,j,v,-,q,-,p,-,r,-⟩:=b;obtain⟨-,n,-,-,-,-,g,-,-,-,-,-,-,-,-⟩:=I;obtain⟨x,y,z,B,C⟩:=a;refine hv (gG x X G ["_law_cell","_law_names","_law_first","_law_second","_law_some"] M.mu (by
  delta M.Ce M.Xl M.Kz M.xr M.vh M.vz
  ac_nf0)) λc=>?_
 refine hv (gG y X G ["_law_gave"] M.iO (by
  delta M.Vo
  ac_nf0)) λm=>?_
 refine hv (gG z X G ["_law_tree","_law_stem","_law_answers","_law_used","_law_k","_law_some","_law_gave"] M.eO (by
  delta M.vu
  have L:Zd 2:=⟨⟩
  have N:Zd 3:=⟨⟩
  have Q:Zd 4:=⟨⟩
  ac_nf0)) λi=>?_
 refine hv (gG B X G ["_law_word","_law_some"] M.fA (by
  delta M.Yi
  ac_nf0)) λe=>?_
 exact gG C X G ["_law_text","_law_at"] M.Dk (by
  delta M.vM
  ac_nf0)
theorem dm (F:Fun K "law" "law" Jk f fd) (b:BB mg) (G:C0 l w K mg base zS) (y:C1 l w K mg base zS) (z:C2 l w K mg base zS):qC l.prog w K mg base CX0 22 f fd ["_law_script"] (SpM K (Θ1 zS) 1 M.Yf):=by
 obtain⟨-,-,t,-,-,-,-,u,-,-,-,v,x⟩:=b;obtain⟨-,r,-,-,e,-,-,-,-,g,p,-,i,n,q⟩:=y;obtain⟨c,o,j,-,m⟩:=z;refine w_fun_M0n (N:=["_law_script","_law_names","_law_family","_law_stem","_law_tree","_law_answers","_law_held","_law_k","_law_given","_law_gave","_law_name","_law_wide","_law_one"]) (b:=M.WV) F λnd _ _ _ _ _ _ I=>?_
 delta M.WV M.Xi M.Ya M.Vi M.Yd M.YW M.Vk M.XX M.vP
 have B:Zd 10:=⟨⟩
 have C:Zd 11:=⟨⟩
 show WSs _ _ (_::_) _
 ac_rfl
end
theorem Gg {l:PySem.W.OpenLaw}{w:jC}{K:PySem.W.Frag}{h:zp}{mg:Str->Option zD}{fa f45:zE}{zS:zE} (X:K.In h) (G:h.Ns jV mg) (hfa:mg "law" = some (.ref fa))
  {od45 an45:Option zE}{sl45:Array (Option zD)}{oc45 kV45 dc45 pm45 cd45 ct45:zD}
  (IA:PySem.W.nsIn K jV "Working" = some (some (.ref zS))) (Hx:PySem.W.plainGet K zS Cs=true) (DF:PySem.W.hasDictIn K zS=true) (Fe:PySem.W.plainOver K zS=true) (Fp:PySem.W.findIn K (.ref zS) "__setattr__" = some (some (.builtin "object.__setattr__"))) (eW:PySem.W.makesIn K zS=true) (DO:PySem.W.keepIn K (.ref zS)=true)
  (q:PySem.W.findIn K (.ref zS) "stem" = some none)
  (r:PySem.W.findIn K (.ref zS) "answers" = some none)
  (t:PySem.W.findIn K (.ref zS) "used" = some none)
  (u:PySem.W.findIn K (.ref zS) "steps" = some none)
  (y:PySem.W.findIn K (.ref zS) "texts" = some none)
  (z:PySem.W.findIn K (.ref zS) "todo" = some none)
  (B:PySem.W.findIn K (.ref zS) "ended" = some none)
  (q0:A0 K zS)
  (q1:A1 K zS)
  (q2:A2 K zS)
  (a45:PySem.W.nsIn K jV "law" = some (some (.ref f45))) (l45:K.lookup f45=some ⟨oc45,od45,.func (PySem.W.fnOf "law" "law" (Qp Jk) (yV Jk) (ji Jk) .none kV45 dc45 pm45 an45 cd45 ct45),sl45⟩) (c45:PySem.W.codeIn K cd45 "law" = true) (k45:PySem.W.keepIn K (.ref f45)=true)
  (z_len:PySem.W.nsIn K jV "len" = some none)
  (z_reversed:PySem.W.nsIn K jV "reversed" = some none)
  (z_range:PySem.W.nsIn K jV "range" = some none)
  (z_all:PySem.W.nsIn K jV "all" = some none)
  (C:PySem.W.nsIn K jV "isinstance" = some none)
  (z_str:PySem.W.nsIn K jV "str" = some none)
  (z_sorted:PySem.W.nsIn K jV "sorted" = some none)
  (z_list:PySem.W.nsIn K jV "list" = some none)
  (z_max:PySem.W.nsIn K jV "max" = some none)
  (z_tuple:PySem.W.nsIn K jV "tuple" = some none)
  (z_min:PySem.W.nsIn K jV "min" = some none)
  (z_dict:PySem.W.nsIn K jV "dict" = some none)
  (z_int:PySem.W.nsIn K jV "int" = some none)
  {j:zD} (I:PySem.W.nsIn K jV "MOST_SIGNS" = some (some j)) (r_MOST_SIGNS:xt (.int 900) j=true)
  {m:zD} (J:PySem.W.nsIn K jV "MOST_STEPS" = some (some m)) (r_MOST_STEPS:xt (.int 500) m=true)
  {c:zE}{g:Array zD}{L:Nat}{M:Option zE}{N:Array (Option zD)} (Q:PySem.W.nsIn K jV "KEPT_WORDS" = some (some (.ref c))) (w_KEPT_WORDS:K.lookup c=some ⟨.type "tuple",M,.seq g L,N⟩) (r_KEPT_WORDS:Ki [(.str "of"),(.str "if"),(.str "is"),(.str "then"),(.str "else"),(.str "each"),(.str "do"),(.str "it"),(.str "back"),(.str "first"),(.str "rest"),(.str "count"),(.str "sorted"),(.str "fail"),(.str "line"),(.str "more")] g.toList=true)
  {i:zD} (n:PySem.W.nsIn K jV "MOST_LETTERS" = some (some i)) (r_MOST_LETTERS:xt (.int 8) i=true)
  : ∃ fd:Q5,(∀ (s:zI) (v:zD),KZ s fd ⟨[v],[]⟩ [("_law_script",v)])/\fd.scope.names.lookup ("_law_script" : Str)=some .local/\∀ base:zp,K.In base->base.Ns jV mg->qC l.prog w K mg base CX0 22 fa fd ["_law_script"] (ve K):=by
 have e:=hfa.symm.trans (PySem.W.mg_of X G a45);cases e;have F45:=ui (x := "law") (qual := "law") (st:=Jk) l45 c45 k45;have UP:=PySem.W.mg_none_of X G z_len;have dD:=PySem.W.mg_none_of X G z_reversed;have cA:=PySem.W.mg_none_of X G z_range;have CY:=PySem.W.mg_none_of X G z_all;have U:=PySem.W.mg_none_of X G C;have C4:=PySem.W.mg_none_of X G z_str;have AD:=PySem.W.mg_none_of X G z_sorted;have Ac:=PySem.W.mg_none_of X G z_list;have Aj:=PySem.W.mg_none_of X G z_max;have Cq:=PySem.W.mg_none_of X G z_tuple;have aY:=PySem.W.mg_none_of X G z_min;have ic:=PySem.W.mg_none_of X G z_dict;have Dv:=PySem.W.mg_none_of X G z_int;have b:BB mg:=⟨UP,dD,cA,CY,U,C4,AD,Ac,Aj,Cq,aY,ic,Dv⟩
 have Y:QB mg "MOST_SIGNS" (.int 900):=⟨_,PySem.W.mg_of X G I,VT r_MOST_SIGNS⟩
 have ft:QB mg "MOST_STEPS" (.int 500):=⟨_,PySem.W.mg_of X G J,VT r_MOST_STEPS⟩
 have lX:QB mg "KEPT_WORDS" (.ref c):=⟨_,PySem.W.mg_of X G Q,rfl⟩
 have Ft:∀ H,SqT K H c [(.str "of"),(.str "if"),(.str "is"),(.str "then"),(.str "else"),(.str "each"),(.str "do"),(.str "it"),(.str "back"),(.str "first"),(.str "rest"),(.str "count"),(.str "sorted"),(.str "fail"),(.str "line"),(.str "more")]:=λH=>LY w_KEPT_WORDS r_KEPT_WORDS;have o:QB mg "MOST_LETTERS" (.int 8):=⟨_,PySem.W.mg_of X G n,VT r_MOST_LETTERS⟩
 have p:uz K zS:=⟨rfl,⟨Hx,DF,Fe,Fp⟩,J5 q (J5 r (J5 t (J5 u (J5 y (J5 z (J5 B (λf hf=>nomatch hf))))))),by decide +kernel,by decide +kernel⟩
 refine⟨(PySem.W.fnOf "law" "law" (Qp Jk) (yV Jk) (ji Jk) .none kV45 dc45 pm45 an45 cd45 ct45),λs v=>.of_eq rfl,by kernel_rfl,λbase _ _=>?_⟩;have c0:=Dn (l:=l) (w:=w) (base:=base) X G q0 IA eW DO p Y ft lX Ft o b;have c1:=iV (l:=l) (w:=w) (base:=base) X G q1 p b c0;have c2:=Dl (l:=l) (w:=w) (base:=base) X G q2 b c0 c1;exact (dm F45 b c0 c1 c2).imp λ_ _ _ _ h=>h _
theorem iq {l:PySem.W.OpenLaw}{g:jC->zp->Prop}{d:DefRec}{K:Params->PySem.W.Frag} (j:l.most=some 63) (c:d.params.defaults=[])
  (m:∀ (w:jC) (h:zp),g w h->(K w.params).In h)
  (F:∀ (w:jC) (mg:Str->Option zD) (i:zE) (h:zp),(K w.params).In h->h.Ns jV mg->mg d.name=some (.ref i) ->
   ∃ fd:Q5,(∀ (s:zI) (u:zD),KZ s fd ⟨[u],[]⟩ [("_law_script",u)])/\fd.scope.names.lookup ("_law_script" : Str)=some .local/\∀ base:zp,(K w.params).In base->base.Ns jV mg->qC l.prog w (K w.params) mg base CX0 22 i fd ["_law_script"] (ve (K w.params))) :
  PySem.W.WalkO q e t g l.row.toRowW d [] (λf vs=>PySem.call f vs) :=
 L2.LV (n:=63) (k:=22) (x := "_law_script") (CX:=λ_=>CX0) (sp:=λw=>ve (K w.params)) j (by decide) c ⟨rfl,by decide,by decide⟩ m F (λ_ _ _ _ o p r=>G9 o p r) λ_ _ _ _ _ z=>z
end My
namespace PySem.W.Fast
theorem tw14660334635933125543:True:=⟨⟩
theorem tw3980785547678953181:True:=⟨⟩
theorem tw16660104597100135862:True:=⟨⟩
theorem tw4247502139535439509:True:=⟨⟩
theorem tw4576527381158830840:True:=⟨⟩
theorem tw3549287458202034378:True:=⟨⟩
theorem tw4187661014717420988:True:=⟨⟩
theorem tw2932391076048018141:True:=⟨⟩
theorem tw17511279249924284132:True:=⟨⟩
theorem tw13387703850027044026:True:=⟨⟩
theorem tw12989043617996137934:True:=⟨⟩
theorem tw16166307786256630940:True:=⟨⟩
theorem tw5659954589577035235:True:=⟨⟩
theorem tw10814790595690849021:True:=⟨⟩
theorem tw17146717431058124292:True:=⟨⟩
theorem tw13414456952712239521:True:=⟨⟩
theorem tw17140297635909830577:True:=⟨⟩
theorem tw4957983859844321780:True:=⟨⟩
theorem tw8097757459307242750:True:=⟨⟩
theorem tw13666229642509008650:True:=⟨⟩
theorem tw14196273107313882517:True:=⟨⟩
theorem tw13400509993422468184:True:=⟨⟩
theorem tw11472347166429219107:True:=⟨⟩
theorem tw14822243164946061711:True:=⟨⟩
theorem tw7872713448148710863:True:=⟨⟩
theorem tw913237066604338466:True:=⟨⟩
theorem tw3750019142197804225:True:=⟨⟩
theorem tw4647206679533612759:True:=⟨⟩
theorem tw14243899744977339465:True:=⟨⟩
theorem tw16095398126506789468:True:=⟨⟩
theorem tw15489037488611078458:True:=⟨⟩
theorem tw1439404824693717512:True:=⟨⟩
theorem tw80419802863766017:True:=⟨⟩
theorem tw12742330589536917582:True:=⟨⟩
theorem tw5356004579728550488:True:=⟨⟩
theorem tw9610393940954879361:True:=⟨⟩
theorem tw17079968009625559024:True:=⟨⟩
theorem tw1626887943758907176:True:=⟨⟩
theorem tw5599202283023130725:True:=⟨⟩
theorem tw15490349567530630984:True:=⟨⟩
theorem tw16544967361151346541:True:=⟨⟩
theorem tw16676858735704682397:True:=⟨⟩
theorem tw6075577958549105926:True:=⟨⟩
theorem tw2619263572990923906:True:=⟨⟩
theorem tw16015371662866497036:True:=⟨⟩
theorem tw6196065315370835431:True:=⟨⟩
theorem tw12381097469403030053:True:=⟨⟩
theorem tw17920438266423025021:True:=⟨⟩
theorem tw6902062431991167539:True:=⟨⟩
theorem tw7906633277576448858:True:=⟨⟩
theorem tw17962126663626448151:True:=⟨⟩
theorem tw15731157423252578418:True:=⟨⟩
theorem tw6087979381227239485:True:=⟨⟩
theorem tw5677692044070005773:True:=⟨⟩
theorem tw1137635872791926874:True:=⟨⟩
theorem tw6746236424407625368:True:=⟨⟩
theorem tw2025238559529674871:True:=⟨⟩
theorem tw3808751279471272917:True:=⟨⟩
theorem tw14961289156521424833:True:=⟨⟩
theorem tw12850077280938897201:True:=⟨⟩
theorem tw17530473909790103594:True:=⟨⟩
theorem tw17651281650244485747:True:=⟨⟩
theorem tw9388520425257542840:True:=⟨⟩
theorem tw15318885477944947663:True:=⟨⟩
theorem tw1020360063670410308:True:=⟨⟩
theorem tw8632130424691342295:True:=⟨⟩
theorem tw911666169492066463:True:=⟨⟩
theorem tw2385075677619760729:True:=⟨⟩
theorem tw5255030600827964547:True:=⟨⟩
theorem tw18139143097154022363:True:=⟨⟩
theorem tw13010086229130696085:True:=⟨⟩
theorem tw3520755689815746463:True:=⟨⟩
theorem tw1967399171213860666:True:=⟨⟩
theorem tw3256794305210308479:True:=⟨⟩
theorem tw15823408676675380228:True:=⟨⟩
theorem tw14456886338001933258:True:=⟨⟩
theorem tw14719971930403734085:True:=⟨⟩
theorem tw13097189985471950607:True:=⟨⟩
theorem tw669647409656174608:True:=⟨⟩
theorem tw10942066593566049224:True:=⟨⟩
theorem tw9826927466039690824:True:=⟨⟩
theorem tw7951982293663202617:True:=⟨⟩
theorem tw7318253396002821084:True:=⟨⟩
theorem tw15021315984126378345:True:=⟨⟩
theorem tw4574947496195411270:True:=⟨⟩
theorem tw221245429689550567:True:=⟨⟩
theorem tw9918404991935918953:True:=⟨⟩
theorem tw17829448848078401392:True:=⟨⟩
theorem tw4332964073668696008:True:=⟨⟩
theorem tw1735846838567981864:True:=⟨⟩
theorem tw5060638492913920491:True:=⟨⟩
theorem tw9707638886579975085:True:=⟨⟩
theorem tw7205417518841222380:True:=⟨⟩
theorem tw1424784345654823656:True:=⟨⟩
theorem tw1376749455256563510:True:=⟨⟩
theorem tw11693572120207057848:True:=⟨⟩
theorem tw4266970637838813364:True:=⟨⟩
theorem tw8774699980590494023:True:=⟨⟩
theorem tw11804102559546547534:True:=⟨⟩
theorem tw18310698503981777435:True:=⟨⟩
theorem tw12677962091886842080:True:=⟨⟩
theorem tw18105555838563053930:True:=⟨⟩
theorem tw786892859432394397:True:=⟨⟩
theorem tw17040405648338848517:True:=⟨⟩
theorem tw2327490793063989275:True:=⟨⟩
theorem tw16639831781118212881:True:=⟨⟩
theorem tw17536707107261896104:True:=⟨⟩
theorem tw16111134948875738731:True:=⟨⟩
theorem tw9305686714548627944:True:=⟨⟩
theorem tw1797414666491665396:True:=⟨⟩
theorem tw5411807301187964782:True:=⟨⟩
theorem tw7454160528549032156:True:=⟨⟩
theorem tw15745065378039169021:True:=⟨⟩
theorem tw913895759412050865:True:=⟨⟩
theorem tw1539822559853061866:True:=⟨⟩
theorem tw10319134248502727249:True:=⟨⟩
theorem tw8659015492247733817:True:=⟨⟩
theorem tw5921133066155382056:True:=⟨⟩
theorem tw16730826003048758285:True:=⟨⟩
theorem tw7715761208296679155:True:=⟨⟩
theorem tw9016096081696503993:True:=⟨⟩
end PySem.W.Fast
open PySem PySem.W PyProof.Rows
set_option maxRecDepth 100000 in
set_option maxHeartbeats 0 in
theorem PySem.Challenge.cw_thingyard_k45_whole_worked_from_answers_holds : PySem.Challenge.rw_thingyard_k45_whole_worked_from_answers.Holds := by
 w_on;o_law;k_head;(case hw=>w_witness2)
 k_fill
 refine My.iq (l:=PySem.Challenge.rw_thingyard_k45_whole_worked_from_answers) rfl rfl (λw h Y=>PySem.W.kIn_of Y) ?F
 case F =>
  intro w mg fa h KX G hmg;refine' My.Gg KX G hmg ?_ ?_ ?_ ?_ ?_ ?_ ?_ ?_ ?_ ?_ ?_ ?_ ?_ ?_ ?_ ?_ ?_ ?_ ?_ ?_ ?_ ?_ ?_ ?_ ?_ ?_ ?_ ?_ ?_ ?_ ?_ ?_ ?_ ?_ ?_ ?r_MOST_SIGNS ?_ ?r_MOST_STEPS ?_ ?_ ?r_KEPT_WORDS ?_ ?r_MOST_LETTERS
  all_goals first | k_is | ((repeat' apply And.intro)<;>first | (refine' L2.isG ?za ?zl ?zc ?zk;(case za=>k_is);(case zl=>k_is);(case zc=>k_is);(case zk=>k_is)) | (refine' L2.isM ?za ?zi ?zl ?zc ?zk;(case za=>k_is);(case zi=>k_is);(case zl=>k_is);(case zc=>k_is);(case zk=>k_is))) | skip
  (case r_MOST_SIGNS=>rfl)
  (case r_MOST_STEPS=>rfl)
  (case r_KEPT_WORDS=>rfl)
  (case r_MOST_LETTERS=>rfl)
