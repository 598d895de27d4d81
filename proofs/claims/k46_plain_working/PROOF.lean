import PyProof.Rows.All
import Wide.All
import OpenK.AllK
import Wide.FinOn
import Lean
import PyProof.EqAt
import PyProof.EqKinds
import PyProof.TupleCall
import PySem.Challenge.RW_thingyard_k46_plain_working
set_option Elab.async false
set_option linter.all false
set_option maxRecDepth 100000
set_option compiler.extract_closed false
open PySem renaming Value->zD,Addr->zE,Shared->zJ,model->zP,wpAny_bind->zS,Expr->zV,Stmt->zf,sizeLine->zg,Heap->zi,eval->zr,Program->jB,World->jG,starEach->jK,compareOp->jY,mainGlobals->jb,Around->jc,backTo->qX,bootBuiltins->qk,binaryOp->qy,wpAny_with_toks->yD,Scope->Za,rule->Zf,sysModules->Zu,compEnvC->Z0,sizeLine_eq->Z8,attributeBase->QH,FuncData->QI,PyData->QT,rawInt->QX,swapsWith->Qc,assign->Qy,cLine->Q1,sliceBounds->JB,atKey->JH,wpAny_newObj_type->JV,Keyword->Jb,valueAt->Jg,behindInMarks->Jp,foldedSetIterable->xC,backToKw->xD,wpAny_field->xG,NameKind->xH,wpAny_truthy_bool->xU,IsPart->xW,Model->xa,typeIs_str->xi,keywordEach->xp,wpAny_ite_split->xu,wpAny_holding->xx,wpAny_rule->k7,wpAny_passesOwn->k9,BindsTo->XI,call_meets->XS,callerA->Xg,builtinLookup_eq_fast->X0,getMethod->X4,getItem->KL,IsPair->KR,cellsFrom->Kh,typeLookup_type->K7,pyNext->vC,wpAny_of_eq->vN,argBest->v9,setItem->VC,wpAny_getItem_str_slice->Va,tupleKind->Vn,pyIter->YC,strValues->YS,isSubtype_type->Yb,post_val_or_str->Y0,wpAny_call_entry->Y4,wpAny_specialOf->Y9,wpAny_pyIter_list->uP,PassesOwn->ub,PlainAttrs->UB,codeAny_mono->Ue,wpAny_attempt->Ug,typeLookup->U0,spliced->U1,tupleKind_room_in1->U5,InCallC->wA,lastMarks->wC,wpAny_Call_Name_kw->wR,evalPart_none->wb,bindArgs->wx,slicePick->wy,sliceRange->W0,evalPart_some->aH,wpAny_standAt->aO,letOwnedTupleGo->As,wpAny_Name->bJ,seqIndex_neg->bN,wpAny_isInstance->bh,wpAny_Slice->b3,newFunctionEnv->BV,swapsWithSole->Ba,seqIndex_of->Bp,builtinsNs->B7,wpAny_setField_rec->B9,wpAny_typeOf->cf,noFill_tuple_add->c2,seqIndex?->Cd,assignEach->C1,wpAny_Call_method_late->dC,swappedStores->dQ,inplaceOp->di,concat_meets->dv,wpAny_call->DD,wpAny_callSpecial?_slot->DY,seq_tuple_add->Dc,wpAny_getItem_list_slice->eW,wpAny_comprehension_free->EK,wpAny_assign_Name->FH,wpAny_storeName_local->FU,firstArgMember->gL,recursionLimit->gh,wpAny_isTrue_Compare1->G1,codeAny_builtin->iQ,codeAny_toks_of->lS,wpAny_execs_cons->Lv
open PyProof.Rows renaming Keyed->zL,arrOf->zM,SortSt->zT,wpS_bind->za,pendingOf->jQ,oneType'->qT,elem'->qq,wpS_mono->yF,wpS_forRange->yc,envOfC->y8,seqObj->ZO,wpS_get->Qb,failedOf->Qi,AllBare->JN,wpS_modify->JP,IsTup->xB,wpS_lift->x1,pairsOf->Xa,StrsAre->vf,tail_any->vo,KK_congr->VI,callWith_type1->Vo,IntsAre->uA,minRun'->ug,setPending->UF,sortedS->UG,reverseSlice'->Uz,pairsOf_size->wY,wpS_reverse->WL,subscriptTail->Wq,Subscript_->Wz,SortedToK->ak,listUpdate_at->av,KK_mirror_equal->Bc,seqEpoch_at->CN,subscriptTail_builtinR->f5,slot_tuple_getitem->HA,slicePart_none->Me,callWith_builtin1->n6,getItem_tuple->NC
open Nat renaming le_refl->zo,le_trans->jM,ne_of_lt->je,zero_add->qQ,lt_of_lt_of_le->qR,succ_pos->yv,zero_le->ZV,lt_irrefl->Z2,le_succ_of_le->JI,reduceAdd->xM,lt_succ_self->xg,ne_of_gt->KE,le_of_eq->vX,add_assoc->Yz,lt_succ_of_lt->uE,le_of_lt->UD,add_sub_cancel->we,le_succ->Wt,add_zero->aI,lt_trans->Aw,toDigitsCore->cA,add_sub_cancel_left->d0,sub_self->Fq,lt_or_ge->Gk,mul_le_mul_left->mM
open List renaming length_cons->zx,replicate->z9,map_cons->jH,getElem?_cons_zero->jJ,length_map->jS,getElem?_cons_succ->jW,prefix_refl->jg,mem_cons_of_mem->jh,length_append->jk,size_toArray->jo,length_nil->jw,range->qE,getD_eq_getElem?_getD->qP,mem_cons_self->qa,set_cons_zero->qw,set_cons_succ->qx,getElem?_map->yB,getElem?_append_left->yG,append_assoc->yI,getElem?_eq_getElem->yQ,append_nil->yZ,mem_of_getElem?->y9,lookup_cons->ZA,length_take->ZG,mem_append_right->ZM,map_id->ZN,getElem?_append_right->ZQ,map_map->ZR,length->ZT,getElem?_set_ne->Zk,prefix_append->Zo,any_cons->QR,length_drop->QW,map_congr_left->Qa,foldl_cons->Qf,replicate_succ->Q5,flatten_cons->Q8,all_cons->JE,map_nil->Jh,drop_zero->J0,getElem?_set_self->J6,lookup->xZ,length_set->xw,drop_eq_getElem_cons->kX,map_reverse->kq,length_reverse->kv,take_of_length_le->kz,cons_append->XT,nil_append->Xd,find?_cons->KY,getElem?_replicate->K3,set_append_right->K9,extract_eq_take_drop->vc,map_append->vi,filterMap_cons->vz,mem_of_mem_drop->Vz,getElem?_eq_none->YH,reverse_cons->Yd,getElem?_range->Yv,reverse_perm->uZ,pairwise_cons->UT,reverse_reverse->Uk,nodup_cons->wM,mem_of_mem_take->w6,foldl->Ww,sum_cons->W8,length_range->aA,length_replicate->aC,take_append_drop->Aa,drop_of_length_le->A1,contains_eq_mem->bT,mem_reverse->BM,of_mem_zip->Be,mem_append_left->Bj,length_flatten->Bn,drop_one->cM,nodup_nil->cZ,filterMap_map->cg,all_map->cu,length_singleton->dJ,getElem_mem->dq,mem_cons->eJ,dropLast_eq_take->eK,nodup_range->eT,getElem?_reverse->eV,ext_getElem->eh,map_take->EL,getElem?_take_of_lt->E6,take_succ_eq_append_getElem->Fg,map_drop->F0,reverse_append->gF,take_succ->gJ,contains_cons->GP,range_succ_eq_map->GS,not_lt->GY,foldl_append->hQ,getElem_range->HF,nodup_append->Hv,getElem?_toArray->iJ,sum_reverse->iW,getElem?_concat_length->iX,getElem?_drop->IF,drop_length->lL,foldl_nil->l7,range_succ->Lh,any_map->Lm,take_length->Ln,take_sublist->mK
open False renaming elim->jF
open PySem.Heap renaming lt_size->jR,get?_push_of_some->ji,get?_push_size->qi,size_push->Q3,SameBut->xR,size_update->DS,get?_update_other->g9,get?_push_ne->lx
open Array renaming length_toList->jm,toList_append->Zx,getElem?_toList->kG,size_extract->ki,toList_push->vn,toList_reverse->YB,getElem_toList->YT,toList_extract->Uq,toList->bK,getElem_extract->FF,size_map->Fs,toList_setIfInBounds->IV
open Bool renaming false_eq_true->jv,and_eq_true->j8,false_ne_true->qF,not_true->xA,not_eq_true'->X6,true_and->KJ,or_eq_true->VU,not_false->uk,true_xor->u2,false_xor->UK,eq_iff_iff->Wn,not_eq_false'->b4,and_true->EB,or_false->Gz,and_self->lF,false_and->Mm
open PySem.Value renaming ref->qG,type->JC,bool->Jo,str->X3,none->vA,int->Vy,float->DL,isInt->hh,isStrOf->IX,bytes->nF
open Or renaming inl->yJ,inr->vg
open PyProof.Rows.KeyOrd renaming kle_trans->yN,kle_of_klt->Z6,kle_refl->Jd,kle_antisymm->nT
open Ne renaming symm->ZJ
open PySem.SeqAt renaming shaped->ZS,EqAt->Ic,canLay_of_shaped->LI
open True renaming intro->Zg
open Int renaming emod_nonneg->Zh,emod_lt_of_pos->Zl,ediv_one->CY,toNat_natCast->iO
open Option.some renaming inj->QF,injEq->Hn
open PySem.Obj renaming mapSeq->QU
open PySem.PyData renaming eqv->Ju,depthAll->WU,canLayAll0->Ds,eqvAll->D7,depth->HH,strOk->Ml
open PySem.NameKind renaming free->xc,cell->Kc
open PySem.Builtin.Str renaming occurrences->xk,occurrences->U6,partsBetween->C0,strSliceIndices->Mq,subAt->nv,tooLong->NN
open PySem.Txt renaming split->xq,join->x6,mul->vj,slice->VX,replace->YL,find->uS,sliceBy->BU
open Sum renaming inl->xt,inr->kD
open ForInStep renaming yield->kr,done->Vh
open Option renaming map_some->XH,isSome_map->Uy,map->wm,isSome_some->Cr,isSome_none->gq,getD_none->nX
open PySem.Str renaming ofString->Xq,length->Wi,empty->BD,join->B1
open PySem.Calls renaming spliced_cons->V6,callWith_builtin->uc,Constant_str->Ub,spliced_nil->wJ,evalArgs_plain->dd,Name_function_global->HS
open PySem.Builtin.Tuple renaming tupleExact->u9,tupleItemsOf->NW
open Function renaming comp->wq
open List.Pairwise renaming nil->WM
open PySem.Builtin.Slice renaming slicePlaces->WN,sliceAdjust->d4,sliceApplied->gS,sliceFields->NJ,slicePartIndex->NV
open PySem.StrLaws renaming At->A7,split_free->eH,occ_head->G7,join_split->mn
open PySem.Walks renaming list->bq
open PySem.Code renaming isFrame->b8,frames->EJ
open PySem.Around renaming under->BY,under_plainId->HG
open PyProof.Rows.SortSt renaming mk'->cx
open PyProof.Rows.IsTup renaming new->cy
open PySem.Builtin.List renaming listTooLong->dG,listSameRef->Ed,listLengthHint->lZ,listExtendWith->LV,listFitsIndex->NS
open PySem.Heap.IsSliceOf renaming new->D5
open PySem.CmpOp renaming NotIn->Eo,In->gi
open PySem.PassesOwn renaming never->fP
open Sum.inr renaming inj->FD
open PySem.SeqAt.EqAt renaming str_int->Fu,int_str->ip,int_none->nz,bool_str->n3,int_bool->n4,int_int->n9,bool_none->NB,bool_int->ND,none_str->NH,str_bool->NI,none_int->NK,str_none->NO,none_bool->NP,str_str->NQ,same->NR,bool_bool->NU
open PySem.Heap.IsRevIter renaming typeIs->gX
open PySem.W.WShape renaming has->Gx
open PySem.W.WData renaming int->HK
open List.cons renaming inj->H8
open Array.Perm renaming refl->iY,trans->n7
open Classical renaming propDecidable->MD
open PySem.Builtin.SmallTypes renaming newRecord->NL
open PySem.Heap.DictOf renaming new->NM
open PySem.Builtin.Range renaming rangeSize->NT
noncomputable section
namespace L2
open PySem PySem.Spec PyProof.Rows
abbrev Key:=Sum Int Str
noncomputable def kR:Key->zD->Bool
 | .inl k,v=>hh k v
 | .inr x,v=>IX x v
noncomputable def Il (w:jG):Key->Int
 | .inl k=>hashInt k
 | .inr x=>hashStr w x
theorem QC:∀ {k:Key}{v:zD},kR k v=true->(∃ i t,k=xt i/\v=Vy i t)\/(∃ x t,k=kD x/\v=X3 x t)
 | .inl i,v,h=>by
  obtain⟨t,e⟩:=Value.isInt_shape (k:=i) (v:=v) h;exact .inl ⟨i,t,rfl,e⟩
 | .inr x,v,h=>by
  obtain⟨t,e⟩:=Value.isStrOf_shape (x:=x) (v:=v) h;exact .inr ⟨x,t,rfl,e⟩
theorem fS (i:Int) (t:Tok):kR (.inl i) (.int i t)=true:=by simp[kR,hh]
theorem EW (x:Str) (t:Tok):kR (.inr x) (.str x t)=true:=by simp[kR,IX]
theorem mO (a b:Int):decide ((xt a:Key)=xt b)=(a == b):=by
 by_cases e:a=b
 ·subst e;simp
 ·have h:¬ (xt a:Key)=xt b:=λq=>e (Sum.inl.inj q);rw[decide_eq_false h];exact (beq_eq_false_iff_ne.mpr e).symm
theorem fz (a b:Str):decide ((kD a:Key)=kD b)=decide (a=b):=by
 by_cases e:a=b
 ·subst e;simp
 ·have h:¬ (kD a:Key)=kD b:=λq=>e (FD q);rw[decide_eq_false h,decide_eq_false e]
theorem El (a:Int) (b:Str):decide ((xt a:Key)=kD b)=false:=decide_eq_false (λq=>nomatch q)
theorem iy (a:Str) (b:Int):decide ((kD a:Key)=xt b)=false:=decide_eq_false (λq=>nomatch q)
noncomputable def yT (prog:jB) (w:jG):PySem.KeyKind prog w Key where
 is:=kR
 hash:=Il w
 inj:=λv a b ha g=>by
  rcases QC ha with ⟨i,t,rfl,rfl⟩ | ⟨x,t,rfl,rfl⟩
  ·rcases QC g with ⟨j,u,rfl,e⟩ | ⟨y,u,rfl,e⟩
   ·injection e with c _;rw[c]
   ·exact nomatch e
  ·rcases QC g with ⟨j,u,rfl,e⟩ | ⟨y,u,rfl,e⟩
   ·exact nomatch e
   ·injection e with c _;rw[c]
 byValue:=λk v h=>by
  rcases QC h with ⟨i,t,rfl,rfl⟩ | ⟨x,t,rfl,rfl⟩<;>rfl
 pyHash:=λf h=>by
  rcases QC f with ⟨i,t,rfl,rfl⟩ | ⟨x,t,rfl,rfl⟩
  ·exact wpAny_pyHash_int h
  ·exact wpAny_pyHash_str h
 eqBool:=λl f h=>by
  rcases QC l with ⟨i,t,rfl,rfl⟩ | ⟨x,t,rfl,rfl⟩
  ·rcases QC f with ⟨j,u,rfl,rfl⟩ | ⟨y,u,rfl,rfl⟩
   ·rw[mO] at h;exact wpAny_eqBool_int h
   ·rw[El] at h;exact ip i t y u _ _ _ _ h
  ·rcases QC f with ⟨j,u,rfl,rfl⟩ | ⟨y,u,rfl,rfl⟩
   ·rw[iy] at h;exact Fu x t j u _ _ _ _ h
   ·rw[fz] at h;exact wpAny_eqBool_str h
 «strs» := λk x t v h=>by
  rcases QC h with ⟨i,u,rfl,e⟩ | ⟨y,u,rfl,e⟩
  ·exact nomatch e
  ·injection e with c _;subst c;cases v<;>rfl
theorem Fd (prog:jB) (w:jG) (i:Int) (t:Tok):(yT prog w).is (.inl i) (.int i t)=true:=fS i t
theorem GL (prog:jB) (w:jG) (x:Str) (t:Tok):(yT prog w).is (.inr x) (.str x t)=true:=EW x t
end L2
namespace L2
open PySem PySem.Spec PyProof.Rows
inductive V where
 | non | bl (b:Bool) | int (i:Int) | str (x:Str) | byt (b:Array UInt8) | flt (b:UInt64) | ref (a:zE) | ty (n:String)
 deriving DecidableEq
noncomputable def zj:V->zD->Prop
 | .non,u=>u=vA
 | .bl b,u=>u=Jo b
 | .int i,u=>∃ t,u=Vy i t
 | .str x,u=>∃ t,u=X3 x t
 | .byt b,u=>∃ t,u=nF b t
 | .flt b,u=>∃ t,u=DL b t
 | .ref a,u=>u=qG a
 | .ty n,u=>u=JC n
noncomputable abbrev zd:List V->List zD->Prop:=Paired zj
theorem zd.length (r:zd xs us):xs.length=us.length:=Paired.length r
theorem zd.get:∀ {xs:List V}{us:List zD}{i:Nat}{x:V},zd xs us->xs[i]? = some x->∃ u,us[i]? = some u/\zj x u
 | _,_,_,_,.nil,e=>by simp at e
 | _,_,0,_,.cons r _,e=>by simp at e;subst e;exact⟨_,rfl,r⟩
 | _,_,i+1,x,.cons _ t,e=>by
  obtain⟨u,c,f⟩:=zd.get (i:=i) (x:=x) t (by simpa using e);exact⟨u,by simpa using c,f⟩
theorem zd.set (r:zj x u):∀ {xs:List V}{us:List zD} (i:Nat),zd xs us->zd (xs.set i x) (us.set i u)
 | _,_,_,.nil=>.nil
 | _,_,0,.cons _ t=>.cons r t
 | _,_,i+1,.cons q t=>.cons q (zd.set r i t)
theorem zd.append:∀ {xs ys:List V}{us ws:List zD},zd xs us->zd ys ws->zd (xs++ys) (us++ws)
 | _,_,_,_,.nil,s=>s
 | _,_,_,_,.cons r t,s=>.cons r (zd.append t s)
theorem zd.take:∀ {xs:List V}{us:List zD} (n:Nat),zd xs us->zd (xs.take n) (us.take n)
 | _,_,0,_=>.nil
 | _,_,_+1,.nil=>.nil
 | _,_,n+1,.cons r t=>.cons r (zd.take n t)
theorem zd.drop:∀ {xs:List V}{us:List zD} (n:Nat),zd xs us->zd (xs.drop n) (us.drop n)
 | _,_,0,r=>r
 | _,_,_+1,.nil=>.nil
 | _,_,n+1,.cons _ t=>zd.drop n t
noncomputable def yX:Option V->Option zD->Prop
 | some v,some u=>zj v u
 | none,none=>True
 | _,_=>False
noncomputable def KV {c:Type}:List (c×V)->List (c×zD)->Prop:=Paired λ(p:c×V) (q:c×zD)=>p.1=q.1/\zj p.2 q.2
noncomputable def kV:Key->V
 | .inl i=>.int i
 | .inr x=>.str x
inductive HO where
 | lst (xs:List V)
 | tup (xs:List V)
 | dK (kvs:List (Key×V)) | dT (kvs:List (List Key×V))
 | set (S:Int->Bool) (n:Nat)
 | ins (C dx:zE) (fs:List (Str×V))
 | own (x:zE)
 | xd (fs:List (Str×V))
 | met (f x:zE)
 | rng (lo hi:Int)
 | frz (o:Obj) (u:HO)
 | tbl (ps:Array zD)
 | ext (φ:zi->Prop)
abbrev Hp:=zE->Option HO
noncomputable def upd (H:Hp) (a:zE) (o:HO):Hp:=λb=>if b=a then some o else H b
theorem qp {a:zE}:upd H a o a=some o:=by unfold upd;rw[if_pos rfl]
theorem ja {a b:zE} (h:b≠a):upd H a o b=H b:=by unfold upd;rw[if_neg h]
theorem Hj {H:Hp}{a b:zE}{o u:HO} (h:H a=some o) (h':H b=some u) (d:o≠u):a≠b:=by
 intro e;subst e;rw[h] at h';exact d (QF h')
theorem Jv {H:Hp}{a b:zE}{o:HO} (h:H a=some o) (h':H b=none):a≠b:=by
 intro e;subst e;rw[h] at h';cases h'
section
variable (P:jB) (w:jG)
noncomputable def qA (H:Hp) (h:zi) (a:zE):HO->Prop
 | .lst xs=>xs.length <= zg/\∃ (its:List zD) (n:Nat),zd xs its/\h.get? a=some { cls:=.type "list",data:=.seq its.toArray n }
 | .tup xs=>xs.length <= zg/\∃ its:List zD,zd xs its/\xB h a its.toArray
 | .dK kvs=>kvs.length <= zg/\(a == Zu)=false/\∃ vs,KV kvs vs/\h.DictOf (yT P w) a vs
 | .dT kvs=>kvs.length <= zg/\(a == Zu)=false/\∃ xs:List (List Key×zE×zD),
   Paired (λ(p:List Key×V) (q:List Key×zE×zD)=>p.1=q.1/\H q.2.1=some (.tup (p.1.map kV))/\zj p.2 q.2.2) kvs xs /\
   ∃ o es l,h.get? a=some o/\o.ExactDict/\o.data=.dict es l/\es.toList=xs.map (entryOfKey (Vn (yT P w)))/\(xs.map (·.1)).Nodup
 | .set S n=>h.SetOf (intKind P w) a S n
 | .ins C e fs=>H e=some (.own a)/\fs.length <= 1000/\e≠a/\h.get? a=some (PySem.W.instObj C e) /\
   ∃ c,h.Ns1 e c/\(∀ f,yX (fs.lookup f) (c f))/\PySem.Within c (fs.map (·.1))
 | .own _=>∃ o,h.get? a=some o
 | .xd fs=>∃ c,h.Ns1 a c/\∀ f,yX (fs.lookup f) (c f)
 | .rng lo hi=>∃ t u v,h.get? a=some { cls:=.type "range",data:=.fields #[.int lo t,.int hi u,.int 1 v] }
 | .frz o u=>h.get? a=some o/\qA H h a u
 | .tbl ps=>h.get? a=some { cls:=.none,data:=.fields ps }
 | .met f x=>h.get? a=some (PySem.W.methodObj (.ref f) (.ref x))
 | .ext g=>g h/\(∃ o,h.get? a=some o)/\∀ i j:zi,g i->(∀ o,i.get? a=some o->j.get? a=some o)->g j
def HOk (H:Hp) (h:zi):Prop:=∀ a o,H a=some o->qA P w H h a o
end
section
variable {P:jB}{w:jG}{H H':Hp}{h h':zi}{a:zE}{o:HO}
theorem qA.lt (x:qA P w H h a o):a < h.objs.size:=by
 cases o with
 | lst xs=>obtain⟨_,_,_,_,e⟩:=x;exact jR e
 | tup xs=>obtain⟨_,_,_,p⟩:=x;exact p.lt
 | dK kvs=>obtain⟨_,_,_,_,o,_,_,e,_⟩:=x;exact jR e
 | dT kvs=>obtain⟨_,_,_,_,o,_,_,e,_⟩:=x;exact jR e
 | set S n=>obtain⟨o,_,_,_,e,_⟩:=x;exact jR e
 | ins C c fs=>obtain⟨_,_,_,e,_⟩:=x;exact jR e
 | own y=>obtain⟨_,e⟩:=x;exact jR e
 | xd fs=>obtain⟨_,⟨_,_,_,e,_⟩,_⟩:=x;exact jR e
 | rng lo hi=>obtain⟨_,_,_,e⟩:=x;exact jR e
 | frz ob u=>obtain⟨e,_⟩:=x;exact jR e
 | tbl ps=>exact jR (show h.get? a=some _ from x)
 | met f y=>exact jR (show h.get? a=some _ from x)
 | ext g=>obtain⟨_,⟨_,e⟩,_⟩:=x;exact jR e
theorem Paired.mapP {e g:Type}{F G:e->g->Prop}:∀ {c:List e}{l₂:List g},Paired F c l₂->(∀ a b,F a b->G a b)->Paired G c l₂
 | _,_,.nil,_=>.nil
 | _,_,.cons r t,f=>.cons (f _ _ r) (Paired.mapP t f)
theorem qA.stay (x:qA P w H h a o) (k:∀ b u,(b=a\/H b=some (.own a))->h.get? b=some u->h'.get? b=some u)
  (l:∀ b,H b=some (.own a)->H' b=some (.own a)) (m:∀ b xs,H b=some (.tup xs)->H' b=some (.tup xs)):qA P w H' h' a o:=by
 induction o with
 | lst xs=>obtain⟨z,its,n,r,e⟩:=x;exact⟨z,its,n,r,k _ _ (.inl rfl) e⟩
 | tup xs=>obtain⟨z,its,r,ob,e,c⟩:=x;exact⟨z,its,r,ob,k _ _ (.inl rfl) e,c⟩
 | dK kvs=>obtain⟨z,y,vs,r,ob,es,g,e,c⟩:=x;exact⟨z,y,vs,r,ob,es,g,k _ _ (.inl rfl) e,c⟩
 | dT kvs =>
  obtain⟨z,y,xs,r,ob,es,g,e,c⟩:=x;exact⟨z,y,xs,Paired.mapP r λp q z=>⟨z.1,m _ _ z.2.1,z.2.2⟩,ob,es,g,k _ _ (.inl rfl) e,c⟩
 | set S n=>obtain⟨ob,es,g,t,e,c⟩:=x;exact⟨ob,es,g,t,k _ _ (.inl rfl) e,c⟩
 | ins C B fs =>
  obtain⟨d,z,ne,e,i,⟨j,es,g,s,c⟩,r⟩:=x;exact⟨l _ d,z,ne,k _ _ (.inl rfl) e,i,⟨j,es,g,k _ _ (.inr d) s,c⟩,r⟩
 | own y=>obtain⟨ob,e⟩:=x;exact⟨ob,k _ _ (.inl rfl) e⟩
 | xd fs=>obtain⟨i,⟨j,es,g,e,c⟩,r⟩:=x;exact⟨i,⟨j,es,g,k _ _ (.inl rfl) e,c⟩,r⟩
 | rng lo hi=>obtain⟨t,u,v,e⟩:=x;exact⟨t,u,v,k _ _ (.inl rfl) e⟩
 | frz ob u A=>obtain⟨e,q⟩:=x;exact⟨k _ _ (.inl rfl) e,A q⟩
 | tbl ps =>
  have e:h.get? a=some { cls:=.none,data:=.fields ps }:=x;show h'.get? a=some { cls:=.none,data:=.fields ps };exact k a _ (.inl rfl) e
 | met f y =>
  have e:h.get? a=some (PySem.W.methodObj (.ref f) (.ref y)):=x;show h'.get? a=some (PySem.W.methodObj (.ref f) (.ref y));exact k a _ (.inl rfl) e
 | ext E=>obtain⟨p,⟨o,e⟩,st⟩:=x;exact⟨st _ _ p λo q=>k _ _ (.inl rfl) q,⟨o,k _ _ (.inl rfl) e⟩,st⟩
theorem HOk.lt (x:HOk P w H h) (e:H a=some o):a < h.objs.size:=(x a o e).lt
theorem HOk.fresh (x:HOk P w H h) (e:h.objs.size <= a):H a=none:=by
 cases q:H a with
 | none=>rfl
 | some u=>exact absurd (qR (x.lt q) e) (Z2 _)
theorem HOk.kept (x:HOk P w H h) (k:∀ b u,h.get? b=some u->h'.get? b=some u):HOk P w H h':=λa o e =>
 (x a o e).stay (λb u _ q=>k b u q) (λ_ q=>q) λ_ _ q=>q
theorem HOk.laid (x:HOk P w H h) (k:∀ b u,h.get? b=some u->h'.get? b=some u) (i:h.objs.size <= a) (new:qA P w (upd H a o) h' a o):HOk P w (upd H a o) h':=λb u e=>by
 have f:=x.fresh i;by_cases g:b=a
 ·subst g;rw[qp] at e;cases e;exact new
 ·rw[ja g] at e;exact (x b u e).stay (λc v _ q=>k c v q) (λc q=>by rw[ja (Jv q f)];exact q) λc xs q=>by rw[ja (Jv q f)];exact q
end
def Rd (H:Hp) (a:zE) (u:HO):Prop:=H a=some u\/∃ o,H a=some (.frz o u)
theorem Rd.ok {P:jB}{a:zE} (r:Rd H a u) (x:HOk P w H h):qA P w H h a u:=by
 rcases r with r | ⟨o,r⟩
 ·exact x a u r
 ·obtain⟨_,q⟩:=x a _ r;exact q
noncomputable def Mut:Option HO->Prop
 | some (.lst _)=>True
 | some (.dK _)=>True
 | some (.dT _)=>True
 | some (.set _ _)=>True
 | some (.ins _ _ _)=>True
 | some (.ext _)=>True
 | _=>False
section
variable {P:jB}{w:jG}{H:Hp}{h h':zi}{x e:zE}{o':HO}
theorem HOk.write (ok:HOk P w H h) (j:Mut (H x)) (o:e=x\/H e=some (.own x)) (k:∀ b u,b≠e->h.get? b=some u->h'.get? b=some u) (n:∃ u,h'.get? e=some u)
  (new:qA P w (upd H x o') h' x o'):HOk P w (upd H x o') h':=λb u q=>by
 have g:∀ c y,H c=some (.own y)->c≠x:=λc y r z=>by subst z;rw[r] at j;exact j
 have i:∀ c xs,H c=some (.tup xs)->c≠x:=λc xs r z=>by subst z;rw[r] at j;exact j
 by_cases l:b=x
 ·subst l;rw[qp] at q;cases q;exact new
 ·rw[ja l] at q;by_cases f:b=e
  ·have p:H b=some (.own x):=by
    rcases o with z | z
    ·exact absurd (f.trans z) l
    ·rw[f];exact z
   rw[q] at p;cases p;obtain⟨v,s⟩:=n;exact⟨v,by rw[f];exact s⟩
  ·refine (ok b u q).stay (λc v m r=>k c v ?_ r) (λc r=>by rw[ja (g c b r)];exact r) λc xs r=>by rw[ja (i c xs r)];exact r
   rcases m with rfl | m
   ·exact f
   ·rintro rfl
    rcases o with z | z
    ·exact g c b m z
    ·rw[m] at z;cases z;exact l rfl
end
structure Un (fs ex:List zE) (H H':Hp) (h h':zi):Prop where
 keep:∀ b o,h.get? b=some o->H b=none->b∉fs->b∉ex->h'.get? b=some o
 slot:∀ b o,h.get? b=some o->H b=none->b∈fs->b∉ex->∃ sl,h'.get? b=some { o with slots:=sl }
 free:∀ b o,h.get? b=some o->H b=none->b∉ex->H' b=none
 there:∀ b o,h.get? b=some o->b∉ex->∃ o',h'.get? b=some o'
 tups:∀ b xs,H b=some (.tup xs)->H' b=some (.tup xs)
 frzs:∀ b o u,H b=some (.frz o u)->H' b=some (.frz o u)
 tbls:∀ b ps,H b=some (.tbl ps)->∃ more,H' b=some (.tbl (ps++more))
section
variable {fs fs' ex ex':List zE}{H H1 H2:Hp}{h h1 h2 h':zi}{a x e:zE}{o:HO}
theorem Un.any (u:Un fs ex H H1 h h1) {b:zE}{ob:Obj} (q:h.get? b=some ob) (n:H b=none) (c:b∉ex):∃ g,h1.get? b=some { ob with slots:=g }:=by
 by_cases f:b∈fs
 ·exact u.slot b ob q n f c
 ·exact⟨ob.slots,u.keep b ob q n f c⟩
theorem Un.kept (k:∀ b u,h.get? b=some u->h'.get? b=some u):Un fs ex H H h h' :=
 ⟨λb ob q _ _ _=>k b ob q,λb ob q _ _ _=>⟨ob.slots,k b ob q⟩,λ_ _ _ n _=>n,λb ob q _=>⟨ob,k b ob q⟩,λ_ _ q=>q,λ_ _ _ q=>q,λ_ ps q=>⟨#[],by rw[q];simp⟩⟩
theorem Un.refl:Un fs ex H H h h:=Un.kept λ_ _ q=>q
theorem Un.laid (k:∀ b u,h.get? b=some u->h'.get? b=some u) (f:h.objs.size <= a) (c:H a=none):Un fs ex H (upd H a o) h h' where
 keep:=λb u q _ _ _=>k b u q
 slot:=λb u q _ _ _=>⟨u.slots,k b u q⟩
 free:=λb u q n _=>by rw[ja (je (qR (jR q) f))];exact n
 there:=λb u q _=>⟨u,k b u q⟩
 tups:=λb xs q=>by rw[ja (Jv q c)];exact q
 frzs:=λb u xs q=>by rw[ja (Jv q c)];exact q
 tbls:=λb ps q=>⟨#[],by rw[ja (Jv q c),q];simp⟩
theorem Un.write (f:Mut (H x)) (l:e=x\/H e=some (.own x)) (k:∀ b u,b≠e->h.get? b=some u->h'.get? b=some u) (g:∃ u,h'.get? e=some u):Un fs ex H (upd H x o) h h':=by
 have i:∀ b,H b=none->b≠x:=λb n z=>by subst z;rw[n] at f;exact f
 have j:∀ b,H b=none->b≠e:=λb n z=>by
  subst z;rcases l with r | r
  ·exact i b n r
  ·rw[n] at r;cases r
 have hm:∀ b u,H b=some u -> ¬ Mut (some u)->b≠x:=λb u q m z=>by subst z;rw[q] at f;exact m f
 refine⟨λb u q n _ _=>k b u (j b n) q,λb u q n _ _=>⟨u.slots,k b u (j b n) q⟩,λb u q n _=>by rw[ja (i b n)];exact n,λb u q _=>?_,
  λb xs q=>by rw[ja (hm b _ q λz=>z)];exact q,λb u xs q=>by rw[ja (hm b _ q λz=>z)];exact q,λb ps q=>⟨#[],by rw[ja (hm b _ q λz=>z),q];simp⟩⟩
 by_cases c:b=e
 ·subst c;exact g
 ·exact⟨u,k b u c q⟩
end
noncomputable def trk (h:zi) (H:Hp):List zE:=(qE h.objs.size).filter λa=>(H a).isSome
noncomputable def Qr (h:zi) (H:Hp):zi:=PySem.W.hideAll h (trk h H)
theorem gG (h:zi) (H:Hp):(Qr h H).objs.size=h.objs.size:=PySem.W.hideAll_size _ _
theorem Gu {h:zi}{H:Hp}{b:zE}{o:Obj} (e:h.get? b=some o) (n:H b=none):(Qr h H).get? b=some o :=
 PySem.W.hideAll_get _ e λhm=>by
  have q:(H b).isSome=true:=(List.mem_filter.mp hm).2;rw[n] at q;simp at q
theorem Dz {b:zE}{o:Obj} (e:(Qr h H).get? b=some o):h.get? b=some o/\H b=none:=by
 have c:h.get? b=some o:=PySem.W.of_hideAll (trk h H) e;refine⟨c,?_⟩;cases q:H b with
 | none=>rfl
 | some x =>
  have hm:b∈trk h H:=List.mem_filter.mpr ⟨List.mem_range.mpr (jR c),by simp[q]⟩;have z:(Qr h H).get? b=none:=PySem.W.hideAll_none (trk h H) hm;rw[z] at e;cases e
noncomputable def ix (g h:zi) (L:zE):List (zE×Obj):=(qE h.objs.size).filterMap λa=>if a=L\/(g.get? a).isSome=true then none else (h.get? a).map λo=>(a,o)
noncomputable def j7 (g h:zi) (L d:zE):List (zE×Obj):=(ix g h L).filter λp=>decide (p.1≠d)
end L2
namespace L2
open PySem PySem.Spec PyProof.Rows
structure Mod (K:PySem.W.Frag) (mg:Str->Option zD) (base:zi):Prop where
 kin:K.In base
 glob:base.Ns jb mg
 blt:∃ mb,base.Ns B7 mb/\∀ x:Str,x ≠ "__name__" -> mb x=qk x
 nolimit:base.NoLimit
structure Cx where
 prog:jB
 w:jG
 K:PySem.W.Frag
 mg:Str->Option zD
 base:zi
 A:jc
 N:List Str
 s₀:zJ
 H₀:Hp
 env:Env
 outer:List Env
 stack:List Env
 ex:List zE
 fn:Str->Bool
 calm:Bool
 pn:List (zE×Obj)
 xe:zD->zJ->Prop
noncomputable def frs (l:List Env):List zE:=l.filterMap (·.frame)
noncomputable abbrev Cx.fs (X:Cx):List zE:=frs X.outer
def Vis (c:Za) (x:Str):Prop:=c.names.lookup x=some .local\/c.names.lookup x=some .cell\/c.names.lookup x=some .free
def Loc (c:Za) (x:Str):Prop:=c.names.lookup x=some .local\/c.names.lookup x=some .cell
def fg (env:Env) (h:zi) (m:Str->Option zD) (x:Str) (u:zD):Prop :=
 (env.kindOf x=some .local/\m x=some u)\/((env.kindOf x=some .cell\/env.kindOf x=some .free)/\∃ c,env.cells.lookup x=some c/\h.IsCell c (some u))
structure Cx.Ok (X:Cx):Prop where
 mod:Mod X.K X.mg X.base
 kind:X.env.scope.kind=.function
 glob:X.env.globals=jb
 blt:X.env.builtins=B7
 above:X.s₀.heap.objs.size <= X.env.locals
 inj:∀ x y c,X.env.cells.lookup x=some c->X.env.cells.lookup y=some c->x=y
 has:∀ x,(X.env.kindOf x=some .cell\/X.env.kindOf x=some .free)->∃ c,X.env.cells.lookup x=some c
 cab:∀ x c,X.fn x=true->X.env.cells.lookup x=some c->X.s₀.heap.objs.size <= c
 hd:X.calm=true->X.A.handled=none
 frames:X.A.frames=some X.stack
 stk:X.stack=X.outer\/(X.stack=X.env::X.outer/\X.env.frame=some X.env.locals)
 exf:∀ b∈X.ex,b≠X.env.locals/\∀ x c,X.env.cells.lookup x=some c->c≠b
 bs:∀ b o,X.base.get? b=some o->X.s₀.heap.get? b=some o/\X.H₀ b=none
 bsz:X.base.objs.size <= X.s₀.heap.objs.size
 noex:∀ b o,X.base.get? b=some o->b∉X.ex
 exfs:∀ b∈X.ex,b∉X.fs
 funs:X.s₀.heap.FunFrames X.base X.outer
 frf:∀ b∈X.fs,X.H₀ b=none
structure Inv (X:Cx) (pins:List (zE×Obj)) (σ:List (Option V)) (H:Hp) (s:zJ):Prop where
 ok:X.Ok
 os:s.os=X.s₀.os
 bare:JN s.gens
 base:Un X.fs X.ex X.H₀ H X.s₀.heap s.heap
 loc:∃ m,s.heap.Ns X.env.locals m/\∀ (i:Nat) (x:Str) (v:V),X.N[i]? = some x->σ[i]? = some (some v)->Vis X.env.scope x->∃ u,zj v u/\fg X.env s.heap m x u
 cell:∀ x c,X.env.cells.lookup x=some c->∃ v,s.heap.IsCell c v
 free:H X.env.locals=none
 freeC:∀ x c,X.env.cells.lookup x=some c->H c=none
 pin:∀ p∈X.pn++pins,s.heap.get? p.1=some p.2/\H p.1=none/\p.1≠X.env.locals/\p.1∉X.fs/\∀ v,p.2.data≠.cell v
 hok:HOk X.prog X.w H s.heap
 len:σ.length=X.N.length
 tk:0 < s.toks
section
variable {X:Cx}{pins:List (zE×Obj)}{σ:List (Option V)}{H H':Hp}{s:zJ}{h':zi}
theorem Cx.Ok.nofr (ok:X.Ok) {b:zE}{o:Obj} (e:X.base.get? b=some o):b∉X.fs:=λc=>by
 have:=(ok.funs.mem c).1;rw[e] at this;cases this
theorem Inv.bs (I:Inv X pins σ H s):∀ b o,X.base.get? b=some o->s.heap.get? b=some o/\H b=none:=λb o e =>
 ⟨I.base.keep b o (I.ok.bs b o e).1 (I.ok.bs b o e).2 (I.ok.nofr e) (I.ok.noex b o e),I.base.free b o (I.ok.bs b o e).1 (I.ok.bs b o e).2 (I.ok.noex b o e)⟩
theorem Inv.bk (I:Inv X pins σ H s):∀ b o,X.base.get? b=some o->s.heap.get? b=some o:=λb o e=>(I.bs b o e).1
theorem Inv.mod (I:Inv X pins σ H s):Mod X.K X.mg X.base:=I.ok.mod
theorem Inv.kIn (I:Inv X pins σ H s):X.K.In s.heap:=I.ok.mod.kin.keeps I.bk
theorem Inv.fr (I:Inv X pins σ H s):∃ m,Fr X.base X.env.locals s.heap m :=
 let ⟨m,c,_⟩:=I.loc
 ⟨m,c,I.bk,jM I.ok.bsz I.ok.above⟩
theorem Inv.lt (I:Inv X pins σ H s):X.env.locals < s.heap.objs.size:=let ⟨_,c,_⟩:=I.loc;c.lt
theorem Inv.sz (I:Inv X pins σ H s):X.s₀.heap.objs.size <= s.heap.objs.size:=jM I.ok.above (UD I.lt)
theorem Inv.nofs (I:Inv X pins σ H s) {a:zE} (h:s.heap.objs.size <= a):a∉X.fs:=λc=>by
 obtain⟨_,o,e,_⟩:=I.ok.funs.mem c;exact absurd (qR (jR e) (jM I.sz h)) (Z2 _)
theorem Inv.cne (I:Inv X pins σ H s):∀ x c,X.env.cells.lookup x=some c->c≠X.env.locals:=λx c e z=>by
 obtain⟨v,o,h,hd⟩:=I.cell x c e;obtain⟨m,⟨i,es,j,f,g,_⟩,_⟩:=I.loc;rw[z,f] at h;cases h;rw[g] at hd;cases hd
theorem Inv.funs (I:Inv X pins σ H s):s.heap.FunFrames X.base X.outer:=by
 have all:∀ (l:List Env),(∀ b∈frs l,b∈X.fs)->X.s₀.heap.FunFrames X.base l->s.heap.FunFrames X.base l:=by
  intro l
  induction l with
  | nil=>intro _ _;trivial
  | cons env r h =>
   intro hs i;obtain⟨j,⟨L,o,c,m,n,hd⟩,p⟩:=i;have f:L∈X.fs:=hs L (by unfold frs;rw[vz,c];exact qa);obtain⟨q,e⟩:=I.base.slot L o n (I.ok.frf L f) f λz=>I.ok.exfs L z f;exact⟨j,⟨L,_,c,m,e,hd⟩,h (λb g=>hs b (by unfold frs;rw[vz,c];exact jh _ g)) p⟩
 exact all X.outer (λ_ g=>g) I.ok.funs
theorem Inv.stack (I:Inv X pins σ H s):s.heap.FunFrames X.base X.stack:=by
 rcases I.ok.stk with e | ⟨e,c⟩
 ·rw[e];exact I.funs
 ·rw[e];obtain⟨m,f,_⟩:=I.loc;refine .cons (by rw[I.ok.kind];decide) c f ?_ I.funs;exact Heap.get?_none_of_le (jM I.ok.bsz I.ok.above)
theorem Inv.stkSub (I:Inv X pins σ H s):∀ b∈frs X.stack,b∈X.env.locals::X.fs:=λb c=>by
 rcases I.ok.stk with e | ⟨e,f⟩
 ·rw[e] at c;exact jh _ c
 ·rw[e] at c;unfold frs at c;rw[vz,f] at c;exact c
theorem Inv.stkFree (I:Inv X pins σ H s):∀ b∈frs X.stack,H b=none:=λb c=>by
 rcases List.mem_cons.mp (I.stkSub b c) with e | c
 ·rw[e];exact I.free
 ·obtain⟨_,o,f,_⟩:=I.ok.funs.mem c;exact I.base.free b o f (I.ok.frf b c) λz=>I.ok.exfs b z c
theorem Inv.step {t':Nat}{d':Drawn}{ch:List zE} (I:Inv X pins σ H s)
  (g:∀ b∈ch,(b∈X.ex\/X.s₀.heap.objs.size <= b)/\b≠X.env.locals/\(∀ x c,X.env.cells.lookup x=some c->c≠b)/\∀ p∈X.pn++pins,p.1≠b)
  (keep:∀ b o,b≠X.env.locals->b∉X.fs->b∉ch->s.heap.get? b=some o->H b=none->h'.get? b=some o)
  (slot:∀ b o,b≠X.env.locals->b∈X.fs->b∉ch->s.heap.get? b=some o->H b=none->∃ J,h'.get? b=some { o with slots:=J }) (free:∀ b o,b∉ch->s.heap.get? b=some o->H b=none->H' b=none)
  (there:∀ b o,b∉ch->s.heap.get? b=some o->∃ C,h'.get? b=some C)
  (tups:∀ b xs,H b=some (.tup xs)->H' b=some (.tup xs)) (frzs:∀ b o u,H b=some (.frz o u)->H' b=some (.frz o u)) (tbls:∀ b ps,H b=some (.tbl ps)->∃ more,H' b=some (.tbl (ps++more)))
  (ns:∀ m,s.heap.Ns X.env.locals m->h'.Ns X.env.locals m) (hok:HOk X.prog X.w H' h') (U:JN g') (Y:0 < t':=by first | exact yv _ | assumption | exact Inv.tk (by assumption) | lia) :
  Inv X pins σ H' { s with heap:=h',gens:=g',drawn:=d',toks:=t' }:=by
 have E:∀ b o,X.s₀.heap.get? b=some o->b≠X.env.locals:=λb o e=>je (qR (jR e) I.ok.above);have t:∀ b o,X.s₀.heap.get? b=some o->b∉X.ex->b∉ch:=λb o e f A=>by
  rcases (g b A).1 with z | z
  ·exact f z
  ·exact absurd (qR (jR e) z) (Z2 _)
 have h:∀ x c,X.env.cells.lookup x=some c->∀ v,s.heap.IsCell c v->h'.IsCell c v:=λx c e v ⟨o,B,hd⟩=>by
  have j:c∉ch:=λz=>(g c z).2.2.1 x c e rfl;by_cases M:c∈X.fs
  ·obtain⟨J,q⟩:=slot c o (I.cne x c e) M j B (I.freeC x c e);exact⟨_,q,hd⟩
  ·exact⟨o,keep c o (I.cne x c e) M j B (I.freeC x c e),hd⟩
 refine⟨I.ok,I.os,U,⟨λb o e n A f=>?_,λb o e n A f=>?_,λb o e n f=>?_,λb o e f=>?_,λb xs e=>tups b xs (I.base.tups b xs e),λb o xs e=>frzs b o xs (I.base.frzs b o xs e),λb ps e=>?_⟩,?_,λx c e=>?_,?_,λx c e=>?_,λp N=>?_,hok,I.len,Y⟩
 ·exact keep b o (E b o e) A (t b o e f) (I.base.keep b o e n A f) (I.base.free b o e n f)
 ·obtain⟨J,y⟩:=I.base.slot b o e n A f;obtain⟨L,G⟩:=slot b _ (E b o e) A (t b o e f) y (I.base.free b o e n f);exact⟨L,G⟩
 ·obtain⟨C,y⟩:=I.base.there b o e f;exact free b C (t b o e f) y (I.base.free b o e n f)
 ·obtain⟨C,y⟩:=I.base.there b o e f;exact there b C (t b o e f) y
 ·obtain⟨m1,y⟩:=I.base.tbls b ps e;obtain⟨m2,G⟩:=tbls b _ y;exact⟨m1++m2,by rw[G,Array.append_assoc]⟩
 ·obtain⟨m,hn,hl⟩:=I.loc;refine⟨m,ns m hn,λi x v y G e3=>?_⟩;obtain⟨u,r,l⟩:=hl i x v y G e3;refine⟨u,r,?_⟩;rcases l with l | ⟨k,c,e,z⟩
  ·exact .inl l
  ·exact .inr ⟨k,c,e,h x c e _ z⟩
 ·obtain⟨v,z⟩:=I.cell x c e;exact⟨v,h x c e v z⟩
 ·obtain⟨m,⟨o,_,_,B,_⟩,_⟩:=I.loc;exact free _ o (λz=>(g _ z).2.1 rfl) B I.free
 ·obtain⟨v,o,B,hd⟩:=I.cell x c e;exact free c o (λz=>(g c z).2.2.1 x c e rfl) B (I.freeC x c e)
 ·obtain⟨e,n,ne,Q,d⟩:=I.pin p N;have j:p.1∉ch:=λz=>(g p.1 z).2.2.2 p N rfl;exact⟨keep p.1 p.2 ne Q j e n,free p.1 p.2 j e n,ne,Q,d⟩
theorem Inv.un {t':Nat} (I:Inv X pins σ H s) (u:Un X.fs [] H H' s.heap h') (hok:HOk X.prog X.w H' h') (j:0 < t':=by first | exact yv _ | assumption | exact Inv.tk (by assumption) | lia):Inv X pins σ H' { s with heap:=h',toks:=t' }:=by
 obtain⟨m,⟨o,es,q,i,r⟩,_⟩:=id I.loc;obtain⟨t,l⟩:=u.any i I.free (by simp);exact I.step (g':=s.gens) (d':=s.drawn) (ch:=[]) (λ_ z=>nomatch z) (λb o _ f _ e n=>u.keep b o e n f (by simp)) (λb o _ f _ e n=>u.slot b o e n f (by simp)) (λb o _ e n=>u.free b o e n (by simp)) (λb o _ e=>u.there b o e (by simp)) u.tups u.frzs u.tbls (λv hm=>by
  obtain⟨x,g,h,c,p⟩:=hm;rw[i] at c;cases c;exact⟨_,g,h,l,p⟩) hok I.bare j
theorem Inv.call {t':Nat}{d':Drawn} (I:Inv X pins σ H s) (u:Un (frs X.stack) ch H H' s.heap h') (hok:HOk X.prog X.w H' h') (t:JN g')
  (g:∀ b∈ch,(b∈X.ex\/X.s₀.heap.objs.size <= b)/\b≠X.env.locals/\(∀ x c,X.env.cells.lookup x=some c->c≠b)/\∀ p∈X.pn++pins,p.1≠b) (v:0 < t':=by first | exact yv _ | assumption | exact Inv.tk (by assumption) | lia) :
  Inv X pins σ H' { s with heap:=h',gens:=g',drawn:=d',toks:=t' }:=by
 obtain⟨m,⟨o,es,B,q,r⟩,_⟩:=id I.loc;obtain⟨C,i⟩:=u.any q I.free λz=>(g _ z).2.1 rfl;exact I.step (ch:=ch) g (λb o i y f e n=>u.keep b o e n (λz=>(List.mem_cons.mp (I.stkSub b z)).elim i y) f) (λb o _ _ f e n=>u.any e n f) (λb o f e n=>u.free b o e n f) (λb o f e=>u.there b o e f) u.tups u.frzs u.tbls (λE hm=>by
  obtain⟨G,j,l,h,A⟩:=hm;rw[q] at h;cases h;exact⟨_,j,l,i,A⟩) hok t v
theorem Inv.turned {t':Nat}{it:zE} (I:Inv X pins σ H s) (k:∀ b o,b≠it->s.heap.get? b=some o->h'.get? b=some o) (i:H it=none) (h:it≠X.env.locals)
  (j:it∈X.ex\/X.s₀.heap.objs.size <= it) (l:∀ x c,X.env.cells.lookup x=some c->c≠it) (t:∀ p∈X.pn++pins,p.1≠it) (w:0 < t':=by first | exact yv _ | assumption | exact Inv.tk (by assumption) | lia):Inv X pins σ H { s with heap:=h',toks:=t' }:=by
 have g:∀ b u,H b=some u->b≠it:=λb u e z=>by rw[z,i] at e;cases e
 refine I.step (g':=s.gens) (d':=s.drawn) (ch:=[it]) (λb y=>?_) (λb o _ _ f e _=>k b o (λz=>f (by simp[z])) e) (λb o _ _ f e _=>⟨o.slots,k b o (λz=>f (by simp[z])) e⟩) (λ_ _ _ _ n=>n)
  (λb o f e=>⟨o,k b o (λz=>f (by simp[z])) e⟩) (λ_ _ e=>e) (λ_ _ _ e=>e) (λb ps e=>⟨#[],by rw[e];simp⟩) (λm hm=>?_) (λb u e=>?_) I.bare w
 ·have e:b=it:=by simpa using y
  subst e;exact⟨j,h,l,t⟩
 ·obtain⟨o,es,A,B,r⟩:=hm;exact⟨o,es,A,k _ o (ZJ h) B,r⟩
 ·refine (I.hok b u e).stay (λc v f q=>k c v ?_ q) (λ_ q=>q) λ_ _ q=>q;rcases f with z | z
  ·rw[z];exact g b u e
  ·exact g c _ z
theorem Inv.tok (I:Inv X pins σ H s) (t:Nat) (c:0 < t:=by first | exact yv _ | assumption | exact Inv.tk (by assumption) | lia):Inv X pins σ H { s with toks:=t }:=I.un (h':=s.heap) (t':=t) Un.refl I.hok c
theorem Inv.kept {t':Nat} (I:Inv X pins σ H s) (k:∀ b u,s.heap.get? b=some u->h'.get? b=some u) (c:0 < t':=by first | exact yv _ | assumption | exact Inv.tk (by assumption) | lia):Inv X pins σ H { s with heap:=h',toks:=t' }:=I.un (Un.kept k) (I.hok.kept k) c
theorem Inv.laid {a:zE}{t':Nat} (I:Inv X pins σ H s) (k:∀ b u,s.heap.get? b=some u->h'.get? b=some u) (c:s.heap.objs.size <= a) (new:qA X.prog X.w (upd H a o) h' a o) (e:0 < t':=by first | exact yv _ | assumption | exact Inv.tk (by assumption) | lia) :
  Inv X pins σ (upd H a o) { s with heap:=h',toks:=t' }:=I.un (Un.laid k c (I.hok.fresh c)) (I.hok.laid k c new) e
theorem Inv.write {x e:zE}{t':Nat} (I:Inv X pins σ H s) (f:Mut (H x)) (g:e=x\/H e=some (.own x)) (k:∀ b u,b≠e->s.heap.get? b=some u->h'.get? b=some u) (c:∃ u,h'.get? e=some u)
  (new:qA X.prog X.w (upd H x o) h' x o) (h:0 < t':=by first | exact yv _ | assumption | exact Inv.tk (by assumption) | lia):Inv X pins σ (upd H x o) { s with heap:=h',toks:=t' }:=I.un (Un.write f g k c) (I.hok.write f g k c new) h
theorem Inv.weak {c:List (Option V)} (I:Inv X pins σ H s) (f:c.length=σ.length) (w:∀ (i:Nat) v,c[i]? = some (some v)->σ[i]? = some (some v)):Inv X pins c H s :=
 ⟨I.ok,I.os,I.bare,I.base,let ⟨m,g,e⟩:=I.loc;⟨m,g,λi x v h j l=>e i x v h (w i v j) l⟩,I.cell,I.free,I.freeC,I.pin,I.hok,f.trans I.len,I.tk⟩
theorem Inv.pins_of {pins':List (zE×Obj)} (I:Inv X pins σ H s) (h:∀ p∈pins',s.heap.get? p.1=some p.2/\H p.1=none/\p.1≠X.env.locals/\p.1∉X.fs/\∀ v,p.2.data≠.cell v):Inv X pins' σ H s :=
 ⟨I.ok,I.os,I.bare,I.base,I.loc,I.cell,I.free,I.freeC,λp c=>(List.mem_append.mp c).elim (λz=>I.pin p (Bj _ z)) (h p),I.hok,I.len,I.tk⟩
theorem DT {N:List Str} (c:N.Nodup) {i j:Nat}{x:Str} (a:N[i]? = some x) (b:N[j]? = some x):i=j:=by
 obtain⟨g,e⟩:=List.getElem?_eq_some_iff.mp a;obtain⟨h,f⟩:=List.getElem?_eq_some_iff.mp b;exact (List.getElem_inj c).mp (e.trans f.symm)
theorem c6 {M:xa}{i:Nat}{x:Str}{Q:Unit->zJ->Prop} (I:Inv X pins σ H s) (hN:X.N.Nodup) (hi:X.N[i]? = some x) (l:Loc X.env.scope x) (r:zj v u)
  (h:∀ s',Inv X pins (σ.set i (some v)) H s'->(∃ a,xR a s.heap s'.heap/\(a=X.env.locals\/X.env.cells.lookup x=some a))->Q () s') (hf:X.fn x=true\/X.env.scope.names.lookup x=some .local:=by first | exact .inl rfl | exact .inr rfl | assumption):wpAny M A (storeName X.env x u) Q E s:=by
 obtain⟨m,hn,hl⟩:=id I.loc;have Y:(X.env.scope.kind == .class || (X.env.scope.kind == .module && X.env.locals != X.env.globals))=false:=by rw[I.ok.kind];rfl
 have C:i < σ.length:=by rw[I.len];exact (List.getElem?_eq_some_iff.mp hi).1
 have cne:=I.cne;have tracked:∀ {a:zE}{h':zi},(∃ o,s.heap.get? a=some o/\H a=none)->xR a s.heap h'->HOk X.prog X.w H h':=λ{a h'} ha hs b ob e=>by
  obtain⟨_,_,t⟩:=ha;refine (I.hok b ob e).stay (λc w' g q=>(hs.2 c ?_).trans q) (λ_ q=>q) λ_ _ q=>q
  rintro rfl
  rcases g with rfl | g
  ·rw[t] at e;cases e
  ·rw[t] at g;cases g
 rcases l with G | G
 ·refine FU G hn (λh' hn' hs=>?_) Y;obtain⟨oL,_,_,hoL,_⟩:=id hn;refine h _ ⟨I.ok,I.os,I.bare,⟨λb o e n J l=>?_,λb o e n J l=>?_,I.base.free,λb o e l=>?_,I.base.tups,I.base.frzs,I.base.tbls⟩,⟨_,hn',λj y v' f B e3=>?_⟩,λy c e=>?_,I.free,I.freeC,λp hp=>?_,tracked ⟨oL,hoL,I.free⟩ hs,by simpa using I.len,yv _⟩ ⟨_,hs,.inl rfl⟩
  ·exact (hs.2 b (je (qR (jR e) I.ok.above))).trans (I.base.keep b o e n J l)
  ·obtain⟨sl,f⟩:=I.base.slot b o e n J l;exact⟨sl,(hs.2 b (je (qR (jR e) I.ok.above))).trans f⟩
  ·obtain⟨o',f⟩:=I.base.there b o e l;exact⟨o',(hs.2 b (je (qR (jR e) I.ok.above))).trans f⟩
  ·by_cases L:j=i
   ·subst L;rw[hi] at f;cases f;rw[J6 C] at B;cases B;exact⟨u,r,.inl ⟨G,by simp⟩⟩
   ·rw[Zk (ZJ L)] at B;obtain⟨u',r',q⟩:=hl j y v' f B e3;refine⟨u',r',?_⟩;rcases q with ⟨k,e⟩ | ⟨k,c,e,z⟩
    ·refine .inl ⟨k,?_⟩;have:y≠x:=λe=>L (DT hN f (e ▸ hi));simp[this,e]
    ·exact .inr ⟨k,c,e,z.sameBut hs (cne y c e)⟩
  ·obtain⟨w',z⟩:=I.cell y c e;exact⟨w',z.sameBut hs (cne y c e)⟩
  ·obtain⟨e,n,ne,nf,d⟩:=I.pin p hp;exact⟨(hs.2 p.1 ne).trans e,n,ne,nf,d⟩
 ·have U:X.fn x=true:=by
   rcases hf with z | z
   ·exact z
   ·rw[z] at G;cases G
  obtain⟨c,g⟩:=I.ok.has x (.inl G);obtain⟨w',z⟩:=I.cell x c g;refine wpAny_storeName_cell I.ok.kind G g z (λh' hc' hs=>?_);obtain⟨oc,hoc,hocd⟩:=id z;refine h { s with heap:=h' } ⟨I.ok,I.os,I.bare,⟨λb o e n J l=>?_,λb o e n J l=>?_,I.base.free,λb o e l=>?_,I.base.tups,I.base.frzs,I.base.tbls⟩,⟨m,hn.sameBut hs (ZJ (cne x c g)),λj y v' f B e3=>?_⟩,λy c' e=>?_,I.free,I.freeC,λp hp=>?_,tracked ⟨oc,hoc,I.freeC x c g⟩ hs,by simpa using I.len,I.tk⟩ ⟨c,hs,.inr g⟩
  ·exact (hs.2 b (je (qR (jR e) (I.ok.cab x c U g)))).trans (I.base.keep b o e n J l)
  ·obtain⟨sl,f⟩:=I.base.slot b o e n J l;exact⟨sl,(hs.2 b (je (qR (jR e) (I.ok.cab x c U g)))).trans f⟩
  ·obtain⟨o',f⟩:=I.base.there b o e l;exact⟨o',(hs.2 b (je (qR (jR e) (I.ok.cab x c U g)))).trans f⟩
  ·by_cases L:j=i
   ·subst L;rw[hi] at f;cases f;rw[J6 C] at B;cases B;exact⟨u,r,.inr ⟨.inl G,c,g,hc'⟩⟩
   ·rw[Zk (ZJ L)] at B;obtain⟨u',r',q⟩:=hl j y v' f B e3;refine⟨u',r',?_⟩;rcases q with q | ⟨k,c',e,z'⟩
    ·exact .inl q
    ·refine .inr ⟨k,c',e,z'.sameBut hs ?_⟩
     rintro rfl
     exact L (DT hN f (I.ok.inj _ _ _ e g ▸ hi))
  ·by_cases hcc:c'=c
   ·subst hcc;exact⟨_,hc'⟩
   ·obtain⟨w2,z2⟩:=I.cell y c' e;exact⟨w2,z2.sameBut hs hcc⟩
  ·obtain⟨e,n,ne,nf,d⟩:=I.pin p hp;refine⟨(hs.2 p.1 ?_).trans e,n,ne,nf,d⟩;intro q;rw[q,hoc] at e;have q':oc=p.2:=QF e;exact d w' (by rw[<- q'];exact hocd)
theorem cW {M:xa}{i:Nat}{x:Str}{Q:Unit->zJ->Prop} (I:Inv X pins σ H s) (e:X.N.Nodup) (hi:X.N[i]? = some x) (f:Loc X.env.scope x) (r:zj v u)
  (h:∀ c,Inv X pins (σ.set i (some v)) H c->Q () c) (g:X.fn x=true\/X.env.scope.names.lookup x=some .local:=by first | exact .inl rfl | exact .inr rfl | assumption):wpAny M A (storeName X.env x u) Q E s :=
 c6 I e hi f r (λc j _=>h c j) g
theorem Inv.call' {f:zJ} (I:Inv X pins σ H s) (h:f.os=s.os) (u:Un (frs X.stack) ch H H' s.heap f.heap) (hok:HOk X.prog X.w H' f.heap) (i:JN f.gens)
  (g:∀ b∈ch,(b∈X.ex\/X.s₀.heap.objs.size <= b)/\b≠X.env.locals/\(∀ x c,X.env.cells.lookup x=some c->c≠b)/\∀ p∈X.pn++pins,p.1≠b) (j:0 < f.toks):Inv X pins σ H' f:=by
 obtain⟨h',g',d',t',l⟩:=f;have e:l=s.os:=h;subst e;exact I.call (g':=g') (t':=t') (d':=d') u hok i g j
end
abbrev XK:=zD->Option zE->Hp->Prop
abbrev St:=List (Option V)
abbrev VK:=V->Hp->Prop
abbrev TE:=St->Hp->VK->Prop
abbrev TT:=St->Hp->(Bool->Hp->Prop)->Prop
abbrev TA:=St->Hp->(List V->Hp->Prop)->Prop
structure Qv where
 nx:St->Hp->Prop
 rt:VK
 bk:St->Hp->Prop:=λ_ _=>False
 ct:St->Hp->Prop:=λ_ _=>False
abbrev TS:=Qv->St->Hp->Prop
def EP (X:Cx) (c:List (zE×Obj)) (σ:St) (Q:VK) (u:zD) (f:zJ):Prop:=∃ v e,Inv X c σ e f/\zj v u/\Q v e
def TP (X:Cx) (c:List (zE×Obj)) (σ:St) (Q:Bool->Hp->Prop) (b:Bool) (f:zJ):Prop:=∃ e,Inv X c σ e f/\Q b e
def AP (X:Cx) (c:List (zE×Obj)) (σ:St) (Q:List V->Hp->Prop) (us:List zD) (f:zJ):Prop:=∃ vs e,Inv X c σ e f/\zd vs us/\Q vs e
def SP (X:Cx) (e:List (zE×Obj)) (D:Qv) (f:Flow) (h:zJ):Prop :=
 match f with
 | .next=>∃ c g,Inv X e c g h/\D.nx c g
 | .brk=>∃ c g,Inv X e c g h/\D.bk c g
 | .cont=>∃ c g,Inv X e c g h/\D.ct c g
 | .ret u=>∃ v c g,Inv X e c g h/\zj v u/\D.rt v g
def PE (X:Cx) (e:zV) (t:TE):Prop :=
 ∀ (c:List (zE×Obj)) (s:zJ) (σ:St) (H:Hp) (Q:VK),Inv X c σ H s->t σ H Q->wpAny (zP X.prog X.w) X.A (zr e X.env) (EP X c σ Q) X.xe s
def PT (X:Cx) (e:zV) (t:TT):Prop :=
 ∀ (c:List (zE×Obj)) (s:zJ) (σ:St) (H:Hp) (Q:Bool->Hp->Prop),Inv X c σ H s->t σ H Q->wpAny (zP X.prog X.w) X.A (isTrue e X.env (zr e X.env)) (TP X c σ Q) X.xe s
def PW (X:Cx) (e:zV) (t:TT):Prop :=
 ∀ (f:Sem zD) (c:List (zE×Obj)) (s:zJ) (σ:St) (H:Hp) (Q:Bool->Hp->Prop),Inv X c σ H s->t σ H Q->wpAny (zP X.prog X.w) X.A (isTrue e X.env f) (TP X c σ Q) X.xe s
theorem PW.pt {X:Cx} (h:PW X e t):PT X e t:=h _
def PA (X:Cx) (es:List zV) (t:TA):Prop :=
 ∀ (pos:Pos) (c:List (zE×Obj)) (s:zJ) (σ:St) (H:Hp) (Q:List V->Hp->Prop),Inv X c σ H s->t σ H Q->wpAny (zP X.prog X.w) X.A (U1 (qX pos (jK es X.env))) (AP X c σ Q) X.xe s
def PS (X:Cx) (st:zf) (t:TS):Prop :=
 ∀ (c:List (zE×Obj)) (s:zJ) (σ:St) (H:Hp) (D:Qv),Inv X c σ H s->t D σ H->wpAny (zP X.prog X.w) X.A (exec st X.env) (SP X c D) X.xe s
def PSs (X:Cx) (st:List zf) (t:TS):Prop :=
 ∀ (c:List (zE×Obj)) (s:zJ) (σ:St) (H:Hp) (D:Qv),Inv X c σ H s->t D σ H->wpAny (zP X.prog X.w) X.A (execs st X.env) (SP X c D) X.xe s
theorem thn {c:Type}{t:Sem c}{Q e:c->zJ->Prop}{M:xa}{A:jc}{E:zD->zJ->Prop}{s:zJ} (h:wpAny M A t Q E s) (f:∀ a s,Q a s->e a s):wpAny M A t e E s:=wpAny_mono h f λ_ _ x=>x
theorem zu {e f g:Type}{t:Sem e}{a b c:e->zJ->f->g->Prop}{Q:e->zJ->Prop}{M:xa}{A:jc}{E:zD->zJ->Prop}{s:zJ} (h:wpAny M A t (λv s=>∃ x y,a v s x y/\b v s x y/\c v s x y) E s) (q:∀ v s x y,a v s x y->b v s x y->c v s x y->Q v s):wpAny M A t Q E s:=thn h λv s z=>by
 obtain⟨x,y,i,j,k⟩:=z;exact q v s x y i j k
end L2
namespace L2
open PySem PySem.Spec PyProof.Rows
section
variable {X:Cx}
def GZ (i:Nat):TE:=λσ H Q=>∃ v,σ[i]? = some (some v)/\Q v H
def tC (v:V):TE:=λ_ H Q=>Q v H
theorem Dv {i:Nat}{x:Str}{pos:Pos} (p:X.N[i]? = some x) (q:Vis X.env.scope x) (hd:(x == ("__debug__" : Str))=false:=by decide) (n:(x == ("__classdict__" : Str))=false:=by decide):PE X (.Name x pos) (GZ i):=by
 intro j s σ H Q I h;obtain⟨v,e,h⟩:=h;obtain⟨m,t,w⟩:=I.loc;obtain⟨u,r,l⟩:=w i x v p e q;have fin:EP X j σ Q u s:=⟨v,H,I,r,h⟩
 rcases l with ⟨g,hm⟩ | ⟨g,c,o,f⟩
 ·exact bJ (wpAny_loadName_local I.ok.kind g t hm fin) hd
 ·rcases g with g | g
  ·exact bJ (wpAny_loadName_cell I.ok.kind g o f fin) hd
  ·exact bJ (wpAny_loadName_free I.ok.kind g o f fin n) hd
theorem wN {i j pos}:PE X (.Constant (.int i) j pos) (tC (.int i)):=λ_ _ _ H _ I h=>wpAny_Constant_int ⟨.int i,H,I.tok _,⟨_,rfl⟩,h⟩
theorem MQ {b j pos}:PE X (.Constant (.bool b) j pos) (tC (.bl b)):=λ_ _ _ H _ I h=>Constant_bool ⟨.bl b,H,I,rfl,h⟩
theorem lO {j pos}:PE X (.Constant .none j pos) (tC .non):=λ_ _ _ H _ I h=>Constant_none ⟨.non,H,I,rfl,h⟩
theorem cG {x j pos}:PE X (.Constant (.str x) j pos) (tC (.str x)):=λ_ _ _ H _ I h=>Ub ⟨.str x,H,I.tok _,⟨_,rfl⟩,h⟩
def Gl (X:Cx) (x:Str):Prop:=X.env.kindOf x=some .globalImplicit
theorem wU {u:zD}{pos:Pos}{Q:zD->zJ->Prop} (I:Inv X c σ H s) (e:Gl X x) (hm:X.mg x=some u) (h:Q u s)
  (hd:(x == ("__debug__" : Str))=false:=by decide):wpAny (zP X.prog X.w) X.A (zr (.Name x pos) X.env) Q E s :=
 HS I.ok.kind e (Calls.loadGlobal_global (by rw[I.ok.glob];exact I.mod.glob.keeps I.bk) hm h) hd
theorem xV {u:zD}{pos:Pos}{Q:zD->zJ->Prop} (I:Inv X c σ H s) (e:Gl X x) (hm:X.mg x=none) (f:qk x=some u) (h:Q u s)
  (g:x ≠ "__name__" := by decide) (hd:(x == ("__debug__" : Str))=false:=by decide):wpAny (zP X.prog X.w) X.A (zr (.Name x pos) X.env) Q E s:=by
 obtain⟨l,i,j⟩:=I.mod.blt;exact HS I.ok.kind e (Calls.loadGlobal_builtin (by rw[I.ok.glob];exact I.mod.glob.keeps I.bk) hm (by rw[I.ok.blt];exact i.keeps I.bk) ((j x g).trans f) h) hd
theorem LK {u:zD}{pos:Pos} (c:Gl X x) (hm:X.mg x=some u) (r:zj v u) (hd:(x == ("__debug__" : Str))=false:=by decide):PE X (.Name x pos) (tC v) :=
 λ_ _ _ H _ I h=>wU I c hm ⟨v,H,I,r,h⟩ hd
theorem gZ {u:zD}{pos:Pos} (c:Gl X x) (hm:X.mg x=none) (e:qk x=some u) (r:zj v u) (f:x ≠ "__name__" := by decide) (hd:(x == ("__debug__" : Str))=false:=by decide):PE X (.Name x pos) (tC v) :=
 λ_ _ _ H _ I h=>xV I c hm e ⟨v,H,I,r,h⟩ f hd
variable {a b:zV}{ta tb:TE}{pos:Pos}
def PC (X:Cx) (g:CmpOp) (a b:zV) (t:TE):Prop :=
 ∀ (c:List (zE×Obj)) (s:zJ) (σ:St) (H:Hp) (Q:VK),Inv X c σ H s->t σ H Q ->
  wpAny (zP X.prog X.w) X.A (zr a X.env) (λv e=>wpAny (zP X.prog X.w) X.A (zr b X.env) (λu f=>wpAny (zP X.prog X.w) X.A (jY g v u) (EP X c σ Q) X.xe f) X.xe e) X.xe s
theorem Fv (b:zV) {c:CmpOp} (h:c≠.In) (e:c≠.NotIn):Jp c b=false:=by
 have f:(c == gi)=false:=by cases c<;>first | rfl | exact absurd rfl h
 have g:(c == Eo)=false:=by cases c<;>first | rfl | exact absurd rfl e
 cases b<;>simp[Jp,f,g]
def Jl (ta:TE):TE:=λσ H Q=>ta σ H λx c=>Q (.bl (decide (x=.non))) c
theorem zj.none_iff (r:zj x v):(v == vA)=decide (x=.non):=by
 cases x with
 | non=>cases r;rfl
 | bl _=>cases r;rfl
 | int _=>obtain⟨t,rfl⟩:=r;rfl
 | str _=>obtain⟨t,rfl⟩:=r;rfl
 | byt _=>obtain⟨t,rfl⟩:=r;rfl
 | flt _=>obtain⟨t,rfl⟩:=r;rfl
 | ref _=>cases r;rfl
 | ty _=>cases r;rfl
theorem EZ {j pos'} (ha:PE X a ta):PC X .Is a (.Constant .none j pos') (Jl ta):=by
 intro c s σ H Q I h;refine zu (ha c s σ H _ I h) λv s1 x e f g i=>?_;exact Constant_none (is_none_gen ⟨.bl _,e,f,by rw[g.none_iff];rfl,i⟩)
def tB (t:TE):TT:=λσ H Q=>t σ H λx e=>∃ c,x=.bl c/\Q c e
theorem nt (h:PC X g a b t) (f:Jp g b=false:=by first | exact Fv _ (by decide) (by decide) | rfl):PT X (.Compare a [g] [b] pos) (tB t):=by
 intro e s σ H Q I hw;refine G1 (thn (h e s σ H _ I hw) λv s1 f=>thn f λu o i=>thn i λc p ⟨x,j,l,m,n⟩=>?_) f;obtain⟨d,rfl,q⟩:=n;cases m;exact xU ⟨j,l,q⟩
variable {tA tB':TT}{j7:List zV}
def qr (t u:TT):TT:=λσ H Q=>t σ H λc e=>if c=true then u σ e Q else Q false e
def tOr (t u:TT):TT:=λσ H Q=>t σ H λc e=>if c=true then Q true e else u σ e Q
def QL (t:TT):TT:=λσ H Q=>t σ H λc e=>Q (!c) e
theorem ft (ha:PT X a tA):PW X (.BoolOp .And [a] pos) tA:=by
 intro g f s σ H Q I h;refine isTrue_and (thn (ha f s σ H Q I h) λc s1 e=>?_);cases c with
 | true=>exact isTrue_and_nil e
 | false=>exact e
theorem IC (ha:PT X a tA):PW X (.BoolOp .Or [a] pos) tA:=by
 intro g f s σ H Q I h;refine isTrue_or (thn (ha f s σ H Q I h) λc s1 e=>?_);cases c with
 | false=>exact isTrue_or_nil e
 | true=>exact e
theorem nu (ha:PT X a tA) (j:PW X (.BoolOp .And (b::j7) pos) tB'):PW X (.BoolOp .And (a::b::j7) pos) (qr tA tB'):=by
 intro l e s σ H Q I h;refine isTrue_and (thn (ha e s σ H _ I h) λc s1 ⟨f,g,i⟩=>?_);cases c with
 | true=>exact j l e s1 σ f Q g i
 | false=>exact⟨f,g,i⟩
theorem IB (ha:PT X a tA) (j:PW X (.BoolOp .Or (b::j7) pos) tB'):PW X (.BoolOp .Or (a::b::j7) pos) (tOr tA tB'):=by
 intro l e s σ H Q I h;refine isTrue_or (thn (ha e s σ H _ I h) λc s1 ⟨f,g,i⟩=>?_);cases c with
 | true=>exact⟨f,g,i⟩
 | false=>exact j l e s1 σ f Q g i
theorem LN (ha:PT X a tA):PT X (.UnaryOp .Not a pos) (QL tA):=by
 intro e s σ H Q I h;exact isTrue_not (ha e s σ H (λc f=>Q (!c) f) I h)
def fY (ta tb:TE):TE:=λσ H Q=>ta σ H λx e=>∃ c,x=.bl c/\if c=true then tb σ e Q else Q (.bl false) e
theorem nO {e} (h:PE X a t):PE X (.BoolOp e [a] pos) t:=λc s σ H Q I hw=>BoolOp_one (h c s σ H Q I hw)
theorem l8 (ha:PE X a ta) (j:PE X (.BoolOp .And (b::j7) pos) tb):PE X (.BoolOp .And (a::b::j7) pos) (fY ta tb):=by
 intro e s σ H Q I h;refine BoolOp_and (zu (ha e s σ H _ I h) λv s1 x g i l f=>?_);obtain⟨c,rfl,f⟩:=f;cases l;refine xU ?_;cases c with
 | true=>exact j e s1 σ g Q i f
 | false=>exact⟨.bl false,g,i,rfl,f⟩
def tIf (t:TT) (ta tb:TE):TE:=λσ H Q=>t σ H λc e=>if c=true then ta σ e Q else tb σ e Q
theorem iM (j:PT X c tA) (ha:PE X a ta) (l:PE X b tb):PE X (.IfExp c a b pos) (tIf tA ta tb):=by
 intro e s σ H Q I h;refine wpAny_IfExp (thn (j e s σ H _ I h) λd s1 ⟨f,g,i⟩=>?_);cases d with
 | true=>exact ha e s1 σ f Q g i
 | false=>exact l e s1 σ f Q g i
end
end L2
namespace L2
open PySem PySem.Spec PyProof.Rows
def SqL (K:PySem.W.Frag) (H:Hp) (a:zE) (xs:List V):Prop :=
 Rd H a (.lst xs) \/
  ∃ (o:Obj) (its:Array zD) (n:Nat),K.lookup a=some o/\o.cls=.type "list" /\ o.dict=none/\o.data=.seq its n/\its.size <= zg/\zd xs its.toList
def SqT (K:PySem.W.Frag) (H:Hp) (a:zE) (xs:List V):Prop :=
 Rd H a (.tup xs) \/
  ∃ (o:Obj) (its:Array zD) (n:Nat),K.lookup a=some o/\o.cls=.type "tuple" /\ o.data=.seq its n/\its.size <= zg/\zd xs its.toList
noncomputable def MV:zD->Option V
 | .none=>some .non
 | .bool b=>some (.bl b)
 | .int i _=>some (.int i)
 | .str x _=>some (.str x)
 | .bytes b _=>some (.byt b)
 | .float b _=>some (.flt b)
 | .ref a=>some (.ref a)
 | .type n=>some (.ty n)
 | _=>none
theorem zj.abs (r:zj x u):MV u=some x:=by
 cases x with
 | non=>cases r;rfl
 | bl _=>cases r;rfl
 | int _=>obtain⟨t,rfl⟩:=r;rfl
 | str _=>obtain⟨t,rfl⟩:=r;rfl
 | byt _=>obtain⟨t,rfl⟩:=r;rfl
 | flt _=>obtain⟨t,rfl⟩:=r;rfl
 | ref _=>cases r;rfl
 | ty _=>cases r;rfl
theorem zj.inj {y:V} (r:zj x u) (q:zj y u):x=y:=QF (r.abs.symm.trans q.abs)
theorem zd.inj:∀ {xs ys:List V}{us:List zD},zd xs us->zd ys us->xs=ys
 | _,_,_,.nil,.nil=>rfl
 | _,_,_,.cons r t,.cons c t'=>by rw[r.inj c,zd.inj t t']
section
variable {X:Cx}{pins:List (zE×Obj)}{σ:St}{H:Hp}{s:zJ}{a:zE}{xs ys:List V}
theorem SqL.of {K:PySem.W.Frag} (h:H a=some (.lst xs)):SqL K H a xs:=.inl (.inl h)
theorem SqT.of {K:PySem.W.Frag} (h:H a=some (.tup xs)):SqT K H a xs:=.inl (.inl h)
theorem Inv.list (I:Inv X pins σ H s) (h:SqL X.K H a xs):∃ its:List zD,zd xs its/\PlainL s.heap a its.toArray/\xs.length <= zg:=by
 rcases h with h | ⟨o,its,n,c,f,hd,hs,g,r⟩
 ·obtain⟨z,its,n,r,e⟩:=h.ok I.hok;exact⟨its,r,⟨_,n,e,rfl,rfl,rfl⟩,z⟩
 ·refine⟨its.toList,r,⟨o,n,I.kIn a o c,f,hd,by simpa using hs⟩,?_⟩;have e:=r.length;simp only[jm] at e
  lia
theorem Inv.tuple (I:Inv X pins σ H s) (h:SqT X.K H a xs):∃ its:List zD,zd xs its/\xB s.heap a its.toArray/\xs.length <= zg:=by
 rcases h with h | ⟨o,its,n,c,f,hs,g,r⟩
 ·obtain⟨z,its,r,p⟩:=h.ok I.hok;exact⟨its,r,p,z⟩
 ·refine⟨its.toList,r,⟨o,I.kIn a o c,f,n,by simpa using hs⟩,?_⟩;have e:=r.length;simp only[jm] at e
  lia
theorem Inv.list_inj (I:Inv X pins σ H s) (h:SqL X.K H a xs) (h':SqL X.K H a ys):xs=ys:=by
 obtain⟨its,r,⟨o,n,e,_,_,d⟩,_⟩:=I.list h;obtain⟨its',f,⟨i,j,c,_,_,d'⟩,_⟩:=I.list h';rw[e] at c;cases c;rw[d] at d';injection d' with g _;have:its=its':=by simpa using congrArg bK g
 subst this;exact r.inj f
theorem Inv.tuple_inj (I:Inv X pins σ H s) (h:SqT X.K H a xs) (h':SqT X.K H a ys):xs=ys:=by
 obtain⟨its,r,⟨o,e,_,n,d⟩,_⟩:=I.tuple h;obtain⟨its',f,⟨i,c,_,j,d'⟩,_⟩:=I.tuple h';rw[e] at c;cases c;rw[d] at d';injection d' with g _;have:its=its':=by simpa using congrArg bK g
 subst this;exact r.inj f
end
noncomputable abbrev Cx.wish (X:Cx) (E:zD->zJ->Prop):Cx:={ X with xe:=E }
noncomputable abbrev Cx.nox (X:Cx):Cx:=X.wish λ_ _=>False
theorem Cx.Ok.wish {X:Cx} (ok:X.Ok) (E:zD->zJ->Prop):(X.wish E).Ok :=
 ⟨ok.mod,ok.kind,ok.glob,ok.blt,ok.above,ok.inj,ok.has,ok.cab,ok.hd,ok.frames,ok.stk,ok.exf,ok.bs,ok.bsz,ok.noex,ok.exfs,ok.funs,ok.frf⟩
theorem Cx.Ok.unwish {X:Cx}{E:zD->zJ->Prop} (ok:(X.wish E).Ok):X.Ok :=
 ⟨ok.mod,ok.kind,ok.glob,ok.blt,ok.above,ok.inj,ok.has,ok.cab,ok.hd,ok.frames,ok.stk,ok.exf,ok.bs,ok.bsz,ok.noex,ok.exfs,ok.funs,ok.frf⟩
section
variable {X:Cx}{pins:List (zE×Obj)}{σ:St}{H:Hp}{s:zJ}{E:zD->zJ->Prop}
theorem Inv.wish (I:Inv X pins σ H s) (E:zD->zJ->Prop):Inv (X.wish E) pins σ H s:=⟨I.ok.wish E,I.os,I.bare,I.base,I.loc,I.cell,I.free,I.freeC,I.pin,I.hok,I.len,I.tk⟩
theorem Inv.unwish (I:Inv (X.wish E) pins σ H s):Inv X pins σ H s:=⟨I.ok.unwish,I.os,I.bare,I.base,I.loc,I.cell,I.free,I.freeC,I.pin,I.hok,I.len,I.tk⟩
theorem SP.unwish {D:Qv} (h:SP (X.wish E) pins D f g):SP X pins D f g:=by
 cases f with
 | next=>obtain⟨c,e,I,q⟩:=h;exact⟨c,e,I.unwish,q⟩
 | brk=>obtain⟨c,e,I,q⟩:=h;exact⟨c,e,I.unwish,q⟩
 | cont=>obtain⟨c,e,I,q⟩:=h;exact⟨c,e,I.unwish,q⟩
 | ret u=>obtain⟨v,c,e,I,r,q⟩:=h;exact⟨v,c,e,I.unwish,r,q⟩
theorem PSs.nox {st:List zf} (h:PSs X.nox st t):PSs X st t:=λpins s σ H D I hw =>
 wpAny_mono (h pins s σ H D (I.wish _) hw) (λ_ _ q=>q.unwish) λ_ _ z=>jF z
end
section
variable {X:Cx}{st:zf}{j7:List zf}{t u:TS}{e:zV}{te:TE}{pos:Pos}
def lD:TS:=λD σ H=>D.nx σ H
def Et (t u:TS):TS:=λD σ H=>t { D with nx:=u D } σ H
theorem eX:PSs X [] lD:=λ_ _ σ H _ I h=>wpAny_execs_nil ⟨σ,H,I,h⟩
theorem E1 (i:PS X st t) (j:PSs X j7 u):PSs X (st::j7) (Et t u):=by
 intro c s σ H D I h;refine Lv (thn (i c s σ H { D with nx:=u D } I h) λf s1 q=>?_);cases f with
 | next =>
  obtain⟨g,l,m,q⟩:=q;exact j c s1 g l D m q
 | ret v=>exact q
 | brk=>exact q
 | cont=>exact q
theorem lT (g:PS X st t):PSs X [st] t:=by
 intro c s σ H D I h;refine Lv (thn (g c s σ H D I h) λf s1 q=>?_);cases f with
 | next=>exact wpAny_execs_nil q
 | ret v=>exact q
 | brk=>exact q
 | cont=>exact q
theorem Inv.quiet (I:Inv X c σ H s):interactive X.env=false:=by simp[interactive,I.ok.kind]
def HE (te:TE):TS:=λD σ H=>te σ H λ_ c=>D.nx σ c
theorem fE (f:PE X e te) (hs:Qc e none pos.line X.env=pure false:=by rfl):PS X (.Expr e pos) (HE te):=by
 intro c s σ H D I h;exact wpAny_Expr_any (zu (f c s σ H _ I h) λv s1 x g i l j=>⟨σ,g,i,j⟩) I.quiet hs
def F4 (te:TE):TS:=λD σ H=>te σ H D.rt
theorem il (f:PE X e te):PS X (.Return (some e) pos) (F4 te):=by
 intro c s σ H D I h;exact wpAny_Return_some (zu (f c s σ H _ I h) λv s1 x g i j l=>⟨x,σ,g,i,j,l⟩)
def M4 (c:TT) (t u:TS):TS:=λD σ H=>c σ H λb f=>if b=true then t D σ f else u D σ f
theorem l9 {a b:List zf} (l:PT X c m) (ha:PSs X a t) (n:PSs X b u):PS X (.If c a b pos) (M4 m t u):=by
 intro f s σ H D I h;refine wpAny_If (thn (l f s σ H _ I h) λd s1 ⟨g,i,j⟩=>?_);cases d with
 | true=>exact ha f s1 σ g D i j
 | false=>exact n f s1 σ g D i j
end
abbrev TG:=V->St->Hp->(St->Hp->Prop)->Prop
def PG (X:Cx) (c:zV) (t:TG):Prop :=
 ∀ (e:List (zE×Obj)) (s:zJ) (σ:St) (H:Hp) (v:V) (u:zD) (Q:St->Hp->Prop),Inv X e σ H s->zj v u->t v σ H Q ->
  wpAny (zP X.prog X.w) X.A (Qy c X.env u) (λ_ h=>∃ f g,Inv X e f g h/\Q f g) X.xe s
abbrev Ag:=V->V->V->Hp->(Hp->Prop)->Prop
def A2 (X:Cx) (t:Ag):Prop :=
 ∀ (c:List (zE×Obj)) (s:zJ) (σ:St) (H:Hp) (o i v:V) (e f u:zD) (Q:Hp->Prop),Inv X c σ H s->zj o e->zj i f->zj v u->t o i v H Q ->
  wpAny (zP X.prog X.w) X.A (VC e f u) (λ_ h=>∃ g,Inv X c σ g h/\Q g) X.xe s
abbrev TIp:=V->V->Hp->VK->Prop
def PIp (X:Cx) (e:Operator) (t:TIp):Prop :=
 ∀ (c:List (zE×Obj)) (s:zJ) (σ:St) (H:Hp) (x y:V) (v u:zD) (Q:VK),Inv X c σ H s->zj x v->zj y u->t x y H Q ->
  wpAny (zP X.prog X.w) X.A (di e v u) (EP X c σ Q) X.xe s
section
variable {X:Cx}{pos:Pos}
def zw (i:Nat):TG:=λv σ H Q=>Q (σ.set i (some v)) H
theorem fA {i:Nat}{x:Str} (e:X.N.Nodup) (hi:X.N[i]? = some x) (f:Loc X.env.scope x) (g:X.fn x=true\/X.env.scope.names.lookup x=some .local:=by first | exact .inl rfl | exact .inr rfl | assumption):PG X (.Name x pos) (zw i):=by
 intro c s σ H v u Q I r h;exact FH (cW I e hi f r (λl j=>⟨_,H,j,h⟩) g)
def Ia (to ti:TE) (t:Ag):TG:=λv σ H Q=>to σ H λo c=>ti σ c λi e=>t o i v e λf=>Q σ f
theorem lh {to:TE} (g:PE X o to) (hi:PE X i ti) (hs:A2 X t)
  (ha:∀ v,Qy (.Subscript o i pos) X.env v=(do
   let e <- holding [v] (zr o X.env)
   let f <- holding [v,e] (zr i X.env)
   standAt pos
   holding [v,e,f] (VC e f v)
   release [v,e,f] []):=by intro _;rfl):PG X (.Subscript o i pos) (Ia to ti t):=by
 intro c s σ H v u Q I r h;rw[ha];refine zS (xx (zu (g c s σ H _ I h) λe s1 x j l m n=>?_));refine zS (xx (zu (hi c s1 σ j _ l n) λf p y q w z A=>?_));refine zS (aO (zS (xx (thn (hs c p σ q x y v e f u _ w m z r A) λ_ G ⟨B,C,E⟩=>?_))));exact wpAny_release ⟨σ,B,C,E⟩
def Ur (te:TE) (g:TG):TS:=λD σ H=>te σ H λx c=>g x σ c D.nx
theorem fV (f:PE X e te) (i:PG X tg g) (hs:Ba [tg] e pos.line X.env=pure false:=by rfl) (hw:dQ [tg] e X.env=pure none:=by rfl)
  (j:(C1 [tg] X.env).map (·.2)=[Qy tg X.env]:=by rfl):PS X (.Assign [tg] e pos) (Ur te g):=by
 intro c s σ H D I h;refine wpAny_Assign_stores (zu (f c s σ H _ I h) λv s1 x l m n o=>?_) hs hw;rw[j];exact thn (i c s1 σ l x v _ m n o) λ_ p q=>q
theorem lH {i:Nat}{x:Str}{pos':Pos} (f:X.N.Nodup) (hi:X.N[i]? = some x) (g:Loc X.env.scope x) (j:PE X e te) (hs:Qc e (some (.Name x pos')) pos.line X.env=pure false:=by rfl) (l:X.fn x=true\/X.env.scope.names.lookup x=some .local:=by first | exact .inl rfl | exact .inr rfl | assumption) :
  PS X (.Assign [.Name x pos'] e pos) (Ur te (zw i)):=by
 intro c s σ H D I h;refine wpAny_Assign_Name (zu (j c s σ H _ I h) λv s1 y m n o p=>?_) hs;exact cW n f hi g o (λr q=>⟨_,m,q,p⟩) l
noncomputable def ipI (f:Int->Int->Int):TIp:=λx y H Q=>∃ i j,x=.int i/\y=.int j/\Q (.int (f i j)) H
theorem L7:PIp X .Add (ipI λi j=>i+j):=by
 intro c s σ H x y v u Q I e f h;obtain⟨i,j,g,l,q⟩:=h;subst g;subst l;obtain⟨t,rfl⟩:=e;obtain⟨t',rfl⟩:=f;exact iadd_int ⟨.int _,H,I.tok _,⟨_,rfl⟩,q⟩
end
section
variable {X:Cx}{pos:Pos}
def M5 (c:TT) (i:TS):TS:=λD σ H=>∃ W:Nat->St->Hp->Prop,(∃ m,W m σ H)/\∀ m σ H,W m σ H ->
 c σ H λb f=>if b=true then ∃ N:St->Hp->Prop,(∀ e g,N e g->∃ h,h < m/\W h e g)/\i { D with nx:=N,ct:=N,bk:=D.nx } σ f else D.nx σ f
theorem mB (y:ub (zP X.prog X.w) X.A X.env X.xe) (J:PT X c L) (M:PSs X j Q):PS X (.While c j [] pos) (M5 L Q):=by
 intro e s σ H D I h;obtain⟨W,⟨U,Y⟩,l⟩:=h;refine wpAny_While (codeAny_whileLoop (λn s'=>∃ m z,Inv X e m z s'/\W n m z) ?_ U ⟨σ,H,I,Y⟩)
 rintro n s1 ⟨i,B,I1,w1⟩
 refine k9 y (thn (J e s1 i B _ I1 (l n i B w1)) λb s2 ⟨C,E,p⟩=>?_);cases b with
 | true =>
  obtain⟨N,G,p⟩:=p;rw[if_pos rfl];refine k9 y (thn (M e s2 i C _ E p) λf s3 q=>?_);cases f with
  | next =>
   obtain⟨g,o,r,t⟩:=q;obtain⟨u,hm,x⟩:=G g o t;exact⟨u,hm,g,o,r,x⟩
  | cont =>
   obtain⟨g,o,r,t⟩:=q;obtain⟨u,hm,x⟩:=G g o t;exact⟨u,hm,g,o,r,x⟩
  | brk=>exact q
  | ret v=>exact q
 | false =>
  rw[if_neg qF];exact wpAny_execs_nil ⟨i,C,E,p⟩
end
structure It where
 go:Nat->Hp->Prop
 yld:Nat->Hp->V->Hp->Prop
 stop:Nat->Hp->Prop
def Qx (X:Cx) (e:List (zE×Obj)) (H:Hp) (b:zE):Prop :=
 H b=none/\b≠X.env.locals/\b∉X.fs/\(b∈X.ex\/X.s₀.heap.objs.size <= b)/\(∀ x c,X.env.cells.lookup x=some c->c≠b)/\∀ p∈X.pn++e,p.1≠b
theorem Inv.fpOk {X:Cx}{h:Hp}{b:zE} (I:Inv X f σ H s) (g:s.heap.objs.size <= b) (i:h b=none):Qx X f h b:=by
 refine⟨i,KE (qR I.lt g),I.nofs g,.inr (jM I.sz g),λx c e z=>?_,λp j z=>?_⟩
 ·obtain⟨v,q⟩:=I.cell x c e;exact absurd (qR q.lt (by rw[z];exact g)) (Z2 _)
 ·exact absurd (qR (jR (I.pin p j).1) (by rw[z];exact g)) (Z2 _)
structure Je (P:jB) (w:jG) (K:PySem.W.Frag) (tg:zV) (J:It) (fp:List zE) (it:zE) (tn:Nat->zi->Prop):Prop where
 mem:it∈fp
 obj:∀ i h,tn i h->∀ b∈fp,∃ o,h.get? b=some o/\∀ v,o.data≠.cell v
 keep:∀ i h h',tn i h->(∀ b∈fp,∀ o,h.get? b=some o->h'.get? b=some o)->tn i h'
 item:∀ (X:Cx),X.prog=P->X.w=w->X.K=K->X.calm=true->∀ (i:Nat) (pins:List (zE×Obj)) (s:zJ) (σ:St) (H:Hp) (E:zD->zJ->Prop),Inv X pins σ H s->(∀ b∈fp,Qx X pins H b)->tn i s.heap->J.go i H ->
  wpAny (zP P w) X.A (vC (.ref it)) (λr s1=>∃ u,r=some u /\
   wpAny (zP P w) X.A (As tg (.ref it) u) (λ_ s2=>∃ x H',Inv X pins σ H' s2/\zj x u/\J.yld i H x H'/\tn (i+1) s2.heap/\∀ b∈fp,H' b=none) E s1) E s
 done:∀ (X:Cx),X.prog=P->X.w=w->X.K=K->X.calm=true->∀ (i:Nat) (pins:List (zE×Obj)) (s:zJ) (σ:St) (H:Hp) (E:zD->zJ->Prop),Inv X pins σ H s->(∀ b∈fp,Qx X pins H b)->tn i s.heap->J.stop i H ->
  wpAny (zP P w) X.A (vC (.ref it)) (λr s1=>r=none/\Inv X pins σ H s1) E s
 self:∀ (A:jc) (i:Nat) (s:zJ) (Q:zD->zJ->Prop) (E:zD->zJ->Prop),tn i s.heap->Q (.ref it) s->wpAny (zP P w) A (YC (.ref it)) Q E s
abbrev TI:=St->Hp->(It->Hp->Prop)->Prop
def PIE (X:Cx) (c:List (zE×Obj)) (σ:St) (tg:zV) (R:It->Hp->Prop) (e:zD) (g:zJ):Prop :=
 ∃ (it:zE) (h:List zE) (i:Nat->zi->Prop) (J:It) (f:Hp),e=.ref it/\Inv X c σ f g/\Je X.prog X.w X.K tg J h it i/\i 0 g.heap/\(∀ b∈h,Qx X c f b)/\R J f
def PI (X:Cx) (tg e:zV) (f:TI):Prop :=
 ∀ (c:List (zE×Obj)) (s:zJ) (σ:St) (H:Hp) (R:It->Hp->Prop),Inv X c σ H s->f σ H R ->
  wpAny (zP X.prog X.w) X.A (zr e X.env) (λv s1=>wpAny (zP X.prog X.w) X.A (YC v) (PIE X c σ tg R) X.xe s1) X.xe s
theorem kL {M:xa}{s:zJ}{it:zE}{o:Obj}{n:String}{vs:Array zD}{Q:Unit->zJ->Prop} (e:s.heap.get? it=some o) (f:o.cls=.type n) (hd:o.data=.fields vs)
  (g:["enumerate","zip","dict_itemiterator","dict_reverseitemiterator","odict_iterator","itertools.zip_longest","itertools.pairwise"].contains n=false) (c:Q () s):wpAny M A (As tg (.ref it) u) Q E s:=by
 unfold As;cases tg<;>first
  | exact wpAny_pure c
  | (cases u<;>first
      | exact wpAny_pure c
      | (refine zS (wpAny_load e ?_)
         rw[f,hd];show wpAny M A (if (["enumerate","zip","dict_itemiterator","dict_reverseitemiterator","odict_iterator","itertools.zip_longest","itertools.pairwise"].contains n && vs[0]? == some (QX _))=true then _ else _) Q E s;rw[if_neg (by intro h;rw[g,Mm] at h;cases h)];exact wpAny_pure c))
noncomputable def Itl (K:PySem.W.Frag) (a:zE):It :=
 ⟨λi H=>∃ xs x,SqL K H a xs/\xs[i]? = some x,λi H x c=>c=H/\∀ xs,SqL K H a xs->xs[i]? = some x,λi H=>∃ xs,SqL K H a xs/\xs.length <= i⟩
noncomputable def Itt (K:PySem.W.Frag) (a:zE):It :=
 ⟨λi H=>∃ xs x,SqT K H a xs/\xs[i]? = some x,λi H x c=>c=H/\∀ xs,SqT K H a xs->xs[i]? = some x,λi H=>∃ xs,SqT K H a xs/\xs.length <= i⟩
noncomputable def Itr (lo:Int) (n:Nat):It:=⟨λi _=>i < n,λi H x c=>c=H/\x=.int (lo+i),λi _=>n <= i⟩
theorem GA {P:jB}{K:PySem.W.Frag} (a it:zE):Je P w K tg (Itl K a) [it] it (λi h=>h.IsListIter it a i) where
 mem:=by simp
 obj:=λi h st b g=>by
  have e:b=it:=by simpa using g
  subst e;obtain⟨o,e,c,d⟩:=st;exact⟨o,e,λv z=>by rw[d] at z;cases z⟩
 keep:=λi h h' st k=>st.at λo e=>k it (by simp) o e
 item:=by
  intro X n hw q L i f s σ H E I l st r;subst n hw q;obtain⟨xs,x,m,t⟩:=r;obtain⟨its,y,p,M⟩:=I.list m;obtain⟨u,N,Q⟩:=y.get t;obtain⟨A,B,U,C,G,J⟩:=l it (by simp);refine wpAny_pyNext_list_item st p.isList (x:=u) (by simpa using N) λh' j sb=>?_;have Y:Inv X f σ H { s with heap:=h' }:=I.turned (t':=s.toks) (λb o g e=>(sb.2 b g).trans e) A B C G J;obtain⟨o,e,c,d⟩:=id j;exact⟨u,rfl,kL (s:={ s with heap:=h' }) e c d (by decide) ⟨x,H,Y,Q,⟨rfl,λys hy=>by rw[I.list_inj hy m];exact t⟩,j,λb g=>(l b g).1⟩⟩
 done:=by
  intro X n hw q L i f s σ H E I l st r;subst n hw q;obtain⟨xs,m,t⟩:=r;obtain⟨its,y,p,M⟩:=I.list m;obtain⟨A,B,U,C,G,J⟩:=l it (by simp);have hl:=y.length;exact wpAny_pyNext_list_end (I.ok.hd L) st p.isList (by simp;lia) λh' eb=>⟨rfl,I.turned (t':=s.toks) (λb o g e=>eb b o g e) A B C G J⟩
 self:=λ_ _ _ _ _ st h=>wpAny_pyIter_listiter st h
theorem Eu {P:jB}{K:PySem.W.Frag} (a it:zE):Je P w K tg (Itt K a) [it] it (λi h=>h.IsTupleIter it a i) where
 mem:=by simp
 obj:=λi h st b g=>by
  have e:b=it:=by simpa using g
  subst e;obtain⟨o,e,c,d⟩:=st;exact⟨o,e,λv z=>by rw[d] at z;cases z⟩
 keep:=λi h h' st k=>st.at λo e=>k it (by simp) o e
 item:=by
  intro X n hw q L i f s σ H E I l st r;subst n hw q;obtain⟨xs,x,m,t⟩:=r;obtain⟨its,y,p,M⟩:=I.tuple m;obtain⟨u,N,Q⟩:=y.get t;obtain⟨A,B,U,C,G,J⟩:=l it (by simp);refine wpAny_pyNext_tuple_item st (show s.heap.IsTuple a its.toArray from p) (x:=u) (by simpa using N) λh' j sb=>?_;have Y:Inv X f σ H { s with heap:=h' }:=I.turned (t':=s.toks) (λb o g e=>(sb.2 b g).trans e) A B C G J;obtain⟨o,e,c,d⟩:=id j;exact⟨u,rfl,kL (s:={ s with heap:=h' }) e c d (by decide) ⟨x,H,Y,Q,⟨rfl,λys hy=>by rw[I.tuple_inj hy m];exact t⟩,j,λb g=>(l b g).1⟩⟩
 done:=by
  intro X n hw q L i f s σ H E I l st r;subst n hw q;obtain⟨xs,m,t⟩:=r;obtain⟨its,y,p,M⟩:=I.tuple m;obtain⟨A,B,U,C,G,J⟩:=l it (by simp);have hl:=y.length;exact wpAny_pyNext_tuple_end (I.ok.hd L) st (show s.heap.IsTuple a its.toArray from p) (by simp;lia) λh' eb=>⟨rfl,I.turned (t':=s.toks) (λb o g e=>eb b o g e) A B C G J⟩
 self:=λ_ _ _ _ _ st h=>wpAny_pyIter_tupleiter st h
theorem iI {P:jB}{K:PySem.W.Frag} (it:zE) (lo:Int) (n:Nat):Je P w K tg (Itr lo n) [it] it (λi h=>IsRangeIter h it (lo+(i:Nat) * 1) ((n:Int) - (i:Nat)) 1) where
 mem:=by simp
 obj:=λi h st b f=>by
  have e:b=it:=by simpa using f
  subst e;exact⟨_,st,λv z=>by
   have B:Data.fields _=Data.cell v:=z;cases B⟩
 keep:=λi h h' st k=>k it (by simp) _ st
 item:=by
  intro X l hw m p i c s σ H E I j st q;subst l hw m;obtain⟨r,u,C,x,y,A⟩:=j it (by simp);have W:=Walks.range (prog:=X.prog) (w:=X.w) (I.ok.hd p) it lo 1 n;refine yD (n:=1) I.tk (W.item i s _ _ q st λv h' tk G g J L=>?_);obtain⟨t,rfl⟩:=G;have M:Inv X c σ H { s with heap:=h',toks:=tk }:=I.turned (λb o f e=>J b o (by simpa using f) e) r u x y A;refine⟨_,rfl,kL (s:={ s with heap:=h',toks:=tk }) (n := "range_iterator") g rfl rfl (by decide) ⟨.int (lo+i),H,M,⟨t,?_⟩,⟨rfl,rfl⟩,g,λb f=>(j b f).1⟩⟩;rw[Int.mul_one]
 done:=by
  intro X l hw m p i c s σ H E I j st q;subst l hw m;obtain⟨r,u,C,x,y,A⟩:=j it (by simp);exact wpAny_pyNext_range_end (I.ok.hd p) st (by have:n <= i:=q;lia) λh' N=>⟨rfl,I.turned (t':=s.toks) (λb o f e=>N b o f e) r u x y A⟩
 self:=λ_ _ _ _ _ st h=>wpAny_pyIter_rangeiter st h
end L2
namespace L2
open PySem PySem.Spec PyProof.Rows
section
variable {X:Cx}{tg:zV}
def GB (K:PySem.W.Frag) (e:TE):TI:=λσ H R=>e σ H λx c=>∃ a,x=.ref a/\(∃ xs,SqL K c a xs)/\R (Itl K a) c
def Eh (K:PySem.W.Frag) (e:TE):TI:=λσ H R=>e σ H λx c=>∃ a,x=.ref a/\(∃ xs,SqT K c a xs)/\R (Itt K a) c
theorem Hi (g:PE X l i):PI X tg l (GB X.K i):=by
 intro c s σ H R I h;refine zu (g c s σ H _ I h) λv s1 x j f m n=>?_;obtain⟨a,e,⟨xs,r⟩,q⟩:=n;subst e;cases m;obtain⟨its,u,p,w⟩:=f.list r;refine uP p.isList ?_;refine⟨s1.heap.objs.size,[s1.heap.objs.size],_,_,j,rfl,f.kept (t':=s1.toks) λb o e=>ji _ e,GA a _,⟨_,qi _ rfl,rfl,rfl⟩,λb t=>?_,q⟩;have e:b=s1.heap.objs.size:=by simpa using t
 subst e;exact f.fpOk (zo _) (f.hok.fresh (zo _))
theorem ia (g:PE X l i):PI X tg l (Eh X.K i):=by
 intro c s σ H R I h;refine zu (g c s σ H _ I h) λv s1 x j f m n=>?_;obtain⟨a,e,⟨xs,r⟩,q⟩:=n;subst e;cases m;obtain⟨its,u,p,w⟩:=f.tuple r;refine wpAny_pyIter_tuple (show s1.heap.IsTuple a its.toArray from p) ?_;refine⟨s1.heap.objs.size,[s1.heap.objs.size],_,_,j,rfl,f.kept (t':=s1.toks) λb o e=>ji _ e,Eu a _,⟨_,qi _ rfl,rfl,rfl⟩,λb t=>?_,q⟩;have e:b=s1.heap.objs.size:=by simpa using t
 subst e;exact f.fpOk (zo _) (f.hok.fresh (zo _))
theorem aW {R:It->Hp->Prop}{lo hi:Int}{t u v:Tok}{tk:Nat} (I:Inv X c σ H s) (g:-(2 ^ 62) <= lo) (h:lo < 2 ^ 62) (i:-(2 ^ 62) <= hi) (j:hi < 2 ^ 62)
  (q:R (Itr lo (hi - lo).toNat) H) (l:0 < tk:=by first | exact yv _ | assumption | exact Inv.tk (by assumption) | lia):wpAny (zP X.prog X.w) X.A (YC (.ref s.heap.objs.size)) (PIE X c σ tg R) E { s with heap:=s.heap.push { cls:=.type "range",data:=.fields #[.int lo t,.int hi u,.int 1 v] },toks:=tk }:=by
 refine wpAny_pyIter_range (IsRange.new ..) (small_one g h i j) ?_;have f:Inv X c σ H { s with heap:=s.heap.push { cls:=.type "range",data:=.fields #[.int lo t,.int hi u,.int 1 v] },toks:=tk }:=I.kept λb o e=>ji _ e;refine⟨(s.heap.push { cls:=.type "range",data:=.fields #[.int lo t,.int hi u,.int 1 v] }).objs.size,[(s.heap.push { cls:=.type "range",data:=.fields #[.int lo t,.int hi u,.int 1 v] }).objs.size],_,_,H,rfl,
  f.kept (t':=tk) λb o e=>ji _ e,iI _ lo (hi - lo).toNat,?_,λb m=>?_,q⟩
 ·have n:lo+((0:Nat):Int) * 1=lo:=by simp
  have p:(((hi - lo).toNat:Nat):Int) - ((0:Nat):Int)=NT lo hi 1:=by rw[rangeSize_one];split<;>lia
  show IsRangeIter _ _ (lo+((0:Nat):Int) * 1) ((((hi - lo).toNat:Nat):Int) - ((0:Nat):Int)) 1;rw[n,p];exact qi _ rfl
 ·have e:b=(s.heap.push { cls:=.type "range",data:=.fields #[.int lo t,.int hi u,.int 1 v] }).objs.size:=by simpa using m
  subst e;exact f.fpOk (zo _) (f.hok.fresh (zo _))
def Gr (c:TA):TI:=λσ H R=>c σ H λvs e=>∃ j:Int,vs=[.int j] /\ -(2 ^ 62) <= j/\j < 2 ^ 62/\R (Itr 0 j.toNat) e
def hY (c:TA):TI:=λσ H R=>c σ H λvs e=>∃ i j:Int,vs=[.int i,.int j]/\(-(2 ^ 62) <= i/\i < 2 ^ 62 /\ -(2 ^ 62) <= j/\j < 2 ^ 62)/\R (Itr i (j - i).toNat) e
theorem Gm {a:zV}{p pos:Pos} (g:Gl X "range") (hm:X.mg "range" = none) (ha:PA X [a] i) (hs:jK [a] X.env=[(false,zr a X.env)]:=by rfl):PI X tg (.Call (.Name "range" p) [a] [] pos) (Gr i):=by
 intro c s σ H R I h;refine Call_ (xV I g hm boot_range (Vo (zu (ha pos c s σ H _ I h) λus s1 vs u l m f=>?_) hs rfl));obtain⟨j,e,f,n,q⟩:=f;subst e;cases m with
 | cons r o =>
  cases o;obtain⟨t,rfl⟩:=r;exact call_range_1 (aW l (by lia) (by lia) f n (by simpa using q))
theorem Dy {a b:zV}{p pos:Pos} (m:Gl X "range") (hm:X.mg "range" = none) (ha:PA X [a,b] n) (hs:jK [a,b] X.env=[(false,zr a X.env),(false,zr b X.env)]:=by rfl) (c:jK [b] X.env=[(false,zr b X.env)]:=by rfl) :
  PI X tg (.Call (.Name "range" p) [a,b] [] pos) (hY n):=by
 intro f s σ H R I h;refine Call_ (xV I m hm boot_range (Vo (zu (ha pos f s σ H _ I h) λus s1 vs z o u g=>?_) (by rw[hs,c]) (by rw[c];rfl)));obtain⟨i,j,e,⟨g,v,w,x⟩,q⟩:=g;subst e;cases u with
 | cons r l =>
  cases l with
  | cons y l =>
   cases l;obtain⟨t,rfl⟩:=r;obtain⟨t',rfl⟩:=y;exact call_range_2 (aW o g v w x q)
def eS (j:TI) (g:TG) (l:TS):TS:=λD σ H=>j σ H λJ n=>∃ W:Nat->Nat->St->Hp->Prop,(∃ m,W 0 m σ n)/\∀ i m σ H,W i m σ H ->
 (J.stop i H/\D.nx σ H)\/(J.go i H/\∃ N:St->Hp->Prop,(∀ c e,N c e->∃ h,h < m/\W (i+1) h c e)/\∀ x e,J.yld i H x e->g x σ e λf o=>l { D with nx:=N,ct:=N,bk:=D.nx } f o)
noncomputable def QM (c:List zE) (h:zi):List (zE×Obj):=c.filterMap λb=>(h.get? b).map λo=>(b,o)
theorem YF {c:List zE}{h:zi}{b:zE}{o:Obj} (f:b∈c) (e:h.get? b=some o):(b,o)∈QM c h:=List.mem_filterMap.mpr ⟨b,f,by rw[e];rfl⟩
theorem Bt {p:zE×Obj} (c:p∈QM f h):p.1∈f/\h.get? p.1=some p.2:=by
 obtain⟨b,g,e⟩:=List.mem_filterMap.mp c;cases q:h.get? b with
 | none=>rw[q] at e;cases e
 | some o =>
  rw[q] at e;have i:(b,o)=p:=QF e;subst i;exact⟨g,q⟩
theorem Inv.pinned {f:List zE} (I:Inv X c σ H s) (i:∀ b∈f,Qx X c H b) (j:∀ b∈f,∃ o,s.heap.get? b=some o/\∀ v,o.data≠.cell v):Inv X (c++QM f s.heap) σ H s :=
 I.pins_of λp l=>(List.mem_append.mp l).elim (λz=>I.pin p (ZM _ z)) λz=>by
  obtain⟨g,e⟩:=Bt z;obtain⟨m,n,q,_⟩:=i p.1 g;obtain⟨o,h,d⟩:=j p.1 g;rw[e] at h;cases h;exact⟨e,m,n,q,d⟩
theorem Inv.unpinned {c pl:List (zE×Obj)} (I:Inv X (c++pl) σ H s):Inv X c σ H s:=I.pins_of λp e=>I.pin p (ZM _ (Bj _ e))
theorem gN {pos:Pos} (G:ub (zP X.prog X.w) X.A X.env X.xe) (hc:X.calm=true) (hi:PI X tg B wi) (hg:PG X tg g) (l:PSs X L tb)
  (hs:∀ x,xC B X.env x=pure x:=by intro _;rfl):PS X (.For tg B L [] pos) (eS wi g tb):=by
 intro c s σ H D I h;refine wpAny_For (thn (hi c s σ H _ I h) λv s1 h1=>thn h1 λitv s2 h2=>?_) hs;obtain⟨it,M,tn,J,H2,e,I2,T,st2,f2,W,⟨m0,w0⟩,Q⟩:=h2;subst e;have p:∀ {z:Hp},(∀ b∈M,z b=none)->∀ b∈M,Qx X c z b:=λhn b l=>⟨hn b l,(f2 b l).2⟩
 refine codeAny_forLoop_any (λn s'=>∃ i q z,Inv X c q z s'/\tn i s'.heap/\(∀ b∈M,z b=none)/\W i n q z) ?_ m0 ⟨0,σ,H2,I2,st2,λb l=>(f2 b l).1,w0⟩
 rintro n s3 ⟨i,t,H3,I3,st3,U,w3⟩
 rcases Q i n t H3 w3 with ⟨stop,qn⟩ | ⟨go,N,hN,step⟩
 ·refine k9 G (thn (T.done X rfl rfl rfl hc i c s3 t H3 X.xe I3 (p U) st3 stop) λr s4 ⟨hr,I4⟩=>?_);subst hr;exact wpAny_execs_nil ⟨t,H3,I4,qn⟩
 ·refine k9 G (thn (T.item X rfl rfl rfl hc i c s3 t H3 X.xe I3 (p U) st3 go) λr s4 ⟨u,hr,h4⟩=>?_);subst hr;refine k9 G (thn h4 λ_ s5 ⟨x,H5,I5,r5,y5,E,fr5⟩=>?_);have I5':=I5.pinned (p fr5) (T.obj _ _ E);refine k9 G (thn (hg _ s5 t H5 x u _ I5' r5 (step x H5 y5)) λ_ s6 ⟨σ6,H6,I6,q6⟩=>?_);refine k9 G (thn (l _ s6 σ6 H6 _ I6 q6) λf s7 C=>?_);have again:∀ {j:St}{H7:Hp},Inv X (c++QM M s5.heap) j H7 s7->N j H7->∃ m,m < n/\∃ i q z,Inv X c q z s7/\tn i s7.heap/\(∀ b∈M,z b=none)/\W i m q z:=λ{j H7} y Y=>by
   obtain⟨m',hm,w7⟩:=hN j H7 Y;refine⟨m',hm,i+1,j,H7,y.unpinned,T.keep _ _ _ E λb l o e=>(y.pin (b,o) (ZM _ (ZM _ (YF l e)))).1,λb l=>?_,w7⟩;obtain⟨o,e,d⟩:=T.obj _ _ E b l;exact (y.pin (b,o) (ZM _ (ZM _ (YF l e)))).2.1
  cases f with
  | next=>obtain⟨j,H7,y,Y⟩:=C;exact again y Y
  | cont=>obtain⟨j,H7,y,Y⟩:=C;exact again y Y
  | brk=>obtain⟨j,H7,y,C⟩:=C;exact⟨j,H7,y.unpinned,C⟩
  | ret v=>obtain⟨x7,j,H7,y,r7,C⟩:=C;exact⟨x7,j,H7,y.unpinned,r7,C⟩
end
end L2
namespace L2
open PySem PySem.Spec PyProof.Rows
abbrev R2:=V->V->Hp->VK->Prop
def OpR (X:Cx) (f:zD->zD->Sem zD) (r:R2):Prop :=
 ∀ (c:List (zE×Obj)) (s:zJ) (σ:St) (H:Hp) (x y:V) (v u:zD) (Q:VK),Inv X c σ H s->zj x v->zj y u->r x y H Q ->
  wpAny (zP X.prog X.w) X.A (f v u) (EP X c σ Q) X.xe s
def UnR (X:Cx) (f:zD->Sem zD) (r:V->Hp->VK->Prop):Prop :=
 ∀ (c:List (zE×Obj)) (s:zJ) (σ:St) (H:Hp) (x:V) (v:zD) (Q:VK),Inv X c σ H s->zj x v->r x H Q ->
  wpAny (zP X.prog X.w) X.A (f v) (EP X c σ Q) X.xe s
def jq (X:Cx) (f:zD) (r:List V->Hp->VK->Prop):Prop :=
 ∀ (c:List (zE×Obj)) (s:zJ) (σ:St) (H:Hp) (xs:List V) (us:List zD) (Q:VK),Inv X c σ H s->zd xs us->r xs H Q ->
  wpAny (zP X.prog X.w) X.A (call f us) (EP X c σ Q) X.xe s
def gw (X:Cx) (r:V->Hp->(Bool->Hp->Prop)->Prop):Prop :=
 ∀ (c:List (zE×Obj)) (s:zJ) (σ:St) (H:Hp) (x:V) (v:zD) (Q:Bool->Hp->Prop),Inv X c σ H s->zj x v->r x H Q ->
  wpAny (zP X.prog X.w) X.A (truthy v) (TP X c σ Q) X.xe s
def tOp (r:R2) (c e:TE):TE:=λσ H Q=>c σ H λx f=>e σ f λy g=>r x y g Q
def tUn (r:V->Hp->VK->Prop) (c:TE):TE:=λσ H Q=>c σ H λx e=>r x e Q
def rI (C:Int->Int->Prop) (g:Int->Int->V):R2:=λx y H Q=>∃ i j,x=.int i/\y=.int j/\C i j/\Q (g i j) H
def rI0 (g:Int->Int->V):R2:=λx y H Q=>∃ i j,x=.int i/\y=.int j/\Q (g i j) H
noncomputable def rU (g:Int->V):V->Hp->VK->Prop:=λx H Q=>∃ i,x=.int i/\Q (g i) H
section
variable {X:Cx}{a b c:zV}{ta tb tc:TE}{pos:Pos}
theorem u6 (ha:PE X a ta) (n:PE X b tb) {R:V->V->Hp->Prop} (I:Inv X e σ H s)
  (h:ta σ H λx m=>tb σ m λy g=>R x y g) {f:zD->zD->Sem zD}
  (o:∀ v u l x y g,Inv X e σ g l->zj x v->zj y u->R x y g->wpAny (zP X.prog X.w) X.A (f v u) Q X.xe l) :
  wpAny (zP X.prog X.w) X.A (zr a X.env) (λv i=>wpAny (zP X.prog X.w) X.A (zr b X.env) (λu j=>wpAny (zP X.prog X.w) X.A (f v u) Q X.xe j) X.xe i) X.xe s:=by
 refine zu (ha e s σ H _ I h) λv s1 x m p q r=>?_;refine zu (n e s1 σ m _ p r) λu l y g t z B=>?_;exact o v u l x y g t q z B
theorem IZ (f:OpR X (qy g) r) (ha:PE X a ta) (i:PE X b tb):PE X (.BinOp a g b pos) (tOp r ta tb):=by
 intro e s σ H Q I h;exact wpAny_BinOp (u6 ha i I h λv u j x y l m rx ry q=>f e j σ l x y v u Q m rx ry q)
theorem BJ (f:UnR X (unaryOp g) r) (ha:PE X a ta):PE X (.UnaryOp g a pos) (tUn r ta):=by
 intro e s σ H Q I h;exact UnaryOp_ (zu (ha e s σ H _ I h) λv s1 x i j l m=>f e s1 σ i x v Q j l m)
theorem opI {f:zD->zD->Sem zD}{C:Int->Int->Prop}{g:Int->Int->Int}
  (Zf:∀ (i j:Int) (t u:Tok) (s:zJ) (Q:zD->zJ->Prop) (E:zD->zJ->Prop),C i j->Q (.int (g i j) s.toks) { s with toks:=s.toks+1 }->wpAny (zP X.prog X.w) X.A (f (.int i t) (.int j u)) Q E s) :
  OpR X f (rI C λi j=>.int (g i j)):=by
 intro e s σ H x y v u Q I rx ry h;obtain⟨i,j,rfl,rfl,l,q⟩:=h;obtain⟨t,rfl⟩:=rx;obtain⟨t',rfl⟩:=ry;exact Zf i j t t' s _ _ l ⟨.int (g i j),H,I.tok _,⟨_,rfl⟩,q⟩
theorem c7 {f:zD->zD->Sem zD}{g:Int->Int->Int}
  (Zf:∀ (i j:Int) (t u:Tok) (s:zJ) (Q:zD->zJ->Prop) (E:zD->zJ->Prop),Q (.int (g i j) s.toks) { s with toks:=s.toks+1 }->wpAny (zP X.prog X.w) X.A (f (.int i t) (.int j u)) Q E s) :
  OpR X f (rI0 λi j=>.int (g i j)):=by
 intro e s σ H x y v u Q I rx ry h;obtain⟨i,j,rfl,rfl,q⟩:=h;obtain⟨t,rfl⟩:=rx;obtain⟨t',rfl⟩:=ry;exact Zf i j t t' s _ _ ⟨.int (g i j),H,I.tok _,⟨_,rfl⟩,q⟩
theorem Ud {f:zD->zD->Sem zD}{g:Int->Int->Bool}
  (Zf:∀ (i j:Int) (t u:Tok) (s:zJ) (Q:zD->zJ->Prop) (E:zD->zJ->Prop),Q (.bool (g i j)) s->wpAny (zP X.prog X.w) X.A (f (.int i t) (.int j u)) Q E s) :
  OpR X f (rI0 λi j=>.bl (g i j)):=by
 intro e s σ H x y v u Q I rx ry h;obtain⟨i,j,rfl,rfl,q⟩:=h;obtain⟨t,rfl⟩:=rx;obtain⟨t',rfl⟩:=ry;exact Zf i j t t' s _ _ ⟨.bl (g i j),H,I,rfl,q⟩
def Hl (i j:Int):Prop:=0 < j/\j < 1073741824
def vh (i j:Int):Prop:=(-(2 ^ 64) < i/\i < 2 ^ 64)\/(-(2 ^ 64) < j/\j < 2 ^ 64)
theorem vh.ok (h:vh i j):IntMulOk i j:=by
 rcases h with ⟨e,f⟩ | ⟨e,f⟩
 ·exact .of_left (intBits_le_64 e f)
 ·exact .of_right (intBits_le_64 e f)
theorem Gy:OpR X (qy .Add) (rI0 λi j=>.int (i+j)):=c7 λ_ _ _ _ _ _ _ q=>add_int q
theorem Mv:OpR X (qy .Sub) (rI0 λi j=>.int (i - j)):=c7 λ_ _ _ _ _ _ _ q=>sub_int q
theorem GJ:OpR X (qy .Mult) (rI vh λi j=>.int (i * j)):=opI λ_ _ _ _ _ _ _ e q=>mul_int q e.ok
theorem LA:OpR X (qy .FloorDiv) (rI Hl λi j=>.int (i / j)):=opI λi j _ _ _ _ _ e q=>by
 have f:(0:Int) < j:=e.1;have g:j < 1073741824:=e.2;exact floordiv_int (by lia) (by rw[Int.fdiv_eq_ediv_of_nonneg i (by lia)];exact q) (.inl (PyProof.noPylong_small (by lia)))
theorem nW:OpR X (qy .Mod) (rI (λ_ j=>0 < j) λi j=>.int (i % j)):=opI λi j _ _ _ _ _ e q=>by
 have f:(0:Int) < j:=e;exact mod_int' (by lia) (by rw[Int.fmod_eq_emod_of_nonneg i (by lia)];exact q)
theorem unI {f:zD->Sem zD}{g:Int->Int}
  (Zf:∀ (i:Int) (t:Tok) (s:zJ) (Q:zD->zJ->Prop) (E:zD->zJ->Prop),Q (.int (g i) s.toks) { s with toks:=s.toks+1 }->wpAny (zP X.prog X.w) X.A (f (.int i t)) Q E s) :
  UnR X f (rU λi=>.int (g i)):=by
 intro e s σ H x v Q I rx h;obtain⟨i,rfl,q⟩:=h;obtain⟨t,rfl⟩:=rx;exact Zf i t s _ _ ⟨.int (g i),H,I.tok _,⟨_,rfl⟩,q⟩
theorem dk:UnR X (unaryOp .USub) (rU λi=>.int (-i)):=unI λ_ _ _ _ _ q=>neg_int q
end
noncomputable def kM:V->V->Bool
 | .non,.non=>true | .non,.int _=>true | .int _,.non=>true | .non,.bl _=>true | .bl _,.non=>true | .non,.str _=>true | .str _,.non=>true
 | .int _,.int _=>true | .bl _,.bl _=>true | .str _,.str _=>true | .byt _,.byt _=>true
 | .int _,.str _=>true | .str _,.int _=>true | .bl _,.str _=>true | .str _,.bl _=>true
 | _,_=>false
def rEq:R2:=λx y H Q=>kM x y=true/\Q (.bl (decide (x=y))) H
def rNe:R2:=λx y H Q=>kM x y=true/\Q (.bl (!decide (x=y))) H
theorem CQ {i j:Int}:decide (V.int i=V.int j)=(i == j):=by
 rw[Wn];simp
theorem BS {i j:Bool}:decide (V.bl i=V.bl j)=(i == j):=by
 rw[Wn];simp
theorem CK {i j:Str}:decide (V.str i=V.str j)=(i == j):=by
 rw[Wn];simp
theorem bp {i j:Array UInt8}:decide (V.byt i=V.byt j)=(i.toList == j.toList):=by
 rw[Wn];cases i;cases j;simp
section
variable {X:Cx}{a b c:zV}{ta tb tc:TE}{pos:Pos}
theorem jf {Q:VK}{k g:Bool} (I:Inv X f σ H s) (q:Q (.bl k) H) (e:k=g):EP X f σ Q (.bool g) s:=by
 subst e;exact⟨.bl k,H,I,rfl,q⟩
theorem GC:OpR X (jY .Eq) rEq:=by
 intro e s σ H x y v u Q I rx ry h;obtain⟨hs,q⟩:=h;cases x with
 | non =>
  cases rx;cases y with
  | non=>cases ry;exact PySem.EqNone.eq_none_none (jf I q (by simp))
  | bl j=>cases ry;exact PySem.EqNone.eq_none_bool (jf I q (by simp))
  | int j=>obtain⟨t',rfl⟩:=ry;exact PySem.EqNone.eq_none_int (jf I q (by simp))
  | str j=>obtain⟨t',rfl⟩:=ry;exact PySem.EqNone.eq_none_str (jf I q (by simp))
  | _=>exact absurd (show false=true from hs) qF
 | bl i =>
  cases rx;cases y with
  | non=>cases ry;exact PySem.EqNone.eq_bool_none (jf I q (by simp))
  | bl j=>cases ry;exact eq_bool (jf I q BS)
  | str j=>obtain⟨t',rfl⟩:=ry;exact PySem.EqMixed.eq_bool_str (jf I q (by simp))
  | _=>exact absurd (show false=true from hs) qF
 | int i =>
  obtain⟨t,rfl⟩:=rx;cases y with
  | non=>cases ry;exact PySem.EqNone.eq_int_none (jf I q (by simp))
  | int j=>obtain⟨t',rfl⟩:=ry;exact eq_int (jf I q CQ)
  | str j=>obtain⟨t',rfl⟩:=ry;exact PySem.EqMixed.eq_int_str (jf I q (by simp))
  | _=>exact absurd (show false=true from hs) qF
 | str i =>
  obtain⟨t,rfl⟩:=rx;cases y with
  | non=>cases ry;exact PySem.EqNone.eq_str_none (jf I q (by simp))
  | bl j=>cases ry;exact PySem.EqMixed.eq_str_bool (jf I q (by simp))
  | int j=>obtain⟨t',rfl⟩:=ry;exact PySem.EqMixed.eq_str_int (jf I q (by simp))
  | str j=>obtain⟨t',rfl⟩:=ry;exact eq_str (jf I q CK)
  | _=>exact absurd (show false=true from hs) qF
 | byt i =>
  obtain⟨t,rfl⟩:=rx;cases y with
  | byt j=>obtain⟨t',rfl⟩:=ry;exact PySem.W.eq_bytes (jf I q bp)
  | _=>exact absurd (show false=true from hs) qF
 | _=>cases y<;>exact absurd (show false=true from hs) qF
theorem Dt:OpR X (jY .NotEq) rNe:=by
 intro e s σ H x y v u Q I rx ry h;obtain⟨hs,q⟩:=h;cases x with
 | non =>
  cases rx;cases y with
  | non=>cases ry;exact PySem.EqNone.ne_none_none (jf I q (by simp))
  | bl j=>cases ry;exact PySem.EqNone.ne_none_bool (jf I q (by simp))
  | int j=>obtain⟨t',rfl⟩:=ry;exact PySem.EqNone.ne_none_int (jf I q (by simp))
  | str j=>obtain⟨t',rfl⟩:=ry;exact PySem.EqNone.ne_none_str (jf I q (by simp))
  | _=>exact absurd (show false=true from hs) qF
 | bl i =>
  cases rx;cases y with
  | non=>cases ry;exact PySem.EqNone.ne_bool_none (jf I q (by simp))
  | bl j=>cases ry;exact ne_bool (jf I q (congrArg not BS))
  | str j=>obtain⟨t',rfl⟩:=ry;exact PySem.EqMixed.ne_bool_str (jf I q (by simp))
  | _=>exact absurd (show false=true from hs) qF
 | int i =>
  obtain⟨t,rfl⟩:=rx;cases y with
  | non=>cases ry;exact PySem.EqNone.ne_int_none (jf I q (by simp))
  | int j=>obtain⟨t',rfl⟩:=ry;exact ne_int (jf I q (congrArg not CQ))
  | str j=>obtain⟨t',rfl⟩:=ry;exact PySem.EqMixed.ne_int_str (jf I q (by simp))
  | _=>exact absurd (show false=true from hs) qF
 | str i =>
  obtain⟨t,rfl⟩:=rx;cases y with
  | non=>cases ry;exact PySem.EqNone.ne_str_none (jf I q (by simp))
  | bl j=>cases ry;exact PySem.EqMixed.ne_str_bool (jf I q (by simp))
  | int j=>obtain⟨t',rfl⟩:=ry;exact PySem.EqMixed.ne_str_int (jf I q (by simp))
  | str j=>obtain⟨t',rfl⟩:=ry;exact ne_str (jf I q (congrArg not CK))
  | _=>exact absurd (show false=true from hs) qF
 | byt i =>
  obtain⟨t,rfl⟩:=rx;cases y with
  | byt j=>obtain⟨t',rfl⟩:=ry;exact PySem.W.ne_bytes (jf I q (congrArg not bp))
  | _=>exact absurd (show false=true from hs) qF
 | _=>cases y<;>exact absurd (show false=true from hs) qF
theorem Dn:OpR X (jY .Lt) (rI0 λi j=>.bl (decide (i < j))):=Ud λ_ _ _ _ _ _ _ q=>lt_int q
theorem m8:OpR X (jY .LtE) (rI0 λi j=>.bl (decide (i <= j))):=Ud λ_ _ _ _ _ _ _ q=>le_int q
theorem hP:OpR X (jY .Gt) (rI0 λi j=>.bl (decide (j < i))):=Ud λ_ _ _ _ _ _ _ q=>gt_int q
theorem nU:OpR X (jY .Lt) (λx y H Q=>∃ i j,x=.str i/\y=.str j/\Q (.bl (decide (i.cps.toList < j.cps.toList))) H):=by
 intro e s σ H x y v u Q I rx ry h;obtain⟨i,j,rfl,rfl,q⟩:=h;obtain⟨t,rfl⟩:=rx;obtain⟨t',rfl⟩:=ry;exact lt_str (jf I q rfl)
theorem fy:OpR X (jY .In) (λx y H Q=>∃ i j,x=.str i/\y=.str j/\Q (.bl (!(xk j i 0 j.length 1).isEmpty)) H):=by
 intro e s σ H x y v u Q I rx ry h;obtain⟨i,j,rfl,rfl,q⟩:=h;obtain⟨t,rfl⟩:=rx;obtain⟨t',rfl⟩:=ry;exact in_str (jf I q rfl)
theorem LG:OpR X (jY .NotIn) (λx y H Q=>∃ i j,x=.str i/\y=.str j/\Q (.bl (!(!(xk j i 0 j.length 1).isEmpty))) H):=by
 intro e s σ H x y v u Q I rx ry h;obtain⟨i,j,rfl,rfl,q⟩:=h;obtain⟨t,rfl⟩:=rx;obtain⟨t',rfl⟩:=ry;exact notIn_str (jf I q rfl)
theorem OpR.or (h:OpR X f r) (h':OpR X f g):OpR X f (λx y H Q=>r x y H Q\/g x y H Q):=by
 intro e s σ H x y v u Q I rx ry q;rcases q with q | q
 ·exact h e s σ H x y v u Q I rx ry q
 ·exact h' e s σ H x y v u Q I rx ry q
theorem QA (b:zV) {e:CmpOp} (h:e≠.In:=by decide) (f:e≠.NotIn:=by decide):Jp e b=false:=by
 have g:(e == gi)=false:=by cases e<;>first | rfl | exact absurd rfl h
 have i:(e == Eo)=false:=by cases e<;>first | rfl | exact absurd rfl f
 cases b<;>simp[Jp,g,i]
theorem fB (g:OpR X (jY f) r) (ha:PE X a ta) (i:PE X b tb) (hm:Jp f b=false):PE X (.Compare a [f] [b] pos) (tOp r ta tb):=by
 intro e s σ H Q I h;exact wpAny_Compare1 (u6 ha i I h λv u j x y l m rx ry q=>g e j σ l x y v u Q m rx ry q) hm
def CT (t:TE):TT:=λσ H Q=>t σ H λx e=>∃ k,x=.bl k/\Q k e
theorem Gi (i:OpR X (jY g) r) (ha:PE X a ta) (j:PE X b tb) (hm:Jp g b=false):PT X (.Compare a [g] [b] pos) (CT (tOp r ta tb)):=by
 intro f s σ H Q I h;refine G1 (zu (ha f s σ H _ I h) λv s1 x l m n o=>zu (j f s1 σ l _ m o) λu p y q t w A =>
  zu (i f p σ q x y v u _ t n w A) λc J z B C E ⟨k,e,G⟩=>?_) hm
 subst e;cases E;exact xU ⟨B,C,G⟩
def JR (r f:R2) (ta tb tc:TE):TE:=λσ H Q=>ta σ H λx g=>tb σ g λy h=>r x y h λz e=>∃ k,z=.bl k /\
 (if k=true then tc σ e λi j=>f y i j Q else Q (.bl false) e)
theorem Dw (p:OpR X (jY j) r) (i:OpR X (jY g) q) (ha:PE X a ta) (t:PE X b tb) (w:PE X c tc)
  (hm:wC [j,g] [b,c]=false:=by with_unfolding_all rfl):PE X (.Compare a [j,g] [b,c] pos) (JR r q ta tb tc):=by
 intro f s σ H Q I h;refine Compare_chain (zu (ha f s σ H _ I h) λv s1 x A B C E=>chain_link (zu (t f s1 σ A _ B E) λu G y J L l M =>
  zu (p f G σ J x y v u _ L C l M) λd N z m n U ⟨k,e,o⟩=>?_)) hm
 subst e;cases U;refine xU ?_;cases k with
 | false=>exact ite_ff ⟨.bl false,m,n,rfl,o⟩
 | true=>exact ite_tt (chain_last (zu (w f N σ m _ n o) λY s4 z' H4 I4 r4 q4=>i f s4 σ H4 y z' u Y Q I4 l r4 q4))
theorem HX (p:OpR X (jY j) r) (i:OpR X (jY g) q) (ha:PE X a ta) (t:PE X b tb) (w:PE X c tc)
  (hm:wC [j,g] [b,c]=false:=by with_unfolding_all rfl):PT X (.Compare a [j,g] [b,c] pos) (CT (JR r q ta tb tc)):=by
 intro f s σ H Q I h;refine isTrue_chain (zu (ha f s σ H _ I h) λv s1 x A B C E=>test_link (zu (t f s1 σ A _ B E) λu G y J L l M =>
  zu (p f G σ J x y v u _ L C l M) λd N z m n U ⟨k,e,o⟩=>?_)) hm
 subst e;cases U;refine xU ?_;cases k with
 | false =>
  obtain⟨k',Y,q'⟩:=o;cases Y;exact ite_ff ⟨m,n,q'⟩
 | true =>
  refine ite_tt (test_last (zu (w f N σ m _ n o) λw' s4 z' H4 I4 r4 q4=>zu (i f s4 σ H4 y z' u w' _ I4 l r4 q4) λd' s5 z2 H5 I5 r5 ⟨k2,e2,q5⟩=>?_));subst e2;cases r5;exact xU ⟨H5,I5,q5⟩
def b7 (K:PySem.W.Frag) (x:V) (H:Hp) (k:Bool):Prop :=
 match x with
 | .non=>k=false
 | .bl b=>k=b
 | .int i=>k=(i != 0)
 | .str y=>y.length <= zg/\k=((y.length:Int) != 0)
 | .byt y=>y.size <= zg/\k=((y.size:Int) != 0)
 | .ref p=>(∃ xs,SqL K H p xs/\k = !xs.isEmpty)\/(∃ xs,SqT K H p xs/\k = !xs.isEmpty)\/∃ kvs,H p=some (.dK kvs)/\k = !kvs.isEmpty
 | _=>False
theorem Gc {e:Type}{kvs:List (e×V)}{vs:List (e×zD)} (r:KV kvs vs):(!vs.isEmpty) = !kvs.isEmpty:=by
 cases r<;>rfl
theorem aJ (r:zd xs its):(!its.toArray.isEmpty) = !xs.isEmpty:=by
 cases r<;>simp
theorem xI:(zg:Nat) < 2 ^ 63:=by rw[Z8];decide
theorem HJ:gw X (λx H Q=>∃ k,b7 X.K x H k/\Q k H):=by
 intro l s σ H x v Q I rx h;obtain⟨k,e,q⟩:=h;have z:=xI;have hs:zg=16777216:=Z8;cases x with
 | non =>
  cases rx;have f:k=false:=e;subst f;exact truthy_none ⟨H,I,q⟩
 | bl b =>
  cases rx;have f:k=b:=e;subst f;exact xU ⟨H,I,q⟩
 | int i =>
  obtain⟨t,rfl⟩:=rx;have f:k=(i != 0):=e;subst f;exact PySem.P.truthy_int ⟨H,I,q⟩
 | str y =>
  obtain⟨t,rfl⟩:=rx;obtain⟨o,f⟩:y.length <= zg/\k=((y.length:Int) != 0):=e;subst f;exact PySem.P.truthy_str (by lia) ⟨H,I.tok _,q⟩
 | byt y =>
  obtain⟨t,rfl⟩:=rx;obtain⟨o,f⟩:y.size <= zg/\k=((y.size:Int) != 0):=e;subst f;exact PySem.W.truthy_bytes (by lia) ⟨H,I.tok _,q⟩
 | ref p =>
  cases rx;have f:(∃ xs,SqL X.K H p xs/\k = !xs.isEmpty)\/(∃ xs,SqT X.K H p xs/\k = !xs.isEmpty)\/∃ kvs,H p=some (.dK kvs)/\k = !kvs.isEmpty:=e;rcases f with ⟨xs,j,f⟩ | ⟨xs,j,f⟩ | ⟨kvs,j,f⟩
  ·subst f;obtain⟨its,r,pl,n⟩:=I.list j;have g:=r.length;exact wpAny_truthy_list pl.isList (by simp only[jo];lia) ⟨H,I.tok _,by rw[aJ r];exact q⟩
  ·subst f;obtain⟨its,r,pl,n⟩:=I.tuple j;have g:=r.length;exact truthy_tuple pl (by simp only[jo];lia) ⟨H,I.tok _,by rw[aJ r];exact q⟩
  ·subst f;obtain⟨n,u,vs,r,m⟩:kvs.length <= zg/\(p == Zu)=false/\∃ vs,KV kvs vs/\s.heap.DictOf (yT X.prog X.w) p vs:=I.hok p _ j;have g:kvs.length=vs.length:=Paired.length r;exact wpAny_truthy_dict u m (by lia) ⟨H,I.tok _,by rw[Gc r];exact q⟩
 | _=>exact (show False from e).elim
theorem eL (ha:PE X a ta) (i:∀ e,isTrue a X.env e=(do let v <- e;standAt a.pos;holding [v] (truthy v))) :
  PT X a (λσ H Q=>ta σ H λx g=>∃ k,b7 X.K x g k/\Q k g):=by
 intro f s σ H Q I h;exact isTrue_plain (zu (ha f s σ H _ I h) λv s1 x j l m n=>HJ f s1 σ j x v Q l m n) (i _)
theorem G6:OpR X (qy .Add) (λx y H Q=>∃ i j,x=.str i/\y=.str j/\i.length+j.length <= zg/\Q (.str (i++j)) H):=by
 intro f s σ H x y v u Q I rx ry h;obtain⟨i,j,rfl,rfl,g,q⟩:=h;obtain⟨t,rfl⟩:=rx;obtain⟨t',rfl⟩:=ry;exact yD (n:=1) I.tk (add_str (λt' tk e=>⟨.str (i++j),H,I.tok _ e,⟨_,rfl⟩,q⟩) g)
theorem fC:OpR X (di .Add) (λx y H Q=>∃ i j,x=.str i/\y=.str j/\i.length+j.length <= zg/\Q (.str (i++j)) H):=by
 intro f s σ H x y v u Q I rx ry h;obtain⟨i,j,rfl,rfl,g,q⟩:=h;obtain⟨t,rfl⟩:=rx;obtain⟨t',rfl⟩:=ry;exact yD (n:=1) I.tk (iadd_str (λt' tk e=>⟨.str (i++j),H,I.tok _ e,⟨_,rfl⟩,q⟩) g)
theorem yU {x:V} (r:zd [x] us):∃ u,us=[u]/\zj x u:=by
 cases r with
 | cons e f=>cases f;exact⟨_,rfl,e⟩
theorem ay {x y:V} (r:zd [x,y] us):∃ u e,us=[u,e]/\zj x u/\zj y e:=by
 cases r with
 | cons f g =>
  cases g with
  | cons h i=>cases i;exact⟨_,_,rfl,f,h⟩
theorem ek (l:X.calm=true):jq X (.builtin "min") (λxs H Q=>∃ i j,xs=[.int i,.int j]/\Q (.int (if j < i then j else i)) H):=by
 intro g s σ H xs us Q I r h;obtain⟨i,j,rfl,q⟩:=h;obtain⟨u,m,rfl,⟨t,rfl⟩,⟨t',rfl⟩⟩:=ay r;refine yD (n:=1) I.tk (min_two_ints (I.ok.hd l) λh' tk k f=>⟨_,H,I.kept k f,?_,q⟩);by_cases e:j < i
 ·rw[if_pos e,if_pos e];exact⟨_,rfl⟩
 ·rw[if_neg e,if_neg e];exact⟨_,rfl⟩
theorem ER:jq X (.type "int") (λxs H Q=>(∃ i,xs=[.int i]/\Q (.int i) H)\/∃ k,xs=[.bl k]/\Q (.int (if k then 1 else 0)) H):=by
 intro e s σ H xs us Q I r h;rcases h with ⟨i,rfl,q⟩ | ⟨k,rfl,q⟩
 ·obtain⟨u,rfl,t,rfl⟩:=yU r;exact call_int_int ⟨.int i,H,I,⟨_,rfl⟩,q⟩
 ·obtain⟨u,rfl,f⟩:=yU r;cases f;exact call_int_bool ⟨.int (if k then 1 else 0),H,I.tok _,⟨_,rfl⟩,q⟩
theorem Lq:jq X (.type "str") (λxs H Q=>∃ i,xs=[.int i]/\i.natAbs.log2 < 1920/\Q (.str (toString i)) H):=by
 intro e s σ H xs us Q I r h;obtain⟨i,rfl,f,q⟩:=h;obtain⟨u,rfl,t,rfl⟩:=yU r;exact PySem.P.str_of_int f ⟨.str _,H,I.tok _,⟨_,rfl⟩,q⟩
end
end L2
namespace L2
open PySem PySem.Spec PyProof.Rows
structure xn (h:zi) (x dx C:zE) (mA:Str->Option zD):Prop where
 obj:h.get? x=some (PySem.W.instObj C dx)
 ns:h.Ns1 dx mA
 ne:dx≠x
theorem gY {h:zi}{f:zE}{g:Str->Option zD} (n:h.Ns1 f g):∃ i,h.get? f=some i/\∀ name,PySem.W.lookIn name i=some (g name):=by
 obtain⟨o,es,r,j,hd,l,_,hm⟩:=n;refine⟨o,j,λname=>?_⟩;have e:=hm name;unfold nsFind findBy at e;rw[<- Array.find?_toList] at e;unfold PySem.W.lookIn;rw[hd];dsimp only;split
 ·rename_i y q;rw[q] at e;exact congrArg some e
 ·rename_i q;rw[q] at e;have a:es.toList.any (·.refKey)=false:=by
   rw[List.any_eq_false];intro y m;obtain⟨z,t,c⟩:=l y (Array.mem_toList_iff.mp m);simp[DictEntry.refKey,c]
  have p:¬ es.toList.any (·.refKey)=true:=by rw[a];exact qF
  rw[if_neg p];exact congrArg some e
theorem xn.look (I:xn h x e C f):∃ c,PySem.W.InstAt h x (PySem.W.instObj C e) C (some c)/\∀ name,PySem.W.lookIn name c=some (f name) :=
 let ⟨c,g,i⟩:=gY I.ns
 ⟨c,⟨I.obj,rfl,rfl,g⟩,i⟩
section
variable {prog:jB}{w:jG}{A:jc}{E:zD->zJ->Prop}{s:zJ}{K:PySem.W.Frag}{x dx C f:zE}{mA:Str->Option zD}{name:Str}{v:zD}
theorem Gg {Q:zD->zJ->Prop} (X:K.In s.heap) (I:xn s.heap x dx C mA) (g:PySem.W.plainGet K C name=true) (i:PySem.W.hasDictIn K C=true)
  (ha:PySem.W.findIn K (.ref C) name=some none) (j:mA name=some v) (c:PySem.W.handedIn v=true) (h:Q v { s with toks:=s.toks+1 }) :
  wpAny (zP prog w) A (getAttr (.ref x) name e) Q E s:=by
 obtain⟨m,J,l⟩:=I.look;exact PySem.W.get_value X J (PySem.W.plainGet_of g).1 (PySem.W.findObj_own i ha rfl (by rw[l,j])) c h
theorem lE {Q:zD×List zD->zJ->Prop} (X:K.In s.heap) (I:xn s.heap x dx C mA) (c:PySem.W.plainGet K C name=true)
  (e:PySem.W.findIn K (.ref C) name=some (some (.ref f))) (g:PySem.W.isFn K (.ref f)=true) (i:mA name=none) (h:Q (.ref f,[.ref x]) s) :
  wpAny (zP prog w) A (X4 (.ref x) name pl) Q E s:=by
 obtain⟨j,J,l⟩:=I.look;exact PySem.W.method_fn X J (PySem.W.plainGet_of c).1 (PySem.W.plainGet_of c).2 e (beq_iff_eq.mp g) (by show (PySem.W.lookIn name j).map (·.isSome)=some false;rw[l,i];rfl) h
theorem fi {Q:Unit->zJ->Prop} (X:K.In s.heap) (I:xn s.heap x dx C mA)
  (hs:PySem.W.findIn K (.ref C) "__setattr__" = some (some (.builtin "object.__setattr__"))) (m:PySem.W.plainOver K C=true) (n:PySem.W.takerIn K C name=some none) (o:PySem.W.hasDictIn K C=true)
  (hw:PySem.Within mA ns) (hsz:ns.length <= zg)
  (h:∀ h',xn h' x dx C (λy=>if y=name then some v else mA y)->xR dx s.heap h'->Q () { s with heap:=h',toks:=s.toks+2 }) :
  wpAny (zP prog w) A (setAttr (.ref x) name v) Q E s:=by
 obtain⟨z,J,B⟩:=I.look;refine PySem.W.set_plain X J hs (PySem.W.osa_open (s:={ s with toks:=s.toks+1 }) (r:=none) X J m n λb=>?_);obtain⟨G,p,g⟩:=PySem.W.any_some o;have q:s.heap.get? x=some ⟨.ref C,some dx,.plain,#[]⟩:=I.obj;refine zS (wpAny_pure (zS (zS (wpAny_loadPart q (zS (PySem.W.Looks.here (s:={ s with toks:=s.toks+1 }) (PySem.W.looks_clsIn X p) ?_))))));rw[g];refine wpAny_pure (a:=some dx) (zS (wpAny_pure (zS ?_)));refine wpAny_nsSet1 (s:={ s with toks:=s.toks+1 }) I.ns λh' c e=>?_;obtain⟨H,t,u,i,j,l⟩:=c.count (PySem.Within.cons name v hw);refine zS (wpAny_lookBehind i (by rw[j];exact pastItsLine_dict (jM l (by rw[zx];lia))) ?_);exact wpAny_pure (h _ ⟨(e.2 _ (ZJ I.ne)).trans I.obj,c,I.ne⟩ e)
theorem IP {R:Result->zJ->Prop}{vs:List zD}{c:List (Str×zD)} (X:K.In s.heap) (hm:PySem.W.makesIn K C=true)
  (hi:PySem.W.findIn K (.ref C) "__init__" = some (some (.ref f))) (e:PySem.W.typeIn K (.ref f)=some (.type "function"))
  (h:codeAny (zP prog w) (A.under (.builtin "type.__call__" ⟨.ref C::vs,c⟩)) (.call (.ref f) ⟨.ref (s.heap.objs.size+1)::vs,c⟩) (PySem.W.InitBack (s.heap.objs.size+1) R)
   { s with heap:=(s.heap.push PySem.W.emptyDict).push (PySem.W.instObj C s.heap.objs.size) }) :
  codeAny (zP prog w) A (.call (.ref C) ⟨vs,c⟩) R s:=by
 obtain⟨i,g,d,t,os⟩:=s;exact PySem.W.make_core (PySem.W.makes_of X hm) (PySem.W.looks_findIn X hi) (λself=>PySem.W.bind_fn X self e) (.inl rfl) h
end
noncomputable def qH (f:Str) (v:V):List (Str×V)->List (Str×V)
 | []=>[(f,v)]
 | (g,x)::r=>if g=f then (g,v)::r else (g,x)::qH f v r
theorem Wm (f g:Str) (v:V):∀ fs:List (Str×V),(qH f v fs).lookup g=if g=f then some v else fs.lookup g
 | []=>by
  show xZ g [(f,v)]=_;by_cases h:g=f
  ·have c:(g == f)=true:=beq_iff_eq.mpr h;simp only[xZ,c,if_pos h]
  ·have c:(g == f)=false:=beq_eq_false_iff_ne.mpr h;simp only[xZ,c,if_neg h]
 | (k,x)::r=>by
  have j:=Wm f g v r;rw[show qH f v ((k,x)::r)=(if k=f then (k,v)::r else (k,x)::qH f v r) from rfl];by_cases i:k=f
  ·rw[if_pos i];by_cases h:g=k
   ·have c:(g == k)=true:=beq_iff_eq.mpr h;simp only[xZ,c,if_pos (h.trans i)]
   ·have c:(g == k)=false:=beq_eq_false_iff_ne.mpr h;simp only[xZ,c,if_neg (λe:g=f=>h (e.trans i.symm))]
  ·rw[if_neg i];by_cases h:g=k
   ·have c:(g == k)=true:=beq_iff_eq.mpr h;simp only[xZ,c,if_neg (λe:g=f=>i (h.symm.trans e))]
   ·have c:(g == k)=false:=beq_eq_false_iff_ne.mpr h;simp only[xZ,c];exact j
theorem wG (f:Str) (v:V):∀ fs:List (Str×V),f∈(qH f v fs).map (·.1)/\∀ g,g∈fs.map (·.1)->g∈(qH f v fs).map (·.1)
 | []=>⟨by simp[qH],λg h=>by simp at h⟩
 | (k,x)::r=>by
  obtain⟨i,j⟩:=wG f v r;rw[show qH f v ((k,x)::r)=(if k=f then (k,v)::r else (k,x)::qH f v r) from rfl];by_cases c:k=f
  ·rw[if_pos c];subst c;exact⟨by simp,λg h=>by simpa using h⟩
  ·rw[if_neg c];refine⟨?_,λg h=>?_⟩
   ·rw[jH];exact jh _ i
   ·rw[jH] at h ⊢;rcases List.mem_cons.mp h with e | e
    ·exact List.mem_cons.mpr (.inl e)
    ·exact jh _ (j g e)
theorem CD (f:Str) (v:V):∀ fs:List (Str×V),(qH f v fs).length <= fs.length+1
 | []=>by simp[qH]
 | (k,x)::r=>by
  have e:=CD f v r;rw[show qH f v ((k,x)::r)=(if k=f then (k,v)::r else (k,x)::qH f v r) from rfl];by_cases c:k=f
  ·rw[if_pos c,zx,zx];lia
  ·rw[if_neg c,zx,zx];lia
theorem yX.some_of {v:V} (r:yX (some v) o):∃ u,o=some u/\zj v u:=by
 cases o with
 | none=>exact (show False from r).elim
 | some u=>exact⟨u,rfl,r⟩
theorem yX.none_of (r:yX none o):o=none:=by
 cases o with
 | none=>rfl
 | some u=>exact (show False from r).elim
theorem Lf (r:zj v u):PySem.W.handedIn u=true:=by
 cases v with
 | non=>cases (show u=vA from r);rfl
 | bl b=>cases (show u=Jo b from r);rfl
 | int i=>obtain⟨t,e⟩:=(show ∃ t,u=Vy i t from r);cases e;rfl
 | str x=>obtain⟨t,e⟩:=(show ∃ t,u=X3 x t from r);cases e;rfl
 | byt b=>obtain⟨t,e⟩:=(show ∃ t,u=nF b t from r);cases e;rfl
 | flt b=>obtain⟨t,e⟩:=(show ∃ t,u=DL b t from r);cases e;rfl
 | ref a=>cases (show u=qG a from r);rfl
 | ty n=>cases (show u=JC n from r);rfl
section
variable {P:jB}{w:jG}{H H':Hp}{h h':zi}{a C dx:zE}{fs fs':List (Str×V)}
theorem vr (hok:HOk P w H h) (e:H a=some (.ins C dx fs)):∃ c,xn h a dx C c/\(∀ f,yX (fs.lookup f) (c f))/\PySem.Within c (fs.map (·.1))/\fs.length <= 1000/\H dx=some (.own a):=by
 obtain⟨d,z,ne,ob,c,n,r,q⟩:=(show qA P w H h a (.ins C dx fs) from hok a _ e)
 exact⟨c,⟨ob,n,ne⟩,r,q,z,d⟩
end
structure Cls (K:PySem.W.Frag) (C:zE):Prop where
 pg:PySem.W.plainGet K C BD=true
 hd:PySem.W.hasDictIn K C=true
 po:PySem.W.plainOver K C=true
 sa:PySem.W.findIn K (.ref C) "__setattr__" = some (some (.builtin "object.__setattr__"))
theorem Cls.get {K:PySem.W.Frag} (c:Cls K C) (f:Str):PySem.W.plainGet K C f=true:=c.pg
def Jt (K:PySem.W.Frag) (C:zE) (f:Str):Prop:=PySem.W.findIn K (.ref C) f=some none
theorem Jt.taker {K:PySem.W.Frag} (n:Jt K C f):PySem.W.takerIn K C f=some none:=by
 unfold PySem.W.takerIn;rw[show PySem.W.findIn K (.ref C) f=some none from n];rfl
structure Con (K:PySem.W.Frag) (C:zE) (f:Str) (v:V) (u:zD):Prop where
 at_:PySem.W.findIn K (.ref C) f=some (some u)
 rel:zj v u
 get:PySem.W.specialIn K u "__get__" = some none
 cp:PySem.W.copiedNames.contains f=false
structure YD (K:PySem.W.Frag) (C:zE) (m:Str) (f:zE):Prop where
 at_:PySem.W.findIn K (.ref C) m=some (some (.ref f))
 fn:PySem.W.isFn K (.ref f)=true
 kp:PySem.W.keepIn K (.ref f)=true
section
variable {X:Cx}{pins:List (zE×Obj)}{σ:St}{H:Hp}{s:zJ}{a C dx:zE}{fs:List (Str×V)}{f:Str}{v:V}{A:jc}{E:zD->zJ->Prop}
theorem Ck {b:Bool}{Q:zD->zJ->Prop} (I:Inv X pins σ H s) (e:H a=some (.ins C dx fs)) (c:Cls X.K C) (n:Jt X.K C f) (l:fs.lookup f=some v)
  (h:∀ u g,Inv X pins σ H g->zj v u->Q u g):wpAny (zP X.prog X.w) A (getAttr (.ref a) f b) Q E s:=by
 obtain⟨j,O,r,_,_,_⟩:=vr I.hok e;obtain⟨u,m,i⟩:=yX.some_of (v:=v) (o:=j f) (by rw[<- l];exact r f);exact Gg I.kIn O (c.get f) c.hd n m (Lf i) (h u _ (I.tok _) i)
theorem aY {Q:zD×List zD->zJ->Prop} (I:Inv X pins σ H s) (e:H a=some (.ins C dx fs)) (c:Cls X.K C) (k:YD X.K C m g) (l:fs.lookup m=none)
  (h:Q (.ref g,[.ref a]) s):wpAny (zP X.prog X.w) A (X4 (.ref a) m pl) Q E s:=by
 obtain⟨i,O,r,_,_,_⟩:=vr I.hok e;have j:i m=none:=yX.none_of (by rw[<- l];exact r m);exact lE I.kIn O (c.get m) k.at_ k.fn j h
theorem Cj {y:V}{Q:Unit->zJ->Prop} (I:Inv X pins σ H s) (e:H a=some (.ins C dx fs)) (c:Cls X.K C) (n:Jt X.K C f) (L:fs.length < 1000) (ry:zj y u)
  (h:∀ j,Inv X pins σ (upd H a (.ins C dx (qH f y fs))) j->Q () j):wpAny (zP X.prog X.w) A (setAttr (.ref a) f u) Q E s:=by
 obtain⟨l,O,r,m,_,p⟩:=vr I.hok e;have t:(fs.map (·.1)).length <= zg:=by rw[jS,Z8];lia
 refine fi I.kIn O c.sa c.po n.taker c.hd m t λh' i sb=>h _ ?_;have hd:∃ o,h'.get? dx=some o:=let ⟨o,_,_,B,_⟩:=i.ns;⟨o,B⟩;refine I.write (x:=a) (e:=dx) (by rw[e];exact Zg) (.inr p) (λb q G z=>(sb.2 b G).trans z) hd ?_;refine⟨by rw[ja O.ne];exact p,?_,O.ne,i.obj,_,i.ns,λg=>?_,λg J=>?_⟩
 ·have:=CD f y fs;lia
 ·show yX ((qH f y fs).lookup g) (if g=f then some u else l g);rw[Wm];by_cases q:g=f
  ·rw[if_pos q,if_pos q];exact ry
  ·rw[if_neg q,if_neg q];exact r g
 ·by_cases q:g=f
  ·rw[q];exact (wG f y fs).1
  ·refine (wG f y fs).2 g (m g λz=>J ?_);show (if g=f then some u else l g)=none;rw[if_neg q];exact z
theorem Inv.made (I:Inv X pins σ H s):Inv X pins σ (upd (upd H s.heap.objs.size (.own (s.heap.objs.size+1))) (s.heap.objs.size+1) (.ins C s.heap.objs.size []))
  { s with heap:=(s.heap.push PySem.W.emptyDict).push (PySem.W.instObj C s.heap.objs.size) }:=by
 have c:(s.heap.push PySem.W.emptyDict).get? s.heap.objs.size=some PySem.W.emptyDict:=qi s.heap rfl;have g:((s.heap.push PySem.W.emptyDict).push (PySem.W.instObj C s.heap.objs.size)).get? (s.heap.objs.size+1)=some (PySem.W.instObj C s.heap.objs.size):=by
  have:=qi (s.heap.push PySem.W.emptyDict) (o:=PySem.W.instObj C s.heap.objs.size) rfl
  rwa [Q3] at this
 have h:(s.heap.push PySem.W.emptyDict).Ns s.heap.objs.size (λ_=>none):=⟨PySem.W.emptyDict,#[],_,c,rfl,(λe i=>absurd i (by simp)),λ_=>rfl⟩
 have j:=I.laid (a:=s.heap.objs.size) (o:=.own (s.heap.objs.size+1)) (h':=s.heap.push PySem.W.emptyDict) (t':=s.toks) (λb u q=>ji _ q) (zo _) ⟨_,c⟩;refine j.laid (a:=s.heap.objs.size+1) (o:=.ins C s.heap.objs.size []) (t':=s.toks) (λb u q=>ji _ q) (vX (Q3 _ _)) ?_;have ne:s.heap.objs.size≠s.heap.objs.size+1:=je (xg _);refine⟨by rw[ja ne,qp],ZV _,ne,g,λ_=>none,(Heap.Ns1.of_empty h).at λo q=>ji _ q,λ_=>Zg,λy l=>absurd rfl l⟩
theorem FE {f:Str}{pos:Pos}{s:zJ} (g:QH e f env (zr e env)=zr e env)
  (h:wpAny (zP prog w) A (zr e env) (λo c=>wpAny (zP prog w) A (getAttr o f true) Q E c) E s):wpAny (zP prog w) A (zr (.Attribute e f pos) env) Q E s :=
 Attribute_any_ h (by rw[arm_eval_Attribute,g])
end
def L4 (K:PySem.W.Frag) (e:TE) (f:Str):TE:=λσ H Q=>e σ H λx c=>∃ a C g fs v,x=.ref a/\c a=some (.ins C g fs)/\Cls K C/\Jt K C f/\fs.lookup f=some v/\Q v c
def ZK (K:PySem.W.Frag) (g h:TE) (f:Str):TS:=λD σ H=>h σ H λy i=>g σ i λx c=>∃ a C e fs,x=.ref a/\c a=some (.ins C e fs)/\Cls K C/\Jt K C f/\fs.length < 1000 /\
 D.nx σ (upd c a (.ins C e (qH f y fs)))
def LX (X:Cx) (e:Operator) (f:V->V->Hp->VK->Prop):Prop :=
 ∀ (c:List (zE×Obj)) (s:zJ) (σ:St) (H:Hp) (x y:V) (u v:zD) (Q:VK),Inv X c σ H s->zj x u->zj y v->f x y H Q->wpAny (zP X.prog X.w) X.A (di e u v) (EP X c σ Q) X.xe s
def QZ (K:PySem.W.Frag) (i j:TE) (l:V->V->Hp->VK->Prop) (f:Str):TS:=λD σ H=>i σ H λx g=>∃ a C m fs v,x=.ref a/\g a=some (.ins C m fs)/\Cls K C/\Jt K C f/\fs.lookup f=some v /\
 j σ g λy n=>l v y n λz h=>∃ e c,h a=some (.ins C e c)/\c.length < 1000/\D.nx σ (upd h a (.ins C e (qH f z c)))
section
variable {X:Cx}{o e value:zV}{f:Str}{pos pos' tpos:Pos}{ta tv:TE}
theorem ij (i:PE X e ta) (j:QH e f X.env (zr e X.env)=zr e X.env):PE X (.Attribute e f pos) (L4 X.K ta f):=by
 intro g s σ H Q I h;refine FE j (zu (i g s σ H _ I h) λu s1 x m p rx ⟨a,C,w,fs,v,ex,ea,c,n,l,q⟩=>?_);subst ex;obtain rfl:u=qG a:=rx;exact Ck p ea c n l λy z r t=>⟨v,m,r,t,q⟩
theorem fb (ha:PE X o ta) (i:PE X value tv) (hs:Qc value (some (.Attribute o f pos')) pos.line X.env=pure false):PS X (.Assign [.Attribute o f pos'] value pos) (ZK X.K ta tv f):=by
 intro g s σ H D I h;refine plainObj_wpAny_Assign_Attribute (zu (i g s σ H _ I h) λu s1 y j m ry q=>zu (ha g s1 σ j _ m q) λp w x z r rx ⟨a,C,A,fs,ex,ea,c,n,l,t⟩=>?_) hs;subst ex;obtain rfl:p=qG a:=rx;exact Cj r ea c n l ry λB v=>⟨σ,_,v,t⟩
theorem Hq (ha:PE X o ta) (m:PE X value tv) (i:LX X p r):PS X (.AugAssign (.Attribute o f tpos) p value pos) (QZ X.K ta tv r f):=by
 intro g s σ H D I h;refine wpAny_AugAssign_AttributeAny (zu (ha g s σ H _ I h) λt s1 x w A rx ⟨a,C,dx,fs,v,ex,ea,c,n,l,q⟩=>?_);subst ex;obtain rfl:t=qG a:=rx;refine Ck A ea c n l λu B E G=>zu (m g B σ w _ E q) λJ L y M N ry Q=>zu (i g L σ M v y u J _ N G ry Q) λw4 s4 z H3 U Y ⟨dx',fs',j,l',q4⟩=>?_;exact Cj U j c n l' Y λs5 I5=>⟨σ,_,I5,q4⟩
end
section
variable {X:Cx}{pins:List (zE×Obj)}{σ:St}{H:Hp}{s:zJ}{A:jc}{E:zD->zJ->Prop}{Q:zD->zJ->Prop}{c:zD}{b:Bool}
inductive ZX (K:PySem.W.Frag) (H:Hp):V->zD->Prop where
 | non:ZX K H .non (.type "NoneType")
 | bl (x:Bool):ZX K H (.bl x) (.type "bool")
 | int (i:Int):ZX K H (.int i) (.type "int")
 | str (x:Str):ZX K H (.str x) (.type "str")
 | flt (x:UInt64):ZX K H (.flt x) (.type "float")
 | lst {a:zE}{xs:List V} (e:H a=some (.lst xs)):ZX K H (.ref a) (.type "list")
 | frz {a:zE}{o:Obj}{xs:List V} (e:H a=some (.frz o (.lst xs))):ZX K H (.ref a) (.type "list")
 | tup {a:zE}{xs:List V} (e:H a=some (.tup xs)):ZX K H (.ref a) (.type "tuple")
 | dK {a:zE}{kvs:List (Key×V)} (e:H a=some (.dK kvs)):ZX K H (.ref a) (.type "dict")
 | dT {a:zE}{kvs:List (List Key×V)} (e:H a=some (.dT kvs)):ZX K H (.ref a) (.type "dict")
 | ins {a C dx:zE}{fs:List (Str×V)} (e:H a=some (.ins C dx fs)) (cl:Cls K C) (ha:PySem.W.findIn K (.ref C) "__class__" = some (some (.builtin "object.__class__")))
   (hn:PySem.W.specialIn K (.builtin "object.__class__") "__get__" = some (some (.builtin "getset_descriptor.__get__"))) (htk:PySem.W.takesIn K (.builtin "object.__class__")=some true)
   (hm:PySem.W.mroIn K C (.type "object")=some true):ZX K H (.ref a) (.ref C)
theorem L8 (I:Inv X pins σ H s) (rx:zj x u) (ty:ZX X.K H x t) (e:PySem.W.kitOne X.K t c=some b) (h:∀ tk,Q (.bool b) { s with toks:=tk }) :
  wpAny (zP X.prog X.w) A (call (.builtin "isinstance") [u,c]) Q E s:=by
 cases ty with
 | non=>cases (show u=vA from rx);exact PySem.W.kia_one PySem.W.kitx_none I.kIn Zg e (λz=>nomatch z) h
 | bl y=>cases (show u=Jo y from rx);exact PySem.W.kia_one PySem.W.kitx_bool I.kIn Zg e (λz=>nomatch z) h
 | int i=>obtain⟨t,q⟩:=(show ∃ t,u=Vy i t from rx);cases q;exact PySem.W.kia_one PySem.W.kitx_int I.kIn Zg e (λz=>nomatch z) h
 | str y=>obtain⟨t,q⟩:=(show ∃ t,u=X3 y t from rx);cases q;exact PySem.W.kia_one PySem.W.kitx_str I.kIn Zg e (λz=>nomatch z) h
 | flt y=>obtain⟨t,q⟩:=(show ∃ t,u=DL y t from rx);cases q;exact PySem.W.kia_one PySem.W.kitx_float I.kIn Zg e (λz=>nomatch z) h
 | @lst a xs ea =>
  cases (show u=qG a from rx);obtain⟨_,_,n,_,f⟩:=(show qA X.prog X.w H s.heap a (.lst xs) from I.hok a _ ea)
  exact PySem.W.kia_one PySem.W.kitx_list I.kIn ⟨_,f,rfl⟩ e (λz=>nomatch z) h
 | @frz a ob xs ea =>
  cases (show u=qG a from rx);obtain⟨_,_,_,n,_,f⟩:=(show qA X.prog X.w H s.heap a (.frz ob (.lst xs)) from I.hok a _ ea)
  exact PySem.W.kia_one PySem.W.kitx_list I.kIn ⟨_,f,rfl⟩ e (λz=>nomatch z) h
 | @tup a xs ea =>
  cases (show u=qG a from rx);obtain⟨_,_,_,p⟩:=(show qA X.prog X.w H s.heap a (.tup xs) from I.hok a _ ea)
  obtain⟨o,f,g,_⟩:=p;exact PySem.W.kia_one PySem.W.kitx_tuple I.kIn ⟨o,f,g⟩ e (λz=>nomatch z) h
 | @dK a kvs ea =>
  cases (show u=qG a from rx);obtain⟨_,_,vs,_,p⟩:=(show qA X.prog X.w H s.heap a (.dK kvs) from I.hok a _ ea)
  obtain⟨o,es,l,f,g,_⟩:=p;exact PySem.W.kia_one PySem.W.kitx_dict I.kIn ⟨o,f,g.1⟩ e (λz=>nomatch z) h
 | @dT a kvs ea =>
  cases (show u=qG a from rx);obtain⟨_,_,xs,_,o,es,l,f,g,_⟩:=(show qA X.prog X.w H s.heap a (.dT kvs) from I.hok a _ ea)
  exact PySem.W.kia_one PySem.W.kitx_dict I.kIn ⟨o,f,g.1⟩ e (λz=>nomatch z) h
 | @ins a C r fs ea cl ha m j hm =>
  cases (show u=qG a from rx);obtain⟨v,O,_⟩:=vr I.hok ea;obtain⟨B,J,_⟩:=O.look;exact PySem.W.kia_one (PySem.W.kitx_own (cl.get _) cl.hd ha m j hm) I.kIn J e (λz=>nomatch z) h
end
end L2
namespace L2
open PySem PySem.Spec PyProof.Rows
structure z4 (k:Nat) (A:jc):Prop where
 hd:A.handled=none
 dp:A.depth+3 * k+5 < gh
 un:A.units+16 * k+200 < Q1
theorem z4.mono {j k:Nat} (r:z4 k A) (h:j <= k):z4 j A:=⟨r.hd,by have:=r.dp;lia,by have:=r.un;lia⟩
theorem z4.deeper {k:Nat} (r:z4 (k+1) A) (env:Env):z4 k (A.deeper env) :=
 ⟨r.hd,by have:=r.dp;show A.depth+1+3 * k+5 < _;lia,by have:=r.un;show A.units+3+16 * k+200 < _;lia⟩
theorem lI {A:jc}{C:zE}{us:List zD}{c:List (Str×zD)}:(A.under (.builtin "type.__call__" ⟨.ref C::us,c⟩)).depth=A.depth+1:=by
 first | rfl | simp[BY,Code.weight,Code.isCreation,Code.isGuard,Code.isCaller,EJ,b8,guardIds]
theorem ig {A:jc}{C:zE}{us:List zD}{c:List (Str×zD)}:(A.under (.builtin "type.__call__" ⟨.ref C::us,c⟩)).units=A.units+1:=by
 first | rfl | simp[BY,Code.cUnits,EJ,b8]
theorem z4.make {k:Nat} (r:z4 (k+1) A) (C:zE) (us:List zD) (c:List (Str×zD)):z4 k (A.under (.builtin "type.__call__" ⟨.ref C::us,c⟩)) :=
 ⟨r.hd,by have:=r.dp;rw[lI];lia,by have:=r.un;rw[ig];lia⟩
theorem z4.depth {k:Nat} (r:z4 k A):A.depth < gh:=by have:=r.dp;lia
theorem z4.units {k:Nat} (r:z4 k A):A.units+64 < Q1:=by have:=r.un;lia
theorem z4.units0 {k:Nat} (r:z4 k A):A.units < Q1:=by have:=r.un;lia
def Ay:TA:=λ_ H Q=>Q [] H
def IL (c:TE) (e:TA):TA:=λσ H Q=>c σ H λx f=>e σ f λxs g=>Q (x::xs) g
section
variable {X:Cx}{e:zV}{es:List zV}{te:TE}{t:TA}{pos:Pos}
theorem uM:PA X [] Ay:=λ_ _ _ _ H Q I h=>wJ ⟨[],H,I,.nil,h⟩
theorem W6 (ha:PE X e te) (f:PA X es t) (hs:jK (e::es) X.env=(false,zr e X.env)::jK es X.env:=by rfl):PA X (e::es) (IL te t):=by
 intro pos c s σ H Q I h;rw[hs];show wpAny _ _ (U1 ((false,zr e X.env)::qX pos (jK es X.env))) _ _ s;refine V6 (zu (ha c s σ H _ I h) λu s1 x g i j l=>?_);exact zu (f pos c s1 σ g _ i l) λus q xs m n o p=>⟨x::xs,m,n,.cons j o,p⟩
def Hx (t:TA):TE:=λσ H Q=>t σ H λxs c=>xs.length <= zg/\∀ p,c p=none->Q (.ref p) (upd c p (.tup xs))
def MK (t:TA):TE:=λσ H Q=>t σ H λxs c=>xs.length <= zg/\∀ p,c p=none->Q (.ref p) (upd c p (.lst xs))
theorem mR {i} (h:PA X es t):PE X (.Tuple es i pos) (Hx t):=by
 intro c s σ H Q I j;refine wpAny_Tuple_spliced (zu (h pos c s σ H _ I j) λus s1 xs f g r ⟨z,q⟩=>⟨by rw[<- r.length];exact z,?_⟩);have l:f s1.heap.objs.size=none:=g.hok.fresh (zo _);refine⟨.ref s1.heap.objs.size,upd f s1.heap.objs.size (.tup xs),g.laid (t':=s1.toks) (λb u e=>ji _ e) (zo _) ?_,rfl,q _ l⟩;exact⟨z,us,r,⟨_,qi _ rfl,rfl,_,rfl⟩⟩
theorem G4 (h:PA X es t):PE X (.List es pos) (MK t):=by
 intro c s σ H Q I i;refine wpAny_List_spliced (zu (h pos c s σ H _ I i) λus s1 xs f g r ⟨z,q⟩=>⟨by rw[<- r.length];exact z,?_⟩);have j:f s1.heap.objs.size=none:=g.hok.fresh (zo _);refine⟨.ref s1.heap.objs.size,upd f s1.heap.objs.size (.lst xs),g.laid (t':=s1.toks) (λb u e=>ji _ e) (zo _) ?_,rfl,q _ j⟩;exact⟨z,us,0,r,qi _ rfl⟩
end
abbrev Sp:=List V->Hp->VK->XK->Prop
abbrev CXT:=List Env->Hp->zJ->XK->zD->zJ->Prop
structure J8 (P:jB) (w:jG) (K:PySem.W.Frag) (mg:Str->Option zD) (base:zi) (A:jc) (outer:List Env) (s:zJ) (H:Hp):Prop where
 frames:A.frames=some outer
 mod:Mod K mg base
 bs:∀ b o,base.get? b=some o->s.heap.get? b=some o/\H b=none
 bsz:base.objs.size <= s.heap.objs.size
 funs:s.heap.FunFrames base outer
 frf:∀ b∈frs outer,H b=none
 hok:HOk P w H s.heap
 bare:JN s.gens
def CE (outer:List Env) (P:jB) (w:jG) (H:Hp) (s:zJ) (Q:VK) (u:zD) (c:zJ):Prop :=
 ∃ v e,c.os=s.os/\JN c.gens/\Un (frs outer) [] H e s.heap c.heap/\HOk P w e c.heap/\zj v u/\Q v e
def CR (CX:CXT) (outer:List Env) (P:jB) (w:jG) (H:Hp) (s:zJ) (Q:VK) (E:XK) (r:Result) (c:zJ):Prop :=
 match r with
 | .ok (.ret u)=>CE outer P w H s Q u c
 | .ok _=>False
 | .error e=>CX outer H s E e c
structure zm (P:jB) (w:jG) (K:PySem.W.Frag) (mg:Str->Option zD) (base:zi) (CX:CXT) (k:Nat) (f:zE) (fd:QI) (ps:List Str) (sp:Sp):Prop where
 len:∀ vs H Q E,sp vs H Q E->vs.length=ps.length
 run:∀ (A:jc) (outer:List Env) (s:zJ) (H:Hp) (args:Args) (us:List zD) (vs:List V) (Q:VK) (E:XK),z4 k A->J8 P w K mg base A outer s H->(0 < s.toks\/∃ p∈ps,fd.scope.names.lookup p=some .local)->XI s fd args (ps.zip us)->zd vs us->sp vs H Q E ->
  codeAny (zP P w) A (.call (.ref f) args) (CR CX outer P w H s Q E) s
theorem zm.imp {P:jB}{K:PySem.W.Frag}{mg:Str->Option zD}{base:zi}{k:Nat}{sp c:Sp} (F:zm P w K mg base CX k f fd ps sp)
  (h:∀ vs H Q E,c vs H Q E->sp vs H Q E):zm P w K mg base CX k f fd ps c :=
 ⟨λvs H Q E q=>F.len vs H Q E (h _ _ _ _ q),λA outer s H args us vs Q E e g i j l hs=>F.run A outer s H args us vs Q E e g i j l (h _ _ _ _ hs)⟩
theorem J8.make {P:jB}{K:PySem.W.Frag}{mg:Str->Option zD}{base:zi}{outer:List Env} (e:J8 P w K mg base A outer s H) (C:zE) (us:List zD) (c:List (Str×zD)) :
  J8 P w K mg base (A.under (.builtin "type.__call__" ⟨.ref C::us,c⟩)) outer s H:=⟨by first | exact e.frames | (simpa [BY,Code.envs,b8,pushEnvs] using e.frames),e.mod,e.bs,e.bsz,e.funs,e.frf,e.hok,e.bare⟩
section
variable {X:Cx}{pins:List (zE×Obj)}{σ:St}{H:Hp}{s s':zJ}
theorem Inv.env0 (I:Inv X pins σ H s):J8 X.prog X.w X.K X.mg X.base X.A X.stack s H :=
 ⟨I.ok.frames,I.ok.mod,I.bs,jM I.ok.bsz I.sz,I.stack,I.stkFree,I.hok,I.bare⟩
theorem Inv.after (I:Inv X pins σ H s) (h:CE X.stack X.prog X.w H s Q u s') (e:0 < s'.toks):EP X pins σ Q u s':=by
 obtain⟨v,f,os,bare,un,hok,r,q⟩:=h;obtain⟨i,g,d,t,c⟩:=s';obtain rfl:c=s.os:=os;exact⟨v,f,I.call (h':=i) (g':=g) (d':=d) (t':=t) (ch:=[]) un hok bare (λb z=>absurd z (by simp)) e,r,q⟩
end
def DF (sp:Sp) (c:List V) (E:XK) (t:TA):TE:=λσ H Q=>t σ H λvs e=>sp (vs++c) e Q E
def cV (C:zE) (m:Str) (sp:Sp) (c:List V) (E:XK) (f:TE) (t:TA):TE:=λσ H Q=>f σ H λx e=>∃ a g fs,x=.ref a/\e a=some (.ins C g fs)/\fs.lookup m=none /\
 t σ e λvs h=>sp (x::(vs++c)) h Q E
def Lx (C:zE) (sp:Sp) (e:List V) (E:XK) (t:TA):TE:=λσ H Q=>t σ H λvs f=>∀ x c,f x=none->f c=none->c≠x ->
 sp (.ref x::(vs++e)) (upd (upd f c (.own x)) x (.ins C c [])) (λv g=>v=.non/\Q (.ref x) g) E
def yH (K:PySem.W.Frag) (fd:QI) (ps:List Str) (ds:List zD):Prop :=
 ∀ (s:zJ) (us:List zD),K.In s.heap->(us++ds).length=ps.length->XI s fd ⟨us,[]⟩ (ps.zip (us++ds))
theorem yH.all {K:PySem.W.Frag}{ps:List Str} (h:∀ us:List zD,us.length=ps.length->wx fd ⟨us,[]⟩=pure (ps.zip us)):yH K fd ps []:=λs us _ c=>by
 rw[yZ] at c ⊢;exact .of_eq (h us c)
def Zq (CX:CXT) (X:Cx) (E:XK):Prop:=∀ (c:List (zE×Obj)) (σ:St) (H:Hp) (s:zJ) (e:zD) (f:zJ),Inv X c σ H s->CX X.stack H s E e f->X.xe e f
section
variable {X:Cx}{CX:CXT}{k:Nat}{f C:zE}{fd:QI}{ps:List Str}{sp:Sp}{dvs:List V}{ds:List zD}{E:XK}{x m:Str}{p pos apos:Pos}{e o:zV}{es:List zV}{ta:TE}{t:TA}
theorem u4 {Q:VK} (F:zm X.prog X.w X.K X.mg X.base CX k f fd ps sp) (l:z4 k X.A) (q:yH X.K fd ps ds) (hd:zd dvs ds) (v:Zq CX X E)
  (I:Inv X c σ H s) (r:zd vs us) (h:sp (vs++dvs) H Q E):wpAny (zP X.prog X.w) X.A (call (.ref f) us) (EP X c σ Q) X.xe s:=by
 have j:zd (vs++dvs) (us++ds):=r.append hd;have y:(us++ds).length=ps.length:=by rw[<- j.length];exact F.len _ _ _ _ h
 refine DD (Ue (lS (n:=1) I.tk (F.run X.A X.stack s H ⟨us,[]⟩ (us++ds) (vs++dvs) Q E l I.env0 (.inl I.tk) (q s us I.kIn y) j h)) λr z ⟨i,g⟩=>?_);cases r with
 | error e=>exact v c σ H s e z I g
 | ok fl =>
  cases fl with
  | ret u=>exact I.after g i
  | next=>exact jF g
  | brk=>exact jF g
  | cont=>exact jF g
theorem gd (F:zm X.prog X.w X.K X.mg X.base CX k f fd ps sp) (l:z4 k X.A) (n:Gl X x) (hm:X.mg x=some (.ref f)) (u:PySem.W.keepIn X.K (.ref f)=true) (v:yH X.K fd ps ds) (hd:zd dvs ds) (y:Zq CX X E)
  (ha:PA X (e::es) t) (g:(x == ("__debug__" : Str))=false:=by decide) (z:jK (e::es) X.env=(false,zr e X.env)::jK es X.env:=by rfl) (i:(qX pos (jK es X.env)).any (·.1)=false:=by rfl) :
  PE X (.Call (.Name x p) (e::es) [] pos) (DF sp dvs E t):=by
 intro c s σ H Q I h;refine wR (wU I n hm ?_ g);refine PySem.W.callWith_K (h₀:=X.base) I.ok.mod.kin u (zu (ha pos c s σ H _ I h) λus s1 vs B j r q=>⟨j.kIn,?_⟩) z i;exact u4 F l v hd y j r q
theorem i9 (z:PE X o ta) (c:Cls X.K C) (hm:YD X.K C m f) (F:zm X.prog X.w X.K X.mg X.base CX k f fd ps sp) (B:z4 k X.A) (G:yH X.K fd ps ds) (hd:zd dvs ds) (J:Zq CX X E) (ha:PA X (e::es) t)
  (i:jK (e::es) X.env=(false,zr e X.env)::jK es X.env:=by rfl) (j:(qX pos (jK es X.env)).any (·.1)=false:=by rfl)
  (L:zr (.Call (.Attribute o m apos) (e::es) [] pos) X.env=(do
   let n <- zr o X.env
   standAt apos.atName
   let (f,first) <- holding [n] (X4 n m pl)
   callWith pos f first (qX pos (jK (e::es) X.env)) (xD pos (xp [] X.env))):=by rfl) :
  PE X (.Call (.Attribute o m apos) (e::es) [] pos) (cV C m sp dvs E ta t):=by
 intro g s σ H Q I h;refine PySem.W.methodCall_KW (pl:=pl) (zu (z g s σ H _ I h) λu s1 x M v rx ⟨a,U,fs,ex,ea,l,q⟩=>?_) L;subst ex;obtain rfl:u=qG a:=rx;refine aY v ea c hm l ?_;refine PySem.W.callWith_K (first:=[.ref a]) (h₀:=X.base) I.ok.mod.kin hm.kp (zu (ha pos g s1 σ M _ v q) λus Y vs H2 y r N=>⟨y.kIn,?_⟩) i j;exact u4 (us:=.ref a::us) (vs:=.ref a::vs) F B G hd J y (.cons rfl r) N
theorem EO (n:PE X o ta) (c:Cls X.K C) (hm:YD X.K C m f) (F:zm X.prog X.w X.K X.mg X.base CX k f fd ps sp) (r:z4 k X.A) (v:yH X.K fd ps ds) (hd:zd dvs ds) (y:Zq CX X E)
  (z:zr (.Call (.Attribute o m apos) [] [] pos) X.env=(do
   let j <- zr o X.env
   standAt apos.atName
   let (f,first) <- holding [j] (X4 j m pl)
   callWith pos f first (qX pos (jK [] X.env)) (xD pos (xp [] X.env))):=by rfl) :
  PE X (.Call (.Attribute o m apos) [] [] pos) (cV C m sp dvs E ta Ay):=by
 intro g s σ H Q I h;refine PySem.W.methodCall_KW (pl:=pl) (zu (n g s σ H _ I h) λu s1 x B i rx ⟨a,G,fs,ex,ea,l,q⟩=>?_) z;subst ex;obtain rfl:u=qG a:=rx;refine aY i ea c hm l ?_;exact PySem.W.callWith_K0 (first:=[.ref a]) i.kIn hm.kp (u4 (us:=[.ref a]) (vs:=[.ref a]) F r v hd y i (.cons rfl .nil) q)
structure Mk (K:PySem.W.Frag) (C f:zE):Prop where
 makes:PySem.W.makesIn K C=true
 init:PySem.W.findIn K (.ref C) "__init__" = some (some (.ref f))
 fn:PySem.W.isFn K (.ref f)=true
 kp:PySem.W.keepIn K (.ref C)=true
theorem i8 {Q:VK} (M:Mk X.K C f) (F:zm X.prog X.w X.K X.mg X.base CX k f fd ps sp) (z:z4 (k+1) X.A) (B:yH X.K fd ps ds) (hd:zd dvs ds)
  (G:Zq CX X E) (I:Inv X g σ H s) (r:zd vs us)
  (h:∀ x j,H x=none->H j=none->j≠x->sp (.ref x::(vs++dvs)) (upd (upd H j (.own x)) x (.ins C j [])) (λv J=>v=.non/\Q (.ref x) J) E) :
  wpAny (zP X.prog X.w) X.A (call (.ref C) us) (EP X g σ Q) X.xe s:=by
 have q:=h (s.heap.objs.size+1) s.heap.objs.size (I.hok.fresh (Wt _)) (I.hok.fresh (zo _)) (je (xg _));have i:=Inv.made (C:=C) I;have y:zd (V.ref (s.heap.objs.size+1)::(vs++dvs)) (qG (s.heap.objs.size+1)::(us++ds)):=.cons rfl (r.append hd);have L:(qG (s.heap.objs.size+1)::us++ds).length=ps.length:=by
  have e:=y.length;rw[F.len _ _ _ _ q] at e;exact e.symm
 refine DD (IP (f:=f) I.kIn M.makes M.init (beq_iff_eq.mp M.fn) (Ue (lS (n:=1) i.tk (F.run _ X.stack _ _ ⟨qG (s.heap.objs.size+1)::us,[]⟩ (qG (s.heap.objs.size+1)::(us++ds)) _ _ E (z.make C us [])
  (i.env0.make C us []) (.inl i.tk) (B _ (qG (s.heap.objs.size+1)::us) i.kIn L) y q)) λr N ⟨l,c⟩=>?_))
 cases r with
 | error e=>exact G g σ _ _ e N i c
 | ok fl =>
  cases fl with
  | ret u =>
   obtain⟨v,U,Y,rv,ev,q3⟩:=i.after c l;subst ev;exact⟨rv,⟨V.ref (s.heap.objs.size+1),U,Y,rfl,q3⟩⟩
  | next=>exact jF c
  | brk=>exact jF c
  | cont=>exact jF c
theorem fX (M:Mk X.K C f) (F:zm X.prog X.w X.K X.mg X.base CX k f fd ps sp) (l:z4 (k+1) X.A) (n:Gl X x) (hm:X.mg x=some (.ref C)) (u:yH X.K fd ps ds) (hd:zd dvs ds) (v:Zq CX X E)
  (ha:PA X (e::es) t) (g:(x == ("__debug__" : Str))=false:=by decide) (y:jK (e::es) X.env=(false,zr e X.env)::jK es X.env:=by rfl) (i:(qX pos (jK es X.env)).any (·.1)=false:=by rfl) :
  PE X (.Call (.Name x p) (e::es) [] pos) (Lx C sp dvs E t):=by
 intro c s σ H Q I h;refine wR (wU I n hm ?_ g);refine PySem.W.callWith_K (h₀:=X.base) I.ok.mod.kin M.kp (zu (ha pos c s σ H _ I h) λus s1 vs z j r q=>⟨j.kIn,?_⟩) y i;exact i8 M F l u hd v j r q
end
section
variable {X:Cx}{CX:CXT}{k:Nat}{f C:zE}{fd:QI}{ps ks:List Str}{sp:Sp}{E:XK}{x m:Str}{p pos apos kpos:Pos}{e o:zV}{es:List zV}{kws:List Jb}{te ta:TE}{t tk:TA}{nm:Option Str}
structure n8 (K:PySem.W.Frag) (fd:QI) (ps ks:List Str) (g:List zD->List zD->List zD) (gV:List V->List V->List V):Prop where
 to:∀ (s:zJ) (us ws:List zD),K.In s.heap->(g us ws).length=ps.length->XI s fd ⟨us,ks.zip ws⟩ (ps.zip (g us ws))
 rel:∀ {vs:List V}{us:List zD}{zs:List V}{ws:List zD},zd vs us->zd zs ws->zd (gV vs zs) (g us ws)
variable {g:List zD->List zD->List zD}{gV:List V->List V->List V}
end
structure Qu (N P:List Str) (sc:Za):Prop where
 kind:sc.kind=.function
 co:sc.isCoroutine=false
 gen:sc.isGenerator=false
 nd:N.Nodup
 pre:N.take P.length=P
 par:∀ x∈P,sc.names.lookup x=some .local\/sc.names.lookup x=some .cell
 nofree:∀ y∈sc.names,y.2≠.free
theorem B3 {kindOf:Str->Option xH}{x:Str}:∀ {binds:List (Str×zD)}{m:Str->Option zD},(∀ v,(x,v)∉binds)->bindL kindOf binds m x=m x
 | [],_,_=>rfl
 | (n,v)::r,m,h=>by
  unfold bindL;rw[B3 λw hw=>h w (jh _ hw)];split
  ·have:x≠n:=by rintro rfl;exact h v qa
   simp[this]
  ·rfl
theorem AV {kindOf:Str->Option xH}{x:Str}:∀ {binds:List (Str×zD)}{m:Str->Option zD},(∀ v,(x,v)∉binds)->bindC kindOf binds m x=m x
 | [],_,_=>rfl
 | (n,v)::r,m,h=>by
  unfold bindC;rw[AV λw hw=>h w (jh _ hw)];split
  ·rfl
  ·have:x≠n:=by rintro rfl;exact h v qa
   simp[this]
theorem dX {kindOf:Str->Option xH}{x:Str}{v:zD}:∀ {P:List Str}{vs:List zD}{i:Nat}{m:Str->Option zD},P.Nodup->P[i]? = some x->vs[i]? = some v->kindOf x=some .local ->
  bindL kindOf (P.zip vs) m x=some v
 | [],_,_,_,_,h,_,_=>by simp at h
 | _::_,[],_,_,_,_,h,_=>by simp at h
 | p::P,w::vs,0,m,nd,c,e,f=>by
  simp at c e;subst c;subst e;show bindL kindOf ((p,w)::P.zip vs) m p=_;unfold bindL;rw[B3 λv g=>(List.nodup_cons.mp nd).1 (Be g).1,if_pos f];simp
 | p::P,w::vs,i+1,m,nd,c,e,f=>by
  show bindL kindOf ((p,w)::P.zip vs) m x=_;unfold bindL;exact dX (i:=i) (List.nodup_cons.mp nd).2 (by simpa using c) (by simpa using e) f
theorem C2 {kindOf:Str->Option xH}{x:Str}{v:zD}:∀ {P:List Str}{vs:List zD}{i:Nat}{m:Str->Option zD},P.Nodup->P[i]? = some x->vs[i]? = some v->kindOf x≠some .local ->
  bindC kindOf (P.zip vs) m x=some v
 | [],_,_,_,_,h,_,_=>by simp at h
 | _::_,[],_,_,_,_,h,_=>by simp at h
 | p::P,w::vs,0,m,nd,c,e,f=>by
  simp at c e;subst c;subst e;show bindC kindOf ((p,w)::P.zip vs) m p=_;unfold bindC;rw[AV λv g=>(List.nodup_cons.mp nd).1 (Be g).1,if_neg f];simp
 | p::P,w::vs,i+1,m,nd,c,e,f=>by
  show bindC kindOf ((p,w)::P.zip vs) m x=_;unfold bindC;exact C2 (i:=i) (List.nodup_cons.mp nd).2 (by simpa using c) (by simpa using e) f
noncomputable def Zy (N:List Str) (vs:List V):St:=vs.map some++z9 (N.length - vs.length) none
noncomputable def Ze (CX:CXT) (P:jB) (w:jG) (K:PySem.W.Frag) (mg:Str->Option zD) (base:zi) (N:List Str) (qual:Str) (scope:Za) (f:zE) (g:zD) (A:jc) (outer:List Env) (s:zJ) (H:Hp) (E:XK):Cx where
 prog:=P
 w:=w
 K:=K
 mg:=mg
 base:=base
 A:=A.deeper (y8 qual scope s.heap.objs.size f g)
 N:=N
 s₀:=s
 H₀:=H
 env:=y8 qual scope s.heap.objs.size f g
 outer:=outer
 stack:=y8 qual scope s.heap.objs.size f g::outer
 ex:=[]
 calm:=true
 fn:=λ_=>true
 pn:=[]
 xe:=λe h=>wpAny (zP P w) (A.deeper (y8 qual scope s.heap.objs.size f g)) (leaving (y8 qual scope s.heap.objs.size f g) e) (λ_ c=>CX outer H s E e c) (λi c=>CX outer H s E i c) h
theorem A4 {e:Za}{x:Str} (h:e.names.lookup x=some .cell):∃ c,(Kh n e.names []).lookup x=some c:=by
 have q:=PySem.W.cellsFrom_some e.names n [] (.inl h);exact Option.isSome_iff_exists.mp q
theorem wO {M:xa}{env:Env} (f:Str×zD->PUnit->Sem (ForInStep PUnit)) (I:∀ n v u,f (n,v) u=(do storeName env n v;pure (.yield ⟨⟩))) (H:env.scope.kind=.function) :
  ∀ (binds:List (Str×zD)) (m t:Str->Option zD) (s:zJ) (Q:PUnit->zJ->Prop),wA s₀ env.locals m env.cells t s ->
   (∀ x∈binds,env.kindOf x.1=some .local\/(env.kindOf x.1=some .cell/\(env.cells.lookup x.1).isSome=true)) ->
   (∀ w,wA s₀ env.locals (bindL env.kindOf binds m) env.cells (bindC env.kindOf binds t) w->((0 < s.toks\/∃ b∈binds,env.kindOf b.1=some .local)->0 < w.toks)->Q ⟨⟩ w)->wpAny M A (forIn binds ⟨⟩ f) Q E s
 | [],m,t,s,Q,x,_,h=>by
  rw[List.forIn_nil];exact wpAny_pure (h s x λz=>z.elim id λ⟨b,B,_⟩=>absurd B (by simp))
 | (n,v)::r,m,t,s,Q,x,g,h=>by
  rw[List.forIn_cons,I];have U:∀ y∈r,env.kindOf y.1=some .local\/(env.kindOf y.1=some .cell/\(env.cells.lookup y.1).isSome=true):=λy hy=>g y (jh _ hy);rcases g (n,v) qa with p | ⟨p,q⟩
  ·refine zS (zS (FU p x.toInCall.ns (λh' J C=>wpAny_pure (wO f I H r (λy=>if y=n then some v else m y) t _ Q ⟨⟨?_,J,λb o e=>?_,x.toInCall.fresh⟩,λk c q=>?_,x.apart,x.above⟩ U λi j L=>h i ?_ λ_=>L (.inl (yv _)))) (by rw[H];rfl)))
   ·obtain⟨Y,tk,rfl⟩:=x.toInCall.same;exact⟨h',_,rfl⟩
   ·exact C.extBut b o (je (qR (jR e) x.toInCall.fresh)) (x.toInCall.keep b o e)
   ·exact (x.cell k c q).sameBut C (KE (x.above k c (PySem.mem_of_lookup q)))
   ·unfold bindL bindC;rw[if_pos p,if_pos p];exact j
  ·obtain⟨c,q⟩:=Option.isSome_iff_exists.mp q;have l:¬ env.kindOf n=some .local:=by rw[p];decide
   refine zS (zS (yD (n:=s.toks) (zo _) (stCC x H p q λw x' N=>wpAny_pure (wO f I H r m _ w Q x' U λi j L=>h i ?_ λz=>L ?_))))
   ·unfold bindL bindC;rw[if_neg l,if_neg l];exact j
   ·rcases z with z | ⟨b,B,G⟩
    ·exact .inl (qR z N)
    ·rcases List.mem_cons.mp B with rfl | B
     ·exact absurd G l
     ·exact .inr ⟨b,B,G⟩
theorem nY {M:xa}{s:zJ}{scope:Za}{binds:List (Str×zD)}{code:zD}{Q:Env->zJ->Prop}
  (m:scope.kind=.function)
  (i:∀ x∈binds,scope.names.lookup x.1=some .local\/(scope.names.lookup x.1=some .cell/\((Kh (s.heap.objs.size+1) scope.names []).lookup x.1).isSome=true))
  (p:∀ env,env=newEnv scope s.heap.objs.size g (Kh (s.heap.objs.size+1) scope.names []) qual h code none f ->
   ∀ j,wA s env.locals (bindL env.kindOf binds λ_=>none) env.cells (bindC env.kindOf binds λ_=>none) j->((0 < s.toks\/∃ b∈binds,scope.names.lookup b.1=some .local)->0 < j.toks)->Q env j) :
  wpAny M A (BV scope g [] binds qual h code none f) Q E s:=by
 simp only[BV,gq,jv,if_false];refine zS (wpAny_alloc ?_);refine zS (wpAny_layCells _ (λname kind cells=>by cases l:kind == Kc<;>simp[l]) _ _ _ _ ?_);have ok:=cellsFrom_ok scope.names (s.heap.push { cls:=.type "frame",data:=.dict #[] }) (s.heap.objs.size+1) [] ⟨λ_ _ hm=>(nomatch hm),WM⟩ (by rw[Q3];exact zo _);rw[Q3] at ok;rw[show ({ s with heap:=s.heap.push { cls:=.type "frame",data:=.dict #[] } }:zJ).heap.objs.size=s.heap.objs.size+1 from Q3 ..];refine zS (wO (s₀:=s) (env:=newEnv scope s.heap.objs.size g (Kh (s.heap.objs.size+1) scope.names []) qual h code none f)
  _ (λ_ _ _=>rfl) m binds (λ_=>none) (λ_=>none) _ _
  ⟨⟨⟨_,_,rfl⟩,(Heap.Ns.new s.heap (.type "frame")).keeps (pushCells_keeps _ _),λb o e=>pushCells_keeps _ _ b o (ji _ e),zo _⟩,
   λn c q=>(ok.empty n c (PySem.mem_of_lookup q)).1,ok.apart,λn c hm=>(ok.empty n c hm).2⟩
  i λj x r=>wpAny_pure (p _ rfl j x r))
theorem GU {P:jB}{K:PySem.W.Frag}{mg:Str->Option zD}{base:zi}{A:jc}{outer:List Env}{vs:List V}
  (S:Qu N ps scope) (hd:A.handled=none) (j:J8 P w K mg base A outer s H) (Q:vs.length=ps.length) (r:zd vs us)
  (x:wA s s.heap.objs.size (bindL (y8 qual scope s.heap.objs.size f C).kindOf (ps.zip us) λ_=>none) (Kh (s.heap.objs.size+1) scope.names []) (bindC (y8 qual scope s.heap.objs.size f C).kindOf (ps.zip us) λ_=>none) s1) (J:0 < s1.toks) :
  Inv (Ze CX P w K mg base N qual scope f C A outer s H E) [] (Zy N vs) H s1:=by
 have L:ps.length <= N.length:=by have:=congrArg ZT S.pre;rw[ZG] at this;lia
 obtain⟨B,tk,rfl,G⟩:=x.done;have l:∀ b:zE,b∉(Ze CX P w K mg base N qual scope f C A outer s H E).ex:=λb z=>absurd (show b∈([]:List zE) from z) (by simp);refine⟨⟨j.mod,S.kind,rfl,rfl,zo _,λy z c B g=>?_,λy m=>?_,λy c _ h=>?_,λ_=>hd,Around.frames_deeper j.frames,.inr ⟨rfl,rfl⟩,λb z=>absurd z (l b),j.bs,j.bsz,λb _ _=>l b,λb z=>absurd z (l b),j.funs,j.frf⟩,
  rfl,j.bare,Un.kept G,⟨_,x.toInCall.ns,λi y v B g U=>?_⟩,λy c h=>⟨_,x.cell y c h⟩,j.hok.fresh (zo _),λy c h=>?_,λp o=>absurd (show p∈([]:List (zE×Obj)) from o) (by simp),j.hok.kept G,?_,J⟩
 ·exact name_of_addr x.apart (PySem.mem_of_lookup B) (PySem.mem_of_lookup g)
 ·have m:scope.names.lookup y=some .cell\/scope.names.lookup y=some .free:=m;rcases m with m | m
  ·exact A4 m
  ·exact absurd rfl (S.nofree _ (PySem.mem_of_lookup m))
 ·exact UD (x.above y c (PySem.mem_of_lookup h))
 ·have hi:i < vs.length:=by
   unfold Zy at g;by_cases hi:i < vs.length
   ·exact hi
   ·rw[ZQ (by simpa using hi)] at g;rw[K3] at g;split at g<;>cases g
  have ha:vs[i]? = some v:=by
   unfold Zy at g;rw[yG (by simpa using hi),yB] at g;cases e:vs[i]? with
   | none=>rw[e] at g;cases g
   | some a=>rw[e] at g;cases g;rfl
  obtain⟨u,I,M⟩:=r.get ha;have o:ps[i]? = some y:=by
   rw[<- S.pre,E6 (by lia)];exact B
  have t:ps.Nodup:=by rw[<- S.pre];exact S.nd.sublist (mK _ _)
  refine⟨u,M,?_⟩;rcases S.par y (y9 o) with k | k
  ·exact .inl ⟨k,dX t o I k⟩
  ·obtain⟨c,e⟩:=A4 (n:=s.heap.objs.size+1) k;refine .inr ⟨.inl k,c,e,?_⟩;have q:=x.cell y c e;rw[C2 t o I (by show scope.names.lookup y≠_;rw[k];decide)] at q;exact q
 ·exact j.hok.fresh (UD (x.above y c (PySem.mem_of_lookup h)))
 ·unfold Zy;show _=N.length;rw[jk,jS,aC]
  lia
theorem h8 {P:jB}{K:PySem.W.Frag}{mg:Str->Option zD}{base:zi}{k:Nat}{f:zE}{kV pm oc:zD}{od:Option zE}
  {L:Array (Option zD)}{sp:Sp} (lk:K.lookup f=some ⟨oc,od,.func (PySem.W.fnOf name qual g j scope dV kV M pm an c ct),L⟩) (U:PySem.W.codeIn K c qual=true) (S:Qu N ps scope)
  (len:∀ vs H Q E,sp vs H Q E->vs.length=ps.length)
  (m:∀ (A:jc) (outer:List Env) (s:zJ) (H:Hp) (vs:List V) (Q:VK) (E:XK),z4 k (A.deeper (y8 qual scope s.heap.objs.size f c))->sp vs H Q E ->
   ∃ t,PSs (Ze CX P w K mg base N qual scope f c A outer s H E) j t/\t { nx:=λ_ l=>Q .non l,rt:=Q } (Zy N vs) H) :
  zm P w K mg base CX (k+1) f (PySem.W.fnOf name qual g j scope dV kV M pm an c ct) ps sp:=by
 refine⟨len,λA outer s H args us vs Q E Y B htk hb r C=>?_⟩;have hl:=len _ _ _ _ C;have KX:K.In s.heap:=B.mod.kin.keeps λb o e=>(B.bs b o e).1;have lim:s.heap.NoLimit:=B.mod.nolimit.keeps λb o e=>(B.bs b o e).1;have z:∀ y∈ps.zip us,scope.names.lookup y.1=some .local\/(scope.names.lookup y.1=some .cell/\((Kh (s.heap.objs.size+1) scope.names []).lookup y.1).isSome=true):=λ⟨n,v⟩ hy=>by
  rcases S.par n (Be hy).1 with q | q
  ·exact .inl q
  ·exact .inr ⟨q,PySem.W.cellsFrom_some _ _ _ (.inl q)⟩
 refine codeAny_call_function Y.depth (KX _ _ lk) rfl S.co S.gen rfl (PySem.W.codeRec_of KX U) (hb _ _ _ _ ?_);refine nY S.kind z λenv he s1 x G=>?_;subst he;refine⟨lim.keeps x.toInCall.keep,codeAny_func ?_⟩;obtain⟨t,ht,hq⟩:=m A outer s H vs Q E (Y.deeper _) C;have I:Inv (Ze CX P w K mg base N qual scope f c A outer s H E) [] (Zy N vs) H s1:=GU S Y.hd B hl r x (G (htk.imp id λ⟨p,hp,hpl⟩=>by
  obtain⟨i,hi,e⟩:=List.mem_iff_getElem.mp hp;have hu:i < us.length:=by rw[<- r.length,hl];exact hi
  exact⟨(p,us[i]),List.mem_iff_getElem.mpr ⟨i,by rw[List.length_zip];lia,by rw[List.getElem_zip,e]⟩,hpl⟩))
 refine wpAny_mono (ht [] s1 (Zy N vs) H _ I hq) (λfl s' hs=>?_) λe s' hs=>hs;have fin:∀ {h:St}{l:Hp}{v:V}{u:zD},Inv (Ze CX P w K mg base N qual scope f c A outer s H E) [] h l s'->zj v u->Q v l->CE outer P w H s Q u s' :=
  λ{h l v u} J rv q=>⟨v,l,J.os,J.bare,J.base,J.hok,rv,q⟩
 cases fl with
 | ret u =>
  obtain⟨v,h,l,J,rv,q⟩:=hs;exact fin J rv q
 | next =>
  obtain⟨h,l,J,q⟩:=hs;exact fin (v:=V.non) (u:=vA) J rfl q
 | brk =>
  obtain⟨_,_,_,q⟩:=hs;exact jF q
 | cont =>
  obtain⟨_,_,_,q⟩:=hs;exact jF q
end L2
namespace L2
open PySem PySem.Spec PyProof.Rows
section
variable {X:Cx}{x:Str}{p pos:Pos}{e:zV}{es:List zV}{t:TA}{id T:String}{r:List V->Hp->VK->Prop}
def tCB (r:List V->Hp->VK->Prop) (t:TA):TE:=λσ H Q=>t σ H λvs c=>r vs c Q
theorem cN (i:jq X (.builtin id) r) (j:Gl X x) (hm:X.mg x=none) (l:qk x=some (.builtin id)) (ha:PA X (e::es) t) (m:x ≠ "__name__" := by decide) (f:(x == ("__debug__" : Str))=false:=by decide)
  (n:jK (e::es) X.env=(false,zr e X.env)::jK es X.env:=by rfl) (g:(qX pos (jK es X.env)).any (·.1)=false:=by rfl):PE X (.Call (.Name x p) (e::es) [] pos) (tCB r t):=by
 intro c s σ H Q I h;refine wR (xV I j hm l ?_ m f);exact n6 (zu (ha pos c s σ H _ I h) λus s1 vs o q u v=>i c s1 σ o vs us Q q u v) n g
theorem MF (i:jq X (.type T) r) (j:Gl X x) (hm:X.mg x=none) (l:qk x=some (.type T)) (ha:PA X (e::es) t) (m:x ≠ "__name__" := by decide) (f:(x == ("__debug__" : Str))=false:=by decide)
  (n:jK (e::es) X.env=(false,zr e X.env)::jK es X.env:=by rfl) (g:(qX pos (jK es X.env)).any (·.1)=false:=by rfl):PE X (.Call (.Name x p) (e::es) [] pos) (tCB r t):=by
 intro c s σ H Q I h;refine wR (xV I j hm l ?_ m f);exact Vo (zu (ha pos c s σ H _ I h) λus s1 vs o q u v=>i c s1 σ o vs us Q q u v) n g
end
end L2
namespace HT
open PySem PyProof.Rows
section
variable {prog:jB}{w:jG}{A:jc}{E:zD->zJ->Prop}{s:zJ}
theorem Ms {b:zE}{vs ws:List zD}{Q:zD->zJ->Prop} (r:xB s.heap t vs.toArray) (u:xB s.heap b ws.toArray) (l:vs≠[])
  (v:ws=[]->Q (.ref t) s) (x:ws≠[]->Q (.ref s.heap.objs.size) { s with heap:=s.heap.push { cls:=.type "tuple",data:=.seq (vs++ws).toArray } })
  (hsz:vs.length+ws.length <= zg):wpAny (zP prog w) A (qy .Add (.ref t) (.ref b)) Q E s:=by
 obtain⟨⟨cls,m,data,o⟩,j,p,n,hd⟩:=id r;obtain⟨⟨q,f,data2,g⟩,c,h,n2,i⟩:=id u;simp only at p hd h i;subst p hd h i;have e:vs.toArray++ws.toArray=(vs++ws).toArray:=by simp
 by_cases hw:ws=[]
 ·exact dv ⟨_,j,rfl⟩ ⟨_,c,rfl⟩ c2 Dc PySem.F.slot_tuple_add PySem.F.entry_tuple_add (PySem.F.args_tuple_add_2 _ _)
   (tuple_addW1 t b vs.toArray ws.toArray n n2 m f o g (by simpa using l) (by simp[hw])) ⟨j,c,v hw⟩
 ·refine dv ⟨_,j,rfl⟩ ⟨_,c,rfl⟩ c2 Dc PySem.F.slot_tuple_add PySem.F.entry_tuple_add (PySem.F.args_tuple_add_2 _ _)
   (tuple_addW2 t b vs.toArray ws.toArray n n2 m f o g (by simpa using l) (by simpa using hw) (by rw[jo,jo];exact hsz)) ⟨j,c,?_⟩
  rw[e];exact x hw
noncomputable def sIx (n d:Nat):Option Int->Nat
 | none=>d
 | some v=>if v < 0 then (v+(n:Int)).toNat else min v.toNat n
theorem u5 (n d:Nat) (hd:d <= n) (o:Option Int):sIx n d o <= n:=by
 cases o with
 | none=>exact hd
 | some v =>
  show (if v < 0 then (v+(n:Int)).toNat else min v.toNat n) <= n;by_cases c:v < 0
  ·rw[if_pos c];lia
  ·rw[if_neg c];exact Nat.min_le_right _ _
theorem uG (v:Int) (n d:Nat):(if v < 0 then max (v+(n:Int)) 0 else min v (n:Int))=((sIx n d (some v):Nat):Int):=by
 show (if v < 0 then max (v+(n:Int)) 0 else min v (n:Int))=(((if v < 0 then (v+(n:Int)).toNat else min v.toNat n):Nat):Int)
 by_cases c:v < 0
 ·simp only[if_pos c];lia
 ·simp only[if_neg c];lia
theorem Ej (lo hi:Option Int) (n:Nat):d4 lo hi 1 (n:Int)=(((sIx n 0 lo:Nat):Int),((sIx n n hi:Nat):Int)):=by
 have c:¬ ((1:Int) < 0):=by lia
 unfold d4;simp only[c,if_false];refine Prod.ext ?_ ?_
 ·cases lo with
  | none=>rfl
  | some v=>exact uG v n 0
 ·cases hi with
  | none=>rfl
  | some v=>exact uG v n n
theorem gA (i j:Nat):WN (i:Int) (j:Int) 1=j - i:=by
 unfold WN;have c:(1:Int) > 0:=by lia
 simp only[c,if_true,CY];split<;>lia
theorem BP {Q:Option Int->zJ->Prop} (p:xW v o) (h:Q o s):wpAny (zP prog w) A (NV v) Q E s:=by
 cases p with
 | none=>exact Me h
 | int i t=>exact slicePart_int h
theorem iR {i:zE}{f g:zD}{lo:Option Int}{Q:Int×Int×Nat->zJ->Prop} (hs:s.heap.IsSliceOf i f g .none) (pl:xW f lo) (j:xW g hi)
  (h:Q (((sIx n 0 lo:Nat):Int),1,sIx n n hi - sIx n 0 lo) s):wpAny (zP prog w) A (gS (.ref i) (pure (n:Int))) Q E s:=by
 obtain⟨os,c,l,e⟩:=id hs;unfold gS NJ;refine zS (zS (xG c e (x:=f) rfl (zS (xG c e (x:=g) rfl (zS (xG c e (x:=.none) rfl (wpAny_pure ?_)))))));refine zS (Me ?_);show wpAny _ _ (if ((1:Int) == 0)=true then _ else _) _ _ s;rw[if_neg (by decide)];refine zS (BP pl (zS (BP j (zS (wpAny_pure ?_)))));show wpAny _ _ (match d4 lo hi 1 (n:Int) with | (lo,hi)=>pure (lo,(1:Int),WN lo hi 1)) _ _ s;rw[Ej lo hi n];show wpAny _ _ (pure (((sIx n 0 lo:Nat):Int),(1:Int),WN ((sIx n 0 lo:Nat):Int) ((sIx n n hi:Nat):Int) 1)) _ _ s;rw[gA];exact wpAny_pure h
theorem ng (xs:Array zD) (i k:Nat):((qE k).filterMap λ(m:Nat)=>xs[((i:Int)+(m:Int) * 1).toNat]?).toArray=((xs.toList.drop i).take k).toArray:=by
 have e:(λ(m:Nat)=>xs[((i:Int)+(m:Int) * 1).toNat]?)=λm=>xs[i+m]? := by
  funext m
  have:((i:Int)+(m:Int) * 1).toNat=i+m:=by lia
  rw[this]
 rw[e];have:=pick_run xs i k;rw[cg] at this;have c:((λx=>xs[x]?) ∘ λx=>i+x)=λm=>xs[i+m]? := rfl;rw[c] at this;rw[this]
theorem g6 {g:zE}{o p:zD}{lo:Option Int}{Q:zD->zJ->Prop} (f:xB s.heap t c) (hs:s.heap.IsSliceOf g o p .none) (pl:xW o lo) (r:xW p hi)
  (hw:¬ (sIx c.size 0 lo=0/\sIx c.size c.size hi=c.size))
  (h:Q (.ref s.heap.objs.size) { s with heap:=s.heap.push { cls:=.type "tuple",data:=.seq ((c.toList.drop (sIx c.size 0 lo)).take (sIx c.size c.size hi - sIx c.size 0 lo)).toArray } })
  (hsz:c.size <= zg):wpAny (zP prog w) A (KL (.ref t) (.ref g)) Q E s:=by
 have e:sizeOk (.seq ((c.toList.drop (sIx c.size 0 lo)).take (sIx c.size c.size hi - sIx c.size 0 lo)).toArray):=by
  show ((c.toList.drop (sIx c.size 0 lo)).take (sIx c.size c.size hi - sIx c.size 0 lo)).toArray.size <= zg;rw[jo,ZG,QW,jm]
  lia
 have v:sIx c.size c.size hi <= c.size:=u5 _ _ (zo _) hi;obtain⟨os,i,j,u⟩:=id hs;have l:s.TypeIs (.ref g) "slice" := ⟨os,i,j⟩
 unfold KL
 try with_reducible refine xx ?_
 first | refine zS (wpAny_pure ?_) | skip
 refine zS (wpAny_sequenceKey f.typeIs (by decide) ?_);refine zS (DY (name:=Xq "__getitem__") f.typeIs HA
  (Y4 HA f.typeIs entry_tuple_getitem ?_ (args_tuple_getitem _ _)))
 show wpAny _ _ (NW (.ref t) >>= _) _ _ s;refine zS (tupleItemsOf_ f ?_);refine zS (cf l ?_);rw[if_pos (by decide)];refine zS (iR hs pl r ?_);have n:¬ ((((sIx c.size 0 lo:Nat):Int) == 0 && (1:Int) == 1 && (sIx c.size c.size hi - sIx c.size 0 lo) == c.size)=true):=by
  intro q;rw[j8,j8] at q;have x:((sIx c.size 0 lo:Nat):Int)=0:=eq_of_beq q.1.1;have y:sIx c.size c.size hi - sIx c.size 0 lo=c.size:=eq_of_beq q.2;exact hw ⟨by lia,by lia⟩
 show wpAny _ _ (if (((sIx c.size 0 lo:Nat):Int) == 0 && (1:Int) == 1 && (sIx c.size c.size hi - sIx c.size 0 lo) == c.size)=true then _ else _) _ _ s;rw[if_neg n,ng]
 first
  | exact zS (m:=u9 _) (JV (wpAny_pure ⟨_,rfl,wpAny_pure h⟩) e)
  | exact zS (m:=u9 _) (JV (zS (wpAny_pure (wpAny_pure ⟨_,rfl,wpAny_pure h⟩))) e)
  | exact zS (zS (m:=u9 _) (JV (wpAny_pure (wpAny_pure ⟨_,rfl,wpAny_pure h⟩)) e))
  | exact zS (zS (m:=u9 _) (JV (wpAny_pure ⟨_,rfl,wpAny_pure h⟩) e))
end
end HT
namespace L2
open PySem PySem.Spec PyProof.Rows
abbrev TO:=St->Hp->(Option Int->Hp->Prop)->Prop
def PO (X:Cx) (e:Option zV) (t:TO):Prop :=
 ∀ (c:List (zE×Obj)) (s:zJ) (σ:St) (H:Hp) (Q:Option Int->Hp->Prop),Inv X c σ H s->t σ H Q ->
  wpAny (zP X.prog X.w) X.A (evalPart e X.env) (λu g=>∃ o f,Inv X c σ f g/\xW u o/\Q o f) X.xe s
def IJ:TO:=λ_ H Q=>Q none H
def iK (t:TE):TO:=λσ H Q=>t σ H λx c=>∃ i,x=.int i/\Q (some i) c
section
variable {X:Cx}{e:zV}{te:TE}{lo hi:Option zV}{tl th:TO}{pos p2:Pos}
theorem IR:PO X none IJ:=by
 intro c s σ H Q I h;rw[wb];exact wpAny_pure ⟨none,H,I,.none,h⟩
theorem Es (h:PE X e te):PO X (some e) (iK te):=by
 intro c s σ H Q I hw;rw[aH];refine zu (h c s σ H _ I hw) λu s1 x f g j l=>?_;obtain⟨i,rfl,q⟩:=l;obtain⟨t,rfl⟩:=j;exact⟨some i,f,g,.int i t,q⟩
def SlR (X:Cx) (r:V->Option Int->Option Int->Hp->VK->Prop):Prop :=
 ∀ (c:List (zE×Obj)) (s:zJ) (σ:St) (H:Hp) (x:V) (v f g:zD) (lo hi:Option Int) (h:zE) (Q:VK),Inv X c σ H s->zj x v->s.heap.IsSliceOf h f g .none->xW f lo->xW g hi->r x lo hi H Q ->
  ∃ T id,U0 (.type T) "__getitem__" = pure (some (.builtin id))/\s.TypeIs v T/\wpAny (zP X.prog X.w) X.A (KL v (.ref h)) (EP X c σ Q) X.xe s
def tSl (r:V->Option Int->Option Int->Hp->VK->Prop) (te:TE) (tl th:TO):TE:=λσ H Q=>te σ H λx c=>tl σ c λl f=>th σ f λu g=>r x l u g Q
theorem gu (m:SlR X r) (n:PE X e te) (o:PO X lo tl) (p:PO X hi th):PE X (.Subscript e (.Slice lo hi none p2) pos) (tSl r te tl th):=by
 intro c s σ H Q I h;refine Wz (zu (n c s σ H _ I h) λv s1 x t y z B=>?_);refine b3 (zu (o c s1 σ t _ y B) λg C l E G pl J=>zu (p c C σ E _ G J) λi f u j L M N=>?_);rw[wb];refine wpAny_pure ?_;have U:Inv X c σ j { f with heap:=f.heap.push { cls:=.type "slice",data:=.fields #[g,i,.none] } }:=L.kept (t':=f.toks) λb ob q=>ji _ q;obtain⟨T,id,Y,ht,hg⟩:=m c { f with heap:=f.heap.push { cls:=.type "slice",data:=.fields #[g,i,.none] } } σ j x v g i l u f.heap.objs.size Q U z (D5 ..) pl M N;show wpAny (zP X.prog X.w) X.A (Wq e (.Slice lo hi none p2) v (.ref f.heap.objs.size)) (EP X c σ Q) X.xe { f with heap:=f.heap.push { cls:=.type "slice",data:=.fields #[g,i,.none] } };exact vo (ops:=[.ref f.heap.objs.size,v]) ht Y hg (by with_unfolding_all rfl)
noncomputable def QY (xs:List V) (lo hi:Option Int):List V:=(xs.drop (HT.sIx xs.length 0 lo)).take (HT.sIx xs.length xs.length hi - HT.sIx xs.length 0 lo)
theorem Bs (xs:List V) (lo hi:Option Int):(QY xs lo hi).length <= xs.length:=by
 unfold QY;rw[ZG,QW]
 lia
noncomputable def gp (K:PySem.W.Frag):V->Option Int->Option Int->Hp->VK->Prop:=λx lo hi H Q=>∃ a xs,x=.ref a/\SqT K H a xs /\
 ¬ (HT.sIx xs.length 0 lo=0/\HT.sIx xs.length xs.length hi=xs.length)/\∀ p,H p=none->Q (.ref p) (upd H p (.tup (QY xs lo hi)))
theorem L6:SlR X (gp X.K):=by
 intro f s σ H x v m n lo hi p Q I rx hs pl j h;obtain⟨a,xs,rfl,l,hw,q⟩:=h;cases rx;obtain⟨its,r,g,i⟩:=I.tuple l;have c:its.toArray.size=xs.length:=by rw[jo];exact r.length.symm
 refine⟨"tuple",_,PyProof.Rows.slot_tuple_getitem.lookup,g.typeIs,?_⟩;refine HT.g6 g hs pl j (by rw[c];exact hw) ?_ (by rw[c];exact i);rw[c];refine⟨.ref s.heap.objs.size,_,I.laid (t':=s.toks) (o:=.tup (QY xs lo hi)) (λb ob q=>ji _ q) (zo _) ?_,rfl,q _ (I.hok.fresh (zo _))⟩;exact⟨jM (Bs xs lo hi) i,_,(r.drop (HT.sIx xs.length 0 lo)).take (HT.sIx xs.length xs.length hi - HT.sIx xs.length 0 lo),cy _ _⟩
def WD (K:PySem.W.Frag):R2:=λx y H Q=>∃ a b xs ys,x=.ref a/\y=.ref b/\SqT K H a xs/\SqT K H b ys/\xs≠[]/\xs.length+ys.length <= zg /\
 (ys=[]->Q (.ref a) H)/\(ys≠[]->∀ p,H p=none->Q (.ref p) (upd H p (.tup (xs++ys))))
theorem zd.nil_iff (r:zd xs us):us=[]↔xs=[]:=by
 cases r with
 | nil=>simp
 | cons _ _=>simp
theorem Vr:OpR X (qy .Add) (WD X.K):=by
 intro g s σ H x y v u Q I rx ry h;obtain⟨a,b,xs,ys,rfl,rfl,ha,l,m,i,n,p⟩:=h;cases rx;cases ry;obtain⟨its,f,r,_⟩:=I.tuple ha;obtain⟨j,c,p2,_⟩:=I.tuple l;refine HT.Ms r p2 (λz=>m (f.nil_iff.mp z)) (λz=>⟨.ref a,H,I,rfl,n (c.nil_iff.mp z)⟩) (λz=>?_) (by rw[<- f.length,<- c.length];exact i);refine⟨.ref s.heap.objs.size,_,I.laid (t':=s.toks) (o:=.tup (xs++ys)) (λb ob q=>ji _ q) (zo _) ?_,rfl,p (λw=>z (c.nil_iff.mpr w)) _ (I.hok.fresh (zo _))⟩;exact⟨by rw[jk];exact i,_,f.append c,cy _ _⟩
end
end L2
namespace L2
open PySem PySem.Spec PyProof.Rows
noncomputable def ixN (n:Nat) (i:Int):Option Nat:=if 0 <= i then (if i < n then some i.toNat else none) else if -(n:Int) <= i then some (i+n).toNat else none
noncomputable def atI {c:Type} (xs:List c) (i:Int):Option c:=(ixN xs.length i).bind λj=>xs[j]?
theorem A3 {j:Nat} (h:ixN n i=some j):Cd i n=some j/\j < n /\ -(n:Int) <= i/\i < n:=by
 unfold ixN at h;by_cases f:0 <= i
 ·rw[if_pos f] at h;by_cases c:i < n
  ·rw[if_pos c] at h;have e:i.toNat=j:=QF h;exact⟨by rw[Bp f c,e],by lia,by lia,c⟩
  ·rw[if_neg c] at h;cases h
 ·rw[if_neg f] at h;by_cases c:-(n:Int) <= i
  ·rw[if_pos c] at h;have e:(i+n).toNat=j:=QF h;exact⟨by rw[bN (by lia) c,e],by lia,c,by lia⟩
  ·rw[if_neg c] at h;cases h
theorem UH {c:Type}{xs:List c}{i:Int}{v:c} (h:atI xs i=some v):∃ j,Cd i xs.length=some j/\xs[j]? = some v/\j < xs.length /\ -(xs.length:Int) <= i/\i < xs.length:=by
 unfold atI at h;cases e:ixN xs.length i with
 | none=>rw[e] at h;cases h
 | some j =>
  rw[e] at h;obtain⟨f,g,l,m⟩:=A3 e;exact⟨j,f,h,g,l,m⟩
def Az (b:zV):Prop:=∀ o i,subscripted b false o i=operate [o,i] (KL o i)
def IxR (X:Cx) (r:R2):Prop :=
 ∀ (f c:zV) (e:List (zE×Obj)) (s:zJ) (σ:St) (H:Hp) (x y:V) (v u:zD) (Q:VK),Inv X e σ H s->zj x v->zj y u->r x y H Q ->
  subscripted c false v u=operate [v,u] (KL v u)->wpAny (zP X.prog X.w) X.A (Wq f c v u) (EP X e σ Q) X.xe s
def MtR (X:Cx) (id:String) (r:V->List V->Hp->VK->Prop):Prop :=
 ∀ (c:List (zE×Obj)) (s:zJ) (σ:St) (H:Hp) (x:V) (xs:List V) (v:zD) (us:List zD) (Q:VK),Inv X c σ H s->zj x v->zd xs us->r x xs H Q ->
  wpAny (zP X.prog X.w) X.A (call (.builtin id) (v::us)) (EP X c σ Q) X.xe s
section
variable {X:Cx}{a b:zV}{ta tb:TE}{pos:Pos}
theorem IxR.or (h:IxR X r) (h':IxR X g):IxR X (λx y H Q=>r x y H Q\/g x y H Q):=by
 intro c e f s σ H x y v u Q I rx ry q hs;rcases q with q | q
 ·exact h c e f s σ H x y v u Q I rx ry q hs
 ·exact h' c e f s σ H x y v u Q I rx ry q hs
theorem Gj (e:IxR X r) (ha:PE X a ta) (f:PE X b tb) (hs:Az b):PE X (.Subscript a b pos) (tOp r ta tb):=by
 intro c s σ H Q I h;exact Wz (u6 ha f I h λv u g x y i j rx ry q=>e a b c g σ i x y v u Q j rx ry q (hs _ _))
def mE (K:PySem.W.Frag):R2:=λx y H Q=>∃ p xs i v,x=.ref p/\y=.int i/\SqL K H p xs/\atI xs i=some v/\Q v H
def Fz (K:PySem.W.Frag):R2:=λx y H Q=>∃ p xs i v,x=.ref p/\y=.int i/\SqT K H p xs/\atI xs i=some v/\Q v H
def eO:R2:=λx y H Q=>∃ z i c,x=.str z/\y=.int i/\z.length <= zg/\atI z.cps.toList i=some c/\Q (.str ⟨#[c]⟩) H
theorem Gh:IxR X (mE X.K):=by
 intro f g c s σ H x y v u Q I rx ry h hs;obtain⟨p,xs,i,z,rfl,rfl,o,A,q⟩:=h;cases rx;obtain⟨t,rfl⟩:=ry;obtain⟨its,r,pl,L⟩:=I.list o;obtain⟨j,e,B,M,C,E⟩:=UH A;obtain⟨w,ew,l⟩:=r.get B;have G:=r.length;have N:=xI;have fin:EP X c σ Q w s:=⟨z,H,I,l,q⟩
 by_cases n:0 <= i
 ·have m:i.toNat=j:=by
   rw[Bp n E] at e;exact QF e
  exact item_listR pl.isList n (by lia) (by rw[m];simpa using ew) fin hs
 ·have m:(i+(its.toArray.size:Int)).toNat=j:=by
   rw[bN (by lia) C] at e;rw[jo,<- G];exact QF e
  exact f5 (x:=w) pl.isList.typeIs slot_list_getitem.lookup
   (wpAny_getItem_list_neg (Q:=λr J=>r=w/\EP X c σ Q r J) pl.isList (by lia) (by rw[jo]<;>lia) (by lia) (by rw[m];simpa using ew) ⟨rfl,fin⟩) hs
theorem fL:IxR X (Fz X.K):=by
 intro e f c s σ H x y v u Q I rx ry h hs;obtain⟨p,xs,i,z,rfl,rfl,l,m,q⟩:=h;cases rx;obtain⟨t,rfl⟩:=ry;obtain⟨its,r,pl,C⟩:=I.tuple l;obtain⟨j,n,o,E,G,J⟩:=UH m;obtain⟨w,ew,g⟩:=r.get o;have A:=r.length;have L:=xI;have fin:EP X c σ Q w s:=⟨z,H,I,g,q⟩
 exact f5 (x:=w) pl.typeIs slot_tuple_getitem.lookup
  (getItem_tuple (j:=j) (Q:=λr B=>r=w/\EP X c σ Q r B) pl (by lia) (by lia) (by rw[jo,<- A];exact n) (by simpa using ew) ⟨rfl,fin⟩) hs
theorem MX:IxR X eO:=by
 intro e f g s σ H x y v u Q I rx ry h hs;obtain⟨z,i,c,rfl,rfl,B,m,q⟩:=h;obtain⟨t,rfl⟩:=rx;obtain⟨t',rfl⟩:=ry;obtain⟨j,l,n,C,o,p⟩:=UH m;have r:z.cps.toList.length=z.length:=by simp[Wi]
 rw[r] at l o p;have E:=xI;exact vo (xi s z t) slot_str_getitem.lookup (getItem_str (c:=c) (by
  have w:decide (i < -(2 ^ 63:Int))=false:=decide_eq_false (by lia);have A:decide (i ≥ 2 ^ 63)=false:=decide_eq_false (by lia);rw[w,A,Gz]) (by rw[l];simpa using n) ⟨.str ⟨#[c]⟩,H,I.tok _,⟨_,rfl⟩,q⟩) hs
theorem fm (its:List zD) (n j:Nat) (u:zD):QU (·.setIfInBounds j u) { cls:=.type "list",data:=.seq its.toArray n }={ cls:=.type "list",data:=.seq (its.set j u).toArray n }:=by
 simp[QU]
theorem Inv.lst {c:List (zE×Obj)}{σ:St}{H:Hp}{s:zJ}{p:zE}{xs:List V} (I:Inv X c σ H s) (h:H p=some (.lst xs)) :
  ∃ (its:List zD) (n:Nat),zd xs its/\s.heap.get? p=some { cls:=.type "list",data:=.seq its.toArray n }/\xs.length <= zg:=by
 obtain⟨z,its,n,r,e⟩:=I.hok p _ h;exact⟨its,n,r,e,z⟩
theorem Inv.lstUpd {p:zE}{xs:List V}{its its':List zD}{n g:Nat}{f:Obj->Obj} (I:Inv X c σ H s) (h:H p=some (.lst xs))
  (j:s.heap.get? p=some { cls:=.type "list",data:=.seq its.toArray n }) (i:f { cls:=.type "list",data:=.seq its.toArray n }={ cls:=.type "list",data:=.seq its'.toArray g }) (r:zd ys its') (l:ys.length <= zg) (t:Nat) (o:0 < t:=by first | exact yv _ | assumption | exact Inv.tk (by assumption) | lia) :
  Inv X c σ (upd H p (.lst ys)) { s with heap:=s.heap.update p f,toks:=t }:=by
 have e:(s.heap.update p f).get? p=some { cls:=.type "list",data:=.seq its'.toArray g }:=by
  rw[Heap.get?_update_self f j (by rw[i]<;>rfl),i]
 refine I.write (x:=p) (e:=p) (by rw[h];trivial) (.inl rfl) (λb u m q=>(g9 _ _ (ZJ m)).trans q) ⟨_,e⟩ ?_;exact⟨l,its',g,r,e⟩
noncomputable def mq:V->V->V->Hp->(Hp->Prop)->Prop:=λo i v H Q=>∃ p xs k j,o=.ref p/\i=.int k/\H p=some (.lst xs)/\ixN xs.length k=some j/\Q (upd H p (.lst (xs.set j v)))
theorem LH:A2 X mq:=by
 intro c s σ H o i v G J u Q I ro A B h;obtain⟨p,xs,k,j,rfl,rfl,m,C,q⟩:=h;cases ro;obtain⟨t,rfl⟩:=A;obtain⟨its,n,r,f,E⟩:=I.lst m;obtain⟨e,L,w,x⟩:=A3 C;have g:=r.length;have M:=xI;have y:Inv X c σ (upd H p (.lst (xs.set j v))) { s with heap:=s.heap.update p (QU (·.setIfInBounds j u)) } :=
  I.lstUpd m f (fm its n j u) (r.set B j) (by rw[xw];exact E) s.toks
 by_cases z:0 <= k
 ·have l:k.toNat=j:=by
   rw[Bp z x] at e;exact QF e
  exact PySem.W.ki_setAt f z (by lia) (by rw[jo,<- g];exact x) (by rw[l];exact⟨_,y,q⟩)
 ·have l:(k+(its.toArray.size:Int)).toNat=j:=by
   rw[bN (by lia) w] at e;rw[jo,<- g];exact QF e
  exact PySem.W.ki_setBack f (by lia) (by rw[jo,<- g];exact w) (by lia) (by rw[l];exact⟨_,y,q⟩)
theorem Ft (lo hi:Option Int) (n:Nat):(JB lo hi none n).1=((HT.sIx n 0 lo:Nat):Int)/\(JB lo hi none n).2.1=((HT.sIx n n hi:Nat):Int)/\(JB lo hi none n).2.2=1:=by
 refine⟨?_,?_,rfl⟩
 ·cases lo with
  | none=>simp[JB,HT.sIx]
  | some i =>
   simp only[JB,HT.sIx,nX,show (1:Int) > 0 by decide,if_true];by_cases h:i < 0
   ·simp only[h,if_true]<;>lia
   ·simp only[h,if_false]<;>lia
 ·cases hi with
  | none=>simp[JB,HT.sIx]
  | some i =>
   simp only[JB,HT.sIx,nX,show (1:Int) > 0 by decide,if_true];by_cases h:i < 0
   ·simp only[h,if_true]<;>lia
   ·simp only[h,if_false]<;>lia
theorem ir (its:List zD) (lo hi:Option Int):wy its.toArray lo hi none=((its.drop (HT.sIx its.length 0 lo)).take (HT.sIx its.length its.length hi - HT.sIx its.length 0 lo)).toArray:=by
 obtain⟨c,e,f⟩:=Ft lo hi its.toArray.size;unfold wy;rw[c,e,f];simp only[sliceRange_one,pick_run,jo]<;>rfl
noncomputable def hZ (K:PySem.W.Frag):V->Option Int->Option Int->Hp->VK->Prop:=λx lo hi H Q=>∃ a xs,x=.ref a/\SqL K H a xs/\∀ p,H p=none->Q (.ref p) (upd H p (.lst (QY xs lo hi)))
theorem gI:SlR X (hZ X.K):=by
 intro e s σ H x v l m lo hi n Q I rx hs pl g h;obtain⟨a,xs,rfl,i,q⟩:=h;cases rx;obtain⟨its,r,f,j⟩:=I.list i;have c:=r.length;refine⟨"list",_,slot_list_getitem.lookup,f.isList.typeIs,?_⟩;refine eW f.isList hs pl g .none (by simp) ?_ (by rw[jo]<;>lia);rw[ir,<- c];refine⟨.ref s.heap.objs.size,_,I.laid (t':=s.toks) (o:=.lst (QY xs lo hi)) (λb ob q=>ji _ q) (zo _) ?_,rfl,q _ (I.hok.fresh (zo _))⟩;exact⟨jM (Bs xs lo hi) j,_,0,(r.drop (HT.sIx xs.length 0 lo)).take (HT.sIx xs.length xs.length hi - HT.sIx xs.length 0 lo),qi _ rfl⟩
noncomputable def yO:V->Bool
 | .non=>true
 | .bl _=>true
 | .int _=>true
 | .str _=>true
 | _=>false
noncomputable def eqV:V->V->Bool
 | .non,.non=>true
 | .bl a,.bl b=>a == b
 | .bl a,.int b=>(if a then 1 else 0) == b
 | .int a,.bl b=>a == (if b then 1 else 0)
 | .int a,.int b=>a == b
 | .str a,.str b=>a == b
 | _,_=>false
theorem nE {y:V} (ry:zj y u) (rx:zj x v) (e:yO y=true) (c:yO x=true):Ic A s u v (eqV y x):=by
 cases y with
 | non =>
  cases ry;cases x with
  | non=>cases rx;exact NR _
  | bl b=>cases rx;exact NP b
  | int b=>obtain⟨t,rfl⟩:=rx;exact NK b t
  | str b=>obtain⟨t,rfl⟩:=rx;exact NH b t
  | _=>exact absurd (show false=true from c) qF
 | bl a =>
  cases ry;cases x with
  | non=>cases rx;exact NB a
  | bl b=>cases rx;exact NU a b
  | int b=>obtain⟨t,rfl⟩:=rx;exact ND a b t
  | str b=>obtain⟨t,rfl⟩:=rx;exact n3 a b t
  | _=>exact absurd (show false=true from c) qF
 | int a =>
  obtain⟨t',rfl⟩:=ry;cases x with
  | non=>cases rx;exact nz a t'
  | bl b=>cases rx;exact n4 a t' b
  | int b=>obtain⟨t,rfl⟩:=rx;exact n9 a t' b t
  | str b=>obtain⟨t,rfl⟩:=rx;exact ip a t' b t
  | _=>exact absurd (show false=true from c) qF
 | str a =>
  obtain⟨t',rfl⟩:=ry;cases x with
  | non=>cases rx;exact NO a t'
  | bl b=>cases rx;exact NI a t' b
  | int b=>obtain⟨t,rfl⟩:=rx;exact Fu a t' b t
  | str b=>obtain⟨t,rfl⟩:=rx;exact NQ a t' b t
  | _=>exact absurd (show false=true from c) qF
 | _=>exact absurd (show false=true from e) qF
noncomputable def eqU (x:V) (u:zD):Bool:=match u with
 | .none=>eqV .non x
 | .bool b=>eqV (.bl b) x
 | .int i _=>eqV (.int i) x
 | .str z _=>eqV (.str z) x
 | _=>false
theorem Au {y:V} (r:zj y u) (f:yO y=true):eqU x u=eqV y x:=by
 cases y with
 | non=>cases r;rfl
 | bl b=>cases r;rfl
 | int i=>obtain⟨t,rfl⟩:=r;rfl
 | str z=>obtain⟨t,rfl⟩:=r;rfl
 | _=>exact absurd (show false=true from f) qF
theorem KI:∀ {xs:List V}{us:List zD},zd xs us->xs.all yO=true->us.any (eqU x)=xs.any λy=>eqV y x
 | _,_,.nil,_=>rfl
 | y::xs,u::us,.cons r t,f=>by
  rw[JE,j8] at f;rw[QR,QR,Au r f.1,KI t f.2]
theorem vR (rx:zj x v) (e:yO x=true):∀ {xs:List V}{us:List zD},zd xs us->xs.all yO=true->∀ u∈us,Ic A s u v (eqU x u)
 | _,_,.nil,_=>λu c=>by cases c
 | y::xs,u::us,.cons r t,f=>λg c=>by
  rw[JE,j8] at f;rcases List.mem_cons.mp c with rfl | c
  ·rw[Au r f.1];exact nE r rx f.1 e
  ·exact vR rx e t f.2 g c
noncomputable def inV (x:V) (xs:List V):Bool:=xs.any λy=>eqV y x
def rIn (K:PySem.W.Frag) (neg:Bool):R2:=λx y H Q=>∃ p xs,y=.ref p/\(SqL K H p xs\/SqT K H p xs)/\yO x=true/\xs.all yO=true/\Q (.bl (if neg then !inV x xs else inV x xs)) H
theorem Ha:OpR X (jY .In) (rIn X.K false):=by
 intro e s σ H x y v u Q I rx ry h;obtain⟨p,xs,rfl,c,f,fs,q⟩:=h;cases ry;rcases c with c | c
 ·obtain⟨its,r,pl,g⟩:=I.list c;refine SeqAt.in_listAt (eqU x) pl.isList (λw hw=>vR rx f r fs w (by simpa using hw)) ⟨.bl _,H,I,rfl,?_⟩;rw[show its.toArray.any (eqU x)=its.any (eqU x) by simp,KI r fs];exact q
 ·obtain⟨its,r,pl,g⟩:=I.tuple c;refine SeqAt.in_tupleAt (eqU x) pl (λw hw=>vR rx f r fs w (by simpa using hw)) ⟨.bl _,H,I,rfl,?_⟩;rw[show its.toArray.any (eqU x)=its.any (eqU x) by simp,KI r fs];exact q
theorem Li:OpR X (jY .NotIn) (rIn X.K true):=by
 intro e s σ H x y v u Q I rx ry h;obtain⟨p,xs,rfl,c,f,fs,q⟩:=h;cases ry;rcases c with c | c
 ·obtain⟨its,r,pl,g⟩:=I.list c;refine SeqAt.notIn_listAt (eqU x) pl.isList (λw hw=>vR rx f r fs w (by simpa using hw)) ⟨.bl _,H,I,rfl,?_⟩;rw[show its.toArray.any (eqU x)=its.any (eqU x) by simp,KI r fs];exact q
 ·obtain⟨its,r,pl,g⟩:=I.tuple c;refine SeqAt.notIn_tupleAt (eqU x) pl (λw hw=>vR rx f r fs w (by simpa using hw)) ⟨.bl _,H,I,rfl,?_⟩;rw[show its.toArray.any (eqU x)=its.any (eqU x) by simp,KI r fs];exact q
theorem E5:jq X (.builtin "len") (λxs H Q=>∃ p ys,xs=[.ref p]/\(SqL X.K H p ys\/SqT X.K H p ys)/\Q (.int ys.length) H):=by
 intro g s σ H xs us Q I r h;obtain⟨p,ys,rfl,e,q⟩:=h;obtain⟨u,rfl,rx⟩:=yU r;cases rx;have j:=xI;rcases e with e | e
 ·obtain⟨its,f,pl,i⟩:=I.list e;have c:=f.length;exact Calls.call_len_list pl.isList (by simp only[jo]<;>lia) ⟨.int ys.length,H,I.tok _,⟨s.toks+1,by rw[jo,c]⟩,q⟩
 ·obtain⟨its,f,pl,i⟩:=I.tuple e;have c:=f.length;exact len_tuple pl (by simp only[jo]<;>lia) ⟨.int ys.length,H,I.tok _,⟨s.toks+1,by rw[jo,c]⟩,q⟩
theorem FQ:jq X (.builtin "len") (λxs H Q=>∃ z,xs=[.str z]/\z.length <= zg/\Q (.int z.length) H):=by
 intro c s σ H xs us Q I r h;obtain⟨z,rfl,e,q⟩:=h;obtain⟨u,rfl,t,rfl⟩:=yU r;have f:=xI;exact len_str (by lia) ⟨.int z.length,H,I.tok _,⟨_,rfl⟩,q⟩
theorem jq.or (h:jq X f r) (h':jq X f g):jq X f (λxs H Q=>r xs H Q\/g xs H Q):=by
 intro c s σ H xs us Q I e q;rcases q with q | q
 ·exact h c s σ H xs us Q I e q
 ·exact h' c s σ H xs us Q I e q
theorem Ee:jq X (.type "list") (λxs H Q=>∃ p ys,xs=[.ref p]/\(SqL X.K H p ys\/SqT X.K H p ys)/\∀ l,H l=none->Q (.ref l) (upd H l (.lst ys))):=by
 intro g s σ H xs us Q I r h;obtain⟨p,ys,rfl,i,q⟩:=h;obtain⟨u,rfl,rx⟩:=yU r;cases rx;have fin:∀ (its:List zD),zd ys its->ys.length <= zg->∀ (h':zi) (c:Nat),(∀ b x,s.heap.get? b=some x->h'.get? b=some x) ->
   h'.get? s.heap.objs.size=some { cls:=.type "list",dict:=none,data:=.seq its.toArray c,slots:=#[] }->EP X g σ Q (.ref s.heap.objs.size) { s with heap:=h' }:=λits f j h' c kp e =>
  ⟨.ref s.heap.objs.size,_,I.laid (t':=s.toks) kp (zo _) (show qA X.prog X.w _ h' _ (.lst ys) from ⟨j,its,c,f,e⟩),rfl,q _ (I.hok.fresh (zo _))⟩
 rcases i with i | i
 ·obtain⟨its,f,pl,j⟩:=I.list i;have m:=f.length;obtain⟨o,t,v,n,hd⟩:=pl.isList;exact call_list_seq p (.inl rfl) t v hd (λh' c kp e=>fin its f j h' c kp e) (by simp only[jo]<;>lia)
 ·obtain⟨its,f,pl,j⟩:=I.tuple i;have m:=f.length;obtain⟨o,t,v,n,hd⟩:=pl;exact call_list_seq p (.inr rfl) t v hd (λh' c kp e=>fin its f j h' c kp e) (by simp only[jo]<;>lia)
theorem m7:jq X (.type "tuple") (λxs H Q=>∃ p ys,xs=[.ref p]/\((SqL X.K H p ys/\∀ l,H l=none->Q (.ref l) (upd H l (.tup ys)))\/(SqT X.K H p ys/\Q (.ref p) H))):=by
 intro c s σ H xs us Q I r h;obtain⟨p,ys,rfl,h⟩:=h;obtain⟨u,rfl,rx⟩:=yU r;cases rx;rcases h with ⟨f,q⟩ | ⟨f,q⟩
 ·obtain⟨its,g,pl,i⟩:=I.list f;have j:=g.length;refine call_tuple_list pl.isList (λh' kp=>?_) (by simp only[jo]<;>lia);have m:Inv X c σ H { s with heap:=h' }:=I.kept (t':=s.toks) kp;have n:Inv X c σ (upd H h'.objs.size (.tup ys)) { s with heap:=h'.push { cls:=.type "tuple",data:=.seq its.toArray } } :=
   m.laid (t':=s.toks) (λb o e=>ji _ e) (zo _) (show qA X.prog X.w _ _ _ (.tup ys) from ⟨i,its,g,cy _ _⟩)
  exact⟨.ref h'.objs.size,_,n,rfl,q _ (m.hok.fresh (zo _))⟩
 ·obtain⟨its,g,pl,i⟩:=I.tuple f;exact call_tuple_same pl ⟨.ref p,H,I,rfl,q⟩
def tyV (K:PySem.W.Frag) (T:String) (x:V) (H:Hp):Prop:=match x with
 | .str _=>T = "str"
 | .int _=>T = "int"
 | .ref p=>(T = "list" /\ ∃ xs,SqL K H p xs)\/(T = "tuple" /\ ∃ o,K.lookup p=some o/\o.cls=.type "tuple" /\ o.dict=none) \/
   (T = "dict" /\ ((∃ kvs,H p=some (.dK kvs))\/(∃ kvs,H p=some (.dT kvs))\/∃ c:zi->Prop,H p=some (.ext c)/\∀ h,c h->∃ o,h.get? p=some o/\o.ExactDict))\/(T = "set" /\ ∃ S n,H p=some (.set S n))
 | _=>False
theorem V8 {T:String} (I:Inv X h σ H s) (r:zj x v) (ty:tyV X.K T x H) :
  s.TypeIs v T/\∀ a,v=.ref a->∃ ob,s.heap.get? a=some ob/\ob.dict=none:=by
 cases x with
 | str z =>
  obtain⟨t,rfl⟩:=r;cases (show T = "str" from ty);exact⟨xi s z t,λ_ e=>nomatch e⟩
 | int i =>
  obtain⟨t,rfl⟩:=r;cases (show T = "int" from ty);exact⟨typeIs_int s i t,λ_ e=>nomatch e⟩
 | ref p =>
  cases r;rcases ty with ⟨rfl,xs,j⟩ | ⟨rfl,o,f,l,hd⟩ | ⟨rfl,f⟩ | ⟨rfl,S,n,f⟩
  ·obtain⟨its,_,pl,_⟩:=I.list j;refine⟨pl.isList.typeIs,λa e=>?_⟩;cases e;obtain⟨o,n,e,c,hd,_⟩:=pl;exact⟨o,e,hd⟩
  ·refine⟨⟨o,I.kIn p o f,l⟩,λa e=>?_⟩;cases e;exact⟨o,I.kIn _ o f,hd⟩
  ·have z:∃ o,s.heap.get? p=some o/\o.ExactDict:=by
    rcases f with ⟨kvs,f⟩ | ⟨kvs,f⟩ | ⟨q,f,m⟩
    ·obtain⟨_,_,_,_,o,_,_,e,ex,_⟩:=I.hok p _ f;exact⟨o,e,ex⟩
    ·obtain⟨_,_,_,_,o,_,_,e,ex,_⟩:=I.hok p _ f;exact⟨o,e,ex⟩
    ·exact m _ (I.hok p _ f).1
   obtain⟨o,e,ex⟩:=z;refine⟨⟨o,e,ex.1⟩,λa g=>?_⟩;cases g;exact⟨o,e,ex.2.1⟩
  ·obtain⟨o,_,_,_,e,ex,_⟩:=I.hok p _ f;refine⟨⟨o,e,ex.1⟩,λa g=>?_⟩;cases g;exact⟨o,e,ex.2.1⟩
 | _=>exact jF ty
def Iy (K:PySem.W.Frag) (T:String) (r:V->List V->Hp->VK->Prop) (to:TE):TE:=λσ H Q=>to σ H λx c=>tyV K T x c/\r x [] c Q
def tBM (K:PySem.W.Frag) (T:String) (r:V->List V->Hp->VK->Prop) (to:TE) (t:TA):TE:=λσ H Q=>to σ H λx c=>tyV K T x c/\t σ c λxs e=>r x xs e Q
variable {o e:zV}{es:List zV}{to:TE}{t:TA}{name:Str}{apos q9:Pos}{T id:String}{r:V->List V->Hp->VK->Prop}
theorem G9 (m:UB T) (slot:Slot T name id) (i:typeOf (.builtin id)=pure (.type "method_descriptor")) (hm:MtR X id r) (n:PE X o to)
  (f:QH o name X.env (zr o X.env)=zr o X.env:=by rfl) (g:(apos.endLine == q9.line)=true:=by rfl):PE X (.Call (.Attribute o name apos) [] [] q9) (Iy X.K T r to):=by
 intro c s σ H Q I h;refine wpAny_Call_method0_late f g (zu (n c s σ H _ I h) λv s1 x p j l ⟨ty,q⟩=>?_);obtain⟨u,w⟩:=V8 j l ty;exact⟨T,id,m,slot,i,u,w,uc rfl (PySem.evalArgs_none (hm c s1 σ p x [] v [] Q j l .nil q))⟩
theorem bR (q:UB T) (slot:Slot T name id) (l:typeOf (.builtin id)=pure (.type "method_descriptor")) (hm:MtR X id r) (u:PE X o to) (ha:PA X (e::es) t)
  (g:QH o name X.env (zr o X.env)=zr o X.env:=by rfl)
  (j:((qX q9 (jK (e::es) X.env)).all (λx=>!x.1) && (xD q9 (xp [] X.env)).all (λx=>x.1.isSome)
   && decide ((e::es).length+([]:List Jb).length+(if ([]:List Jb).isEmpty then 0 else 1) < 30))=true:=by rfl)
  (i:(apos.endLine == q9.line)=true:=by rfl) (hs:jK (e::es) X.env=(false,zr e X.env)::jK es X.env:=by rfl) (f:(qX q9 (jK es X.env)).any (·.1)=false:=by rfl) :
  PE X (.Call (.Attribute o name apos) (e::es) [] q9) (tBM X.K T r to t):=by
 intro c s σ H Q I h;refine dC g j i rfl (zu (u c s σ H _ I h) λv s1 x w m n ⟨ty,y⟩=>?_);obtain⟨z,A⟩:=V8 m n ty;refine⟨T,id,q,slot,l,z,A,?_⟩;have p:=ha q9 c s1 σ w _ m y;rw[hs] at p ⊢;refine uc (by show (false || (qX q9 (jK es X.env)).any (·.1))=false;rw[f]<;>rfl) (dd ?_);exact thn p λus B ⟨vs,C,E,G,J⟩=>hm c B σ C x vs v us Q E n G J
end
end L2
namespace L2
open PySem PySem.Spec PyProof.Rows
def MtM (X:Cx) (id:String) (r:V->List V->Hp->VK->Prop):Prop :=
 ∀ (c:List (zE×Obj)) (s:zJ) (σ:St) (H:Hp) (x:V) (xs:List V) (v:zD) (us:List zD) (Q:VK),Inv X c σ H s->zj x v->zd xs us->r x xs H Q ->
  wpAny (zP X.prog X.w) X.A (call (.builtin id) (v::us)) (EP X c σ Q) X.xe s
theorem zd.one:∀ {x:V}{us:List zD},zd [x] us->∃ u,us=[u]/\zj x u
 | _,_,.cons r .nil=>⟨_,rfl,r⟩
theorem zd.zero:∀ {us:List zD},zd [] us->us=[]
 | _,.nil=>rfl
theorem zd.dropLast (h:zd xs us):zd xs.dropLast us.dropLast:=by
 induction h with
 | nil=>exact .nil
 | cons r t c =>
  cases t with
  | nil=>exact .nil
  | cons q t'=>exact .cons r c
theorem zd.reverse (h:zd xs us):zd xs.reverse us.reverse:=by
 induction h with
 | nil=>exact .nil
 | cons r t c=>rw[Yd,Yd];exact zd.append c (.cons r .nil)
theorem zd.rep (h:zd xs us):∀ k:Nat,zd (z9 k xs).flatten (z9 k us).flatten
 | 0=>.nil
 | k+1=>by
  rw[Q5,Q5,Q8,Q8];exact zd.append h (zd.rep h k)
theorem LJ {c:Type} (l:List c):l.eraseIdx (l.length - 1)=l.dropLast:=by
 induction l with
 | nil=>rfl
 | cons a r f =>
  cases r with
  | nil=>rfl
  | cons b r =>
   have e:(a::b::r).length - 1=((b::r).length - 1)+1:=by
    have g:(a::b::r).length=r.length+2:=rfl;have h:(b::r).length=r.length+1:=rfl
    lia
   rw[e,List.eraseIdx_cons_succ,f]
   all_goals rfl
theorem Ad (its:List zD):∀ (k:Nat) (c:List zD),
  Ww (λf g=>f++g) c.toArray (z9 k its.toArray)=(c++(z9 k its).flatten).toArray
 | 0,c=>by simp
 | k+1,c=>by
  have e:c.toArray++its.toArray=(c++its).toArray:=by simp
  have h:(c++its)++(z9 k its).flatten=c++(z9 (k+1) its).flatten:=by
   rw[Q5,Q8,yI]
  rw[<- h,<- Ad its k (c++its),<- e,Q5,Qf]
section
variable {X:Cx}{pins:List (zE×Obj)}{σ:St}{H:Hp}{s:zJ}{l b:zE}{xs ys zs:List V}
theorem Inv.lset {its its':List zD}{n:Nat}{f:Array zD->Array zD}{t':Nat} (I:Inv X pins σ H s) (c:H l=some (.lst xs))
  (e:s.heap.get? l=some { cls:=.type "list",data:=.seq its.toArray n }) (g:f its.toArray=its'.toArray) (h:zd ys its') (i:ys.length <= zg) (o:0 < t':=by first | exact yv _ | assumption | exact Inv.tk (by assumption) | lia) :
  Inv X pins σ (upd H l (.lst ys)) { s with heap:=s.heap.update l (QU f),toks:=t' }:=by
 have q:=PySem.IsL.update e f;rw[g] at q;refine I.write (x:=l) (e:=l) (by rw[c];exact trivial) (.inl rfl) (λp u j m=>(g9 s.heap (QU f) (ZJ j)).trans m) ⟨_,q⟩ ?_;exact⟨i,its',_,h,q⟩
theorem Inv.lnew {t':Nat} (I:Inv X pins σ H s) (c:zd ys its) (e:ys.length <= zg) (f:0 < t':=by first | exact yv _ | assumption | exact Inv.tk (by assumption) | lia) :
  Inv X pins σ (upd H s.heap.objs.size (.lst ys)) { s with heap:=s.heap.push { cls:=.type "list",data:=.seq its.toArray },toks:=t' } :=
 I.laid (λ_ _ q=>ji _ q) (zo _) ⟨e,its,0,c,qi _ rfl⟩
theorem Inv.fresh (I:Inv X pins σ H s):H s.heap.objs.size=none:=I.hok.fresh (zo _)
theorem Inv.lstM (I:Inv X pins σ H s) (c:H l=some (.lst xs)):xs.length <= zg/\∃ (its:List zD) (n:Nat),zd xs its/\xs.length=its.length/\s.heap.get? l=some { cls:=.type "list",data:=.seq its.toArray n }:=by
 obtain⟨z,its,n,r,e⟩:=I.hok l _ c;exact⟨z,its,n,r,r.length,e⟩
theorem nQ {n:Nat} (h:n <= zg):dG n=false:=by
 unfold dG;exact decide_eq_false (by lia)
end
section
variable {X:Cx}
noncomputable def AJ:V->List V->Hp->VK->Prop:=λx vs H Q=>∃ l xs y,x=.ref l/\vs=[y]/\H l=some (.lst xs)/\xs.length < zg/\Q .non (upd H l (.lst (xs++[y])))
theorem AA:MtM X "list.append" AJ:=by
 intro c s σ H x vs v us Q I rx g h;obtain⟨l,xs,y,rfl,rfl,f,j,q⟩:=h;cases rx;obtain⟨u,rfl,i⟩:=g.one;obtain⟨z,its,n,r,m,e⟩:=I.lstM f;refine XS F.slot_list_append ⟨_,e,rfl⟩ F.entry_list_append (F.args_list_append_2 _ _) (PySem.list_append l its.toArray n u (by rw[jo];lia)) ⟨e,?_⟩;refine⟨.non,_,I.lset (its':=its++[u]) f e (by simp) (r.append (.cons i .nil)) ?_,rfl,q⟩;rw[jk,dJ]
 lia
noncomputable def Bb:V->List V->Hp->VK->Prop:=λx vs H Q=>∃ l xs y,x=.ref l/\vs=[]/\H l=some (.lst xs)/\xs[xs.length - 1]? = some y/\Q y (upd H l (.lst xs.dropLast))
theorem E7:MtM X "list.pop" Bb:=by
 intro g s σ H x vs v us Q I rx j h;obtain⟨l,xs,y,rfl,rfl,i,m,q⟩:=h;cases rx;have c:=j.zero;subst c;obtain⟨z,its,n,r,o,e⟩:=I.lstM i;obtain⟨u,p,t⟩:=r.get m;have f:its.toArray[its.toArray.size - 1]? = some u:=by
  show its.toArray[its.length - 1]? = some u;rw[<- kG,<- o];exact p
 refine XS F.slot_list_pop ⟨_,e,rfl⟩ F.entry_list_pop (F.args_list_pop_1 _) (MeetsSeq.list_pop_last l its.toArray n u f (by rw[jo];lia)) ⟨e,?_⟩;refine⟨y,_,I.lset (its':=its.dropLast) i e ?_ r.dropLast ?_,t,q⟩
 ·show its.toArray.eraseIdxIfInBounds (its.toArray.size - 1)=its.dropLast.toArray;rw[jo,List.eraseIdxIfInBounds_toArray,LJ]
 ·rw[List.length_dropLast]
  lia
def mN:R2:=λx y H Q=>∃ l b xs c,x=.ref l/\y=.ref b/\H l=some (.lst xs)/\H b=some (.lst c)/\xs.length+c.length <= zg/\∀ p,H p=none->Q (.ref p) (upd H p (.lst (xs++c)))
theorem FJ:OpR X (qy .Add) mN:=by
 intro f s σ H x y v u Q I rx ry h;obtain⟨l,b,xs,p,rfl,rfl,g,i,t,q⟩:=h;cases rx;cases ry;obtain⟨z,its,n,r,w,e⟩:=I.lstM g;obtain⟨A,c,n2,j,m,o⟩:=I.lstM i;refine PySem.P.add_list e o ?_ (by rw[jo,jo];lia);have ea:its.toArray++c.toArray=(its++c).toArray:=by simp
 rw[ea];exact⟨.ref _,_,I.lnew (t':=s.toks) (r.append j) (by rw[jk];lia),rfl,q _ I.fresh⟩
def dP:R2:=λx y H Q=>∃ l k xs,x=.ref l/\y=.int k/\H l=some (.lst xs) /\ -(2 ^ 63) <= k/\k < 2 ^ 63/\xs.length * k.toNat <= zg /\
 ∀ p,H p=none->Q (.ref p) (upd H p (.lst (z9 k.toNat xs).flatten))
theorem M6 {c:Type} (xs:List c) (k:Nat):(z9 k xs).flatten.length=k * xs.length:=by
 induction k with
 | zero=>simp
 | succ k e=>rw[Q5,Q8,jk,e,Nat.succ_mul,Nat.add_comm]
theorem md:OpR X (qy .Mult) dP:=by
 intro w s σ H x y v u Q I rx ry h;obtain⟨l,k,xs,rfl,rfl,B,C,E,A,q⟩:=h;cases rx;obtain⟨t,rfl⟩:=ry;obtain⟨z,its,n,r,G,e⟩:=I.lstM B;have f:its.toArray.size * k.toNat <= zg:=by rw[jo,<- G];exact A
 have g:¬ its.toArray.size * k.toNat > (2 ^ 63 - 1) / 8:=by
  have:(zg:Nat) <= (2 ^ 63 - 1) / 8:=by decide
  lia
 have i:¬ (!NS k)=true:=by
  rw[fitsIndex_both C E];exact qF
 have c:¬ dG (its.toArray.size * k.toNat)=true:=by
  rw[nQ f];exact qF
 have j:Ww (λo p=>o++p) #[] (z9 (if its.toArray.isEmpty=true then 0 else k.toNat) its.toArray)=(z9 k.toNat its).flatten.toArray:=by
  have J:∀ m:Nat,Ww (λo p=>o++p) #[] (z9 m its.toArray)=(z9 m its).flatten.toArray:=λm=>by
   have:=Ad its m [];rw[Xd] at this;exact this
  rw[J];cases its with
  | nil=>simp
  | cons a M=>rw[if_neg (by simp)]
 refine wpAny_binaryOp_repeat_ref (T := "list") (U := "int") (by decide) ⟨_,e,rfl⟩ (λL=>typeIs_int L k t) noFill_list_mul F.fills_int_mul F.slot_int_rmul repeat_list F.slot_int_index.lookup
  (XS F.slot_int_rmul (typeIs_int s k t) F.entry_int_rmul (F.args_int_rmul_2 _ _) (int___rmul___int_list k t l its.toArray n)
   ⟨e,rfl,⟨_,e,rfl⟩,XS F.slot_list_mul ⟨_,e,rfl⟩ F.entry_list_mul (F.args_list_mul_2 _ _) (AutoListH.list___mul___list_int_3 l its.toArray n k t i g c) ⟨e,?_⟩⟩)
 rw[j];exact⟨.ref _,_,I.lnew (t':=s.toks) (r.rep k.toNat) (by rw[M6,Nat.mul_comm];exact A),rfl,q _ I.fresh⟩
end
section
variable {prog:jB}{w:jG}{A:jc}{E:zD->zJ->Prop}{s:zJ}
set_option maxRecDepth 100000 in
end
end L2
namespace L2
open PySem PySem.Spec PyProof.Rows
section
variable {κ:Type} [DecidableEq κ]
noncomputable def q8 (kvs:List (κ×V)) (k:κ):Option V:=(kvs.find? λc=>decide (c.1=k)).map (·.2)
noncomputable def qz (kvs:List (κ×V)) (k:κ) (v:V):List (κ×V) :=
 if (kvs.any λc=>decide (c.1=k))=true then kvs.map (λc=>if c.1=k then (c.1,v) else c) else kvs++[(k,v)]
theorem YA {p:κ×V}{r:List (κ×V)}{k:κ} (e:p.1=k):q8 (p::r) k=some p.2:=by simp[q8,KY,e]
theorem vy {p:κ×V}{r:List (κ×V)}{k:κ} (e:¬ p.1=k):q8 (p::r) k=q8 r k:=by simp[q8,KY,e]
theorem CW (k:κ):∀ kvs:List (κ×V),(kvs.any λc=>decide (c.1=k))=(q8 kvs k).isSome
 | []=>rfl
 | p::r=>by
  rw[QR];by_cases e:p.1=k
  ·simp only[YA e,decide_eq_true e,Bool.true_or,Cr]
  ·rw[vy e,decide_eq_false e,Bool.false_or];exact CW k r
theorem um (kvs:List (κ×V)) (k:κ) (v:V):(qz kvs k v).length <= kvs.length+1:=by
 unfold qz;split
 ·rw[jS];lia
 ·rw[jk,zx,jw];lia
theorem yX.isSome_eq (r:yX o u):o.isSome=u.isSome:=by
 cases o with
 | none=>cases u with
  | none=>rfl
  | some _=>exact (show False from r).elim
 | some _=>cases u with
  | none=>exact (show False from r).elim
  | some _=>rfl
theorem KV.val {kvs:List (κ×V)}{vs:List (κ×zD)} (r:KV kvs vs) (k:κ):yX (q8 kvs k) (Jg vs k):=by
 unfold KV at r
 induction r with
 | nil=>exact Zg
 | @cons p q ps c h t i =>
  obtain⟨g,j⟩:=h;by_cases e:p.1=k
  ·have f:q.1=k:=g.symm.trans e;have b:Jg (q::c) k=some q.2:=by simp[Jg,KY,f]
   rw[YA e,b];exact j
  ·have f:¬ q.1=k:=λz=>e (g.trans z);have b:Jg (q::c) k=Jg c k:=by simp[Jg,KY,f]
   rw[vy e,b];exact i
theorem KV.any {kvs:List (κ×V)}{vs:List (κ×zD)} (r:KV kvs vs) (k:κ):(kvs.any λc=>decide (c.1=k))=vs.any λc=>decide (c.1=k):=by
 unfold KV at r
 induction r with
 | nil=>rfl
 | cons h t e=>rw[QR,QR,e,h.1]
theorem KV.repl {kvs:List (κ×V)}{vs:List (κ×zD)} (r:KV kvs vs) (k:κ) {y:V} (ry:zj y u) :
  KV (kvs.map λc=>if c.1=k then (c.1,y) else c) (vs.map λc=>if c.1=k then (c.1,u) else c):=by
 unfold KV at r ⊢
 induction r with
 | nil=>exact .nil
 | @cons p q ps j h t g =>
  rw[jH,jH];refine .cons ?_ g;obtain⟨f,i⟩:=h;by_cases e:p.1=k
  ·rw[if_pos e,if_pos (f.symm.trans e)];exact⟨f,ry⟩
  ·rw[if_neg e,if_neg (λz=>e (f.trans z))];exact⟨f,i⟩
theorem KV.put {kvs:List (κ×V)}{vs:List (κ×zD)} (r:KV kvs vs) (k:κ) {y:V} (ry:zj y u):KV (qz kvs k y) (stored vs k u):=by
 unfold qz stored;rw[r.any k];by_cases e:(vs.any λc=>decide (c.1=k))=true
 ·rw[if_pos e,if_pos e];exact r.repl k ry
 ·rw[if_neg e,if_neg e];exact Paired.snoc r ⟨rfl,ry⟩
theorem KV.keys {kvs:List (κ×V)}{vs:List (κ×zD)} (r:KV kvs vs):kvs.map (·.1)=vs.map (·.1):=by
 unfold KV at r
 induction r with
 | nil=>rfl
 | cons h t c=>rw[jH,jH,c,h.1]
theorem KV.length {kvs:List (κ×V)}{vs:List (κ×zD)} (r:KV kvs vs):kvs.length=vs.length:=Paired.length r
end
theorem kC {P:jB}{k:Key} (r:zj (kV k) u):(yT P w).is k u=true:=by
 cases k with
 | inl i=>obtain⟨t,e⟩:=(show ∃ t,u=Vy i t from r);subst e;exact Fd P w i t
 | inr x=>obtain⟨t,e⟩:=(show ∃ t,u=X3 x t from r);subst e;exact GL P w x t
theorem a0 {P:jB}:∀ {ks:List Key}{us:List zD},zd (ks.map kV) us->ItemsAre (yT P w) ks us
 | [],_,r=>by rw[Jh] at r;cases r;exact .nil
 | k::ks,_,r=>by
  rw[jH] at r;cases r with
  | cons h t=>exact .cons (kC h) (a0 t)
noncomputable abbrev KT (H:Hp):List (List Key×V)->List (List Key×zE×zD)->Prop:=Paired λp q=>p.1=q.1/\H q.2.1=some (.tup (p.1.map kV))/\zj p.2 q.2.2
theorem KT.val (r:KT H kvs xs) (k:List Key):yX (q8 kvs k) ((JH xs k).map (·.2)):=by
 induction r with
 | nil=>exact Zg
 | @cons p q ps c h t i =>
  obtain⟨g,_,j⟩:=h;by_cases e:p.1=k
  ·have f:q.1=k:=g.symm.trans e;have b:JH (q::c) k=some q.2:=by simp[JH,KY,f]
   rw[YA e,b];exact j
  ·have f:¬ q.1=k:=λz=>e (g.trans z);have b:JH (q::c) k=JH c k:=by simp[JH,KY,f]
   rw[vy e,b];exact i
theorem KT.repl (r:KT H kvs xs) (k:List Key) {y:V} (ry:zj y u) :
  KT H (kvs.map λf=>if f.1=k then (f.1,y) else f) (xs.map (putAt k u)):=by
 induction r with
 | nil=>exact .nil
 | @cons p q ps l h t i =>
  rw[jH,jH];refine .cons ?_ i;obtain⟨c,g,j⟩:=h;unfold putAt;by_cases e:p.1=k
  ·rw[if_pos e,if_pos (c.symm.trans e)];exact⟨c,g,ry⟩
  ·rw[if_neg e,if_neg (λz=>e (c.trans z))];exact⟨c,g,j⟩
theorem KT.put (r:KT H kvs xs) (k:List Key) {b:zE}{y:V} (c:H b=some (.tup (k.map kV))) (ry:zj y u) :
  KT H (qz kvs k y) (storedH xs k b u):=by
 have e:(kvs.any λf=>decide (f.1=k))=(JH xs k).isSome:=by
  rw[CW,(r.val k).isSome_eq,Uy]
 unfold qz storedH;rw[e];by_cases q:(JH xs k).isSome=true
 ·rw[if_pos q,if_pos q];exact r.repl k ry
 ·rw[if_neg q,if_neg q];exact Paired.snoc r ⟨rfl,c,ry⟩
theorem KT.keeps {c:Hp} (r:KT H kvs xs) (e:∀ b ys,H b=some (.tup ys)->c b=some (.tup ys)):KT c kvs xs :=
 Paired.mapP r λ_ _ z=>⟨z.1,e _ _ z.2.1,z.2.2⟩
section
variable {P:jB}{w:jG}{H:Hp}{h:zi}{a:zE}
theorem BI (ok:HOk P w H h) (e:Rd H a u):qA P w H h a u:=e.ok ok
theorem kO {kvs:List (Key×V)} (ok:HOk P w H h) (e:Rd H a (.dK kvs)):kvs.length <= zg/\(a == Zu)=false/\∃ vs,KV kvs vs/\h.DictOf (yT P w) a vs :=
 show qA P w H h a (.dK kvs) from BI ok e
theorem JJ {kvs:List (Key×V)} (ok:HOk P w H h) (e:H a=some (.dK kvs)):kvs.length <= zg/\(a == Zu)=false/\∃ vs,KV kvs vs/\h.DictOf (yT P w) a vs:=kO ok (.inl e)
theorem Ku {ks:List Key} (ok:HOk P w H h) (e:H a=some (.tup (ks.map kV))):(Vn (yT P w)).is h ks a:=by
 obtain⟨_,its,r,o,c,f,n,g⟩:=(show qA P w H h a (.tup (ks.map kV)) from ok a _ e)
 exact⟨o,its.toArray,n,c,f,g,by simpa using a0 r⟩
theorem KG {kvs:List (List Key×V)} (ok:HOk P w H h) (e:Rd H a (.dT kvs)):kvs.length <= zg/\(a == Zu)=false /\
  ∃ xs,KT H kvs xs/\h.DictOfH (Vn (yT P w)) a xs:=by
 obtain⟨z,y,xs,r,o,es,g,i,j,n,s,u⟩:=(show qA P w H h a (.dT kvs) from BI ok e)
 refine⟨z,y,xs,r,o,es,g,i,j,n,s,λx c=>?_,u⟩;have all:∀ {l:List (List Key×V)}{m:List (List Key×zE×zD)},KT H l m->∀ x∈m,(Vn (yT P w)).is h x.1 x.2.1:=by
  intro l m q
  induction q with
  | nil=>intro x c;exact nomatch c
  | @cons p q ps A f t v =>
   intro x c;rcases List.mem_cons.mp c with e | c
   ·subst e;exact Ku ok (by rw[<- f.1];exact f.2.1)
   ·exact v x c
 exact all r x c
theorem lG {kvs:List (List Key×V)} (ok:HOk P w H h) (e:H a=some (.dT kvs)):kvs.length <= zg/\(a == Zu)=false /\
  ∃ xs,KT H kvs xs/\h.DictOfH (Vn (yT P w)) a xs:=KG ok (.inl e)
end
def QE (H:Hp) (a:zE) (y:V) (r:Option V):Prop :=
 (∃ kvs k,Rd H a (.dK kvs)/\y=kV k/\r=q8 kvs k)\/∃ kvs k b,Rd H a (.dT kvs)/\y=.ref b/\H b=some (.tup (k.map kV))/\r=q8 kvs k
def Kf (H:Hp) (a:zE) (y v:V) (c:Hp):Prop :=
 (∃ kvs k,H a=some (.dK kvs)/\y=kV k/\kvs.length < zg/\c=upd H a (.dK (qz kvs k v))) \/
 ∃ kvs k b,H a=some (.dT kvs)/\y=.ref b/\H b=some (.tup (k.map kV))/\kvs.length < zg/\c=upd H a (.dT (qz kvs k v))
theorem QE.k {H:Hp}{a:zE}{kvs:List (Key×V)}{k:Key} (e:H a=some (.dK kvs)):QE H a (kV k) (q8 kvs k):=.inl ⟨kvs,k,.inl e,rfl,rfl⟩
theorem Kf.k {H:Hp}{a:zE}{kvs:List (Key×V)}{k:Key} (e:H a=some (.dK kvs)) (c:kvs.length < zg):Kf H a (kV k) v (upd H a (.dK (qz kvs k v))):=.inl ⟨kvs,k,e,rfl,c,rfl⟩
section
variable {X:Cx}{pins:List (zE×Obj)}{σ:St}{H:Hp}{s:zJ}{a:zE}{y v:V}{u r:zD}{o:Option V}{A:jc}{E:zD->zJ->Prop}
theorem Inv.big (I:Inv X pins σ H s):Zu < s.heap.objs.size:=by
 have h:jb < s.heap.objs.size:=(I.mod.glob.keeps I.bk).lt;exact Aw (by decide) h
theorem HL {Q:zD->zJ->Prop} (q:A.units+1 < Q1) (I:Inv X pins σ H s) (g:QE H a y (some v)) (ry:zj y u) (h:∀ f n,Inv X pins σ H n->zj v f->Q f n) :
  wpAny (zP X.prog X.w) A (KL (.ref a) u) Q E s:=by
 rcases g with ⟨kvs,k,e,i,l⟩ | ⟨kvs,k,b,e,i,t,l⟩
 ·subst i;obtain⟨z,hd,vs,rel,j⟩:=kO I.hok e;obtain⟨f,hw,c⟩:=yX.some_of (v:=v) (o:=Jg vs k) (by rw[l];exact rel.val k);exact wpAny_getItem_of (kC ry) j.mapOf hw (h f _ (I.tok _) c)
 ·subst i;cases (show u=qG b from ry);obtain⟨z,hd,xs,rel,j⟩:=KG I.hok e;obtain⟨f,hw,c⟩:=yX.some_of (v:=v) (o:=(JH xs k).map (·.2)) (by rw[l];exact rel.val k);obtain⟨p,x,m⟩:=Option.map_eq_some_iff.mp hw;refine wpAny_getItem_heap (U5 q) (Ku I.hok t) j x ?_;rw[m];exact h f _ (I.tok _) c
theorem MR {Q:zD->zJ->Prop} (j:A.units+1 < Q1) (I:Inv X pins σ H s) (g:QE H a y o) (ry:zj y u) (h:∀ i,Inv X pins σ H i->Q (.bool o.isSome) i) :
  wpAny (zP X.prog X.w) A (jY .In u (.ref a)) Q E s:=by
 rcases g with ⟨kvs,k,e,c,l⟩ | ⟨kvs,k,b,e,c,m,l⟩
 ·subst c;obtain⟨z,hd,vs,rel,f⟩:=kO I.hok e;refine wpAny_in_of (kC ry) hd f.mapOf ?_;rw[<- (rel.val k).isSome_eq,<- l];exact h _ (I.tok _)
 ·subst c;cases (show u=qG b from ry);obtain⟨z,hd,xs,rel,f⟩:=KG I.hok e;refine wpAny_in_heap (U5 j) (Ku I.hok m) hd f ?_;have q:=(rel.val k).isSome_eq;rw[Uy] at q;rw[<- q,<- l];exact h _ (I.tok _)
theorem MY {Q:zD->zJ->Prop} (j:A.units+1 < Q1) (I:Inv X pins σ H s) (g:QE H a y o) (ry:zj y u) (h:∀ i,Inv X pins σ H i->Q (.bool (!o.isSome)) i) :
  wpAny (zP X.prog X.w) A (jY .NotIn u (.ref a)) Q E s:=by
 rcases g with ⟨kvs,k,e,c,l⟩ | ⟨kvs,k,b,e,c,m,l⟩
 ·subst c;obtain⟨z,hd,vs,rel,f⟩:=kO I.hok e;refine wpAny_notIn_of (kC ry) hd f.mapOf ?_;rw[<- (rel.val k).isSome_eq,<- l];exact h _ (I.tok _)
 ·subst c;cases (show u=qG b from ry);obtain⟨z,hd,xs,rel,f⟩:=KG I.hok e;refine wpAny_notIn_heap (U5 j) (Ku I.hok m) hd f ?_;have q:=(rel.val k).isSome_eq;rw[Uy] at q;rw[<- q,<- l];exact h _ (I.tok _)
theorem Wj {t':Nat}{ob:HO} (I:Inv X pins σ H s) (c:Mut (H a)) (hs:xR a s.heap h') (f:∃ q,h'.get? a=some q) (new:qA X.prog X.w (upd H a ob) h' a ob) (h:0 < t':=by first | exact yv _ | assumption | exact Inv.tk (by assumption) | lia) :
  Inv X pins σ (upd H a ob) { s with heap:=h',toks:=t' } :=
 I.write (x:=a) (e:=a) c (.inl rfl) (λb q g z=>(hs.2 b g).trans z) f new
theorem U2 {P:jB}{h':zi}{kvs:List (Key×V)}{vs:List (Key×zD)} (z:kvs.length <= zg) (hd:(a == Zu)=false) (rel:KV kvs vs) (c:h'.DictOf (yT P w) a vs) :
  qA P w e h' a (.dK kvs):=⟨z,hd,vs,rel,c⟩
theorem Du {Q:Unit->zJ->Prop} (J:A.units+1 < Q1) (I:Inv X pins σ H s) (g:Kf H a y v L) (ry:zj y u) (x:zj v r) (h:∀ B,Inv X pins σ L B->Q () B) :
  wpAny (zP X.prog X.w) A (VC (.ref a) u r) Q E s:=by
 rcases g with ⟨kvs,k,e,j,l,m⟩ | ⟨kvs,k,b,e,j,C,l,m⟩
 ·subst j m;obtain⟨z,hd,vs,rel,n⟩:=JJ I.hok e;have p:vs.length <= zg:=by rw[<- rel.length];exact z
  have t:(qz kvs k v).length <= zg:=by have:=um kvs k v;lia
  refine wpAny_setItem_pairs (hsz:=p) (kC ry) n λh' f hs=>h _ ?_;have M:∃ q,h'.get? a=some q:=let ⟨q,_,_,i,_⟩:=f;⟨q,i⟩;exact Wj I (by rw[e];exact Zg) hs M (U2 t hd (rel.put k x) f)
 ·subst j m;cases (show u=qG b from ry);obtain⟨z,hd,xs,rel,n⟩:=lG I.hok e;have p:xs.length <= zg:=by rw[<- Paired.length rel];exact z
  have t:(qz kvs k v).length <= zg:=by have:=um kvs k v;lia
  refine wpAny_setItem_heap (hsz:=p) (U5 J) (Ku I.hok C) n λh' f hs=>h _ ?_;obtain⟨q,es,N,i,U,Y,h4,_,h5⟩:=f;refine Wj I (by rw[e];exact Zg) hs ⟨q,i⟩ ⟨t,hd,_,(rel.put k C x).keeps λc ys G=>?_,q,es,N,i,U,Y,h4,h5⟩;rw[ja (Hj G e (λz=>nomatch z))];exact G
end
section
variable {X:Cx}{pins:List (zE×Obj)}{σ:St}{H:Hp}{s:zJ}{a:zE}{kvs:List (Key×V)}{k:Key}{u:zD}{A:jc}{E:zD->zJ->Prop}
theorem fe {Q:zD->zJ->Prop} (I:Inv X pins σ H s) (e:Rd H a (.dK kvs)) (h:∀ t c,Inv X pins σ H c->Q (.int kvs.length t) c):wpAny (zP X.prog X.w) A (call (.builtin "len") [.ref a]) Q E s:=by
 obtain⟨z,hd,vs,rel,f⟩:=kO I.hok e;refine call_len_dict hd f (by rw[<- rel.length];rw[Z8] at z;lia) ?_;rw[<- rel.length];exact h _ _ (I.tok _)
end
theorem eA {X:Cx}{a:zE}{y:V} (I:Inv X f σ H s) (g:QE H a y o):s.TypeIs (.ref a) "dict" := by
 rcases g with ⟨kvs,k,e,_,_⟩ | ⟨kvs,k,b,e,_,_,_⟩
 ·obtain⟨_,_,vs,_,c⟩:=kO I.hok e;exact c.typeIs
 ·obtain⟨_,_,xs,_,c⟩:=KG I.hok e;exact c.typeIs
def gP (td ty e:TE):TS:=λD σ H=>e σ H λv f=>td σ f λx g=>ty σ g λy h=>∃ a c,x=.ref a/\Kf h a y v c/\D.nx σ c
section
variable {X:Cx}{o i e value:zV}{pos pos' tpos:Pos}{td ty tv:TE}
theorem Fc (f:X.A.units+1 < Q1) (j:PE X o td) (hi:PE X i ty) (l:PE X value tv) (hs:Qc value (some (.Subscript o i pos')) pos.line X.env=pure false) :
  PS X (.Assign [.Subscript o i pos'] value pos) (gP td ty tv):=by
 intro c s σ H D I h;refine wpAny_Assign_Subscript (zu (l c s σ H _ I h) λr s1 v m n p q=>zu (j c s1 σ m _ n q) λu t x w z rx B=>zu (hi c t σ w _ z B) λL M y N C ry ⟨a,E,ex,g,G⟩=>?_) hs;subst ex;obtain rfl:u=qG a:=rx;exact Du f C g ry p λQ J=>⟨σ,E,J,G⟩
end
theorem bx {P:jB} (h:zi) (c:Zu < h.objs.size):qA P w H (h.push { cls:=.type "dict",data:=.dict #[] }) h.objs.size (.dK []) :=
 ⟨ZV _,beq_eq_false_iff_ne.mpr (ZJ (je c)),[],.nil,NM h⟩
def D4:TE:=λ_ H Q=>∀ p,H p=none->Q (.ref p) (upd H p (.dK []))
section
variable {X:Cx}{pos:Pos}
theorem Ld:PE X (.Dict [] [] pos) D4:=λc s σ H Q I h =>
 wpAny_Dict_empty ⟨.ref s.heap.objs.size,_,I.laid (a:=s.heap.objs.size) (o:=.dK []) (t':=s.toks) (λ_ _ q=>ji _ q) (zo _) (bx s.heap I.big),rfl,h _ (I.hok.fresh (zo _))⟩
end
noncomputable def vt:List (TE×TE)->St->Hp->(List (V×V)->Hp->Prop)->Prop
 | [],_,H,Q=>Q [] H
 | (tk,c)::r,σ,H,Q=>tk σ H λx e=>c σ e λy f=>vt r σ f λps g=>Q ((x,y)::ps) g
noncomputable abbrev VV:List (V×V)->List (zD×zD)->Prop:=Paired λp q=>zj p.1 q.1/\zj p.2 q.2
def PPs (X:Cx) (pos:Pos) (keys:List (Option zV)) (c:List zV) (f:List (TE×TE)):Prop :=
 ∀ (e:List (zE×Obj)) (s:zJ) (σ:St) (H:Hp) (Q:List (V×V)->Hp->Prop),Inv X e σ H s->vt f σ H Q ->
  wpAny (zP X.prog X.w) X.A (evalPairs (pairTrees keys c X.env pos)) (λvs h=>∃ ps g,Inv X e σ g h/\VV ps vs/\Q ps g) X.xe s
theorem mJ {X:Cx}:PPs X pos [] [] []:=λc s σ H Q I h=>pairTrees_nil_walk ⟨[],H,I,.nil,h⟩
theorem LM {X:Cx}{k:zV}{ks:List (Option zV)}{tk:TE} (f:PE X k tk) (g:PE X v i) (j:PPs X pos ks vs e) :
  PPs X pos (some k::ks) (v::vs) ((tk,i)::e):=λc s σ H Q I h =>
 pairTrees_cons_walk (zu (f c s σ H _ I h) λu s1 x l m rx n=>zu (g c s1 σ l _ m n) λA o y p q ry r =>
  zu (j c o σ p _ q r) λws B ps t w rel z=>⟨(x,y)::ps,t,w,.cons ⟨rx,ry⟩ rel,z⟩)
noncomputable def xQ (kvs more:List (Key×V)):List (Key×V):=more.foldl (λc e=>qz c e.1 e.2) kvs
theorem KV.merge:∀ {more:List (Key×V)}{c:List (Key×zD)}{kvs:List (Key×V)}{vs:List (Key×zD)},KV more c->KV kvs vs->KV (xQ kvs more) (merged vs c):=by
 intro more c kvs vs r;unfold KV at r
 induction r generalizing kvs vs with
 | nil=>intro q;exact q
 | @cons p q ps i h t f =>
  intro g;have e:KV (qz kvs p.1 p.2) (stored vs q.1 q.2):=by
   have:=g.put p.1 h.2;rw[<- h.1];exact this
  exact f e
theorem aq:∀ (more kvs:List (Key×V)),(xQ kvs more).length <= kvs.length+more.length
 | [],kvs=>by show kvs.length <= kvs.length+0;lia
 | p::r,kvs=>by
  have c:=aq r (qz kvs p.1 p.2);have e:=um kvs p.1 p.2;show (xQ (qz kvs p.1 p.2) r).length <= _;rw[zx];lia
theorem bG {P:jB}:∀ {kvs:List (Key×V)}{ws:List (zD×zD)},VV (kvs.map λf=>(kV f.1,f.2)) ws->∃ e,Carries (yT P w) ws e/\KV kvs e
 | [],_,r=>by rw[Jh] at r;cases r;exact⟨[],Zg,.nil⟩
 | p::kvs,_,r=>by
  rw[jH] at r;cases r with
  | @cons a b as bs h t =>
   obtain⟨e,c,q⟩:=bG (P:=P) (w:=w) t;obtain⟨i,g⟩:=b;exact⟨(p.1,g)::e,⟨kC h.1,rfl,c⟩,.cons ⟨rfl,h.2⟩ q⟩
def eB (c:List (TE×TE)):TE:=λσ H Q=>∀ p,H p=none->vt c σ (upd H p (.dK [])) λps e=>e p=some (.dK [])/\∃ kvs:List (Key×V),ps=kvs.map (λf=>(kV f.1,f.2))/\kvs.length <= 15/\Q (.ref p) (upd e p (.dK (xQ [] kvs)))
theorem lq {X:Cx}{keys:List (Option zV)} (h:PPs X pos keys f l) (g:keys.all (·.isSome)=true) (p:keys.length=f.length) (r:keys≠[])
  (m:keys.length <= 15):PE X (.Dict keys f pos) (eB l):=by
 intro i s σ H Q I q;have t:=I.hok.fresh (zo s.heap.objs.size);have u:=I.laid (a:=s.heap.objs.size) (o:=.dK []) (h':=s.heap.push { cls:=.type "dict",data:=.dict #[] }) (t':=s.toks) (λ_ _ q=>ji _ q) (zo _) (bx s.heap I.big);refine wpAny_Dict_walk (knd:=yT X.prog X.w) g p r m (zu (h i _ σ _ _ u (q _ t)) λws N ps U n rel ⟨e,kvs,v,Y,x⟩=>?_);subst v;obtain⟨y,c,A⟩:=bG (P:=X.prog) (w:=X.w) rel;obtain⟨z,hd,B,C,E⟩:=JJ n.hok e;cases C;refine⟨y,c,E,λh' j hs=>⟨.ref s.heap.objs.size,_,?_,rfl,x⟩⟩;have G:(xQ [] kvs).length <= zg:=by
  have J:=aq kvs [];rw[jw] at J;rw[Z8];lia
 have L:∃ q,h'.get? s.heap.objs.size=some q:=let ⟨q,_,_,M,_⟩:=j;⟨q,M⟩;exact Wj n (by rw[e];exact Zg) hs L (U2 G hd (A.merge .nil) j) (by have z:=n.tk;(try dsimp only at z);(try dsimp only);lia)
structure M1 (X:Cx) (o:zV) (m:Str) (apos:Pos) (e:zV) (q9:Pos):Prop where
 base:QH o m X.env (zr o X.env)=zr o X.env
 few:((qX q9 (jK [e] X.env)).all (λx=>!x.1) && (xD q9 (xp [] X.env)).all (λx=>x.1.isSome)
  && decide (([e]:List zV).length+([]:List Jb).length+(if ([]:List Jb).isEmpty then 0 else 1) < 30))=true
 line:(apos.endLine == q9.line)=true
 trees:qX q9 (jK [e] X.env)=[(false,zr e X.env)]
structure M2 (X:Cx) (o:zV) (m:Str) (apos:Pos) (e f:zV) (q9:Pos):Prop where
 base:QH o m X.env (zr o X.env)=zr o X.env
 few:((qX q9 (jK [e,f] X.env)).all (λx=>!x.1) && (xD q9 (xp [] X.env)).all (λx=>x.1.isSome)
  && decide (([e,f]:List zV).length+([]:List Jb).length+(if ([]:List Jb).isEmpty then 0 else 1) < 30))=true
 line:(apos.endLine == q9.line)=true
 trees:qX q9 (jK [e,f] X.env)=[(false,zr e X.env),(false,zr f X.env)]
end L2
namespace Att
open PySem PySem.W PySem.Calls PyProof.Rows
theorem Ih {P:Params}:∀ (ns:List Int) (vs:List zD),WellAll P h vs (ns.map HK)->uA vs ns:=by
 intro ns
 induction ns with
 | nil =>
  intro vs w;rw[Jh] at w;cases w;exact .nil
 | cons n ns c =>
  intro vs w;rw[jH] at w;cases w with
  | cons a b =>
   cases a;exact .cons _ _ (c _ b)
theorem iC {l:OpenLaw}{n:Nat} (s:l.most=some n) {P:Params}{args:List WData}
  (c:l.row.toRowW.claim.pre args=true) (m:WellAll P h e args) :
  ∃ a vs ns,e=[qG a]/\args=[WData.list (ns.map HK)]/\h.get? a=some { cls:=.type "list",data:=.seq vs.toArray }/\uA vs ns/\ns.length <= n:=by
 have o:WShape.hasAll [] args [.list .int]=true:=(pre_splitW c).1;have p:l.pre.holds [] { args:=args }=true:=(pre_splitW c).2;obtain⟨d,r,rfl,t,u⟩:=hasAllW_cons o;obtain rfl:=hasAllW_nil u;obtain⟨xs,rfl,v⟩:=hasW_list t;obtain⟨ns,rfl⟩:=items_int v;have f:ns.length <= n:=by
  unfold OpenLaw.pre at p;have i:(WTm.not (.lt (.lit (.int (n:Int))) (.len (.arg 0)))).holds [] { args:=[.list (ns.map .int)] }=true:=by
   have i:=(holds_andW p).1;rw[s] at i;exact i
  have j:=condW_of i (w_not (w_lt w_lit (w_len_list (w_arg rfl))));rw[jS] at j;refine Nat.le_of_not_lt λq=>?_;have w:(n:Int) < ((ns.length:Nat):Int):=by lia
  first
   | (rw[decide_eq_true w] at j;exact absurd j (by decide))
   | (simp at j;lia)
 cases m with
 | cons x y =>
  cases y;cases x with
  | list z g=>exact⟨_,_,ns,rfl,rfl,z,Ih ns _ g,f⟩
theorem Ib (l:OpenLaw) (args:List WData):l.row.toRowW.claim.post args (.bool true) args=true :=
 postW_of (r:=l.row.toRowW) (X:=(true == true))
  (show Gx [] (.bool true) .bool=true by first | rfl | decide | simp[Gx,WShape.arms,WShape.armsAll])
  (show (WTm.eq .res (.lit (.bool true))).value [] { args:=args,res:=some (.bool true),after:=args }=some (.bool (true == true)) from w_eq_bool (w_res rfl) w_lit) rfl
theorem IQ {l:OpenLaw}{n:Nat}{A:jG->zi->Prop}{d:DefRec}
  (H:l.most=some n) (u:d.params.defaults=[])
  (call:∀ (w:jG) (s₀ c:zJ) (mg v:Str->Option zD) (i:zE) (o:Obj) (pm s e:zD) (a:zE) (vs:List zD) (ns:List Int),
   Ground q g [] I w s₀ mg v c.heap->A w c.heap ->
   c.heap.get? i=some o->o.data=.func (docDef d.name d.params d.body d.scope pm s e)->c.heap.CodeRec s d.name->mg d.name=some (.ref i) ->
   c.heap.get? a=some { cls:=.type "list",data:=.seq vs.toArray }->uA vs ns->ns.length <= n->c.gens = #[] ->
   codeAny (zP l.prog w) Xg (.call (.ref i) ⟨[.ref a],[]⟩) (λr t=>r=.ok (.ret (.bool true))/\OldK c.heap t.heap/\t.os=c.os/\JN t.gens) c) :
  WalkO q g I A l.row.toRowW d [] (λf vs=>PySem.call f vs):=by
 intro w s₀ c mg v G Y i o pm s e J kV L hd x B y M args C as j E N z Q;obtain rfl:J=.none:=Dflts.none B u;obtain rfl:kV=.none:=Dflts.noKw B;obtain⟨a,vs,ns,rfl,rfl,m,h,p⟩:=iC H j z;refine enter_call (Ue (call w s₀ c mg v i o pm s e a vs ns G Y L (fd_plain hd) x y m h p M) λr t U=>?_);obtain⟨rfl,h2,h3,h4⟩:=U;exact⟨.inl ⟨.bool true,.bool true,[],rfl,λ_=>rfl,.bool true,Ib l _,λ_=>⟨WM,λ_ hm=>(nomatch hm)⟩⟩,h2,h3,h4⟩
end Att
namespace L2
open PySem PySem.Spec PyProof.Rows
theorem cE:∀ {vs:List zD}{ns:List Int},uA vs ns->zd (ns.map V.int) vs
 | _,_,.nil=>.nil
 | _,_,.cons n t h=>.cons ⟨t,rfl⟩ (cE h)
def va (H:Hp):Prop:=∀ b,H b=none\/∃ o xs,H b=some (.frz o (.lst xs))
theorem HM {P:jB}{K:PySem.W.Frag}{mg G:Str->Option zD}{k:Nat}{a:zE}{x:Str}{sp:Sp}{c:zJ}{vs:List zD}
  (U:K.In c.heap) (p:c.heap.Ns jb mg) (f:c.heap.Ns B7 G) (I:∀ x:Str,x ≠ "__name__" -> G x=qk x) (t:c.heap.NoLimit) (hg:c.gens = #[])
  (ha:c.heap.get? a=some { cls:=.type "list",data:=.seq vs.toArray }) (hi:uA vs ns) (Y:ns.length <= zg) (hr:z4 k Xg)
  (F:∀ base:zi,K.In base->base.Ns jb mg->zm P w K mg base CX k fa fd [x] sp) (hT:fd.scope.names.lookup x=some .local) (l:∀ (s:zJ) (u:zD),XI s fd ⟨[u],[]⟩ [(x,u)])
  (J:∀ H:Hp,va H->SqL K H a (ns.map V.int)->sp [.ref a] H (λv _=>v=.bl true) λ_ _ _=>False)
  (L:∀ H e g,CX [] H c (λ_ _ _=>False) e g->False) :
  codeAny (zP P w) Xg (.call (.ref fa) ⟨[.ref a],[]⟩) (λr g=>r=.ok (.ret (.bool true))/\OldK c.heap g.heap/\g.os=c.os/\JN g.gens) c:=by
 have rv:=cE hi;have y:=hi.length;have j:∀ H:Hp,va H->SqL K H a (ns.map V.int)->HOk P w H c.heap->(∀ b,H b≠none->b=a)->(H a≠none->K.lookup a=none) ->
   codeAny (zP P w) Xg (.call (.ref fa) ⟨[.ref a],[]⟩) (λr g=>r=.ok (.ret (.bool true))/\OldK c.heap g.heap/\g.os=c.os/\JN g.gens) c:=by
  intro H hO hS hok hA hK;have base_of:∀ {b:zE}{o:Obj},c.heap.get? b=some o->H b=none->(Qr c.heap H).get? b=some o:=λe n=>Gu e n;have M:∀ {b:zE}{o:Obj}{es:Array DictEntry}{A:Nat},c.heap.get? b=some o->o.data=.dict es A->H b=none:=λ{b o es A} e d=>by
   cases q:H b with
   | none=>rfl
   | some u =>
    have N:b=a:=hA b (by rw[q];simp);subst N;rw[ha] at e;cases e;have d':Data.seq vs.toArray _=Data.dict es A:=d;cases d'
  have i:∀ {b:zE}{m:Str->Option zD},c.heap.Ns b m->(Qr c.heap H).Ns b m:=λ{b m} ⟨o,es,A,e,d,r⟩=>⟨o,es,A,base_of e (M e d),d,r⟩
  have B:K.In (Qr c.heap H):=λb o e=>base_of (U b o e) (by
   cases q:H b with
   | none=>rfl
   | some u =>
    have N:b=a:=hA b (by rw[q];simp);subst N;rw[hK (by rw[q];simp)] at e;cases e)
  have hM:Mod K mg (Qr c.heap H):=⟨B,i p,⟨G,i f,I⟩,let ⟨mc,h1,h2⟩:=t;⟨mc,i h1,h2⟩⟩
  have e0:J8 P w K mg (Qr c.heap H) Xg [] c H:=⟨rfl,hM,λb o e=>Dz e,vX (gG _ _),trivial,λb f=>absurd (show b∈([]:List zE) from f) (by simp),hok,.of_eq hg⟩
  refine Ue ((F _ B (i p)).run Xg [] c H ⟨[.ref a],[]⟩ [.ref a] [.ref a] _ _ hr e0 (.inr ⟨x,List.mem_singleton.mpr rfl,hT⟩) (l c (.ref a)) (.cons rfl .nil) (J H hO hS)) λr g h=>?_;cases r with
  | error e=>exact (L H e g h).elim
  | ok fl =>
   cases fl with
   | next=>exact jF h
   | brk=>exact jF h
   | cont=>exact jF h
   | ret u =>
    obtain⟨v,H',os,bare,un,C,r',q⟩:=h;have q':v=.bl true:=q;subst q';obtain rfl:u=Jo true:=r';refine⟨rfl,OldK.of_keep λb o e=>?_,os,bare⟩;cases q:H b with
    | none=>exact un.keep b o e q (by intro z;exact absurd (show b∈([]:List zE) from z) (by simp)) (by simp)
    | some u =>
     rcases hO b with z | ⟨ob,xs,z⟩
     ·rw[q] at z;cases z
     ·have z2:=un.frzs b ob _ z;obtain⟨e1,_⟩:=hok b _ z;obtain⟨e2,_⟩:=C b _ z2;rw[e] at e1;cases e1;exact e2
 cases Q:K.lookup a with
 | some o =>
  have e:=U a o Q;rw[ha] at e;cases e;refine j (λ_=>none) (λ_=>.inl rfl) (.inr ⟨_,vs.toArray,_,Q,rfl,rfl,rfl,by rw[jo,y];exact Y,by simpa using rv⟩) (λb u z=>by have E:(none:Option HO)=some u:=z;cases E) (λb z=>absurd rfl z) λz=>absurd rfl z
 | none =>
  refine j (λb=>if b=a then some (.frz { cls:=.type "list",data:=.seq vs.toArray } (.lst (ns.map V.int))) else none) (λb=>?_) (.inl (.inr ⟨{ cls:=.type "list",data:=.seq vs.toArray },if_pos rfl⟩)) (λb u z=>?_) (λb z=>?_) λ_=>Q
  ·by_cases f:b=a
   ·exact .inr ⟨_,_,if_pos f⟩
   ·exact .inl (if_neg f)
  ·by_cases f:b=a
   ·have E:=(if_pos f).symm.trans z;cases E;subst f;exact⟨ha,by rw[jS];exact Y,vs,_,rv,ha⟩
   ·have E:=(if_neg f).symm.trans z;cases E
  ·by_cases f:b=a
   ·exact f
   ·exact absurd (if_neg f) z
end L2
namespace L2
open PySem PySem.Spec PyProof.Rows
theorem HB {l:PySem.W.OpenLaw}{n k:Nat}{E:jG->zi->Prop}{d:DefRec}{K:Params->PySem.W.Frag}{CX:jG->CXT}{sp:jG->Sp}{x:Str}
  (J:l.most=some n) (r:n <= zg) (t:d.params.defaults=[]) (L:z4 k Xg)
  (M:∀ (w:jG) (h:zi),E w h->(K w.params).In h)
  (F:∀ (w:jG) (mg:Str->Option zD) (p:zE) (h:zi),(K w.params).In h->h.Ns jb mg->mg d.name=some (.ref p) ->
   ∃ fd:QI,(∀ (s:zJ) (u:zD),XI s fd ⟨[u],[]⟩ [(x,u)])/\fd.scope.names.lookup x=some .local /\
    ∀ base:zi,(K w.params).In base->base.Ns jb mg->zm l.prog w (K w.params) mg base (CX w) k p fd [x] (sp w))
  (y:∀ (w:jG) (H:Hp) (a:zE) (ns:List Int),ns.length <= n->va H->SqL (K w.params) H a (ns.map V.int)->sp w [.ref a] H (λv _=>v=.bl true) λ_ _ _=>False)
  (z:∀ (w:jG) (H:Hp) (s:zJ) (e:zD) (A:zJ),CX w [] H s (λ_ _ _=>False) e A->False) :
  PySem.W.WalkO q B XP E l.row.toRowW d [] (λf vs=>PySem.call f vs):=by
 refine Att.IQ J t λw s₀ j mg mb p o pm cd N a vs ns G Y ho hd Q C m i c U=>?_;have I:=M w _ Y;obtain⟨fd,hb,hT,hF⟩:=F w mg p _ I G.T.g C;exact HM I G.T.g G.T.b G.T.builtins G.T.nolimit U m i (jM c r) L hF hT hb (λH hO hS=>y w H a ns c hO hS) λH e A=>z w H j e A
end L2
namespace L2
open PySem PySem.Spec PyProof.Rows
noncomputable def yx (s:zf) (j:Nat):zf:=match s with
 | .ClassDef _ _ _ c _ _ _ _ _ _ _=>c.getD j (.Pass ⟨0,0,0,0⟩)
 | _=>.Pass ⟨0,0,0,0⟩
noncomputable def QJ (s:zf):Arguments:=match s with
 | .FunctionDef _ a _ _ _ _ _ _ _ _=>a
 | _=>{ posonlyargs:=[],args:=[],vararg:=none,kwonlyargs:=[],kw_defaults:=[],kwarg:=none,defaults:=[] }
noncomputable def yP (s:zf):List zf:=match s with
 | .FunctionDef _ _ b _ _ _ _ _ _ _=>b
 | _=>[]
noncomputable def jl (s:zf):Za:=match s with
 | .FunctionDef _ _ _ _ _ _ c _ _ _=>c
 | _=>{ kind:=.function,names:=[],isGenerator:=false,isCoroutine:=false }
abbrev CX0:CXT:=λ_ _ _ _ _ _=>False
abbrev E0:XK:=λ_ _ _=>False
theorem Xz {X:Cx}:Zq CX0 X E0:=λ_ _ _ _ _ _ _ h=>h.elim
structure Fun (K:PySem.W.Frag) (x qual:Str) (st:zf) (f:zE) (fd:QI):Prop where
 ex:∃ (oc:zD) (od:Option zE) (kV doc pm:zD) (an:Option zE) (cdv ct:zD) (osl:Array (Option zD)),
  fd=PySem.W.fnOf x qual (QJ st) (yP st) (jl st) .none kV doc pm an cdv ct/\K.lookup f=some ⟨oc,od,.func fd,osl⟩/\PySem.W.codeIn K cdv qual=true
 kp:PySem.W.keepIn K (.ref f)=true
section
variable {P:jB}{w:jG}{K:PySem.W.Frag}{mg:Str->Option zD}{base:zi}
theorem Fun.ok {st:zf}{k:Nat}{sp:Sp} (F:Fun K x qual st f fd) (S:Qu N ps (jl st)) (len:∀ vs H Q E,sp vs H Q E->vs.length=ps.length)
  (e:∀ (c:zD) (A:jc) (outer:List Env) (s:zJ) (H:Hp) (vs:List V) (Q:VK) (E:XK),z4 k (A.deeper (y8 qual (jl st) s.heap.objs.size f c))->sp vs H Q E ->
   ∃ t,PSs (Ze CX0 P w K mg base N qual (jl st) f c A outer s H E).nox (yP st) t/\t { nx:=λ_ j=>Q .non j,rt:=Q } (Zy N vs) H):zm P w K mg base CX0 (k+1) f fd ps sp:=by
 obtain⟨p,r,kV,l,pm,u,c,ct,m,rfl,n,g⟩:=F.ex;refine h8 n g S len λA outer s H vs Q E o i=>?_;obtain⟨t,h,q⟩:=e c A outer s H vs Q E o i;exact⟨t,h.nox,q⟩
theorem Fun.binds {st:zf}{ps:List Str} (F:Fun K x qual st f fd)
  (h:∀ (kV c pm:zD) (g:Option zE) (e ct:zD) (us:List zD),us.length=ps.length->wx (PySem.W.fnOf x qual (QJ st) (yP st) (jl st) .none kV c pm g e ct) ⟨us,[]⟩=pure (ps.zip us)):yH K fd ps []:=by
 obtain⟨l,m,kV,c,pm,g,e,ct,i,rfl,n,j⟩:=F.ex;exact .all (h kV c pm g e ct)
theorem uT {st:zf}{f:zE}{i:zD}{j:Option zE}{g:Array (Option zD)}{kV pm:zD} (l:K.lookup f=some ⟨i,j,.func (PySem.W.fnOf x qual (QJ st) (yP st) (jl st) .none kV h pm m e ct),g⟩)
  (c:PySem.W.codeIn K e qual=true) (k:PySem.W.keepIn K (.ref f)=true):Fun K x qual st f (PySem.W.fnOf x qual (QJ st) (yP st) (jl st) .none kV h pm m e ct):=⟨⟨i,j,kV,h,pm,m,e,ct,g,rfl,l,c⟩,k⟩
end
theorem UU {k:Nat} (c:z4 k A):A.units+1 < Q1:=Nat.lt_of_le_of_lt (Nat.add_le_add_left (by decide:1 <= 64) _) c.units
theorem Qp {A B:Prop} (h:B):if false=true then A else B:=by
 rw[if_neg qF];exact h
theorem Qk {A B:Prop} (h:A):if true=true then A else B:=by
 rw[if_pos rfl];exact h
end L2
namespace L2
open PySem PySem.Spec PyProof.Rows
section
variable {X:Cx}
theorem Ip:jq X (.builtin "len") (λxs H Q=>∃ a kvs,xs=[V.ref a]/\H a=some (.dK kvs)/\Q (.int kvs.length) H):=by
 intro c s σ H xs us Q I r h;obtain⟨a,kvs,rfl,ha,q⟩:=h;obtain⟨u,rfl,e⟩:=yU r;cases e;exact fe I (.inl ha) λt g f=>⟨.int kvs.length,H,f,⟨t,rfl⟩,q⟩
end
end L2
set_option maxHeartbeats 4000000
namespace L2
open PySem PySem.Spec PyProof.Rows
noncomputable abbrev jZ (X:Cx) (vars:List Str) (scope:Za) (cl:List (Str×zE)) (C:zE) (f:List zE) (c:zJ) (e:Hp):Cx where
 prog:=X.prog
 w:=X.w
 K:=X.K
 mg:=X.mg
 base:=X.base
 A:=X.A
 N:=X.N++vars
 s₀:=c
 H₀:=e
 env:=Z0 scope cl C X.env
 outer:=X.stack
 stack:=X.stack
 ex:=f
 fn:=λ_=>false
 calm:=X.calm
 pn:=[]
 xe:=λ_ _=>False
noncomputable def KC (cells:List (Str×zE)):List (Str×zE)->Prop
 | []=>True
 | p::r=>cells.lookup p.1=some p.2/\KC cells r
theorem KC.get {cells:List (Str×zE)}:∀ {cl:List (Str×zE)}{x:Str}{c:zE},KC cells cl->cl.lookup x=some c->cells.lookup x=some c
 | [],_,_,_,e=>by simp at e
 | (y,d)::r,x,c,h,e=>by
  cases f:x == y with
  | true =>
   simp only[ZA,f] at e;have g:x=y:=eq_of_beq f;subst g;rw[<- e];exact h.1
  | false =>
   simp only[ZA,f] at e;exact KC.get h.2 e
noncomputable def okK (on:List (Str×xH)) (vars:List Str) (cl:List (Str×zE)) (x:Str):xH->Bool
 | .local=>x == (".0" : Str) || vars.contains x
 | .cell=>false
 | .free=>(cl.lookup x).isSome && (on.lookup x == some .cell || on.lookup x == some .free)
 | _=>true
structure yi (X:Cx) (vars:List Str) (scope:Za) (cl:List (Str×zE)):Prop where
 kind:scope.kind=.function
 clos:closureFor scope X.env=pure cl
 dis:(vars.all λx=>!X.N.contains x)=true
 zero:X.N.contains (".0" : Str)=false
 names:∀ y∈scope.names,y.2=.local->scope.names.lookup y.1=some .local
 cells:KC X.env.cells cl
 ok:(scope.names.all λp=>okK X.env.scope.names vars cl p.1 p.2)=true
theorem Ui {env:Env}{x:Str}:∀ {names:List (Str×xH)},
  (names.map λ(n,k)=>if (k == xc && env.scope.kind == .function && env.kindOf n == some .cell) then (n,Kc) else (n,k)).lookup x =
   (names.lookup x).map λk=>if (k == xc && env.scope.kind == .function && env.kindOf x == some .cell) then Kc else k
 | []=>rfl
 | (n,k)::r=>by
  have g:=@Ui env x r;show xZ x ((if (k == xc && env.scope.kind == .function && env.kindOf n == some .cell)=true then (n,Kc) else (n,k))::_)=_;cases f:x == n with
  | true =>
   have e:x=n:=eq_of_beq f;subst e;by_cases c:(k == xc && env.scope.kind == .function && env.kindOf x == some .cell)=true
   ·rw[if_pos c];simp only[ZA,f,XH,if_pos c]
   ·rw[if_neg c];simp only[ZA,f,XH,if_neg c]
  | false =>
   by_cases c:(k == xc && env.scope.kind == .function && env.kindOf n == some .cell)=true
   ·rw[if_pos c];simp only[ZA,f];exact g
   ·rw[if_neg c];simp only[ZA,f];exact g
section
variable {X:Cx}{vars:List Str}{scope:Za}{cl:List (Str×zE)}{C D:zE}{fp:List zE}{qO:zJ}{H:Hp}{pins:List (zE×Obj)}{σ:St}
theorem yi.okAt (S:yi X vars scope cl) {x:Str}{k:xH} (h:scope.names.lookup x=some k):okK X.env.scope.names vars cl x k=true:=by
 have:=List.all_eq_true.mp S.ok (x,k) (PySem.mem_of_lookup h);exact this
theorem yi.noCell (S:yi X vars scope cl):∀ y∈scope.names,y.2≠.cell:=λy c e=>by
 have h:=List.all_eq_true.mp S.ok y c;rw[e] at h;exact absurd (show false=true from h) qF
theorem yi.freeOf (S:yi X vars scope cl) {x:Str} (h:(Z0 scope cl C X.env).kindOf x=some .cell\/(Z0 scope cl C X.env).kindOf x=some .free):scope.names.lookup x=some .free:=by
 have e:(Z0 scope cl C X.env).kindOf x=(scope.names.lookup x).map λk=>if (k == xc && X.env.scope.kind == .function && X.env.kindOf x == some .cell) then Kc else k:=Ui
 rw[e] at h;cases q:scope.names.lookup x with
 | none=>rw[q] at h;simp at h
 | some k =>
  rw[q] at h;by_cases c:k=.free
  ·rw[c]
  ·have f:(k == xc)=false:=by simpa using c
   simp only[XH,f,Mm,jv,if_false,Hn] at h;rcases h with h | h
   ·subst h;exact absurd rfl (S.noCell (x,.cell) (PySem.mem_of_lookup q))
   ·exact absurd h c
theorem yi.localOf (S:yi X vars scope cl) {x:Str} (h:(Z0 scope cl C X.env).kindOf x=some .local):scope.names.lookup x=some .local:=by
 have e:(Z0 scope cl C X.env).kindOf x=(scope.names.lookup x).map λk=>if (k == xc && X.env.scope.kind == .function && X.env.kindOf x == some .cell) then Kc else k:=Ui
 rw[e] at h;cases q:scope.names.lookup x with
 | none=>rw[q] at h;simp at h
 | some k =>
  rw[q] at h;simp only[XH,Hn] at h;split at h
  ·cases h
  ·rw[h]
theorem GR (I:Inv X pins σ H qO) (S:yi X vars scope cl) (E:∀ b∈fp,Qx X pins H b) (J:∀ b∈fp,∃ o,qO.heap.get? b=some o)
  {g:zi}{tk:Nat} (L:qO.heap.objs.size <= D) (M:qO.heap.objs.size <= C) (Q:D≠C) {G:Obj} (eD:g.get? D=some G) (cD:∀ v,G.data≠.cell v) {m:Str->Option zD} (hn:g.Ns C m)
  (old:∀ b o,qO.heap.get? b=some o->g.get? b=some o) (ht:0 < tk:=by first | exact yv _ | assumption | exact Inv.tk (by assumption) | lia) :
  Inv (jZ X vars scope cl C fp qO H) [(D,G)] (σ++z9 vars.length none) H { qO with heap:=g,toks:=tk }:=by
 have A:∀ b∈fp,b∉frs X.stack:=λb n z=>by
  rcases List.mem_cons.mp (I.stkSub b z) with e | e
  ·exact (E b n).2.1 e
  ·exact (E b n).2.2.1 e
 have f:∀ x c,cl.lookup x=some c->X.env.cells.lookup x=some c:=λx c e=>S.cells.get e;have U:∀ b∈fp,b < qO.heap.objs.size:=λb n=>by
  obtain⟨o,e⟩:=J b n;exact jR e
 have ok:(jZ X vars scope cl C fp qO H).Ok:=by
  refine⟨I.ok.mod,S.kind,I.ok.glob,I.ok.blt,M,λx y c Y s=>I.ok.inj x y c (f x c Y) (f y c s),λx hx=>?_,λx c h _=>absurd (show false=true from h) qF,I.ok.hd,I.ok.frames,.inl rfl,
   λb n=>⟨je (qR (U b n) M),λx c e z=>(E b n).2.2.2.2.1 x c (f x c e) z⟩,I.bs,jM I.ok.bsz I.sz,λb o e n=>?_,A,I.stack,I.stkFree⟩
  ·have q:=S.okAt (S.freeOf (C:=C) hx);have j:((cl.lookup x).isSome && (X.env.scope.names.lookup x == some .cell || X.env.scope.names.lookup x == some .free))=true:=q;rw[j8] at j;exact Option.isSome_iff_exists.mp j.1
  ·rcases (E b n).2.2.2.1 with z | z
   ·exact I.ok.noex b o e z
   ·exact absurd (qR (jR e) (jM I.ok.bsz z)) (Z2 _)
 have nst:D∉frs X.stack:=λz=>by
  rcases List.mem_cons.mp (I.stkSub D z) with e | e
  ·exact absurd (qR (e ▸ I.lt) L) (Z2 _)
  ·exact I.nofs L e
 refine⟨ok,rfl,I.bare,Un.kept old,⟨m,hn,λi x v Y s B=>?_⟩,λx c e=>?_,I.hok.fresh M,λx c e=>I.freeC x c (f x c e),λp hp=>?_,I.hok.kept old,?_,ht⟩
 ·have hlen:=I.len;have t:(X.N++vars)[i]? = some x:=Y;by_cases hi:i < σ.length
  ·rw[yG (by lia)] at t;rw[yG hi] at s;have w:X.N.contains x=true:=by
    rw[List.contains_iff_exists_mem_beq];exact⟨x,y9 t,by simp⟩
   have hk:(Z0 scope cl C X.env).kindOf x=some .cell\/(Z0 scope cl C X.env).kindOf x=some .free:=by
    rcases B with B | B
    ·have q:=S.okAt (S.localOf (C:=C) B);have j:(x == (".0" : Str) || vars.contains x)=true:=q;rw[VU] at j;rcases j with j | j
     ·have e0:x=(".0" : Str):=eq_of_beq j;rw[e0,S.zero] at w;cases w
     ·have q2:=List.all_eq_true.mp S.dis x (by simpa using j);rw[w] at q2;cases q2
    ·exact B
   have q:=S.okAt (S.freeOf (C:=C) hk);have j:((cl.lookup x).isSome && (X.env.scope.names.lookup x == some .cell || X.env.scope.names.lookup x == some .free))=true:=q;rw[j8,VU] at j;obtain⟨c,hc⟩:=Option.isSome_iff_exists.mp j.1;have ho:X.env.scope.names.lookup x=some .cell\/X.env.scope.names.lookup x=some .free:=by
    rcases j.2 with z | z
    ·exact .inl (eq_of_beq z)
    ·exact .inr (eq_of_beq z)
   obtain⟨m0,_,hl⟩:=I.loc;obtain⟨u,r,l⟩:=hl i x v t s (.inr ho);refine⟨u,r,.inr ⟨hk,c,hc,?_⟩⟩;rcases l with ⟨l1,_⟩ | ⟨_,c',e',o,eo,ed⟩
   ·have l2:X.env.scope.names.lookup x=some .local:=l1;rcases ho with z | z
    ·rw[l2] at z;cases z
    ·rw[l2] at z;cases z
   ·rw[f x c hc] at e';cases e';exact⟨o,old _ _ eo,ed⟩
  ·rw[ZQ (by lia),K3] at s;split at s<;>cases s
 ·obtain⟨v,o,eo,ed⟩:=I.cell x c (f x c e);exact⟨v,o,old _ _ eo,ed⟩
 ·have e:p=(D,G):=by simpa using hp
  subst e;exact⟨eD,I.hok.fresh L,Q,nst,cD⟩
 ·show (σ++z9 vars.length none).length=(X.N++vars).length;rw[jk,jk,aC,I.len]
end
def Zj (X:Cx) (f:List zV) (t:TT):Prop :=
 ∀ (e:List (zE×Obj)) (s:zJ) (σ:St) (H:Hp) (Q:Bool->Hp->Prop),Inv X e σ H s->t σ H Q ->
  wpAny (zP X.prog X.w) X.A (forIn f true λc r=>if r=true then do let ok <- isTrue c X.env (zr c X.env);pure (kr ok) else pure (kr r)) (TP X e σ Q) X.xe s
def jU:TT:=λ_ H Q=>Q true H
theorem Ht {X:Cx}:Zj X [] jU:=λ_ _ _ H _ I h=>wpAny_tests_nil ⟨H,I,h⟩
theorem HP {X:Cx} (h:PT X c t):Zj X [c] t:=λe s σ H Q I hw=>wpAny_tests_one (h e s σ H Q I hw)
def Wk (σ c:St):Prop:=σ.length=c.length/\∀ (i:Nat) v,σ[i]? = some (some v)->c[i]? = some (some v)
def v5 (n:Nat) (j:TI) (g:TG) (ti:TT) (te:TE):TE:=λσ H Q=>j σ H λJ l=>∃ W:Nat->Nat->List V->Hp->Prop,(∃ m,W 0 m [] l)/\∀ i m ys e,W i m ys e->ys.length <= zg /\
 ((J.stop i e/\∀ D,e D=none->Q (.ref D) (upd e D (.lst ys))) \/
  (J.go i e/\∀ x h,J.yld i e x h->g x (σ++z9 n none) h λc o=>Wk (σ++z9 n none) c/\ti c o λb H5 =>
   if b=true then te c H5 λy H6=>∃ f,f < m/\W (i+1) f (ys++[y]) H6 else ∃ f,f < m/\W (i+1) f ys H5))
theorem Inv.track {X:Cx}{D:zE} (I:Inv X f σ H s) (j:X.s₀.heap.objs.size <= D) (l:H D=none) (m:D≠X.env.locals)
  (h:∀ x c,X.env.cells.lookup x=some c->c≠D) (r:∀ p∈X.pn++f,p.1≠D) (new:qA X.prog X.w (upd H D o) s.heap D o):Inv X f σ (upd H D o) s:=by
 have ne:∀ {b u},H b=some u->b≠D:=λe z=>by rw[z,l] at e;cases e
 refine⟨I.ok,I.os,I.bare,⟨I.base.keep,I.base.slot,λb ob e n t=>?_,I.base.there,λb xs e=>?_,λb ob u e=>?_,λb ps e=>?_⟩,I.loc,I.cell,?_,λx c e=>?_,λp g=>?_,λb u e=>?_,I.len,I.tk⟩
 ·rw[ja (je (qR (jR e) j))];exact I.base.free b ob e n t
 ·have q:=I.base.tups b xs e;rw[ja (ne q)];exact q
 ·have q:=I.base.frzs b ob u e;rw[ja (ne q)];exact q
 ·obtain⟨mo,q⟩:=I.base.tbls b ps e;exact⟨mo,by rw[ja (ne q)];exact q⟩
 ·rw[ja (ZJ m)];exact I.free
 ·rw[ja (h x c e)];exact I.freeC x c e
 ·obtain⟨v,y,A,B,C⟩:=I.pin p g;exact⟨v,by rw[ja (r p g)];exact y,A,B,C⟩
 ·by_cases i:b=D
  ·subst i;rw[qp] at e;cases e;exact new
  ·rw[ja i] at e;exact (I.hok b u e).stay (λ_ _ _ q=>q) (λc q=>by rw[ja (ne q)];exact q) λc xs q=>by rw[ja (ne q)];exact q
noncomputable abbrev Q0 (us:List zD) (n:Nat):Obj:={ cls:=.type "list",data:=.seq us.toArray n }
section
variable {X:Cx}{vars:List Str}{scope:Za}{cl:List (Str×zE)}{C D it:zE}{fp:List zE}{qO:zJ}{ZF:Hp}{tg elt iter:zV}{ifs:List zV}{pos:Pos}{J:It}{tn:Nat->zi->Prop}
 {g:TG}{ti:TT}{te:TE}{R:Result->zJ->Prop}
theorem lX (hc:X.calm=true) (T:Je X.prog X.w X.K tg J fp it tn) (hg:PG (jZ X vars scope cl C fp qO ZF) tg g) (hi:Zj (jZ X vars scope cl C fp qO ZF) ifs ti) (he:PE (jZ X vars scope cl C fp qO ZF) elt te)
  {h:St} (W:Nat->Nat->List V->Hp->Prop) {F:List V->Hp->Prop} (hD0:qO.heap.objs.size <= D) (hDC:D≠C) (hDs:D∉frs X.stack) (hDc:∀ x c,cl.lookup x=some c->c≠D)
  (hS:∀ b∈fp,b≠C/\b∉frs X.stack/\(∀ x c,cl.lookup x=some c->c≠b)/\D≠b)
  (turn:∀ i m ys H,W i m ys H->ys.length <= zg/\((J.stop i H/\F ys H) \/
   (J.go i H/\∀ x H3,J.yld i H x H3->g x h H3 λN H4=>Wk h N/\ti N H4 λb H5 =>
    if b=true then te N H5 λy H6=>∃ G,G < m/\W (i+1) G (ys++[y]) H6 else ∃ G,G < m/\W (i+1) G ys H5)))
  (hR:∀ s' ys us n H,Inv (jZ X vars scope cl C fp qO ZF) [(D,Q0 us n)] h H s'->zd ys us->ys.length <= zg->F ys H->R (.ok .next) s')
  (I0:Inv (jZ X vars scope cl C fp qO ZF) [(D,Q0 [] n0)] h H0 s) (st0:tn 0 s.heap) (f0:∀ b∈fp,H0 b=none) (w0:W 0 m0 [] H0) :
  codeAny (zP X.prog X.w) X.A (.compLoop (.ListComp elt [⟨tg,iter,ifs,0⟩] scope pos) 0 (.ref it) (.ref D) (Z0 scope cl C X.env)) R s:=by
 have E:∀ {B:Hp}{o:Obj},(∀ b∈fp,B b=none)->∀ b∈fp,Qx (jZ X vars scope cl C fp qO ZF) [(D,o)] B b:=λ{B o} hn b l =>
  ⟨hn b l,(hS b l).1,(hS b l).2.1,.inl l,(hS b l).2.2.1,λp j=>by
   have e:p=(D,o):=by simpa using j
   subst e;exact (hS b l).2.2.2⟩
 refine codeAny_loop rfl (λn s=>∃ i ys us Y B,Inv (jZ X vars scope cl C fp qO ZF) [(D,Q0 us Y)] h B s/\zd ys us/\tn i s.heap/\(∀ b∈fp,B b=none)/\W i n ys B) (λn s hI=>?_) m0 ⟨0,[],[],n0,H0,I0,.nil,st0,f0,w0⟩;show wpAny _ X.A ((compTurn (.ListComp elt [⟨tg,iter,ifs,0⟩] scope pos) 0 (.ref it) (.ref D) (Z0 scope cl C X.env)).onRaise (λx=>do noteFrame x (Z0 scope cl C X.env);theTreesLotGoes x)) _ _ s;refine wpAny_noted ?_;rw[compTurn_list];obtain⟨i,ys,us,Y,B,I,rv,st,fr,w⟩:=hI;obtain⟨hz,tt⟩:=turn i n ys B w;refine zS (aO (zS ?_));rcases tt with ⟨stop,q⟩ | ⟨go,q⟩
 ·refine wpAny_mono (T.done (jZ X vars scope cl C fp qO ZF) rfl rfl rfl hc i _ s h B _ I (E fr) st stop) (λr s1 ⟨hr,I1⟩=>?_) (λ_ _ e=>e);subst hr;exact wpAny_pure (hR s1 ys us Y B I1 rv hz q)
 ·refine wpAny_mono (T.item (jZ X vars scope cl C fp qO ZF) rfl rfl rfl hc i _ s h B _ I (E fr) st go) (λr s1 ⟨u,hr,h1⟩=>?_) (λ_ _ e=>e);subst hr;refine zS (wpAny_mono h1 (λ_ Q ⟨x,H3,I3,r3,y3,st3,fr3⟩=>?_) (λ_ _ e=>e));have I3':=I3.pinned (E fr3) (T.obj _ _ st3);refine zS (wpAny_mono (hg _ Q h H3 x u _ I3' r3 (q x H3 y3)) (λ_ s3 ⟨t,H4,I4,wk,q4⟩=>?_) (λ_ _ f=>jF f));refine zS (wpAny_mono (hi _ s3 t H4 _ I4 q4) (λb s4 ⟨H5,I5,q5⟩=>?_) (λ_ _ f=>jF f));have L:∀ {U:zJ}{H7:Hp}{o:Obj},Inv (jZ X vars scope cl C fp qO ZF) ((D,o)::QM fp Q.heap) t H7 U->tn (i+1) U.heap/\∀ b∈fp,H7 b=none:=λ{U H7 o} M=>by
   refine⟨T.keep _ _ _ st3 λb l ob e=>(M.pin (b,ob) (ZM _ (jh _ (YF l e)))).1,λb l=>?_⟩;obtain⟨ob,e,d⟩:=T.obj _ _ st3 b l;exact (M.pin (b,ob) (ZM _ (jh _ (YF l e)))).2.1
  have one:∀ {U:zJ}{H7:Hp}{o:Obj},Inv (jZ X vars scope cl C fp qO ZF) ((D,o)::QM fp Q.heap) t H7 U->Inv (jZ X vars scope cl C fp qO ZF) [(D,o)] h H7 U:=λ{U H7 o} M =>
   (M.pins_of (pins':=[(D,o)]) λp j=>by
    have e:p=(D,o):=by simpa using j
    subst e;exact M.pin (D,o) (ZM _ qa)).weak wk.1 wk.2
  cases b with
  | false =>
   obtain⟨G,hm,w'⟩:=q5;obtain⟨b1,b2⟩:=L I5;exact wpAny_pure ⟨rfl,G,hm,i+1,ys,us,Y,H5,one I5,rv,b1,b2,w'⟩
  | true =>
   refine zS (zS (wpAny_mono (he _ s4 t H5 _ I5 q5) (λv s5 ⟨y,H6,I6,r6,q6⟩=>?_) (λ_ _ f=>jF f)));obtain⟨G,hm,w'⟩:=q6;obtain⟨eD,nD,_,_,_⟩:=I6.pin (D,Q0 us Y) (ZM _ qa);have hul:us.toArray.size <= zg:=by rw[jo,<- rv.length];exact hz
   refine zS (wpAny_list_append_plain (hsz:=hul) ⟨Y,eD⟩ λh' j hs=>wpAny_pure (wpAny_pure ⟨rfl,?_⟩));obtain⟨n',j⟩:=j;have hp':h'.get? D=some (Q0 (us++[v]) n'):=by rw[j];simp
   have M:Inv (jZ X vars scope cl C fp qO ZF) (QM fp Q.heap) t H6 { s5 with heap:=h',toks:=s5.toks }:=by
    refine Inv.turned (it:=D) (I6.pins_of (pins':=QM fp Q.heap) λp j=>I6.pin p (ZM _ (jh _ j))) (λb o l e=>(hs.2 b l).trans e) nD hDC (.inr hD0) (λx c e=>hDc x c e) λp j=>?_;have hp2:p∈QM fp Q.heap:=by simpa using j
    exact ZJ (hS p.1 (Bt hp2).1).2.2.2
   have I8:Inv (jZ X vars scope cl C fp qO ZF) ((D,Q0 (us++[v]) n')::QM fp Q.heap) t H6 { s5 with heap:=h',toks:=s5.toks }:=M.pins_of λp j=>by
    rcases List.mem_cons.mp j with rfl | j
    ·exact⟨hp',nD,hDC,hDs,λv z=>by cases z⟩
    ·exact M.pin p (ZM _ j)
   obtain⟨b1,b2⟩:=L I8;exact⟨G,hm,i+1,ys++[y],us++[v],n',H6,one I8,rv.append (.cons r6 .nil),b1,b2,w'⟩
end
section
variable {X:Cx}{vars:List Str}{scope:Za}{cl:List (Str×zE)}{tg elt iter:zV}{ifs:List zV}{pos:Pos}{wi:TI}{g:TG}{ti:TT}{te:TE}
theorem CG (hc:X.calm=true) (S:yi X vars scope cl) (hg:∀ C Y t u,PG (jZ X vars scope cl C Y t u) tg g) (ht:∀ C Y t u,Zj (jZ X vars scope cl C Y t u) ifs ti)
  (he:∀ C Y t u,PE (jZ X vars scope cl C Y t u) elt te) {F:zE->Hp->Prop}{RR:zD->zE->Result->zJ->Prop}
  (h2:PIE X f σ tg (λJ H1=>∃ W:Nat->Nat->List V->Hp->Prop,(∃ m,W 0 m [] H1)/\∀ i m ys H2,W i m ys H2->ys.length <= zg /\
   ((J.stop i H2/\∀ D,H2 D=none->F D (upd H2 D (.lst ys))) \/
    (J.go i H2/\∀ x H3,J.yld i H2 x H3->g x (σ++z9 vars.length none) H3 λσ2 H4=>Wk (σ++z9 vars.length none) σ2/\ti σ2 H4 λb H5 =>
     if b=true then te σ2 H5 λy H6=>∃ m',m' < m/\W (i+1) m' (ys++[y]) H6 else ∃ m',m' < m/\W (i+1) m' ys H5))) itv h)
  (hRR:∀ D C N M,(∃ m,N.heap.Ns C m)->C≠X.env.locals->(∀ x c,X.env.cells.lookup x=some c->c≠C)->Inv X f σ M N->(∀ (h':zi),xR C N.heap h'->∀ (s'':zJ),s''={ N with heap:=h' }->Inv X f σ M s'') ->
   (∀ (σ':St) (s3:zJ),Inv X f σ' M s3->(∃ a,xR a N.heap s3.heap/\(a=X.env.locals\/∃ x,X.env.cells.lookup x=some a))->∀ (h':zi),xR C s3.heap h'->Inv X f σ' M { s3 with heap:=h' }) ->
   F D M->RR (.ref D) C (.ok .next) N) :
  wpAny (zP X.prog X.w) X.A (newList []) (λacc B=>wpAny (zP X.prog X.w) X.A (BV scope X.env.globals cl [] X.env.qual none .none (some X.env)) (λcenv s₄ =>
   codeAny (zP X.prog X.w) X.A (.compStart (.ListComp elt [⟨tg,iter,ifs,0⟩] scope pos) 0 itv acc { cenv with scope:=relabel scope X.env }) (RR acc cenv.locals) s₄) E B) E h:=by
 obtain⟨it,Y,tn,J,H2,e,I,T,st2,f2,W,⟨m0,w0⟩,turn⟩:=h2;subst e;refine JV (wpAny_newFunctionEnv S.noCell (by intro y hy;simp at hy) (λG s l=>?_) S.kind);dsimp only at s l ⊢;generalize hH2:h.heap.push { cls:=.type "list",dict:=none,data:=.seq ([]:List zD).toArray }=L at s l ⊢;have hC:L.objs.size=h.heap.objs.size+1:=by rw[<- hH2,Q3]
 have hDC:h.heap.objs.size≠L.objs.size:=by rw[hC];exact je (xg _)
 have r:h.heap.objs.size <= L.objs.size:=by rw[hC];exact Wt _
 have Q:∀ b,b < h.heap.objs.size->b≠L.objs.size/\b≠h.heap.objs.size:=λb j=>⟨by rw[hC];exact je (uE j),je j⟩
 have old:∀ b o,h.heap.get? b=some o->G.get? b=some o:=λb o e=>l.extBut b o (Q b (jR e)).1 (ji _ (hH2 ▸ ji _ e));have hacc:G.get? h.heap.objs.size=some (Q0 [] 0):=l.extBut _ _ hDC (ji _ (hH2 ▸ qi _ rfl));have H:tn 0 G:=T.keep _ _ _ st2 λb _ o e=>old b o e;have hob:∀ b∈Y,∃ o,h.heap.get? b=some o:=λb j=>by
  obtain⟨o,e,_⟩:=T.obj _ _ st2 b j;exact⟨o,e⟩
 have fpl:∀ b∈Y,b < h.heap.objs.size:=λb j=>by
  obtain⟨o,e⟩:=hob b j;exact jR e
 have cget:∀ x c,cl.lookup x=some c->X.env.cells.lookup x=some c:=λx c e=>S.cells.get e;have U:∀ x c,X.env.cells.lookup x=some c->c < h.heap.objs.size:=λx c e=>by
  obtain⟨v,q⟩:=I.cell x c e;exact q.lt
 have pint:∀ p∈X.pn++f,p.1 < h.heap.objs.size:=λp hp=>jR (I.pin p hp).1;have fpst:∀ b∈Y,b∉frs X.stack:=λb j z=>by
  rcases List.mem_cons.mp (I.stkSub b z) with e | e
  ·exact (f2 b j).2.1 e
  ·exact (f2 b j).2.2.1 e
 have nst:h.heap.objs.size∉frs X.stack:=λz=>by
  rcases List.mem_cons.mp (I.stkSub _ z) with e | e
  ·exact absurd (e ▸ I.lt) (Z2 _)
  ·exact I.nofs (zo _) e
 have CL:L.objs.size≠X.env.locals:=λz=>absurd (qR (z ▸ I.lt) r) (Z2 _);have CC:∀ x c,X.env.cells.lookup x=some c->c≠L.objs.size:=λx c e=>je (qR (U x c e) r);have CP:∀ p∈X.pn++f,p.1≠L.objs.size:=λp hp=>je (qR (pint p hp) r);have loop:∀ B:zJ,B={ h with heap:=G,toks:=h.toks+([]:List (Str×zD)).length } ->
   codeAny (zP X.prog X.w) X.A (.compLoop (.ListComp elt [⟨tg,iter,ifs,0⟩] scope pos) 0 (.ref it) (.ref h.heap.objs.size) (Z0 scope cl L.objs.size X.env)) (RR (.ref h.heap.objs.size) L.objs.size) B:=by
  rintro B rfl
  have I0:Inv (jZ X vars scope cl L.objs.size Y h H2) [(h.heap.objs.size,Q0 [] 0)] (σ++z9 vars.length none) H2 { h with heap:=G,toks:=h.toks+([]:List (Str×zD)).length } :=
   GR I S f2 hob (zo _) r hDC hacc (λv z=>by cases z) s old
  refine lX hc T (hg _ _ _ _) (ht _ _ _ _) (he _ _ _ _) (D:=h.heap.objs.size) W (F:=λys M=>∀ D,M D=none->F D (upd M D (.lst ys))) (zo _) hDC nst (λx c e=>je (U x c (cget x c e)))
   (λb j=>⟨(Q b (fpl b j)).1,fpst b j,λx c e z=>(f2 b j).2.2.2.2.1 x c (cget x c e) z,KE (fpl b j)⟩) turn ?_ I0 H (λb j=>(f2 b j).1) w0
  intro N ys us n M I' rv hz q;obtain⟨eD,nD,_,_,_⟩:=I'.pin (h.heap.objs.size,Q0 us n) (ZM _ qa);have J1:Inv X f σ M N:=I.call' I'.os I'.base I'.hok I'.bare (λb j=>⟨(f2 b j).2.2.2.1,(f2 b j).2.1,(f2 b j).2.2.2.2.1,(f2 b j).2.2.2.2.2⟩) I'.tk;have J2:Inv X f σ (upd M h.heap.objs.size (.lst ys)) N:=J1.track I.sz nD (λz=>absurd (z ▸ I.lt) (Z2 _)) (λx c e=>je (U x c e)) (λp hp=>je (pint p hp)) ⟨hz,us,n,rv,eD⟩;have nC:upd M h.heap.objs.size (.lst ys) L.objs.size=none:=by
   rw[ja (ZJ hDC)];exact I'.free
  refine hRR _ _ N _ ?_ CL CC J2 (λh' hs s'' e=>?_) (λσ' s3 I3 _ h' hs=>?_) (q _ nD)
  ·obtain⟨m,hn,_⟩:=I'.loc;exact⟨m,hn⟩
  ·subst e;exact J2.turned (t':=N.toks) (it:=L.objs.size) (λb o j e=>(hs.2 b j).trans e) nC CL (.inr (jM I.sz r)) CC CP
  ·exact I3.turned (t':=s3.toks) (it:=L.objs.size) (λb o j e=>(hs.2 b j).trans e) nC CL (.inr (jM I.sz r)) CC CP
 exact codeAny_compStart_list (loop _ rfl) (T.self _ 0 _ _ _ H (loop _ rfl))
theorem uV (o:X.calm=true) (S:yi X vars scope cl) (hi:PI X tg iter wi) (p:∀ C f c e,PG (jZ X vars scope cl C f c e) tg g) (r:∀ C f c e,Zj (jZ X vars scope cl C f c e) ifs ti)
  (t:∀ C f c e,PE (jZ X vars scope cl C f c e) elt te) (hs:∀ x,xC iter X.env x=pure x:=by intro _;rfl):PE X (.ListComp elt [⟨tg,iter,ifs,0⟩] scope pos) (v5 vars.length wi g ti te):=by
 intro i s σ H Q I h;rw[eval_ListComp];refine EK (use:=none) rfl hs S.clos S.kind S.names (thn (hi i s σ H _ I h) λv s1 u=>thn u λw E y=>?_);refine CG o S p r t (F:=λD j=>Q (.ref D) j) y λD C G j l z A J B _ q=>?_;obtain⟨m,l⟩:=l;exact⟨m,l,λh' n=>⟨.ref D,j,B h' n _ rfl,rfl,q⟩⟩
theorem EV {i:Nat}{y:Str}{n j:Pos} (M:X.calm=true) (S:yi X vars scope cl) (U:X.N.Nodup) (r:X.N[i]? = some y) (Y:Loc X.env.scope y) (hi:PI X tg iter wi)
  (hg:∀ C o c f,PG (jZ X vars scope cl C o c f) tg g) (ht:∀ C o c f,Zj (jZ X vars scope cl C o c f) ifs ti)
  (he:∀ C o c f,PE (jZ X vars scope cl C o c f) elt te) (hs:∀ x,xC iter X.env x=pure x:=by intro _;rfl)
  (t:Qc (.ListComp elt [⟨tg,iter,ifs,0⟩] scope pos) (some (.Name y n)) j.line X.env=pure true:=by rfl)
  (hf:X.fn y=true\/X.env.scope.names.lookup y=some .local:=by first | exact .inl rfl | exact .inr rfl | assumption) :
  PS X (.Assign [.Name y n] (.ListComp elt [⟨tg,iter,ifs,0⟩] scope pos) j) (Ur (v5 vars.length wi g ti te) (zw i)):=by
 intro l s σ H L I h;rw[exec_Assign_Name_used _ _ _ _ t];refine zS (aO (zS ?_));show wpAny _ X.A (do let _ <- comprehension (.ListComp elt [⟨tg,iter,ifs,0⟩] scope pos) scope X.env _ (newList []) false (zr iter X.env) (some (Qy (.Name y n) X.env))) _ _ s;refine zS (wpAny_mono (EK (use:=some (Qy (.Name y n) X.env)) (Q:=λ_ u=>SP X l L .next u) rfl hs S.clos S.kind S.names
  (thn (hi l s σ H _ I h) λv s1 h1=>thn h1 λitv s2 h2=>?_)) (λ_ u hq=>wpAny_pure (wpAny_pure hq)) λ_ _ e=>e)
 refine CG M S hg ht he (F:=λD w=>L.nx (σ.set i (some (.ref D))) w) h2 λD C u w z B E J2 _ J4 q=>?_;obtain⟨m,z⟩:=z;show wpAny _ X.A (Qy (.Name y n) X.env (.ref D)) _ _ _;refine FH (c6 J2 U r Y (v:=.ref D) rfl (λs3 I3 ⟨a,p,ha⟩=>?_) hf);have G:C≠a:=by
  rcases ha with rfl | ha
  ·exact B
  ·exact ZJ (E y a ha)
 refine⟨m,z.sameBut p G,λh' J=>⟨σ.set i (some (.ref D)),w,J4 _ s3 I3 ⟨a,p,?_⟩ h' J,q⟩⟩;rcases ha with rfl | ha
 ·exact .inl rfl
 ·exact .inr ⟨y,ha⟩
end
end L2
namespace L2
open PySem PySem.Spec PyProof.Rows
noncomputable def Its (z:Str):It:=⟨λi _=>i < z.length,λi H x e=>e=H/\∃ c,z.cps[i]? = some c/\x=.str ⟨#[c]⟩,λi _=>z.length <= i⟩
theorem g0 {P:jB}{K:PySem.W.Frag} (it:zE) (z:Str) (t:Tok):Je P w K tg (Its z) [it] it (λi h=>h.IsStrIter it "str_ascii_iterator" z t i) where
 mem:=by simp
 obj:=λi h st b g=>by
  have e:b=it:=by simpa using g
  subst e;obtain⟨o,e,c,d⟩:=st;exact⟨o,e,λv z=>by rw[d] at z;cases z⟩
 keep:=λi h h' st k=>let ⟨o,J,r⟩:=st;⟨o,k it (by simp) o J,r⟩
 item:=by
  intro X n hw p G i f s σ H E I m st q;subst n hw p;obtain⟨u,x,L,y,A,B⟩:=m it (by simp);have j:i < z.cps.size:=q;refine wpAny_pyNext_ascii_item st (c:=z.cps[i]) (by simp[j]) λh' l sb=>?_;have M:Inv X f σ H { s with heap:=h',toks:=s.toks+1 }:=I.turned (λb o g e=>(sb.2 b g).trans e) u x y A B;obtain⟨o,e,c,d⟩:=id l;exact⟨_,rfl,kL (s:={ s with heap:=h',toks:=s.toks+1 }) e c d (by decide) ⟨.str ⟨#[z.cps[i]]⟩,H,M,⟨_,rfl⟩,⟨rfl,z.cps[i],by simp[j],rfl⟩,l,λb g=>(m b g).1⟩⟩
 done:=by
  intro X n hw p G i f s σ H E I m st q;subst n hw p;obtain⟨u,x,L,y,A,B⟩:=m it (by simp);have C:z.cps.size <= i:=q;exact wpAny_pyNext_ascii_end (I.ok.hd G) st (by simp[C]) λh' N=>⟨rfl,I.turned (t':=s.toks) (λb o g e=>N b o g e) u x y A B⟩
 self:=λ_ _ _ _ _ st h=>wpAny_pyIter_striter_ascii st h
theorem iu {P:jB}{K:PySem.W.Frag} (it:zE) (z:Str) (t:Tok):Je P w K tg (Its z) [it] it (λi h=>h.IsStrIter it "str_iterator" z t i) where
 mem:=by simp
 obj:=λi h st b g=>by
  have e:b=it:=by simpa using g
  subst e;obtain⟨o,e,c,d⟩:=st;exact⟨o,e,λv z=>by rw[d] at z;cases z⟩
 keep:=λi h h' st k=>let ⟨o,J,r⟩:=st;⟨o,k it (by simp) o J,r⟩
 item:=by
  intro X n hw p G i f s σ H E I m st q;subst n hw p;obtain⟨u,x,L,y,A,B⟩:=m it (by simp);have j:i < z.cps.size:=q;refine wpAny_pyNext_wide_item st (c:=z.cps[i]) (by simp[j]) λh' l sb=>?_;have M:Inv X f σ H { s with heap:=h',toks:=s.toks+1 }:=I.turned (λb o g e=>(sb.2 b g).trans e) u x y A B;obtain⟨o,e,c,d⟩:=id l;exact⟨_,rfl,kL (s:={ s with heap:=h',toks:=s.toks+1 }) e c d (by decide) ⟨.str ⟨#[z.cps[i]]⟩,H,M,⟨_,rfl⟩,⟨rfl,z.cps[i],by simp[j],rfl⟩,l,λb g=>(m b g).1⟩⟩
 done:=by
  intro X n hw p G i f s σ H E I m st q;subst n hw p;obtain⟨u,x,L,y,A,B⟩:=m it (by simp);have C:z.cps.size <= i:=q;exact wpAny_pyNext_wide_end (I.ok.hd G) st (by simp[C]) λh' N=>⟨rfl,I.turned (t':=s.toks) (λb o g e=>N b o g e) u x y A B⟩
 self:=λ_ _ _ _ _ st h=>wpAny_pyIter_striter_wide st h
def ik (c:TE):TI:=λσ H R=>c σ H λx e=>∃ z,x=.str z/\R (Its z) e
theorem Iw {X:Cx} (i:PE X l j):PI X tg l (ik j):=by
 intro c s σ H R I h;refine zu (i c s σ H _ I h) λv s1 x g f m n=>?_;obtain⟨z,e,q⟩:=n;subst e;obtain⟨t,rfl⟩:=m;have fin:∀ b∈[s1.heap.objs.size],Qx X c g b:=λb p=>by
  have e:b=s1.heap.objs.size:=by simpa using p
  subst e;exact f.fpOk (zo _) (f.hok.fresh (zo _))
 cases ha:z.cps.all (· < 128)
 ·refine wpAny_pyIter_wide ha ?_;exact⟨s1.heap.objs.size,[s1.heap.objs.size],_,Its z,g,rfl,f.kept (t':=s1.toks) λb o e=>ji _ e,iu _ z t,⟨_,qi _ rfl,rfl,rfl⟩,fin,q⟩
 ·refine wpAny_pyIter_ascii ha ?_;exact⟨s1.heap.objs.size,[s1.heap.objs.size],_,Its z,g,rfl,f.kept (t':=s1.toks) λb o e=>ji _ e,g0 _ z t,⟨_,qi _ rfl,rfl,rfl⟩,fin,q⟩
section
variable {X:Cx}
theorem G3:OpR X (jY .LtE) (λx y H Q=>∃ i j,x=.str i/\y=.str j/\Q (.bl (!decide (j.cps.toList < i.cps.toList))) H):=by
 intro c s σ H x y v u Q I rx ry h;obtain⟨i,j,rfl,rfl,q⟩:=h;obtain⟨t,rfl⟩:=rx;obtain⟨t',rfl⟩:=ry;exact PySem.P.le_str (jf I q rfl)
noncomputable def XX (z:Str) (lo hi:Option Int):Str:=⟨((z.cps.toList.drop (HT.sIx z.length 0 lo)).take (HT.sIx z.length z.length hi - HT.sIx z.length 0 lo)).toArray⟩
theorem Fb (lo hi:Option Int) (n:Nat):Mq lo hi 1 n=(qE (HT.sIx n n hi - HT.sIx n 0 lo)).map λk=>HT.sIx n 0 lo+k:=by
 have c:∀ v:Int,max 0 (min (if v < 0 then v+(n:Int) else v) (n:Int))=((HT.sIx n 0 (some v):Nat):Int)/\max 0 (min (if v < 0 then v+(n:Int) else v) (n:Int))=((HT.sIx n n (some v):Nat):Int):=λv=>by
  unfold HT.sIx;by_cases f:v < 0
  ·simp only[if_pos f];lia
  ·simp only[if_neg f];lia
 have e:∀ a b:Nat,W0 (a:Int) (b:Int) 1=(qE (b - a)).map λk=>a+k:=λa b=>by
  unfold W0;have g:(if (1:Int) > 0 then (if (a:Int) < (b:Int) then ((b:Int) - a+1 - 1) / 1 else 0) else (if (a:Int) > (b:Int) then ((a:Int) - b - 1 - 1) / (-1) else 0)).toNat=b - a:=by
   rw[if_pos (by decide)];by_cases h:(a:Int) < (b:Int)
   ·rw[if_pos h,CY];lia
   ·rw[if_neg h];lia
  dsimp only;rw[g];refine Qa λk _=>?_
  lia
 unfold Mq;cases lo with
 | none =>
  cases hi with
  | none=>exact e 0 n
  | some v =>
   simp only[show (1:Int) > 0 by decide,if_true];rw[(c v).2];exact e 0 _
 | some u =>
  cases hi with
  | none =>
   simp only[show (1:Int) > 0 by decide,if_true];rw[(c u).1];exact e _ n
  | some v =>
   simp only[show (1:Int) > 0 by decide,if_true];rw[(c u).1,(c v).2];exact e _ _
theorem Eg {c:Type} (xs:Array c) (a m:Nat):((qE m).map λk=>a+k).filterMap (xs[·]?)=(xs.toList.drop a).take m:=by
 rw[cg]
 induction m generalizing a with
 | zero=>simp
 | succ m e =>
  rw[Lh,List.filterMap_append,e,gJ]
  congr 1
  simp only[vz,List.filterMap_nil,wq];rw[IF,kG];cases xs[a+m]?<;>rfl
theorem nG (z:Str) (lo hi:Option Int):VX z lo hi=XX z lo hi:=by
 have f:=HT.u5 z.length 0 (ZV _) lo;have g:=HT.u5 z.length z.length (zo _) hi;unfold VX XX;rw[Fb,Eg];split
 ·rename_i h;rw[jS,aA] at h;have c:HT.sIx z.length z.length hi - HT.sIx z.length 0 lo=z.length:=by
   have h':=(Bool.and_eq_true_iff.mp h).2;exact eq_of_beq h'
  have e:HT.sIx z.length 0 lo=0:=by lia
  rw[c,e,J0];have i:z.cps.toList.length=z.length:=by simp[Wi]
  rw[kz (by lia)]
 ·rfl
noncomputable def ff:V->Option Int->Option Int->Hp->VK->Prop:=λx lo hi H Q=>∃ z,x=.str z/\z.length <= zg/\Q (.str (XX z lo hi)) H
theorem iF:SlR X ff:=by
 intro c s σ H x v y A lo hi B Q I rx hs pl m h;obtain⟨z,rfl,r,q⟩:=h;obtain⟨t,rfl⟩:=rx;refine⟨"str",_,F.slot_str_getitem.lookup,xi _ _ _,yD (n:=1) I.tk ?_⟩;obtain⟨o,e,f,hd⟩:=hs;have fin:(VX z lo hi).length <= zg/\∀ t' k,1 <= ({ s with toks:=k }:zJ).toks->EP X c σ Q (.str (VX z lo hi) t') { s with toks:=k } :=
  ⟨jM (Txt.slice_le z lo hi) r,λt' k w=>⟨.str (VX z lo hi),H,I.tok k w,⟨_,rfl⟩,by rw[nG];exact q⟩⟩
 cases pl with
 | none =>
  cases m with
  | none=>exact Va (l:=none) (u:=none) (st:=none) ⟨o,e,f,hd⟩ rfl (Y0 fin)
  | int j g=>exact Va (l:=none) (u:=some (j,g)) (st:=none) ⟨o,e,f,hd⟩ rfl (Y0 fin)
 | int i p =>
  cases m with
  | none=>exact Va (l:=some (i,p)) (u:=none) (st:=none) ⟨o,e,f,hd⟩ rfl (Y0 fin)
  | int j g=>exact Va (l:=some (i,p)) (u:=some (j,g)) (st:=none) ⟨o,e,f,hd⟩ rfl (Y0 fin)
theorem Y2 {ys:List Str}:∀ {us:List zD},zd (ys.map V.str) us->vf us ys:=by
 induction ys with
 | nil=>intro us r;rw[Jh] at r;cases r;exact .nil
 | cons y ys c =>
  intro us r;rw[jH] at r;cases r with
  | cons f g =>
   obtain⟨t,e⟩:=f;subst e;exact .cons y t (c g)
noncomputable def VE (K:PySem.W.Frag):V->List V->Hp->VK->Prop:=λx vs H Q=>∃ z p ys,x=.str z/\vs=[.ref p]/\(SqL K H p (ys.map V.str)\/SqT K H p (ys.map V.str))/\(ys.map (·.length)).sum+ys.length * z.length <= 16777216/\Q (.str (x6 z ys)) H
theorem bQ:MtR X "str.join" (VE X.K):=by
 intro f s σ H x vs v us Q I rx i h;obtain⟨z,p,ys,rfl,rfl,c,g,q⟩:=h;obtain⟨t,rfl⟩:=rx;obtain⟨u,rfl,j⟩:=yU i;cases j;rcases c with c | c
 ·obtain⟨its,r,pl,_⟩:=I.list c;exact yD (n:=1) I.tk (join_list pl.isList (by simpa using Y2 r) g λt' k e=>⟨.str (x6 z ys),H,I.tok k e,⟨_,rfl⟩,q⟩)
 ·obtain⟨its,r,pl,_⟩:=I.tuple c;exact yD (n:=1) I.tk (join_tuple pl (by simpa using Y2 r) g λt' k e=>⟨.str (x6 z ys),H,I.tok k e,⟨_,rfl⟩,q⟩)
theorem BC:∀ (l:List (Str×Tok)),zd ((l.map (·.1)).map V.str) (YS l)
 | []=>.nil
 | (x,t)::r=>.cons ⟨t,rfl⟩ (BC r)
noncomputable def dz:V->List V->Hp->VK->Prop:=λx vs H Q=>∃ z y,x=.str z/\vs=[.str y]/\(y.length == 0)=false/\z.length+2 <= zg/\∀ p,H p=none->Q (.ref p) (upd H p (.lst ((xq z y).map V.str)))
end
end L2
namespace L2
open PySem PySem.Spec PyProof.Rows PySem.Builtin.Str
section
variable {X:Cx}
theorem Dx:MtR X "str.split" dz:=by
 intro f s σ H x vs v us Q I rx A h;obtain⟨z,y,rfl,rfl,m,E,q⟩:=h;obtain⟨t,rfl⟩:=rx;obtain⟨u,rfl,i,rfl⟩:=yU A;have o:(C0 z (U6 z y 0 z.length (z.length+1)) y.length).length <= zg:=by
  have G:=StrLaws.occ_length_le z y 0 z.length (z.length+1);rw[length_partsBetween];lia
 have fin:∀ (l:List (Str×Tok)) (k:Nat),l.map (·.1)=xq z y->l.length <= zg->1 <= k->EP X f σ Q (.ref s.heap.objs.size) { s with heap:=s.heap.push { cls:=.type "list",data:=.seq (YS l).toArray },toks:=k }:=λl k e B C=>by
  have p:=BC l;rw[e] at p;have j:((xq z y).map V.str).length <= zg:=by rw[jS,<- e,jS];exact B
  exact⟨.ref s.heap.objs.size,_,I.lnew p j C,rfl,q _ I.fresh⟩
 refine yD (n:=1) I.tk ?_;cases c:(decide (z.length < y.length) || decide (strKind z < strKind y))
 ·cases g:(U6 z y 0 z.length (z.length+1)).isEmpty
  ·refine XS F.slot_str_split (xi _ _ _) F.entry_str_split (F.args_str_split_2 _ _) (meets_str_split_sep z y t i c m g (by lia) o) ?_;show wants _ _ _ { s with toks:=_,heap:=s.heap.push { cls:=.type "list",data:=.seq (strsFrom s.toks (C0 z (U6 z y 0 z.length (z.length+1)) y.length)).toArray } };rw[strsFrom_eq];have r:=(numbered_texts s.toks (C0 z (U6 z y 0 z.length (z.length+1)) y.length))
   refine fin (numbered s.toks _) _ (r.trans ((if_neg (ne_true_of_eq_false c)).trans (if_neg (ne_true_of_eq_false g))).symm) ?_;have w:=congrArg ZT r;rw[jS] at w;rw[w];exact o
  ·exact XS F.slot_str_split (xi _ _ _) F.entry_str_split (F.args_str_split_2 _ _) (meets_str_split_not_found z y t i c m g)
    (fin [(z,t)] s.toks ((if_neg (ne_true_of_eq_false c)).trans (if_pos g)).symm (by show 1 <= zg;decide))
 ·exact XS F.slot_str_split (xi _ _ _) F.entry_str_split (F.args_str_split_2 _ _) (meets_str_split_cannot_occur z y t i c)
   (fin [(z,t)] s.toks (if_pos c).symm (by show 1 <= zg;decide))
theorem gW:OpR X (qy .Mult) (λx y H Q=>∃ z n,x=.str z/\y=.int n/\MulOk z n/\Q (.str (vj z n)) H):=by
 intro c s σ H x y v u Q I rx ry h;obtain⟨z,n,rfl,rfl,hm,q⟩:=h;obtain⟨t,rfl⟩:=rx;obtain⟨t',rfl⟩:=ry;exact yD (n:=1) I.tk (SB.mul hm λt' k e=>⟨.str _,H,I.tok k e,⟨_,rfl⟩,q⟩)
theorem EN {bs:List Bool}:∀ {us:List zD},zd (bs.map V.bl) us->us=bs.map Jo:=by
 induction bs with
 | nil=>intro us r;rw[Jh] at r;cases r;rfl
 | cons b bs c =>
  intro us r;rw[jH] at r;cases r with
  | cons e f=>rw[c f];cases e;rfl
theorem mv (bs:List Bool):((qE bs.length).all λi=>bs.getD i false)=bs.all id:=by
 induction bs with
 | nil=>rfl
 | cons b bs c =>
  rw[zx,GS,JE,cu,JE,<- c];rfl
noncomputable def BH (K:PySem.W.Frag):List V->Hp->VK->Prop:=λxs H Q=>∃ (p:zE) (bs:List Bool),xs=[.ref p]/\SqL K H p (bs.map V.bl)/\Q (.bl (bs.all id)) H
theorem Uv (w:X.calm=true):jq X (.builtin "all") (BH X.K):=by
 intro t s σ H xs us Q I r h;obtain⟨p,bs,rfl,x,q⟩:=h;obtain⟨u,rfl,y⟩:=yU r;cases y;obtain⟨its,z,pl,J⟩:=I.list x;have e:=EN z;subst e;obtain⟨o,B,C⟩:=pl.isList;have f:p < s.heap.objs.size:=jR B;refine yD (n:=1) I.tk (call_all_walk (uP pl.isList ?_));refine⟨s.heap.objs.size,_,_,_,_,_,λi=>bs.getD i false,rfl,bq (show X.A.in1.handled=none from I.ok.hd w) s.heap.objs.size p (je f) (bs.map Jo).toArray,⟨⟨_,qi _ rfl,rfl,rfl⟩,pl.isList.push _⟩,?_,λh' tk E g=>?_⟩
 ·intro i v L M N G j;have c:(bs.map Jo)[i]? = some v:=by simpa using G
  rw[yB] at c;cases l:bs[i]? with
  | none=>rw[l] at c;cases c
  | some b =>
   rw[l] at c;cases c;have e:bs.getD i false=b:=by simp[List.getD,l]
   dsimp only at j;rw[e] at j;exact xU j
 ·have m:∀ b o,s.heap.get? b=some o->h'.get? b=some o:=λb o e=>E b o (by simpa using je (jR e)) (ji _ e);refine⟨.bl (bs.all id),H,I.kept m g,?_,q⟩;show Jo _=Jo _;rw[<- mv];simp
end
mutual
inductive qS (K:PySem.W.Frag) (H:Hp):V->QT->Prop
 | non:qS K H .non .none
 | bl (b:Bool):qS K H (.bl b) (.bool b)
 | int (i:Int):qS K H (.int i) (.int i)
 | str (x:Str):qS K H (.str x) (.str x)
 | lst {p:zE}{xs:List V}{ds:List QT}:SqL K H p xs->Zt K H xs ds->qS K H (.ref p) (.list ds)
 | tup {p:zE}{xs:List V}{ds:List QT}:SqT K H p xs->Zt K H xs ds->qS K H (.ref p) (.tuple ds)
inductive Zt (K:PySem.W.Frag) (H:Hp):List V->List QT->Prop
 | nil:Zt K H [] []
 | cons {v:V}{d:QT}{vs:List V}{ds:List QT}:qS K H v d->Zt K H vs ds->Zt K H (v::vs) (d::ds)
end
section
variable {X:Cx}{pins:List (zE×Obj)}{σ:St}{H:Hp}{s:zJ}
mutual
theorem qS.reads (I:Inv X pins σ H s):∀ {v:V}{d:QT}{u:zD},qS X.K H v d->zj v u->∃ as,Reads s.heap u d as
 | _,_,_,.non,r=>by cases r;exact⟨_,.none⟩
 | _,_,_,.bl b,r=>by cases r;exact⟨_,.bool b⟩
 | _,_,_,.int i,r=>by obtain⟨t,rfl⟩:=r;exact⟨_,.int i t⟩
 | _,_,_,.str x,r=>by obtain⟨t,rfl⟩:=r;exact⟨_,.str x t⟩
 | _,_,_,.lst c ha,r=>by
  cases r;obtain⟨its,f,⟨o,n,e,g,hd,hs⟩,_⟩:=I.list c;obtain⟨as,h⟩:=Zt.reads I ha f;exact⟨_,.list e g hs (by simpa using h)⟩
 | _,_,_,.tup c ha,r=>by
  cases r;obtain⟨its,f,⟨o,e,g,n,hs⟩,_⟩:=I.tuple c;obtain⟨as,h⟩:=Zt.reads I ha f;exact⟨_,.tuple e g hs (by simpa using h)⟩
theorem Zt.reads (I:Inv X pins σ H s):∀ {vs:List V}{ds:List QT}{us:List zD},Zt X.K H vs ds->zd vs us->∃ as,ReadsAll s.heap us ds as
 | _,_,_,.nil,r=>by cases r;exact⟨_,.nil⟩
 | _,_,_,.cons h t,r=>by
  cases r with
  | cons c e =>
   obtain⟨as,f⟩:=qS.reads I h c;obtain⟨bs,g⟩:=Zt.reads I t e;exact⟨_,.cons f g⟩
end
end
section
variable {X:Cx}
def wj (K:PySem.W.Frag) (neg:Bool):R2:=λx y H Q=>∃ d e,qS K H x d/\qS K H y e/\ZS d=true/\ZS e=true/\Q (.bl (if neg then !Ju d e else Ju d e)) H
theorem F5 {k:Nat} (f:z4 k X.A):OpR X (jY .Eq) (wj X.K false):=by
 intro c s σ H x y v u Q I rx ry h;obtain⟨d,e,hd,g,i,j,q⟩:=h;obtain⟨as,l⟩:=hd.reads I rx;obtain⟨bs,m⟩:=g.reads I ry;exact eq_dataH l m i j f.units ⟨.bl _,H,I,rfl,q⟩
theorem hH {k:Nat} (i:z4 k X.A):OpR X (jY .NotEq) (wj X.K true):=by
 intro f s σ H x y v u Q I rx ry h;obtain⟨d,e,hd,j,l,m,q⟩:=h;obtain⟨as,o⟩:=hd.reads I rx;obtain⟨bs,p⟩:=j.reads I ry;exact ne_dataH o p l m i.units ⟨.bl _,H,I,rfl,q⟩
where RelC:V->zD->Prop:=λc g=>(∃ n,c=.ty n/\g=.type n)\/∃ a,c=.ref a/\g=.ref a
end
end L2
namespace L2
open PySem PySem.Spec PyProof.Rows
section
variable {X:Cx}
def wQ:R2:=λx y H Q=>match x,y with
 | .int i,.int j=>Q (.int (i+j)) H
 | .str a,.str b=>a.length+b.length <= zg/\Q (.str (a++b)) H
 | .ref l,.ref b=>∃ xs c,H l=some (.lst xs)/\H b=some (.lst c)/\xs.length+c.length <= zg/\∀ p,H p=none->Q (.ref p) (upd H p (.lst (xs++c)))
 | _,_=>False
theorem vp:OpR X (qy .Add) wQ:=by
 intro c s σ H x y v u Q I rx ry h;cases x with
 | int i =>
  cases y with
  | int j=>exact Gy c s σ H _ _ v u Q I rx ry ⟨i,j,rfl,rfl,h⟩
  | _=>exact jF h
 | str a =>
  cases y with
  | str b=>exact G6 c s σ H _ _ v u Q I rx ry ⟨a,b,rfl,rfl,h⟩
  | _=>exact jF h
 | ref l =>
  cases y with
  | ref b =>
   obtain⟨xs,e,f,g,m,n⟩:=h;exact FJ c s σ H _ _ v u Q I rx ry ⟨l,b,xs,e,rfl,rfl,f,g,m,n⟩
  | _=>exact jF h
 | _=>exact jF h
def aB:R2:=λx y H Q=>match x,y with
 | .int i,.int j=>Q (.int (i - j)) H
 | _,_=>False
theorem HY:OpR X (qy .Sub) aB:=by
 intro c s σ H x y v u Q I rx ry h;cases x with
 | int i =>
  cases y with
  | int j=>exact Mv c s σ H _ _ v u Q I rx ry ⟨i,j,rfl,rfl,h⟩
  | _=>exact jF h
 | _=>exact jF h
def aU:R2:=λx y H Q=>match x,y with
 | .int i,.int j=>vh i j/\Q (.int (i * j)) H
 | .str z,.int n=>MulOk z n/\Q (.str (vj z n)) H
 | _,_=>False
theorem fI:OpR X (qy .Mult) aU:=by
 intro c s σ H x y v u Q I rx ry h;cases x with
 | int i =>
  cases y with
  | int j=>exact GJ c s σ H _ _ v u Q I rx ry ⟨i,j,rfl,rfl,h⟩
  | _=>exact jF h
 | str z =>
  cases y with
  | int n=>exact gW c s σ H _ _ v u Q I rx ry ⟨z,n,rfl,rfl,h⟩
  | _=>exact jF h
 | _=>exact jF h
def aG:R2:=λx y H Q=>match x,y with
 | .int i,.int j=>0 < j/\Q (.int (i % j)) H
 | _,_=>False
theorem FX:OpR X (qy .Mod) aG:=by
 intro c s σ H x y v u Q I rx ry h;cases x with
 | int i =>
  cases y with
  | int j=>exact nW c s σ H _ _ v u Q I rx ry ⟨i,j,rfl,rfl,h⟩
  | _=>exact jF h
 | _=>exact jF h
def ck:R2:=λx y H Q=>match x,y with
 | .int i,.int j=>(0 < j/\j < 1073741824)/\Q (.int (i / j)) H
 | _,_=>False
theorem Lj:OpR X (qy .FloorDiv) ck:=by
 intro c s σ H x y v u Q I rx ry h;cases x with
 | int i =>
  cases y with
  | int j=>exact LA c s σ H _ _ v u Q I rx ry ⟨i,j,rfl,rfl,h⟩
  | _=>exact jF h
 | _=>exact jF h
def uLt:R2:=λx y H Q=>match x,y with
 | .int i,.int j=>Q (.bl (decide (i < j))) H
 | .str i,.str j=>Q (.bl (decide (i.cps.toList < j.cps.toList))) H
 | _,_=>False
theorem Hh:OpR X (jY .Lt) uLt:=by
 intro c s σ H x y v u Q I rx ry h;cases x with
 | int i =>
  cases y with
  | int j=>exact Dn c s σ H _ _ v u Q I rx ry ⟨i,j,rfl,rfl,h⟩
  | _=>exact jF h
 | str i =>
  cases y with
  | str j=>exact nU c s σ H _ _ v u Q I rx ry ⟨i,j,rfl,rfl,h⟩
  | _=>exact jF h
 | _=>exact jF h
def uLe:R2:=λx y H Q=>match x,y with
 | .int i,.int j=>Q (.bl (decide (i <= j))) H
 | .str i,.str j=>Q (.bl (!decide (j.cps.toList < i.cps.toList))) H
 | _,_=>False
theorem xT:OpR X (jY .LtE) uLe:=by
 intro c s σ H x y v u Q I rx ry h;cases x with
 | int i =>
  cases y with
  | int j=>exact m8 c s σ H _ _ v u Q I rx ry ⟨i,j,rfl,rfl,h⟩
  | _=>exact jF h
 | str i =>
  cases y with
  | str j=>exact G3 c s σ H _ _ v u Q I rx ry ⟨i,j,rfl,rfl,h⟩
  | _=>exact jF h
 | _=>exact jF h
def uGt:R2:=λx y H Q=>match x,y with
 | .int i,.int j=>Q (.bl (decide (j < i))) H
 | _,_=>False
theorem WH:OpR X (jY .Gt) uGt:=by
 intro c s σ H x y v u Q I rx ry h;cases x with
 | int i =>
  cases y with
  | int j=>exact hP c s σ H _ _ v u Q I rx ry ⟨i,j,rfl,rfl,h⟩
  | _=>exact jF h
 | _=>exact jF h
def uIn (K:PySem.W.Frag) (neg:Bool):R2:=λx y H Q=>match x,y with
 | .str i,.str j=>Q (.bl (xor neg (!(xk j i 0 j.length 1).isEmpty))) H
 | x,.ref p=>∃ xs,(SqL K H p xs\/SqT K H p xs)/\yO x=true/\xs.all yO=true/\Q (.bl (xor neg (inV x xs))) H
 | _,_=>False
theorem Fn:OpR X (jY .In) (uIn X.K false):=by
 intro c s σ H x y v u Q I rx ry h;cases y with
 | str j =>
  cases x with
  | str i =>
   have h':Q (.bl (xor false (!(xk j i 0 j.length 1).isEmpty))) H:=h;rw[UK] at h';exact fy c s σ H _ _ v u Q I rx ry ⟨i,j,rfl,rfl,h'⟩
  | _=>exact jF h
 | ref p =>
  have h':∃ xs,(SqL X.K H p xs\/SqT X.K H p xs)/\yO x=true/\xs.all yO=true/\Q (.bl (xor false (inV x xs))) H:=by cases x<;>exact h
  obtain⟨xs,f,g,l,e⟩:=h';rw[UK] at e;exact Ha c s σ H _ _ v u Q I rx ry ⟨p,xs,rfl,f,g,l,e⟩
 | _=>cases x<;>exact jF h
theorem nR:OpR X (jY .NotIn) (uIn X.K true):=by
 intro c s σ H x y v u Q I rx ry h;cases y with
 | str j =>
  cases x with
  | str i =>
   have h':Q (.bl (xor true (!(xk j i 0 j.length 1).isEmpty))) H:=h;rw[u2] at h';exact LG c s σ H _ _ v u Q I rx ry ⟨i,j,rfl,rfl,h'⟩
  | _=>exact jF h
 | ref p =>
  have h':∃ xs,(SqL X.K H p xs\/SqT X.K H p xs)/\yO x=true/\xs.all yO=true/\Q (.bl (xor true (inV x xs))) H:=by cases x<;>exact h
  obtain⟨xs,f,g,l,e⟩:=h';rw[u2] at e;exact Li c s σ H _ _ v u Q I rx ry ⟨p,xs,rfl,f,g,l,e⟩
 | _=>cases x<;>exact jF h
def uIx (K:PySem.W.Frag):R2:=λx y H Q=>match x,y with
 | .str z,.int i=>∃ c,z.length <= zg/\atI z.cps.toList i=some c/\Q (.str ⟨#[c]⟩) H
 | .ref p,.int i=>∃ xs v,(SqL K H p xs\/SqT K H p xs)/\atI xs i=some v/\Q v H
 | _,_=>False
theorem iB:IxR X (uIx X.K):=by
 intro e f g s σ H x y v u Q I rx ry h hs;cases x with
 | str z =>
  cases y with
  | int i =>
   obtain⟨c,j,l,m⟩:=h;exact MX e f g s σ H _ _ v u Q I rx ry ⟨z,i,c,rfl,rfl,j,l,m⟩ hs
  | _=>exact jF h
 | ref p =>
  cases y with
  | int i =>
   obtain⟨xs,c,j | j,l,m⟩:=h
   ·exact Gh e f g s σ H _ _ v u Q I rx ry ⟨p,xs,i,c,rfl,rfl,j,l,m⟩ hs
   ·exact fL e f g s σ H _ _ v u Q I rx ry ⟨p,xs,i,c,rfl,rfl,j,l,m⟩ hs
  | _=>exact jF h
 | _=>exact jF h
noncomputable def uSl (K:PySem.W.Frag):V->Option Int->Option Int->Hp->VK->Prop:=λx lo hi H Q=>match x with
 | .str z=>z.length <= zg/\Q (.str (XX z lo hi)) H
 | .ref a=>(∃ xs,SqL K H a xs/\∀ p,H p=none->Q (.ref p) (upd H p (.lst (QY xs lo hi)))) \/
   (∃ xs,SqT K H a xs /\ ¬ (HT.sIx xs.length 0 lo=0/\HT.sIx xs.length xs.length hi=xs.length)/\∀ p,H p=none->Q (.ref p) (upd H p (.tup (QY xs lo hi))))
 | _=>False
theorem IK:SlR X (uSl X.K):=by
 intro c s σ H x v e f lo hi g Q I rx hs pl i h;cases x with
 | str z=>exact iF c s σ H _ v e f lo hi g Q I rx hs pl i ⟨z,rfl,h⟩
 | ref a =>
  rcases h with ⟨xs,j,l⟩ | ⟨xs,j,l,m⟩
  ·exact gI c s σ H _ v e f lo hi g Q I rx hs pl i ⟨a,xs,rfl,j,l⟩
  ·exact L6 c s σ H _ v e f lo hi g Q I rx hs pl i ⟨a,xs,rfl,j,l,m⟩
 | _=>exact jF h
noncomputable def B4 (K:PySem.W.Frag):List V->Hp->VK->Prop:=λxs H Q=>match xs with
 | [.str z]=>z.length <= zg/\Q (.int z.length) H
 | [.ref p]=>∃ ys,(SqL K H p ys\/SqT K H p ys)/\Q (.int ys.length) H
 | _=>False
theorem EY:jq X (.builtin "len") (B4 X.K):=by
 intro c s σ H xs us Q I r h;cases xs with
 | nil=>exact jF h
 | cons x xs =>
  cases xs with
  | cons _ _=>cases x<;>exact jF h
  | nil =>
   cases x with
   | str z=>exact FQ c s σ H _ us Q I r ⟨z,rfl,h⟩
   | ref p =>
    obtain⟨ys,e,f⟩:=h;exact E5 c s σ H _ us Q I r ⟨p,ys,rfl,e,f⟩
   | _=>exact jF h
theorem gg:PIp X .Add (λx y H Q=>match x,y with | .int i,.int j=>Q (.int (i+j)) H | .str a,.str b=>a.length+b.length <= zg/\Q (.str (a++b)) H | _,_=>False):=by
 intro c s σ H x y v u Q I rx ry h;cases x with
 | int i =>
  cases y with
  | int j=>exact L7 c s σ H _ _ v u Q I rx ry ⟨i,j,rfl,rfl,h⟩
  | _=>exact jF h
 | str a =>
  cases y with
  | str b=>exact fC c s σ H _ _ v u Q I rx ry ⟨a,b,rfl,rfl,h⟩
  | _=>exact jF h
 | _=>exact jF h
end
theorem UY:qk "len" = some (.builtin "len"):=by decide +kernel
theorem Ut:qk "all" = some (.builtin "all"):=by decide +kernel
theorem BK:qk "isinstance" = some (.builtin "isinstance"):=by decide +kernel
theorem WB:qk "str" = some (.type "str"):=by decide +kernel
theorem Mi:qk "int" = some (.type "int"):=by decide +kernel
theorem Gp:qk "list" = some (.type "list"):=by decide +kernel
theorem AH:qk "tuple" = some (.type "tuple"):=by decide +kernel
theorem Mz:qk "dict" = some (.type "dict"):=by decide +kernel
structure Has (P:jB) (w:jG) (K:PySem.W.Frag) (mg:Str->Option zD) (base:zi) (x:Str) (k:Nat) (ps:List Str) (sp:Sp):Prop where
 ex:∃ f fd,zm P w K mg base CX0 k f fd ps sp/\yH K fd ps []/\PySem.W.keepIn K (.ref f)=true/\mg x=some (.ref f)
section
variable {X:Cx}{k kk:Nat}{x:Str}{ps:List Str}{sp:Sp}{e:zV}{es:List zV}{t:TA}{p pos:Pos}
theorem ic (h:Has X.prog X.w X.K X.mg X.base x k ps sp) (i:z4 kk X.A) (j:k <= kk) (l:Gl X x) (ha:PA X (e::es) t) (n:Zq CX0 X E0:=by exact Xz) (c:(x == ("__debug__" : Str))=false:=by decide)
  (o:jK (e::es) X.env=(false,zr e X.env)::jK es X.env:=by rfl) (g:(qX pos (jK es X.env)).any (·.1)=false:=by rfl) :
  PE X (.Call (.Name x p) (e::es) [] pos) (DF sp [] E0 t):=by
 obtain⟨f,fd,F,b,kp,m⟩:=h.ex;exact gd F (i.mono j) l m kp b .nil n ha c o g
structure Zv (mg:Str->Option zD) (x:Str) (v:V):Prop where
 ex:∃ u,mg x=some u/\zj v u
theorem dR (h:Zv X.mg x v) (c:Gl X x) (hd:(x == ("__debug__" : Str))=false:=by decide):PE X (.Name x pos) (tC v):=by
 obtain⟨u,m,r⟩:=h.ex;exact LK c m r hd
end
noncomputable def kA:V->zD->Bool
 | .non,.none=>true
 | .bl a,.bool b=>a == b
 | .int i,.int j _=>i == j
 | .str x,.str y _=>x == y
 | _,_=>false
theorem Vk (h:kA v u=true):zj v u:=by
 cases v<;>cases u<;>first | exact (qF h).elim | rfl | (have e:=eq_of_beq h;subst e;first | rfl | exact⟨_,rfl⟩)
noncomputable def vT:List V->List zD->Bool
 | [],[]=>true
 | v::vs,u::us=>kA v u && vT vs us
 | _,_=>false
theorem uI:∀ {vs:List V}{us:List zD},vT vs us=true->zd vs us
 | [],us,h=>by
  cases us with
  | nil=>exact .nil
  | cons u us=>exact (qF h).elim
 | v::vs,us,h=>by
  cases us with
  | nil=>exact (qF h).elim
  | cons u us =>
   have h':(kA v u && vT vs us)=true:=h;rw[j8] at h';exact .cons (Vk h'.1) (uI h'.2)
theorem gD {K:PySem.W.Frag}{a:zE}{d:Option zE}{its:Array zD}{n:Nat}{c:Array (Option zD)} (h:K.lookup a=some ⟨.type "tuple",d,.seq its n,c⟩) (r:vT xs its.toList=true) (f:xs.length <= zg:=by decide):SqT K H a xs:=by
 have e:=(uI r).length;have g:its.toList.length=its.size:=by simp
 exact .inr ⟨_,its,n,h,rfl,rfl,by lia,uI r⟩
theorem Jx {K:PySem.W.Frag}{b:Bool} (h:(if (JC A == JC B)=true then some true else if PySem.W.kitMeta B=true then (PySem.fastBuiltinMro A).map (·.contains (JC B)) else none)=some b):PySem.W.kitOne K (.type A) (.type B)=some b:=h
end L2
namespace TX
open PySem
noncomputable def qY (c:Nat):List Nat->List (List Nat)
 | []=>[[]]
 | d::r=>if d=c then []::qY c r else match qY c r with
  | []=>[[d]]
  | p::ps=>(d::p)::ps
noncomputable def Qw (c:Nat):List (List Nat)->List Nat
 | []=>[]
 | [p]=>p
 | p::q::r=>p++c::Qw c (q::r)
theorem ni (c:Nat) (l:List Nat):qY c l≠[]:=by
 cases l with
 | nil=>simp[qY]
 | cons d r =>
  unfold qY;split
  ·simp
  ·split<;>simp
theorem cC (c:Nat):∀ p:List Nat,c∉p->qY c p=[p]
 | [],_=>rfl
 | d::r,h=>by
  have hd:d≠c:=λe=>h (by simp[e]);have f:c∉r:=λe=>h (jh _ e);unfold qY;rw[if_neg hd,cC c r f]
theorem AL (c:Nat):∀ (p r:List Nat),c∉p->qY c (p++c::r)=p::qY c r
 | [],r,_=>by
  show qY c (c::r)=_;unfold qY;rw[if_pos rfl];cases r<;>rfl
 | d::q,r,h=>by
  have hd:d≠c:=λe=>h (by simp[e]);have f:c∉q:=λe=>h (jh _ e);show qY c (d::(q++c::r))=_
  conv=>lhs;unfold qY
  rw[if_neg hd,AL c q r f]
theorem AU (c:Nat):∀ ps:List (List Nat),ps≠[]->(∀ p∈ps,c∉p)->qY c (Qw c ps)=ps
 | [],h,_=>absurd rfl h
 | [p],_,h=>cC c p (h p (by simp))
 | p::q::r,_,h=>by
  show qY c (p++c::Qw c (q::r))=_;rw[AL c p _ (h p (by simp)),AU c (q::r) (by simp) λx e=>h x (jh _ e)]
theorem Yf (c:Nat):∀ ps:List Str,(B1 ⟨#[c]⟩ ps).cps.toList=Qw c (ps.map λp=>p.cps.toList)
 | []=>rfl
 | [p]=>rfl
 | p::q::r=>by
  have e:=Yf c (q::r);show (p++(⟨#[c]⟩:Str)++B1 ⟨#[c]⟩ (q::r)).cps.toList=p.cps.toList++c::Qw c ((q::r).map λp=>p.cps.toList);rw[<- e];show (p.cps ++ #[c]++(B1 ⟨#[c]⟩ (q::r)).cps).toList=_;simp
theorem Mx (x:Str) (c:Nat):xq x ⟨#[c]⟩≠[]:=by
 unfold xq;split
 ·simp
 ·split
  ·simp
  ·rw[StrLaws.partsBetween_eq];obtain⟨p,r,e⟩:=StrLaws.partsFrom_ne x (⟨#[c]⟩:Str).length 0 (xk x ⟨#[c]⟩ 0 x.length (x.length+1));rw[e];simp
theorem lB (x:Str) (c:Nat):(xq x ⟨#[c]⟩).map (λp=>p.cps.toList)=qY c x.cps.toList:=by
 have g:=mn x ⟨#[c]⟩;have f:=Yf c (xq x ⟨#[c]⟩);rw[g] at f;rw[f,AU]
 ·intro e;exact Mx x c (List.map_eq_nil_iff.mp e)
 ·intro p h;obtain⟨q,i,rfl⟩:=List.mem_map.mp h;exact eH x c q i
noncomputable def ofL (l:List Nat):Str:=⟨l.toArray⟩
theorem eR (x:Str):ofL x.cps.toList=x:=by
 cases x;simp[ofL]
theorem mP (x:Str) (c:Nat):xq x ⟨#[c]⟩=(qY c x.cps.toList).map ofL:=by
 rw[<- lB,ZR];have:(ofL ∘ λp:Str=>p.cps.toList)=id:=by
  funext p;exact eR p
 rw[this,ZN]
theorem dg (c d:Nat):∀ ps:List (List Nat),(∀ p∈ps,c∉p)->Qw d ps=(Qw c ps).map λx=>if x=c then d else x
 | [],_=>rfl
 | [p],h=>by
  show p=p.map _;have g:=h p (by simp)
  conv=>lhs;rw[<- ZN p]
  refine Qa λx f=>?_;have:x≠c:=λe=>g (e ▸ f);simp[this]
 | p::q::r,h=>by
  show p++d::Qw d (q::r)=(p++c::Qw c (q::r)).map _;rw[vi,jH,dg c d (q::r) λx f=>h x (jh _ f)];have g:=h p (by simp);have e:p.map (λx=>if x=c then d else x)=p:=by
   conv=>rhs;rw[<- ZN p]
   refine Qa λx f=>?_;have:x≠c:=λe=>g (e ▸ f);simp[this]
  rw[e];simp
theorem Hd (x:Str) (c d:Nat):(YL x ⟨#[c]⟩ ⟨#[d]⟩).cps.toList=x.cps.toList.map λy=>if y=c then d else y:=by
 rw[StrLaws.replace_one,Yf,dg c d]
 ·rw[<- Yf,mn]
 ·intro p e;obtain⟨q,f,rfl⟩:=List.mem_map.mp e;exact eH x c q f
end TX
namespace TX
open PySem
noncomputable def sp (y:Nat):Nat:=if y=10 then 32 else y
end TX
namespace TS
open PySem PyProof.Rows
variable {prog:jB}{w:jG}{A:jc}{E:zD->zJ->Prop}{s:zJ}{zR:Array zL}{κ:KeyKind}
structure SG (zR:Array zL) (st:zT):Prop where
 pm:(zM st).Perm zR
 kd:kindOf st=qT
 fl:Qi st=none
theorem SG.sz {st:zT} (h:SG zR st):(zM st).size=zR.size:=h.pm.size_eq
theorem SG.arr {st:zT} (h:SG zR st) {xs:Array zL} (p:xs.Perm (zM st)):SG zR (setArr st xs):=⟨p.trans h.pm,h.kd,h.fl⟩
theorem SG.item {st:zT} (h:SG zR st) (f:KeysOf κ zR) {i:Nat} (hi:i < zR.size):∃ x p a,(zM st)[i]? = some (x,p)/\κ.keyOf x=some a/\KK κ (zM st) i=a:=by
 have c:i < (zM st).size:=by rw[h.sz];exact hi
 have hm:(zM st)[i]∈zR.toList:=(Array.perm_iff_toList_perm.mp h.pm).mem_iff.mp (by simp);obtain⟨a,ha⟩:=f _ hm;have e:(zM st)[i]? = some ((zM st)[i].1,(zM st)[i].2):=getElem?_pos _ i c;exact⟨_,_,a,e,ha,by unfold KK;rw[e];show (κ.keyOf (zM st)[i].1).getD κ.dflt=a;rw[ha];rfl⟩
theorem vL {st:zT}{i j:Nat}{Q:Option Bool->zT->Prop} (e:κ.OneLt) (c:KeysOf κ zR) (g:SG zR st) (hi:i < zR.size) (f:j < zR.size) (h:Q (some (κ.blt (KK κ (zM st) i) (KK κ (zM st) j))) st):wpS (zP prog w) A E s (ltAt' i j) Q st:=by
 obtain⟨x,p,a,l,m,n⟩:=g.item c hi;obtain⟨y,q,b,o,r,t⟩:=g.item c f;rw[n,t] at h;exact wpS_ltAtK e g.kd l o m r h
def Ri (κ:KeyKind) (xs:Array zL) (lo k:Nat):Prop:=∀ i j,i <= j->j < k->κ.kle (KK κ xs (lo+i)) (KK κ xs (lo+j))
structure ju (zR:Array zL) (lo hi:Nat) (st st':zT):Prop where
 ok:SG zR st'
 out:∀ k,k < lo\/hi <= k->(zM st')[k]? = (zM st)[k]?
 pd:jQ st'=jQ st
theorem ju.refl {lo hi:Nat}{st:zT} (g:SG zR st):ju zR lo hi st st:=⟨g,λ_ _=>rfl,rfl⟩
theorem ju.trans {lo hi:Nat}{st e c:zT} (h:ju zR lo hi st e) (k:ju zR lo hi e c):ju zR lo hi st c:=⟨k.ok,λi hi=>(k.out i hi).trans (h.out i hi),k.pd.trans h.pd⟩
theorem Lg {st:zT}{lo n ok:Nat}{Q:Bool->zT->Prop} (G:κ.OneLt) (H:KeysOf κ zR) (hn:lo+n <= zR.size) (hok:ok <= n) (g:SG zR st) (hs:Ri κ (zM st) lo ok)
  (h:∀ m,ju zR lo (lo+n) st m->Ri κ (zM m) lo n->Q true m):wpS (zP prog w) A E s (binarySort' lo n ok) Q st:=by
 rw[binarySort'_eq];refine za (yF (yc (I:=λk c t=>c=(none,())/\ju zR lo (lo+n) st t/\Ri κ (zM t) lo (min k n))
  (Q:=λc t=>c=(none,())/\ju zR lo (lo+n) st t/\Ri κ (zM t) lo n) (λk c t J L ⟨e,kp,f⟩=>?step) (λc t ⟨e,kp,f⟩=>⟨e,kp,?fin⟩) ⟨rfl,ju.refl g,λi j p M=>?ini⟩) λc t ⟨e,kp,f⟩=>?post)
 case step =>
  subst e;rw[show min k n=k by lia] at f;have kl:lo+k < zR.size:=by lia
  refine za (yF (yc (I:=λx c u=>u=t/\∃ l r,c=(none,l,r)/\l <= r/\r <= k/\r - l <= k - x/\(∀ i,i < l->κ.kle (KK κ (zM t) (lo+i)) (KK κ (zM t) (lo+k)))/\(∀ i,r <= i->i < k->κ.klt (KK κ (zM t) (lo+k)) (KK κ (zM t) (lo+i))))
   (Q:=λc u=>u=t/\∃ l r,c=(none,l,r)/\l <= k/\(∀ i,i < l->κ.kle (KK κ (zM t) (lo+i)) (KK κ (zM t) (lo+k)))/\(∀ i,l <= i->i < k->κ.klt (KK κ (zM t) (lo+k)) (KK κ (zM t) (lo+i))))
   (λx c u _ hx ⟨eu,l,r,e,v,o,B,y,z⟩=>?st2) (λc u ⟨eu,l,r,e,v,o,B,y,z⟩=>?fi2) ⟨rfl,0,k,rfl,by lia,by lia,by lia,λi hi=>by lia,λi v o=>by lia⟩) λc u ⟨eu,l,r,e,v,o,B⟩=>?po2)
  case st2 =>
   subst eu e;dsimp only;by_cases q:l ≥ r
   ·rw[if_pos q];obtain rfl:l=r:=by lia
    exact wpS_pure ⟨rfl,l,l,rfl,o,y,z⟩
   ·rw[if_neg q];refine za (vL G H kp.ok kl (by lia) ?_);cases C:κ.blt (KK κ (zM u) (lo+k)) (KK κ (zM u) (lo+(l+r) / 2)) with
    | true =>
     simp only[if_true];exact wpS_pure ⟨rfl,l,(l+r) / 2,rfl,by lia,by lia,by lia,y,λi a b=>KeyOrd.klt_of_klt_of_kle C (f _ _ a b)⟩
    | false =>
     simp only[jv,if_false];exact wpS_pure ⟨rfl,(l+r) / 2+1,r,rfl,by lia,by lia,by lia,λi a=>yN (f i ((l+r) / 2) (by lia) (by lia)) (show κ.kle _ _ from C),z⟩
  case fi2 =>
   subst eu e;obtain rfl:l=r:=by lia
   exact⟨rfl,l,l,rfl,o,y,z⟩
  case po2 =>
   subst eu e;show wpS _ _ _ _ (do moveDown' (lo+k) (lo+l);pure (kr (none,()))) _ _;rw[moveDown'_eq];have ks:lo+k < (zM u).size:=by rw[kp.ok.sz];exact kl
   refine za (JP (wpS_pure ⟨rfl,kp.trans ⟨kp.ok.arr (bubble_perm _ _ _),λi hi=>?_,rfl⟩,?_⟩))
   ·show (bubble (zM u) (lo+k) (lo+k - (lo+l)))[i]? = _;rw[getElem?_bubble ks _ (by lia),if_neg (by lia),if_neg (by lia)]
   ·rw[show min (k+1) n=k+1 by lia];intro i j p M;show κ.kle (KK κ (bubble (zM u) (lo+k) (lo+k - (lo+l))) (lo+i)) (KK κ (bubble (zM u) (lo+k) (lo+k - (lo+l))) (lo+j));rw[KK_bubble ks (by lia),KK_bubble ks (by lia),show lo+k - (lo+k - (lo+l))=lo+l by lia];by_cases c1:lo+i=lo+l<;>by_cases N:lo+l < lo+i/\lo+i <= lo+k<;>by_cases U:lo+j=lo+l<;>by_cases Y:lo+l < lo+j/\lo+j <= lo+k<;>simp only[c1,N,U,Y,if_true,if_false]<;>try lia
    ·exact Jd _
    ·exact Z6 (by have:=B (j - 1) (by lia) (by lia);rwa [show lo+(j - 1)=lo+j - 1 by lia] at this)
    ·have:=f (i - 1) (j - 1) (by lia) (by lia);rwa [show lo+(i - 1)=lo+i - 1 by lia,show lo+(j - 1)=lo+j - 1 by lia] at this
    ·exact o _ (by lia)
    ·have:=f i (j - 1) (by lia) (by lia);rwa [show lo+(j - 1)=lo+j - 1 by lia] at this
    ·exact f _ _ (by lia) (by lia)
 case fin=>rwa [show min (max (max ok 1) n) n=n by lia] at f
 case ini =>
  by_cases v:ok=0
  ·obtain rfl:i=j:=by lia
   exact Jd _
  ·exact hs i j p (by lia)
 case post =>
  subst e;exact wpS_pure (h t kp f)
noncomputable def vO (lo a e:Nat):StateT zT Sem AscSt :=
 forIn [a:e] ((none,a):AscSt) λ_ c=>do
  match <- ltAt' (lo+c.2) (lo+c.2 - 1) with
  | some b=>if b=true then pure (Vh (none,c.2)) else pure (kr (none,c.2+1))
  | _=>pure (Vh (some none,c.2))
noncomputable def tl3 (lo n e:Nat):StateT zT Sem (Option Nat):=do
 Uz lo (lo+n)
 let c <- vO lo n e
 match c.1 with
 | some r=>pure r
 | none=>pure (some c.2)
noncomputable def Y6 (lo n e:Nat):StateT zT Sem DescSt :=
 forIn [n:e] ((none,n,0):DescSt) λ_ c=>do
  match <- ltAt' (lo+c.2.1) (lo+c.2.1 - 1) with
  | some b =>
   if b=true then
    if c.2.2 > 0 then do
     Uz (lo+c.2.1 - (c.2.2+1)) (lo+c.2.1)
     pure (kr (none,c.2.1+1,0))
    else pure (kr (none,c.2.1+1,0))
   else do
    match <- ltAt' (lo+c.2.1 - 1) (lo+c.2.1) with
    | some b=>if b=true then pure (Vh (none,c.2.1,c.2.2)) else pure (kr (none,c.2.1+1,c.2.2+1))
    | _=>pure (Vh (some none,c.2.1,c.2.2))
  | _=>pure (Vh (some none,c.2.1,c.2.2))
noncomputable def Kj (lo n e:Nat):StateT zT Sem (Option Nat):=do
 liftM (Zf "list.sort.descending-run")
 let c <- Y6 lo (n+1) e
 match c.1 with
 | some r=>pure r
 | none =>
  if c.2.2 > 0 then do
   Uz (lo+c.2.1 - (c.2.2+1)) (lo+c.2.1)
   tl3 lo c.2.1 e
  else tl3 lo c.2.1 e
theorem EU (lo e:Nat):countRun' lo e=(do
  let c <- vO lo 1 e
  match c.1 with
  | some r=>pure r
  | none =>
   if (c.2 == e)=true then pure (some c.2)
   else if c.2 > 1 then do
    match <- ltAt' lo (lo+c.2 - 1) with
    | some b=>if b=true then pure (some c.2) else do
      Uz lo (lo+c.2)
      Kj lo c.2 e
    | _=>pure none
   else Kj lo c.2 e):=by
 rw[countRun'_eq];unfold Kj tl3 Y6 vO;refine congrArg (bind _) ?_
 funext c
 obtain⟨r,n⟩:=c;cases r with
 | some r=>rfl
 | none =>
  dsimp only;split
  ·rfl
  ·split
   ·congr 1;funext x
    cases x with
    | none=>rfl
    | some b =>
     dsimp only;split
     ·rfl
     ·congr 1;funext _r
      congr 1;funext _u;congr 1;congr 1;funext i;obtain⟨h,n2,l⟩:=i
      cases h with
      | some h=>rfl
      | none =>
       dsimp only;split
       ·congr 1;funext _v;congr 1;funext _w;congr 1;funext f;obtain⟨g,j⟩:=f;cases g<;>rfl
       ·congr 1;funext _w;congr 1;funext f;obtain⟨g,j⟩:=f;cases g<;>rfl
   ·congr 1;funext _u;congr 1;congr 1;funext i;obtain⟨h,n2,l⟩:=i
    cases h with
    | some h=>rfl
    | none =>
     dsimp only;split
     ·congr 1;funext _v;congr 1;funext _w;congr 1;funext f;obtain⟨g,j⟩:=f;cases g<;>rfl
     ·congr 1;funext _w;congr 1;funext f;obtain⟨g,j⟩:=f;cases g<;>rfl
def Fa (κ:KeyKind) (xs:Array zL) (lo k:Nat):Prop:=∀ i j,i <= j->j < k->κ.kle (KK κ xs (lo+j)) (KK κ xs (lo+i))
theorem Ri.more {lo:Nat} (h:Ri κ xs lo x) (g:1 <= x) (e:κ.kle (KK κ xs (lo+x - 1)) (KK κ xs (lo+x))):Ri κ xs lo (x+1):=by
 intro i j f l;by_cases c:j < x
 ·exact h i j f c
 obtain rfl:j=x:=by lia
 by_cases d:i=j
 ·subst d;exact Jd _
 ·exact yN (h i (j - 1) (by lia) (by lia)) (by rwa [show lo+(j - 1)=lo+j - 1 by lia])
theorem Fa.more {lo:Nat} (h:Fa κ xs lo x) (g:1 <= x) (e:κ.kle (KK κ xs (lo+x)) (KK κ xs (lo+x - 1))):Fa κ xs lo (x+1):=by
 intro i j f l;by_cases c:j < x
 ·exact h i j f c
 obtain rfl:j=x:=by lia
 by_cases d:i=j
 ·subst d;exact Jd _
 ·exact yN (by rwa [show lo+(j - 1)=lo+j - 1 by lia]) (h i (j - 1) (by lia) (by lia))
theorem Ri.one {lo:Nat}:Ri κ xs lo 1:=λi j a b=>by obtain rfl:i=j:=(by lia);exact Jd _
theorem Fa.one {lo:Nat}:Fa κ xs lo 1:=λi j a b=>by obtain rfl:i=j:=(by lia);exact Jd _
theorem b9 {st:zT}{lo a e:Nat}{Q:AscSt->zT->Prop} (o:κ.OneLt) (p:KeysOf κ zR) (r:lo+e <= zR.size) (ha:1 <= a) (i:a <= e) (g:SG zR st) (hs:Ri κ (zM st) lo a)
  (h:∀ n,a <= n->n <= e->Ri κ (zM st) lo n->(n=e\/κ.klt (KK κ (zM st) (lo+n)) (KK κ (zM st) (lo+n - 1)))->Q (none,n) st):wpS (zP prog w) A E s (vO lo a e) Q st:=by
 unfold vO;refine yc (I:=λx c u=>u=st/\c=(none,x)/\Ri κ (zM st) lo x) (λx c u j q ⟨eu,l,f⟩=>?step) (λc u ⟨eu,l,f⟩=>?fin) ⟨rfl,rfl,hs⟩
 case fin =>
  subst eu l;rw[show max a e=e by lia] at f ⊢;exact h e i (zo _) f (.inl rfl)
 case step =>
  subst eu l;dsimp only;refine za (vL o p g (by lia) (by lia) ?_);cases m:κ.blt (KK κ (zM u) (lo+x)) (KK κ (zM u) (lo+x - 1)) with
  | true=>simp only[if_true];exact wpS_pure (h x j (by lia) f (.inr m))
  | false=>simp only[jv,if_false];exact wpS_pure ⟨rfl,rfl,f.more (by lia) m⟩
theorem ju.mir {lo n i j:Nat}{st:zT} (g:SG zR st) (hi:lo <= i) (c:j <= lo+n) (e:lo+n <= zR.size):ju zR lo (lo+n) st (setArr st (mirror (zM st) i j ((j - i) / 2))) :=
 ⟨g.arr (mirror_perm _ _ _ _),λk f=>by show (mirror (zM st) i j ((j - i) / 2))[k]? = _;rw[getElem?_mirror_all (by rw[g.sz];lia),if_neg (by lia)],rfl⟩
theorem bM {st f:zT}{lo n e:Nat}{Q:Option Nat->zT->Prop} (r:κ.OneLt) (t:KeysOf κ zR) (o:lo+e <= zR.size) (u:1 <= n) (l:n <= e) (kp:ju zR lo (lo+e) f st) (hs:Fa κ (zM st) lo n)
  (h:∀ m g,ju zR lo (lo+e) f g->1 <= m->m <= e->Ri κ (zM g) lo m->Q (some m) g):wpS (zP prog w) A E s (tl3 lo n e) Q st:=by
 unfold tl3;have p:lo+n <= (zM st).size:=by rw[kp.ok.sz];lia
 refine za (WL ?_);have q:=kp.trans (ju.mir (i:=lo) (j:=lo+n) (lo:=lo) (n:=e) kp.ok (zo _) (by lia) o);refine za (b9 r t o u l q.ok ?_ λm a b c _=>wpS_pure (h m _ q (by lia) b c));intro i j v x;show κ.kle (KK κ (mirror (zM st) lo (lo+n) ((lo+n - lo) / 2)) (lo+i)) (KK κ (mirror (zM st) lo (lo+n) ((lo+n - lo) / 2)) (lo+j));rw[KK_mirror p,KK_mirror p,if_pos (by lia),if_pos (by lia)];have:=hs (n - 1 - j) (n - 1 - i) (by lia) (by lia)
 rwa [show lo+(n - 1 - i)=lo+(lo+n) - 1 - (lo+i) by lia,show lo+(n - 1 - j)=lo+(lo+n) - 1 - (lo+j) by lia] at this
theorem Fa.same {lo:Nat} (h:Fa κ xs lo n) (e:∀ k,KK κ ys k=KK κ xs k):Fa κ ys lo n:=λi j a b=>by rw[e,e];exact h i j a b
theorem IG {st f:zT}{lo n e:Nat}{Q:DescSt->zT->Prop} (y:κ.OneLt) (z:KeysOf κ zR) (H:lo+e <= zR.size) (N:1 <= n) (r:n <= e) (kp:ju zR lo (lo+e) f st) (hs:Fa κ (zM st) lo n)
  (h:∀ m q g,ju zR lo (lo+e) f g->n <= m->m <= e->Fa κ (zM g) lo m->q+1 <= m->(∀ i,lo+m - (q+1) <= i->i < lo+m->KK κ (zM g) i=KK κ (zM g) (lo+m - 1))->Q (none,m,q) g) :
  wpS (zP prog w) A E s (Y6 lo n e) Q st:=by
 unfold Y6;refine yc (I:=λx c u=>∃ q,c=(none,x,q)/\ju zR lo (lo+e) f u/\Fa κ (zM u) lo x/\q+1 <= x/\(∀ i,lo+x - (q+1) <= i->i < lo+x->KK κ (zM u) i=KK κ (zM u) (lo+x - 1)))
  (λx c u t J ⟨q,v,j,l,p,o⟩=>?step) (λc u ⟨q,v,j,l,p,o⟩=>?fin) ⟨0,rfl,kp,hs,by lia,λi a b=>by congr 1;lia⟩
 case fin =>
  subst v;rw[show max n e=e by lia] at l p o ⊢;exact h e q u j r (zo _) l p o
 case step =>
  subst v;dsimp only;have L:lo+x <= (zM u).size:=by rw[j.ok.sz];lia
  refine za (vL y z j.ok (by lia) (by lia) ?_);cases B:κ.blt (KK κ (zM u) (lo+x)) (KK κ (zM u) (lo+x - 1)) with
  | true =>
   simp only[if_true];have C:=l.more (by lia) (Z6 B);by_cases c:q > 0
   ·rw[if_pos c];exact za (WL (wpS_pure ⟨0,rfl,j.trans (ju.mir j.ok (by lia) (by lia) H),C.same (Bc L o),by lia,λi a b=>by congr 1;lia⟩))
   ·rw[if_neg c];exact wpS_pure ⟨0,rfl,j,C,by lia,λi a b=>by congr 1;lia⟩
  | false =>
   simp only[jv,if_false];refine za (vL y z j.ok (by lia) (by lia) ?_);cases G:κ.blt (KK κ (zM u) (lo+x - 1)) (KK κ (zM u) (lo+x)) with
   | true=>simp only[if_true];exact wpS_pure (h x q u j t (by lia) l p o)
   | false =>
    simp only[jv,if_false];have M:=nT (show κ.kle (KK κ (zM u) (lo+x)) (KK κ (zM u) (lo+x - 1)) from G) B;refine wpS_pure ⟨q+1,rfl,j,l.more (by lia) G,by lia,λi a b=>?_⟩;rw[show lo+(x+1) - 1=lo+x by lia];by_cases d:i=lo+x
    ·rw[d]
    ·rw[M];exact o i (by lia) (by lia)
theorem DM {st f:zT}{lo n e:Nat}{Q:Option Nat->zT->Prop} (l:κ.OneLt) (o:KeysOf κ zR) (i:lo+e <= zR.size) (p:n+1 <= e) (kp:ju zR lo (lo+e) f st) (hs:Fa κ (zM st) lo (n+1))
  (h:∀ m g,ju zR lo (lo+e) f g->1 <= m->m <= e->Ri κ (zM g) lo m->Q (some m) g):wpS (zP prog w) A E s (Kj lo n e) Q st:=by
 unfold Kj;refine za (x1 (k7 ⟨rfl,?_⟩));refine za (IG l o i (by lia) p kp hs λm q u j a b r x t=>?_);dsimp only;have v:lo+m <= (zM u).size:=by rw[j.ok.sz];lia
 by_cases c:q > 0
 ·rw[if_pos c];exact za (WL (bM l o i (by lia) b (j.trans (ju.mir j.ok (by lia) (by lia) i)) (r.same (Bc v t)) h))
 ·rw[if_neg c];exact bM l o i (by lia) b j r h
theorem lA {st:zT}{lo f:Nat}{Q:Option Nat->zT->Prop} (t:κ.OneLt) (u:KeysOf κ zR) (v:lo+f <= zR.size) (C:1 <= f) (g:SG zR st)
  (h:∀ m o,ju zR lo (lo+f) st o->1 <= m->m <= f->Ri κ (zM o) lo m->Q (some m) o):wpS (zP prog w) A E s (countRun' lo f) Q st:=by
 rw[EU];refine za (b9 t u v (zo 1) C g Ri.one λn a b x y=>?_);dsimp only;by_cases e:n=f
 ·rw[if_pos (by simpa using e)];exact wpS_pure (h n st (ju.refl g) a b x)
 rw[if_neg (by simpa using e)];have r:=y.resolve_left e;by_cases c:n > 1
 ·rw[if_pos c];refine za (vL t u g (by lia) (by lia) ?_);cases G:κ.blt (KK κ (zM st) lo) (KK κ (zM st) (lo+n - 1)) with
  | true=>simp only[if_true];exact wpS_pure (h n st (ju.refl g) a b x)
  | false =>
   simp only[jv,if_false];have H:lo+n <= (zM st).size:=by rw[g.sz];lia
   have l:∀ k,lo <= k->k < lo+n->KK κ (zM st) k=KK κ (zM st) (lo+n - 1):=by
    intro k I J;have B:=x 0 (k - lo) (by lia) (by lia);have z:=x (k - lo) (n - 1) (by lia) (by lia);rw[show lo+(k - lo)=k by lia] at B z;rw[show lo+(n - 1)=lo+n - 1 by lia] at z;exact nT z (yN G B)
   refine za (WL (DM t u v (by lia) (ju.mir g (zo _) (by lia) v) (Fa.same (xs:=zM st) (Fa.more (λi j p q=>?_) (by lia) (Z6 r)) (Bc H l)) h));rw[l (lo+i) (by lia) (by lia),l (lo+j) (by lia) (by lia)];exact Jd _
 ·rw[if_neg c];obtain rfl:n=1:=by lia
  exact DM t u v (by lia) (ju.refl g) (Fa.one.more (zo _) (Z6 r)) h
noncomputable def kyo (κ:KeyKind) (p:zL):κ.α:=(κ.keyOf p.1).getD κ.dflt
def yK (κ:KeyKind) (p:zL):Prop:=∃ a,κ.keyOf p.1=some a
theorem Yw {st:zT}{p q:zL}{Q:Option Bool->zT->Prop} (e:κ.OneLt) (kd:kindOf st=qT) (f:yK κ p) (g:yK κ q) (h:Q (some (κ.blt (kyo κ p) (kyo κ q))) st):wpS (zP prog w) A E s (lt' p q) Q st:=by
 obtain⟨a,ha⟩:=f;obtain⟨b,c⟩:=g;rw[show kyo κ p=a by unfold kyo;rw[ha];rfl,show kyo κ q=b by unfold kyo;rw[c];rfl] at h;rw[lt'_eq];refine za (Qb ?_);rw[kd,keyLt'_oneType];exact za (x1 (Ug (e prog w A _ s p.1 q.1 a b ha c ⟨rfl,wpS_pure h⟩)))
theorem ql {st:zT}{arr:Array zL}{i:Nat}{p:zL}{Q:zL->zT->Prop} (e:arr[i]? = some p) (h:Q p st):wpS (zP prog w) A E s (qq arr i) Q st:=by
 rw[elem'_eq,e];exact wpS_pure h
noncomputable def Jq:Bool->zL->Array zL->Nat->Nat->Nat->StateT zT Sem (Option Nat):=sortPriv% PySem.Builtin.gallop
noncomputable def byd (left:Bool) (c:zL) (arr:Array zL) (base i:Nat):StateT zT Sem (Option Bool):=do
 let x <- qq arr (base+i)
 if left then lt' x c else return (<- lt' c x).map (!·)
noncomputable def gl3 (left:Bool) (c:zL) (arr:Array zL) (base n lo hi:Nat):StateT zT Sem (Option Nat):=do
 let mut lo:=lo
 let mut hi:=hi
 for _ in [0:n] do
  if lo ≥ hi then break
  let m:=lo+(hi - lo) / 2
  let some more <- byd left c arr base m | return none
  if more then lo:=m+1 else hi:=m
 return some hi
noncomputable def gl1 (left:Bool) (e:zL) (arr:Array zL) (base n c:Nat):StateT zT Sem (Option Nat):=do
 let mut lastofs:=0
 let mut ofs:=1
 for _ in [0:n] do
  if ofs ≥ n - c then break
  let some more <- byd left e arr base (c+ofs) | return none
  if !more then break
  lastofs:=ofs
  ofs:=2 * ofs+1
 gl3 left e arr base n (c+lastofs+1) (c+min ofs (n - c))
noncomputable def gl2 (left:Bool) (f:zL) (arr:Array zL) (base n c:Nat):StateT zT Sem (Option Nat):=do
 let mut lastofs:=0
 let mut ofs:=1
 for _ in [0:n] do
  if ofs ≥ c+1 then break
  let some e <- byd left f arr base (c - ofs) | return none
  if e then break
  lastofs:=ofs
  ofs:=2 * ofs+1
 gl3 left f arr base n (c+1 - min ofs (c+1)) (c - lastofs)
theorem Er (left:Bool) (e:zL) (arr:Array zL) (base n c:Nat):Jq left e arr base n c=(do
  match <- byd left e arr base c with
  | some r=>if r=true then gl1 left e arr base n c else gl2 left e arr base n c
  | _=>pure none):=by
 show (sortPriv% PySem.Builtin.gallop) left e arr base n c=_;unfold gl1 gl2 gl3;rfl
noncomputable def By (κ:KeyKind) (left:Bool) (c:zL) (arr:Array zL) (i:Nat):Bool:=if left then κ.blt (KK κ arr i) (kyo κ c) else !κ.blt (kyo κ c) (KK κ arr i)
theorem qh {arr:Array zL}{i:Nat}{p:zL} (e:arr[i]? = some p):KK κ arr i=kyo κ p:=by unfold KK;rw[e];rfl
theorem Yh {st:zT}{left:Bool}{c:zL}{arr:Array zL}{base i:Nat}{Q:Option Bool->zT->Prop} (f:κ.OneLt) (kd:kindOf st=qT) (ha:∀ p,p∈arr.toList->yK κ p) (g:yK κ c) (hi:base+i < arr.size)
  (h:Q (some (By κ left c arr (base+i))) st):wpS (zP prog w) A E s (byd left c arr base i) Q st:=by
 unfold byd;have e:arr[base+i]? = some arr[base+i]:=getElem?_pos arr (base+i) hi;have j:yK κ arr[base+i]:=ha _ (by simp);refine za (ql e ?_);unfold By at h;rw[qh e] at h;cases left with
 | true=>simp only[if_true] at h ⊢;exact Yw f kd j g h
 | false=>simp only[jv,if_false] at h ⊢;exact za (Yw f kd g j (wpS_pure h))
def GK (κ:KeyKind) (left:Bool) (c:zL) (arr:Array zL) (base n k:Nat):Prop:=k <= n/\(∀ i,i < k->By κ left c arr (base+i)=true)/\(∀ i,k <= i->i < n->By κ left c arr (base+i)=false)
theorem By.down {arr:Array zL}{base:Nat} (so:Ri κ arr base n) {i j:Nat} (c:i <= j) (f:j < n) (h:By κ left e arr (base+j)=true):By κ left e arr (base+i)=true:=by
 unfold By at *;cases left with
 | true=>simp only[if_true] at h ⊢;exact KeyOrd.klt_of_kle_of_klt (so i j c f) h
 | false =>
  simp only[jv,if_false,X6] at h ⊢;exact yN (so i j c f) h
theorem By.up {arr:Array zL}{base:Nat} (so:Ri κ arr base n) {i j:Nat} (f:i <= j) (g:j < n) (h:By κ left c arr (base+i)=false):By κ left c arr (base+j)=false:=by
 cases e:By κ left c arr (base+j) with
 | false=>rfl
 | true=>rw[By.down so f g e] at h;cases h
theorem Ci {st:zT}{left:Bool}{e:zL}{arr:Array zL}{base n lo hi:Nat}{Q:Option Nat->zT->Prop} (v:κ.OneLt) (kd:kindOf st=qT) (ha:∀ p,p∈arr.toList->yK κ p) (y:yK κ e) (J:base+n <= arr.size) (so:Ri κ arr base n)
  (t:lo <= hi) (z:hi <= n) (B:∀ i,i < lo->By κ left e arr (base+i)=true) (C:∀ i,hi <= i->i < n->By κ left e arr (base+i)=false) (h:∀ k,GK κ left e arr base n k->Q (some k) st):wpS (zP prog w) A E s (gl3 left e arr base n lo hi) Q st:=by
 unfold gl3;refine za (yF (yc (I:=λx c u=>u=st/\∃ r l,c=(none,l,r)/\l <= r/\r <= n/\r - l <= n - x/\(∀ i,i < l->By κ left e arr (base+i)=true)/\(∀ i,r <= i->i < n->By κ left e arr (base+i)=false))
  (Q:=λc u=>u=st/\∃ r l,c=(none,l,r)/\GK κ left e arr base n r) (λx c u _ L ⟨eu,r,l,f,G,m,H,o,q⟩=>?step) (λc u ⟨eu,r,l,f,G,m,H,o,q⟩=>?fin) ⟨rfl,hi,lo,rfl,t,z,by lia,B,C⟩) λc u ⟨eu,r,l,f,g⟩=>?post)
 case step =>
  subst eu f;dsimp only;by_cases j:l ≥ r
  ·rw[if_pos j];obtain rfl:l=r:=by lia
   exact wpS_pure ⟨rfl,l,l,rfl,m,o,q⟩
  rw[if_neg j];refine za (Yh v kd ha y (by lia) ?_);cases hm:By κ left e arr (base+(l+(r - l) / 2)) with
  | true =>
   simp only[if_true];exact wpS_pure ⟨rfl,r,l+(r - l) / 2+1,rfl,by lia,m,by lia,λi hi=>By.down so (by lia) (by lia) hm,q⟩
  | false =>
   simp only[jv,if_false];exact wpS_pure ⟨rfl,l+(r - l) / 2,l,rfl,by lia,by lia,by lia,o,λi b c=>By.up so b c hm⟩
 case fin =>
  obtain rfl:l=r:=by lia
  exact⟨eu,l,l,f,m,o,q⟩
 case post =>
  subst eu f;exact wpS_pure (h r g)
theorem IS {st:zT}{left:Bool}{f:zL}{arr:Array zL}{base n e:Nat}{Q:Option Nat->zT->Prop} (v:κ.OneLt) (kd:kindOf st=qT) (ha:∀ p,p∈arr.toList->yK κ p) (y:yK κ f) (B:base+n <= arr.size) (so:Ri κ arr base n)
  (G:e < n) (C:By κ left f arr (base+e)=true) (h:∀ k,GK κ left f arr base n k->Q (some k) st):wpS (zP prog w) A E s (gl1 left f arr base n e) Q st:=by
 unfold gl1;refine za (yF (yc (I:=λx c u=>u=st/\∃ l o,c=(none,l,o)/\l < o/\x+1 <= o/\e+l < n/\By κ left f arr (base+(e+l))=true)
  (Q:=λc u=>u=st/\∃ l o,c=(none,l,o)/\l < o/\e+l < n/\By κ left f arr (base+(e+l))=true/\(n - e <= o\/By κ left f arr (base+(e+o))=false)) (λx c u _ H ⟨eu,l,o,r,t,z,q,g⟩=>?step) (λc u ⟨eu,l,o,r,t,z,q,g⟩=>⟨eu,l,o,r,t,q,g,.inl (by lia)⟩)
   ⟨rfl,0,1,rfl,by lia,by lia,by lia,C⟩) λc u ⟨eu,l,o,r,t,z,q,g⟩=>?post)
 case step =>
  subst eu r;dsimp only;by_cases m:o ≥ n - e
  ·rw[if_pos m];exact wpS_pure ⟨rfl,l,o,rfl,t,q,g,.inl m⟩
  rw[if_neg m];refine za (Yh v kd ha y (by lia) ?_);cases hm:By κ left f arr (base+(e+o)) with
  | true =>
   simp only[xA,jv,if_false];exact wpS_pure ⟨rfl,o,2 * o+1,rfl,by lia,by lia,by lia,hm⟩
  | false =>
   simp only[uk,if_true];exact wpS_pure ⟨rfl,l,o,rfl,t,q,g,.inr hm⟩
 case post =>
  subst eu r;dsimp only;refine Ci v kd ha y B so (by lia) (by lia) (λi hi=>By.down so (j:=e+l) (by lia) (by lia) q) (λi b c=>?_) h;rcases g with g | g
  ·lia
  ·by_cases m:o ≥ n - e
   ·lia
   ·exact By.up so (by lia) c g
theorem FR {st:zT}{left:Bool}{f:zL}{arr:Array zL}{base n e:Nat}{Q:Option Nat->zT->Prop} (v:κ.OneLt) (kd:kindOf st=qT) (ha:∀ p,p∈arr.toList->yK κ p) (y:yK κ f) (B:base+n <= arr.size) (so:Ri κ arr base n)
  (G:e < n) (C:By κ left f arr (base+e)=false) (h:∀ k,GK κ left f arr base n k->Q (some k) st):wpS (zP prog w) A E s (gl2 left f arr base n e) Q st:=by
 unfold gl2;refine za (yF (yc (I:=λx c u=>u=st/\∃ l o,c=(none,l,o)/\l < o/\x+1 <= o/\l <= e/\By κ left f arr (base+(e - l))=false)
  (Q:=λc u=>u=st/\∃ l o,c=(none,l,o)/\l < o/\l <= e/\By κ left f arr (base+(e - l))=false/\(e+1 <= o\/By κ left f arr (base+(e - o))=true)) (λx c u _ H ⟨eu,l,o,r,t,z,q,g⟩=>?step) (λc u ⟨eu,l,o,r,t,z,q,g⟩=>⟨eu,l,o,r,t,q,g,.inl (by lia)⟩)
   ⟨rfl,0,1,rfl,by lia,by lia,by lia,C⟩) λc u ⟨eu,l,o,r,t,z,q,g⟩=>?post)
 case step =>
  subst eu r;dsimp only;by_cases m:o ≥ e+1
  ·rw[if_pos m];exact wpS_pure ⟨rfl,l,o,rfl,t,q,g,.inl m⟩
  rw[if_neg m];refine za (Yh v kd ha y (by lia) ?_);cases hm:By κ left f arr (base+(e - o)) with
  | false =>
   simp only[jv,if_false];exact wpS_pure ⟨rfl,o,2 * o+1,rfl,by lia,by lia,by lia,hm⟩
  | true =>
   simp only[if_true];exact wpS_pure ⟨rfl,l,o,rfl,t,q,g,.inr hm⟩
 case post =>
  subst eu r;dsimp only;refine Ci v kd ha y B so (by lia) (by lia) (λi hi=>?_) (λi b c=>By.up so (i:=e - l) (by lia) c q) h;rcases g with g | g
  ·lia
  ·by_cases m:o ≥ e+1
   ·lia
   ·exact By.down so (j:=e - o) (by lia) (by lia) g
theorem kN {st:zT}{left:Bool}{e:zL}{arr:Array zL}{base n c:Nat}{Q:Option Nat->zT->Prop} (f:κ.OneLt) (kd:kindOf st=qT) (ha:∀ p,p∈arr.toList->yK κ p) (g:yK κ e) (i:base+n <= arr.size) (so:Ri κ arr base n)
  (j:c < n) (h:∀ k,GK κ left e arr base n k->Q (some k) st):wpS (zP prog w) A E s (Jq left e arr base n c) Q st:=by
 rw[Er];refine za (Yh f kd ha g (by lia) ?_);cases hm:By κ left e arr (base+c) with
 | true=>simp only[if_true];exact IS f kd ha g i so j hm h
 | false=>simp only[jv,if_false];exact FR f kd ha g i so j hm h
structure MI (R:zL->zL->Prop) (l ra rb out:List zL):Prop where
 pm:(out++ra++rb).Perm l
 so:out.Pairwise R
 oa:∀ x,x∈out->∀ y,y∈ra->R x y
 ob:∀ x,x∈out->∀ y,y∈rb->R x y
 sa:ra.Pairwise R
 sb:rb.Pairwise R
theorem MI.swap {R:zL->zL->Prop}{out:List zL} (h:MI R l c e out):MI R l e c out :=
 ⟨List.Perm.trans (l₂:=out++c++e) (by rw[yI,yI];exact List.perm_append_comm.append_left out) h.pm,h.so,h.ob,h.oa,h.sb,h.sa⟩
theorem MI.run {R:zL->zL->Prop}{xs g out:List zL} (h:MI R l (xs++g) i out) (c:∀ x,x∈xs->∀ y,y∈i->R x y):MI R l g i (out++xs):=by
 obtain⟨pm,so,oa,ob,sa,sb⟩:=h;rw[List.pairwise_append] at sa;refine⟨by simpa [yI] using pm,List.pairwise_append.mpr ⟨so,sa.1,λx e y f=>oa x e y (Bj _ f)⟩,λx e y f=>?_,λx e y f=>?_,sa.2.1,sb⟩
 ·rcases List.mem_append.mp e with e | e
  ·exact oa x e y (ZM _ f)
  ·exact sa.2.2 x e y f
 ·rcases List.mem_append.mp e with e | e
  ·exact ob x e y f
  ·exact c x e y f
theorem MI.fin {R:zL->zL->Prop}{out:List zL} (h:MI R l f g out) (c:∀ x,x∈f->∀ y,y∈g->R x y):(out++f++g).Pairwise R:=by
 obtain⟨pm,so,oa,ob,sa,sb⟩:=h;refine List.pairwise_append.mpr ⟨List.pairwise_append.mpr ⟨so,sa,oa⟩,sb,λx e y i=>?_⟩;rcases List.mem_append.mp e with e | e
 ·exact ob x e y i
 ·exact c x e y i
theorem JD {a:Array zL}{i:Nat}{y:zL} (h:y∈a.toList.drop i):∃ j,i <= j/\j < a.size/\a[j]? = some y:=by
 obtain⟨j,c,e⟩:=List.mem_iff_getElem.mp h;rw[List.getElem_drop] at e;rw[QW] at c;have:i+j < a.size:=by rw[<- jm];lia
 exact⟨i+j,by lia,this,by rw[getElem?_pos a (i+j) this,<- e];simp⟩
theorem Cb {a:Array zL}{i:Nat}{p:zL} (e:a[i]? = some p):a.toList.drop i=p::a.toList.drop (i+1):=by
 obtain⟨hi,e⟩:=Array.getElem?_eq_some_iff.mp e;rw[kX (by rw[jm];exact hi),YT,e]
theorem YK {a:Array zL}{i k:Nat}:a.toList.drop i=(a.extract i (i+k)).toList++a.toList.drop (i+k):=by
 rw[Uq,vc,<- List.drop_drop,d0,Aa]
theorem X7 {a:Array zL}{i k:Nat}{y:zL} (h:y∈(a.extract i k).toList):∃ j,i <= j/\j < k/\j < a.size/\a[j]? = some y:=by
 obtain⟨j,c,e⟩:=List.mem_iff_getElem.mp h;rw[YT,FF] at e;rw[jm,ki] at c;have:i+j < a.size:=by lia
 exact⟨i+j,by lia,by lia,this,by rw[getElem?_pos a (i+j) this,e]⟩
theorem Bd {a:Array zL}{n:Nat}{p:zL} (e:a[n]? = some p):(a.toList.take (n+1)).reverse=p::(a.toList.take n).reverse:=by
 obtain⟨hi,e⟩:=Array.getElem?_eq_some_iff.mp e;rw[Fg (by rw[jm];exact hi),gF,YT,e];rfl
theorem ae {a:Array zL}{m n:Nat} (h:m <= n):(a.toList.take n).reverse=(a.extract m n).reverse.toList++(a.toList.take m).reverse:=by
 rw[YB,<- gF,Uq,vc]
 congr 1
 obtain⟨d,rfl⟩:∃ d,n=m+d:=⟨n - m,by lia⟩
 rw[d0,List.take_add]
theorem Q4 {a:Array zL}{n:Nat}{y:zL} (h:y∈(a.toList.take n).reverse):∃ j,j < n/\j < a.size/\a[j]? = some y:=by
 rw[BM] at h;obtain⟨j,c,e⟩:=List.mem_iff_getElem.mp h;rw[List.getElem_take] at e;rw[ZG,jm] at c;exact⟨j,by lia,by lia,by rw[getElem?_pos a j (by lia),<- e];simp⟩
structure jd (st st':zT):Prop where
 kd:kindOf st'=kindOf st
 ar:zM st'=zM st
 pd:jQ st'=jQ st
 fl:Qi st'=Qi st
theorem jd.refl (st:zT):jd st st:=⟨rfl,rfl,rfl,rfl⟩
noncomputable def Kw:Nat->StateT zT Sem Unit:=sortPriv% PySem.Builtin.setMinGallop
theorem Vf {c st:zT}{n:Nat}{Q:Unit->zT->Prop} (g:jd c st) (h:∀ e,jd c e->Q () e):wpS (zP prog w) A E s (Kw n) Q st:=by
 show wpS _ _ _ _ (modify λz:zT=>cx (kindOf z) (zM z) (jQ z) n (Qi z)) _ _;exact JP (h _ ⟨g.kd,g.ar,g.pd,g.fl⟩)
noncomputable def Wp:Array zL->Array zL->StateT zT Sem (Array zL):=sortPriv% PySem.Builtin.mergeLo
noncomputable def Wr:Array zL->Array zL->StateT zT Sem (Array zL):=sortPriv% PySem.Builtin.mergeHi
noncomputable def dnL (x y out:Array zL) (i j:Nat):=out++x.extract i x.size++y.extract j y.size
noncomputable def lsL (x y out:Array zL) (i j:Nat):=out++y.extract j y.size++x.extract i x.size
noncomputable def dnH (x y out:Array zL) (i j:Nat):=x.extract 0 i++y.extract 0 j++out.reverse
noncomputable def fsH (x y out:Array zL) (i j:Nat):=y.extract 0 j++x.extract 0 i++out.reverse
abbrev C7:=Option (Array zL)×Array zL×Nat×Nat×Nat×Nat×Nat
abbrev C6:=Option (Array zL)×Array zL×Nat×Nat×Nat×Nat
noncomputable def loD (x y out:Array zL) (i j mg c e:Nat):StateT zT Sem (ForInStep C7):=do
 let p <- qq x i
 if (i+1+1 == x.size)=true then pure (.done (some (lsL x y (out.push p) (i+1) j),out.push p,i+1,j,mg,c,e))
 else if (decide (c < 7) && decide (e < 7))=true then pure (.done (none,out.push p,i+1,j,mg,c,e))
 else pure (.yield (none,out.push p,i+1,j,mg,c,e))
noncomputable def loC (x y out:Array zL) (i j mg c e:Nat):StateT zT Sem (ForInStep C7):=do
 let p <- qq x i
 match <- Jq true p y j (y.size - j) 0 with
 | some k =>
  if k > 0 then
   if (j+k == y.size)=true then pure (.done (some (dnL x y (out++y.extract j (j+k)) i (j+k)),out++y.extract j (j+k),i,j+k,mg,c,k))
   else loD x y (out++y.extract j (j+k)) i (j+k) mg c k
  else loD x y out i j mg c k
 | _=>pure (.done (some (dnL x y out i j),out,i,j,mg,c,e))
noncomputable def loB (x y out:Array zL) (i j mg c e:Nat):StateT zT Sem (ForInStep C7):=do
 let p <- qq y j
 if (j+1 == y.size)=true then pure (.done (some (dnL x y (out.push p) i (j+1)),out.push p,i,j+1,mg,c,e))
 else loC x y (out.push p) i (j+1) mg c e
noncomputable def loA (x y out:Array zL) (i j mg e c:Nat):StateT zT Sem (ForInStep C7):=do
 Kw mg
 let p <- qq y j
 match <- Jq false p x i (x.size - i) 0 with
 | some k =>
  if k > 0 then
   if (i+k+1 == x.size)=true then pure (.done (some (lsL x y (out++x.extract i (i+k)) (i+k) j),out++x.extract i (i+k),i+k,j,mg,k,c))
   else if (i+k == x.size)=true then pure (.done (some (dnL x y (out++x.extract i (i+k)) (i+k) j),out++x.extract i (i+k),i+k,j,mg,k,c))
   else loB x y (out++x.extract i (i+k)) (i+k) j mg k c
  else loB x y out i j mg k c
 | _=>pure (.done (some (dnL x y out i j),out,i,j,mg,e,c))
noncomputable def lo1 (x y:Array zL) (mg:Nat) (c:C6):StateT zT Sem (ForInStep C6):=do
 let p <- qq y c.2.2.2.1
 let q <- qq x c.2.2.1
 match <- lt' p q with
 | some r =>
  if r=true then do
   let p <- qq y c.2.2.2.1
   if (c.2.2.2.1+1 == y.size)=true then pure (.done (some (dnL x y (c.2.1.push p) c.2.2.1 (c.2.2.2.1+1)),c.2.1.push p,c.2.2.1,c.2.2.2.1+1,0,c.2.2.2.2.2+1))
   else if c.2.2.2.2.2+1 ≥ mg then pure (.done (none,c.2.1.push p,c.2.2.1,c.2.2.2.1+1,0,c.2.2.2.2.2+1))
   else pure (.yield (none,c.2.1.push p,c.2.2.1,c.2.2.2.1+1,0,c.2.2.2.2.2+1))
  else do
   let q <- qq x c.2.2.1
   if (c.2.2.1+1+1 == x.size)=true then pure (.done (some (lsL x y (c.2.1.push q) (c.2.2.1+1) c.2.2.2.1),c.2.1.push q,c.2.2.1+1,c.2.2.2.1,c.2.2.2.2.1+1,0))
   else if c.2.2.2.2.1+1 ≥ mg then pure (.done (none,c.2.1.push q,c.2.2.1+1,c.2.2.2.1,c.2.2.2.2.1+1,0))
   else pure (.yield (none,c.2.1.push q,c.2.2.1+1,c.2.2.2.1,c.2.2.2.2.1+1,0))
 | _=>pure (.done (some (dnL x y c.2.1 c.2.2.1 c.2.2.2.1),c.2.1,c.2.2.1,c.2.2.2.1,c.2.2.2.2.1,c.2.2.2.2.2))
abbrev C5:=Option (Array zL)×Array zL×Nat×Nat×Nat
noncomputable def loO (x y:Array zL) (c:C5):StateT zT Sem (ForInStep C5):=do
 let d <- forIn [0:x.size+y.size] ((none,c.2.1,c.2.2.1,c.2.2.2.1,0,0):C6) λ_ d=>lo1 x y c.2.2.2.2 d
 match d.1 with
 | some r=>pure (.done (some r,d.2.1,d.2.2.1,d.2.2.2.1,c.2.2.2.2))
 | none=>do
  liftM (Zf "list.sort.gallop")
  let e <- forIn [0:x.size+y.size] ((none,d.2.1,d.2.2.1,d.2.2.2.1,c.2.2.2.2+1,d.2.2.2.2.1,d.2.2.2.2.2):C7) λ_ e =>
   if e.2.2.2.2.1 > 1 then loA x y e.2.1 e.2.2.1 e.2.2.2.1 (e.2.2.2.2.1 - 1) e.2.2.2.2.2.1 e.2.2.2.2.2.2 else loA x y e.2.1 e.2.2.1 e.2.2.2.1 e.2.2.2.2.1 e.2.2.2.2.2.1 e.2.2.2.2.2.2
  match e.1 with
  | some r=>pure (.done (some r,e.2.1,e.2.2.1,e.2.2.2.1,e.2.2.2.2.1))
  | none=>do
   Kw (e.2.2.2.2.1+1)
   pure (.yield (none,e.2.1,e.2.2.1,e.2.2.2.1,e.2.2.2.2.1+1))
theorem fJ (x y:Array zL):Wp x y=(do
 liftM (Zf "list.sort.merge-lo")
 let p <- qq y 0
 if (1 == y.size)=true then pure (dnL x y #[p] 0 1)
 else if (0+1 == x.size)=true then pure (lsL x y #[p] 0 1)
 else do
  let z <- get
  let c <- forIn [0:x.size+y.size] ((none,#[p],0,1,gallopOf z):C5) λ_ c=>loO x y c
  match c.1 with
  | some r=>pure r
  | none=>liftM (unsupported "internal:list.sort.merge-bound" : Sem (Array zL))):=by
 show (sortPriv% PySem.Builtin.mergeLo) x y=_;refine congrArg (bind _) (funext λ_=>congrArg (bind _) (funext λp=>ite_congr rfl (λ_=>rfl) λ_=>ite_congr rfl (λ_=>rfl) λ_=>congrArg (bind _) (funext λz=>?_)));refine congr (congrArg bind (congrArg _ (funext λ_=>funext λc=>congrArg (bind _) (funext λd=>?_)))) (funext λc=>?_)
 ·obtain⟨f,d⟩:=d;cases f with
  | some r=>rfl
  | none=>exact congrArg (bind _) (funext λ_=>congrArg (bind _) (funext λe=>by obtain⟨g,e⟩:=e;cases g<;>rfl))
 ·obtain⟨c1,c⟩:=c;cases c1<;>rfl
def kl (κ:KeyKind) (p q:zL):Prop:=κ.kle (kyo κ p) (kyo κ q)
structure MG (κ:KeyKind) (x y:Array zL):Prop where
 kx:∀ p,p∈x.toList->yK κ p
 ky:∀ p,p∈y.toList->yK κ p
 rx:Ri κ x 0 x.size
 ry:Ri κ y 0 y.size
 nx:1 <= x.size
 ny:1 <= y.size
 fst:∀ p q,y[0]? = some p->x[0]? = some q->kl κ p q
 lst:∀ p q,y[y.size - 1]? = some p->x[x.size - 1]? = some q->kl κ p q
def Rs (κ:KeyKind) (x y r:Array zL):Prop:=r.toList.Perm (x.toList++y.toList)/\r.toList.Pairwise (kl κ)
theorem Ri.at (r:Ri κ x 0 x.size) {i j:Nat}{p q:zL} (c:i <= j) (f:x[i]? = some p) (e:x[j]? = some q):kl κ p q:=by
 have g:j < x.size:=(Array.getElem?_eq_some_iff.mp e).1;have:=r i j c g
 rwa [qQ,qQ,qh f,qh e] at this
theorem Ri.tail (r:Ri κ x 0 x.size) (i n:Nat) (h:i+n <= x.size):Ri κ x i n:=λa b c d=>by
 have:=r (i+a) (i+b) (by lia) (by lia)
 rwa [qQ,qQ] at this
theorem Ri.pair (r:Ri κ x 0 x.size):x.toList.Pairwise (kl κ):=by
 rw[List.pairwise_iff_getElem];intro i j hi e c;rw[jm] at hi e;exact r.at (UD c) (by rw[getElem?_pos x i hi];simp) (by rw[getElem?_pos x j e];simp)
theorem QS {x:Array zL} (h:∀ p,p∈x.toList->yK κ p) {i:Nat}{p:zL} (e:x[i]? = some p):yK κ p:=by
 obtain⟨hi,rfl⟩:=Array.getElem?_eq_some_iff.mp e;exact h _ (by simp)
theorem qm (x:Array zL) {i:Nat} (h:i < x.size):∃ p,x[i]? = some p:=⟨_,getElem?_pos x i h⟩
def ML (κ:KeyKind) (x y:Array zL) (i j:Nat) (out:Array zL):Prop:=MI (kl κ) (x.toList++y.toList) (x.toList.drop i) (y.toList.drop j) out.toList
section
variable {x y out:Array zL}{i j:Nat}{p:zL}
theorem ML.a (h:ML κ x y i j out) (e:x[i]? = some p) (c:∀ m q,j <= m->y[m]? = some q->kl κ p q):ML κ x y (i+1) j (out.push p):=by
 unfold ML at *;rw[Cb e] at h;have:=MI.run (xs:=[p]) h λz f q g=>by
  obtain⟨m,a,_,b⟩:=JD g;rw[List.mem_singleton.mp f];exact c m q a b
 rwa [vn]
theorem ML.b (h:ML κ x y i j out) (e:y[j]? = some p) (c:∀ m q,i <= m->x[m]? = some q->kl κ p q):ML κ x y i (j+1) (out.push p):=by
 unfold ML at *;rw[Cb e] at h;have:=MI.run (xs:=[p]) h.swap λz f q g=>by
  obtain⟨m,a,_,b⟩:=JD g;rw[List.mem_singleton.mp f];exact c m q a b
 rw[vn];exact this.swap
theorem ML.as {k:Nat} (h:ML κ x y i j out) (c:∀ m q,i <= m->m < i+k->x[m]? = some q->∀ e f,j <= e->y[e]? = some f->kl κ q f):ML κ x y (i+k) j (out++x.extract i (i+k)):=by
 unfold ML at *;rw[YK (k:=k)] at h;have:=MI.run h λz g q l=>by
  obtain⟨m,a,_,b⟩:=JD l;obtain⟨e,n,o,_,r⟩:=X7 g;exact c e z n o r m q a b
 rwa [Zx]
theorem ML.bs {k:Nat} (h:ML κ x y i j out) (c:∀ m q,j <= m->m < j+k->y[m]? = some q->∀ e f,i <= e->x[e]? = some f->kl κ q f):ML κ x y i (j+k) (out++y.extract j (j+k)):=by
 unfold ML at *;have h:=h.swap;rw[YK (k:=k)] at h;have:=MI.run h λz g q l=>by
  obtain⟨m,a,_,b⟩:=JD l;obtain⟨e,n,o,_,r⟩:=X7 g;exact c e z n o r m q a b
 rw[Zx];exact this.swap
theorem Vg (z:Array zL) (i:Nat):(z.extract i z.size).toList=z.toList.drop i:=by
 rw[Uq,vc,kz (by rw[QW,jm];lia)]
theorem ML.dn (h:ML κ x y i j out) (c:i=x.size\/j=y.size):Rs κ x y (dnL x y out i j):=by
 unfold Rs dnL;rw[Zx,Zx,Vg,Vg];refine⟨h.pm,h.fin λa ha b e=>?_⟩;obtain⟨m,f,g,l⟩:=JD ha;obtain⟨n,o,q,r⟩:=JD e
 lia
theorem ML.ls (g:MG κ x y) (h:ML κ x y i j out) (c:i+1=x.size):Rs κ x y (lsL x y out i j):=by
 unfold Rs lsL;rw[Zx,Zx,Vg,Vg];refine⟨h.swap.pm,h.swap.fin λa ha b f=>?_⟩;obtain⟨m,r,t,n⟩:=JD ha;obtain⟨o,u,v,q⟩:=JD f;obtain rfl:o=x.size - 1:=by lia
 obtain⟨l,e⟩:=qm y (i:=y.size - 1) (by lia);exact yN (g.ry.at (show m <= y.size - 1 by lia) n e) (g.lst l b e q)
end
def Lo7 (κ:KeyKind) (e:zT) (x y:Array zL) (b:Nat) (c:C7) (u:zT):Prop :=
 jd e u/\match c.1 with
  | some r=>Rs κ x y r
  | none=>ML κ x y c.2.2.1 c.2.2.2.1 c.2.1/\c.2.2.1+1 < x.size/\c.2.2.2.1 < y.size/\b <= c.2.2.1+c.2.2.2.1
def St7 (κ:KeyKind) (e:zT) (x y:Array zL) (b:Nat) (r:ForInStep C7) (u:zT):Prop :=
 match r with
 | .done c=>Lo7 κ e x y b c u
 | .yield c=>c.1=none/\Lo7 κ e x y b c u
section
variable {jA st:zT}{x y out:Array zL}{i j mg ac bc b:Nat}
theorem dB (g:MG κ x y) (f:jd jA st) (h:ML κ x y i j out) (hi:i+1 < x.size) (n:j < y.size) (o:b <= i+j) (c:∀ p,x[i]? = some p->∀ m q,j <= m->y[m]? = some q->kl κ p q) :
  wpS (zP prog w) A E s (loD x y out i j mg ac bc) (St7 κ jA x y b) st:=by
 unfold loD;obtain⟨p,e⟩:=qm x (show i < x.size by lia);have l:=h.a e (c p e);refine za (ql e ?_);by_cases c1:i+1+1=x.size
 ·rw[if_pos (by simpa using c1)];exact wpS_pure ⟨f,l.ls g c1⟩
 rw[if_neg (by simpa using c1)];split
 ·exact wpS_pure ⟨f,l,by show i+1+1 < _;lia,n,by show b <= i+1+j;lia⟩
 ·exact wpS_pure ⟨rfl,f,l,by show i+1+1 < _;lia,n,by show b <= i+1+j;lia⟩
theorem Fw (v:κ.OneLt) (kd:kindOf st=qT) (g:MG κ x y) (l:jd jA st) (h:ML κ x y i j out) (hi:i+1 < x.size) (z:j < y.size) (B:b <= i+j) :
  wpS (zP prog w) A E s (loC x y out i j mg ac bc) (St7 κ jA x y b) st:=by
 unfold loC;obtain⟨p,e⟩:=qm x (show i < x.size by lia);refine za (ql e (za (kN v kd g.ky (QS g.kx e) (by lia) (g.ry.tail j _ (by lia)) (by lia) λk ⟨M,C,G⟩=>?_)));have H:∀ m q,j <= m->m < j+k->y[m]? = some q->∀ n o,i <= n->x[n]? = some o->kl κ q o:=λm q a b c n o I J=>by
  have:=C (m - j) (by lia);unfold By at this;rw[if_pos rfl,show j+(m - j)=m by lia,qh c] at this;exact yN (Z6 this) (g.rx.at I e J)
 have t:∀ m q,j+k <= m->y[m]? = some q->kl κ p q:=λm q a b=>by
  have hm:m < y.size:=(Array.getElem?_eq_some_iff.mp b).1;have:=G (m - j) (by lia) (by lia);unfold By at this;rw[if_pos rfl,show j+(m - j)=m by lia,qh b] at this;exact this
 dsimp only;by_cases c1:k > 0
 ·rw[if_pos c1];have u:=h.bs H;by_cases r:j+k=y.size
  ·rw[if_pos (by simpa using r)];exact wpS_pure ⟨l,u.dn (.inr r)⟩
  rw[if_neg (by simpa using r)];exact dB g l u hi (by lia) (by lia) λL f m q a b=>by rw[e] at f;cases f;exact t m q a b
 ·rw[if_neg c1];obtain rfl:k=0:=by lia
  exact dB g l h hi z B λL f m q a b=>by rw[e] at f;cases f;exact t m q (by lia) b
theorem Bo (n:κ.OneLt) (kd:kindOf st=qT) (g:MG κ x y) (f:jd jA st) (h:ML κ x y i j out) (hi:i+1 < x.size) (o:j < y.size) (r:b <= i+j) (c:∀ p,y[j]? = some p->∀ m q,i <= m->x[m]? = some q->kl κ p q) :
  wpS (zP prog w) A E s (loB x y out i j mg ac bc) (St7 κ jA x y b) st:=by
 unfold loB;obtain⟨p,e⟩:=qm y o;have l:=h.b e (c p e);refine za (ql e ?_);by_cases c1:j+1=y.size
 ·rw[if_pos (by simpa using c1)];exact wpS_pure ⟨f,l.dn (.inr c1)⟩
 rw[if_neg (by simpa using c1)];exact Fw n kd g f l hi (by lia) (by lia)
theorem LL (n:κ.OneLt) (kd:kindOf jA=qT) (g:MG κ x y) (f:jd jA st) (h:ML κ x y i j out) (hi:i+1 < x.size) (o:j < y.size) (G:b <= i+j) :
  wpS (zP prog w) A E s (loA x y out i j mg ac bc) (St7 κ jA x y b) st:=by
 unfold loA;obtain⟨p,e⟩:=qm y o;refine za (Vf f λu f=>?_);have kd:kindOf u=qT:=f.kd.trans kd;refine za (ql e (za (kN n kd g.kx (QS g.ky e) (by lia) (g.rx.tail i _ (by lia)) (by lia) λk ⟨Q,H,I⟩=>?_)));have J:∀ m q,i <= m->m < i+k->x[m]? = some q->∀ r t,j <= r->y[r]? = some t->kl κ q t:=λm q a b c r t L M=>by
  have:=H (m - i) (by lia);unfold By at this;rw[if_neg (by decide),show i+(m - i)=m by lia,qh c,X6] at this;exact yN (show κ.kle (kyo κ q) (kyo κ p) from this) (g.ry.at L e M)
 have C:∀ m q,i+k <= m->x[m]? = some q->kl κ p q:=λm q a b=>by
  have hm:m < x.size:=(Array.getElem?_eq_some_iff.mp b).1;have:=I (m - i) (by lia) (by lia);unfold By at this;rw[if_neg (by decide),show i+(m - i)=m by lia,qh b,b4] at this;exact Z6 this
 dsimp only;by_cases c1:k > 0
 ·rw[if_pos c1];have v:=h.as J;by_cases z:i+k+1=x.size
  ·rw[if_pos (by simpa using z)];exact wpS_pure ⟨f,v.ls g z⟩
  rw[if_neg (by simpa using z)];by_cases B:i+k=x.size
  ·rw[if_pos (by simpa using B)];exact wpS_pure ⟨f,v.dn (.inl B)⟩
  rw[if_neg (by simpa using B)];exact Bo n kd g f v (by lia) o (by lia) λN l m q a b=>by rw[e] at l;cases l;exact C m q a b
 ·rw[if_neg c1];obtain rfl:k=0:=by lia
  exact Bo n kd g f h hi o G λN l m q a b=>by rw[e] at l;cases l;exact C m q (by lia) b
def Lo6 (κ:KeyKind) (jA:zT) (x y:Array zL) (b:Nat) (c:C6) (u:zT):Prop :=
 jd jA u/\match c.1 with
  | some r=>Rs κ x y r
  | none=>ML κ x y c.2.2.1 c.2.2.2.1 c.2.1/\c.2.2.1+1 < x.size/\c.2.2.2.1 < y.size/\b <= c.2.2.1+c.2.2.2.1
def St6 (κ:KeyKind) (jA:zT) (x y:Array zL) (b:Nat) (r:ForInStep C6) (u:zT):Prop :=
 match r with
 | .done c=>Lo6 κ jA x y b c u
 | .yield c=>c.1=none/\Lo6 κ jA x y b c u
theorem fu {c:C6} (t:κ.OneLt) (kd:kindOf jA=qT) (g:MG κ x y) (f:jd jA st) (h:ML κ x y c.2.2.1 c.2.2.2.1 c.2.1) (hi:c.2.2.1+1 < x.size) (o:c.2.2.2.1 < y.size) (r:b <= c.2.2.1+c.2.2.2.1+1) :
  wpS (zP prog w) A E s (lo1 x y mg c) (St6 κ jA x y b) st:=by
 unfold lo1;obtain⟨p,e⟩:=qm y o;obtain⟨q,n⟩:=qm x (show c.2.2.1 < x.size by lia);have kd:kindOf st=qT:=f.kd.trans kd;refine za (ql e (za (ql n (za (Yw t kd (QS g.ky e) (QS g.kx n) ?_)))));cases r:κ.blt (kyo κ p) (kyo κ q) with
 | true =>
  dsimp only;rw[if_pos rfl];have l:=h.b e λm z a b=>yN (Z6 r) (g.rx.at a n b);refine za (ql e ?_);by_cases c1:c.2.2.2.1+1=y.size
  ·rw[if_pos (by simpa using c1)];exact wpS_pure ⟨f,l.dn (.inr c1)⟩
  rw[if_neg (by simpa using c1)];split
  ·exact wpS_pure ⟨f,l,hi,by show c.2.2.2.1+1 < _;lia,by show b <= c.2.2.1+(c.2.2.2.1+1);lia⟩
  ·exact wpS_pure ⟨rfl,f,l,hi,by show c.2.2.2.1+1 < _;lia,by show b <= c.2.2.1+(c.2.2.2.1+1);lia⟩
 | false =>
  dsimp only;rw[if_neg (by decide)];have l:=h.a n λm z a b=>yN r (g.ry.at a e b);refine za (ql n ?_);by_cases c1:c.2.2.1+1+1=x.size
  ·rw[if_pos (by simpa using c1)];exact wpS_pure ⟨f,l.ls g c1⟩
  rw[if_neg (by simpa using c1)];split
  ·exact wpS_pure ⟨f,l,by show c.2.2.1+1+1 < _;lia,o,by show b <= c.2.2.1+1+c.2.2.2.1;lia⟩
  ·exact wpS_pure ⟨rfl,f,l,by show c.2.2.1+1+1 < _;lia,o,by show b <= c.2.2.1+1+c.2.2.2.1;lia⟩
def Lo5 (κ:KeyKind) (jA:zT) (x y:Array zL) (b:Nat) (c:C5) (u:zT):Prop :=
 jd jA u/\match c.1 with
  | some r=>Rs κ x y r
  | none=>ML κ x y c.2.2.1 c.2.2.2.1 c.2.1/\c.2.2.1+1 < x.size/\c.2.2.2.1 < y.size/\b <= c.2.2.1+c.2.2.2.1
theorem eE {c:C5}{R:ForInStep C5->zT->Prop} (q:κ.OneLt) (kd:kindOf jA=qT) (g:MG κ x y) (f:jd jA st) (h:ML κ x y c.2.2.1 c.2.2.2.1 c.2.1) (hi:c.2.2.1+1 < x.size) (t:c.2.2.2.1 < y.size) (v:b <= c.2.2.1+c.2.2.2.1)
  (hd:∀ r d u,jd jA u->Rs κ x y r->R (.done (some r,d)) u) (z:∀ d u,Lo5 κ jA x y (b+1) (none,d) u->R (.yield (none,d)) u) :
  wpS (zP prog w) A E s (loO x y c) R st:=by
 unfold loO;refine za (yF (yc (I:=λk d u=>d.1=none/\Lo6 κ jA x y (b+min k 1) d u) (Q:=Lo6 κ jA x y (b+1)) (λk d u _ B ⟨n,f,m⟩=>?step) (λd u ⟨n,o⟩=>?fin) ⟨rfl,f,h,hi,t,v⟩) λd u o=>?post)
 case step =>
  rw[n] at m;refine yF (fu (b:=b+1) q kd g f m.1 m.2.1 m.2.2.1 (by have:=m.2.2.2;lia)) λr u h=>?_;rw[show min (k+1) 1=1 by lia];cases r<;>exact h
 case fin=>rwa [show min (max 0 (x.size+y.size)) 1=1 by have:=g.nx;lia] at o
 case post =>
  obtain⟨C,d⟩:=d;cases C with
  | some r=>exact wpS_pure (hd r _ u o.1 o.2)
  | none =>
   refine za (x1 (k7 ⟨rfl,?_⟩));refine za (yF (yc (I:=λk e u=>e.1=none/\Lo7 κ jA x y (b+1) e u) (Q:=Lo7 κ jA x y (b+1)) (λk e u _ B ⟨n,f,p⟩=>?step2) (λe u ⟨n,l⟩=>l) ⟨rfl,o⟩) λe u l=>?post2)
   case step2 =>
    rw[n] at p;split<;>exact yF (LL q kd g f p.1 p.2.1 p.2.2.1 p.2.2.2) λr u h=>by cases r<;>exact h
   case post2 =>
    obtain⟨G,e⟩:=e;cases G with
    | some r=>exact wpS_pure (hd r _ u l.1 l.2)
    | none=>exact za (Vf l.1 λu f=>wpS_pure (z _ u ⟨f,l.2⟩))
theorem lK {Q:Array zL->zT->Prop} (C:κ.OneLt) (kd:kindOf st=qT) (g:MG κ x y) (h:∀ r u,jd st u->Rs κ x y r->Q r u):wpS (zP prog w) A E s (Wp x y) Q st:=by
 rw[fJ];refine za (x1 (k7 ⟨rfl,?_⟩));obtain⟨p,e⟩:=qm y (show 0 < y.size from g.ny);have J:=g.nx;have L:=g.ny;refine za (ql e ?_);have t:ML κ x y 0 1 #[p]:=by
  have G:ML κ x y 0 0 #[]:=⟨by simp,WM,λ_ h=>by simp at h,λ_ h=>by simp at h,by rw[J0];exact g.rx.pair,by rw[J0];exact g.ry.pair⟩
  obtain⟨q,B⟩:=qm x (show 0 < x.size from g.nx);exact G.b e λm z a b=>yN (g.fst p q e B) (g.rx.at a B b)
 by_cases c1:1=y.size
 ·rw[if_pos (by simpa using c1)];exact wpS_pure (h _ _ (jd.refl _) (t.dn (.inr c1)))
 rw[if_neg (by simpa using c1)];by_cases f:0+1=x.size
 ·rw[if_pos (by simpa using f)];exact wpS_pure (h _ _ (jd.refl _) (t.ls g f))
 rw[if_neg (by simpa using f)];refine za (Qb ?_);refine za (yF (yc (I:=λk c u=>c.1=none/\Lo5 κ st x y (k+1) c u) (Q:=λc u=>∃ r d,c=(some r,d)/\jd st u/\Rs κ x y r) (λk c u _ M ⟨n,o,f⟩=>?step) (λc u ⟨n,o,f⟩=>?fin) ⟨rfl,jd.refl _,t,by show 0+1 < _;lia,by show 1 < _;lia,by show 0+1 <= 0+1;lia⟩) λc u ⟨r,d,H,o,v⟩=>?post)
 case step =>
  rw[n] at f;exact eE (b:=k+1) C kd g o f.1 f.2.1 f.2.2.1 f.2.2.2 (λr d u o v=>⟨r,d,rfl,o,v⟩) λd u l=>⟨rfl,l⟩
 case fin=>rw[n] at f;have:=f.2;lia
 case post=>subst H;exact wpS_pure (h r u o v)
end
abbrev H7:=Option (Array zL)×Nat×Nat×Array zL×Nat×Nat×Nat
abbrev H6:=Option (Array zL)×Nat×Nat×Array zL×Nat×Nat
abbrev H5:=Option (Array zL)×Nat×Nat×Array zL×Nat
noncomputable def hiD (x y out:Array zL) (i j mg c e:Nat):StateT zT Sem (ForInStep H7):=do
 let p <- qq x (i - 1)
 if (i - 1 == 0)=true then pure (.done (some (dnH x y (out.push p) (i - 1) j),i - 1,j,out.push p,mg,c,e))
 else if (decide (c < 7) && decide (e < 7))=true then pure (.done (none,i - 1,j,out.push p,mg,c,e))
 else pure (.yield (none,i - 1,j,out.push p,mg,c,e))
noncomputable def hiC (x y out:Array zL) (i j mg c e:Nat):StateT zT Sem (ForInStep H7):=do
 let p <- qq x (i - 1)
 match <- Jq true p y 0 j (j - 1) with
 | some t =>
  if j - t > 0 then
   if (t == 1)=true then pure (.done (some (fsH x y (out++(y.extract t j).reverse) i t),i,t,out++(y.extract t j).reverse,mg,c,j - t))
   else if (t == 0)=true then pure (.done (some (dnH x y (out++(y.extract t j).reverse) i t),i,t,out++(y.extract t j).reverse,mg,c,j - t))
   else hiD x y (out++(y.extract t j).reverse) i t mg c (j - t)
  else hiD x y out i j mg c (j - t)
 | _=>pure (.done (some (dnH x y out i j),i,j,out,mg,c,e))
noncomputable def hiB (x y out:Array zL) (i j mg c e:Nat):StateT zT Sem (ForInStep H7):=do
 let p <- qq y (j - 1)
 if (j - 1 == 1)=true then pure (.done (some (fsH x y (out.push p) i (j - 1)),i,j - 1,out.push p,mg,c,e))
 else hiC x y (out.push p) i (j - 1) mg c e
noncomputable def hiA (x y out:Array zL) (i j mg e c:Nat):StateT zT Sem (ForInStep H7):=do
 Kw mg
 let p <- qq y (j - 1)
 match <- Jq false p x 0 i (i - 1) with
 | some t =>
  if i - t > 0 then
   if (t == 0)=true then pure (.done (some (dnH x y (out++(x.extract t i).reverse) t j),t,j,out++(x.extract t i).reverse,mg,i - t,c))
   else hiB x y (out++(x.extract t i).reverse) t j mg (i - t) c
  else hiB x y out i j mg (i - t) c
 | _=>pure (.done (some (dnH x y out i j),i,j,out,mg,e,c))
noncomputable def hi1 (x y:Array zL) (mg:Nat) (c:H6):StateT zT Sem (ForInStep H6):=do
 let p <- qq y (c.2.2.1 - 1)
 let q <- qq x (c.2.1 - 1)
 match <- lt' p q with
 | some r =>
  if r=true then do
   let q <- qq x (c.2.1 - 1)
   if (c.2.1 - 1 == 0)=true then pure (.done (some (dnH x y (c.2.2.2.1.push q) (c.2.1 - 1) c.2.2.1),c.2.1 - 1,c.2.2.1,c.2.2.2.1.push q,c.2.2.2.2.1+1,0))
   else if c.2.2.2.2.1+1 ≥ mg then pure (.done (none,c.2.1 - 1,c.2.2.1,c.2.2.2.1.push q,c.2.2.2.2.1+1,0))
   else pure (.yield (none,c.2.1 - 1,c.2.2.1,c.2.2.2.1.push q,c.2.2.2.2.1+1,0))
  else do
   let p <- qq y (c.2.2.1 - 1)
   if (c.2.2.1 - 1 == 1)=true then pure (.done (some (fsH x y (c.2.2.2.1.push p) c.2.1 (c.2.2.1 - 1)),c.2.1,c.2.2.1 - 1,c.2.2.2.1.push p,0,c.2.2.2.2.2+1))
   else if c.2.2.2.2.2+1 ≥ mg then pure (.done (none,c.2.1,c.2.2.1 - 1,c.2.2.2.1.push p,0,c.2.2.2.2.2+1))
   else pure (.yield (none,c.2.1,c.2.2.1 - 1,c.2.2.2.1.push p,0,c.2.2.2.2.2+1))
 | _=>pure (.done (some (dnH x y c.2.2.2.1 c.2.1 c.2.2.1),c.2.1,c.2.2.1,c.2.2.2.1,c.2.2.2.2.1,c.2.2.2.2.2))
noncomputable def hiO (x y:Array zL) (c:H5):StateT zT Sem (ForInStep H5):=do
 let d <- forIn [0:x.size+y.size] ((none,c.2.1,c.2.2.1,c.2.2.2.1,0,0):H6) λ_ d=>hi1 x y c.2.2.2.2 d
 match d.1 with
 | some r=>pure (.done (some r,d.2.1,d.2.2.1,d.2.2.2.1,c.2.2.2.2))
 | none=>do
  liftM (Zf "list.sort.gallop")
  let e <- forIn [0:x.size+y.size] ((none,d.2.1,d.2.2.1,d.2.2.2.1,c.2.2.2.2+1,d.2.2.2.2.1,d.2.2.2.2.2):H7) λ_ e =>
   if e.2.2.2.2.1 > 1 then hiA x y e.2.2.2.1 e.2.1 e.2.2.1 (e.2.2.2.2.1 - 1) e.2.2.2.2.2.1 e.2.2.2.2.2.2 else hiA x y e.2.2.2.1 e.2.1 e.2.2.1 e.2.2.2.2.1 e.2.2.2.2.2.1 e.2.2.2.2.2.2
  match e.1 with
  | some r=>pure (.done (some r,e.2.1,e.2.2.1,e.2.2.2.1,e.2.2.2.2.1))
  | none=>do
   Kw (e.2.2.2.2.1+1)
   pure (.yield (none,e.2.1,e.2.2.1,e.2.2.2.1,e.2.2.2.2.1+1))
theorem mD (x y:Array zL):Wr x y=(do
 liftM (Zf "list.sort.merge-hi")
 let p <- qq x (x.size - 1)
 if (x.size - 1 == 0)=true then pure (dnH x y #[p] (x.size - 1) y.size)
 else if (y.size == 1)=true then pure (fsH x y #[p] (x.size - 1) y.size)
 else do
  let z <- get
  let c <- forIn [0:x.size+y.size] ((none,x.size - 1,y.size,#[p],gallopOf z):H5) λ_ c=>hiO x y c
  match c.1 with
  | some r=>pure r
  | none=>liftM (unsupported "internal:list.sort.merge-bound" : Sem (Array zL))):=by
 show (sortPriv% PySem.Builtin.mergeHi) x y=_;refine congrArg (bind _) (funext λ_=>congrArg (bind _) (funext λp=>ite_congr rfl (λ_=>rfl) λ_=>ite_congr rfl (λ_=>rfl) λ_=>congrArg (bind _) (funext λz=>?_)));refine congr (congrArg bind (congrArg _ (funext λ_=>funext λc=>congrArg (bind _) (funext λd=>?_)))) (funext λc=>?_)
 ·obtain⟨f,d⟩:=d;cases f with
  | some r=>rfl
  | none=>exact congrArg (bind _) (funext λ_=>congrArg (bind _) (funext λe=>by obtain⟨g,e⟩:=e;cases g<;>rfl))
 ·obtain⟨c1,c⟩:=c;cases c1<;>rfl
def MH (κ:KeyKind) (x y:Array zL) (i j:Nat) (out:Array zL):Prop:=MI (λp q=>kl κ q p) (x.toList++y.toList) (x.toList.take i).reverse (y.toList.take j).reverse out.toList
section
variable {x y out:Array zL}{i j:Nat}{p:zL}
theorem MH.a (h:MH κ x y (i+1) j out) (e:x[i]? = some p) (c:∀ m q,m < j->y[m]? = some q->kl κ q p):MH κ x y i j (out.push p):=by
 unfold MH at *;rw[Bd e] at h;have:=MI.run (xs:=[p]) h λz f q g=>by
  obtain⟨m,a,_,b⟩:=Q4 g;rw[List.mem_singleton.mp f];exact c m q a b
 rwa [vn]
theorem MH.b (h:MH κ x y i (j+1) out) (e:y[j]? = some p) (c:∀ m q,m < i->x[m]? = some q->kl κ q p):MH κ x y i j (out.push p):=by
 unfold MH at *;rw[Bd e] at h;have:=MI.run (xs:=[p]) h.swap λz f q g=>by
  obtain⟨m,a,_,b⟩:=Q4 g;rw[List.mem_singleton.mp f];exact c m q a b
 rw[vn];exact this.swap
theorem MH.as {k:Nat} (l:k <= i) (h:MH κ x y i j out) (c:∀ m q,k <= m->m < i->x[m]? = some q->∀ e f,e < j->y[e]? = some f->kl κ f q):MH κ x y k j (out++(x.extract k i).reverse):=by
 unfold MH at *;rw[ae l] at h;have:=MI.run h λz g q n=>by
  obtain⟨m,a,_,b⟩:=Q4 n;rw[YB,BM] at g;obtain⟨e,o,r,_,t⟩:=X7 g;exact c e z o r t m q a b
 rwa [Zx]
theorem MH.bs {k:Nat} (l:k <= j) (h:MH κ x y i j out) (c:∀ m q,k <= m->m < j->y[m]? = some q->∀ e f,e < i->x[e]? = some f->kl κ f q):MH κ x y i k (out++(y.extract k j).reverse):=by
 unfold MH at *;have h:=h.swap;rw[ae l] at h;have:=MI.run h λz g q n=>by
  obtain⟨m,a,_,b⟩:=Q4 n;rw[YB,BM] at g;obtain⟨e,o,r,_,t⟩:=X7 g;exact c e z o r t m q a b
 rw[Zx];exact this.swap
theorem Yi (z:Array zL) (i:Nat):(z.extract 0 i).toList=z.toList.take i:=by
 rw[Uq,vc];rfl
theorem CF (a b c:List zL):a++b++c.reverse=(c++b.reverse++a.reverse).reverse:=by simp
theorem MH.dn (h:MH κ x y i j out) (c:i=0\/j=0):Rs κ x y (dnH x y out i j):=by
 unfold Rs dnH;rw[Zx,Zx,Yi,Yi,YB,CF];refine⟨(uZ _).trans h.swap.pm,List.pairwise_reverse.mpr (h.swap.fin λa ha b e=>?_)⟩;obtain⟨m,f,g,l⟩:=Q4 ha;obtain⟨n,o,q,r⟩:=Q4 e
 lia
theorem MH.fs (g:MG κ x y) (h:MH κ x y i j out) (c:j=1):Rs κ x y (fsH x y out i j):=by
 unfold Rs fsH;rw[Zx,Zx,Yi,Yi,YB,CF];refine⟨(uZ _).trans h.pm,List.pairwise_reverse.mpr (h.fin λa ha b f=>?_)⟩;obtain⟨m,r,t,n⟩:=Q4 ha;obtain⟨o,u,v,q⟩:=Q4 f;obtain rfl:o=0:=by lia
 obtain⟨l,e⟩:=qm x (i:=0) (by lia);exact yN (g.fst b l q e) (g.rx.at (ZV m) e n)
end
def Hi7 (κ:KeyKind) (e:zT) (x y:Array zL) (b:Nat) (c:H7) (u:zT):Prop :=
 jd e u/\match c.1 with
  | some r=>Rs κ x y r
  | none=>MH κ x y c.2.1 c.2.2.1 c.2.2.2.1/\1 <= c.2.1/\2 <= c.2.2.1/\c.2.1 <= x.size/\c.2.2.1 <= y.size/\c.2.1+c.2.2.1+b <= x.size+y.size
def Th7 (κ:KeyKind) (e:zT) (x y:Array zL) (b:Nat) (r:ForInStep H7) (u:zT):Prop :=
 match r with
 | .done c=>Hi7 κ e x y b c u
 | .yield c=>c.1=none/\Hi7 κ e x y b c u
section
variable {jA st:zT}{x y out:Array zL}{i j mg ac bc b:Nat}
theorem cL (g:MG κ x y) (l:jd jA st) (h:MH κ x y i j out) (hi:1 <= i) (r:2 <= j) (t:i <= x.size) (f:j <= y.size) (u:i+j+b <= x.size+y.size) (c:∀ p,x[i - 1]? = some p->∀ m q,m < j->y[m]? = some q->kl κ q p) :
  wpS (zP prog w) A E s (hiD x y out i j mg ac bc) (Th7 κ jA x y b) st:=by
 unfold hiD;obtain⟨p,e⟩:=qm x (show i - 1 < x.size by lia);obtain⟨n,rfl⟩:∃ n,i=n+1:=⟨i - 1,by lia⟩
 rw[we] at e c ⊢;have o:=h.a e (c p e);refine za (ql e ?_);by_cases c1:n=0
 ·rw[if_pos (by simpa using c1)];exact wpS_pure ⟨l,o.dn (.inl c1)⟩
 rw[if_neg (by simpa using c1)];split
 ·exact wpS_pure ⟨l,o,by show 1 <= n;lia,r,by show n <= _;lia,f,by show n+j+b <= _;lia⟩
 ·exact wpS_pure ⟨rfl,l,o,by show 1 <= n;lia,r,by show n <= _;lia,f,by show n+j+b <= _;lia⟩
theorem nA (C:κ.OneLt) (kd:kindOf st=qT) (g:MG κ x y) (n:jd jA st) (h:MH κ x y i j out) (hi:1 <= i) (G:2 <= j) (f:i <= x.size) (r:j <= y.size) (H:i+j+b <= x.size+y.size) :
  wpS (zP prog w) A E s (hiC x y out i j mg ac bc) (Th7 κ jA x y b) st:=by
 unfold hiC;obtain⟨p,e⟩:=qm x (show i - 1 < x.size by lia);refine za (ql e (za (kN C kd g.ky (QS g.kx e) (by lia) (g.ry.tail 0 _ (by lia)) (by lia) λk ⟨I,J,L⟩=>?_)));have B:∀ m q,m < k->y[m]? = some q->kl κ q p:=λm q a c=>by
  have:=J m a;unfold By at this;rw[if_pos rfl,qQ,qh c] at this;exact Z6 this
 have M:∀ m q,k <= m->m < j->y[m]? = some q->∀ o t,o < i->x[o]? = some t->kl κ t q:=λm q a b c o t U N=>by
  have:=L m a b;unfold By at this;rw[if_pos rfl,qQ,qh c] at this;exact yN (g.rx.at (show o <= i - 1 by lia) N e) this
 dsimp only;by_cases c1:j - k > 0
 ·rw[if_pos c1];have u:=h.bs I M;by_cases v:k=1
  ·rw[if_pos (by simpa using v)];exact wpS_pure ⟨n,u.fs g v⟩
  rw[if_neg (by simpa using v)];by_cases z:k=0
  ·rw[if_pos (by simpa using z)];exact wpS_pure ⟨n,u.dn (.inr z)⟩
  rw[if_neg (by simpa using z)];exact cL g n u hi (by lia) f (by lia) (by lia) λQ l m q a b=>by rw[e] at l;cases l;exact B m q a b
 ·rw[if_neg c1];obtain rfl:k=j:=by lia
  exact cL g n h hi G f r H λQ l m q a b=>by rw[e] at l;cases l;exact B m q a b
theorem bI (r:κ.OneLt) (kd:kindOf st=qT) (g:MG κ x y) (l:jd jA st) (h:MH κ x y i j out) (hi:1 <= i) (u:2 <= j) (f:i <= x.size) (t:j <= y.size) (v:i+j+b <= x.size+y.size) (c:∀ p,y[j - 1]? = some p->∀ m q,m < i->x[m]? = some q->kl κ q p) :
  wpS (zP prog w) A E s (hiB x y out i j mg ac bc) (Th7 κ jA x y b) st:=by
 unfold hiB;obtain⟨p,e⟩:=qm y (show j - 1 < y.size by lia);obtain⟨n,rfl⟩:∃ n,j=n+1:=⟨j - 1,by lia⟩
 rw[we] at e c ⊢;have o:=h.b e (c p e);refine za (ql e ?_);by_cases c1:n=1
 ·rw[if_pos (by simpa using c1)];exact wpS_pure ⟨l,o.fs g c1⟩
 rw[if_neg (by simpa using c1)];exact nA r kd g l o hi (by lia) f (by lia) (by lia)
theorem nP (r:κ.OneLt) (kd:kindOf jA=qT) (g:MG κ x y) (f:jd jA st) (h:MH κ x y i j out) (hi:1 <= i) (B:2 <= j) (t:i <= x.size) (l:j <= y.size) (H:i+j+b <= x.size+y.size) :
  wpS (zP prog w) A E s (hiA x y out i j mg ac bc) (Th7 κ jA x y b) st:=by
 unfold hiA;obtain⟨p,e⟩:=qm y (show j - 1 < y.size by lia);refine za (Vf f λu f=>?_);have kd:kindOf u=qT:=f.kd.trans kd;refine za (ql e (za (kN r kd g.kx (QS g.ky e) (by lia) (g.rx.tail 0 _ (by lia)) (by lia) λk ⟨I,J,L⟩=>?_)));have C:∀ m q,m < k->x[m]? = some q->kl κ q p:=λm q a c=>by
  have:=J m a;unfold By at this;rw[if_neg (by decide),qQ,qh c,X6] at this;exact this
 have M:∀ m q,k <= m->m < i->x[m]? = some q->∀ o v,o < j->y[o]? = some v->kl κ v q:=λm q a b c o v U N=>by
  have:=L m a b;unfold By at this;rw[if_neg (by decide),qQ,qh c,b4] at this;exact yN (g.ry.at (show o <= j - 1 by lia) N e) (Z6 this)
 dsimp only;by_cases c1:i - k > 0
 ·rw[if_pos c1];have G:=h.as I M;by_cases z:k=0
  ·rw[if_pos (by simpa using z)];exact wpS_pure ⟨f,G.dn (.inl z)⟩
  rw[if_neg (by simpa using z)];exact bI r kd g f G (by lia) B (by lia) l (by lia) λQ n m q a b=>by rw[e] at n;cases n;exact C m q a b
 ·rw[if_neg c1];obtain rfl:k=i:=by lia
  exact bI r kd g f h hi B t l H λQ n m q a b=>by rw[e] at n;cases n;exact C m q a b
def Hi6 (κ:KeyKind) (jA:zT) (x y:Array zL) (b:Nat) (c:H6) (u:zT):Prop :=
 jd jA u/\match c.1 with
  | some r=>Rs κ x y r
  | none=>MH κ x y c.2.1 c.2.2.1 c.2.2.2.1/\1 <= c.2.1/\2 <= c.2.2.1/\c.2.1 <= x.size/\c.2.2.1 <= y.size/\c.2.1+c.2.2.1+b <= x.size+y.size
def Th6 (κ:KeyKind) (jA:zT) (x y:Array zL) (b:Nat) (r:ForInStep H6) (u:zT):Prop :=
 match r with
 | .done c=>Hi6 κ jA x y b c u
 | .yield c=>c.1=none/\Hi6 κ jA x y b c u
theorem GD {c:H6} (B:κ.OneLt) (kd:kindOf jA=qT) (g:MG κ x y) (f:jd jA st) (h:MH κ x y c.2.1 c.2.2.1 c.2.2.2.1) (hi:1 <= c.2.1) (u:2 <= c.2.2.1) (r:c.2.1 <= x.size) (t:c.2.2.1 <= y.size) (C:c.2.1+c.2.2.1+b <= x.size+y.size+1) :
  wpS (zP prog w) A E s (hi1 x y mg c) (Th6 κ jA x y b) st:=by
 unfold hi1;obtain⟨c1,i,j,out,ac,bc⟩:=c;dsimp only at *;obtain⟨p,e⟩:=qm y (show j - 1 < y.size by lia);obtain⟨q,o⟩:=qm x (show i - 1 < x.size by lia);have kd:kindOf st=qT:=f.kd.trans kd;refine za (ql e (za (ql o (za (Yw B kd (QS g.ky e) (QS g.kx o) ?_)))));cases v:κ.blt (kyo κ p) (kyo κ q) with
 | true =>
  dsimp only;rw[if_pos rfl];obtain⟨n,rfl⟩:∃ n,i=n+1:=⟨i - 1,by lia⟩
  rw[we] at o ⊢;have l:=h.a o λm z a b=>yN (g.ry.at (show m <= j - 1 by lia) b e) (Z6 v);refine za (ql o ?_);by_cases c1:n=0
  ·rw[if_pos (by simpa using c1)];exact wpS_pure ⟨f,l.dn (.inl c1)⟩
  rw[if_neg (by simpa using c1)];split
  ·exact wpS_pure ⟨f,l,by show 1 <= n;lia,u,by show n <= _;lia,t,by show n+j+b <= _;lia⟩
  ·exact wpS_pure ⟨rfl,f,l,by show 1 <= n;lia,u,by show n <= _;lia,t,by show n+j+b <= _;lia⟩
 | false =>
  dsimp only;rw[if_neg (by decide)];obtain⟨n,rfl⟩:∃ n,j=n+1:=⟨j - 1,by lia⟩
  rw[we] at e ⊢;have l:=h.b e λm z a b=>yN (g.rx.at (show m <= i - 1 by lia) b o) v;refine za (ql e ?_);by_cases c1:n=1
  ·rw[if_pos (by simpa using c1)];exact wpS_pure ⟨f,l.fs g c1⟩
  rw[if_neg (by simpa using c1)];split
  ·exact wpS_pure ⟨f,l,hi,by show 2 <= n;lia,r,by show n <= _;lia,by show i+n+b <= _;lia⟩
  ·exact wpS_pure ⟨rfl,f,l,hi,by show 2 <= n;lia,r,by show n <= _;lia,by show i+n+b <= _;lia⟩
def Hi5 (κ:KeyKind) (jA:zT) (x y:Array zL) (b:Nat) (c:H5) (u:zT):Prop :=
 jd jA u/\match c.1 with
  | some r=>Rs κ x y r
  | none=>MH κ x y c.2.1 c.2.2.1 c.2.2.2.1/\1 <= c.2.1/\2 <= c.2.2.1/\c.2.1 <= x.size/\c.2.2.1 <= y.size/\c.2.1+c.2.2.1+b <= x.size+y.size
theorem eg {c:H5}{R:ForInStep H5->zT->Prop} (z:κ.OneLt) (kd:kindOf jA=qT) (g:MG κ x y) (H:c.1=none) (J:Hi5 κ jA x y b c st)
  (hd:∀ r d u,jd jA u->Rs κ x y r->R (.done (some r,d)) u) (L:∀ d u,Hi5 κ jA x y (b+1) (none,d) u->R (.yield (none,d)) u) :
  wpS (zP prog w) A E s (hiO x y c) R st:=by
 unfold hiO;obtain⟨f,h⟩:=J;rw[H] at h;refine za (yF (yc (I:=λk d u=>d.1=none/\Hi6 κ jA x y (b+min k 1) d u) (Q:=Hi6 κ jA x y (b+1)) (λk d u _ M ⟨n,f,B⟩=>?step) (λd u ⟨n,m⟩=>?fin) ⟨rfl,f,h⟩) λd u m=>?post)
 case step =>
  rw[n] at B;obtain⟨o,p,q,t,v,C⟩:=B;refine yF (GD (b:=b+1) z kd g f o p q t v (by lia)) λr u h=>?_;rw[show min (k+1) 1=1 by lia];cases r<;>exact h
 case fin=>rwa [show min (max 0 (x.size+y.size)) 1=1 by have:=g.nx;lia] at m
 case post =>
  obtain⟨N,d⟩:=d;cases N with
  | some r=>exact wpS_pure (hd r _ u m.1 m.2)
  | none =>
   refine za (x1 (k7 ⟨rfl,?_⟩));refine za (yF (yc (I:=λk e u=>e.1=none/\Hi7 κ jA x y (b+1) e u) (Q:=Hi7 κ jA x y (b+1)) (λk e u _ M ⟨n,f,G⟩=>?step2) (λe u ⟨n,l⟩=>l) ⟨rfl,m⟩) λe u l=>?post2)
   case step2 =>
    rw[n] at G;obtain⟨o,p,q,t,v,C⟩:=G;split<;>exact yF (nP z kd g f o p q t v C) λr u h=>by cases r<;>exact h
   case post2 =>
    obtain⟨U,e⟩:=e;cases U with
    | some r=>exact wpS_pure (hd r _ u l.1 l.2)
    | none=>exact za (Vf l.1 λu f=>wpS_pure (L _ u ⟨f,l.2⟩))
theorem FW {Q:Array zL->zT->Prop} (C:κ.OneLt) (kd:kindOf st=qT) (g:MG κ x y) (h:∀ r u,jd st u->Rs κ x y r->Q r u):wpS (zP prog w) A E s (Wr x y) Q st:=by
 rw[mD];refine za (x1 (k7 ⟨rfl,?_⟩));have G:=g.nx;have M:=g.ny;obtain⟨p,e⟩:=qm x (show x.size - 1 < x.size by lia);refine za (ql e ?_);have t:MH κ x y (x.size - 1) y.size #[p]:=by
  have H:MH κ x y (x.size - 1+1) y.size #[]:=by
   unfold MH;rw[Nat.sub_add_cancel G,kz (by simp),kz (by simp)];exact⟨by simpa using (uZ _).append (uZ _),WM,λ_ h=>by simp at h,λ_ h=>by simp at h,List.pairwise_reverse.mpr g.rx.pair,List.pairwise_reverse.mpr g.ry.pair⟩
  obtain⟨q,B⟩:=qm y (show y.size - 1 < y.size by lia);exact H.a e λm z a b=>yN (g.ry.at (show m <= y.size - 1 by lia) b B) (g.lst q p B e)
 by_cases c1:x.size - 1=0
 ·rw[if_pos (by simpa using c1)];exact wpS_pure (h _ _ (jd.refl _) (t.dn (.inl c1)))
 rw[if_neg (by simpa using c1)];by_cases f:y.size=1
 ·rw[if_pos (by simpa using f)];exact wpS_pure (h _ _ (jd.refl _) (t.fs g f))
 rw[if_neg (by simpa using f)];refine za (Qb ?_);refine za (yF (yc (I:=λk c u=>c.1=none/\Hi5 κ st x y (k+1) c u) (Q:=λc u=>∃ r d,c=(some r,d)/\jd st u/\Rs κ x y r) (λk c u _ N ⟨n,J⟩=>?step) (λc u ⟨n,o,f⟩=>?fin) ⟨rfl,jd.refl _,t,by show 1 <= x.size - 1;lia,by show 2 <= y.size;lia,by show x.size - 1 <= _;lia,zo _,by show x.size - 1+y.size+(0+1) <= _;lia⟩) λc u ⟨r,d,L,o,v⟩=>?post)
 case step=>exact eg (b:=k+1) C kd g n J (λr d u o v=>⟨r,d,rfl,o,v⟩) λd u l=>⟨rfl,l⟩
 case fin=>rw[n] at f;have:=f.2;lia
 case post=>subst L;exact wpS_pure (h r u o v)
end
noncomputable def ZD (a:Array zL) (o:Nat) (l:List (zL×Nat)):Array zL:=l.foldl (λa (p,j)=>a.setIfInBounds (o+j) p) a
theorem DI:∀ (l:List zL) (a:Array zL) (o n:Nat),o+n+l.length <= a.size->(ZD a o (l.zipIdx n)).toList=a.toList.take (o+n)++l++a.toList.drop (o+n+l.length)
 | [],a,o,n,h=>by show a.toList=_;simp
 | p::l,a,o,n,h=>by
  rw[List.zipIdx_cons];show (ZD (a.setIfInBounds (o+n) p) o (l.zipIdx (n+1))).toList=_;rw[zx] at h ⊢;rw[DI l _ o (n+1) (by rw[Array.size_setIfInBounds];lia),IV,show o+(n+1)=(o+n)+1 by lia];have c:o+n < a.toList.length:=by rw[jm];lia
  rw[List.take_set,List.drop_set_of_lt (by lia),Fg c,K9 _ _ (by rw[ZG];lia),ZG,show o+n - min (o+n) a.toList.length=0 by lia,show o+n+1+l.length=o+n+(l.length+1) by lia];simp
theorem Mu {M:xa}{σ:Type}{z:σ}{Q:PUnit->σ->Prop}{st:σ} (h:Q ⟨⟩ z):wpS M A E s (set z:StateT σ Sem PUnit) Q st:=by
 unfold wpS;rw[StateT.run_set];exact wpAny_pure ⟨rfl,h⟩
noncomputable def mgE (a:Array zL) (sa e sb c:Nat):StateT zT Sem Bool :=
 if (c == 0)=true then pure true else
 if e <= c then do
  let r <- Wp (a.extract sa sb) (a.extract sb (sb+c))
  modify λz=>setArr z (ZD (zM z) sa r.toList.zipIdx)
  let z <- get
  pure (Qi z).isNone
 else do
  let r <- Wr (a.extract sa sb) (a.extract sb (sb+c))
  modify λz=>setArr z (ZD (zM z) sa r.toList.zipIdx)
  let z <- get
  pure (Qi z).isNone
noncomputable def mgB (a:Array zL) (sa c sb e:Nat):StateT zT Sem Bool:=do
 let p <- qq a sb
 match <- Jq false p a sa c 0 with
 | some k =>
  if (c - k == 0)=true then pure true else do
   let q <- qq a (sa+k+(c - k) - 1)
   match <- Jq true q a sb e (e - 1) with
   | some e=>mgE a (sa+k) (c - k) sb e
   | _=>pure false
 | _=>pure false
theorem mI {st:zT}{i sa c f sb e g:Nat}{Q:Bool->zT->Prop} (j:(jQ st)[i]? = some (sa,c,f)) (l:(jQ st)[i+1]? = some (sb,e,g))
  (h:wpS (zP prog w) A E s (mgB (zM st) sa c sb e) Q (UF st (((jQ st).setIfInBounds i (sa,c+e,f)).eraseIdxIfInBounds (i+1)))):wpS (zP prog w) A E s (mergeAt' i) Q st:=by
 show wpS (zP prog w) A E s ((sortPriv% PySem.Builtin.mergeAt) i) Q st;refine za (Qb ?_);rw[j,l];exact za (Mu h)
theorem Rs.mem {y:Array zL} (h:Rs κ x y r) {p:zL}{m:Nat} (e:r[m]? = some p):(∃ k:Nat,x[k]? = some p)\/∃ k:Nat,y[k]? = some p:=by
 obtain⟨hm,rfl⟩:=Array.getElem?_eq_some_iff.mp e;have:=h.1.mem_iff.mp (show r[m]∈r.toList by simp);rcases List.mem_append.mp this with a | a
 ·obtain⟨k,c,f⟩:=List.mem_iff_getElem.mp a;exact .inl ⟨k,by rw[<- f];simpa using c⟩
 ·obtain⟨k,c,f⟩:=List.mem_iff_getElem.mp a;exact .inr ⟨k,by rw[<- f];simpa using c⟩
theorem Rs.le {y:Array zL} (h:Rs κ x y r) {i j:Nat}{p q:zL} (c:i < j) (e:r[i]? = some p) (f:r[j]? = some q):kl κ p q:=by
 obtain⟨hi,rfl⟩:=Array.getElem?_eq_some_iff.mp e;obtain⟨g,rfl⟩:=Array.getElem?_eq_some_iff.mp f;have:=List.pairwise_iff_getElem.mp h.2 i j (by rw[jm];exact hi) (by rw[jm];exact g) c;simpa using this
theorem Xb {a:Array zL}{lo hi k:Nat}{p:zL} (e:(a.extract lo hi)[k]? = some p):lo+k < hi/\a[lo+k]? = some p:=by
 obtain⟨f,rfl⟩:=Array.getElem?_eq_some_iff.mp e;have c:=f;rw[ki] at c;exact⟨by lia,by rw[FF,getElem?_pos a (lo+k) (by lia)]⟩
theorem Ri.ext {a:Array zL}{lo n:Nat} (g:lo+n <= a.size) (r:Ri κ a lo n):Ri κ (a.extract lo (lo+n)) 0 (a.extract lo (lo+n)).size:=by
 intro i j c f;have hs:(a.extract lo (lo+n)).size=n:=by rw[ki];lia
 rw[hs] at f;have e:∀ k,k < n->KK κ (a.extract lo (lo+n)) (0+k)=KK κ a (lo+k):=λk h=>VI (by rw[qQ,Array.getElem?_extract,if_pos (by lia)]);rw[e i (by lia),e j f];exact r i j c f
theorem Ri.sub {a:Array zL}{lo:Nat} (r:Ri κ a lo n) (k m:Nat) (h:k+m <= n):Ri κ a (lo+k) m:=λi j p q=>by
 have:=r (k+i) (k+j) (by lia) (by lia)
 rwa [<- Yz,<- Yz] at this
def Mrg (κ:KeyKind) (zR:Array zL) (sa n:Nat) (st c:zT):Prop:=ju zR sa (sa+n) st c/\Ri κ (zM c) sa n
theorem Gs {st l:zT}{sa k n h f:Nat}{r:Array zL} (g:SG zR st) (z:jd st l) (hn:sa+f+n <= zR.size) (hk:k <= f) (hb:h <= n) (N:Ri κ (zM st) sa f) (Q:Ri κ (zM st) (sa+f) n)
  (U:∀ i j,i < k->j < n->κ.kle (KK κ (zM st) (sa+i)) (KK κ (zM st) (sa+f+j))) (Y:∀ i j,i < f->h <= j->j < n->κ.kle (KK κ (zM st) (sa+i)) (KK κ (zM st) (sa+f+j)))
  (H:Rs κ ((zM st).extract (sa+k) (sa+f)) ((zM st).extract (sa+f) (sa+f+h)) r):Mrg κ zR sa (f+n) st (setArr l (ZD (zM l) (sa+k) r.toList.zipIdx)):=by
 have hz:=g.sz;have hl:r.size=f - k+h:=by
  have:=H.1.length_eq;rw[jk,jm,jm,jm,ki,ki] at this
  lia
 have pl:=DI r.toList (zM l) (sa+k) 0 (by rw[jm,z.ar];lia);rw[z.ar,aI,jm,hl] at pl;rw[z.ar];have at_:∀ m:Nat,(ZD (zM st) (sa+k) r.toList.zipIdx)[m]? = if sa+k <= m/\m < sa+f+h then r[m - (sa+k)]? else (zM st)[m]? := by
  intro m;rw[<- kG,pl,yI];by_cases c1:m < sa+k
  ·rw[yG (by rw[ZG,jm];lia),E6 c1,if_neg (by lia),kG]
  rw[ZQ (by rw[ZG,jm];lia),ZG,jm,Nat.min_eq_left (by lia)];by_cases B:m < sa+f+h
  ·rw[yG (by rw[jm];lia),if_pos (by lia),kG]
  ·rw[ZQ (by rw[jm];lia),if_neg (by lia),IF,jm,kG]
   congr 1;lia
 refine⟨⟨⟨?_,z.kd.trans g.kd,z.fl.trans g.fl⟩,λm hm=>?_,z.pd⟩,?_⟩
 ·refine n7 (Array.perm_iff_toList_perm.mpr ?_) g.pm;show (ZD (zM st) (sa+k) r.toList.zipIdx).toList.Perm _;rw[pl];have e:(zM st).toList=(zM st).toList.take (sa+k)++(((zM st).extract (sa+k) (sa+f)).toList++((zM st).extract (sa+f) (sa+f+h)).toList)++(zM st).toList.drop (sa+k+(f - k+h)):=by
   have e1:=YK (a:=zM st) (i:=sa+f) (k:=h);have L:=YK (a:=zM st) (i:=sa+k) (k:=f - k);rw[show sa+k+(f - k)=sa+f by lia] at L;rw[show sa+k+(f - k+h)=sa+f+h by lia,yI,yI,<- e1,<- L,Aa]
  conv=>rhs;rw[e]
  exact (H.1.append_left _).append_right _
 ·show (ZD (zM st) (sa+k) r.toList.zipIdx)[m]? = _;rw[at_,if_neg (by lia)]
 ·show Ri κ (ZD (zM st) (sa+k) r.toList.zipIdx) sa (f+n);have C:∀ i,i < k->KK κ (ZD (zM st) (sa+k) r.toList.zipIdx) (sa+i)=KK κ (zM st) (sa+i):=λi hi=>VI (by rw[at_,if_neg (by lia)]);have o:∀ i,f+h <= i->KK κ (ZD (zM st) (sa+k) r.toList.zipIdx) (sa+i)=KK κ (zM st) (sa+i):=λi hi=>VI (by rw[at_,if_neg (by lia)]);have u:∀ i,k <= i->i < f+h->∃ p,r[i - k]? = some p/\KK κ (ZD (zM st) (sa+k) r.toList.zipIdx) (sa+i)=kyo κ p/\∃ m,k <= m/\m < f+h/\kyo κ p=KK κ (zM st) (sa+m):=λi hi t=>by
   obtain⟨p,e⟩:=qm r (show i - k < r.size by lia);refine⟨p,e,qh (by rw[at_,if_pos (by lia),show sa+i - (sa+k)=i - k by lia];exact e),?_⟩;rcases Rs.mem H e with ⟨m,v⟩ | ⟨m,v⟩
   ·obtain⟨c1,B⟩:=Xb v;exact⟨k+m,by lia,by lia,by rw[<- Yz];exact (qh B).symm⟩
   ·obtain⟨c1,B⟩:=Xb v;exact⟨f+m,by lia,by lia,by rw[<- Yz];exact (qh B).symm⟩
  have x:∀ i m,i < k->m < f+n->i <= m->κ.kle (KK κ (zM st) (sa+i)) (KK κ (zM st) (sa+m)):=λi m hi hm t=>by
   by_cases c:m < f
   ·exact N i m t c
   ·have:=U i (m - f) hi (by lia)
    rwa [show sa+f+(m - f)=sa+m by lia] at this
  have G:∀ m j,f+h <= j->j < f+n->m <= j->κ.kle (KK κ (zM st) (sa+m)) (KK κ (zM st) (sa+j)):=λm j hi hm t=>by
   by_cases c:m < f
   ·have:=Y m (j - f) c (by lia) (by lia)
    rwa [show sa+f+(j - f)=sa+j by lia] at this
   ·have:=Q (m - f) (j - f) (by lia) (by lia)
    rwa [show sa+f+(j - f)=sa+j by lia,show sa+f+(m - f)=sa+m by lia] at this
  intro i j y t;by_cases c1:i < k
  ·rw[C i c1];by_cases d1:j < k
   ·rw[C j d1];exact x i j c1 t y
   by_cases I:j < f+h
   ·obtain⟨p,_,e,m,m1,m2,v⟩:=u j (by lia) I;rw[e,v];exact x i m c1 (by lia) (by lia)
   ·rw[o j (by lia)];exact x i j c1 t y
  by_cases B:i < f+h
  ·obtain⟨p,M,e,m,m1,m2,v⟩:=u i (by lia) B;by_cases I:j < f+h
   ·obtain⟨q,J,e',_⟩:=u j (by lia) I;rw[e,e'];by_cases c:i=j
    ·subst c;rw[M] at J;cases J;exact Jd _
    ·exact Rs.le H (show i - k < j - k by lia) M J
   ·rw[e,v,o j (by lia)];exact G m j (by lia) t (by lia)
  ·rw[o i (by lia),o j (by lia)];exact G i j (by lia) t y
theorem SG.has {st:zT} (h:SG zR st) (c:KeysOf κ zR) {p:zL} (e:p∈(zM st).toList):yK κ p:=c p ((Array.perm_iff_toList_perm.mp h.pm).mem_iff.mp e)
theorem be {a:Array zL}{i k:Nat}{y:zL} (h:y∈(a.extract i k).toList):y∈a.toList:=by
 obtain⟨j,_,_,c,e⟩:=X7 h;obtain⟨c,rfl⟩:=Array.getElem?_eq_some_iff.mp e;simp
theorem Ri.join {a:Array zL}{sa:Nat} (l:Ri κ a sa e) (m:Ri κ a (sa+e) h) (f:∀ i j,i < e->j < h->κ.kle (KK κ a (sa+i)) (KK κ a (sa+e+j))):Ri κ a sa (e+h):=λi j g n=>by
 by_cases c:j < e
 ·exact l i j g c
 by_cases d:i < e
 ·have:=f i (j - e) d (by lia)
  rwa [show sa+e+(j - e)=sa+j by lia] at this
 ·have:=m (i - e) (j - e) (by lia) (by lia)
  rwa [show sa+e+(j - e)=sa+j by lia,show sa+e+(i - e)=sa+i by lia] at this
theorem Ge {st:zT}{sa k e l f:Nat}{Q:Bool->zT->Prop} (H:κ.OneLt) (I:KeysOf κ zR) (g:SG zR st) (L:sa+e+l <= zR.size) (hk:k < e) (M:f <= l) (B:Ri κ (zM st) sa e) (C:Ri κ (zM st) (sa+e) l)
  (N:∀ i j,i < k->j < l->κ.kle (KK κ (zM st) (sa+i)) (KK κ (zM st) (sa+e+j))) (J:∀ i j,i < e->f <= j->j < l->κ.kle (KK κ (zM st) (sa+i)) (KK κ (zM st) (sa+e+j)))
  (U:f≠0->κ.kle (KK κ (zM st) (sa+e)) (KK κ (zM st) (sa+k))) (Y:f≠0->κ.kle (KK κ (zM st) (sa+e+(f - 1))) (KK κ (zM st) (sa+e - 1)))
  (h:∀ o,Mrg κ zR sa (e+l) st o->Q true o):wpS (zP prog w) A E s (mgE (zM st) (sa+k) (e - k) (sa+e) f) Q st:=by
 unfold mgE;by_cases c:f=0
 ·rw[if_pos (by simpa using c)];exact wpS_pure (h _ ⟨ju.refl g,B.join C λi j a b=>J i j a (by lia) b⟩)
 rw[if_neg (by simpa using c)];have hz:=g.sz;have s1:((zM st).extract (sa+k) (sa+e)).size=e - k:=by rw[ki];lia
 have s2:((zM st).extract (sa+e) (sa+e+f)).size=f:=by rw[ki];lia
 have mg:MG κ ((zM st).extract (sa+k) (sa+e)) ((zM st).extract (sa+e) (sa+e+f)):=by
  refine⟨λp G=>g.has I (be G),λp G=>g.has I (be G),?_,Ri.ext (by lia) (C.sub 0 f (by lia)),by lia,by lia,λp q v x=>?_,λp q v x=>?_⟩
  ·have:=Ri.ext (lo:=sa+k) (n:=e - k) (by lia) (B.sub k (e - k) (by lia))
   rwa [show sa+k+(e - k)=sa+e by lia] at this
  ·have y:=(Xb v).2;have t:=(Xb x).2;have:=U c;rw[aI] at y t
   rwa [qh y,qh t] at this
  ·rw[s2] at v;rw[s1] at x;have y:=(Xb v).2;have t:=(Xb x).2;rw[show sa+k+(e - k - 1)=sa+e - 1 by lia] at t;have:=Y c
   rwa [qh y,qh t] at this
 have fin:∀ r u,jd st u->Rs κ ((zM st).extract (sa+k) (sa+e)) ((zM st).extract (sa+e) (sa+e+f)) r->wpS (zP prog w) A E s (do modify λz=>setArr z (ZD (zM z) (sa+k) r.toList.zipIdx);let z <- get;pure (Qi z).isNone) Q u:=λr u sg rs=>by
  refine za (JP (za (Qb (wpS_pure ?_))));have m:=Gs g sg L (by lia) M B C N J rs;have:=h _ m;rw[show (Qi (setArr u (ZD (zM u) (sa+k) r.toList.zipIdx))).isNone=true by rw[m.1.ok.fl];rfl];exact this
 split
 ·exact za (lK H g.kd mg fin)
 ·exact za (FW H g.kd mg fin)
theorem D2 {st:zT}{sa f m:Nat}{Q:Bool->zT->Prop} (y:κ.OneLt) (o:KeysOf κ zR) (g:SG zR st) (B:sa+f+m <= zR.size) (J:1 <= f) (L:1 <= m) (u:Ri κ (zM st) sa f) (v:Ri κ (zM st) (sa+f) m)
  (h:∀ r,Mrg κ zR sa (f+m) st r->Q true r):wpS (zP prog w) A E s (mgB (zM st) sa f (sa+f) m) Q st:=by
 unfold mgB;have M:=g.sz;obtain⟨p,e⟩:=qm (zM st) (show sa+f < (zM st).size by lia);refine za (ql e (za (kN y g.kd (λp l=>g.has o l) (QS (λp l=>g.has o l) e) (by lia) u (by lia) λk ⟨N,C,G⟩=>?_)));have z:∀ i j,i < k->j < m->κ.kle (KK κ (zM st) (sa+i)) (KK κ (zM st) (sa+f+j)):=λi j hi H=>by
  have:=C i hi;unfold By at this;rw[if_neg (by decide),X6] at this;have a:=v 0 j (by lia) H;rw[aI,qh e] at a;exact yN this a
 dsimp only;by_cases c:f - k=0
 ·rw[if_pos (by simpa using c)];exact wpS_pure (h _ ⟨ju.refl g,u.join v λi j a b=>z i j (by lia) b⟩)
 rw[if_neg (by simpa using c),show sa+k+(f - k) - 1=sa+f - 1 by lia];obtain⟨q,x⟩:=qm (zM st) (show sa+f - 1 < (zM st).size by lia);refine za (ql x (za (kN y g.kd (λp l=>g.has o l) (QS (λp l=>g.has o l) x) (by lia) v (by lia) λt ⟨t1,t2,I⟩=>?_)));refine Ge y o g B (by lia) t1 u v z (λi j a b d=>?_) (λn=>?_) (λn=>?_) h
 ·have:=I j b d;unfold By at this;rw[if_pos rfl] at this;have a:=u i (f - 1) (by lia) (by lia);rw[show sa+(f - 1)=sa+f - 1 by lia,qh x] at a;exact yN a this
 ·have:=G k (zo _) (by lia);unfold By at this;rw[if_neg (by decide),b4] at this;rw[qh e];exact Z6 this
 ·have:=t2 (t - 1) (by lia);unfold By at this;rw[if_pos rfl] at this;rw[qh x];exact Z6 this
noncomputable def zZ (κ:KeyKind) (xs:Array zL):List (Nat×Nat×Nat)->Nat->Nat->Prop
 | [],lo,hi=>lo=hi
 | r::t,lo,hi=>r.1=lo/\1 <= r.2.1/\Ri κ xs lo r.2.1/\zZ κ xs t (lo+r.2.1) hi
theorem zZ.app:∀ {a b:List (Nat×Nat×Nat)}{lo hi:Nat},zZ κ xs (a++b) lo hi ↔ ∃ m,zZ κ xs a lo m/\zZ κ xs b m hi
 | [],b,lo,hi=>⟨λh=>⟨lo,rfl,h⟩,λ⟨m,e,h⟩=>by cases e;exact h⟩
 | r::a,b,lo,hi=>⟨λ⟨c,f,g,i⟩=>by obtain⟨m,j,l⟩:=zZ.app.mp i;exact⟨m,⟨c,f,g,j⟩,l⟩,λ⟨m,⟨c,f,g,i⟩,j⟩=>⟨c,f,g,zZ.app.mpr ⟨m,i,j⟩⟩⟩
theorem zZ.len:∀ {a:List (Nat×Nat×Nat)}{lo hi:Nat},zZ κ xs a lo hi->lo+a.length <= hi
 | [],lo,hi,h=>by cases h;exact zo _
 | r::a,lo,hi,⟨e,f,g,c⟩=>by have:=c.len;rw[zx];lia
theorem Ri.same {ys:Array zL}{lo:Nat} (h:Ri κ xs lo n) (e:∀ k,lo <= k->k < lo+n->ys[k]? = xs[k]?):Ri κ ys lo n:=λi j a b=>by
 rw[VI (e (lo+i) (by lia) (by lia)),VI (e (lo+j) (by lia) (by lia))];exact h i j a b
theorem zZ.same {ys:Array zL}:∀ {a:List (Nat×Nat×Nat)}{lo hi:Nat},zZ κ xs a lo hi->(∀ k,lo <= k->k < hi->ys[k]? = xs[k]?)->zZ κ ys a lo hi
 | [],lo,hi,h,_=>h
 | r::a,lo,hi,⟨f,g,i,c⟩,e=>by
  have:=c.len;exact⟨f,g,i.same λk a b=>e k a (by lia),c.same λk a b=>e k (by lia) b⟩
theorem zZ.mod {c:Nat}:∀ {a:List (Nat×Nat×Nat)}{lo hi:Nat} (k:Nat),zZ κ xs a lo hi->zZ κ xs (a.modify k λr=>(r.1,r.2.1,c)) lo hi
 | [],lo,hi,k,h=>by rw[List.modify_nil];exact h
 | r::a,lo,hi,0,h=>by rw[List.modify_zero_cons];exact h
 | r::a,lo,hi,k+1,⟨e,f,g,i⟩=>by rw[List.modify_succ_cons];exact⟨e,f,g,i.mod k⟩
structure PR (κ:KeyKind) (zR:Array zL) (lo:Nat) (st:zT):Prop where
 ok:SG zR st
 rn:zZ κ (zM st) (jQ st).toList 0 lo
theorem wg {st:zT}{i lo:Nat}{Q:Bool->zT->Prop} (G:κ.OneLt) (H:KeysOf κ zR) (I:PR κ zR lo st) (hl:lo <= zR.size) (hi:i+1 < (jQ st).size)
  (h:∀ c,PR κ zR lo c->(jQ c).size+1=(jQ st).size->(∀ k,lo <= k->(zM c)[k]? = (zM st)[k]?)->Q true c):wpS (zP prog w) A E s (mergeAt' i) Q st:=by
 obtain⟨g,rn⟩:=I;obtain⟨⟨sa,f,p⟩,u⟩:∃ r,(jQ st)[i]? = some r:=⟨_,getElem?_pos (jQ st) i (by lia)⟩
 obtain⟨⟨sb,j,J⟩,v⟩:∃ r,(jQ st)[i+1]? = some r:=⟨_,getElem?_pos (jQ st) (i+1) hi⟩
 have e:(jQ st).toList=(jQ st).toList.take i++(sa,f,p)::(sb,j,J)::(jQ st).toList.drop (i+2):=by
  obtain⟨M,c1⟩:=Array.getElem?_eq_some_iff.mp u;obtain⟨N,U⟩:=Array.getElem?_eq_some_iff.mp v;have x:=kX (l:=(jQ st).toList) (i:=i) (by rw[jm];exact M);have y:=kX (l:=(jQ st).toList) (i:=i+1) (by rw[jm];exact N);rw[YT,c1] at x;rw[YT,U] at y;rw[<- y,<- x,Aa]
 generalize Y:(jQ st).toList.take i=L at e;generalize hR:(jQ st).toList.drop (i+2)=R at e;have q:L.length=i:=by rw[<- Y,ZG,jm];lia
 rw[e] at rn;obtain⟨m,z,n,n1,B,o,n2,C,t⟩:=zZ.app.mp rn;dsimp only at n n1 B o n2 C t;subst n o;have len:=t.len;refine mI u v (D2 (st:=UF st (((jQ st).setIfInBounds i (sa,f+j,p)).eraseIdxIfInBounds (i+1))) G H ⟨g.pm,g.kd,g.fl⟩ (by lia) n1 n2 B C λc ⟨kp,ri⟩=>?_);have pl:(jQ c).toList=L++(sa,f+j,p)::R:=by
  rw[kp.pd];show (((jQ st).setIfInBounds i (sa,f+j,p)).eraseIdxIfInBounds (i+1)).toList=_;rw[Array.toList_eraseIdxIfInBounds,IV,e];subst q;rw[K9 _ _ (zo _),List.eraseIdx_append_of_length_le (by lia),Fq,d0];rfl
 have ll:=z.len;refine h c ⟨kp.ok,?_⟩ ?_ λk hk=>kp.out k (.inr (by lia))
 ·rw[pl];exact zZ.app.mpr ⟨sa,z.same λk _ b=>kp.out k (.inl b),rfl,by show 1 <= f+j;lia,ri,by rw[<- Yz];exact t.same λk a _=>kp.out k (.inr (by lia))⟩
 ·rw[<- jm,<- jm,pl,e];simp;lia
theorem PR.push {lo n:Nat}{st:zT} (h:PR κ zR lo st) (c:1 <= n) (r:Ri κ (zM st) lo n):PR κ zR (lo+n) (UF st ((jQ st).push (lo,n,0))) :=
 ⟨⟨h.ok.pm,h.ok.kd,h.ok.fl⟩,by
  show zZ κ (zM st) ((jQ st).push (lo,n,0)).toList 0 (lo+n);rw[vn];exact zZ.app.mpr ⟨lo,h.rn,rfl,c,r,rfl⟩⟩
theorem PR.modi {lo k c:Nat}{st:zT} (h:PR κ zR lo st):PR κ zR lo (UF st ((jQ st).modify k λ(a,b,_)=>(a,b,c))) :=
 ⟨⟨h.ok.pm,h.ok.kd,h.ok.fl⟩,by
  show zZ κ (zM st) ((jQ st).modify k λ(a,b,_)=>(a,b,c)).toList 0 lo;rw[Array.toList_modify];exact h.rn.mod k⟩
theorem Im {st:zT}{Q:Unit->zT->Prop} (G:κ.OneLt) (H:KeysOf κ zR) (J:SBase zR st) (Y:2 <= zR.size)
  (h:∀ v,(zM v).Perm zR->Qi v=none->ak κ (zM v) zR.size->Q () v):wpS (zP prog w) A E s sortRuns' Q st:=by
 rw[sortRuns'_eq];refine za (Qb ?_);dsimp only;simp only[J.size];refine za (yF (yc (I:=λx c u=>∃ lo,c=(none,lo)/\x <= lo/\lo <= zR.size/\PR κ zR lo u) (Q:=λc u=>c=(none,zR.size)/\PR κ zR zR.size u)
  (λx c u _ hx ⟨lo,g,h1,Y,l⟩=>?step) (λc u ⟨lo,g,h1,Y,l⟩=>?fin) ⟨0,rfl,zo _,ZV _,⟨J.perm,J.kind,J.failed⟩,by rw[J.pend];rfl⟩) λc u ⟨g,l⟩=>?post)
 case fin =>
  obtain rfl:lo=zR.size:=by lia
  exact⟨g,l⟩
 case step =>
  subst g;dsimp only;by_cases c:lo ≥ zR.size
  ·rw[if_pos c];obtain rfl:lo=zR.size:=by lia
   exact wpS_pure ⟨rfl,l⟩
  rw[if_neg c];refine za (lA G H (by lia) (by lia) l.ok λm z kp m1 m2 C=>?_);have o:PR κ zR lo z:=⟨kp.ok,by rw[kp.pd];exact l.rn.same λk _ b=>kp.out k (.inl b)⟩
  dsimp only;by_cases d:m < ug zR.size zR.size 0
  ·rw[if_pos d];refine za (x1 (k7 ⟨rfl,?_⟩));refine za (Lg G H (by lia) (by lia) kp.ok C λz B L=>?_);simp only[xA,jv,if_false];have o:PR κ zR lo z:=⟨B.ok,by rw[B.pd];exact o.rn.same λk _ b=>B.out k (.inl b)⟩
   have p:1 <= min (zR.size - lo) (ug zR.size zR.size 0):=by lia
   have q:lo+min (zR.size - lo) (ug zR.size zR.size 0) <= zR.size:=by lia
   generalize min (zR.size - lo) (ug zR.size zR.size 0)=n at *;have C:=L;refine za (Qb ?_);rcases hb:(jQ z).back? with _ | ⟨s1,n1,q1⟩
   ·dsimp only;exact za (JP (wpS_pure ⟨_,rfl,by lia,q,o.push p C⟩))
   ·dsimp only;refine za (yF (yc (I:=λ_ c u=>c=(none,())/\PR κ zR lo u/\Ri κ (zM u) lo n) (Q:=λc u=>c=(none,())/\PR κ zR lo u/\Ri κ (zM u) lo n)
     (λy c u _ hy ⟨g,e,f⟩=>?st2) (λc u M=>M) ⟨rfl,o,C⟩) λc u ⟨g,e,f⟩=>?po2)
    case st2 =>
     subst g;refine za (Qb ?_);by_cases c1:(jQ u).size > 1
     ·rw[if_pos c1];rcases hq:(jQ u)[(jQ u).size - 2]? with _ | ⟨s2,n2,q2⟩
      ·exact wpS_pure ⟨rfl,e,f⟩
      ·dsimp only;split
       ·exact wpS_pure ⟨rfl,e,f⟩
       ·refine za (wg G H e (by lia) (by lia) λz t _ N=>?_);simp only[xA,jv,if_false];exact wpS_pure ⟨rfl,t,f.same λk a _=>N k a⟩
     ·rw[if_neg c1];exact wpS_pure ⟨rfl,e,f⟩
    case po2 =>
     subst g;exact za (JP (za (JP (wpS_pure ⟨_,rfl,by lia,q,e.modi.push p f⟩))))
  ·rw[if_neg d];have q:lo+m <= zR.size:=by lia
   have p:=m1;generalize m=n at *;refine za (Qb ?_);rcases hb:(jQ z).back? with _ | ⟨s1,n1,q1⟩
   ·dsimp only;exact za (JP (wpS_pure ⟨_,rfl,by lia,q,o.push p C⟩))
   ·dsimp only;refine za (yF (yc (I:=λ_ c u=>c=(none,())/\PR κ zR lo u/\Ri κ (zM u) lo n) (Q:=λc u=>c=(none,())/\PR κ zR lo u/\Ri κ (zM u) lo n)
     (λy c u _ hy ⟨g,e,f⟩=>?st2) (λc u M=>M) ⟨rfl,o,C⟩) λc u ⟨g,e,f⟩=>?po2)
    case st2 =>
     subst g;refine za (Qb ?_);by_cases c1:(jQ u).size > 1
     ·rw[if_pos c1];rcases hq:(jQ u)[(jQ u).size - 2]? with _ | ⟨s2,n2,q2⟩
      ·exact wpS_pure ⟨rfl,e,f⟩
      ·dsimp only;split
       ·exact wpS_pure ⟨rfl,e,f⟩
       ·refine za (wg G H e (by lia) (by lia) λz t _ N=>?_);simp only[xA,jv,if_false];exact wpS_pure ⟨rfl,t,f.same λk a _=>N k a⟩
     ·rw[if_neg c1];exact wpS_pure ⟨rfl,e,f⟩
    case po2 =>
     subst g;exact za (JP (za (JP (wpS_pure ⟨_,rfl,by lia,q,e.modi.push p f⟩))))
 case post =>
  subst g;dsimp only;have pl:=l.rn.len;rw[qQ,jm] at pl;refine za (yF (yc (I:=λk c u=>c=(none,())/\PR κ zR zR.size u/\(jQ u).size <= max 1 (zR.size - k)) (Q:=λc u=>c=(none,())/\PR κ zR zR.size u/\(jQ u).size <= 1)
   (λk c u _ hk ⟨g,l,hs⟩=>?st3) (λc u ⟨g,l,hs⟩=>⟨g,l,by lia⟩) ⟨rfl,l,by lia⟩) λc u ⟨g,l,hs⟩=>?po3)
  case st3 =>
   subst g;refine za (Qb ?_);by_cases c1:(jQ u).size <= 1
   ·rw[if_pos c1];exact wpS_pure ⟨rfl,l,c1⟩
   rw[if_neg c1];split
   all_goals
    refine za (wg G H l (zo _) (by split<;>lia) λz t e4 _=>?_);simp only[xA,jv,if_false];exact wpS_pure ⟨rfl,t,by lia⟩
  case po3 =>
   subst g;refine wpS_pure (h u l.ok.pm l.ok.fl ?_);have rn:=l.rn
   match hp:(jQ u).toList,rn with
   | [],rn=>have:0=zR.size:=rn;lia
   | [r],⟨r1,r2,r3,r4⟩ =>
    have:0+r.2.1=zR.size:=r4;intro i j U hj;have:=r3 i j U (by lia)
    rwa [qQ,qQ] at this
   | _::_::_,_=>rw[<- jm,hp] at hs;simp at hs
theorem LZ {a:zE}{vs:List zD}{n:Nat}{P:Fin->zJ->Prop} (t:κ.OneLt) (f:s.heap.get? a=some (ZO "list" vs.toArray n)) (v:KeysOf κ (Xa vs))
  (l:∀ x y r,vs=x::y::r->keyKind' (x::y::r).toArray=pure qT) (L:vs.length <= 16777216)
  (h:∀ u:zT,(zM u).Perm (Xa vs)->ak κ (zM u) (Xa vs).size->P (.done (.ret .none)) { s with heap:=sortedHeap s.heap a vs ((zM u).map (·.2)) }) :
  wpAny (zP prog w) A (Builtin.«list.sort» ⟨[.ref a],[]⟩) P E s:=by
 rw[list_sort_plain];have o:a < s.heap.objs.size:=jR f;refine zS (listItems_at f rfl (zS (av f rfl ?_)));obtain⟨m,p⟩:∃ m,(s.heap.update a (QU λ_=>#[])).get? a=some (ZO "list" #[] m):=⟨_,get?_update_seq f (λ_=>#[])⟩
 refine zS (CN p rfl (zS (wpAny_newTuple (zS (wpAny_newList (xx ?_))))));have g:(((s.heap.update a (QU λ_=>#[])).push (ZO "tuple" vs.toArray 0)).push (ZO "list" #[] 0)).get? a=some (ZO "list" #[] m):=by
  rw[lx _ _ _ (by rw[size_push',DS];exact je (uE o)),lx _ _ _ (by rw[DS];exact je o)];exact p
 show wpAny (zP prog w) A _ P E { s with heap:=((s.heap.update a (QU λ_=>#[])).push (ZO "tuple" vs.toArray 0)).push (ZO "list" #[] 0) };dsimp only;have z:vs.toArray.size=vs.length:=by simp
 by_cases c:vs.toArray.size < 2
 ·rw[if_pos c,if_pos c];refine zS (wpAny_pure ?_);rw[StateT.run_pure];refine zS (wpAny_pure ?_);dsimp only;refine zS (CN g rfl (zS (av g rfl ?_ (hsz2:=by rw[Fs];show (Xa vs).size <= _;rw[wY,Z8];lia))));simp only[bne_self_eq_false,jv,if_false];refine wpAny_pure (h (cx general' (vs.toArray.zip vs.toArray) #[] 7 none) (iY _) λi j B C=>?_);rw[wY] at C;obtain rfl:i=j:=by lia
  exact Jd _
 ·rw[if_neg c,if_neg c]
  match vs,z,c with
  | [],_,c=>simp at c
  | [_],_,c=>simp at c
  | x::y::r,_,_ =>
  rw[l _ _ _ rfl];refine zS (wpAny_pure (zS (wpAny_mono (Im t (zR:=Xa (x::y::r)) (st:=cx qT ((x::y::r).toArray.zip (x::y::r).toArray) #[] 7 none)
   (Q:=λ_ u=>(zM u).Perm (Xa (x::y::r))/\Qi u=none/\ak κ (zM u) (Xa (x::y::r)).size) v ⟨iY _,rfl,rfl,rfl⟩ (by rw[wY];simp) λu G H I=>⟨G,H,I⟩) ?_ λ_ _ e=>e)))
  rintro ⟨⟨⟩,u⟩ _ ⟨rfl,q,J,hs⟩
  dsimp only;refine zS (CN g rfl (zS (av g rfl ?_ (hsz2:=jM (vX ((Fs ..).trans (q.size_eq.trans (wY _)))) (by rw[Z8];lia)))));rw[J];simp only[bne_self_eq_false,jv,if_false];exact wpAny_pure (h u q hs)
theorem mL {l:zE}{vs:List zD}{Q:zD->zJ->Prop} (j:s.heap.IsList l vs.toArray) (f:vf vs n) (o:vs.length <= 16777216)
  (h:∀ (out:Array zD) (c:List Str),vf out.toList c->c.Perm n->UG c=true->Q (.ref (s.heap.objs.size+1)) { s with heap:=sortedAll s.heap vs out }) :
  wpAny (zP prog w) A (call (.builtin "sorted") [.ref l]) Q E s:=by
 refine Calls.call_function_entry kind_sorted plain_sorted entry_sorted (args_sorted1 _) ?_;unfold Builtin.«sorted»;refine zS (m:=checkCount "sorted" 1 1 _) (wpAny_pure (zS (collect_list j (zS (wpAny_newList ?_)))));have g:((s.heap.push (ZO "list" #[] 0)).update s.heap.objs.size (QU (· ++ vs.toArray))).objs.size=s.heap.objs.size+1:=(DS ..).trans (size_push' ..);have i:(((s.heap.push (ZO "list" #[] 0)).update s.heap.objs.size (QU (· ++ vs.toArray))).push (ZO "list" vs.toArray 0)).get? (s.heap.objs.size+1)=some (ZO "list" vs.toArray 0):=by rw[<- g];exact qi _ rfl
 show wpAny _ _ _ _ _ { s with heap:=((s.heap.push (ZO "list" #[] 0)).update s.heap.objs.size (QU (· ++ vs.toArray))).push (ZO "list" vs.toArray 0) };rw[g];refine zS (xx (Y4 slot_list_sort ⟨_,i,rfl⟩ entry_list_sort (LZ strKind_oneLt i f.keysOf (λx y r e=>keyKind_strs (by rw[<- e];exact f)) o λu p q=>⟨_,rfl,?_⟩) (args_list_sort _)));obtain⟨c,t,v,z⟩:=sorted_out_str f p q;exact wpAny_pure ⟨_,rfl,h _ c t v z⟩
end TS
namespace M
abbrev T:=List Nat
inductive Kd where
 | str | int | bool | list | tuple | dict
 deriving DecidableEq
inductive D where
 | non | bl (b:Bool) | int (i:Int) | str (x:T) | tup (ds:List D) | ro (ds:List D) | ref (i:Nat) | ty (n:Kd)
mutual
noncomputable def D.decEq:(a b:D)->Decidable (a=b)
 | .non,.non=>isTrue rfl
 | .bl a,.bl b=>if h:a=b then isTrue (by rw[h]) else isFalse (λe=>h (D.bl.inj e))
 | .int a,.int b=>if h:a=b then isTrue (by rw[h]) else isFalse (λe=>h (D.int.inj e))
 | .str a,.str b=>if h:a=b then isTrue (by rw[h]) else isFalse (λe=>h (D.str.inj e))
 | .ref a,.ref b=>if h:a=b then isTrue (by rw[h]) else isFalse (λe=>h (D.ref.inj e))
 | .ty a,.ty b=>if h:a=b then isTrue (by rw[h]) else isFalse (λe=>h (D.ty.inj e))
 | .tup a,.tup b=>match D.decEqs a b with
  | isTrue h=>isTrue (by rw[h])
  | isFalse h=>isFalse (λe=>h (D.tup.inj e))
 | .ro a,.ro b=>match D.decEqs a b with
  | isTrue h=>isTrue (by rw[h])
  | isFalse h=>isFalse (λe=>h (D.ro.inj e))
 | .non,.bl _ | .non,.int _ | .non,.str _ | .non,.tup _ | .non,.ro _ | .non,.ref _ | .non,.ty _=>isFalse (λe=>nomatch e)
 | .bl _,.non | .bl _,.int _ | .bl _,.str _ | .bl _,.tup _ | .bl _,.ro _ | .bl _,.ref _ | .bl _,.ty _=>isFalse (λe=>nomatch e)
 | .int _,.non | .int _,.bl _ | .int _,.str _ | .int _,.tup _ | .int _,.ro _ | .int _,.ref _ | .int _,.ty _=>isFalse (λe=>nomatch e)
 | .str _,.non | .str _,.bl _ | .str _,.int _ | .str _,.tup _ | .str _,.ro _ | .str _,.ref _ | .str _,.ty _=>isFalse (λe=>nomatch e)
 | .tup _,.non | .tup _,.bl _ | .tup _,.int _ | .tup _,.str _ | .tup _,.ro _ | .tup _,.ref _ | .tup _,.ty _=>isFalse (λe=>nomatch e)
 | .ro _,.non | .ro _,.bl _ | .ro _,.int _ | .ro _,.str _ | .ro _,.tup _ | .ro _,.ref _ | .ro _,.ty _=>isFalse (λe=>nomatch e)
 | .ref _,.non | .ref _,.bl _ | .ref _,.int _ | .ref _,.str _ | .ref _,.tup _ | .ref _,.ro _ | .ref _,.ty _=>isFalse (λe=>nomatch e)
 | .ty _,.non | .ty _,.bl _ | .ty _,.int _ | .ty _,.str _ | .ty _,.tup _ | .ty _,.ro _ | .ty _,.ref _=>isFalse (λe=>nomatch e)
noncomputable def D.decEqs:(a b:List D)->Decidable (a=b)
 | [],[]=>isTrue rfl
 | [],_::_=>isFalse (λe=>nomatch e)
 | _::_,[]=>isFalse (λe=>nomatch e)
 | a::r,b::t=>match D.decEq a b,D.decEqs r t with
  | isTrue h,isTrue k=>isTrue (by rw[h,k])
  | isFalse h,_=>isFalse (λe=>h (H8 e).1)
  | _,isFalse k=>isFalse (λe=>k (H8 e).2)
end
instance:DecidableEq D:=D.decEq
inductive O where
 | lst (xs:List D) | dct (kvs:List (D×D)) | fdc (kvs:List (D×D)) | dtt (kvs:List (D×D)) | ftt (kvs:List (D×D)) | ins (c:Nat) (fs:List (Option D))
 deriving DecidableEq
abbrev S:=List O
abbrev St:=List (Option D)
inductive R (α:Type) where
 | ok (a:α) (s:S) | exc (e:D) (s:S) | no
noncomputable def R.bind {c g:Type}:R c->(c->S->R g)->R g
 | .ok a s,f=>f a s
 | .exc e s,_=>.exc e s
 | .no,_=>.no
@[simp] theorem R.bind_ok {c e:Type} (a:c) (s:S) (f:c->S->R e):(R.ok a s).bind f=f a s:=rfl
@[simp] theorem R.bind_no {c e:Type} (f:c->S->R e):(R.no:R c).bind f=.no:=rfl
@[simp] theorem R.bind_exc {c g:Type} (e:D) (s:S) (f:c->S->R g):(R.exc e s:R c).bind f=.exc e s:=rfl
section
variable {α β:Type}{c:Prop} [Decidable c]
@[simp] theorem R.bind_ite (a b:R α) (f:α->S->R β):(if c then a else b).bind f=if c then a.bind f else b.bind f:=by split<;>rfl
@[simp] theorem R.ite_ok (a b:α) (s:S):(if c then R.ok a s else R.ok b s)=R.ok (if c then a else b) s:=by split<;>rfl
@[simp] theorem D.ite_bl (a b:Bool):(if c then D.bl a else D.bl b)=D.bl (if c then a else b):=by split<;>rfl
@[simp] theorem D.ite_int (a b:Int):(if c then D.int a else D.int b)=D.int (if c then a else b):=by split<;>rfl
@[simp] theorem D.ite_str (a b:T):(if c then D.str a else D.str b)=D.str (if c then a else b):=by split<;>rfl
@[simp] theorem D.ite_tup (a b:List D):(if c then D.tup a else D.tup b)=D.tup (if c then a else b):=by split<;>rfl
@[simp] theorem St.ite_some (a b:D):(if c then some a else some b)=some (if c then a else b):=by split<;>rfl
@[simp] theorem St.ite_cons (a b:Option D) (r t:St):(if c then a::r else b::t)=(if c then a else b)::(if c then r else t):=by split<;>rfl
end
abbrev EM:=St->S->R D
abbrev TM:=St->S->R Bool
abbrev AM:=St->S->R (List D)
noncomputable def SZ:Nat:=16777216
@[simp] noncomputable def zA (i:Nat):EM:=λσ s=>match σ[i]? with
 | some (some d)=>.ok d s
 | _=>.no
@[simp] noncomputable def eC (d:D):EM:=λ_ s=>.ok d s
@[simp] noncomputable def eOp (f:D->D->S->R D) (a b:EM):EM:=λσ s=>(a σ s).bind λx s=>(b σ s).bind λy s=>f x y s
@[simp] noncomputable def eUn (f:D->S->R D) (a:EM):EM:=λσ s=>(a σ s).bind λx s=>f x s
@[simp] noncomputable def zC:AM:=λ_ s=>.ok [] s
@[simp] noncomputable def zB (a:EM) (r:AM):AM:=λσ s=>(a σ s).bind λx s=>(r σ s).bind λxs s=>.ok (x::xs) s
@[simp] noncomputable def ze (a:AM):EM:=λσ s=>(a σ s).bind λxs s=>if xs.length <= SZ then .ok (.tup xs) s else .no
@[simp] noncomputable def alloc (o:O) (s:S):R D:=.ok (.ref s.length) (s++[o])
@[simp] noncomputable def jT (a:AM):EM:=λσ s=>(a σ s).bind λxs s=>if xs.length <= SZ then alloc (.lst xs) s else .no
@[simp] noncomputable def zy (s:S) (i:Nat):Option (List D):=match s[i]? with
 | some (.lst xs)=>some xs
 | _=>none
@[simp] noncomputable def zc:D->D->S->R D
 | .int i,.int j,s=>.ok (.int (i+j)) s
 | .str a,.str b,s=>if a.length+b.length <= SZ then .ok (.str (a++b)) s else .no
 | .tup a,.tup b,s=>if a≠[]/\a.length+b.length <= SZ then .ok (.tup (a++b)) s else .no
 | .ref i,.ref j,s=>match s[i]?,s[j]? with
  | some (.lst xs),some (.lst ys)=>if xs.length+ys.length <= SZ then alloc (.lst (xs++ys)) s else .no
  | _,_=>.no
 | _,_,_=>.no
@[simp] noncomputable def XB:D->D->S->R D
 | .int i,.int j,s=>.ok (.int (i - j)) s
 | _,_,_=>.no
noncomputable def qK (i:Int):Bool:=decide (i.natAbs < 18446744073709551616)
@[simp] noncomputable def qe:D->D->S->R D
 | .int i,.int j,s=>if qK i || qK j then .ok (.int (i * j)) s else .no
 | .str a,.int n,s=>if 0 <= n/\n.natAbs <= 1000000/\a.length * n.natAbs <= 1000000 then .ok (.str (z9 n.toNat a).flatten) s else .no
 | .ref p,.int n,s=>match zy s p with
  | some xs=>if n.natAbs <= 1000/\xs.length * n.natAbs <= 1000000 then alloc (.lst (z9 n.toNat xs).flatten) s else .no
  | none=>.no
 | _,_,_=>.no
@[simp] noncomputable def jO:D->D->S->R D
 | .int i,.int j,s=>if 0 < j/\j.natAbs < 1073741824 then .ok (.int (i / j)) s else .no
 | _,_,_=>.no
@[simp] noncomputable def jD:D->D->S->R D
 | .int i,.int j,s=>if 0 < j then .ok (.int (i % j)) s else .no
 | _,_,_=>.no
abbrev CM:=D->D->S->R Bool
@[simp] noncomputable def cLt:CM
 | .int i,.int j,s=>.ok (decide (i < j)) s
 | .str a,.str b,s=>.ok (decide (a < b)) s
 | _,_,_=>.no
@[simp] noncomputable def cLe:CM
 | .int i,.int j,s=>.ok (decide (i <= j)) s
 | .str a,.str b,s=>.ok (!decide (b < a)) s
 | _,_,_=>.no
@[simp] noncomputable def cGt:CM
 | .int i,.int j,s=>.ok (decide (j < i)) s
 | _,_,_=>.no
inductive P where
 | non | bl (b:Bool) | int (i:Int) | str (x:T) | tup (ps:List P) | lst (ps:List P)
mutual
noncomputable def P.eqv:P->P->Bool
 | .non,.non=>true
 | .bl a,.bl b=>a == b
 | .int a,.int b=>a == b
 | .bl a,.int b=>(if a then 1 else 0) == b
 | .int a,.bl b=>a == (if b then 1 else 0)
 | .str a,.str b=>a == b
 | .tup a,.tup b=>P.eqvs a b
 | .lst a,.lst b=>P.eqvs a b
 | _,_=>false
noncomputable def P.eqvs:List P->List P->Bool
 | [],[]=>true
 | a::r,b::t=>P.eqv a b && P.eqvs r t
 | _,_=>false
end
mutual
noncomputable def P.dep:P->Nat
 | .tup ps=>P.deps ps+1
 | .lst ps=>P.deps ps+1
 | _=>0
noncomputable def P.deps:List P->Nat
 | []=>0
 | p::ps=>max (P.dep p) (P.deps ps)
end
noncomputable def qj (g:Nat->Option P):D->Option P
 | .non=>some .non
 | .bl b=>some (.bl b)
 | .int i=>some (.int i)
 | .str x=>some (.str x)
 | .tup ds=>(all ds).map .tup
 | .ro ds=>(all ds).map .lst
 | .ref i=>g i
 | .ty _=>none
where all:List D->Option (List P)
 | []=>some []
 | d::ds=>match qj g d,all ds with
  | some p,some ps=>some (p::ps)
  | _,_=>none
noncomputable def toP:Nat->S->D->Option P
 | 0,_=>qj λ_=>none
 | n+1,s=>qj λi=>match zy s i with
  | some xs=>(qj.all (λj=>toP n s (.ref j)) xs).map .lst
  | none=>none
noncomputable def Z9:Nat:=9
noncomputable def qM (k:D) (kvs:List (D×D)):Option D:=kvs.lookup k
noncomputable def dEq (s:S) (ws:List (D×D)):List (D×D)->Option Bool
 | []=>some true
 | (k,v)::r=>match qM k ws with
  | none=>some false
  | some w=>match toP 8 s v,toP 8 s w,dEq s ws r with
   | some p,some q,some b=>if P.dep p <= 64/\P.dep q <= 64 then some (P.eqv p q && b) else none
   | _,_,_=>none
noncomputable def YO (x y:D) (s:S):R Bool:=match x,y with
 | .ref i,.ref j=>match s[i]?,s[j]? with
  | some (.dct ks),some (.dct ws)=>if ks.length=ws.length then (match dEq s ws ks with | some b=>.ok b s | none=>.no) else .ok false s
  | _,_=>.no
 | _,_=>.no
@[simp] noncomputable def eqD (x y:D) (s:S):R Bool:=match x,y with
 | .str a,.str b=>.ok (decide (a=b)) s
 | .int a,.int b=>.ok (decide (a=b)) s
 | .bl a,.bl b=>.ok (decide (a=b)) s
 | .non,.non=>.ok true s
 | x,y=>match toP Z9 s x,toP Z9 s y with
  | some p,some q=>if P.dep p <= 64/\P.dep q <= 64 then .ok (P.eqv p q) s else .no
  | _,_=>YO x y s
@[simp] noncomputable def cEq:CM:=λx y s=>eqD x y s
@[simp] noncomputable def cNe:CM:=λx y s=>(eqD x y s).bind λb s=>.ok (!b) s
noncomputable def QV (a:T):T->Bool
 | []=>a.isEmpty
 | c::r=>a.isPrefixOf (c::r) || QV a r
noncomputable def flat:D->Bool
 | .non=>true
 | .bl _=>true
 | .int _=>true
 | .str _=>true
 | _=>false
noncomputable def eqF:D->D->Bool
 | .non,.non=>true
 | .bl a,.bl b=>a == b
 | .int a,.int b=>a == b
 | .bl a,.int b=>(if a then 1 else 0) == b
 | .int a,.bl b=>a == (if b then 1 else 0)
 | .str a,.str b=>a == b
 | _,_=>false
noncomputable def y2 (x:D) (xs:List D):Bool:=xs.any λy=>eqF y x
noncomputable def qC:D->Bool
 | .int _=>true
 | .str _=>true
 | _=>false
@[simp] noncomputable def inD (x y:D) (s:S):R Bool:=match y with
 | .str b=>match x with
  | .str a=>.ok (QV a b) s
  | _=>.no
 | .tup ys=>if flat x && ys.all flat then .ok (y2 x ys) s else .no
 | .ro ys=>if flat x && ys.all flat then .ok (y2 x ys) s else .no
 | .ref i=>match s[i]? with
  | some (.lst ys)=>if flat x && ys.all flat then .ok (y2 x ys) s else .no
  | some (.dct kvs)=>if qC x then .ok (qM x kvs).isSome s else .no
  | some (.fdc kvs)=>if qC x then .ok (qM x kvs).isSome s else .no
  | _=>.no
 | _=>.no
@[simp] noncomputable def cIn:CM:=λx y s=>inD x y s
@[simp] noncomputable def Ql:CM:=λx y s=>(inD x y s).bind λb s=>.ok (!b) s
@[simp] noncomputable def yt (c:CM) (a b:EM):EM:=λσ s=>(a σ s).bind λx s=>(b σ s).bind λy s=>(c x y s).bind λk s=>.ok (.bl k) s
@[simp] noncomputable def zN (c:CM) (a b:EM):TM:=λσ s=>(a σ s).bind λx s=>(b σ s).bind λy s=>c x y s
noncomputable def gAt (t:T):List (T×Int)->Option Int
 | []=>none
 | (k,v)::r=>if k=t then some v else gAt t r
@[simp] noncomputable def NG (ks:List (T×Int)) (a:EM):EM:=λσ s=>(a σ s).bind λx s=>match x with
 | .str t=>(match gAt t ks with | some v=>.ok (.int v) s | none=>.no)
 | _=>.no
@[simp] noncomputable def uq (c d:CM) (a b e:EM):EM:=λσ s=>(a σ s).bind λx s=>(b σ s).bind λy s=>(c x y s).bind λk s =>
 if k then (e σ s).bind λz s=>(d y z s).bind λk s=>.ok (.bl k) s else .ok (.bl false) s
@[simp] noncomputable def JR (c d:CM) (a b e:EM):TM:=λσ s=>(a σ s).bind λx s=>(b σ s).bind λy s=>(c x y s).bind λk s =>
 if k then (e σ s).bind λz s=>d y z s else .ok false s
@[simp] noncomputable def aN:D->Bool
 | .non=>true
 | _=>false
@[simp] noncomputable def Jl (a:EM):TM:=λσ s=>(a σ s).bind λx s=>.ok (aN x) s
@[simp] noncomputable def Qd:D->S->R Bool
 | .non,s=>.ok false s
 | .bl b,s=>.ok b s
 | .int i,s=>.ok (decide (i≠0)) s
 | .str x,s=>if x.length <= SZ then .ok (!x.isEmpty) s else .no
 | .tup ds,s=>.ok (!ds.isEmpty) s
 | .ro ds,s=>.ok (!ds.isEmpty) s
 | .ref i,s=>match s[i]? with
  | some (.lst xs)=>.ok (!xs.isEmpty) s
  | some (.dct kvs)=>.ok (!kvs.isEmpty) s
  | _=>.no
 | .ty _,_=>.no
@[simp] noncomputable def Zi (a:EM):TM:=λσ s=>(a σ s).bind Qd
@[simp] noncomputable def QL (a:TM):TM:=λσ s=>(a σ s).bind λb s=>.ok (!b) s
@[simp] noncomputable def qr (a b:TM):TM:=λσ s=>(a σ s).bind λk s=>if k then b σ s else .ok false s
@[simp] noncomputable def tOr (a b:TM):TM:=λσ s=>(a σ s).bind λk s=>if k then .ok true s else b σ s
@[simp] noncomputable def asB:D->S->R Bool
 | .bl b,s=>.ok b s
 | _,_=>.no
@[simp] noncomputable def JQ (a b:EM):EM:=λσ s=>(a σ s).bind λx s=>(asB x s).bind λk s=>if k then b σ s else .ok (.bl false) s
@[simp] noncomputable def eIf (c:TM) (a b:EM):EM:=λσ s=>(c σ s).bind λk s=>if k then a σ s else b σ s
noncomputable def ixN (n:Nat) (i:Int):Option Nat:=if 0 <= i then (if i < n then some i.toNat else none) else if -(n:Int) <= i then some (i+n).toNat else none
noncomputable def atI {c:Type} (xs:List c) (i:Int):Option c:=(ixN xs.length i).bind λj=>xs[j]?
@[simp] noncomputable def zI:D->D->S->R D
 | .str x,.int i,s=>if x.length <= SZ then (match atI x i with | some c=>.ok (.str [c]) s | none=>.no) else .no
 | .tup xs,.int i,s=>match atI xs i with | some d=>.ok d s | none=>.no
 | .ro xs,.int i,s=>match atI xs i with | some d=>.ok d s | none=>.no
 | .ref p,k,s=>match s[p]? with
  | some (.lst xs)=>(match k with | .int i=>(match atI xs i with | some d=>.ok d s | none=>.no) | _=>.no)
  | some (.dct kvs)=>if qC k then (match qM k kvs with | some d=>.ok d s | none=>.no) else .no
  | some (.fdc kvs)=>if qC k then (match qM k kvs with | some d=>.ok d s | none=>.no) else .no
  | _=>.no
 | _,_,_=>.no
noncomputable def sIx (n d:Nat):Option Int->Nat
 | none=>d
 | some v=>(if v < 0 then max (v+(n:Int)) 0 else min v (n:Int)).toNat
noncomputable def cut {c:Type} (xs:List c) (lo hi:Option Int):List c:=(xs.drop (sIx xs.length 0 lo)).take (sIx xs.length xs.length hi - sIx xs.length 0 lo)
abbrev OM:=St->S->R (Option Int)
@[simp] noncomputable def qb:OM:=λ_ s=>.ok none s
@[simp] noncomputable def jr (a:EM):OM:=λσ s=>(a σ s).bind λx s=>match x with | .int i=>.ok (some i) s | _=>.no
@[simp] noncomputable def slD (x:D) (lo hi:Option Int) (s:S):R D:=match x with
 | .str z=>if z.length <= SZ then .ok (.str (cut z lo hi)) s else .no
 | .tup xs=>if sIx xs.length 0 lo=0/\sIx xs.length xs.length hi=xs.length then .no else .ok (.tup (cut xs lo hi)) s
 | .ro xs=>alloc (.lst (cut xs lo hi)) s
 | .ref p=>match zy s p with
  | some xs=>alloc (.lst (cut xs lo hi)) s
  | none=>.no
 | _=>.no
@[simp] noncomputable def eSl (a:EM) (lo hi:OM):EM:=λσ s=>(a σ s).bind λx s=>(lo σ s).bind λl s=>(hi σ s).bind λh s=>slD x l h s
@[simp] noncomputable def Yp (x:D) (s:S):R D:=match x with
 | .str z=>if z.length <= SZ then .ok (.str z.reverse) s else .no
 | .ref p=>match zy s p with
  | some xs=>alloc (.lst xs.reverse) s
  | none=>.no
 | _=>.no
abbrev F:=List D->S->R D
@[simp] noncomputable def zK (f:F) (a:AM):EM:=λσ s=>(a σ s).bind λxs s=>f xs s
@[simp] noncomputable def yf (k:Kd) (x:D) (s:S):Bool:=match x with
 | .str _=>(match k with | .str=>true | _=>false)
 | .ro _=>(match k with | .list=>true | _=>false)
 | .ref p=>match s[p]? with
  | some (.lst _)=>(match k with | .list=>true | _=>false)
  | some (.dct _)=>(match k with | .dict=>true | _=>false)
  | some (.dtt _)=>(match k with | .dict=>true | _=>false)
  | _=>false
 | _=>false
@[simp] noncomputable def eM (k:Kd) (f:D->F) (o:EM) (a:AM):EM:=λσ s=>(o σ s).bind λx s=>if yf k x s then (a σ s).bind λxs s=>f x xs s else .no
@[simp] noncomputable def jN (c:Nat) (f:F) (o:EM) (a:AM):EM:=λσ s=>(o σ s).bind λx s=>match x with
 | .ref p=>(match s[p]? with
  | some (.ins e _)=>if e=c then (a σ s).bind λxs s=>f (x::xs) s else .no
  | _=>.no)
 | _=>.no
@[simp] noncomputable def K2 (c:Nat) (n:Nat) (f:F) (a:AM):EM:=λσ s=>(a σ s).bind λxs s=>(f (.ref s.length::xs) (s++[.ins c (z9 n none)])).bind λd e=>if d=.non then .ok (.ref s.length) e else .no
@[simp] noncomputable def jC (c:Nat) (i:Nat) (o:EM):EM:=λσ s=>(o σ s).bind λx s=>match x with
 | .ref p=>(match s[p]? with
  | some (.ins e fs)=>if e=c then (match fs[i]? with | some (some d)=>.ok d s | _=>.no) else .no
  | _=>.no)
 | _=>.no
@[simp] noncomputable def jX:F
 | [.str x],s=>if x.length <= SZ then .ok (.int x.length) s else .no
 | [.tup xs],s=>.ok (.int xs.length) s
 | [.ro xs],s=>.ok (.int xs.length) s
 | [.ref p],s=>match s[p]? with
  | some (.lst xs)=>.ok (.int xs.length) s
  | some (.dct kvs)=>.ok (.int kvs.length) s
  | _=>.no
 | _,_=>.no
@[simp] noncomputable def Z4 (n:Kd) (x:D) (s:S):R Bool:=match x with
 | .non=>.ok false s
 | .bl _=>.ok (match n with | .bool=>true | .int=>true | _=>false) s
 | .int _=>.ok (match n with | .int=>true | _=>false) s
 | .str _=>.ok (match n with | .str=>true | _=>false) s
 | .tup _=>.ok (match n with | .tuple=>true | _=>false) s
 | .ro _=>.ok (match n with | .list=>true | _=>false) s
 | .ty _=>.no
 | .ref p=>match s[p]? with
  | some (.lst _)=>.ok (match n with | .list=>true | _=>false) s
  | some (.dct _)=>.ok (match n with | .dict=>true | _=>false) s
  | _=>.no
@[simp] noncomputable def Qg:F
 | [x,.ty n],s=>(Z4 n x s).bind λb s=>.ok (.bl b) s
 | _,_=>.no
noncomputable def Jn:List D->Option (List Bool)
 | []=>some []
 | .bl b::r=>(Jn r).map (b :: ·)
 | _::_=>none
noncomputable def y6:List D->Option (List T)
 | []=>some []
 | .str x::r=>(y6 r).map (x :: ·)
 | _::_=>none
noncomputable def Qn:List D->Option (List Int)
 | []=>some []
 | .int x::r=>(Qn r).map (x :: ·)
 | _::_=>none
noncomputable def JF (xs:List D) (s:S):R D:=match Jn xs with
 | some bs=>.ok (.bl (bs.all id)) s
 | none=>.no
@[simp] noncomputable def Js (k:List D->S->R D):F
 | [.tup xs],s=>k xs s
 | [.ro xs],s=>k xs s
 | [.ref p],s=>match zy s p with
  | some xs=>k xs s
  | none=>.no
 | _,_=>.no
noncomputable def qW (x:T):List T->T
 | []=>[]
 | [y]=>y
 | y::r=>y++x++qW x r
noncomputable def q7 (x:T) (xs:List D) (s:S):R D:=match y6 xs with
 | some ys=>if (ys.map ZT).sum+ys.length * x.length <= SZ then .ok (.str (qW x ys)) s else .no
 | none=>.no
@[simp] noncomputable def ZI:D->F
 | .str x,xs,s=>Js (q7 x) xs s
 | _,_,_=>.no
noncomputable def jE (c:Nat):T->List T
 | []=>[[]]
 | d::r=>if d=c then []::jE c r else match jE c r with
  | []=>[[d]]
  | p::ps=>(d::p)::ps
@[simp] noncomputable def J3:D->F
 | .str x,[.str [c]],s=>if x.length+2 <= SZ then alloc (.lst ((jE c x).map .str)) s else .no
 | _,_,_=>.no
@[simp] noncomputable def K1:D->F
 | .str x,[.str [a],.str [b]],s=>if 2 * x.length+1 <= SZ then .ok (.str (x.map λc=>if c=a then b else c)) s else .no
 | _,_,_=>.no
noncomputable def xo (c:Nat) (x:T) (i:Nat):Int:=match (x.drop i).findIdx? (· == c) with
 | some j=>((i+j:Nat):Int)
 | none=>-1
@[simp] noncomputable def Ux:D->F
 | .str x,[.str [c]],s=>if x.length <= SZ then .ok (.int (xo c x 0)) s else .no
 | _,_,_=>.no
noncomputable def JO (i:Int):T:=(toString i).toList.map Char.toNat
@[simp] noncomputable def YU:F
 | [.int i],s=>if qK i then .ok (.str (JO i)) s else .no
 | _,_=>.no
@[simp] noncomputable def vB:F
 | [.int i],s=>.ok (.int i) s
 | [.bl b],s=>.ok (.int (if b then 1 else 0)) s
 | _,_=>.no
@[simp] noncomputable def vE:F
 | [.tup xs],s=>alloc (.lst xs) s
 | [.ro xs],s=>alloc (.lst xs) s
 | [.ref p],s=>match s[p]? with
  | some (.lst xs)=>alloc (.lst xs) s
  | some (.dct kvs)=>alloc (.lst (kvs.map (·.1))) s
  | _=>.no
 | _,_=>.no
@[simp] noncomputable def k8:F
 | [.ref p],s=>match s[p]? with
  | some (.dct kvs)=>alloc (.dct kvs) s
  | _=>.no
 | _,_=>.no
@[simp] noncomputable def VT:F
 | [.tup xs],s=>.ok (.tup xs) s
 | [.ref p],s=>match zy s p with
  | some xs=>.ok (.tup xs) s
  | none=>.no
 | _,_=>.no
@[simp] noncomputable def q0:D->F
 | .ref p,[y],s=>match s[p]? with
  | some (.lst xs)=>if xs.length < SZ then .ok .non (s.set p (.lst (xs++[y]))) else .no
  | _=>.no
 | _,_,_=>.no
@[simp] noncomputable def qZ:D->F
 | .ref p,[],s=>match s[p]? with
  | some (.lst xs)=>(match xs.getLast? with | some y=>.ok y (s.set p (.lst xs.dropLast)) | none=>.no)
  | _=>.no
 | _,_,_=>.no
noncomputable def ym (k v:D) (kvs:List (D×D)):List (D×D):=if (kvs.any λp=>decide (p.1=k))=true then kvs.map λp=>if p.1=k then (p.1,v) else p else kvs++[(k,v)]
noncomputable def c5:List D->Option (List (D×D))
 | []=>some []
 | .tup [k,v]::r=>if qC k then (c5 r).map ((k,v) :: ·) else none
 | _::_=>none
noncomputable def M3 (ps:List (D×D)):List (D×D):=ps.foldl (λa p=>ym p.1 p.2 a) []
@[simp] noncomputable def n5:F
 | [.ref p],s=>match s[p]? with
  | some (.lst xs)=>(match c5 xs with | some ps=>if ps.length <= 1000 then alloc (.dct (M3 ps)) s else .no | none=>.no)
  | _=>.no
 | _,_=>.no
@[simp] noncomputable def VF:EM:=λ_ s=>alloc (.dct []) s
noncomputable def XJ:List D->List (D×D)->Option (List (D×D))
 | [],c=>some c
 | k::v::r,c=>if qC k then XJ r (ym k v c) else none
 | _,_=>none
@[simp] noncomputable def Vu (a:AM):EM:=λσ s=>(a σ (s++[.dct []])).bind λxs c=>match c[s.length]? with
 | some (.dct [])=>(match XJ xs [] with
  | some kvs=>if kvs.length <= 15/\xs.length <= 30 then .ok (.ref s.length) (c.set s.length (.dct kvs)) else .no
  | none=>.no)
 | _=>.no
noncomputable def Hc:List T->Option T
 | []=>none
 | x::r=>some (r.foldl (λb y=>if y < b then y else b) x)
noncomputable def lz:List T->Option T
 | []=>none
 | x::r=>some (r.foldl (λb y=>if b < y then y else b) x)
noncomputable def NA (xs:List D) (s:S):R D:=match y6 xs with
 | some ys=>(match Hc ys with | some y=>.ok (.str y) s | none=>.no)
 | none=>.no
noncomputable def Hm:List Int->Option Int
 | []=>none
 | x::r=>some (r.foldl (λb y=>if b < y then y else b) x)
noncomputable def Uo (xs:List D) (s:S):R D:=match Qn xs with
 | some ys=>(match Hm ys with | some y=>.ok (.int y) s | none=>.no)
 | none=>.no
noncomputable def Yx (xs:List D) (s:S):R D:=match y6 xs with
 | some ys=>(match lz ys with | some y=>.ok (.str y) s | none=>.no)
 | none=>Uo xs s
@[simp] noncomputable def Wa (k:List D->S->R D):F
 | [.ref p],s=>match zy s p with
  | some xs=>k xs s
  | none=>.no
 | _,_=>.no
@[simp] noncomputable def Yk:F:=λxs s=>Wa Yx xs s
@[simp] noncomputable def vJ:F
 | [.int i,.int j],s=>.ok (.int (if j < i then j else i)) s
 | _,_=>.no
noncomputable def qJ:List T->List T
 | []=>[]
 | x::r=>insT' x (qJ r)
where insT' (x:T):List T->List T
 | []=>[x]
 | y::r=>if y < x then y::insT' x r else x::y::r
noncomputable def V4 (xs:List D) (s:S):R D:=match y6 xs with
 | some ys=>if ys.length <= 16777216 then alloc (.lst ((qJ ys).map .str)) s else .no
 | none=>.no
@[simp] noncomputable def uF:F
 | [.ref p],s=>match zy s p with
  | some xs=>V4 xs s
  | none=>.no
 | _,_=>.no
abbrev Gd:=List (Nat×O)
noncomputable def zh (g:Gd) (s:S):Bool:=g.all λp=>decide (s[p.1]? = some p.2)
abbrev IM:=St->S->R (List D×Gd)
@[simp] noncomputable def itD:D->S->R (List D×Gd)
 | .str x,s=>if x.length <= SZ then .ok (x.map λc=>.str [c],[]) s else .no
 | .tup ds,s=>.ok (ds,[]) s
 | .ro ds,s=>.ok (ds,[]) s
 | .ref i,s=>match s[i]? with
  | some (.lst xs)=>.ok (xs,[(i,.lst xs)]) s
  | _=>.no
 | _,_=>.no
@[simp] noncomputable def iE (a:EM):IM:=λσ s=>(a σ s).bind itD
noncomputable def qI (lo hi:Int):List D:=(qE (hi - lo).toNat).map λ(k:Nat)=>.int (lo+k)
@[simp] noncomputable def qt (a:EM):IM:=λσ s=>(a σ s).bind λx s=>match x with
 | .int j=>if j.natAbs < 4611686018427387904 then .ok (qI 0 j,[]) s else .no
 | _=>.no
@[simp] noncomputable def KN (a b:EM):IM:=λσ s=>(a σ s).bind λx s=>(b σ s).bind λy s=>match x,y with
 | .int i,.int j=>if i.natAbs < 4611686018427387904/\j.natAbs < 4611686018427387904 then .ok (qI i j,[]) s else .no
 | _,_=>.no
@[simp] noncomputable def vG (a:EM):IM:=λσ s=>(a σ s).bind λx s=>match x with
 | .tup ds=>.ok (ds.reverse,[]) s
 | _=>.no
@[simp] noncomputable def Vp (x:T):D->S->R D
 | .ref p,s=>(match zy s p with | some xs=>q7 x xs.reverse s | none=>.no)
 | _,_=>.no
abbrev GM:=D->St->Option St
@[simp] noncomputable def zw (i:Nat):GM:=λd σ=>some (σ.set i (some d))
abbrev GMs:=List D->St->Option St
@[simp] noncomputable def NF (g:GM) (r:GMs):GMs:=λds σ=>match ds with
 | []=>none
 | d::ds=>match g d σ with
  | some c=>r ds c
  | none=>none
noncomputable def qo (g:Gd) (f:D->S->R (Option D)):List D->S->R (List D)
 | [],s=>.ok [] s
 | x::xs,s=>(f x s).bind λo s=>if zh g s then (qo g f xs s).bind λys s=>.ok (match o with | some y=>y::ys | none=>ys) s else .no
@[simp] noncomputable def jU:TM:=λ_ s=>.ok true s
@[simp] noncomputable def qV (n:Nat) (tg:GM) (c:TM) (e:EM) (σ:St):D->S->R (Option D):=λx s=>match tg x (σ++z9 n none) with
 | none=>.no
 | some f=>(c f s).bind λb s=>if b then (e f s).bind λd s=>.ok (some d) s else .ok none s
noncomputable def jt (n:Nat) (it:IM) (tg:GM) (c:TM) (e:EM):AM:=λσ s=>(it σ s).bind λp s=>if p.1.length <= SZ/\zh p.2 s=true then qo p.2 (qV n tg c e σ) p.1 s else .no
@[simp] noncomputable def yC (n:Nat) (it:IM) (tg:GM) (c:TM) (e:EM):EM:=λσ s=>(jt n it tg c e σ s).bind λys s=>alloc (.lst ys) s
@[simp] noncomputable def Jc (k:List D->S->R D) (n:Nat) (it:IM) (tg:GM) (c:TM) (e:EM):EM:=λσ s=>(jt n it tg c e σ s).bind k
inductive RS where
 | nx (σ:St) (s:S) | rt (d:D) (s:S) | bk (σ:St) (s:S) | ct (σ:St) (s:S) | exc (e:D) (σ:St) (s:S) | no
abbrev SM:=St->S->RS
noncomputable def R.stm {c:Type} (r:R c) (σ:St) (f:c->S->RS):RS:=match r with
 | .ok a s=>f a s
 | .exc e s=>.exc e σ s
 | .no=>.no
@[simp] theorem R.stm_ok {c:Type} (a:c) (s:S) (σ:St) (f:c->S->RS):(R.ok a s).stm σ f=f a s:=rfl
@[simp] theorem R.stm_no {c:Type} (σ:St) (f:c->S->RS):(R.no:R c).stm σ f=.no:=rfl
noncomputable def RS.then (r:RS) (f:SM):RS:=match r with
 | .nx σ s=>f σ s
 | r=>r
@[simp] theorem RS.then_nx (σ:St) (s:S) (f:SM):(RS.nx σ s).then f=f σ s:=rfl
@[simp] theorem RS.then_rt (d:D) (s:S) (f:SM):(RS.rt d s).then f=.rt d s:=rfl
@[simp] theorem RS.then_no (f:SM):RS.no.then f=.no:=rfl
@[simp] theorem RS.then_bk (σ:St) (s:S) (f:SM):(RS.bk σ s).then f=.bk σ s:=rfl
section
variable {α:Type}{c:Prop} [Decidable c]
@[simp] theorem R.stm_ite (a b:R α) (σ:St) (f:α->S->RS):(if c then a else b).stm σ f=if c then a.stm σ f else b.stm σ f:=by split<;>rfl
@[simp] theorem RS.ite_nx (a b:St) (s:S):(if c then RS.nx a s else RS.nx b s)=RS.nx (if c then a else b) s:=by split<;>rfl
@[simp] theorem RS.ite_rt (a b:D) (s:S):(if c then RS.rt a s else RS.rt b s)=RS.rt (if c then a else b) s:=by split<;>rfl
@[simp] theorem RS.then_ite (a b:RS) (f:SM):(if c then a else b).then f=if c then a.then f else b.then f:=by split<;>rfl
end
@[simp] theorem RS.then_exc (e:D) (σ:St) (s:S) (f:SM):(RS.exc e σ s).then f=.exc e σ s:=rfl
@[simp] theorem R.stm_exc {c:Type} (e:D) (s:S) (σ:St) (f:c->S->RS):(R.exc e s:R c).stm σ f=.exc e σ s:=rfl
@[simp] theorem RS.then_ct (σ:St) (s:S) (f:SM):(RS.ct σ s).then f=.ct σ s:=rfl
@[simp] noncomputable def zq:SM:=λσ s=>.nx σ s
@[simp] noncomputable def zH (a b:SM):SM:=λσ s=>(a σ s).then b
@[simp] noncomputable def z6 (e:EM):SM:=λσ s=>(e σ s).stm σ λ_ s=>.nx σ s
@[simp] noncomputable def zX (e:EM):SM:=λσ s=>(e σ s).stm σ λd s=>.rt d s
@[simp] noncomputable def zQ (i:Nat) (e:EM):SM:=λσ s=>(e σ s).stm σ λd s=>.nx (σ.set i (some d)) s
@[simp] noncomputable def JY:D->D->S->R D
 | .int i,.int j,s=>.ok (.int (i+j)) s
 | .str a,.str b,s=>if a.length+b.length <= SZ then .ok (.str (a++b)) s else .no
 | _,_,_=>.no
@[simp] noncomputable def xY (c:Nat) (i:Nat) (x y:D) (s:S):R Unit:=match x with
 | .ref p=>(match s[p]? with
  | some (.ins e fs)=>if e=c then .ok () (s.set p (.ins c (fs.set i (some y)))) else .no
  | _=>.no)
 | _=>.no
@[simp] noncomputable def ZK (c:Nat) (i:Nat) (o e:EM):SM:=λσ s=>(e σ s).stm σ λy s=>(o σ s).stm σ λx s=>(xY c i x y s).stm σ λ_ s=>.nx σ s
@[simp] noncomputable def Xw (c:Nat) (i:Nat) (x:D) (s:S):R D:=match x with
 | .ref p=>(match s[p]? with
  | some (.ins e fs)=>if e=c then (match fs[i]? with | some (some d)=>.ok d s | _=>.no) else .no
  | _=>.no)
 | _=>.no
@[simp] noncomputable def QZ (f:D->D->S->R D) (c:Nat) (i:Nat) (o e:EM):SM:=λσ s=>(o σ s).stm σ λx s=>(Xw c i x s).stm σ λv s=>(e σ s).stm σ λy s=>(f v y s).stm σ λz s=>(xY c i x z s).stm σ λ_ s=>.nx σ s
@[simp] noncomputable def yj (x k y:D) (s:S):R Unit:=match x with
 | .ref p=>(match s[p]? with
  | some (.lst xs)=>(match k with
   | .int i=>(match ixN xs.length i with | some j=>.ok () (s.set p (.lst (xs.set j y))) | none=>.no)
   | _=>.no)
  | some (.dct kvs)=>if qC k && decide (kvs.length < SZ) then .ok () (s.set p (.dct (ym k y kvs))) else .no
  | _=>.no)
 | _=>.no
@[simp] noncomputable def yu (o k e:EM):SM:=λσ s=>(e σ s).stm σ λy s=>(o σ s).stm σ λx s=>(k σ s).stm σ λk s=>(yj x k y s).stm σ λ_ s=>.nx σ s
@[simp] noncomputable def sIf (c:TM) (a b:SM):SM:=λσ s=>(c σ s).stm σ λk s=>if k then a σ s else b σ s
noncomputable def j9 (g:Gd) (f:D->SM):List D->SM
 | [],σ,s=>.nx σ s
 | x::xs,σ,s=>match f x σ s with
  | .nx σ s=>if zh g s then j9 g f xs σ s else .no
  | .ct σ s=>if zh g s then j9 g f xs σ s else .no
  | .bk σ s=>.nx σ s
  | r=>r
@[simp] noncomputable def qU (tg:GM) (b:SM):D->SM:=λx σ s=>match tg x σ with
 | some c=>b c s
 | none=>.no
@[simp] noncomputable def qs (it:IM) (tg:GM) (b:SM):SM:=λσ s=>(it σ s).stm σ λp s=>if zh p.2 s=true then j9 p.2 (qU tg b) p.1 σ s else .no
noncomputable def qg:Nat->TM->SM->SM
 | 0,_,_,_,_=>.no
 | n+1,c,b,σ,s=>(c σ s).stm σ λk s=>if k then (match b σ s with
  | .nx σ s=>qg n c b σ s
  | .ct σ s=>qg n c b σ s
  | .bk σ s=>.nx σ s
  | r=>r) else .nx σ s
noncomputable def KP:Nat:=1000000000000
@[simp] noncomputable def VP (c:TM) (b:SM):SM:=λσ s=>qg KP c b σ s
noncomputable def RS.out (r:RS):R D:=match r with
 | .rt d s=>.ok d s
 | .nx _ s=>.ok .non s
 | .exc e _ s=>.exc e s
 | _=>.no
@[simp] theorem RS.out_rt (d:D) (s:S):(RS.rt d s).out=.ok d s:=rfl
@[simp] theorem RS.out_nx (σ:St) (s:S):(RS.nx σ s).out=.ok .non s:=rfl
@[simp] theorem RS.out_no:RS.no.out=.no:=rfl
@[simp] theorem RS.out_exc (e:D) (σ:St) (s:S):(RS.exc e σ s).out=.exc e s:=rfl
@[simp] theorem RS.out_ite [Decidable c] (a b:RS):(if c then a else b).out=if c then a.out else b.out:=by split<;>rfl
@[simp] noncomputable def fn (n:Nat) (b:SM):F:=λxs s=>(b (xs.map some++z9 (n - xs.length) none) s).out
noncomputable def D.cl (n:Nat):D->Bool
 | .ref i=>decide (i < n)
 | .tup ds=>all ds
 | .ro ds=>all ds
 | _=>true
where all:List D->Bool
 | []=>true
 | d::ds=>D.cl n d && all ds
noncomputable def kyD:Nat->D->Bool
 | _,.non=>true
 | _,.int _=>true
 | _,.str _=>true
 | n+1,.tup ds=>ds.all (kyD n)
 | _,_=>false
noncomputable def O.cl (n:Nat):O->Bool
 | .lst xs=>D.cl.all n xs
 | .dct kvs=>kvs.all λp=>D.cl n p.1 && D.cl n p.2
 | .fdc kvs=>kvs.all λp=>D.cl n p.1 && D.cl n p.2
 | .dtt kvs=>kvs.all λp=>D.cl n p.1 && D.cl n p.2
 | .ftt kvs=>kvs.all λp=>D.cl n p.1 && D.cl n p.2
 | .ins _ fs=>fs.all λo=>match o with | some d=>D.cl n d | none=>true
noncomputable def clS (n:Nat) (s:S):Bool:=s.all (O.cl n)
noncomputable def D.ren (e:List Nat):D->D
 | .ref i=>.ref (e.getD i i)
 | .tup ds=>.tup (all ds)
 | .ro ds=>.ro (all ds)
 | d=>d
where all:List D->List D
 | []=>[]
 | d::ds=>D.ren e d::all ds
noncomputable def O.ren (e:List Nat):O->O
 | .lst xs=>.lst (D.ren.all e xs)
 | .dct kvs=>.dct (kvs.map λp=>(D.ren e p.1,D.ren e p.2))
 | .fdc kvs=>.fdc (kvs.map λp=>(D.ren e p.1,D.ren e p.2))
 | .dtt kvs=>.dtt (kvs.map λp=>(D.ren e p.1,D.ren e p.2))
 | .ftt kvs=>.ftt (kvs.map λp=>(D.ren e p.1,D.ren e p.2))
 | .ins c fs=>.ins c (fs.map (wm (D.ren e)))
end M
namespace M
structure Emb (n:Nat) (e:List Nat) (S' S1:S):Prop where
 len:e.length=S'.length
 nd:e.Nodup
 le:n <= S'.length
 old:∀ i,i < n->e[i]? = some i
 obj:∀ (i:Nat) o,S'[i]? = some o->∃ j,e[i]? = some j/\S1[j]? = some (O.ren e o)/\O.cl S'.length o=true
def jI (n:Nat) (f q:F):Prop:=∀ ds S,ds.length=n->clS S.length S=true->D.cl.all S.length ds=true ->
 q ds S=.no\/∃ d c g e,q ds S=.ok d c/\f ds S=.ok (D.ren e d) g/\Emb S.length e c g/\D.cl c.length d=true
section
variable {e:List Nat}
mutual
theorem D.ren_id (h:∀ i,e.getD i i=i):∀ d:D,D.ren e d=d
 | .non=>rfl
 | .bl _=>rfl
 | .int _=>rfl
 | .str _=>rfl
 | .ty _=>rfl
 | .ref i=>by show D.ref (e.getD i i)=_;rw[h]
 | .tup ds=>by show D.tup (D.ren.all e ds)=_;rw[D.rens_id h]
 | .ro ds=>by show D.ro (D.ren.all e ds)=_;rw[D.rens_id h]
theorem D.rens_id (h:∀ i,e.getD i i=i):∀ ds:List D,D.ren.all e ds=ds
 | []=>rfl
 | d::ds=>by show D.ren e d::D.ren.all e ds=_;rw[D.ren_id h,D.rens_id h]
end
theorem O.ren_id (h:∀ i,e.getD i i=i) (o:O):O.ren e o=o:=by
 cases o with
 | lst xs=>show O.lst _=_;rw[D.rens_id h]
 | dct kvs =>
  show O.dct (kvs.map λp=>(D.ren e p.1,D.ren e p.2))=_;have:(λp:D×D=>(D.ren e p.1,D.ren e p.2))=id:=by funext p;rw[D.ren_id h,D.ren_id h];rfl
  rw[this,ZN]
 | fdc kvs =>
  show O.fdc (kvs.map λp=>(D.ren e p.1,D.ren e p.2))=_;have:(λp:D×D=>(D.ren e p.1,D.ren e p.2))=id:=by funext p;rw[D.ren_id h,D.ren_id h];rfl
  rw[this,ZN]
 | dtt kvs =>
  show O.dtt (kvs.map λp=>(D.ren e p.1,D.ren e p.2))=_;have:(λp:D×D=>(D.ren e p.1,D.ren e p.2))=id:=by funext p;rw[D.ren_id h,D.ren_id h];rfl
  rw[this,ZN]
 | ftt kvs =>
  show O.ftt (kvs.map λp=>(D.ren e p.1,D.ren e p.2))=_;have:(λp:D×D=>(D.ren e p.1,D.ren e p.2))=id:=by funext p;rw[D.ren_id h,D.ren_id h];rfl
  rw[this,ZN]
 | ins c fs =>
  show O.ins c (fs.map (wm (D.ren e)))=_;have:wm (D.ren e)=id:=by funext o;cases o with | none=>rfl | some d=>show some _=_;rw[D.ren_id h];rfl
  rw[this,ZN]
theorem An (n i:Nat):(qE n).getD i i=i:=by
 rw[qP];by_cases h:i < n
 ·rw[Yv h];rfl
 ·rw[YH (by simp;lia)];rfl
end
section
variable {e:List Nat}{n:Nat}
mutual
theorem D.ren_old (h:∀ i,i < n->e[i]? = some i):∀ d:D,D.cl n d=true->D.ren e d=d
 | .non,_=>rfl
 | .bl _,_=>rfl
 | .int _,_=>rfl
 | .str _,_=>rfl
 | .ty _,_=>rfl
 | .ref i,c=>by
  have hi:i < n:=of_decide_eq_true c;show D.ref (e.getD i i)=_;rw[qP,h i hi];rfl
 | .tup ds,c=>by show D.tup (D.ren.all e ds)=_;rw[D.rens_old h ds c]
 | .ro ds,c=>by show D.ro (D.ren.all e ds)=_;rw[D.rens_old h ds c]
theorem D.rens_old (h:∀ i,i < n->e[i]? = some i):∀ ds:List D,D.cl.all n ds=true->D.ren.all e ds=ds
 | [],_=>rfl
 | d::ds,c=>by
  have f:(D.cl n d && D.cl.all n ds)=true:=c;rw[j8] at f;show D.ren e d::D.ren.all e ds=_;rw[D.ren_old h d f.1,D.rens_old h ds f.2]
end
theorem O.ren_old (h:∀ i,i < n->e[i]? = some i) (o:O) (c:O.cl n o=true):O.ren e o=o:=by
 cases o with
 | lst xs=>show O.lst _=_;rw[D.rens_old h xs c]
 | dct kvs =>
  show O.dct (kvs.map λp=>(D.ren e p.1,D.ren e p.2))=_
  congr 1
  conv=>rhs;rw[<- ZN kvs]
  refine Qa λp f=>?_;have c1:=List.all_eq_true.mp c p f;rw[j8] at c1;rw[D.ren_old h _ c1.1,D.ren_old h _ c1.2];rfl
 | fdc kvs =>
  show O.fdc (kvs.map λp=>(D.ren e p.1,D.ren e p.2))=_
  congr 1
  conv=>rhs;rw[<- ZN kvs]
  refine Qa λp f=>?_;have c1:=List.all_eq_true.mp c p f;rw[j8] at c1;rw[D.ren_old h _ c1.1,D.ren_old h _ c1.2];rfl
 | dtt kvs =>
  show O.dtt (kvs.map λp=>(D.ren e p.1,D.ren e p.2))=_
  congr 1
  conv=>rhs;rw[<- ZN kvs]
  refine Qa λp f=>?_;have c1:=List.all_eq_true.mp c p f;rw[j8] at c1;rw[D.ren_old h _ c1.1,D.ren_old h _ c1.2];rfl
 | ftt kvs =>
  show O.ftt (kvs.map λp=>(D.ren e p.1,D.ren e p.2))=_
  congr 1
  conv=>rhs;rw[<- ZN kvs]
  refine Qa λp f=>?_;have c1:=List.all_eq_true.mp c p f;rw[j8] at c1;rw[D.ren_old h _ c1.1,D.ren_old h _ c1.2];rfl
 | ins g fs =>
  show O.ins g (fs.map (wm (D.ren e)))=_
  congr 1
  conv=>rhs;rw[<- ZN fs]
  refine Qa λp f=>?_;cases p with
  | none=>rfl
  | some d =>
   have c1:=List.all_eq_true.mp c (some d) f;show some _=some _;rw[D.ren_old h d c1]
mutual
theorem D.cl_mono {m:Nat} (h:n <= m):∀ d:D,D.cl n d=true->D.cl m d=true
 | .non,_=>rfl
 | .bl _,_=>rfl
 | .int _,_=>rfl
 | .str _,_=>rfl
 | .ty _,_=>rfl
 | .ref i,c=>decide_eq_true (qR (of_decide_eq_true c) h)
 | .tup ds,c=>D.cls_mono h ds c
 | .ro ds,c=>D.cls_mono h ds c
theorem D.cls_mono {m:Nat} (h:n <= m):∀ ds:List D,D.cl.all n ds=true->D.cl.all m ds=true
 | [],_=>rfl
 | d::ds,c=>by
  have e:(D.cl n d && D.cl.all n ds)=true:=c;rw[j8] at e;show (D.cl m d && D.cl.all m ds)=true;rw[D.cl_mono h d e.1,D.cls_mono h ds e.2];rfl
end
theorem O.cl_mono {m:Nat} (h:n <= m) (o:O) (c:O.cl n o=true):O.cl m o=true:=by
 cases o with
 | lst xs=>exact D.cls_mono h xs c
 | dct kvs =>
  refine List.all_eq_true.mpr λp e=>?_;have c1:=List.all_eq_true.mp c p e;rw[j8] at c1 ⊢;exact⟨D.cl_mono h _ c1.1,D.cl_mono h _ c1.2⟩
 | fdc kvs =>
  refine List.all_eq_true.mpr λp e=>?_;have c1:=List.all_eq_true.mp c p e;rw[j8] at c1 ⊢;exact⟨D.cl_mono h _ c1.1,D.cl_mono h _ c1.2⟩
 | dtt kvs =>
  refine List.all_eq_true.mpr λp e=>?_;have c1:=List.all_eq_true.mp c p e;rw[j8] at c1 ⊢;exact⟨D.cl_mono h _ c1.1,D.cl_mono h _ c1.2⟩
 | ftt kvs =>
  refine List.all_eq_true.mpr λp e=>?_;have c1:=List.all_eq_true.mp c p e;rw[j8] at c1 ⊢;exact⟨D.cl_mono h _ c1.1,D.cl_mono h _ c1.2⟩
 | ins f fs =>
  refine List.all_eq_true.mpr λp e=>?_;have c1:=List.all_eq_true.mp c p e;cases p with
  | none=>rfl
  | some d=>exact D.cl_mono h d c1
theorem Di {S:M.S} (h:clS n S=true) {i:Nat}{o:O} (e:S[i]? = some o):O.cl n o=true:=List.all_eq_true.mp h o (y9 e)
end
theorem Gf {S e g:M.S} (f:S.length <= e.length) (c:clS e.length e=true):Emb S.length (qE e.length) e (e++g) :=
 ⟨by simp,eT,f,λi hi=>by rw[Yv (by lia)],λi o q=>by
  have hi:i < e.length:=(List.getElem?_eq_some_iff.mp q).1;exact⟨i,by rw[Yv hi],by rw[yG hi,O.ren_id (An _),q],Di c q⟩⟩
theorem Lo {S g:M.S}{j:Nat} (c:clS S.length S=true) (co:O.cl S.length o=true) (h:(S++g)[j]? = some o) (l:S.length <= j):Emb S.length (qE S.length++[j]) (S++[o]) (S++g):=by
 have old:∀ i,i < S.length->(qE S.length++[j])[i]? = some i:=λi hi=>by
  rw[yG (by simpa using hi),Yv hi]
 refine⟨by simp,?_,by simp,old,λi ob q=>?_⟩
 ·rw[Hv];refine⟨eT,by simp,λa ha b m=>?_⟩;have n:=List.mem_range.mp ha;have p:b=j:=by simpa using m
  lia
 ·by_cases hi:i < S.length
  ·rw[yG hi] at q;have f:=Di c q;exact⟨i,old i hi,by rw[yG hi,O.ren_old old ob f,q],O.cl_mono (by simp) ob f⟩
  ·rw[ZQ (by lia)] at q;have e:i - S.length=0:=by
    cases e:i - S.length with
    | zero=>rfl
    | succ k=>rw[e] at q;simp at q
   rw[e] at q;simp at q;subst q;refine⟨j,?_,by rw[O.ren_old old o co,h],O.cl_mono (by simp) o co⟩;rw[ZQ (by simp;lia)];simp[e]
theorem jI.pure {n:Nat}{f q:F} (h:∀ ds S,ds.length=n->clS S.length S=true->D.cl.all S.length ds=true->q ds S=.no\/∃ d g,q ds S=.ok d S/\f ds S=.ok d (S++g)/\D.cl S.length d=true):jI n f q:=λds S i c j=>by
 rcases h ds S i c j with e | ⟨d,g,l,m,o⟩
 ·exact .inl e
 ·exact .inr ⟨d,S,S++g,qE S.length,l,by rw[D.ren_id (An _)];exact m,Gf (zo _) c,o⟩
theorem jI.new {n:Nat}{f q:F} (h:∀ ds S,ds.length=n->clS S.length S=true->D.cl.all S.length ds=true->q ds S=.no\/∃ o j g,q ds S=alloc o S/\f ds S=.ok (.ref j) (S++g)/\(S++g)[j]? = some o/\S.length <= j/\O.cl S.length o=true):jI n f q:=λds S i c l=>by
 rcases h ds S i c l with e | ⟨o,j,g,m,p,r,s,t⟩
 ·exact .inl e
 ·refine .inr ⟨.ref S.length,S++[o],S++g,qE S.length++[j],m,?_,Lo c t r s,?_⟩
  ·rw[p];show R.ok (D.ref j) _=R.ok (D.ref ((qE S.length++[j]).getD S.length S.length)) _;rw[qP,ZQ (by simp)];simp
  ·show decide (S.length < (S++[o]).length)=true;simp
noncomputable def chS (m:F):F:=λds s=>@dite (R D) (∃ d g,m ds s=.ok d (s++g)/\D.cl s.length d=true) (MD _) (λh=>.ok h.choose s) (λ_=>.no)
theorem yk (m:F):jI n m (chS m):=jI.pure λds S f c i=>by
 unfold chS;by_cases h:∃ d g,m ds S=.ok d (S++g)/\D.cl S.length d=true
 ·obtain⟨g,e,k⟩:=h.choose_spec;exact .inr ⟨h.choose,g,by rw[dif_pos h],e,k⟩
 ·exact .inl (by rw[dif_neg h])
theorem yq {m:F}{ds:List D}{s g:S}{d:D} (e:m ds s=.ok d (s++g)) (k:D.cl s.length d=true):chS m ds s=.ok d s:=by
 have h:∃ d g,m ds s=.ok d (s++g)/\D.cl s.length d=true:=⟨d,g,e,k⟩
 obtain⟨g',c,_⟩:=h.choose_spec;have f:d=h.choose:=by
  have i:=e.symm.trans c;injection i
 unfold chS;rw[dif_pos h,<- f]
noncomputable def chN (m:F):F:=λds s=>@dite (R D) (∃ o j g,m ds s=.ok (.ref j) (s++g)/\(s++g)[j]? = some o/\s.length <= j/\O.cl s.length o=true) (MD _) (λh=>alloc h.choose s) (λ_=>.no)
theorem hX (m:F):jI n m (chN m):=jI.new λds S f c i=>by
 unfold chN;by_cases h:∃ o j g,m ds S=.ok (.ref j) (S++g)/\(S++g)[j]? = some o/\S.length <= j/\O.cl S.length o=true
 ·obtain⟨j,g,e,k⟩:=h.choose_spec;exact .inr ⟨h.choose,j,g,by rw[dif_pos h],e,k⟩
 ·exact .inl (by rw[dif_neg h])
theorem Mr {m:F}{ds:List D}{s g:S}{j:Nat}{o:O} (e:m ds s=.ok (.ref j) (s++g)) (q:(s++g)[j]? = some o) (l:s.length <= j) (k:O.cl s.length o=true):chN m ds s=alloc o s:=by
 have h:∃ o j g,m ds s=.ok (.ref j) (s++g)/\(s++g)[j]? = some o/\s.length <= j/\O.cl s.length o=true:=⟨o,j,g,e,q,l,k⟩
 obtain⟨u,g',i,n,_⟩:=h.choose_spec;have p:=e.symm.trans i;injection p with c r;injection c with c;have t:o=h.choose:=by
  have f:=q;rw[r,c] at f;exact QF (f.symm.trans n)
 unfold chN;rw[dif_pos h,<- t]
end M
namespace M
theorem u1 {f:D->S->R (Option D)}{h:D->D} (c:zh g s=true):∀ {xs:List D},(∀ x∈xs,f x s=.ok (some (h x)) s)->qo g f xs s=.ok (xs.map h) s
 | [],_=>rfl
 | x::xs,e=>by
  show (f x s).bind _=_;rw[e x qa,R.bind_ok,if_pos c,u1 c λy i=>e y (jh _ i)];rfl
theorem cU {f:D->S->R (Option D)}{p:D->Bool}{h:D->D} (c:zh g s=true):∀ {xs:List D},(∀ x∈xs,f x s=.ok (if p x then some (h x) else none) s)->qo g f xs s=.ok ((xs.filter p).map h) s
 | [],_=>rfl
 | x::xs,e=>by
  show (f x s).bind _=_;rw[e x qa,R.bind_ok,if_pos c,cU c λy i=>e y (jh _ i),R.bind_ok];cases j:p x<;>simp[j]
theorem uz {it:IM}{σ:St}{s:S}{xs:List D}{g:Gd} (h:D->D) (hi:it σ s=.ok (xs,g) s) (f:xs.length <= SZ) (c:zh g s=true) (i:∀ x∈xs,qV n tg jU e σ x s=.ok (some (h x)) s):jt n it tg jU e σ s=.ok (xs.map h) s:=by
 unfold jt;rw[hi,R.bind_ok,if_pos ⟨f,c⟩];exact u1 c i
theorem WX {it:IM}{σ:St}{s:S}{lo:Int} (h:Nat->D) (hit:it σ s=.ok (qI lo hi,[]) s) (c:(hi - lo).toNat <= SZ) (f:∀ k:Nat,k < (hi - lo).toNat->qV n tg jU e σ (.int (lo+k)) s=.ok (some (h k)) s) :
  jt n it tg jU e σ s=.ok ((qE (hi - lo).toNat).map h) s:=by
 have:=uz (n:=n) (tg:=tg) (e:=e) (λd=>match d with | .int i=>h (i - lo).toNat | d=>d) hit (by simpa [qI] using c) rfl λx g=>by
  obtain⟨k,j,rfl⟩:=List.mem_map.mp g;have e:(lo+(k:Int) - lo).toNat=k:=by lia
  rw[f k (List.mem_range.mp j)];show R.ok (some (h k)) s=R.ok (some (h (lo+(k:Int) - lo).toNat)) s;rw[e]
 rw[this];unfold qI;rw[ZR];have l:∀ k:Nat,(lo+(k:Int) - lo).toNat=k:=λk=>by lia
 have m:((λd=>match d with | .int i=>h (i - lo).toNat | d=>d) ∘ λ(k:Nat)=>D.int (lo+k))=h:=by
  funext k
  show h (lo+(k:Int) - lo).toNat=h k;rw[l]
 rw[m]
theorem dI {it:IM}{σ:St}{s:S}{x:T} (h:Nat->D) (hit:it σ s=.ok (x.map λc=>.str [c],[]) s) (f:x.length <= SZ) (g:∀ c∈x,qV n tg jU e σ (.str [c]) s=.ok (some (h c)) s) :
  jt n it tg jU e σ s=.ok (x.map h) s:=by
 have:=uz (n:=n) (tg:=tg) (e:=e) (λd=>match d with | .str [c]=>h c | d=>d) hit (by simpa using f) rfl λy i=>by
  obtain⟨c,j,rfl⟩:=List.mem_map.mp i;exact g c j
 rw[this,ZR];rfl
theorem ie {c:Type} (f:c->Bool) (xs:List c):Jn (xs.map λx=>.bl (f x))=some (xs.map f):=by
 induction xs with
 | nil=>rfl
 | cons x xs e=>show (Jn (xs.map λx=>D.bl (f x))).map _=_;rw[e];rfl
theorem all_map {c:Type} (f:c->Bool) (xs:List c) (s:S):JF (xs.map λx=>.bl (f x)) s=.ok (.bl (xs.all f)) s:=by
 unfold JF;rw[ie];simp[cu]
theorem cR {c:Type} (xs:List c) (lo hi:Option Int):(cut xs lo hi).length <= xs.length:=by
 unfold cut;rw[ZG,QW];lia
theorem Yr {c:Type} (xs:List c) {k:Int} (h:0 <= k):cut xs none (some k)=xs.take k.toNat:=by
 unfold cut sIx;have:¬ k < 0:=by lia
 simp only[J0,if_neg this,Nat.sub_zero];by_cases e:k <= xs.length
 ·rw[show (min k (xs.length:Int)).toNat=k.toNat by lia]
 ·rw[kz (by lia),kz (by lia)]
theorem xm {c:Type} (xs:List c) {k:Int} (h:0 <= k):cut xs (some k) none=xs.drop k.toNat:=by
 unfold cut sIx;have:¬ k < 0:=by lia
 simp only[if_neg this];by_cases e:k <= xs.length
 ·rw[show (min k (xs.length:Int)).toNat=k.toNat by lia,kz (by rw[QW];lia)]
 ·rw[A1 (by lia),A1 (by lia)];simp
theorem Cs {c:Type} (f:c->T) (xs:List c):y6 (xs.map λx=>.str (f x))=some (xs.map f):=by
 induction xs with
 | nil=>rfl
 | cons x xs e=>show (y6 (xs.map λx=>D.str (f x))).map _=_;rw[e];rfl
theorem vm (xs:List T):y6 (xs.map .str)=some xs:=by
 have:=Cs (λx:T=>x) xs
 rwa [List.map_id'] at this
theorem DW (xs:List T):qW [] xs=xs.flatten:=by
 induction xs with
 | nil=>rfl
 | cons x xs c =>
  cases xs with
  | nil=>simp[qW]
  | cons y ys=>show x++[]++qW [] (y::ys)=_;rw[c];simp
theorem MB {c e:Type} (f:c->e) (xs:List c):(xs.map λx=>[f x]).flatten=xs.map f:=by
 induction xs with
 | nil=>rfl
 | cons x xs g=>rw[jH,Q8,g];rfl
theorem gB {c:Type} (f:c->Nat) (xs:List c):((xs.map λx=>[f x]).map ZT).sum=xs.length:=by
 induction xs with
 | nil=>rfl
 | cons x xs e=>rw[jH,jH,W8,e,zx];show 1+xs.length=xs.length+1;lia
theorem Bq {c:Type} (f:c->Nat) (xs:List c) (s:S) (h:xs.length <= SZ):q7 [] (xs.map λx=>.str [f x]) s=.ok (.str (xs.map f)) s:=by
 unfold q7;rw[Cs];dsimp only;rw[if_pos,DW,MB];rw[gB];simpa using h
noncomputable def ya (s:S):D->Bool
 | .str _=>false
 | .ty _=>false
 | .ref p=>(match s[p]? with | some (.lst _)=>true | some (.dct _)=>true | _=>false)
 | _=>true
theorem Ym (n:Nat):∀ ts:List T,D.cl.all n (ts.map .str)=true
 | []=>rfl
 | _::ts=>by
  show (D.cl n (.str _) && D.cl.all n (ts.map .str))=true;rw[Ym n ts];rfl
theorem Yl (x:T):∀ ts:List T,y2 (.str x) (ts.map .str)=ts.contains x
 | []=>rfl
 | t::ts=>by
  have:=Yl x ts;unfold y2 at this ⊢;rw[jH,QR,this,GP];simp[eqF,BEq.comm (a:=t)]
theorem aF (ts:List T):(ts.map D.str).all flat=true:=by
 rw[cu];exact List.all_eq_true.mpr λ_ _=>rfl
theorem JK {c:Type}{xs:List c}{k:Int} (e:0 <= k) (h:k < xs.length) (d:c):atI xs k=some (xs.getD k.toNat d):=by
 unfold atI ixN;rw[if_pos e,if_pos h];have f:k.toNat < xs.length:=by lia
 simp[qP,f]
theorem yl {S:M.S}{p:Nat}{o:O} (e:S[p]? = some o) (g:M.S):(S++g)[p]? = some o:=by
 rw[yG (List.getElem?_eq_some_iff.mp e).1];exact e
noncomputable def jP:List T:=[[111,102],[105,102],[105,115],[116,104,101,110],[101,108,115,101],[101,97,99,104],[100,111],[105,116],[98,97,99,107],[102,105,114,115,116],[114,101,115,116],[99,111,117,110,116],[115,111,114,116,101,100],[102,97,105,108],[108,105,110,101],[109,111,114,101]]
noncomputable def Qe (x:T):Bool:=!decide (x < [97]) && !decide ([122] < x)
noncomputable def yg (x:T):Bool:=decide (1 <= x.length) && decide (x.length <= 8) && !(jP.contains x) && x.all λc=>Qe [c]
theorem ly:([(.str [111,102]),(.str [105,102]),(.str [105,115]),(.str [116,104,101,110]),(.str [101,108,115,101]),(.str [101,97,99,104]),(.str [100,111]),(.str [105,116]),(.str [98,97,99,107]),(.str [102,105,114,115,116]),(.str [114,101,115,116]),(.str [99,111,117,110,116]),(.str [115,111,114,116,101,100]),(.str [102,97,105,108]),(.str [108,105,110,101]),(.str [109,111,114,101])]:List D)=jP.map .str:=rfl
theorem Dp {it:IM}{σ:St}{s s1:S}{xs:List D}{g:Gd} (h:D->D) (hi:it σ s=.ok (xs,g) s1) (f:xs.length <= SZ) (c:zh g s1=true) (i:∀ x∈xs,qV n tg jU e σ x s1=.ok (some (h x)) s1):jt n it tg jU e σ s=.ok (xs.map h) s1:=by
 unfold jt;rw[hi,R.bind_ok,if_pos ⟨f,c⟩];exact u1 c i
theorem iw {it:IM}{σ:St}{s s1:S}{xs:List D}{g:Gd} (p:D->Bool) (h:D->D) (hi:it σ s=.ok (xs,g) s1) (i:xs.length <= SZ) (f:zh g s1=true) (j:∀ x∈xs,qV n tg c e σ x s1=.ok (if p x then some (h x) else none) s1):jt n it tg c e σ s=.ok ((xs.filter p).map h) s1:=by
 unfold jt;rw[hi,R.bind_ok,if_pos ⟨i,f⟩];exact cU f j
theorem CJ {it:IM}{σ:St}{s s1:S}{ts:List T}{g:Gd} (p:T->Bool) (hi:it σ s=.ok (ts.map .str,g) s1) (f:ts.length <= SZ) (h:zh g s1=true) (i:∀ x∈ts,qV n tg c e σ (.str x) s1=.ok (if p x then some (.str x) else none) s1):jt n it tg c e σ s=.ok ((ts.filter p).map .str) s1:=by
 rw[iw (λd=>match d with | .str y=>p y | _=>false) id hi (by simpa using f) h λd hd=>by
  obtain⟨y,j,rfl⟩:=List.mem_map.mp hd;exact i y j]
 rw[ZN,List.filter_map];rfl
theorem VY (c:Nat):∀ x:T,(jE c x).length <= x.length+1
 | []=>by simp[jE]
 | d::r=>by
  have e:=VY c r;unfold jE;split
  ·simp;lia
  ·split<;>simp_all<;>lia
theorem Kq {f:D->SM} (I:Nat->St->S->Prop):∀ (xs:List D) (i:Nat) (σ:St) (s:S),I i σ s->(∀ (j:Nat) x,xs[j]? = some x->∀ σ s,I (i+j) σ s->∃ c l,f x σ s=.nx c l/\zh g l=true/\I (i+j+1) c l)->∃ c l,j9 g f xs σ s=.nx c l/\I (i+xs.length) c l
 | [],i,σ,s,h,_=>⟨σ,s,rfl,h⟩
 | x::xs,i,σ,s,h,e=>by
  obtain⟨m,s1,o,p,q⟩:=e 0 x rfl σ s h;obtain⟨n,t,u,v⟩:=Kq I xs (i+1) m s1 q λj y w σ s z=>by
   have:=e (j+1) y (by simpa using w) σ s (by rw[show i+(j+1)=i+1+j by lia];exact z)
   rwa [show i+(j+1)+1=i+1+j+1 by lia] at this
  refine⟨n,t,?_,by rw[zx,show i+(xs.length+1)=i+1+xs.length by lia];exact v⟩;show (match f x σ s with | .nx σ s=>if zh g s then j9 g f xs σ s else .no | .ct σ s=>if zh g s then j9 g f xs σ s else .no | .bk σ s=>.nx σ s | r=>r)=_;rw[o];dsimp only;rw[if_pos p,u]
theorem Cz (g:Nat->Option P):∀ ts:List T,qj.all g (ts.map .str)=some (ts.map P.str)
 | []=>rfl
 | t::ts=>by
  show (match qj g (.str t),qj.all g (ts.map .str) with | some p,some ps=>some (p::ps) | _,_=>none)=_;rw[Cz g ts];rfl
theorem az:∀ ts:List T,P.deps (ts.map P.str)=0
 | []=>by simp[P.deps]
 | t::ts=>by simp[P.deps,P.dep,az ts]
theorem AW:∀ ts us:List T,P.eqvs (ts.map P.str) (us.map P.str)=decide (ts=us)
 | [],[]=>by simp[P.eqvs]
 | [],u::us=>by simp[P.eqvs]
 | t::ts,[]=>by simp[P.eqvs]
 | t::ts,u::us=>by
  simp only[jH,P.eqvs,P.eqv,AW ts us];by_cases h:t=u<;>by_cases c:ts=us<;>simp[h,c]
noncomputable def jy (x:T):T:=x.map λc=>if c=10 then 32 else c
noncomputable def zb (x:T):List T:=(jE 32 (jy x)).filter λw=>decide (w≠[])
@[simp] noncomputable def VL:D->D->S->R D
 | .tup [],.tup b,s=>.ok (.tup b) s
 | x,y,s=>zc x y s
end M
namespace M
noncomputable def kyT:D->Bool
 | .tup ds=>kyD 7 (.tup ds)
 | _=>false
end M
namespace L2
open PySem PySem.Spec PyProof.Rows
noncomputable def ofT (x:M.T):Str:=⟨x.toArray⟩
theorem qL (x:M.T):(ofT x).length=x.length:=by simp[ofT,Wi]
theorem ZP (x:M.T):(ofT x).cps.toList=x:=by simp[ofT]
theorem uC {y:M.T} (h:ofT x=ofT y):x=y:=by rw[<- ZP x,h,ZP]
theorem Dh (x y:M.T):ofT x++ofT y=ofT (x++y):=by
 show (⟨x.toArray++y.toArray⟩:Str)=_;simp[ofT]
abbrev okT (x:M.T):Prop:=x.all (λc=>decide (c < 1114112))=true
theorem YN {y:M.T} (h:okT x) (k:okT y):okT (x++y):=by show (x++y).all _=true;rw[List.all_append,h,k];rfl
theorem kW {y:M.T} (h:okT x) (k:∀ c∈y,c∈x):okT y:=List.all_eq_true.mpr λc e=>List.all_eq_true.mp h c (k c e)
theorem yr:M.SZ=zg:=by rw[Z8];rfl
def kf (K:PySem.W.Frag) (H:Hp) (a:zE) (xs:List V):Prop :=
 (∃ o,H a=some (.frz o (.lst xs))) \/
  ∃ (o:Obj) (its:Array zD) (n:Nat),K.lookup a=some o/\o.cls=.type "list" /\ o.dict=none/\o.data=.seq its n/\its.size <= zg/\zd xs its.toList
theorem kf.sq {K:PySem.W.Frag}{a:zE} (h:kf K H a xs):SqL K H a xs:=by
 rcases h with ⟨o,h⟩ | h
 ·exact .inl (.inr ⟨o,h⟩)
 ·exact .inr h
structure Le (H H':Hp):Prop where
 tups:∀ b xs,H b=some (.tup xs)->H' b=some (.tup xs)
 frzs:∀ b o u,H b=some (.frz o u)->H' b=some (.frz o u)
theorem Le.refl (H:Hp):Le H H:=⟨λ_ _ h=>h,λ_ _ _ h=>h⟩
theorem Le.trans (a:Le H e) (b:Le e f):Le H f:=⟨λc xs h=>b.tups c xs (a.tups c xs h),λc o u h=>b.frzs c o u (a.frzs c o u h)⟩
theorem Le.new {H:Hp}{p:zE} (h:H p=none) (o:HO):Le H (upd H p o) :=
 ⟨λb xs q=>by rw[ja (Jv q h)];exact q,λb o u q=>by rw[ja (Jv q h)];exact q⟩
theorem Le.put {H:Hp}{p:zE} (h:Mut (H p)) (o:HO):Le H (upd H p o) :=
 ⟨λb xs q=>by rw[ja (λz=>by subst z;rw[q] at h;exact h)];exact q,λb o u q=>by rw[ja (λz=>by subst z;rw[q] at h;exact h)];exact q⟩
theorem Le.rol {K:PySem.W.Frag}{a:zE} (e:Le H c) (h:kf K H a xs):kf K c a xs:=by
 rcases h with ⟨o,h⟩ | h
 ·exact .inl ⟨o,e.frzs _ _ _ h⟩
 ·exact .inr h
theorem Le.sqT {K:PySem.W.Frag}{a:zE} (e:Le H c) (h:SqT K H a xs):SqT K c a xs:=by
 rcases h with (h | ⟨o,h⟩) | h
 ·exact .inl (.inl (e.tups _ _ h))
 ·exact .inl (.inr ⟨o,e.frzs _ _ _ h⟩)
 ·exact .inr h
noncomputable def yh:M.Kd->String
 | .str => "str" | .int => "int" | .bool => "bool" | .list => "list" | .tuple => "tuple" | .dict => "dict"
noncomputable def zO (K:PySem.W.Frag) (c:List zE) (H:Hp):M.D->V->Prop
 | .non,v=>v=.non
 | .bl b,v=>v=.bl b
 | .int i,v=>v=.int i
 | .str x,v=>v=.str (ofT x)/\okT x
 | .ty n,v=>v=.ty (yh n)
 | .ref i,v=>∃ a,v=.ref a/\c[i]? = some a
 | .tup ds,v=>∃ a xs,v=.ref a/\SqT K H a xs/\all ds xs
 | .ro ds,v=>∃ a xs,v=.ref a/\kf K H a xs/\all ds xs
where all:List M.D->List V->Prop
 | [],xs=>xs=[]
 | d::ds,xs=>∃ y ys,xs=y::ys/\zO K c H d y/\all ds ys
noncomputable abbrev zU (K:PySem.W.Frag) (c:List zE) (H:Hp):List M.D->List V->Prop:=zO.all K c H
theorem kh {f c:List zE} (h:f <+: c) {i:Nat}{a:zE} (e:f[i]? = some a):c[i]? = some a:=by
 obtain⟨t,rfl⟩:=h;rw[yG (List.getElem?_eq_some_iff.mp e).1];exact e
section
variable {K:PySem.W.Frag}{ρ ρ':List zE}{H H':Hp}
mutual
theorem zO.mono (c:ρ <+: ρ') (le:Le H H'):∀ {d:M.D}{v:V},zO K ρ H d v->zO K ρ' H' d v
 | .non,_,h=>h
 | .bl _,_,h=>h
 | .int _,_,h=>h
 | .str _,_,h=>h
 | .ty _,_,h=>h
 | .ref _,_,⟨a,e,h⟩=>⟨a,e,kh c h⟩
 | .tup _,_,⟨a,xs,e,h,r⟩=>⟨a,xs,e,le.sqT h,zU.mono c le r⟩
 | .ro _,_,⟨a,xs,e,h,r⟩=>⟨a,xs,e,le.rol h,zU.mono c le r⟩
theorem zU.mono (c:ρ <+: ρ') (le:Le H H'):∀ {ds:List M.D}{xs:List V},zU K ρ H ds xs->zU K ρ' H' ds xs
 | [],_,h=>h
 | _::_,_,⟨y,ys,e,h,r⟩=>⟨y,ys,e,zO.mono c le h,zU.mono c le r⟩
end
theorem zU.length:∀ {ds:List M.D}{xs:List V},zU K c H ds xs->ds.length=xs.length
 | [],_,h=>by cases h;rfl
 | _::_,_,⟨_,_,e,_,r⟩=>by subst e;rw[zx,zx,zU.length r]
theorem zU.get:∀ {ds:List M.D}{xs:List V}{i:Nat}{d:M.D},zU K f H ds xs->ds[i]? = some d->∃ v,xs[i]? = some v/\zO K f H d v
 | [],_,_,_,_,e=>by simp at e
 | _::_,_,0,_,⟨y,_,c,h,_⟩,e=>by subst c;simp at e;subst e;exact⟨y,rfl,h⟩
 | _::_,_,i+1,d,⟨_,ys,c,_,r⟩,e=>by
  subst c;obtain⟨v,g,j⟩:=zU.get (i:=i) (d:=d) r (by simpa using e);exact⟨v,by simpa using g,j⟩
theorem zU.app:∀ {ds es:List M.D}{xs ys:List V},zU K c H ds xs->zU K c H es ys->zU K c H (ds++es) (xs++ys)
 | [],_,_,_,h,k=>by cases h;exact k
 | _::_,_,_,_,⟨y,ys,e,h,r⟩,k=>by subst e;exact⟨y,_,rfl,h,zU.app r k⟩
theorem zU.take:∀ {ds:List M.D}{xs:List V} (n:Nat),zU K c H ds xs->zU K c H (ds.take n) (xs.take n)
 | _,_,0,_=>rfl
 | [],_,_+1,h=>by cases h;rfl
 | _::_,_,n+1,⟨y,ys,e,h,r⟩=>by subst e;exact⟨y,_,rfl,h,zU.take n r⟩
theorem zU.drop:∀ {ds:List M.D}{xs:List V} (n:Nat),zU K c H ds xs->zU K c H (ds.drop n) (xs.drop n)
 | _,_,0,h=>h
 | [],_,_+1,h=>by cases h;rfl
 | _::_,_,n+1,⟨y,ys,e,h,r⟩=>by subst e;exact zU.drop n r
theorem zU.set {d:M.D} (hd:zO K c H d v):∀ {ds:List M.D}{xs:List V} (n:Nat),zU K c H ds xs->zU K c H (ds.set n d) (xs.set n v)
 | [],_,_,h=>by cases h;rfl
 | _::_,_,0,⟨y,ys,e,h,r⟩=>by subst e;exact⟨v,ys,rfl,hd,r⟩
 | _::_,_,n+1,⟨y,ys,e,h,r⟩=>by subst e;exact⟨y,_,rfl,h,zU.set hd n r⟩
theorem zU.rev {ds:List M.D} (h:zU K c H ds xs):zU K c H ds.reverse xs.reverse:=by
 induction ds generalizing xs with
 | nil=>cases h;rfl
 | cons d ds f =>
  obtain⟨y,ys,e,g,r⟩:=h;subst e;rw[Yd,Yd];exact (f r).app ⟨y,[],rfl,g,rfl⟩
theorem zU.dropLast {ds:List M.D} (h:zU K c H ds xs):zU K c H ds.dropLast xs.dropLast:=by
 rw[eK,eK,h.length];exact h.take _
end
section
variable {K:PySem.W.Frag}{ρ ρ':List zE}{H H':Hp}{ds es:List M.D}{xs ys:List V}
theorem zO.all.mono (h:zO.all K ρ H ds xs) (c:ρ <+: ρ') (le:Le H H'):zO.all K ρ' H' ds xs:=zU.mono c le h
theorem zO.all.length (h:zO.all K ρ H ds xs):ds.length=xs.length:=zU.length h
theorem zO.all.app (h:zO.all K ρ H ds xs) (k:zO.all K ρ H es ys):zO.all K ρ H (ds++es) (xs++ys):=zU.app h k
end
noncomputable def Zm:M.D->Key->Prop
 | .int i,k=>k=.inl i
 | .str x,k=>k=.inr (ofT x)/\okT x
 | _,_=>False
structure Tab where
 tab:Nat->Option (zE×List Str)
 ha:M.D->Int:=λ_=>0
 x:XK:=λ_ _ _=>False
instance:CoeFun Tab λ_=>Nat->Option (zE×List Str):=⟨Tab.tab⟩
def TD (ha:M.D->Int) (a:zE) (xs:List (M.D×zE×zD)) (h:zi):Prop:=xs.length <= zg/\(a == Zu)=false/\(xs.map (·.1)).Nodup /\
 ∃ o es c,h.get? a=some o/\o.ExactDict/\o.data=.dict es c/\es.toList=xs.map λx=>⟨ha x.1,.ref x.2.1,x.2.2⟩
def TDr (K:PySem.W.Frag) (c:List zE) (H:Hp) (p:M.D×M.D) (q:M.D×zE×zD):Prop:=q.1=p.1/\M.kyD 7 p.1=true/\zO K c H p.1 (.ref q.2.1)/\∃ v,zO K c H p.2 v/\zj v q.2.2
theorem TDr.mono {K:PySem.W.Frag}{f c:List zE} (e:f <+: c) (le:Le H g) (h:TDr K f H p q):TDr K c g p q :=
 ⟨h.1,h.2.1,h.2.2.1.mono e le,let ⟨v,a,b⟩:=h.2.2.2;⟨v,a.mono e le,b⟩⟩
structure Jr (K:PySem.W.Frag) (ρ:List zE) (H:Hp) (N:List Str) (fs:List (Option M.D)) (gs:List (Str×V)):Prop where
 len:fs.length=N.length
 nd:(gs.map (·.1)).Nodup
 within:∀ f∈gs.map (·.1),f∈N
 get:∀ (i:Nat) (f:Str) (d:M.D),N[i]? = some f->fs[i]? = some (some d)->∃ v,gs.lookup f=some v/\zO K ρ H d v
noncomputable def ObR (K:PySem.W.Frag) (f:Tab) (e:List zE) (H:Hp) (a:zE):M.O->Prop
 | .lst ds=>∃ xs,H a=some (.lst xs)/\zU K e H ds xs
 | .dct kvs=>∃ ks,H a=some (.dK ks)/\Paired (λ(p:M.D×M.D) (q:Key×V)=>Zm p.1 q.1/\zO K e H p.2 q.2) kvs ks
 | .fdc kvs=>∃ o ks,H a=some (.frz o (.dK ks))/\Paired (λ(p:M.D×M.D) (q:Key×V)=>Zm p.1 q.1/\zO K e H p.2 q.2) kvs ks
 | .dtt kvs=>∃ xs,H a=some (.ext (TD f.ha a xs))/\Paired (TDr K e H) kvs xs
 | .ftt kvs=>∃ o xs,H a=some (.frz o (.ext (TD f.ha a xs)))/\Paired (TDr K e H) kvs xs
 | .ins c fs=>∃ C h g N,H a=some (.ins C h g)/\f c=some (C,N)/\Jr K e H N fs g
structure zY (K:PySem.W.Frag) (Θ:Tab) (ρ:List zE) (S:M.S) (H:Hp):Prop where
 len:ρ.length=S.length
 nd:ρ.Nodup
 obj:∀ (i:Nat) (o:M.O),S[i]? = some o->∃ a,ρ[i]? = some a/\ObR K Θ ρ H a o
structure jL (K:PySem.W.Frag) (ρ:List zE) (H:Hp) (σ':M.St) (σ:St):Prop where
 len:σ'.length=σ.length
 get:∀ (i:Nat) (d:M.D),σ'[i]? = some (some d)->∃ v,σ[i]? = some (some v)/\zO K ρ H d v
section
variable {K:PySem.W.Frag}{Θ:Tab}{ρ ρ':List zE}{H H':Hp}{S:M.S}
theorem jL.mono (h:jL K ρ H c σ) (f:ρ <+: ρ') (le:Le H H'):jL K ρ' H' c σ :=
 ⟨h.len,λi d e=>let ⟨v,g,j⟩:=h.get i d e;⟨v,g,j.mono f le⟩⟩
theorem jL.set {d:M.D} (h:jL K ρ H c σ) (hd:zO K ρ H d v) (i:Nat):jL K ρ H (c.set i (some d)) (σ.set i (some v)):=by
 refine⟨by rw[xw,xw,h.len],λj e q=>?_⟩;by_cases f:i=j
 ·subst f;by_cases g:i < c.length
  ·rw[J6 g] at q;cases q;exact⟨v,by rw[J6 (h.len ▸ g)],hd⟩
  ·rw[YH (by rw[xw];lia)] at q;cases q
 ·rw[Zk f] at q;rw[Zk f];exact h.get j e q
theorem jL.more (h:jL K ρ H c σ) (n:Nat):jL K ρ H (c++z9 n none) (σ++z9 n none):=by
 refine⟨by simp[h.len],λi d q=>?_⟩;by_cases e:i < c.length
 ·rw[yG e] at q;rw[yG (h.len ▸ e)];exact h.get i d q
 ·rw[ZQ (by lia),K3] at q;split at q<;>cases q
theorem zY.tracked (h:zY K Θ ρ S H) {a:zE} (m:a∈ρ):∃ o,H a=some o:=by
 obtain⟨i,hi,e⟩:=List.mem_iff_getElem.mp m;have j:i < S.length:=h.len ▸ hi;obtain⟨l,g,r⟩:=h.obj i S[i] (by simp[j]);rw[yQ hi,e] at g;cases g;cases q:S[i] with
 | lst ds=>rw[q] at r;obtain⟨xs,f,_⟩:=r;exact⟨_,f⟩
 | dct kvs=>rw[q] at r;obtain⟨xs,f,_⟩:=r;exact⟨_,f⟩
 | fdc kvs=>rw[q] at r;obtain⟨o,xs,f,_⟩:=r;exact⟨_,f⟩
 | dtt kvs=>rw[q] at r;obtain⟨xs,f,_⟩:=r;exact⟨_,f⟩
 | ftt kvs=>rw[q] at r;obtain⟨o,xs,f,_⟩:=r;exact⟨_,f⟩
 | ins c fs=>rw[q] at r;obtain⟨_,_,_,_,f,_⟩:=r;exact⟨_,f⟩
theorem zY.fresh (h:zY K Θ ρ S H) {p:zE} (c:H p=none):p∉ρ:=λm=>by
 obtain⟨o,e⟩:=h.tracked m;rw[c] at e;cases e
theorem ObR.stay {a:zE} (h:ObR K Θ ρ H a o) (g:ρ <+: ρ') (le:Le H H') (e:H' a=H a):ObR K Θ ρ' H' a o:=by
 cases o with
 | lst ds=>obtain⟨xs,j,r⟩:=h;exact⟨xs,e.trans j,r.mono g le⟩
 | dct kvs=>obtain⟨ks,j,r⟩:=h;exact⟨ks,e.trans j,Paired.mapP r λp q z=>⟨z.1,z.2.mono g le⟩⟩
 | fdc kvs=>obtain⟨o,ks,j,r⟩:=h;exact⟨o,ks,e.trans j,Paired.mapP r λp q z=>⟨z.1,z.2.mono g le⟩⟩
 | dtt kvs=>obtain⟨xs,j,r⟩:=h;exact⟨xs,e.trans j,Paired.mapP r λp q z=>z.mono g le⟩
 | ftt kvs=>obtain⟨o,xs,j,r⟩:=h;exact⟨o,xs,e.trans j,Paired.mapP r λp q z=>z.mono g le⟩
 | ins c fs =>
  obtain⟨C,l,m,N,j,n,r⟩:=h;exact⟨C,l,m,N,e.trans j,n,r.len,r.nd,r.within,λi f d s t=>let ⟨v,u,w⟩:=r.get i f d s t;⟨v,u,w.mono g le⟩⟩
theorem zY.stay (h:zY K Θ ρ S H) (le:Le H H') (e:∀ a∈ρ,H' a=H a):zY K Θ ρ S H' :=
 ⟨h.len,h.nd,λi o q=>let ⟨a,c,f⟩:=h.obj i o q;⟨a,c,f.stay (jg _) le (e a (y9 c))⟩⟩
theorem zY.aside (h:zY K Θ ρ S H) {p:zE} (c:H p=none) (o:HO):zY K Θ ρ S (upd H p o) :=
 h.stay (Le.new c o) λa m=>ja (λz=>h.fresh c (z ▸ m))
theorem zY.alloc (h:zY K Θ ρ S H) {p:zE} (c:H p=none) (r:ObR K Θ (ρ++[p]) (upd H p u) p o):zY K Θ (ρ++[p]) (S++[o]) (upd H p u):=by
 refine⟨by simp[h.len],?_,λi ob q=>?_⟩
 ·rw[Hv];refine⟨h.nd,by simp,λa ha b g=>?_⟩;have e:b=p:=by simpa using g
  rw[e];exact λz=>h.fresh c (z ▸ ha)
 ·by_cases j:i < S.length
  ·rw[yG j] at q;obtain⟨a,f,l⟩:=h.obj i ob q;refine⟨a,kh (Zo _ _) f,l.stay (Zo _ _) (Le.new c u) (ja λz=>h.fresh c (z ▸ y9 f))⟩
  ·rw[ZQ (by lia)] at q;have hi:i - S.length=0:=by
    cases m:i - S.length with
    | zero=>rfl
    | succ k=>rw[m] at q;simp at q
   rw[hi] at q;simp at q;subst q;refine⟨p,?_,r⟩;rw[ZQ (by rw[h.len];lia),h.len,hi];rfl
theorem Yy {e:Type}{ρ:List e} (c:ρ.Nodup) {i j:Nat}{x:e} (a:ρ[i]? = some x) (b:ρ[j]? = some x):i=j:=by
 induction ρ generalizing i j with
 | nil=>simp at a
 | cons y r f =>
  rw[wM] at c;cases i with
  | zero =>
   cases j with
   | zero=>rfl
   | succ j =>
    simp at a b;subst a;exact absurd (y9 b) c.1
  | succ i =>
   cases j with
   | zero =>
    simp at a b;subst b;exact absurd (y9 a) c.1
   | succ j =>
    simp at a b;rw[f c.2 a b]
theorem mS {c:Type}{l:List c} (h:∀ (i j:Nat) x,l[i]? = some x->l[j]? = some x->i=j):l.Nodup:=by
 induction l with
 | nil=>exact cZ
 | cons y r f =>
  refine List.nodup_cons.mpr ⟨λm=>?_,f λi j x a b=>?_⟩
  ·obtain⟨j,g,e⟩:=List.mem_iff_getElem.mp m;have:=h 0 (j+1) y (by simp) (by simp[e,g])
   lia
  ·have:=h (i+1) (j+1) x (by simpa using a) (by simpa using b)
   lia
theorem F8 {c:Type}{l:List c} (f:l.Nodup) {i j:Nat} (hi:i < l.length) (g:j < l.length) (e:l[i]=l[j]):i=j :=
 Yy f (x:=l[i]) (by simp[hi]) (by rw[e];simp[g])
theorem zY.put (h:zY K Θ ρ S H) {i:Nat}{a:zE} (ha:ρ[i]? = some a) (f:Mut (H a)) (r:ObR K Θ ρ (upd H a u) a o):zY K Θ ρ (S.set i o) (upd H a u):=by
 refine⟨by simp[h.len],h.nd,λj ob q=>?_⟩;by_cases c:i=j
 ·subst c;by_cases g:i < S.length
  ·rw[J6 g] at q;cases q;exact⟨a,ha,r⟩
  ·rw[YH (by rw[xw];lia)] at q;cases q
 ·rw[Zk c] at q;obtain⟨b,e,l⟩:=h.obj j ob q;refine⟨b,e,l.stay (jg _) (Le.put f u) (ja λz=>?_)⟩;subst z;exact c (Yy h.nd ha e)
end
def XR (K:PySem.W.Frag) (g:Tab) (h:List zE) (H:Hp) (d:M.D) (C:zE) (e:Option zE):Prop:=∃ (c:Nat) (ds:List M.D) (N:List Str),d=.tup (.int c::ds)/\g c=some (C,N)/\((ds=[]/\N=[]/\e=none)\/∃ f vs,e=some f/\H f=some (.xd (N.zip vs))/\N.length=vs.length/\zU K h H ds vs)
def yw (K:PySem.W.Frag) (f:Tab) (h:List zE) (H:Hp) (d:M.D) (S:M.S):Prop:=∀ c e C g,h <+: c->Le H e->zY K f c S e->XR K f c e d C g->f.x (.ref C) g e
theorem yw.weak {K:PySem.W.Frag}{c:List zE}{d:M.D}{S:M.S} (h:yw K g i H d S) (e:i <+: c) (le:Le H j):yw K g c j d S:=λf m C n p l=>h f m C n (e.trans p) (le.trans l)
noncomputable def zG {g h:Type} (K:PySem.W.Frag) (i:Tab) (Rl:List zE->Hp->g->h->Prop) (j:List zE) (H:Hp):M.R g->(h->Hp->Prop)->Prop
 | .ok a f,Q=>∀ c e b,j <+: c->Le H e->zY K i c f e->Rl c e a b->Q b e
 | .exc d f,_=>yw K i j H d f
 | .no,_=>False
noncomputable abbrev rB:List zE->Hp->Bool->Bool->Prop:=λ_ _ a b=>a=b
noncomputable abbrev rO:List zE->Hp->Option Int->Option Int->Prop:=λ_ _ a b=>a=b
section
variable {K:PySem.W.Frag}{Θ:Tab}{ρ ρ':List zE}{H H':Hp}{S:M.S}{α β γ δ:Type}{Rl:List zE->Hp->α->β->Prop}{Rk:List zE->Hp->γ->δ->Prop}{Q:β->Hp->Prop}{Q':δ->Hp->Prop}
theorem zG.weak {r:M.R α} (h:zG K Θ Rl ρ H r Q) (c:ρ <+: ρ') (le:Le H H'):zG K Θ Rl ρ' H' r Q:=by
 cases r with
 | ok a s=>exact λf g b p l=>h f g b (c.trans p) (le.trans l)
 | exc e s=>exact yw.weak h c le
 | no=>exact h
theorem zG.bind {r:M.R α}{f:α->M.S->M.R γ} (h:zG K Θ Rk ρ H (r.bind f) Q')
  (k:∀ ρ' H' a b g,ρ <+: ρ'->Le H H'->zY K Θ ρ' g H'->Rl ρ' H' a b->zG K Θ Rk ρ' H' (f a g) Q'->Q b H'):zG K Θ Rl ρ H r Q:=by
 cases r with
 | ok a s=>exact λc i b p l j m=>k c i a b s p l j m (zG.weak h p l)
 | exc e s=>exact h
 | no=>exact h
theorem zG.here {a:α}{b:β} (h:zG K Θ Rl ρ H (.ok a S) Q) (c:zY K Θ ρ S H) (e:Rl ρ H a b):Q b H:=h ρ H b (jg _) (Le.refl _) c e
end
def RdE (K:PySem.W.Frag) (f:Tab) (m:M.EM):TE:=λσ H Q=>∃ e c S,jL K e H c σ/\zY K f e S H/\zG K f (zO K) e H (m c S) Q
def RdT (K:PySem.W.Frag) (f:Tab) (m:M.TM):TT:=λσ H Q=>∃ e c S,jL K e H c σ/\zY K f e S H/\zG K f rB e H (m c S) Q
def RdA (K:PySem.W.Frag) (f:Tab) (m:M.AM):TA:=λσ H Q=>∃ e c S,jL K e H c σ/\zY K f e S H/\zG K f (zU K) e H (m c S) Q
def RdO (K:PySem.W.Frag) (f:Tab) (m:M.OM):TO:=λσ H Q=>∃ e c S,jL K e H c σ/\zY K f e S H/\zG K f rO e H (m c S) Q
abbrev ME (X:Cx) (c:Tab) (e:zV) (m:M.EM):Prop:=PE X e (RdE X.K c m)
@[irreducible] def WE (X:Cx) (c:Tab) (e:zV) (m:M.EM):Prop:=ME X c e m
abbrev MT (X:Cx) (c:Tab) (e:zV) (m:M.TM):Prop:=PT X e (RdT X.K c m)
@[irreducible] def WT (X:Cx) (c:Tab) (e:zV) (m:M.TM):Prop:=MT X c e m
abbrev MW (X:Cx) (c:Tab) (e:zV) (m:M.TM):Prop:=PW X e (RdT X.K c m)
@[irreducible] def WW (X:Cx) (c:Tab) (e:zV) (m:M.TM):Prop:=MW X c e m
abbrev MA (X:Cx) (c:Tab) (es:List zV) (m:M.AM):Prop:=PA X es (RdA X.K c m)
@[irreducible] def WA (X:Cx) (c:Tab) (es:List zV) (m:M.AM):Prop:=MA X c es m
abbrev MO (X:Cx) (c:Tab) (e:Option zV) (m:M.OM):Prop:=PO X e (RdO X.K c m)
@[irreducible] def WO (X:Cx) (c:Tab) (e:Option zV) (m:M.OM):Prop:=MO X c e m
theorem PE.imp {X:Cx}{t':TE} (h:PE X e t) (i:∀ σ H Q,t' σ H Q->t σ H Q):PE X e t':=λc s σ H Q I q=>h c s σ H Q I (i σ H Q q)
theorem PT.imp {X:Cx}{t':TT} (h:PT X e t) (i:∀ σ H Q,t' σ H Q->t σ H Q):PT X e t':=λc s σ H Q I q=>h c s σ H Q I (i σ H Q q)
theorem PW.imp {X:Cx}{t':TT} (h:PW X e t) (i:∀ σ H Q,t' σ H Q->t σ H Q):PW X e t':=λf c s σ H Q I q=>h f c s σ H Q I (i σ H Q q)
theorem PA.imp {X:Cx}{t':TA} (h:PA X es t) (i:∀ σ H Q,t' σ H Q->t σ H Q):PA X es t':=λpos c s σ H Q I q=>h pos c s σ H Q I (i σ H Q q)
theorem PO.imp {X:Cx}{t':TO} (h:PO X e t) (i:∀ σ H Q,t' σ H Q->t σ H Q):PO X e t':=λc s σ H Q I q=>h c s σ H Q I (i σ H Q q)
theorem PE.up {X:Cx}{m:M.EM} (h:PE X e t) (i:∀ σ H Q g f S,jL X.K g H f σ->zY X.K j g S H->zG X.K j (zO X.K) g H (m f S) Q->t σ H Q):PE X e (RdE X.K j m):=h.imp λσ H Q ⟨g,f,S,a,b,c⟩=>i σ H Q g f S a b c
theorem PT.up {X:Cx}{m:M.TM} (h:PT X e t) (i:∀ σ H Q g f S,jL X.K g H f σ->zY X.K j g S H->zG X.K j rB g H (m f S) Q->t σ H Q):PT X e (RdT X.K j m):=h.imp λσ H Q ⟨g,f,S,a,b,c⟩=>i σ H Q g f S a b c
theorem PW.up {X:Cx}{m:M.TM} (h:PW X e t) (i:∀ σ H Q g f S,jL X.K g H f σ->zY X.K j g S H->zG X.K j rB g H (m f S) Q->t σ H Q):PW X e (RdT X.K j m):=h.imp λσ H Q ⟨g,f,S,a,b,c⟩=>i σ H Q g f S a b c
theorem PA.up {X:Cx}{m:M.AM} (h:PA X es t) (i:∀ σ H Q f e S,jL X.K f H e σ->zY X.K g f S H->zG X.K g (zU X.K) f H (m e S) Q->t σ H Q):PA X es (RdA X.K g m):=h.imp λσ H Q ⟨f,e,S,a,b,c⟩=>i σ H Q f e S a b c
theorem PO.up {X:Cx}{m:M.OM} (h:PO X e t) (i:∀ σ H Q g f S,jL X.K g H f σ->zY X.K j g S H->zG X.K j rO g H (m f S) Q->t σ H Q):PO X e (RdO X.K j m):=h.imp λσ H Q ⟨g,f,S,a,b,c⟩=>i σ H Q g f S a b c
noncomputable def qN:zV->Bool
 | .Starred _ _=>false
 | _=>true
theorem qv {es:List zV} (h:qN e=true):jK (e::es) env=(false,zr e env)::jK es env:=by
 cases e<;>first | rfl | cases h
theorem Qm:∀ {es:List zV},es.all qN=true->(qX pos (jK es env)).any (·.1)=false
 | [],_=>rfl
 | e::es,h=>by
  rw[JE,j8] at h;rw[qv h.1];show (false || (qX pos (jK es env)).any (·.1))=false;rw[Qm h.2];rfl
theorem bO:∀ {es:List zV},es.all qN=true->(qX pos (jK es env)).all (λx=>!x.1)=true
 | [],_=>rfl
 | e::es,h=>by
  rw[JE,j8] at h;rw[qv h.1];show (true && (qX pos (jK es env)).all (λx=>!x.1))=true;rw[bO h.2];rfl
theorem B2 {es:List zV} (h:es.all qN=true) (c:es.length < 30):((qX pos (jK es env)).all (λx=>!x.1) && (xD pos (xp [] env)).all (λx=>x.1.isSome)
  && decide (es.length+([]:List Jb).length+(if ([]:List Jb).isEmpty then 0 else 1) < 30))=true:=by
 rw[bO h,KJ,j8];exact⟨rfl,decide_eq_true (by simpa using c)⟩
section
variable {X:Cx}{Θ:Tab}{a b c:zV}{pos:Pos}{ma mb mc:M.EM}{ta tb:M.TM}{j7:List zV}
theorem w_me_var (i:Nat) {x:Str} (g:X.N[i]? = some x:=by rfl) (j:Vis X.env.scope x:=by first | exact yJ rfl | exact vg (yJ rfl) | exact vg (vg rfl)) (hd:(x == ("__debug__" : Str))=false:=by decide)
  (f:(x == ("__classdict__" : Str))=false:=by decide):WE X Θ (.Name x pos) (M.zA i):=by
 delta WE at ⊢
 exact (Dv g j hd f).up λσ H Q o l S st m h=>by
  unfold M.zA at h;split at h
  ·rename_i d e;obtain⟨v,n,r⟩:=st.get i d e;exact⟨v,n,h.here m r⟩
  ·exact h.elim
theorem xl {d:M.D} (h:PE X e (tC v)) (r:∀ f H,zO X.K f H d v):ME X Θ e (M.eC d):=h.up λσ H Q f g S st i h=>h.here i (r f H)
theorem w_me_int {i:Int}{j:Nat}:WE X Θ (.Constant (.int i) j pos) (M.eC (.int i)):=by
 delta WE at ⊢
 exact xl wN λ_ _=>rfl
theorem w_me_bl {k:Bool}{j:Nat}:WE X Θ (.Constant (.bool k) j pos) (M.eC (.bl k)):=by
 delta WE at ⊢
 exact xl MQ λ_ _=>rfl
theorem w_me_non {j:Nat}:WE X Θ (.Constant .none j pos) (M.eC .non):=by
 delta WE at ⊢
 exact xl lO λ_ _=>rfl
theorem w_me_str {y:M.T}{x:Str}{j:Nat} (h:x=ofT y) (ok:okT y):WE X Θ (.Constant (.str x) j pos) (M.eC (.str y)):=by
 delta WE at ⊢
 exact xl cG λ_ _=>by rw[h];exact⟨rfl,ok⟩
theorem w_me_globS {d:M.D} (h:Zv X.mg x v) (e:Gl X x) (r:∀ f H,zO X.K f H d v) (hd:(x == ("__debug__" : Str))=false:=by decide):WE X Θ (.Name x pos) (M.eC d):=by
 delta WE at ⊢
 exact xl (dR h e hd) r
theorem w_me_ty (n:M.Kd) (e:Gl X x) (hm:X.mg x=none) (f:qk x=some (.type (yh n))) (g:x ≠ "__name__" := by decide) (hd:(x == ("__debug__" : Str))=false:=by decide):WE X Θ (.Name x pos) (M.eC (.ty n)):=by
 delta WE at ⊢
 exact xl (gZ (v:=.ty (yh n)) e hm f rfl g hd) λ_ _=>rfl
def Ad2 (K:PySem.W.Frag) (Θ:Tab) (f:M.D->M.D->M.S->M.R M.D) (r:R2):Prop:=∀ e H S x y X Y Q,zY K Θ e S H->zO K e H x X->zO K e H y Y->zG K Θ (zO K) e H (f x y S) Q->r X Y H Q
def AdC (K:PySem.W.Frag) (Θ:Tab) (f:M.CM) (r:R2):Prop:=∀ e H S x y X Y (Q:VK),zY K Θ e S H->zO K e H x X->zO K e H y Y->zG K Θ rB e H (f x y S) (λb g=>Q (.bl b) g)->r X Y H Q
def AdN (K:PySem.W.Frag) (Θ:Tab) (f:M.F) (r:List V->Hp->VK->Prop):Prop:=∀ e H S xs g Q,zY K Θ e S H->zU K e H xs g->zG K Θ (zO K) e H (f xs S) Q->r g H Q
def AdM (K:PySem.W.Frag) (Θ:Tab) (f:M.D->M.F) (r:V->List V->Hp->VK->Prop):Prop :=
 ∀ e H S x xs X g Q,zY K Θ e S H->zO K e H x X->zU K e H xs g->zG K Θ (zO K) e H (f x xs S) Q->r X g H Q
theorem w_me_op (n:OpR X (qy o) r) (ad:Ad2 X.K Θ f r) (ha:WE X Θ a ma) (m:WE X Θ b mb):WE X Θ (.BinOp a o b pos) (M.eOp f ma mb):=by
 delta WE at ha m ⊢
 exact (IZ n ha m).up λσ H Q p e S st q h=>⟨p,e,S,st,q,zG.bind h λg G x s t u v i rx w=>⟨g,e,t,st.mono u v,i,
   zG.bind w λj z y Y A B C l ry E=>ad j z A x y s Y Q l (rx.mono B C) ry E⟩⟩
noncomputable def B5:zV->Bool
 | .Slice _ _ _ _=>false
 | .Tuple _ _ _=>false
 | _=>true
theorem fO {b:zV} (h:B5 b=true):Az b:=λo i=>by
 cases b<;>first | rfl | cases h
theorem w_me_ix (n:IxR X r) (ad:Ad2 X.K Θ f r) (ha:WE X Θ a ma) (m:WE X Θ b mb) (hs:B5 b=true:=by rfl):WE X Θ (.Subscript a b pos) (M.eOp f ma mb):=by
 delta WE at ha m ⊢
 exact (Gj n ha m (fO hs)).up λσ H Q o e S st p h=>⟨o,e,S,st,p,zG.bind h λg E x q s t u i rx v=>⟨g,e,s,st.mono t u,i,
   zG.bind v λj w y Y z A B l ry C=>ad j w z x y q Y Q l (rx.mono A B) ry C⟩⟩
theorem w_me_cmp (q:OpR X (jY o) r) (ad:AdC X.K Θ f r) (ha:WE X Θ a ma) (p:WE X Θ b mb) (hm:Jp o b=false):WE X Θ (.Compare a [o] [b] pos) (M.yt f ma mb):=by
 delta WE at ha p ⊢
 exact (fB q ha p hm).up λσ H Q s g S st t h=>⟨s,g,S,st,t,zG.bind h λi N x u v w z j rx A=>⟨i,g,v,st.mono w z,j,
   zG.bind A λl B y Y C E G m ry I=>ad l B C x y u Y Q m (rx.mono E G) ry (zG.bind I λJ U k k' S3 p3 l3 n e L=>by cases e;exact L.here n rfl)⟩⟩
theorem w_mt_cmp (w:OpR X (jY q) r) (ad:AdC X.K Θ f r) (ha:WE X Θ a ma) (t:WE X Θ b mb) (hm:Jp q b=false):WT X Θ (.Compare a [q] [b] pos) (M.zN f ma mb):=by
 delta WE WT at ha t ⊢
 exact (Gi w ha t hm).up λσ H Q z i S st A h=>⟨z,i,S,st,A,zG.bind h λj H1 x B C E G l rx I=>⟨j,i,C,st.mono E G,l,
   zG.bind I λm J y Y u L N n ry g=>ad m J u x y B Y _ n (rx.mono L N) ry (by
    revert g;cases f x y u with
    | ok k s=>exact λg o U v p3 l3 p e=>⟨v,rfl,g o U v p3 l3 p e⟩
    | exc e s=>exact λg=>g
    | no=>exact λg=>g)⟩⟩
theorem eF {K:PySem.W.Frag} (r:zO K e H x v):decide (v=.non)=M.aN x:=by
 cases x with
 | non=>cases r;rfl
 | bl b=>cases r;rfl
 | int b=>cases r;rfl
 | str b=>obtain⟨rfl,_⟩:=r;rfl
 | ty b=>cases r;rfl
 | ref i=>obtain⟨_,rfl,_⟩:=r;rfl
 | tup i=>obtain⟨_,_,rfl,_⟩:=r;rfl
 | ro i=>obtain⟨_,_,rfl,_⟩:=r;rfl
theorem w_mt_isN {j pos'} (ha:WE X Θ a ma):WT X Θ (.Compare a [.Is] [.Constant .none j pos'] pos) (M.Jl ma):=by
 delta WE WT at ha ⊢
 exact (nt (EZ ha)).up λσ H Q g e S st i h=>⟨g,e,S,st,i,zG.bind h λl n x o p q r f rx m=>⟨_,rfl,by
  rw[eF rx];exact m.here f rfl⟩⟩
theorem AdC.to {K:PySem.W.Frag} (ad:AdC K Θ f r) {S:M.S}{y:M.D}{Q:VK}{m:Bool->Hp->Prop} (p:zY K Θ i S H) (rx:zO K i H x n) (ry:zO K i H y Y) (h:zG K Θ rB i H (f x y S) m) (e:∀ k o,m k o->Q (.bl k) o):r n Y H Q :=
 ad i H S x y n Y Q p rx ry (by
  revert h;cases f x y S with
  | ok k s=>exact λg j t u v w l q=>e _ _ (g j t u v w l q)
  | exc e s=>exact λg=>g
  | no=>exact λg=>g)
theorem w_me_chain (ho:OpR X (jY J) r) (v:OpR X (jY n) r') (ad:AdC X.K Θ f r) (w:AdC X.K Θ g r') (ha:WE X Θ a ma) (L:WE X Θ b mb) (N:WE X Θ c mc)
  (hm:wC [J,n] [b,c]=false:=by with_unfolding_all rfl):WE X Θ (.Compare a [J,n] [b,c] pos) (M.uq f g ma mb mc):=by
 delta WE at ha L N ⊢
 exact (Dw ho v ha L N hm).up λσ H Q ρ j S st rp h=>⟨ρ,j,S,st,rp,zG.bind h λA H1 x X1 S1 U l1 B rx h1=>⟨A,j,S1,st.mono U l1,B,
   zG.bind h1 λC H2 y Y S2 p2 l2 E ry h2=>ad.to E (rx.mono p2 l2) ry (zG.bind (Rl:=rB) (Q:=λk o=>∃ i m,C <+: i/\Le H2 o/\zY X.K Θ i m o/\zG X.K Θ (zO X.K) i o (if k=true then (mc j m).bind λz s=>(g y z s).bind λk s=>.ok (.bl k) s else .ok (.bl false) m) Q) h2
    λi H3 k k' m p t l e u=>by cases e;exact⟨i,m,p,t,l,u⟩) λk H3 ⟨i,m,p,t,l,u⟩=>⟨k,rfl,by
     cases k with
     | false=>exact Qp (zG.here (b:=V.bl false) u l rfl)
     | true =>
      refine Qk ⟨i,j,m,st.mono (U.trans (p2.trans p)) (l1.trans (l2.trans t)),l,zG.bind u λρ4 H4 z Z S4 p4 l4 G rz h4=>w.to G (ry.mono (p.trans p4) (t.trans l4)) rz (zG.bind (Rl:=rB) (Q:=λk o=>Q (.bl k) o) h4 λρ5 H5 k k' S5 p5 l5 I e h5=>by cases e;exact h5.here I rfl) λ_ _ q=>q⟩⟩⟩⟩
theorem w_mt_chain (ho:OpR X (jY I) r) (v:OpR X (jY n) r') (ad:AdC X.K Θ f r) (w:AdC X.K Θ g r') (ha:WE X Θ a ma) (J:WE X Θ b mb) (L:WE X Θ c mc)
  (hm:wC [I,n] [b,c]=false:=by with_unfolding_all rfl):WT X Θ (.Compare a [I,n] [b,c] pos) (M.JR f g ma mb mc):=by
 delta WE WT at ha J L ⊢
 exact (HX ho v ha J L hm).up λσ H Q ρ j S st rp h=>⟨ρ,j,S,st,rp,zG.bind h λA H1 x X1 S1 N U B rx h1=>⟨A,j,S1,st.mono N U,B,
   zG.bind h1 λC H2 y Y S2 p2 l2 E ry h2=>ad.to E (rx.mono p2 l2) ry (zG.bind (Rl:=rB) (Q:=λk o=>∃ i m,C <+: i/\Le H2 o/\zY X.K Θ i m o/\zG X.K Θ rB i o (if k=true then (mc j m).bind λz s=>g y z s else .ok false m) Q) h2
    λi H3 k k' m p t l e u=>by cases e;exact⟨i,m,p,t,l,u⟩) λk H3 ⟨i,m,p,t,l,u⟩=>⟨k,rfl,by
     cases k with
     | false=>exact Qp ⟨false,rfl,zG.here (b:=false) u l rfl⟩
     | true =>
      refine Qk ⟨i,j,m,st.mono (N.trans (p2.trans p)) (U.trans (l2.trans t)),l,zG.bind u λρ4 H4 z Z S4 p4 l4 G rz h4=>w.to G (ry.mono (p.trans p4) (t.trans l4)) rz h4 λk o q=>⟨k,rfl,q⟩⟩⟩⟩⟩
theorem w_mw_one_and (ha:WT X Θ a ta):WW X Θ (.BoolOp .And [a] pos) ta:=by
 delta WT WW at ha ⊢
 exact ft ha
theorem w_mw_one_or (ha:WT X Θ a ta):WW X Θ (.BoolOp .Or [a] pos) ta:=by
 delta WT WW at ha ⊢
 exact IC ha
theorem w_mw_and (ha:WT X Θ a ta) (j:WW X Θ (.BoolOp .And (b::j7) pos) tb):WW X Θ (.BoolOp .And (a::b::j7) pos) (M.qr ta tb):=by
 delta WT WW at ha j ⊢
 exact (nu ha j).up λσ H Q m f S st n h=>⟨m,f,S,st,n,zG.bind h λi r k s o p q g e l=>by
   cases e;cases k with
   | true=>exact Qk ⟨i,f,o,st.mono p q,g,l⟩
   | false=>exact Qp (zG.here (b:=false) l g rfl)⟩
theorem w_mw_or (ha:WT X Θ a ta) (j:WW X Θ (.BoolOp .Or (b::j7) pos) tb):WW X Θ (.BoolOp .Or (a::b::j7) pos) (M.tOr ta tb):=by
 delta WT WW at ha j ⊢
 exact (IB ha j).up λσ H Q m f S st n h=>⟨m,f,S,st,n,zG.bind h λi r k s o p q g e l=>by
   cases e;cases k with
   | true=>exact Qk (zG.here (b:=true) l g rfl)
   | false=>exact Qp ⟨i,f,o,st.mono p q,g,l⟩⟩
theorem w_mt_not (ha:WT X Θ a ta):WT X Θ (.UnaryOp .Not a pos) (M.QL ta):=by
 delta WT at ha ⊢
 exact (LN ha).up λσ H Q i f S st j h=>⟨i,f,S,st,j,zG.bind h λl n k o p q r g e m=>by
  cases e;exact zG.here (b:=!k) m g rfl⟩
theorem w_me_one {e} (ha:WE X Θ a ma):WE X Θ (.BoolOp e [a] pos) ma:=by
 delta WE at ha ⊢
 exact nO ha
theorem iL {K:PySem.W.Frag}{g i:Type}{j:List zE->Hp->g->i->Prop}{e:List zE}{H:Hp}{x:M.D}{v:V}{S:M.S}{f:Bool->M.S->M.R g}{Q:i->Hp->Prop} (r:zO K e H x v) (h:zG K Θ j e H ((M.asB x S).bind f) Q):∃ k,v=.bl k/\zG K Θ j e H (f k S) Q:=by
 cases x with
 | bl b=>cases r;exact⟨b,rfl,h⟩
 | _=>exact h.elim
theorem w_me_and (ha:WE X Θ a ma) (j:WE X Θ (.BoolOp .And (b::j7) pos) mb):WE X Θ (.BoolOp .And (a::b::j7) pos) (M.JQ ma mb):=by
 delta WE at ha j ⊢
 exact (l8 ha j).up λσ H Q m f S st n h=>⟨m,f,S,st,n,zG.bind h λi s x t o p q g rx r=>by
   obtain⟨k,e,l⟩:=iL rx r;refine⟨k,e,?_⟩;cases k with
   | true=>exact Qk ⟨i,f,o,st.mono p q,g,l⟩
   | false=>exact Qp (zG.here (b:=V.bl false) l g rfl)⟩
theorem w_me_ifExp (j:WT X Θ c ta) (ha:WE X Θ a ma) (l:WE X Θ b mb):WE X Θ (.IfExp c a b pos) (M.eIf ta ma mb):=by
 delta WE WT at j ha l ⊢
 exact (iM j ha l).up λσ H Q q f S st r h=>⟨q,f,S,st,r,zG.bind h λg s k t m n o i e p=>by
  cases e;cases k with
  | true=>exact Qk ⟨g,f,m,st.mono n o,i,p⟩
  | false=>exact Qp ⟨g,f,m,st.mono n o,i,p⟩⟩
theorem VZ:MA X Θ [] M.zC:=uM.up λσ H Q g e S st f h=>zG.here (b:=[]) h f rfl
theorem w_ma_nil:WA X Θ [] M.zC:=by with_unfolding_all exact VZ
theorem K8 (ha:ME X Θ e ma) (l:MA X Θ es r) (hs:qN e=true:=by rfl):MA X Θ (e::es) (M.zB ma r) :=
 (W6 ha l (qv hs)).up λσ H Q m f S st n h=>⟨m,f,S,st,n,zG.bind h λg A x o p q s i rx t=>⟨g,f,p,st.mono q s,i,
  zG.bind t λu B ys v C w y j ry z=>z.here j ⟨o,v,rfl,rx.mono w y,ry⟩⟩⟩
theorem w_ma_cons (ha:WE X Θ e ma) (f:WA X Θ es r) (hs:qN e=true:=by rfl):WA X Θ (e::es) (M.zB ma r):=by with_unfolding_all exact K8 (e:=e) (es:=es) (r:=r) ha f hs
theorem w_me_tup {n} (m:WA X Θ es r):WE X Θ (.Tuple es n pos) (M.ze r):=by
 delta WA WE at m ⊢
 exact (mR m).up λσ H Q o g S st q h=>⟨o,g,S,st,q,zG.bind h λi t xs s u v w j rx e=>by
  by_cases f:xs.length <= M.SZ
  ·rw[if_pos f] at e;rw[yr,rx.length] at f;exact⟨f,λp l=>e i _ _ (jg _) (Le.new l _) (j.aside l _) ⟨p,s,rfl,SqT.of qp,rx.mono (jg _) (Le.new l _)⟩⟩
  ·rw[if_neg f] at e;exact e.elim⟩
theorem zG.alloc {K:PySem.W.Frag}{e:List zE}{H:Hp}{S:M.S}{ds:List M.D}{Q:VK} (h:zG K Θ (zO K) e H (M.alloc (.lst ds) S) Q) (g:zY K Θ e S H) (r:zU K e H ds xs) {p:zE} (f:H p=none):Q (.ref p) (upd H p (.lst xs)) :=
 h (e++[p]) _ _ (Zo _ _) (Le.new f _) (g.alloc f ⟨xs,qp,r.mono (Zo _ _) (Le.new f _)⟩) ⟨p,rfl,by rw[<- g.len];simp⟩
theorem w_me_lst (j:WA X Θ es r):WE X Θ (.List es pos) (M.jT r):=by
 delta WA WE at j ⊢
 exact (G4 j).up λσ H Q l g S st m h=>⟨l,g,S,st,m,zG.bind h λn q xs s t u v i rx e=>by
  by_cases f:xs.length <= M.SZ
  ·rw[if_pos f] at e;rw[yr,rx.length] at f;exact⟨f,λp o=>e.alloc i rx o⟩
  ·rw[if_neg f] at e;exact e.elim⟩
theorem w_mo_none:WO X Θ none M.qb:=by
 delta WO at ⊢
 exact IR.up λσ H Q g e S st f h=>zG.here (b:=none) h f rfl
theorem w_mo_some (ha:WE X Θ a ma):WO X Θ (some a) (M.jr ma):=by
 delta WE WO at ha ⊢
 exact (Es ha).up λσ H Q j e S st l h=>⟨j,e,S,st,l,zG.bind h λm n x o p q r f rx g=>by
  cases x with
  | int i=>cases rx;exact⟨i,rfl,zG.here (b:=some i) g f rfl⟩
  | _=>exact g.elim⟩
theorem w_me_sl {lo:Option zV}{g:Pos} (z:SlR X r) (ad:∀ f H S x i l u Q,zY X.K Θ f S H->zO X.K f H x i->zG X.K Θ (zO X.K) f H (M.slD x l u S) Q->r i l u H Q) (ha:WE X Θ a ma) (s:WO X Θ lo A) (t:WO X Θ hi B) :
  WE X Θ (.Subscript a (.Slice lo hi none g) pos) (M.eSl ma A B):=by
 delta WE WO at ha s t ⊢
 exact (gu z ha s t).up λσ H Q f e S st C h=>⟨f,e,S,st,C,zG.bind h λj H1 x i E v w m rx G=>⟨j,e,E,st.mono v w,m,
   zG.bind G λn H2 l l' I g y o J L=>by
    cases J;exact⟨n,e,I,st.mono (v.trans g) (w.trans y),o,zG.bind L λp N u u' U Y l3 q e3 h3=>by
     cases e3;exact ad p N U x i l u Q q (rx.mono (g.trans Y) (y.trans l3)) h3⟩⟩⟩
theorem w_me_callB {p:Pos}{id:String}{e:zV}{es:List zV} (o:jq X (.builtin id) r) (ad:AdN X.K Θ f r) (q:Gl X x) (hm:X.mg x=none) (s:qk x=some (.builtin id)) (ha:WA X Θ (e::es) m)
  (t:x ≠ "__name__" := by decide) (g:(x == ("__debug__" : Str))=false:=by decide) (u:qN e=true:=by rfl) (i:es.all qN=true:=by rfl) :
  WE X Θ (.Call (.Name x p) (e::es) [] pos) (M.zK f m):=by
 delta WA WE at ha ⊢
 exact (cN o q hm s ha t g (qv u) (Qm i)).up λσ H Q v j S st w h=>⟨v,j,S,st,w,zG.bind h λl y xs z A C E n rx B=>ad l y A xs z Q n rx B⟩
theorem w_me_callTy {p:Pos}{T:String}{e:zV}{es:List zV} (o:jq X (.type T) r) (ad:AdN X.K Θ f r) (q:Gl X x) (hm:X.mg x=none) (s:qk x=some (.type T)) (ha:WA X Θ (e::es) m)
  (t:x ≠ "__name__" := by decide) (g:(x == ("__debug__" : Str))=false:=by decide) (u:qN e=true:=by rfl) (i:es.all qN=true:=by rfl) :
  WE X Θ (.Call (.Name x p) (e::es) [] pos) (M.zK f m):=by
 delta WA WE at ha ⊢
 exact (MF o q hm s ha t g (qv u) (Qm i)).up λσ H Q v j S st w h=>⟨v,j,S,st,w,zG.bind h λl y xs z A C E n rx B=>ad l y A xs z Q n rx B⟩
theorem Aq {K:PySem.W.Frag}{S:M.S}{k:M.Kd} (l:zY K Θ m S H) (r:zO K m H x v) (h:M.yf k x S=true):tyV K (yh k) v H:=by
 cases x with
 | str z=>obtain⟨rfl,_⟩:=r;cases k<;>first | rfl | cases h
 | ro ds =>
  obtain⟨a,xs,rfl,q,_⟩:=r;cases k<;>first | exact .inl ⟨rfl,xs,q.sq⟩ | cases h
 | ref i =>
  obtain⟨a,rfl,e⟩:=r;cases q:S[i]? with
  | none=>simp[M.yf,q] at h
  | some o =>
   cases o with
   | lst xs =>
    obtain⟨b,f,j,g,_⟩:=l.obj _ _ q;rw[e] at f;cases f;cases k<;>first | exact .inl ⟨rfl,j,SqL.of g⟩ | simp[M.yf,q] at h
   | dct xs =>
    obtain⟨b,f,j,g,_⟩:=l.obj _ _ q;rw[e] at f;cases f;cases k<;>first | exact .inr (.inr (.inl ⟨rfl,.inl ⟨j,g⟩⟩)) | simp[M.yf,q] at h
   | fdc _=>simp[M.yf,q] at h
   | ftt _=>simp[M.yf,q] at h
   | dtt xs =>
    obtain⟨b,f,j,g,_⟩:=l.obj _ _ q;rw[e] at f;cases f;cases k<;>first | exact .inr (.inr (.inl ⟨rfl,.inr (.inr ⟨_,g,λh z=>let ⟨_,_,_,o,_,_,n,p,_⟩:=z;⟨o,n,p⟩⟩)⟩)) | simp[M.yf,q] at h
   | ins c fs=>simp[M.yf,q] at h
 | _=>cases h
theorem w_me_m {k:M.Kd}{T:String}{e:zV}{es:List zV}{i j:Pos}{id:String} (E:UB T) (slot:Slot T name id) (u:typeOf (.builtin id)=pure (.type "method_descriptor")) (hm:MtR X id r) (ad:AdM X.K Θ f r) (G:T=yh k) (B:WE X Θ o mo) (ha:WA X Θ (e::es) m)
  (l:QH o name X.env (zr o X.env)=zr o X.env:=by rfl)
  (p:(e::es).length < 30:=by exact Nat.le_of_ble_eq_true rfl) (n:(i.endLine == j.line)=true:=by rfl) (hs:qN e=true:=by rfl) (g:es.all qN=true:=by rfl) :
  WE X Θ (.Call (.Attribute o name i) (e::es) [] j) (M.eM k f mo m):=by
 delta WA WE at B ha ⊢
 exact (bR E slot u hm B ha l (B2 (by rw[JE,hs,g];rfl) p) n (qv hs) (Qm g)).up λσ H Q I q S st J h=>⟨I,q,S,st,J,zG.bind h λv H1 x L C N U s rx t=>by
  cases w:M.yf k x C with
  | false=>rw[w] at t;exact t.elim
  | true =>
   rw[w] at t;exact⟨G ▸ Aq s rx w,v,q,C,st.mono N U,s,zG.bind t λy Y xs Xs S2 p2 l2 z A h2=>ad y Y S2 x xs L Xs Q z (rx.mono p2 l2) A h2⟩⟩
theorem w_me_m0 {k:M.Kd}{T:String}{e g:Pos}{id:String} (v:UB T) (slot:Slot T name id) (n:typeOf (.builtin id)=pure (.type "method_descriptor")) (hm:MtR X id r) (ad:AdM X.K Θ f r) (w:T=yh k) (t:WE X Θ o mo)
  (i:QH o name X.env (zr o X.env)=zr o X.env:=by rfl) (j:(e.endLine == g.line)=true:=by rfl) :
  WE X Θ (.Call (.Attribute o name e) [] [] g) (M.eM k f mo M.zC):=by
 delta WE at t ⊢
 exact (G9 v slot n hm t i j).up λσ H Q y p S st z h=>⟨y,p,S,st,z,zG.bind h λq A x B u C E l rx m=>by
  cases s:M.yf k x u with
  | false=>rw[s] at m;exact m.elim
  | true =>
   rw[s] at m;exact⟨w ▸ Aq l rx s,ad q A u x [] B [] Q l rx rfl m⟩⟩
end
end L2
namespace L2
open PySem PySem.Spec PyProof.Rows
noncomputable def z8 (K:PySem.W.Frag) (h:Tab) (i:List zE) (H:Hp):M.RS->Qv->Prop
 | .nx f g,D=>∀ c e σ,i <+: c->Le H e->zY K h c g e->jL K c e f σ->D.nx σ e
 | .rt d g,D=>∀ c e v,i <+: c->Le H e->zY K h c g e->zO K c e d v->D.rt v e
 | .bk f g,D=>∀ c e σ,i <+: c->Le H e->zY K h c g e->jL K c e f σ->D.bk σ e
 | .ct f g,D=>∀ c e σ,i <+: c->Le H e->zY K h c g e->jL K c e f σ->D.ct σ e
 | .exc d _ j,_=>yw K h i H d j
 | .no,_=>False
def RdS (K:PySem.W.Frag) (f:Tab) (m:M.SM):TS:=λD σ H=>∃ e c S,jL K e H c σ/\zY K f e S H/\z8 K f e H (m c S) D
abbrev MS (X:Cx) (c:Tab) (st:zf) (m:M.SM):Prop:=PS X st (RdS X.K c m)
@[irreducible] def WS (X:Cx) (c:Tab) (st:zf) (m:M.SM):Prop:=MS X c st m
abbrev MSs (X:Cx) (c:Tab) (st:List zf) (m:M.SM):Prop:=PSs X st (RdS X.K c m)
@[irreducible] def WSs (X:Cx) (c:Tab) (st:List zf) (m:M.SM):Prop:=MSs X c st m
theorem PS.imp {X:Cx}{t':TS} (h:PS X e t) (i:∀ D σ H,t' D σ H->t D σ H):PS X e t':=λc s σ H D I q=>h c s σ H D I (i D σ H q)
theorem PSs.imp {X:Cx}{t':TS} (h:PSs X e t) (i:∀ D σ H,t' D σ H->t D σ H):PSs X e t':=λc s σ H D I q=>h c s σ H D I (i D σ H q)
theorem PS.up {X:Cx}{m:M.SM} (h:PS X e t) (i:∀ D σ H g f S,jL X.K g H f σ->zY X.K j g S H->z8 X.K j g H (m f S) D->t D σ H):PS X e (RdS X.K j m):=h.imp λD σ H ⟨g,f,S,a,b,c⟩=>i D σ H g f S a b c
theorem PSs.up {X:Cx}{m:M.SM} (h:PSs X e t) (i:∀ D σ H g f S,jL X.K g H f σ->zY X.K j g S H->z8 X.K j g H (m f S) D->t D σ H):PSs X e (RdS X.K j m):=h.imp λD σ H ⟨g,f,S,a,b,c⟩=>i D σ H g f S a b c
section
variable {K:PySem.W.Frag}{Θ:Tab}{ρ ρ':List zE}{H H':Hp}{S:M.S}{α β:Type}{Rl:List zE->Hp->α->β->Prop}{Q:β->Hp->Prop}{D D':Qv}
theorem z8.weak (h:z8 K Θ ρ H r D) (f:ρ <+: ρ') (le:Le H H'):z8 K Θ ρ' H' r D:=by
 cases r with
 | nx a s=>exact λc g b p l=>h c g b (f.trans p) (le.trans l)
 | rt a s=>exact λc g b p l=>h c g b (f.trans p) (le.trans l)
 | bk a s=>exact λc g b p l=>h c g b (f.trans p) (le.trans l)
 | ct a s=>exact λc g b p l=>h c g b (f.trans p) (le.trans l)
 | exc e a s=>exact yw.weak h f le
 | no=>exact h
theorem z8.stm {r:M.R α}{σ:M.St}{f:α->M.S->M.RS} (h:z8 K Θ ρ H (r.stm σ f) D)
  (k:∀ ρ' H' a b g,ρ <+: ρ'->Le H H'->zY K Θ ρ' g H'->Rl ρ' H' a b->z8 K Θ ρ' H' (f a g) D->Q b H'):zG K Θ Rl ρ H r Q:=by
 cases r with
 | ok a s=>exact λc i b p l j m=>k c i a b s p l j m (z8.weak h p l)
 | exc e s=>exact h
 | no=>exact h
theorem z8.nx {c:M.St} (h:z8 K Θ ρ H (.nx c S) D) (e:zY K Θ ρ S H) (st:jL K ρ H c σ):D.nx σ H:=h ρ H σ (jg _) (Le.refl _) e st
theorem z8.rt {d:M.D} (h:z8 K Θ ρ H (.rt d S) D) (c:zY K Θ ρ S H) (r:zO K ρ H d v):D.rt v H:=h ρ H v (jg _) (Le.refl _) c r
end
section
variable {X:Cx}{Θ:Tab}{e:zV}{pos:Pos}{m:M.EM}{st:zf}{j7:List zf}{ms mr:M.SM}
theorem w_mss_nil:WSs X Θ [] M.zq:=by
 delta WSs at ⊢
 exact eX.up λD σ H g c S st f h=>h.nx f st
theorem w_mss_one (h:WS X Θ st ms):WSs X Θ [st] ms:=by
 delta WS WSs at h ⊢
 exact lT h
theorem w_mss_cons (i:WS X Θ st ms) (j:WSs X Θ j7 mr):WSs X Θ (st::j7) (M.zH ms mr):=by
 delta WS WSs at i j ⊢
 exact (E1 i j).up λD σ H n c S st o h=>⟨n,c,S,st,o,by
  have h':z8 X.K Θ n H ((ms c S).then mr) D:=h;revert h';cases ms c S with
  | nx a s=>exact λh' f r q p l g st2=>⟨f,a,s,st2,g,z8.weak h' p l⟩
  | rt a s=>exact λh'=>h'
  | bk a s=>exact λh'=>h'
  | ct a s=>exact λh'=>h'
  | exc e a s=>exact λh'=>h'
  | no=>exact λh'=>h'⟩
theorem w_ms_expr (g:WE X Θ e m) (hs:Qc e none pos.line X.env=pure false:=by rfl):WS X Θ (.Expr e pos) (M.z6 m):=by
 delta WE WS at g ⊢
 exact (fE g hs).up λD σ H i c S st j h=>⟨i,c,S,st,j,z8.stm h λl q x r s n o f rx p=>p.nx f (st.mono n o)⟩
theorem w_ms_ret (g:WE X Θ e m):WS X Θ (.Return (some e) pos) (M.zX m):=by
 delta WE WS at g ⊢
 exact (il g).up λD σ H i c S st j h=>⟨i,c,S,st,j,z8.stm h λl o x p q r s f rx n=>n.rt f rx⟩
theorem w_ms_set {i:Nat}{x:Str}{pos':Pos} (j:X.N.Nodup) (hi:X.N[i]? = some x) (l:Loc X.env.scope x) (g:WE X Θ e m) (hs:Qc e (some (.Name x pos')) pos.line X.env=pure false:=by kernel_rfl) (n:X.fn x=true\/X.env.scope.names.lookup x=some .local:=by first | exact .inl rfl | exact .inr rfl | assumption) :
  WS X Θ (.Assign [.Name x pos'] e pos) (M.zQ i m):=by
 delta WE WS at g ⊢
 exact (lH j hi l g hs n).up λD σ H o c S st p h=>⟨o,c,S,st,p,z8.stm h λq u x v w r s f rx t=>t.nx f ((st.mono r s).set rx i)⟩
theorem w_ms_if {a b:List zf} (j:WT X Θ c r) (ha:WSs X Θ a s) (l:WSs X Θ b t):WS X Θ (.If c a b pos) (M.sIf r s t):=by
 delta WS WSs WT at j ha l ⊢
 exact (l9 j ha l).up λD σ H u f S st v h=>⟨u,f,S,st,v,z8.stm h λg x k y n o p i w q=>by
  cases w;cases k with
  | true=>exact Qk ⟨g,f,n,st.mono o p,i,q⟩
  | false=>exact Qp ⟨g,f,n,st.mono o p,i,q⟩⟩
end
def RdG (K:PySem.W.Frag) (l:Tab) (m:List Nat) (g:M.GM):TG:=λv σ H Q=>∃ e f S d,jL K e H f σ/\zY K l e S H/\zO K e H d v/\∃ h,g d f=some h /\
 ∀ i c,Le H i->zY K l e S i->jL K e i h c->c.length=σ.length->(∀ j,j∉m->c[j]? = σ[j]?)->Q c i
abbrev MG (X:Cx) (c:Tab) (e:List Nat) (tg:zV) (g:M.GM):Prop:=PG X tg (RdG X.K c e g)
@[irreducible] def WG (X:Cx) (c:Tab) (e:List Nat) (tg:zV) (g:M.GM):Prop:=MG X c e tg g
theorem PG.imp {X:Cx}{t':TG} (h:PG X e t) (i:∀ v σ H Q,t' v σ H Q->t v σ H Q):PG X e t':=λc s σ H v u Q I r q=>h c s σ H v u Q I r (i v σ H Q q)
theorem w_mg_name {X:Cx}{pos:Pos}{i:Nat}{x:Str} (c:X.N.Nodup) (hi:X.N[i]? = some x) (f:Loc X.env.scope x) (g:X.fn x=true\/X.env.scope.names.lookup x=some .local:=by first | exact .inl rfl | exact .inr rfl | assumption) :
  WG X r [i] (.Name x pos) (M.zw i):=by
 delta WG at ⊢
 exact (fA c hi f g).imp λv σ H Q l=>by
  obtain⟨s,m,S,d,st,n,o,p,e,h⟩:=l;cases e;exact h H _ (Le.refl _) n (st.set o i) (by rw[xw]) λj q=>Zk (λz=>q (by rw[z];simp))
structure ItR (K:PySem.W.Frag) (Θ:Tab) (ρ:List zE) (H:Hp) (J:It) (xs:List M.D) (g:M.Gd):Prop where
 go:∀ (i:Nat) ρ' S' H',ρ <+: ρ'->Le H H'->zY K Θ ρ' S' H'->M.zh g S'=true->i < xs.length->J.go i H'
 yld:∀ (i:Nat) ρ' S' H' v H2,ρ <+: ρ'->Le H H'->zY K Θ ρ' S' H'->M.zh g S'=true->i < xs.length->J.yld i H' v H2->∃ d,xs[i]? = some d/\zO K ρ' H2 d v/\Le H' H2/\zY K Θ ρ' S' H2
 stop:∀ ρ' S' H',ρ <+: ρ'->Le H H'->zY K Θ ρ' S' H'->M.zh g S'=true->J.stop xs.length H'
def RdI (K:PySem.W.Frag) (e:Tab) (m:M.IM):TI:=λσ H R=>∃ f c S,jL K f H c σ/\zY K e f S H /\
 zG K e (λg h (p:List M.D×M.Gd) (J:It)=>ItR K e g h J p.1 p.2) f H ((m c S).bind λp s=>if M.zh p.2 s then .ok p s else .no) R
abbrev MI (X:Cx) (e:Tab) (tg c:zV) (m:M.IM):Prop:=PI X tg c (RdI X.K e m)
@[irreducible] def WI (X:Cx) (e:Tab) (tg c:zV) (m:M.IM):Prop:=MI X e tg c m
theorem PI.imp {X:Cx}{t':TI} (h:PI X tg e t) (i:∀ σ H R,t' σ H R->t σ H R):PI X tg e t':=λc s σ H R I q=>h c s σ H R I (i σ H R q)
theorem PI.or {X:Cx} (h:PI X tg e t) (h':PI X tg e t'):PI X tg e (λσ H R=>t σ H R\/t' σ H R):=λc s σ H R I q=>by
 rcases q with q | q
 ·exact h c s σ H R I q
 ·exact h' c s σ H R I q
section
variable {X:Cx}{Θ:Tab}{tg e:zV}{m:M.EM}
theorem Ga {K:PySem.W.Frag}{u:List zE}{i:Nat}{a:zE}{ds:List M.D} (ha:u[i]? = some a):ItR K Θ u H (Itl K a) ds [(i,.lst ds)]:=by
 have n:∀ {c:List zE}{o:M.S}{q:Hp},u <+: c->zY K Θ c o q->M.zh [(i,.lst ds)] o=true->∃ f,q a=some (.lst f)/\zU K c q ds f:=λ{c o q} p h g=>by
  have g':o[i]? = some (M.O.lst ds):=by simpa [M.zh] using g
  obtain⟨b,s,f,x,r⟩:=h.obj i _ g';rw[kh p ha] at s;cases s;exact⟨f,x,r⟩
 refine⟨λj c o q p l h g t=>?_,λj c o q v B p l h g t y=>?_,λc o q p l h g=>?_⟩
 ·obtain⟨f,e,r⟩:=n p h g;obtain⟨v,s,_⟩:=r.get (i:=j) (d:=ds[j]) (by simp[t]);exact⟨f,v,SqL.of e,s⟩
 ·obtain⟨f,e,r⟩:=n p h g;obtain⟨C,s,z⟩:=r.get (i:=j) (d:=ds[j]) (by simp[t]);obtain⟨rfl,A⟩:=y;have w:=A f (SqL.of e);rw[s] at w;cases w;exact⟨ds[j],by simp[t],z,Le.refl _,h⟩
 ·obtain⟨f,e,r⟩:=n p h g;exact⟨f,SqL.of e,vX r.length.symm⟩
theorem nk {K:PySem.W.Frag}{a:zE}{ds:List M.D} (h:kf K H a xs) (r:zU K u H ds xs):ItR K Θ u H (Itl K a) ds []:=by
 refine⟨λj c q s p l n g f=>?_,λj c q s v z p l n g f y=>?_,λc q s p l n g=>?_⟩
 ·obtain⟨v,o,_⟩:=r.get (i:=j) (d:=ds[j]) (by simp[f]);exact⟨xs,v,(l.rol h).sq,o⟩
 ·obtain⟨A,o,w⟩:=(r.mono p l).get (i:=j) (d:=ds[j]) (by simp[f]);obtain⟨rfl,x⟩:=y;have t:=x xs (l.rol h).sq;rw[o] at t;cases t;exact⟨ds[j],by simp[f],w,Le.refl _,n⟩
 ·exact⟨xs,(l.rol h).sq,vX r.length.symm⟩
theorem Fj {K:PySem.W.Frag}{a:zE}{ds:List M.D} (h:SqT K H a xs) (r:zU K u H ds xs):ItR K Θ u H (Itt K a) ds []:=by
 refine⟨λj c q s p l n g f=>?_,λj c q s v z p l n g f y=>?_,λc q s p l n g=>?_⟩
 ·obtain⟨v,o,_⟩:=r.get (i:=j) (d:=ds[j]) (by simp[f]);exact⟨xs,v,l.sqT h,o⟩
 ·obtain⟨A,o,w⟩:=(r.mono p l).get (i:=j) (d:=ds[j]) (by simp[f]);obtain⟨rfl,x⟩:=y;have t:=x xs (l.sqT h);rw[o] at t;cases t;exact⟨ds[j],by simp[f],w,Le.refl _,n⟩
 ·exact⟨xs,l.sqT h,vX r.length.symm⟩
theorem mh {K:PySem.W.Frag} (ok:okT x):ItR K Θ s H (Its (ofT x)) (x.map λc=>.str [c]) []:=by
 refine⟨λj f o q p l i g n=>?_,λj f o q v t p l i g n y=>?_,λf o q p l i g=>?_⟩
 ·rw[jS] at n;show j < (ofT x).length;rw[qL];exact n
 ·obtain⟨rfl,c,r,rfl⟩:=y;have h:x[j]? = some c:=by simpa [ofT] using r
  exact⟨.str [c],by rw[yB,h];rfl,⟨rfl,kW ok λd hd=>by rw[List.mem_singleton.mp hd];exact y9 h⟩,Le.refl _,i⟩
 ·show (ofT x).length <= _;rw[qL,jS];exact zo _
theorem Cp {K:PySem.W.Frag}{lo hi:Int}:ItR K Θ q H (Itr lo (hi - lo).toNat) (M.qI lo hi) []:=by
 refine⟨λj c n o p l f g h=>?_,λj c n o v r p l f g h y=>?_,λc n o p l f g=>?_⟩
 ·show j < _;simpa [M.qI] using h
 ·obtain⟨rfl,rfl⟩:=y;have i:j < (hi - lo).toNat:=by simpa [M.qI] using h
  exact⟨.int (lo+j),by unfold M.qI;rw[yB,Yv i];rfl,rfl,Le.refl _,f⟩
 ·show _ <= _;simp[M.qI]
theorem w_mi_e (A:WE X Θ e m):WI X Θ tg e (M.iE m):=by
 delta WE WI at A ⊢
 exact (PI.or (Hi A) (PI.or (ia A) (Iw A))).imp λσ H R J=>by
  obtain⟨y,t,S,st,B,h⟩:=J;have h':zG X.K Θ _ y H (((m t S).bind M.itD).bind λp s=>if M.zh p.2 s then .ok p s else .no) R:=h;clear h;cases hm:m t S with
  | no=>rw[hm] at h';exact h'.elim
  | exc a s=>rw[hm] at h';exact .inl ⟨y,t,S,st,B,by rw[hm];exact h'⟩
  | ok d u =>
   rw[hm] at h';have go:∀ {Q:VK},(∀ f n v,y <+: f->Le H n->zY X.K Θ f u n->zO X.K f n d v->Q v n)->RdE X.K Θ m σ H Q:=λq=>⟨y,t,S,st,B,by rw[hm];exact q⟩
   cases d with
   | str x =>
    refine .inr (.inr (go λf n v p l g w=>?_));have j:zG X.K Θ _ y H ((if x.length <= M.SZ then .ok (x.map λc=>M.D.str [c],[]) u else M.R.no).bind λp s=>if M.zh p.2 s then .ok p s else .no) R:=h';by_cases C:x.length <= M.SZ
    ·rw[if_pos C] at j;exact⟨ofT x,w.1,j f n _ p l g (mh w.2)⟩
    ·rw[if_neg C] at j;exact j.elim
   | tup ds =>
    refine .inr (.inl (go λf n v p l g w=>?_));obtain⟨a,xs,rfl,z,r⟩:=w;exact⟨a,rfl,⟨xs,z⟩,h' f n _ p l g (Fj z r)⟩
   | ro ds =>
    refine .inl (go λf n v p l g w=>?_);obtain⟨a,xs,rfl,z,r⟩:=w;exact⟨a,rfl,⟨xs,z.sq⟩,h' f n _ p l g (nk z r)⟩
   | ref i =>
    have j:zG X.K Θ _ y H ((match u[i]? with
     | some (.lst xs)=>M.R.ok (xs,[(i,M.O.lst xs)]) u
     | _=>.no).bind λp s=>if M.zh p.2 s then .ok p s else .no) R:=h'
    cases q:u[i]? with
    | none=>rw[q] at j;exact j.elim
    | some o =>
     rw[q] at j;cases o with
     | lst xs =>
      refine .inl (go λf n v p l g w=>?_);obtain⟨a,rfl,E⟩:=w;obtain⟨b,G,L,N,r⟩:=g.obj i _ q;rw[E] at G;cases G;have U:M.zh [(i,M.O.lst xs)] u=true:=by simp[M.zh,q]
      have I:zG X.K Θ _ y H (if M.zh [(i,M.O.lst xs)] u then M.R.ok (xs,[(i,M.O.lst xs)]) u else .no) R:=j;rw[if_pos U] at I;exact⟨a,rfl,⟨L,SqL.of N⟩,I f n _ p l g (Ga E)⟩
     | dct kvs=>exact j.elim
     | fdc _=>exact j.elim
     | dtt _=>exact j.elim
     | ftt _=>exact j.elim
     | ins c fs=>exact j.elim
   | non=>exact h'.elim
   | bl b=>exact h'.elim
   | int b=>exact h'.elim
   | ty b=>exact h'.elim
theorem w_mi_range1 {p pos:Pos} (t:Gl X "range") (hm:X.mg "range" = none) (q:WE X Θ e m) (hs:qN e=true:=by rfl):WI X Θ tg (.Call (.Name "range" p) [e] [] pos) (M.qt m):=by
 delta WE WI at q ⊢
 exact (Gm t hm (K8 q VZ hs) (qv hs)).imp λσ H R ⟨f,c,S,st,u,h⟩=>⟨f,c,S,st,u,by
   have h':zG X.K Θ _ f H (((m c S).bind λx s=>match x with
    | .int j=>if j.natAbs < 4611686018427387904 then M.R.ok (M.qI 0 j,([]:M.Gd)) s else .no
    | _=>.no).bind λp s=>if M.zh p.2 s then .ok p s else .no) R:=h
   show zG X.K Θ _ f H ((m c S).bind λx s=>(M.R.ok [] s).bind λxs s=>.ok (x::xs) s) _;cases hm:m c S with
   | no=>rw[hm] at h';exact h'.elim
   | exc a s=>rw[hm] at h';exact h'
   | ok d w =>
    rw[hm] at h';intro i y vs p l n o;obtain⟨v,ys,rfl,o,z⟩:=o;cases z;cases d with
    | int j =>
     cases o;have g:zG X.K Θ _ f H ((if j.natAbs < 4611686018427387904 then M.R.ok (M.qI 0 j,([]:M.Gd)) w else .no).bind λp s=>if M.zh p.2 s then .ok p s else .no) R:=h';by_cases r:j.natAbs < 4611686018427387904
     ·rw[if_pos r] at g;refine⟨j,rfl,by lia,by lia,?_⟩;have:=g i y _ p l n (Cp (lo:=0) (hi:=j));rw[Int.sub_zero] at this;exact this
     ·rw[if_neg r] at g;exact g.elim
    | _=>exact h'.elim⟩
theorem w_mi_range2 {p pos:Pos} (E:Gl X "range") (hm:X.mg "range" = none) (A:WE X Θ e m) (n:WE X Θ B o)
  (hs:qN e=true:=by rfl) (f:qN B=true:=by rfl):WI X Θ tg (.Call (.Name "range" p) [e,B] [] pos) (M.KN m o):=by
 delta WE WI at A n ⊢
 exact (Dy E hm (K8 A (K8 n VZ f) hs) (by rw[qv hs,qv f];rfl) (qv f)).imp λσ H R ⟨q,c,S,st,G,h⟩=>⟨q,c,S,st,G,by
   have h':zG X.K Θ _ q H (((m c S).bind λx s=>(o c s).bind λy s=>match x,y with
    | .int i,.int j=>if i.natAbs < 4611686018427387904/\j.natAbs < 4611686018427387904 then M.R.ok (M.qI i j,([]:M.Gd)) s else .no
    | _,_=>.no).bind λp s=>if M.zh p.2 s then .ok p s else .no) R:=h
   show zG X.K Θ _ q H ((m c S).bind λx s=>((o c s).bind λy s=>(M.R.ok [] s).bind λxs s=>.ok (y::xs) s).bind λxs s=>.ok (x::xs) s) _;cases hm:m c S with
   | no=>rw[hm] at h';exact h'.elim
   | exc a s=>rw[hm] at h';exact h'
   | ok d I =>
    rw[hm] at h';rw[M.R.bind_ok];rw[M.R.bind_ok] at h';cases g:o c I with
    | no=>rw[g] at h';exact h'.elim
    | exc a s=>rw[g] at h';exact h'
    | ok J L =>
     rw[g] at h';intro t N vs p l u w;obtain⟨v,ys,rfl,w,v2,U,rfl,z,Q⟩:=w;cases Q;cases d with
     | int i =>
      cases J with
      | int j =>
       cases w;cases z;have r:zG X.K Θ _ q H ((if i.natAbs < 4611686018427387904/\j.natAbs < 4611686018427387904 then M.R.ok (M.qI i j,([]:M.Gd)) L else .no).bind λp s=>if M.zh p.2 s then .ok p s else .no) R:=h';by_cases C:i.natAbs < 4611686018427387904/\j.natAbs < 4611686018427387904
       ·rw[if_pos C] at r;exact⟨i,j,rfl,⟨by lia,by lia,by lia,by lia⟩,r t N _ p l u Cp⟩
       ·rw[if_neg C] at r;exact r.elim
      | _=>exact h'.elim
     | _=>exact h'.elim⟩
end
section
variable {X:Cx}{Θ:Tab}{pos:Pos}
theorem w_ms_while (hp:ub (zP X.prog X.w) X.A X.env X.xe) (N:WT X Θ c v) (Q:WSs X Θ x n):WS X Θ (.While c x [] pos) (M.VP v n):=by
 delta WS WSs WT at N Q ⊢
 exact (mB hp N Q).up λD σ H ρ E S st rp h=>by
   refine⟨λk o B=>∃ j f C,jL X.K j B f o/\zY X.K Θ j C B/\z8 X.K Θ j B (M.qg k v n f C) D,⟨M.KP,ρ,E,S,st,rp,h⟩,?_⟩
   rintro k o B ⟨j,f,C,st2,G,U⟩
   cases k with
   | zero=>exact U.elim
   | succ k =>
    refine⟨j,f,C,st2,G,z8.stm U λy H3 b b' I Y l3 z eb h3=>?_⟩;cases eb;cases b with
    | false=>exact Qp (z8.nx (σ:=o) h3 z (st2.mono Y l3))
    | true =>
     refine Qk ⟨λl u=>∃ g m S4,jL X.K g u m l/\zY X.K Θ g S4 u/\z8 X.K Θ g u (M.qg k v n m S4) D,λl u q=>⟨k,xg k,q⟩,y,f,I,st2.mono Y l3,z,?_⟩;have i:z8 X.K Θ y H3 (match n f I with
      | .nx σ s=>M.qg k v n σ s
      | .ct σ s=>M.qg k v n σ s
      | .bk σ s=>.nx σ s
      | r=>r) D:=h3
     revert i;cases n f I with
     | nx a s=>exact λi g u l J L p t=>⟨g,a,s,t,p,z8.weak i J L⟩
     | ct a s=>exact λi g u l J L p t=>⟨g,a,s,t,p,z8.weak i J L⟩
     | bk a s=>exact λi=>i
     | rt a s=>exact λi=>i
     | exc e a s=>exact λi=>i
     | no=>exact λi=>i
theorem gQ {K:PySem.W.Frag}{D:Qv} (G:ItR K Θ n I J xs l) (st:jL K n I o σ) (rp1:zY K Θ n S1 I) (hgd:M.zh l S1=true) (h2:z8 K Θ n I (M.j9 l (M.qU g q) xs o S1) D) :
  ∃ W:Nat->Nat->St->Hp->Prop,(∃ m,W 0 m σ I)/\∀ i m σ H,W i m σ H ->
   (J.stop i H/\D.nx σ H)\/(J.go i H/\∃ N:St->Hp->Prop,(∀ o L,N o L->∃ m',m' < m/\W (i+1) m' o L)/\∀ x L,J.yld i H x L->RdG K Θ js g x σ L λu v=>RdS K Θ q { D with nx:=N,ct:=N,bk:=D.nx } u v):=by
 refine⟨λi k u v=>∃ c j t,n <+: c/\Le I v/\jL K c v j u/\zY K Θ c t v/\M.zh l t=true/\k=xs.length - i/\i <= xs.length/\z8 K Θ c v (M.j9 l (M.qU g q) (xs.drop i) j t) D,
  ⟨xs.length,n,o,S1,jg _,Le.refl _,st,rp1,hgd,rfl,ZV _,h2⟩,?_⟩
 rintro i k u v ⟨c,j,t,p2,l2,st2,z,g2,rfl,hi2,h3⟩
 by_cases A:i < xs.length
 ·refine .inr ⟨G.go i c t v p2 l2 z g2 A,λQ H3=>∃ f h B,n <+: f/\Le I H3/\jL K f H3 h Q/\zY K Θ f B H3/\M.zh l B=true/\z8 K Θ f H3 (M.j9 l (M.qU g q) (xs.drop (i+1)) h B) D,
   λQ H3 ⟨f,h,B,a1,a2,a3,a4,a5,a6⟩=>⟨xs.length - (i+1),by lia,f,h,B,a1,a2,a3,a4,a5,rfl,A,a6⟩,λx L y=>?_⟩
  obtain⟨d,ed,rd,ld,rpd⟩:=G.yld i c t v x L p2 l2 z g2 A y;have edr:xs.drop i=d::xs.drop (i+1):=by
   obtain⟨_,e⟩:=List.getElem?_eq_some_iff.mp ed;rw[kX A,e]
  rw[edr] at h3;have h4:z8 K Θ c v (match (match g d j with | some o=>q o t | none=>M.RS.no) with
   | .nx σ s=>if M.zh l s then M.j9 l (M.qU g q) (xs.drop (i+1)) σ s else .no
   | .ct σ s=>if M.zh l s then M.j9 l (M.qU g q) (xs.drop (i+1)) σ s else .no
   | .bk σ s=>.nx σ s
   | r=>r) D:=h3
  cases U:g d j with
  | none=>rw[U] at h4;exact h4.elim
  | some C =>
   rw[U] at h4;refine⟨c,j,t,d,st2.mono (jg _) ld,rpd,rd,C,U,λY Q le3 rp3 st3 _ _=>⟨c,C,t,st3,rp3,?_⟩⟩;have h5:=z8.weak h4 (jg _) (ld.trans le3);have p:z8 K Θ c Y (match q C t with
    | .nx σ s=>if M.zh l s then M.j9 l (M.qU g q) (xs.drop (i+1)) σ s else .no
    | .ct σ s=>if M.zh l s then M.j9 l (M.qU g q) (xs.drop (i+1)) σ s else .no
    | .bk σ s=>.nx σ s
    | r=>r) D:=h5
   have more:∀ (a:M.St) (s:M.S),z8 K Θ c Y (if M.zh l s then M.j9 l (M.qU g q) (xs.drop (i+1)) a s else .no) D->∀ w E σ4,c <+: w->Le Y E->zY K Θ w s E->jL K w E a σ4 ->
     ∃ f h B,n <+: f/\Le I E/\jL K f E h σ4/\zY K Θ f B E/\M.zh l B=true/\z8 K Θ f E (M.j9 l (M.qU g q) (xs.drop (i+1)) h B) D:=λa s h7 w E σ4 p4 l4 rp4 st4=>by
    by_cases hs:M.zh l s=true
    ·rw[if_pos hs] at h7;exact⟨w,a,s,p2.trans p4,l2.trans (ld.trans (le3.trans l4)),st4,rp4,hs,z8.weak h7 p4 l4⟩
    ·rw[if_neg hs] at h7;exact h7.elim
   revert p;cases q C t with
   | nx a s=>exact λp=>more a s p
   | ct a s=>exact λp=>more a s p
   | bk a s=>exact λp=>p
   | rt a s=>exact λp=>p
   | exc e a s=>exact λp=>p
   | no=>exact λp=>p
 ·have e:i=xs.length:=by lia
  subst e;rw[lL] at h3;exact .inl ⟨G.stop c t v p2 l2 z g2,z8.nx (σ:=u) h3 z st2⟩
theorem w_ms_for (B:ub (zP X.prog X.w) X.A X.env X.xe) (C:X.calm=true) (hi:WI X Θ tg f it) (u:WG X Θ I tg g) (v:WSs X Θ j o)
  (hs:∀ x,xC f X.env x=pure x:=by intro _;rfl):WS X Θ (.For tg f j [] pos) (M.qs it g o):=by
 delta WG WI WS WSs at hi u v ⊢
 exact (gN B C hi u v hs).up λD σ H m c S st E h=>⟨m,c,S,st,E,by
   have h':z8 X.K Θ m H ((it c S).stm c λp s=>if M.zh p.2 s=true then M.j9 p.2 (M.qU g o) p.1 c s else .no) D:=h;cases hit:it c S with
   | no=>rw[hit] at h';exact h'.elim
   | exc a s=>rw[hit] at h';exact h'
   | ok p l =>
    rw[hit] at h';obtain⟨xs,i⟩:=p;show zG X.K Θ _ m H (if M.zh i l then M.R.ok (xs,i) l else .no) _;have n:z8 X.K Θ m H (if M.zh i l=true then M.j9 i (M.qU g o) xs c l else .no) D:=h';by_cases e:M.zh i l=true
    case neg=>rw[if_neg e] at n;exact n.elim
    rw[if_pos e] at n;rw[if_pos e];intro q G J y z r (t:ItR X.K Θ q G J xs i);exact gQ t (st.mono y z) r e (z8.weak n y z)⟩
theorem lV {K:PySem.W.Frag}{js:List Nat}{S:M.S}{R:List V->Hp->Prop} (st:jL K ρ H c σ) (rp:zY K Θ ρ S H) (hj:∀ j∈js,σ.length <= j)
  (h:zG K Θ (zU K) ρ H (M.jt n it g w me c S) R) :
  RdI K Θ it σ H λJ H1=>∃ W:Nat->Nat->List V->Hp->Prop,(∃ m,W 0 m [] H1)/\∀ i m ys t,W i m ys t->ys.length <= zg /\
   ((J.stop i t/\R ys t) \/
    (J.go i t/\∀ x H3,J.yld i t x H3->RdG K Θ js g x (σ++z9 n none) H3 λE H4=>Wk (σ++z9 n none) E/\RdT K Θ w E H4 λb H5 =>
     if b=true then RdE K Θ me E H5 λy H6=>∃ U,U < m/\W (i+1) U (ys++[y]) H6 else ∃ U,U < m/\W (i+1) U ys H5)):=by
 refine⟨ρ,c,S,st,rp,?_⟩;have h':zG K Θ (zU K) ρ H ((it c S).bind λp s=>if p.1.length <= M.SZ/\M.zh p.2 s=true then M.qo p.2 (M.qV n g w me c) p.1 s else .no) R:=h;cases hit:it c S with
 | no=>rw[hit] at h';exact h'.elim
 | exc a s=>rw[hit] at h';exact h'
 | ok p Y =>
  rw[hit] at h';obtain⟨xs,l⟩:=p;show zG K Θ _ ρ H (if M.zh l Y then M.R.ok (xs,l) Y else .no) _;have h2:zG K Θ (zU K) ρ H (if xs.length <= M.SZ/\M.zh l Y=true then M.qo l (M.qV n g w me c) xs Y else .no) R:=h';by_cases G:xs.length <= M.SZ/\M.zh l Y=true
  case neg=>rw[if_neg G] at h2;exact h2.elim
  rw[if_pos G] at h2;rw[if_pos G.2];intro B H1 J p1 l1 rp1 (itr:ItR K Θ B H1 J xs l);refine⟨λi k ys t=>∃ f u ds,B <+: f/\Le H1 t/\zY K Θ f u t/\M.zh l u=true/\zU K f t ds ys/\ds.length <= i/\k=xs.length - i/\i <= xs.length/\zG K Θ (zU K) f t ((M.qo l (M.qV n g w me c) (xs.drop i) u).bind λes s=>.ok (ds++es) s) R,
   ⟨xs.length,B,Y,[],jg _,Le.refl _,rp1,G.2,rfl,zo _,rfl,ZV _,?_⟩,?_⟩
  ·have A:=zG.weak h2 p1 l1;revert A;show zG K Θ (zU K) B H1 (M.qo l (M.qV n g w me c) xs Y) R->_;rw[J0];cases M.qo l (M.qV n g w me c) xs Y with
   | ok a s=>exact λA=>A
   | exc e s=>exact λA=>A
   | no=>exact λA=>A
  rintro i k ys t ⟨f,u,ds,p2,l2,I,g2,L,hdl,rfl,hi2,A⟩
  refine⟨by rw[<- L.length,<- yr];lia,?_⟩;by_cases N:i < xs.length
  ·refine .inr ⟨itr.go i f u t p2 l2 I g2 N,λx H3 y=>?_⟩;obtain⟨d,ed,rd,ld,rpd⟩:=itr.yld i f u t x H3 p2 l2 I g2 N y;have edr:xs.drop i=d::xs.drop (i+1):=by
    obtain⟨_,e⟩:=List.getElem?_eq_some_iff.mp ed;rw[kX N,e]
   rw[edr] at A;have h4:zG K Θ (zU K) f t (((match g d (c++z9 n none) with
     | none=>M.R.no
     | some q=>(w q u).bind λb s=>if b then (me q s).bind λd s=>.ok (some d) s else .ok none s).bind λo s =>
      if M.zh l s then (M.qo l (M.qV n g w me c) (xs.drop (i+1)) s).bind λys s=>.ok (match o with | some y=>y::ys | none=>ys) s else .no).bind λes s=>.ok (ds++es) s) R:=A
   cases hgq:g d (c++z9 n none) with
   | none=>rw[hgq] at h4;exact h4.elim
   | some q =>
    rw[hgq] at h4;refine⟨f,c++z9 n none,u,d,((st.mono (p1.trans p2) (l1.trans (l2.trans ld))).more n),rpd,rd,q,hgq,λH4 E Q rp4 st4 hl4 hj4=>⟨⟨hl4.symm,λj v e=>?_⟩,f,q,u,st4,rp4,?_⟩⟩
    ·by_cases hjj:j∈js
     ·rw[ZQ (hj j hjj),K3] at e;split at e<;>cases e
     ·rw[hj4 j hjj];exact e
    ·have h5:=zG.weak h4 (jg _) (ld.trans Q);dsimp only at h5;cases htc:w q u with
     | no=>rw[htc] at h5;exact h5.elim
     | exc a s=>rw[htc] at h5;exact h5
     | ok b S3 =>
      rw[htc] at h5;intro C H5 b' p5 l5 rp5 eb;cases eb;have next:∀ (o:Option M.D) (s:M.S) (r:List zE) (H6:Hp) (zs:List V),f <+: r->Le H4 H6->zY K Θ r s H6->zU K r H6 (match o with | some y=>ds++[y] | none=>ds) zs ->
        zG K Θ (zU K) r H6 ((if M.zh l s then (M.qo l (M.qV n g w me c) (xs.drop (i+1)) s).bind λys s=>.ok (match o with | some y=>y::ys | none=>ys) s else .no).bind λes s=>.ok (ds++es) s) R ->
        ∃ U,U < xs.length - i/\∃ f u es,B <+: f/\Le H1 H6/\zY K Θ f u H6/\M.zh l u=true/\zU K f H6 es zs/\es.length <= i+1/\U=xs.length - (i+1)/\i+1 <= xs.length /\
         zG K Θ (zU K) f H6 ((M.qo l (M.qV n g w me c) (xs.drop (i+1)) u).bind λfs s=>.ok (es++fs) s) R:=λo s r H6 zs p6 l6 rp6 rz z=>by
       by_cases hs:M.zh l s=true
       case neg=>rw[if_neg hs] at z;exact z.elim
       rw[if_pos hs] at z;refine⟨xs.length - (i+1),by lia,r,s,_,p2.trans p6,l2.trans (ld.trans (Q.trans l6)),rp6,hs,rz,?_,rfl,N,?_⟩
       ·cases o<;>simp<;>lia
       ·revert z;cases M.qo l (M.qV n g w me c) (xs.drop (i+1)) s with
        | ok a s2 =>
         intro z;cases o with
         | none=>exact z
         | some y =>
          show zG K Θ (zU K) r H6 (.ok (ds++[y]++a) s2) R;rw[yI];exact z
        | exc e s=>exact λz=>z
        | no=>exact λz=>z
      cases b with
      | false=>exact Qp (next none S3 C H5 ys p5 l5 rp5 (L.mono p5 (ld.trans (Q.trans l5))) (zG.weak h5 p5 l5))
      | true =>
       refine Qk ⟨C,q,S3,st4.mono p5 l5,rp5,?_⟩;have z:=zG.weak h5 p5 l5;cases hme:me q S3 with
       | no =>
        have h7:zG K Θ (zU K) C H5 ((((me q S3).bind λd s=>M.R.ok (some d) s).bind λo s=>if M.zh l s then (M.qo l (M.qV n g w me c) (xs.drop (i+1)) s).bind λys s=>.ok (match o with | some y=>y::ys | none=>ys) s else .no).bind λes s=>.ok (ds++es) s) R:=z;rw[hme] at h7;exact h7.elim
       | exc a s =>
        have h7:zG K Θ (zU K) C H5 ((((me q S3).bind λd s=>M.R.ok (some d) s).bind λo s=>if M.zh l s then (M.qo l (M.qV n g w me c) (xs.drop (i+1)) s).bind λys s=>.ok (match o with | some y=>y::ys | none=>ys) s else .no).bind λes s=>.ok (ds++es) s) R:=z;rw[hme] at h7;exact h7
       | ok y S6 =>
        have h7:zG K Θ (zU K) C H5 ((((me q S3).bind λd s=>M.R.ok (some d) s).bind λo s=>if M.zh l s then (M.qo l (M.qV n g w me c) (xs.drop (i+1)) s).bind λys s=>.ok (match o with | some y=>y::ys | none=>ys) s else .no).bind λes s=>.ok (ds++es) s) R:=z;rw[hme] at h7;intro r H6 v p6 l6 rp6 rv;exact next (some y) S6 r H6 (ys++[v]) (p5.trans p6) (l5.trans l6) rp6 ((L.mono (p5.trans p6) (ld.trans (Q.trans (l5.trans l6)))).app ⟨v,[],rfl,rv,rfl⟩) (zG.weak h7 p6 l6)
  ·have e:i=xs.length:=by lia
   subst e;rw[lL] at A;refine .inl ⟨itr.stop f u t p2 l2 I g2,?_⟩;have h4:zG K Θ (zU K) f t (.ok (ds++[]) u) R:=A;rw[yZ] at h4;exact h4.here I L
end
end L2
namespace L2
open PySem PySem.Spec PyProof.Rows
section
variable {X:Cx}{Θ:Tab}{pos:Pos}{vars:List Str}{scope:Za}{cl:List (Str×zE)}{tg elt iter:zV}{ifs:List zV}{it:M.IM}{g:M.GM}{js:List Nat}{tc:M.TM}{me:M.EM}
theorem YQ (I:Inv X f σ H s) (m:∀ j∈js,X.N.length <= j) {S:M.S} (st:jL X.K i H c σ) (o:zY X.K Θ i S H) {Q:VK}
  (h:zG X.K Θ (zU X.K) i H (M.jt n it g tc me c S) λys l=>∀ D,l D=none->Q (.ref D) (upd l D (.lst ys))) :
  v5 n (RdI X.K Θ it) (RdG X.K Θ js g) (RdT X.K Θ tc) (RdE X.K Θ me) σ H Q:=lV st o (λj e=>by rw[I.len];exact m j e) h
theorem w_me_comp (q:X.calm=true) (C:yi X vars scope cl) (hi:WI X Θ tg iter it) (o:∀ C f c e,WG (jZ X vars scope cl C f c e) Θ js tg g) (r:∀ C f c e,Zj (jZ X vars scope cl C f c e) ifs (RdT X.K Θ tc))
  (p:∀ C f c e,WE (jZ X vars scope cl C f c e) Θ elt me) (l:(js.all λj=>decide (X.N.length <= j))=true) (hs:∀ x,xC iter X.env x=pure x:=by intro _;rfl):WE X Θ (.ListComp elt [⟨tg,iter,ifs,0⟩] scope pos) (M.yC vars.length it g tc me):=by
 delta WE WG WI at hi o p ⊢
 intro i s σ H Q I ⟨B,t,S,st,u,h⟩;have v:∀ j∈js,X.N.length <= j:=λj m=>of_decide_eq_true (List.all_eq_true.mp l j m);exact uV q C hi o r p hs i s σ H Q I (YQ I v st u (zG.bind h λw E ds ys G J L n y z D A=>z.alloc n y A))
theorem w_ms_setcomp {i:Nat}{y:Str}{B l:Pos} (Y:X.calm=true) (C:yi X vars scope cl) (hN:X.N.Nodup) (t:X.N[i]? = some y) (hy:Loc X.env.scope y) (hi:WI X Θ tg iter it) (G:∀ C n c e,WG (jZ X vars scope cl C n c e) Θ js tg g) (ht:∀ C n c e,Zj (jZ X vars scope cl C n c e) ifs (RdT X.K Θ tc))
  (J:∀ C n c e,WE (jZ X vars scope cl C n c e) Θ elt me) (u:(js.all λj=>decide (X.N.length <= j))=true) (hs:∀ x,xC iter X.env x=pure x:=by intro _;rfl)
  (v:Qc (.ListComp elt [⟨tg,iter,ifs,0⟩] scope pos) (some (.Name y B)) l.line X.env=pure true:=by rfl)
  (hf:X.fn y=true\/X.env.scope.names.lookup y=some .local:=by first | exact .inl rfl | exact .inr rfl | assumption) :
  WS X Θ (.Assign [.Name y B] (.ListComp elt [⟨tg,iter,ifs,0⟩] scope pos) l) (M.zQ i (M.yC vars.length it g tc me)):=by
 delta WE WG WI WS at hi G J ⊢
 intro o s σ H D I ⟨w,f,S,st,rp,h⟩;have hj:∀ j∈js,X.N.length <= j:=λj z=>of_decide_eq_true (List.all_eq_true.mp u j z);refine EV Y C hN t hy hi G ht J hs v hf o s σ H D I (YQ I hj st rp ?_);have h':z8 X.K Θ w H (((M.jt vars.length it g tc me f S).bind λys s=>M.alloc (.lst ys) s).stm f λd s=>.nx (f.set i (some d)) s) D:=h;cases hm:M.jt vars.length it g tc me f S with
 | no=>rw[hm] at h';exact h'.elim
 | exc a s=>rw[hm] at h';exact (show yw X.K Θ w H a s from h')
 | ok ds q =>
  rw[hm] at h';intro m L ys Q U p r1 E r;have h2:z8 X.K Θ w H (.nx (f.set i (some (.ref q.length))) (q++[.lst ds])) D:=h';have A:zY X.K Θ (m++[E]) (q++[.lst ds]) (upd L E (.lst ys)):=p.alloc r ⟨ys,qp,r1.mono (Zo _ _) (Le.new r _)⟩;exact h2 (m++[E]) _ _ (Q.trans (Zo _ _)) (U.trans (Le.new r _)) A (((st.mono Q U).mono (Zo _ _) (Le.new r _)).set (show zO X.K (m++[E]) (upd L E (.lst ys)) (.ref q.length) (.ref E) from ⟨E,rfl,by rw[<- p.len];simp⟩) i)
def AdK (K:PySem.W.Frag) (Θ:Tab) (k:List M.D->M.S->M.R M.D) (r:List V->Hp->VK->Prop):Prop:=∀ c H S ds ys p Q,zY K Θ c S H->zU K c H ds ys->SqL K H p ys->zG K Θ (zO K) c H (k ds S) Q->r [.ref p] H Q
theorem w_me_callC {p:Pos}{id:String}{f:Pos}{k:List M.D->M.S->M.R M.D} (m:jq X (.builtin id) r) (ad:AdK X.K Θ k r) (n:Gl X x) (hm:X.mg x=none) (B:qk x=some (.builtin id))
  (E:X.calm=true) (C:yi X vars scope cl) (hi:WI X Θ tg iter it) (y:∀ C i c e,WG (jZ X vars scope cl C i c e) Θ js tg g) (G:∀ C i c e,Zj (jZ X vars scope cl C i c e) ifs (RdT X.K Θ tc))
  (z:∀ C i c e,WE (jZ X vars scope cl C i c e) Θ elt me) (o:(js.all λj=>decide (X.N.length <= j))=true) (hs:∀ x,xC iter X.env x=pure x:=by intro _;rfl)
  (J:x ≠ "__name__" := by decide) (q:(x == ("__debug__" : Str))=false:=by decide)
  :
  WE X Θ (.Call (.Name x p) [.ListComp elt [⟨tg,iter,ifs,0⟩] scope pos] [] f) (M.Jc k vars.length it g tc me):=by
 delta WE WG WI at hi y z ⊢
 intro l s σ H Q I ⟨ρ,L,S,st,U,h⟩;have Y:∀ j∈js,X.N.length <= j:=λj t=>of_decide_eq_true (List.all_eq_true.mp o j t);refine cN m n hm B (W6 (uV (g:=RdG X.K Θ js g) (ti:=RdT X.K Θ tc) (te:=RdE X.K Θ me) E C hi y G z hs) uM (qv rfl)) J q (qv rfl) rfl l s σ H Q I ?_;show v5 vars.length _ _ _ _ σ H (λx A=>r [x] A Q);refine YQ I Y st U (zG.bind h λu A ds ys S1 p1 l1 v r1 h1 D w=>?_);exact ad u _ S1 ds ys D Q (v.aside w _) (r1.mono (jg _) (Le.new w _)) (SqL.of qp) (zG.weak h1 (jg _) (Le.new w _))
theorem w_me_joinC {y:M.T}{z:Str}{j:Nat}{p f i:Pos} (B:z=ofT y) (E:X.calm=true) (C:yi X vars scope cl) (hi:WI X Θ tg iter it) (w:∀ C m c e,WG (jZ X vars scope cl C m c e) Θ js tg g) (G:∀ C m c e,Zj (jZ X vars scope cl C m c e) ifs (RdT X.K Θ tc))
  (A:∀ C m c e,WE (jZ X vars scope cl C m c e) Θ elt me) (q:(js.all λj=>decide (X.N.length <= j))=true) (ad:∀ o H S ds ys p Q,zY X.K Θ o S H->zU X.K o H ds ys->SqL X.K H p ys->zG X.K Θ (zO X.K) o H (M.q7 y ds S) Q->VE X.K (.str (ofT y)) [.ref p] H Q) (hs:∀ x,xC iter X.env x=pure x:=by intro _;rfl)
  (l:(f.endLine == i.line)=true:=by rfl)
  :
  WE X Θ (.Call (.Attribute (.Constant (.str z) j p) "join" f) [.ListComp elt [⟨tg,iter,ifs,0⟩] scope pos] [] i) (M.Jc (M.q7 y) vars.length it g tc me):=by
 delta WE WG WI at hi w A ⊢
 intro n s σ H Q I ⟨o,J,S,st,L,h⟩;have U:∀ j∈js,X.N.length <= j:=λj r=>of_decide_eq_true (List.all_eq_true.mp q j r);subst B;refine bR PySem.F.plainAttrs_str PySem.F.slot_str_join PySem.F.type_str_join bQ cG (W6 (uV (g:=RdG X.K Θ js g) (ti:=RdT X.K Θ tc) (te:=RdE X.K Θ me) E C hi w G A hs) uM (qv rfl)) rfl (B2 rfl (show 1 < 30 by decide)) l (qv rfl) rfl n s σ H Q I ?_;refine⟨rfl,YQ I U st L (zG.bind h λt H1 ds ys Y p1 l1 u r1 h1 D v=>?_)⟩;exact ad t _ Y ds ys D Q (u.aside v _) (r1.mono (jg _) (Le.new v _)) (SqL.of qp) (zG.weak h1 (jg _) (Le.new v _))
end
def SpM (K:PySem.W.Frag) (e:Tab) (n:Nat) (f:M.F):Sp:=λvs H Q _=>∃ c ds S,ds.length=n/\zU K c H ds vs/\zY K e c S H/\zG K e (zO K) c H (f ds S) Q
def kF (m:M.AM) (n:Nat):Prop:=∀ σ s xs c,m σ s=.ok xs c->xs.length=n
theorem Z5:kF M.zC 0:=λσ s xs c h=>by cases h;rfl
theorem ZU {a:M.EM} (h:kF r n):kF (M.zB a r) (n+1):=λσ s xs i e=>by
 have c:((a σ s).bind λx s=>(r σ s).bind λxs s=>M.R.ok (x::xs) s)=.ok xs i:=e;cases ha:a σ s with
 | no=>rw[ha] at c;cases c
 | exc a s=>rw[ha] at c;cases c
 | ok d j =>
  rw[ha] at c;have f:((r σ j).bind λxs s=>M.R.ok (d::xs) s)=.ok xs i:=c;cases g:r σ j with
  | no=>rw[g] at f;cases f
  | exc a s=>rw[g] at f;cases f
  | ok ds l =>
   rw[g] at f;cases f;rw[zx,h _ _ _ _ g]
section
variable {X:Cx}{Θ:Tab}{pos p:Pos}{x:Str}{ps:List Str}{e:zV}{es:List zV}{f:M.F}{m:M.AM}{k kk n:Nat}
theorem w_me_call (h:Has X.prog X.w X.K X.mg X.base x k ps (SpM X.K Θ n f)) (q:z4 kk X.A) (r:k <= kk) (t:Gl X x) (ha:WA X Θ (e::es) m) (ar:kF m n) (u:Zq CX0 X E0:=by exact Xz) (g:(x == ("__debug__" : Str))=false:=by decide)
  (v:qN e=true:=by rfl) (i:es.all qN=true:=by rfl):WE X Θ (.Call (.Name x p) (e::es) [] pos) (M.zK f m):=by
 delta WA WE at ha ⊢
 exact (ic h q r t ha u g (qv v) (Qm i)).up λσ H Q o c S st y h=>⟨o,c,S,st,y,by
   have h':zG X.K Θ (zO X.K) o H ((m c S).bind λxs s=>f xs s) Q:=h;cases hm:m c S with
   | no=>rw[hm] at h';exact h'.elim
   | exc a s=>rw[hm] at h';exact h'
   | ok ds z =>
    rw[hm] at h';intro j G vs B C l E;rw[yZ];exact⟨j,ds,z,ar _ _ _ _ hm,E,l,zG.weak h' B C⟩⟩
end
theorem dA:∀ {n:Nat}{d:M.D},M.kyD n (M.D.ren e d)=true->M.D.ren e d=d:=by
 intro n
 induction n with
 | zero=>intro d h;cases d<;>first | rfl | cases h
 | succ n g =>
  intro d h;cases d with
  | tup ds =>
   show M.D.tup (M.D.ren.all e ds)=_;have h':(M.D.ren.all e ds).all (M.kyD n)=true:=h;have:∀ ds:List M.D,(M.D.ren.all e ds).all (M.kyD n)=true->M.D.ren.all e ds=ds:=by
    intro ds
    induction ds with
    | nil=>intro _;rfl
    | cons d ds c =>
     intro h;have f:(M.kyD n (M.D.ren e d) && (M.D.ren.all e ds).all (M.kyD n))=true:=h;rw[j8] at f;show M.D.ren e d::M.D.ren.all e ds=_;rw[g f.1,c f.2]
   rw[this ds h']
  | _=>first | rfl | cases h
section
variable {K:PySem.W.Frag}{Θ:Tab}{ρ ρ':List zE}{H:Hp}{e:List Nat}
mutual
theorem zO.unren (f:∀ (i j:Nat) a,e[i]? = some j->ρ[j]? = some a->ρ'[i]? = some a):∀ {d:M.D}{v:V},M.D.cl e.length d=true->zO K ρ H (M.D.ren e d) v->zO K ρ' H d v
 | .non,_,_,h=>h
 | .bl _,_,_,h=>h
 | .int _,_,_,h=>h
 | .str _,_,_,h=>h
 | .ty _,_,_,h=>h
 | .ref i,_,c,⟨a,g,l⟩=>by
  have hi:i < e.length:=of_decide_eq_true c;refine⟨a,g,f i (e.getD i i) a ?_ l⟩;rw[qP,yQ hi];rfl
 | .tup _,_,c,⟨a,xs,g,l,m⟩=>⟨a,xs,g,l,zU.unren f c m⟩
 | .ro _,_,c,⟨a,xs,g,l,m⟩=>⟨a,xs,g,l,zU.unren f c m⟩
theorem zU.unren (f:∀ (i j:Nat) a,e[i]? = some j->ρ[j]? = some a->ρ'[i]? = some a):∀ {ds:List M.D}{xs:List V},M.D.cl.all e.length ds=true->zU K ρ H (M.D.ren.all e ds) xs->zU K ρ' H ds xs
 | [],_,_,h=>h
 | d::ds,_,c,⟨y,ys,l,m,n⟩=>by
  have g:(M.D.cl e.length d && M.D.cl.all e.length ds)=true:=c;rw[j8] at g;exact⟨y,ys,l,zO.unren f g.1 m,zU.unren f g.2 n⟩
end
theorem ObR.unren (m:∀ (i j:Nat) a,e[i]? = some j->L[j]? = some a->A[i]? = some a) {a:zE} (c:M.O.cl e.length o=true) (h:ObR K Q L H a (M.O.ren e o)):ObR K Q A H a o:=by
 cases o with
 | lst ds=>obtain⟨xs,n,g⟩:=h;exact⟨xs,n,zU.unren m c g⟩
 | dct kvs =>
  obtain⟨ks,n,g⟩:=h;refine⟨ks,n,?_⟩;have l:∀ p∈kvs,(M.D.cl e.length p.1 && M.D.cl e.length p.2)=true:=List.all_eq_true.mp c;clear n;revert g l;clear c
  induction kvs generalizing ks with
  | nil=>intro g l;cases g;exact .nil
  | cons p kvs s =>
   intro g l;rw[jH] at g;cases g with
   | cons r t =>
    have c1:=l p qa;rw[j8] at c1;refine .cons ⟨?_,zO.unren m c1.2 r.2⟩ (s _ t (λq u=>l q (jh _ u)));have w:=r.1;revert w;cases p.1<;>exact λw=>w
 | fdc kvs =>
  obtain⟨o,ks,n,g⟩:=h;refine⟨o,ks,n,?_⟩;have l:∀ p∈kvs,(M.D.cl e.length p.1 && M.D.cl e.length p.2)=true:=List.all_eq_true.mp c;clear n;revert g l;clear c
  induction kvs generalizing ks with
  | nil=>intro g l;cases g;exact .nil
  | cons p kvs s =>
   intro g l;rw[jH] at g;cases g with
   | cons r t =>
    have c1:=l p qa;rw[j8] at c1;refine .cons ⟨?_,zO.unren m c1.2 r.2⟩ (s _ t (λq u=>l q (jh _ u)));have w:=r.1;revert w;cases p.1<;>exact λw=>w
 | dtt kvs =>
  obtain⟨xs,n,g⟩:=h;refine⟨xs,n,?_⟩;have l:∀ p∈kvs,(M.D.cl e.length p.1 && M.D.cl e.length p.2)=true:=List.all_eq_true.mp c;clear n;revert g l;clear c
  induction kvs generalizing xs with
  | nil=>intro g l;cases g;exact .nil
  | cons p kvs s =>
   intro g l;rw[jH] at g;cases g with
   | cons r t =>
    have c1:=l p qa;rw[j8] at c1;obtain⟨y,x,B,v,E,G⟩:=r;have I:=dA x;rw[I] at y x;exact .cons ⟨y,x,zO.unren m c1.1 B,v,zO.unren m c1.2 E,G⟩ (s _ t (λq u=>l q (jh _ u)))
 | ftt kvs =>
  obtain⟨o,xs,n,g⟩:=h;refine⟨o,xs,n,?_⟩;have l:∀ p∈kvs,(M.D.cl e.length p.1 && M.D.cl e.length p.2)=true:=List.all_eq_true.mp c;clear n;revert g l;clear c
  induction kvs generalizing xs with
  | nil=>intro g l;cases g;exact .nil
  | cons p kvs s =>
   intro g l;rw[jH] at g;cases g with
   | cons r t =>
    have c1:=l p qa;rw[j8] at c1;obtain⟨y,x,B,v,E,G⟩:=r;have I:=dA x;rw[I] at y x;exact .cons ⟨y,x,zO.unren m c1.1 B,v,zO.unren m c1.2 E,G⟩ (s _ t (λq u=>l q (jh _ u)))
 | ins cc fs =>
  obtain⟨C,U,Y,N,n,g,z⟩:=h;refine⟨C,U,Y,N,n,g,by rw[<- z.len];simp,z.nd,z.within,λi f d q1 J=>?_⟩;obtain⟨v,k1,k2⟩:=z.get i f (M.D.ren e d) q1 (by rw[yB,J];rfl);refine⟨v,k1,zO.unren m ?_ k2⟩;have:=List.all_eq_true.mp c (some d) (y9 J);exact this
theorem zG.gc {S:M.S}{d:M.D}{Q:VK} (m:M.Emb S.length e u A) (B:M.D.cl u.length d=true) (C:zY K y z S H) (h:zG K y (zO K) z H (.ok d u) Q):zG K y (zO K) z H (.ok (M.D.ren e d) A) Q:=by
 intro c E v G I n J;have f:∀ {i j:Nat},e[i]? = some j->j < c.length:=λ{i j} q=>by
  have hi:i < u.length:=by rw[<- m.len];exact (List.getElem?_eq_some_iff.mp q).1
  obtain⟨j',p,t,_⟩:=m.obj i u[i] (by simp[hi]);rw[q] at p;cases p;rw[n.len];exact (List.getElem?_eq_some_iff.mp t).1
 have g:∀ (i j:Nat) a,e[i]? = some j->c[j]? = some a->(e.map λj=>c.getD j 0)[i]? = some a:=λi j a p t=>by
  rw[yB,p,XH,qP,t];rfl
 refine h (e.map λj=>c.getD j 0) E v ?_ I ⟨by rw[jS,m.len],?_,λi o q=>?_⟩ (zO.unren g (by rw[m.len];exact B) J)
 ·refine List.prefix_iff_getElem?.mpr λi hi=>?_;have w:i < S.length:=C.len ▸ hi;exact g i i _ (m.old i w) (kh G (yQ hi))
 ·refine mS λi j x a b=>?_;rw[yB] at a b;cases r:e[i]? with
  | none=>rw[r] at a;cases a
  | some k =>
   cases s:e[j]? with
   | none=>rw[s] at b;cases b
   | some l =>
    rw[r,XH,qP,yQ (f r)] at a;rw[s,XH,qP,yQ (f s)] at b;have L:c[k]'(f r)=x:=by simpa using a
    have N:c[l]'(f s)=x:=by simpa using b
    have U:=F8 n.nd (f r) (f s) (L.trans N.symm);subst U;exact Yy m.nd r s
 ·obtain⟨j,p,t,Y⟩:=m.obj i o q;obtain⟨a,q4,q5⟩:=n.obj j _ t;exact⟨a,g i j a p q4,ObR.unren g (by rw[m.len];exact Y) q5⟩
end
section
variable {K:PySem.W.Frag}{Θ:Tab}{ρ:List zE}{H:Hp}
mutual
theorem zO.cl:∀ {d:M.D}{v:V},zO K ρ H d v->M.D.cl ρ.length d=true
 | .non,_,_=>rfl
 | .bl _,_,_=>rfl
 | .int _,_,_=>rfl
 | .str _,_,_=>rfl
 | .ty _,_,_=>rfl
 | .ref _,_,⟨a,_,c⟩=>decide_eq_true (List.getElem?_eq_some_iff.mp c).1
 | .tup _,_,⟨_,_,_,_,h⟩=>zU.cl h
 | .ro _,_,⟨_,_,_,_,h⟩=>zU.cl h
theorem zU.cl:∀ {ds:List M.D}{xs:List V},zU K ρ H ds xs->M.D.cl.all ρ.length ds=true
 | [],_,_=>rfl
 | d::ds,_,⟨_,_,_,c,e⟩=>by
  show (M.D.cl ρ.length d && M.D.cl.all ρ.length ds)=true;rw[zO.cl c,zU.cl e];rfl
end
theorem zY.cl {S:M.S} (u:zY K G f S H):M.clS S.length S=true:=by
 refine List.all_eq_true.mpr λo x=>?_;obtain⟨i,hi,rfl⟩:=List.mem_iff_getElem.mp x;obtain⟨a,I,y⟩:=u.obj i S[i] (by simp[hi]);rw[<- u.len];revert y;cases S[i] with
 | lst ds=>exact λ⟨xs,_,r⟩=>r.cl
 | dct kvs =>
  intro ⟨ks,_,r⟩;refine List.all_eq_true.mpr λp e=>?_;have:∀ {kvs:List (M.D×M.D)}{ks:List (Key×V)},Paired (λ(p:M.D×M.D) (q:Key×V)=>Zm p.1 q.1/\zO K f H p.2 q.2) kvs ks->p∈kvs->(M.D.cl f.length p.1 && M.D.cl f.length p.2)=true:=by
   intro kvs ks r e
   induction r with
   | nil=>cases e
   | cons g m h =>
    rcases List.mem_cons.mp e with rfl | e
    ·rw[g.2.cl,EB];have l:=g.1;revert l;cases p.1<;>first | exact λ_=>rfl | exact λl=>l.elim
    ·exact h e
  exact this r e
 | fdc kvs =>
  intro ⟨_,ks,_,r⟩;refine List.all_eq_true.mpr λp e=>?_;have:∀ {kvs:List (M.D×M.D)}{ks:List (Key×V)},Paired (λ(p:M.D×M.D) (q:Key×V)=>Zm p.1 q.1/\zO K f H p.2 q.2) kvs ks->p∈kvs->(M.D.cl f.length p.1 && M.D.cl f.length p.2)=true:=by
   intro kvs ks r e
   induction r with
   | nil=>cases e
   | cons g m h =>
    rcases List.mem_cons.mp e with rfl | e
    ·rw[g.2.cl,EB];have l:=g.1;revert l;cases p.1<;>first | exact λ_=>rfl | exact λl=>l.elim
    ·exact h e
  exact this r e
 | dtt kvs =>
  intro ⟨xs,_,r⟩;refine List.all_eq_true.mpr λp e=>?_;have:∀ {kvs:List (M.D×M.D)}{xs:List (M.D×zE×zD)},Paired (TDr K f H) kvs xs->p∈kvs->(M.D.cl f.length p.1 && M.D.cl f.length p.2)=true:=by
   intro kvs xs r e
   induction r with
   | nil=>cases e
   | cons g m h =>
    rcases List.mem_cons.mp e with rfl | e
    ·obtain⟨_,_,n,v,s,_⟩:=g;rw[n.cl,s.cl];rfl
    ·exact h e
  exact this r e
 | ftt kvs =>
  intro ⟨o,xs,_,r⟩;refine List.all_eq_true.mpr λp e=>?_;have:∀ {kvs:List (M.D×M.D)}{xs:List (M.D×zE×zD)},Paired (TDr K f H) kvs xs->p∈kvs->(M.D.cl f.length p.1 && M.D.cl f.length p.2)=true:=by
   intro kvs xs r e
   induction r with
   | nil=>cases e
   | cons g m h =>
    rcases List.mem_cons.mp e with rfl | e
    ·obtain⟨_,_,n,v,s,_⟩:=g;rw[n.cl,s.cl];rfl
    ·exact h e
  exact this r e
 | ins c fs =>
  intro ⟨C,J,L,N,_,_,r⟩;refine List.all_eq_true.mpr λz t=>?_;cases z with
  | none=>rfl
  | some d =>
   obtain⟨j,w,A⟩:=List.mem_iff_getElem.mp t;have B:j < N.length:=r.len ▸ w;obtain⟨v,_,E⟩:=r.get j N[j] d (by simp[B]) (by rw[yQ w,A]);exact E.cl
end
section
variable {P:jB}{w:jG}{K:PySem.W.Frag}{mg:Str->Option zD}{base:zi}{Θ:Tab}
theorem DQ {ds:List M.D} (r:zU K c H ds vs) (N:List Str):jL K c H (ds.map some++z9 (N.length - ds.length) none) (Zy N vs):=by
 have f:=r.length;refine⟨by simp[Zy,f],λi d q=>?_⟩;unfold Zy;by_cases hi:i < ds.length
 ·rw[yG (by simpa using hi),yB] at q;cases e:ds[i]? with
  | none=>rw[e] at q;cases q
  | some d' =>
   rw[e] at q;cases q;obtain⟨v,g,h⟩:=r.get e;refine⟨v,?_,h⟩;rw[yG (by simp;lia),yB,g];rfl
 ·rw[ZQ (by simp;lia),K3] at q;split at q<;>cases q
theorem GN {st:zf}{k:Nat}{b:M.SM} (F:Fun K x qual st f fd) (y:Qu N ps (jl st)) (z:M.jI ps.length (M.fn N.length b) q)
  (i:∀ (g:zD) (A:jc) (outer:List Env) (s:zJ) (H:Hp) (E:XK),z4 k (A.deeper (y8 qual (jl st) s.heap.objs.size f g)) ->
   MSs (Ze CX0 P w K mg base N qual (jl st) f g A outer s H E).nox Θ (yP st) b):zm P w K mg base CX0 (k+1) f fd ps (SpM K Θ ps.length q):=by
 refine F.ok (k:=k) y (λvs H Q E h=>?_) (λg A outer s H vs Q E B h=>?_)
 ·obtain⟨l,ds,S,m,r,_⟩:=h;rw[<- r.length,m]
 ·obtain⟨l,ds,S,m,r,j,h⟩:=h;refine⟨_,i g A outer s H E B,l,_,S,DQ r N,j,?_⟩;rcases z ds S m j.cl (j.len ▸ r.cl) with e | ⟨d,S',u,v,C,G,n,I⟩
  ·rw[e] at h;exact h.elim
  ·rw[C] at h;have o:=zG.gc n I j h;have c:(b (ds.map some++z9 (N.length - ds.length) none) S).out=.ok (M.D.ren v d) u:=G;show z8 K Θ l H (b (ds.map some++z9 (N.length - ds.length) none) S) _;revert c;cases b (ds.map some++z9 (N.length - ds.length) none) S with
   | rt a s=>intro c;cases c;exact o
   | nx a s =>
    intro c;have J:M.R.ok M.D.non s=.ok (M.D.ren v d) u:=c;injection J with L U;subst U;rw[<- L] at o;exact λp Y σ1 p1 l1 t _=>o p Y .non p1 l1 t rfl
   | bk a s=>intro c;cases c
   | ct a s=>intro c;cases c
   | exc e a s=>intro c;cases c
   | no=>intro c;cases c
theorem w_fun_M {st:zf}{k:Nat}{b:M.SM} (F:Fun K x qual st f fd) (g:Qu N ps (jl st)) (h:M.jI ps.length (M.fn N.length b) q)
  (c:∀ (e:zD) (A:jc) (outer:List Env) (s:zJ) (H:Hp) (E:XK),z4 k (A.deeper (y8 qual (jl st) s.heap.objs.size f e)) ->
   WSs (Ze CX0 P w K mg base N qual (jl st) f e A outer s H E).nox Θ (yP st) b):zm P w K mg base CX0 (k+1) f fd ps (SpM K Θ ps.length q):=by with_unfolding_all exact GN (x:=x) (qual:=qual) (st:=st) (f:=f) (fd:=fd) (N:=N) (ps:=ps) (k:=k) (b:=b) (q:=q) F g h c
end
end L2
namespace L2
open PySem PySem.Spec PyProof.Rows
section
variable {K:PySem.W.Frag}{Θ:Tab}
theorem MN:Ad2 K Θ M.XB aB:=by
 intro e H S x y X Y Q c rx ry h;cases x with
 | int i =>
  cases y with
  | int j=>cases rx;cases ry;exact zG.here (b:=V.int (i - j)) h c rfl
  | _=>exact h.elim
 | _=>exact h.elim
theorem bj (h:M.qK i=true):-(2 ^ 64) < i/\i < 2 ^ 64:=by
 have h':i.natAbs < 18446744073709551616:=of_decide_eq_true h;exact⟨by lia,by lia⟩
theorem Lw:Ad2 K Θ M.jO ck:=by
 intro e H S x y X Y Q f rx ry h;cases x with
 | int i =>
  cases y with
  | int j =>
   cases rx;cases ry;have h':zG K Θ (zO K) e H (if 0 < j/\j.natAbs < 1073741824 then M.R.ok (M.D.int (i / j)) S else .no) Q:=h;by_cases c:0 < j/\j.natAbs < 1073741824
   ·rw[if_pos c] at h';exact⟨⟨c.1,by lia⟩,zG.here (b:=V.int (i / j)) h' f rfl⟩
   ·rw[if_neg c] at h';exact h'.elim
  | _=>exact h.elim
 | _=>exact h.elim
theorem gM:Ad2 K Θ M.jD aG:=by
 intro e H S x y X Y Q f rx ry h;cases x with
 | int i =>
  cases y with
  | int j =>
   cases rx;cases ry;have h':zG K Θ (zO K) e H (if 0 < j then M.R.ok (M.D.int (i % j)) S else .no) Q:=h;by_cases c:0 < j
   ·rw[if_pos c] at h';exact⟨c,zG.here (b:=V.int (i % j)) h' f rfl⟩
   ·rw[if_neg c] at h';exact h'.elim
  | _=>exact h.elim
 | _=>exact h.elim
theorem Zc {S:M.S} (g:zY K Θ e S H) {i:Nat}{a:zE} (ha:e[i]? = some a) {xs:List M.D} (q:S[i]? = some (.lst xs)):∃ c,H a=some (.lst c)/\zU K e H xs c:=by
 obtain⟨b,f,c,h,r⟩:=g.obj i _ q;rw[ha] at f;cases f;exact⟨c,h,r⟩
theorem Ye:Ad2 K Θ M.zc (λx y H Q=>wQ x y H Q\/WD K x y H Q):=by
 intro g H S x y X Y Q e rx ry h;cases x with
 | int i =>
  cases y with
  | int j=>cases rx;cases ry;exact .inl (zG.here (b:=V.int (i+j)) h e rfl)
  | _=>exact h.elim
 | str a =>
  cases y with
  | str b =>
   obtain⟨rfl,m⟩:=rx;obtain⟨rfl,n⟩:=ry;have h':zG K Θ (zO K) g H (if a.length+b.length <= M.SZ then M.R.ok (M.D.str (a++b)) S else .no) Q:=h;by_cases c:a.length+b.length <= M.SZ
   ·rw[if_pos c] at h';refine .inl ⟨by rw[qL,qL,<- yr];exact c,?_⟩;rw[Dh];exact zG.here (b:=V.str (ofT (a++b))) h' e ⟨rfl,YN m n⟩
   ·rw[if_neg c] at h';exact h'.elim
  | _=>exact h.elim
 | tup a =>
  cases y with
  | tup b =>
   obtain⟨l,xs,rfl,s,r⟩:=rx;obtain⟨w,ys,rfl,o,q⟩:=ry;have h':zG K Θ (zO K) g H (if a≠[]/\a.length+b.length <= M.SZ then M.R.ok (M.D.tup (a++b)) S else .no) Q:=h;by_cases c:a≠[]/\a.length+b.length <= M.SZ
   ·rw[if_pos c] at h';refine .inr ⟨l,w,xs,ys,rfl,rfl,s,o,λz=>c.1 ?_,by rw[<- r.length,<- q.length,<- yr];exact c.2,λt=>?_,λt p f=>?_⟩
    ·subst z;have:=r.length;exact List.length_eq_zero_iff.mp this
    ·subst t;have A:b=[]:=List.length_eq_zero_iff.mp q.length;subst A;rw[yZ] at h';exact zG.here h' e ⟨l,xs,rfl,s,r⟩
    ·exact h' g _ _ (jg _) (Le.new f _) (e.aside f _) ⟨p,_,rfl,SqT.of qp,(r.app q).mono (jg _) (Le.new f _)⟩
   ·rw[if_neg c] at h';exact h'.elim
  | _=>exact h.elim
 | ref i =>
  cases y with
  | ref j =>
   obtain⟨a,rfl,ea⟩:=rx;obtain⟨b,rfl,B⟩:=ry;have h':zG K Θ (zO K) g H (match S[i]?,S[j]? with
    | some (.lst xs),some (.lst ys)=>if xs.length+ys.length <= M.SZ then M.alloc (.lst (xs++ys)) S else .no
    | _,_=>.no) Q:=h
   split at h'
   ·rename_i xs ys C E;obtain⟨G,I,u⟩:=Zc e ea C;obtain⟨ws,J,v⟩:=Zc e B E;by_cases c:xs.length+ys.length <= M.SZ
    ·rw[if_pos c] at h';exact .inl ⟨G,ws,I,J,by rw[<- u.length,<- v.length,<- yr];exact c,λp f=>h'.alloc e (u.app v) f⟩
    ·rw[if_neg c] at h';exact h'.elim
   ·exact h'.elim
  | _=>exact h.elim
 | _=>exact h.elim
theorem nZ:AdC K Θ M.cLt uLt:=by
 intro e H S x y X Y Q c rx ry h;cases x with
 | int i =>
  cases y with
  | int j=>cases rx;cases ry;exact zG.here (b:=decide (i < j)) h c rfl
  | _=>exact h.elim
 | str a =>
  cases y with
  | str b =>
   obtain⟨rfl,_⟩:=rx;obtain⟨rfl,_⟩:=ry;show Q (.bl (decide ((ofT a).cps.toList < (ofT b).cps.toList))) H;rw[ZP,ZP];exact zG.here (b:=decide (a < b)) h c rfl
  | _=>exact h.elim
 | _=>exact h.elim
theorem Jw:AdC K Θ M.cLe uLe:=by
 intro e H S x y X Y Q c rx ry h;cases x with
 | int i =>
  cases y with
  | int j=>cases rx;cases ry;exact zG.here (b:=decide (i <= j)) h c rfl
  | _=>exact h.elim
 | str a =>
  cases y with
  | str b =>
   obtain⟨rfl,_⟩:=rx;obtain⟨rfl,_⟩:=ry;show Q (.bl (!decide ((ofT b).cps.toList < (ofT a).cps.toList))) H;rw[ZP,ZP];exact zG.here (b:=!decide (b < a)) h c rfl
  | _=>exact h.elim
 | _=>exact h.elim
theorem wV:AdC K Θ M.cGt uGt:=by
 intro e H S x y X Y Q c rx ry h;cases x with
 | int i =>
  cases y with
  | int j=>cases rx;cases ry;exact zG.here (b:=decide (j < i)) h c rfl
  | _=>exact h.elim
 | _=>exact h.elim
theorem wo {ds:List M.D}{d:M.D} (r:zU K c H ds xs) (e:M.atI ds i=some d):∃ v,atI xs i=some v/\zO K c H d v:=by
 unfold M.atI at e;cases q:M.ixN ds.length i with
 | none=>rw[q] at e;cases e
 | some j =>
  rw[q] at e;obtain⟨v,f,g⟩:=r.get (i:=j) e;have h:ixN xs.length i=some j:=by rw[<- r.length];exact q
  exact⟨v,by unfold atI;rw[h];exact f,g⟩
end
end L2
namespace L2
open PySem PySem.Spec PyProof.Rows
section
variable {K:PySem.W.Frag}{Θ:Tab}
theorem w_mt_tru {X:Cx}{a:zV} (ha:WE X Θ a w) (y:∀ g,isTrue a X.env g=(do let v <- g;standAt a.pos;holding [v] (truthy v)):=by intro _;rfl):WT X Θ a (M.Zi w):=by
 delta WE WT at ha ⊢
 exact (eL ha y).up λσ H Q A s S st B h=>⟨A,s,S,st,B,zG.bind h λC I x J E L N f rx e=>by
   cases x with
   | non=>cases rx;exact⟨false,rfl,zG.here (b:=false) e f rfl⟩
   | bl b=>cases rx;exact⟨b,rfl,zG.here (b:=b) e f rfl⟩
   | int i=>cases rx;exact⟨_,rfl,zG.here (b:=(i != 0)) e f (by show decide (i≠0)=(i != 0);by_cases hi:i=0<;>simp[hi])⟩
   | str z =>
    obtain⟨rfl,_⟩:=rx;by_cases t:z.length <= M.SZ
    ·simp only[M.Qd,if_pos t] at e;refine⟨_,⟨by rw[qL,<- yr];exact t,rfl⟩,zG.here (b:=(((ofT z).length:Int) != 0)) e f ?_⟩;show (!z.isEmpty)=_;rw[qL];cases z<;>simp<;>lia
    ·simp only[M.Qd,if_neg t] at e;exact e.elim
   | tup ds =>
    obtain⟨l,xs,rfl,u,r⟩:=rx;refine⟨_,.inr (.inl ⟨xs,u,rfl⟩),zG.here (b:=!xs.isEmpty) e f ?_⟩;show (!ds.isEmpty)=_;have:=r.length;cases ds<;>cases xs<;>first | rfl | cases this
   | ro ds =>
    obtain⟨l,xs,rfl,u,r⟩:=rx;refine⟨_,.inl ⟨xs,u.sq,rfl⟩,zG.here (b:=!xs.isEmpty) e f ?_⟩;show (!ds.isEmpty)=_;have:=r.length;cases ds<;>cases xs<;>first | rfl | cases this
   | ref p =>
    obtain⟨a,rfl,ea⟩:=rx;cases q:E[p]? with
    | none=>simp[M.Qd,q] at e;exact e.elim
    | some o =>
     cases o with
     | lst xs =>
      simp only[M.Qd,q] at e;obtain⟨j,m,r⟩:=Zc f ea q;refine⟨_,.inl ⟨j,SqL.of m,rfl⟩,zG.here (b:=!j.isEmpty) e f ?_⟩;show (!xs.isEmpty)=_;have:=r.length;cases xs<;>cases j<;>first | rfl | cases this
     | dct kvs =>
      simp only[M.Qd,q] at e;obtain⟨b,m,j,G,r⟩:=f.obj _ _ q;rw[ea] at m;cases m;refine⟨_,.inr (.inr ⟨j,G,rfl⟩),zG.here (b:=!j.isEmpty) e f ?_⟩;cases r<;>rfl
     | fdc _=>simp[M.Qd,q] at e;exact e.elim
     | dtt _=>simp[M.Qd,q] at e;exact e.elim
     | ftt _=>simp[M.Qd,q] at e;exact e.elim
     | ins c fs=>simp[M.Qd,q] at e;exact e.elim
   | ty n=>exact e.elim⟩
inductive TyM (K:PySem.W.Frag) (H:Hp):V->String->Prop where
 | of {x:V}{A:String} (h:ZX K H x (.type A)):TyM K H x A
 | sqT {a:zE}{xs:List V} (h:SqT K H a xs):TyM K H (.ref a) "tuple"
 | sqL {a:zE}{xs:List V} (h:SqL K H a xs):TyM K H (.ref a) "list"
noncomputable def UC (K:PySem.W.Frag):List V->Hp->VK->Prop:=λxs H Q=>∃ x n A b,xs=[x,.ty n]/\TyM K H x A/\PySem.W.kitOne K (.type A) (.type n)=some b/\Q (.bl b) H
theorem Cv {X:Cx}:jq X (.builtin "isinstance") (UC X.K):=by
 intro j s σ H xs us Q I r h;obtain⟨x,n,A,b,rfl,ty,e,q⟩:=h;obtain⟨u,m,rfl,f,l⟩:=ay r;cases l;cases ty with
 | of h=>exact yD (n:=1) I.tk (L8 I f h e λtk c=>⟨.bl b,H,I.tok tk c,rfl,q⟩)
 | sqT h =>
  cases f;obtain⟨its,_,⟨o,g,i,_⟩,_⟩:=I.tuple h;exact yD (n:=1) I.tk (PySem.W.kia_one PySem.W.kitx_tuple I.kIn ⟨o,g,i⟩ e (λz=>nomatch z) λtk c=>⟨.bl b,H,I.tok tk c,rfl,q⟩)
 | sqL h =>
  cases f;obtain⟨its,_,⟨o,n,g,i,_⟩,_⟩:=I.list h;exact yD (n:=1) I.tk (PySem.W.kia_one PySem.W.kitx_list I.kIn ⟨o,g,i⟩ e (λz=>nomatch z) λtk c=>⟨.bl b,H,I.tok tk c,rfl,q⟩)
theorem iG (n:M.Kd):PySem.W.kitOne K (.type "NoneType") (.type (yh n))=some false/\PySem.W.kitOne K (.type "bool") (.type (yh n))=some (match n with | .bool=>true | .int=>true | _=>false) /\
  PySem.W.kitOne K (.type "int") (.type (yh n))=some (match n with | .int=>true | _=>false)/\PySem.W.kitOne K (.type "str") (.type (yh n))=some (match n with | .str=>true | _=>false) /\
  PySem.W.kitOne K (.type "tuple") (.type (yh n))=some (match n with | .tuple=>true | _=>false)/\PySem.W.kitOne K (.type "list") (.type (yh n))=some (match n with | .list=>true | _=>false) /\
  PySem.W.kitOne K (.type "dict") (.type (yh n))=some (match n with | .dict=>true | _=>false):=by
 cases n<;>exact⟨Jx (by decide +kernel),Jx (by decide +kernel),Jx (by decide +kernel),Jx (by decide +kernel),Jx (by decide +kernel),Jx (by decide +kernel),Jx (by decide +kernel)⟩
theorem d9:AdN K Θ M.Qg (UC K):=by
 intro w H S xs N Q j rx h
 match xs,rx,h with
 | [x,.ty n],rx,h =>
  obtain⟨v,_,rfl,f,_,_,rfl,rfl,rfl⟩:=rx;obtain⟨y,B,C,E,G,u,I⟩:=iG (K:=K) n;have fin:∀ {A:String}{b:Bool},M.Z4 n x S=.ok b S->TyM K H v A->PySem.W.kitOne K (.type A) (.type (yh n))=some b->UC K [v,.ty (yh n)] H Q:=λ{A b} e ty k=>by
   have h':zG K Θ (zO K) w H ((M.Z4 n x S).bind λb s=>.ok (.bl b) s) Q:=h;rw[e] at h';exact⟨v,yh n,A,b,rfl,ty,k,zG.here (b:=V.bl b) h' j rfl⟩
  cases x with
  | non=>cases f;exact fin rfl (.of .non) y
  | bl b=>cases f;exact fin rfl (.of (.bl b)) B
  | int i=>cases f;exact fin rfl (.of (.int i)) C
  | str z=>obtain⟨rfl,_⟩:=f;exact fin rfl (.of (.str _)) E
  | tup ds=>obtain⟨l,ys,rfl,t,r⟩:=f;exact fin rfl (.sqT t) G
  | ro ds=>obtain⟨l,ys,rfl,t,r⟩:=f;exact fin rfl (.sqL t.sq) u
  | ty m=>exact h.elim
  | ref p =>
   obtain⟨a,rfl,ea⟩:=f;cases q:S[p]? with
   | none=>simp[M.Qg,M.Z4,q] at h;exact h.elim
   | some o =>
    cases o with
    | lst xs =>
     obtain⟨J,g,r⟩:=Zc j ea q;refine fin ?_ (.sqL (SqL.of g)) u;simp only[M.Z4,q]<;>(cases n<;>rfl)
    | dct kvs =>
     obtain⟨b,g,J,L,r⟩:=j.obj _ _ q;rw[ea] at g;cases g;refine fin ?_ (.of (.dK L)) I;simp only[M.Z4,q]<;>(cases n<;>rfl)
    | fdc _=>simp[M.Qg,M.Z4,q] at h;exact h.elim
    | dtt _=>simp[M.Qg,M.Z4,q] at h;exact h.elim
    | ftt _=>simp[M.Qg,M.Z4,q] at h;exact h.elim
    | ins c fs=>simp[M.Qg,M.Z4,q] at h;exact h.elim
 | [_,.non],_,h=>exact h.elim
 | [_,.bl _],_,h=>exact h.elim
 | [_,.int _],_,h=>exact h.elim
 | [_,.str _],_,h=>exact h.elim
 | [_,.tup _],_,h=>exact h.elim
 | [_,.ro _],_,h=>exact h.elim
 | [_,.ref _],_,h=>exact h.elim
 | [],_,h=>exact h.elim
 | [_],_,h=>exact h.elim
 | _::b::_::_,_,h=>cases b<;>exact h.elim
noncomputable def ofP:M.P->QT
 | .non=>.none
 | .bl b=>.bool b
 | .int i=>.int i
 | .str x=>.str (ofT x)
 | .tup ps=>.tuple (all ps)
 | .lst ps=>.list (all ps)
where all:List M.P->List QT
 | []=>[]
 | p::ps=>ofP p::all ps
theorem cQ (x y:M.T):(ofT x == ofT y)=(x == y):=by
 by_cases h:x=y
 ·subst h;simp
 ·rw[beq_eq_false_iff_ne.mpr h,beq_eq_false_iff_ne.mpr λe=>h (uC e)]
mutual
theorem wH:∀ p q:M.P,Ju (ofP p) (ofP q)=M.P.eqv p q
 | .non,.non=>rfl
 | .non,.bl _=>rfl
 | .non,.int _=>rfl
 | .non,.str _=>rfl
 | .non,.tup _=>rfl
 | .non,.lst _=>rfl
 | .bl _,.non=>rfl
 | .bl _,.bl _=>rfl
 | .bl _,.int _=>rfl
 | .bl _,.str _=>rfl
 | .bl _,.tup _=>rfl
 | .bl _,.lst _=>rfl
 | .int _,.non=>rfl
 | .int _,.bl _=>rfl
 | .int _,.int _=>rfl
 | .int _,.str _=>rfl
 | .int _,.tup _=>rfl
 | .int _,.lst _=>rfl
 | .str _,.non=>rfl
 | .str _,.bl _=>rfl
 | .str _,.int _=>rfl
 | .str x,.str y=>cQ x y
 | .str _,.tup _=>rfl
 | .str _,.lst _=>rfl
 | .tup _,.non=>rfl
 | .tup _,.bl _=>rfl
 | .tup _,.int _=>rfl
 | .tup _,.str _=>rfl
 | .tup ps,.tup c=>UV ps c
 | .tup _,.lst _=>rfl
 | .lst _,.non=>rfl
 | .lst _,.bl _=>rfl
 | .lst _,.int _=>rfl
 | .lst _,.str _=>rfl
 | .lst _,.tup _=>rfl
 | .lst ps,.lst c=>UV ps c
theorem UV:∀ ps c:List M.P,D7 (ofP.all ps) (ofP.all c)=M.P.eqvs ps c
 | [],[]=>rfl
 | [],_::_=>rfl
 | _::_,[]=>rfl
 | p::ps,q::c=>by
  show (Ju (ofP p) (ofP q) && D7 (ofP.all ps) (ofP.all c))=(M.P.eqv p q && M.P.eqvs ps c)
  rw[wH p q,UV ps c]
end
mutual
theorem Kr:∀ p:M.P,HH (ofP p)=M.P.dep p
 | .non=>rfl
 | .bl _=>rfl
 | .int _=>rfl
 | .str _=>rfl
 | .tup ps=>by show WU (ofP.all ps)+1=M.P.deps ps+1;rw[wX ps]
 | .lst ps=>by show WU (ofP.all ps)+1=M.P.deps ps+1;rw[wX ps]
theorem wX:∀ ps:List M.P,WU (ofP.all ps)=M.P.deps ps
 | []=>rfl
 | p::ps=>by show max (HH (ofP p)) (WU (ofP.all ps))=max (M.P.dep p) (M.P.deps ps);rw[Kr p,wX ps]
end
section
variable {ρ:List zE}{H:Hp}
mutual
theorem UI {g:Nat->Option M.P} (h:∀ i p v,g i=some p->zO K ρ H (.ref i) v->qS K H v (ofP p)/\(ofP p).canLay0=true):∀ {d:M.D}{p:M.P}{v:V},M.qj g d=some p->zO K ρ H d v->qS K H v (ofP p)/\(ofP p).canLay0=true
 | .non,_,_,e,r=>by cases e;cases r;exact⟨.non,rfl⟩
 | .bl _,_,_,e,r=>by cases e;cases r;exact⟨.bl _,rfl⟩
 | .int _,_,_,e,r=>by cases e;cases r;exact⟨.int _,rfl⟩
 | .str x,_,_,e,r=>by
  cases e;obtain⟨rfl,ok⟩:=r;refine⟨.str _,?_⟩;show Ml (ofT x)=true;unfold Ml ofT;have j:x.all (λc=>decide (c < 1114112))=true:=ok;simpa using j
 | .tup ds,_,_,e,r=>by
  obtain⟨l,xs,rfl,m,n⟩:=r;have f:(M.qj.all g ds).map M.P.tup=some _:=e;cases q:M.qj.all g ds with
  | none=>rw[q] at f;cases f
  | some ps =>
   rw[q] at f;cases f;obtain⟨o,s⟩:=Vx h q n;exact⟨.tup m o,s⟩
 | .ro ds,_,_,e,r=>by
  obtain⟨l,xs,rfl,m,n⟩:=r;have f:(M.qj.all g ds).map M.P.lst=some _:=e;cases q:M.qj.all g ds with
  | none=>rw[q] at f;cases f
  | some ps =>
   rw[q] at f;cases f;obtain⟨o,s⟩:=Vx h q n;exact⟨.lst m.sq o,s⟩
 | .ref i,_,_,e,r=>h i _ _ e r
 | .ty _,_,_,e,_=>by cases e
theorem Vx {g:Nat->Option M.P} (j:∀ i p v,g i=some p->zO K ρ H (.ref i) v->qS K H v (ofP p)/\(ofP p).canLay0=true):∀ {ds:List M.D}{ps:List M.P}{xs:List V},M.qj.all g ds=some ps->zU K ρ H ds xs->Zt K H xs (ofP.all ps)/\Ds (ofP.all ps)=true
 | [],_,_,e,r=>by cases e;cases r;exact⟨.nil,rfl⟩
 | d::ds,_,_,e,r=>by
  obtain⟨y,ys,rfl,l,m⟩:=r;have c:(match M.qj g d,M.qj.all g ds with | some p,some ps=>some (p::ps) | _,_=>none)=some _:=e;cases f:M.qj g d with
  | none=>rw[f] at c;cases c
  | some p =>
   cases h:M.qj.all g ds with
   | none=>rw[f,h] at c;cases c
   | some ps =>
    rw[f,h] at c;cases c;obtain⟨n,o⟩:=UI j f l;obtain⟨q,s⟩:=Vx j h m;refine⟨.cons n q,?_⟩;show (PyData.canLay0 (ofP p) && Ds (ofP.all ps))=true;rw[o,s];rfl
end
theorem Xt {S:M.S} (h:zY K w l S H):∀ (n:Nat) {d:M.D}{p:M.P}{v:V},M.toP n S d=some p->zO K l H d v->qS K H v (ofP p)/\(ofP p).canLay0=true
 | 0,_,_,_,e,r=>UI (λi p v e _=>by cases e) e r
 | n+1,_,_,_,e,r=>UI (λi p v e r=>by
   obtain⟨a,rfl,ea⟩:=r;have f:(match M.zy S i with | some xs=>(M.qj.all (λj=>M.toP n S (.ref j)) xs).map M.P.lst | none=>none)=some p:=e;cases q:S[i]? with
   | none=>simp[M.zy,q] at f
   | some o =>
    cases o with
    | lst xs =>
     simp only[M.zy,q] at f;obtain⟨x,m,s⟩:=Zc h ea q;cases g:M.qj.all (λj=>M.toP n S (.ref j)) xs with
     | none=>rw[g] at f;cases f
     | some ps =>
      rw[g] at f;cases f;obtain⟨t,u⟩:=Vx (λj p v e r=>Xt h n e r) g s;exact⟨.lst (SqL.of m) t,u⟩
    | dct kvs=>simp[M.zy,q] at f
    | fdc _=>simp[M.zy,q] at f
    | dtt _=>simp[M.zy,q] at f
    | ftt _=>simp[M.zy,q] at f
    | ins c fs=>simp[M.zy,q] at f) e r
end
noncomputable abbrev DR (K:PySem.W.Frag) (c:List zE) (H:Hp):List (M.D×M.D)->List (Key×V)->Prop:=Paired λp q=>Zm p.1 q.1/\zO K c H p.2 q.2
theorem wZ {d:M.D}{a b:Key} (ha:Zm d a) (c:Zm e b):(a=b)=(d=e):=by
 cases d with
 | int i =>
  cases ha;cases e with
  | int j=>cases c;exact propext ⟨λz=>by cases z;rfl,λz=>by cases z;rfl⟩
  | str y=>obtain⟨rfl,_⟩:=c;exact propext ⟨λz=>(nomatch z),λz=>(nomatch z)⟩
  | _=>exact c.elim
 | str x =>
  obtain⟨rfl,_⟩:=ha;cases e with
  | int j=>cases c;exact propext ⟨λz=>(nomatch z),λz=>(nomatch z)⟩
  | str y=>obtain⟨rfl,_⟩:=c;exact propext ⟨λz=>by rw[uC (FD z)],λz=>by cases z;rfl⟩
  | _=>exact c.elim
 | _=>exact ha.elim
theorem XY {d:M.D} (h:M.qC d=true) (r:zO K c H d v):∃ k,Zm d k/\v=kV k:=by
 cases d with
 | int i=>cases r;exact⟨.inl i,rfl,rfl⟩
 | str x=>obtain⟨rfl,ok⟩:=r;exact⟨.inr (ofT x),⟨rfl,ok⟩,rfl⟩
 | _=>cases h
section
variable {ρ:List zE}{H:Hp}{kvs:List (M.D×M.D)}{ks:List (Key×V)}{d:M.D}{k:Key}
theorem DR.val (r:DR K ρ H kvs ks) (f:Zm d k):match M.qM d kvs with | some e=>∃ v,q8 ks k=some v/\zO K ρ H e v | none=>q8 ks k=none:=by
 induction r with
 | nil=>exact rfl
 | @cons p q ps i h t g =>
  have e:=wZ h.1 f;by_cases hd:p.1=d
  ·have c:q.1=k:=e.mpr hd;rw[YA c,M.qM,ZA,beq_iff_eq.mpr hd.symm];exact⟨_,rfl,h.2⟩
  ·have c:¬ q.1=k:=λz=>hd (e.mp z);rw[vy c,M.qM,ZA,beq_eq_false_iff_ne.mpr (ZJ hd)];exact g
theorem DR.any (r:DR K ρ H kvs ks) (e:Zm d k):(ks.any λc=>decide (c.1=k))=kvs.any λc=>decide (c.1=d):=by
 induction r with
 | nil=>rfl
 | @cons p q ps g h t f =>
  rw[QR,QR,f]
  congr 1
  exact decide_eq_decide.mpr (wZ h.1 e ▸ Iff.rfl)
theorem DR.put (r:DR K ρ H kvs ks) (c:Zm d k) (f:zO K ρ H e v):DR K ρ H (M.ym d e kvs) (qz ks k v):=by
 unfold M.ym qz;rw[r.any c];by_cases ha:(kvs.any λi=>decide (i.1=d))=true
 ·rw[if_pos ha,if_pos ha];clear ha
  induction r with
  | nil=>exact .nil
  | @cons p q ps l h t j =>
   rw[jH,jH];refine .cons ?_ j;have g:=wZ h.1 c;by_cases hd:p.1=d
   ·rw[if_pos hd,if_pos (g.mpr hd)];exact⟨h.1,f⟩
   ·rw[if_neg hd,if_neg λz=>hd (g.mp z)];exact h
 ·rw[if_neg ha,if_neg ha];exact Paired.snoc r ⟨c,f⟩
end
theorem Q2 {S:M.S} (f:zY K j c S H) {i:Nat}{a:zE} (ha:c[i]? = some a) {kvs:List (M.D×M.D)} (q:S[i]? = some (.dct kvs)):∃ ks,H a=some (.dK ks)/\DR K c H kvs ks:=by
 obtain⟨b,e,g,h,r⟩:=f.obj i _ q;rw[ha] at e;cases e;exact⟨g,h,r⟩
theorem AZ {S:M.S} (f:zY K j c S H) {i:Nat}{a:zE} (ha:c[i]? = some a) {kvs:List (M.D×M.D)} (q:S[i]? = some (.fdc kvs)):∃ o ks,H a=some (.frz o (.dK ks))/\DR K c H kvs ks:=by
 obtain⟨b,e,o,g,h,r⟩:=f.obj i _ q;rw[ha] at e;cases e;exact⟨o,g,h,r⟩
inductive QO (K:PySem.W.Frag) (H:Hp) (kb:List (Key×V)):List (Key×V)->Bool->Prop where
 | nil:QO K H kb [] true
 | miss {k:Key}{v:V}{r:List (Key×V)} (h:q8 kb k=none):QO K H kb ((k,v)::r) false
 | hit {k:Key}{v y:V}{r:List (Key×V)}{d e:QT}{b:Bool} (h:q8 kb k=some y) (hd:qS K H v d) (he:qS K H y e) (sd:ZS d=true) (se:ZS e=true) (t:QO K H kb r b):QO K H kb ((k,v)::r) (Ju d e && b)
def Wl (neg:Bool) (K:PySem.W.Frag):R2:=λx y H Q=>∃ a b c e r,x=.ref a/\y=.ref b/\H a=some (.dK c)/\H b=some (.dK e)/\(c.length=e.length->QO K H e c r)/\Q (.bl (if neg then !(c.length == e.length && r) else (c.length == e.length && r))) H
theorem uw {X:Cx}{A:jc} (I:Inv X m σ H s) (n:A.units+64 < Q1) {o:List (Key×V)}{i:List (Key×zD)} (l:KV o i):∀ {u:List (Key×V)}{x:List (Key×zD)}{r:Bool},KV u x->QO X.K H o u r->PySem.W.KeqHits A s i x r
 | _,_,_,f,.nil=>by cases f;exact .nil
 | _,_,_,f,.miss h=>by
  cases f with
  | @cons p q ps z j t =>
   obtain⟨k,v⟩:=q;have e:_=k:=j.1;have c:=l.val k;rw[<- e,h] at c;refine .miss ?_;rw[<- e];cases g:Jg i _ with
   | none=>rfl
   | some w=>rw[g] at c;exact c.elim
 | _,_,_,f,.hit h hd B y C t=>by
  cases f with
  | @cons p q ps z j t1 =>
   obtain⟨k,v⟩:=q;have e:_=k:=j.1;have c:=l.val k;rw[<- e,h] at c;cases g:Jg i k with
   | none=>rw[e,g] at c;exact c.elim
   | some w =>
    rw[e,g] at c;obtain⟨as,E⟩:=hd.reads I j.2;obtain⟨bs,G⟩:=B.reads I c;exact .hit g (SeqAt.eqAt_reads _ _ A s _ _ as bs E G (LI y) (LI C) (SeqAt.room_of_shaped y n)) (uw I n l t1 t)
theorem lU {X:Cx}{k:Nat} (g:z4 k X.A):OpR X (jY .Eq) (Wl false X.K):=by
 intro i s σ H x y v u Q I rx ry h;obtain⟨a,b,t,w,r,rfl,rfl,ha,j,l,q⟩:=h;cases rx;cases ry;obtain⟨z,m,B,c,n⟩:=JJ I.hok ha;obtain⟨C,o,E,f,p⟩:=JJ I.hok j;refine PySem.W.keq_eq m o n p g.units0 (λe=>uw I (by show X.A.units+1+64 < _;have:=g.un;lia) f c (l (by rw[c.length,f.length];exact e))) ⟨.bl _,H,I,rfl,?_⟩;rw[<- c.length,<- f.length];exact q
theorem Ll {X:Cx}{k:Nat} (g:z4 k X.A):OpR X (jY .NotEq) (Wl true X.K):=by
 intro i s σ H x y v u Q I rx ry h;obtain⟨a,b,t,w,r,rfl,rfl,ha,j,l,q⟩:=h;cases rx;cases ry;obtain⟨z,m,B,c,n⟩:=JJ I.hok ha;obtain⟨C,o,E,f,p⟩:=JJ I.hok j;refine PySem.W.keq_ne m o n p g.units0 (λe=>uw I (by show X.A.units+1+64 < _;have:=g.un;lia) f c (l (by rw[c.length,f.length];exact e))) ⟨.bl _,H,I,rfl,?_⟩;rw[<- c.length,<- f.length];exact q
theorem bH {S:M.S} (j:zY K B n S H) (o:DR K n H ws p):∀ {ks:List (M.D×M.D)}{l:List (Key×V)}{b:Bool},DR K n H ks l->M.dEq S ws ks=some b->QO K H p l b
 | _,_,_,.nil,e=>by cases e;exact .nil
 | (k,v)::ks,(C,vv)::l,b,.cons h t,e=>by
  have f:=DR.val o h.1;unfold M.dEq at e;cases q:M.qM k ws with
  | none =>
   rw[q] at e f;cases e;exact .miss f
  | some w =>
   rw[q] at e f;obtain⟨y,r,ry⟩:=f;dsimp only at e;cases c:M.toP 8 S v with
   | none=>rw[c] at e;cases e
   | some s =>
    cases g:M.toP 8 S w with
    | none=>rw[c,g] at e;cases e
    | some u =>
     cases m:M.dEq S ws ks with
     | none=>rw[c,g,m] at e;cases e
     | some E =>
      rw[c,g,m] at e;dsimp only at e;by_cases i:M.P.dep s <= 64/\M.P.dep u <= 64
      ·rw[if_pos i] at e;cases e;obtain⟨x,c1⟩:=Xt j _ c h.2;obtain⟨z,A⟩:=Xt j _ g ry;rw[<- wH];refine .hit r x z ?_ ?_ (bH j o t m)
       ·unfold ZS;rw[c1,KJ,Kr];exact decide_eq_true i.1
       ·unfold ZS;rw[A,KJ,Kr];exact decide_eq_true i.2
      ·rw[if_neg i] at e;cases e
theorem d8 {S:M.S}{y:M.D}{m:Bool->Hp->Prop} (g:zY K v l S H) (rx:zO K l H x w) (ry:zO K l H y Y) (h:zG K v rB l H (M.YO x y S) m) :
  ∃ a b c f r,w=.ref a/\Y=.ref b/\H a=some (.dK c)/\H b=some (.dK f)/\(c.length=f.length->QO K H f c r)/\m (c.length == f.length && r) H:=by
 unfold M.YO at h;split at h
 ·rename_i i j;split at h
  ·rename_i ks ws z A;obtain⟨a,rfl,ha⟩:=rx;obtain⟨b,rfl,B⟩:=ry;obtain⟨c,n,o⟩:=Q2 g ha z;obtain⟨f,p,s⟩:=Q2 g B A;have C:=Paired.length o;have E:=Paired.length s;split at h
   ·rename_i t;split at h
    ·rename_i u q;refine⟨a,b,c,f,u,rfl,rfl,n,p,λ_=>bH g s o q,?_⟩;rw[show (c.length == f.length)=true by rw[beq_iff_eq];lia,KJ];exact zG.here (b:=u) h g rfl
    ·exact h.elim
   ·rename_i t;refine⟨a,b,c,f,false,rfl,rfl,n,p,λe=>absurd (by lia) t,?_⟩;rw[Bool.and_false];exact zG.here (b:=false) h g rfl
  ·exact h.elim
 ·exact h.elim
def Vl (K:PySem.W.Frag) (neg:Bool):R2:=λx y H Q=>(kM x y=true/\Q (.bl (if neg then !decide (x=y) else decide (x=y))) H)\/wj K neg x y H Q\/Wl neg K x y H Q
theorem V0 {X:Cx}{k:Nat} (e:z4 k X.A):OpR X (jY .Eq) (Vl X.K false):=by
 intro c s σ H x y v u Q I rx ry h;rcases h with h | h | h
 ·exact GC c s σ H x y v u Q I rx ry h
 ·exact F5 e c s σ H x y v u Q I rx ry h
 ·exact lU e c s σ H x y v u Q I rx ry h
theorem dS {X:Cx}{k:Nat} (e:z4 k X.A):OpR X (jY .NotEq) (Vl X.K true):=by
 intro c s σ H x y v u Q I rx ry h;rcases h with h | h | h
 ·exact Dt c s σ H x y v u Q I rx ry h
 ·exact hH e c s σ H x y v u Q I rx ry h
 ·exact Ll e c s σ H x y v u Q I rx ry h
theorem cT {S:M.S}{y:M.D}{g:Bool->Hp->Prop} (l:zY K u o S H) (rx:zO K o H x f) (ry:zO K o H y Y) (h:zG K u rB o H (M.eqD x y S) g) :
  (kM f Y=true/\g (decide (f=Y)) H)\/(∃ d e,qS K H f d/\qS K H Y e/\ZS d=true/\ZS e=true/\g (Ju d e) H)\/∃ a b i j r,f=.ref a/\Y=.ref b/\H a=some (.dK i)/\H b=some (.dK j)/\(i.length=j.length->QO K H j i r)/\g (i.length == j.length && r) H:=by
 have gen:∀ {p q:M.P},M.toP M.Z9 S x=some p->M.toP M.Z9 S y=some q->M.P.dep p <= 64/\M.P.dep q <= 64->g (M.P.eqv p q) H->∃ d e,qS K H f d/\qS K H Y e/\ZS d=true/\ZS e=true/\g (Ju d e) H:=λ{p q} m n hd v=>by
  obtain⟨w,c1⟩:=Xt l _ m rx;obtain⟨z,A⟩:=Xt l _ n ry;refine⟨_,_,w,z,?_,?_,by rw[wH];exact v⟩
  ·unfold ZS;rw[c1,KJ,Kr];exact decide_eq_true hd.1
  ·unfold ZS;rw[A,KJ,Kr];exact decide_eq_true hd.2
 have j7:zG K u rB o H (match M.toP M.Z9 S x,M.toP M.Z9 S y with
   | some p,some q=>if M.P.dep p <= 64/\M.P.dep q <= 64 then M.R.ok (M.P.eqv p q) S else .no
   | _,_=>M.YO x y S) g->(∃ d e,qS K H f d/\qS K H Y e/\ZS d=true/\ZS e=true/\g (Ju d e) H)\/∃ a b i j r,f=.ref a/\Y=.ref b/\H a=some (.dK i)/\H b=some (.dK j)/\(i.length=j.length->QO K H j i r)/\g (i.length == j.length && r) H:=λh'=>by
  cases m:M.toP M.Z9 S x with
  | none=>rw[m] at h';exact .inr (d8 l rx ry h')
  | some p =>
   cases n:M.toP M.Z9 S y with
   | none=>rw[m,n] at h';exact .inr (d8 l rx ry h')
   | some q =>
    rw[m,n] at h';dsimp only at h';by_cases t:M.P.dep p <= 64/\M.P.dep q <= 64
    ·rw[if_pos t] at h';exact .inl <| gen m n t (zG.here (b:=M.P.eqv p q) h' l rfl)
    ·rw[if_neg t] at h';exact h'.elim
 have s:∀ {b:Bool},kM f Y=true->decide (f=Y)=b->M.eqD x y S=.ok b S->(kM f Y=true/\g (decide (f=Y)) H):=λ{b} B C E=>by
  rw[E] at h;rw[C];exact⟨B,zG.here (b:=b) h l rfl⟩
 cases x with
 | str a =>
  cases y with
  | str b =>
   obtain⟨rfl,_⟩:=rx;obtain⟨rfl,_⟩:=ry;refine .inl (s rfl ?_ rfl);by_cases c:a=b
   ·subst c;simp
   ·rw[decide_eq_false c,decide_eq_false λe=>c (uC (V.str.inj e))]
  | _=>exact .inr (j7 h)
 | int a =>
  cases y with
  | int b =>
   cases rx;cases ry;refine .inl (s rfl ?_ rfl);by_cases c:a=b
   ·subst c;simp
   ·rw[decide_eq_false c,decide_eq_false λe=>c (V.int.inj e)]
  | _=>exact .inr (j7 h)
 | bl a =>
  cases y with
  | bl b =>
   cases rx;cases ry;refine .inl (s rfl ?_ rfl);by_cases c:a=b
   ·subst c;simp
   ·rw[decide_eq_false c,decide_eq_false λe=>c (V.bl.inj e)]
  | _=>exact .inr (j7 h)
 | non =>
  cases y with
  | non=>cases rx;cases ry;exact .inl (s rfl rfl rfl)
  | _=>exact .inr (j7 h)
 | _=>exact .inr (j7 h)
theorem Yc:AdC K o M.cEq (Vl K false):=by
 intro p H S x y q Y Q c rx ry h;rcases cT c rx ry h with h | ⟨d,e,f,g,i,j,l⟩ | ⟨a,b,m,n,r,h⟩
 ·exact .inl h
 ·exact .inr (.inl ⟨d,e,f,g,i,j,l⟩)
 ·exact .inr (.inr ⟨a,b,m,n,r,h⟩)
theorem DN:AdC K g M.cNe (Vl K true):=by
 intro i H S x y u Y Q j rx ry h;have h':zG K g rB i H (M.eqD x y S) (λb l=>Q (.bl (!b)) l):=zG.bind h λm v b w z A B c e f=>by cases e;exact zG.here (b:=!b) f c rfl
 rcases cT j rx ry h' with h | ⟨d,e,f,n,o,p,q⟩ | ⟨a,b,s,t,r,h⟩
 ·exact .inl h
 ·exact .inr (.inl ⟨d,e,f,n,o,p,q⟩)
 ·exact .inr (.inr ⟨a,b,s,t,r,h⟩)
end
end L2
namespace L2
open PySem PySem.Spec PyProof.Rows
section
variable {K:PySem.W.Frag}{Θ:Tab}
theorem kP (n d:Nat) (o:Option Int):M.sIx n d o=HT.sIx n d o:=by
 cases o with
 | none=>rfl
 | some v =>
  have:=HT.uG v n d;show (if v < 0 then max (v+(n:Int)) 0 else min v (n:Int)).toNat=_;rw[this];simp
theorem Uc {lo:Option Int}:∀ c∈M.cut x lo hi,c∈x:=λc e=>Vz (w6 e)
theorem w5 {ds:List M.D} (r:zU K c H ds xs) (lo hi:Option Int):zU K c H (M.cut ds lo hi) (QY xs lo hi):=by
 unfold M.cut QY;rw[kP,kP,r.length];exact (r.drop _).take _
theorem iP:∀ g H S x m l u Q,zY K Θ g S H->zO K g H x m->zG K Θ (zO K) g H (M.slD x l u S) Q->uSl K m l u H Q:=by
 intro g H S x m l u Q i rx h;cases x with
 | str z =>
  obtain⟨rfl,ok⟩:=rx;by_cases n:z.length <= M.SZ
  ·simp only[M.slD,if_pos n] at h;refine⟨by rw[qL,<- yr];exact n,zG.here h i ⟨?_,kW ok Uc⟩⟩;show V.str (XX (ofT z) l u)=V.str (ofT (M.cut z l u));unfold XX M.cut ofT;have e:(⟨z.toArray⟩:Str).length=z.length:=by simp[Wi]
   rw[e,kP,kP]
  ·simp only[M.slD,if_neg n] at h;exact h.elim
 | tup ds =>
  obtain⟨a,xs,rfl,s,r⟩:=rx;by_cases j:M.sIx ds.length 0 l=0/\M.sIx ds.length ds.length u=ds.length
  ·simp only[M.slD,if_pos j] at h;exact h.elim
  ·simp only[M.slD,if_neg j] at h;refine .inr ⟨xs,s,?_,λp f=>h g _ _ (jg _) (Le.new f _) (i.aside f _) ⟨p,_,rfl,SqT.of qp,(w5 r l u).mono (jg _) (Le.new f _)⟩⟩;rw[kP,kP,r.length] at j;exact j
 | ro ds =>
  obtain⟨a,xs,rfl,s,r⟩:=rx;exact .inl ⟨xs,s.sq,λp f=>zG.alloc h i (w5 r l u) f⟩
 | ref p =>
  obtain⟨a,rfl,ea⟩:=rx;cases q:S[p]? with
  | none=>simp[M.slD,M.zy,q] at h;exact h.elim
  | some o =>
   cases o with
   | lst xs =>
    simp only[M.slD,M.zy,q] at h;obtain⟨t,v,r⟩:=Zc i ea q;exact .inl ⟨t,SqL.of v,λp f=>zG.alloc h i (w5 r l u) f⟩
   | dct kvs=>simp[M.slD,M.zy,q] at h;exact h.elim
   | fdc _=>simp[M.slD,M.zy,q] at h;exact h.elim
   | dtt _=>simp[M.slD,M.zy,q] at h;exact h.elim
   | ftt _=>simp[M.slD,M.zy,q] at h;exact h.elim
   | ins c fs=>simp[M.slD,M.zy,q] at h;exact h.elim
 | _=>exact h.elim
theorem BW:∀ {ds:List M.D}{ys:List V}{bs:List Bool},M.Jn ds=some bs->zU K h H ds ys->ys=bs.map V.bl
 | [],_,_,e,r=>by cases e;cases r;rfl
 | .bl b::ds,_,_,e,r=>by
  obtain⟨y,ys,rfl,f,g⟩:=r;cases f;have c:(M.Jn ds).map (b :: ·)=some _:=e;cases q:M.Jn ds with
  | none=>rw[q] at c;cases c
  | some cs=>rw[q] at c;cases c;rw[BW q g];rfl
 | .non::_,_,_,e,_=>by cases e
 | .int _::_,_,_,e,_=>by cases e
 | .str _::_,_,_,e,_=>by cases e
 | .tup _::_,_,_,e,_=>by cases e
 | .ro _::_,_,_,e,_=>by cases e
 | .ref _::_,_,_,e,_=>by cases e
 | .ty _::_,_,_,e,_=>by cases e
theorem WY:AdK K Θ M.JF (BH K):=by
 intro g H S ds ys p Q c r f h;cases e:M.Jn ds with
 | none=>simp only[M.JF,e] at h;exact h.elim
 | some bs =>
  simp only[M.JF,e] at h;have:=BW e r;subst this;exact⟨p,bs,rfl,f,zG.here (b:=V.bl (bs.all id)) h c rfl⟩
theorem KU:∀ {ds:List M.D}{ys:List V}{ts:List M.T},M.y6 ds=some ts->zU K m H ds ys->ys=(ts.map ofT).map V.str/\∀ t∈ts,okT t
 | [],_,_,e,r=>by cases e;cases r;exact⟨rfl,λt h=>by cases h⟩
 | .str x::ds,_,_,e,r=>by
  obtain⟨y,ys,rfl,g,i⟩:=r;obtain⟨rfl,ok⟩:=g;have c:(M.y6 ds).map (x :: ·)=some _:=e;cases q:M.y6 ds with
  | none=>rw[q] at c;cases c
  | some cs =>
   rw[q] at c;cases c;obtain⟨j,l⟩:=KU q i;refine⟨by rw[j];rfl,λt f=>?_⟩;rcases List.mem_cons.mp f with rfl | f
   ·exact ok
   ·exact l t f
 | .non::_,_,_,e,_=>by cases e
 | .int _::_,_,_,e,_=>by cases e
 | .bl _::_,_,_,e,_=>by cases e
 | .tup _::_,_,_,e,_=>by cases e
 | .ro _::_,_,_,e,_=>by cases e
 | .ref _::_,_,_,e,_=>by cases e
 | .ty _::_,_,_,e,_=>by cases e
theorem aQ (x:M.T):∀ (ys:List M.T) (c:M.T),((ys.map ofT).foldl (λc p=>c++(ofT x).cps++p.cps) c.toArray)=(c++(ys.map (x ++ ·)).flatten).toArray
 | [],c=>by simp
 | y::ys,c=>by
  rw[jH,Qf];have e:c.toArray++(ofT x).cps++(ofT y).cps=(c++x++y).toArray:=by simp[ofT]
  rw[e,aQ x ys];simp
theorem cw (x y:M.T):∀ ys:List M.T,M.qW x (y::ys)=y++(ys.map (x ++ ·)).flatten
 | []=>by simp[M.qW]
 | z::ys=>by
  show y++x++M.qW x (z::ys)=_;rw[cw x z ys];simp
theorem dm (x:M.T) (ys:List M.T):x6 (ofT x) (ys.map ofT)=ofT (M.qW x ys):=by
 cases ys with
 | nil=>rfl
 | cons y ys =>
  show (⟨(((y::ys).map ofT).drop 1).foldl (λc p=>c++(ofT x).cps++p.cps) (((y::ys).map ofT).headD BD).cps⟩:Str)=_;rw[cw,jH,cM,List.tail_cons];have:=aQ x ys y;show (⟨(ys.map ofT).foldl _ y.toArray⟩:Str)=_;rw[this];rfl
theorem uU (c:okT x):∀ {ys:List M.T},(∀ t∈ys,okT t)->okT (M.qW x ys)
 | [],_=>rfl
 | [y],h=>h y (by simp)
 | y::z::ys,h=>YN (YN (h y (by simp)) c) (uU c λt e=>h t (jh _ e))
theorem cH (ts:List M.T):((ts.map ofT).map (·.length)).sum=(ts.map ZT).sum:=by
 rw[ZR];exact congrArg List.sum (Qa λt _=>qL t)
theorem KO {y:M.T} (g:okT y):∀ c H S ds ys p Q,zY K Θ c S H->zU K c H ds ys->(SqL K H p ys\/SqT K H p ys)->zG K Θ (zO K) c H (M.q7 y ds S) Q->VE K (.str (ofT y)) [.ref p] H Q:=by
 intro c H S ds ys p Q i r j h;cases e:M.y6 ds with
 | none=>simp only[M.q7,e] at h;exact h.elim
 | some ts =>
  obtain⟨rfl,ok⟩:=KU e r;by_cases f:(ts.map ZT).sum+ts.length * y.length <= M.SZ
  ·simp only[M.q7,e,if_pos f] at h;refine⟨ofT y,p,ts.map ofT,rfl,rfl,j,?_,?_⟩
   ·rw[cH,jS,qL];exact f
   ·rw[dm];exact zG.here h i ⟨rfl,uU g ok⟩
  ·simp only[M.q7,e,if_neg f] at h;exact h.elim
theorem fc:AdM K Θ M.ZI (VE K):=by
 intro g H S x xs n s Q f rx e h;cases x with
 | str y =>
  obtain⟨rfl,ok⟩:=rx
  match xs,e,h with
  | [.tup ds],e,h =>
   obtain⟨_,_,rfl,⟨l,ys,rfl,i,r⟩,rfl⟩:=e;exact KO ok g H S ds ys l Q f r (.inr i) h
  | [.ro ds],e,h =>
   obtain⟨_,_,rfl,⟨l,ys,rfl,i,r⟩,rfl⟩:=e;exact KO ok g H S ds ys l Q f r (.inl i.sq) h
  | [.ref p],e,h =>
   obtain⟨_,_,rfl,⟨a,rfl,ea⟩,rfl⟩:=e;cases q:S[p]? with
   | none=>simp[M.ZI,M.Js,M.zy,q] at h;exact h.elim
   | some o =>
    cases o with
    | lst xs =>
     simp only[M.ZI,M.Js,M.zy,q] at h;obtain⟨j,m,r⟩:=Zc f ea q;exact KO ok g H S xs j a Q f r (.inl (SqL.of m)) h
    | dct kvs=>simp[M.ZI,M.Js,M.zy,q] at h;exact h.elim
    | fdc _=>simp[M.ZI,M.Js,M.zy,q] at h;exact h.elim
    | dtt _=>simp[M.ZI,M.Js,M.zy,q] at h;exact h.elim
    | ftt _=>simp[M.ZI,M.Js,M.zy,q] at h;exact h.elim
    | ins c fs=>simp[M.ZI,M.Js,M.zy,q] at h;exact h.elim
  | [.non],_,h=>exact h.elim
  | [.bl _],_,h=>exact h.elim
  | [.int _],_,h=>exact h.elim
  | [.str _],_,h=>exact h.elim
  | [.ty _],_,h=>exact h.elim
  | [],_,h=>exact h.elim
  | a::_::_,_,h=>cases a<;>exact h.elim
 | _=>exact h.elim
noncomputable def uD:List (V×V)->List V
 | []=>[]
 | (a,b)::r=>a::b::uD r
def MP (X:Cx) (Θ:Tab) (pos:Pos) (keys:List (Option zV)) (c:List zV) (m:M.AM):Prop:=∃ e,PPs X pos keys c e /\
 ∀ {σ:St}{H:Hp}{Q:List (V×V)->Hp->Prop}{g:List zE}{f:M.St}{S:M.S},jL X.K g H f σ->zY X.K Θ g S H->zG X.K Θ (zU X.K) g H (m f S) (λxs h=>∀ ps,xs=uD ps->Q ps h)->vt e σ H Q
@[irreducible] def WP (X:Cx) (Θ:Tab) (pos:Pos) (keys:List (Option zV)) (c:List zV) (m:M.AM):Prop:=MP X Θ pos keys c m
theorem w_mp_nil {X:Cx}:WP X Θ pos [] [] M.zC:=by
 delta WP at ⊢
 exact⟨[],mJ,λst c h=>zG.here (b:=[]) h c rfl [] rfl⟩
theorem w_mp_cons {X:Cx}{k:zV}{ks:List (Option zV)}{mk:M.EM} (G:WE X Θ k mk) (I:WE X Θ v g) (J:WP X Θ pos ks vs r):WP X Θ pos (some k::ks) (v::vs) (M.zB mk (M.zB g r)):=by
 delta WE WP at G I J ⊢
 obtain⟨U,Y,h2⟩:=J;refine⟨_,LM G I Y,λ{σ H Q L c S} st rp h=>⟨L,c,S,st,rp,?_⟩⟩;have h':zG X.K Θ (zU X.K) L H ((mk c S).bind λx s=>(((g c s).bind λy s=>(r c s).bind λys s=>.ok (y::ys) s)).bind λxs s=>.ok (x::xs) s) _:=h;cases i:mk c S with
 | no=>rw[i] at h';exact h'.elim
 | exc a s=>rw[i] at h';exact h'
 | ok d N =>
  rw[i,M.R.bind_ok] at h';intro j H1 x l m n rx;refine⟨j,c,N,st.mono l m,n,?_⟩;have e:=zG.weak h' l m;cases o:g c N with
  | no=>rw[o] at e;exact e.elim
  | exc a s=>rw[o] at e;exact e
  | ok d2 S2 =>
   rw[o,M.R.bind_ok] at e;intro ρ2 H2 y p q t ry;refine h2 (st.mono (l.trans p) (m.trans q)) t ?_;have f:=zG.weak e p q;cases u:r c S2 with
   | no=>rw[u] at f;exact f.elim
   | exc a s=>rw[u] at f;exact f
   | ok ds S3 =>
    rw[u] at f;intro w H3 xs z A B C ps E;exact f w H3 (x::y::xs) z A B ⟨x,_,rfl,rx.mono (p.trans z) (q.trans A),y,_,rfl,ry.mono z A,C⟩ ((x,y)::ps) (by rw[E];rfl)
theorem Br:∀ {xs:List M.D}{ps:List (V×V)}{c kvs:List (M.D×M.D)}{ks:List (Key×V)},M.XJ xs c=some kvs->zU K l H xs (uD ps)->DR K l H c ks ->
  ∃ f:List (Key×V),ps=f.map (λm=>(kV m.1,m.2))/\DR K l H kvs (xQ ks f)/\2 * f.length=xs.length
 | [],ps,c,kvs,ks,e,r,h=>by
  cases e;cases ps with
  | nil=>exact⟨[],rfl,h,rfl⟩
  | cons p ps=>cases r
 | [_],_,_,_,_,e,_,_=>by cases e
 | k::v::xs,ps,c,kvs,ks,e,r,h=>by
  cases ps with
  | nil=>obtain⟨_,_,z,_⟩:=r;cases z
  | cons p ps =>
   obtain⟨y,ys,n,o,E,q,s,t,u⟩:=r;have i:p.1::p.2::uD ps=y::ys:=n;cases i;cases s;have g:(if M.qC k=true then M.XJ xs (M.ym k v c) else none)=some kvs:=e;by_cases j:M.qC k=true
   case neg=>rw[if_neg j] at g;cases g
   rw[if_pos j] at g;obtain⟨w,x,A⟩:=XY j o;obtain⟨f,B,C,G⟩:=Br g u (h.put x t);refine⟨(w,p.2)::f,?_,C,by simp only[zx];lia⟩;rw[jH,<- B,<- A]
theorem w_me_disp {X:Cx}{keys:List (Option zV)} (h:WP X Θ pos keys c m) (f:keys.all (·.isSome)=true:=by rfl) (G:keys.length=c.length:=by rfl) (I:keys≠[]:=by exact List.cons_ne_nil _ _)
  (o:keys.length <= 15:=by decide):WE X Θ (.Dict keys c pos) (M.Vu m):=by
 delta WE WP at h ⊢
 obtain⟨J,L,N⟩:=h;refine (lq L f G I o).imp λσ H Q ⟨q,g,S,st,x,h⟩ p n=>?_;have r:zY X.K Θ (q++[p]) (S++[.dct []]) (upd H p (.dK [])):=x.alloc n ⟨[],qp,.nil⟩;refine N (st.mono (Zo _ _) (Le.new n _)) r ?_;have h':zG X.K Θ (zO X.K) q H ((m g (S++[.dct []])).bind λxs y=>match y[S.length]? with
  | some (.dct [])=>(match M.XJ xs [] with
   | some kvs=>if kvs.length <= 15/\xs.length <= 30 then .ok (.ref S.length) (y.set S.length (.dct kvs)) else .no
   | none=>.no)
  | _=>.no) Q:=h
 cases t:m g (S++[.dct []]) with
 | no=>rw[t] at h';exact h'.elim
 | exc a s=>rw[t] at h';exact yw.weak (show yw X.K Θ q H a s from h') (Zo _ _) (Le.new n _)
 | ok xs S1 =>
  rw[t,M.R.bind_ok] at h';intro i A ys B U j u ps v;subst v;have e:i[S.length]? = some p:=kh B (by rw[<- x.len];simp);split at h'
  ·rename_i Y;split at h'
   ·rename_i kvs hk;by_cases C:kvs.length <= 15/\xs.length <= 30
    case neg=>rw[if_neg C] at h';exact h'.elim
    rw[if_pos C] at h';obtain⟨ks0,E,r0⟩:=Q2 j e Y;cases r0;obtain⟨l,g1,g2,g3⟩:=Br hk u .nil;refine⟨E,l,g1,by lia,?_⟩;have w:Mut (A p):=by rw[E];trivial
    have le:Le H (upd A p (.dK (xQ [] l))):=((Le.new n _).trans U).trans (Le.put w _);exact h' i _ _ ((Zo _ _).trans B) le (j.put e w ⟨_,qp,Paired.mapP g2 λa b z=>⟨z.1,z.2.mono (jg _) (Le.put w _)⟩⟩) ⟨p,rfl,e⟩
   ·exact h'.elim
  ·exact h'.elim
end
end L2
namespace L2
open PySem PySem.Spec PyProof.Rows
section
variable {K:PySem.W.Frag}{Θ:Tab}
theorem AE (a:M.T):∀ (n:Nat) (c:Array Nat),(z9 n a.toArray).foldl (· ++ ·) c=c++((z9 n a).flatten).toArray
 | 0,c=>by simp
 | n+1,c=>by
  rw[Q5,Qf,AE a n,Q5,Q8];simp
theorem fQ (a:M.T) (n:Int) (h:0 <= n):vj (ofT a) n=ofT (z9 n.toNat a).flatten:=by
 unfold vj;by_cases f:n < 1
 ·have e:n.toNat=0:=by lia
  rw[if_pos f,e];rfl
 ·rw[if_neg f];by_cases c:(n == 1 || (ofT a).length == 0)=true
  ·rw[if_pos c];rw[VU] at c;rcases c with c | c
   ·have e:n=1:=eq_of_beq c;subst e;simp
   ·have e:a.length=0:=by rw[<- qL];exact eq_of_beq c
    have g:a=[]:=List.length_eq_zero_iff.mp e;subst g;simp[ofT]
  ·rw[if_neg c];have:=AE a n.toNat #[];show (⟨(z9 n.toNat a.toArray).foldl (· ++ ·) #[]⟩:Str)=_;rw[this];simp[ofT]
theorem MU (a:M.T) (n:Int) (f:0 <= n) (g:n <= 1000000) (c:a.length * n.toNat <= 1000000):MulOk (ofT a) n:=by
 refine⟨?_,λe _=>?_,λe _=>?_⟩
 ·rw[Bool.or_eq_false_iff];exact⟨decide_eq_false (by lia),decide_eq_false (by lia)⟩
 ·rw[qL];have h:1 <= n.toNat:=by lia
  have ha:a.length <= 1000000:=jM (Nat.le_mul_of_pos_right _ (by lia)) c;have hd:(1000000:Int) <= (2 ^ 63 - 1) / n:=Int.le_ediv_of_mul_le (by lia) (by lia)
  lia
 ·rw[qL];unfold NN;exact decide_eq_false (by rw[Z8];lia)
def BR:R2:=λx y H Q=>aU x y H Q\/dP x y H Q
theorem Fo {X:Cx}:OpR X (qy .Mult) BR:=OpR.or fI md
theorem zU.flat {ds:List M.D} (h:zU K c H ds xs):∀ n:Nat,zU K c H (z9 n ds).flatten (z9 n xs).flatten
 | 0=>rfl
 | n+1=>by
  rw[Q5,Q5,Q8,Q8];exact zU.app h (zU.flat h n)
theorem gR:Ad2 K Θ M.qe BR:=by
 intro m H S x y X Y Q g rx ry h;cases x with
 | int i =>
  cases y with
  | int j =>
   cases rx;cases ry;have h':zG K Θ (zO K) m H (if (M.qK i || M.qK j)=true then M.R.ok (M.D.int (i * j)) S else .no) Q:=h;by_cases e:(M.qK i || M.qK j)=true
   ·rw[if_pos e] at h';refine .inl ⟨?_,zG.here (b:=V.int (i * j)) h' g rfl⟩;rw[VU] at e;rcases e with e | e
    ·exact .inl (bj e)
    ·exact .inr (bj e)
   ·rw[if_neg e] at h';exact h'.elim
  | _=>exact h.elim
 | str a =>
  cases y with
  | int n =>
   obtain⟨rfl,s⟩:=rx;cases ry;have h':zG K Θ (zO K) m H (if 0 <= n/\n.natAbs <= 1000000/\a.length * n.natAbs <= 1000000 then M.R.ok (M.D.str (z9 n.toNat a).flatten) S else .no) Q:=h;by_cases e:0 <= n/\n.natAbs <= 1000000/\a.length * n.natAbs <= 1000000
   ·rw[if_pos e] at h';have t:n.natAbs=n.toNat:=by lia
    refine .inl ⟨MU a n e.1 (by lia) (by rw[<- t];exact e.2.2),?_⟩;show Q (.str (vj (ofT a) n)) H;rw[fQ a n e.1];refine zG.here h' g ⟨rfl,kW s λc e=>?_⟩;obtain⟨l,u,f⟩:=List.mem_flatten.mp e;rw[(List.mem_replicate.mp u).2] at f;exact f
   ·rw[if_neg e] at h';exact h'.elim
  | _=>exact h.elim
 | ref p =>
  cases y with
  | int n =>
   cases ry;have h':zG K Θ (zO K) m H (match M.zy S p with | some xs=>if n.natAbs <= 1000/\xs.length * n.natAbs <= 1000000 then M.alloc (.lst (z9 n.toNat xs).flatten) S else .no | none=>.no) Q:=h;cases q:S[p]? with
   | none=>simp only[M.zy,q] at h';exact h'.elim
   | some o =>
    cases o with
    | lst ds =>
     simp only[M.zy,q] at h';obtain⟨a,rfl,ea⟩:=rx;obtain⟨v,w,r⟩:=Zc g ea q;by_cases e:n.natAbs <= 1000/\ds.length * n.natAbs <= 1000000
     ·rw[if_pos e] at h';have t:n.toNat <= n.natAbs:=by lia
      refine .inr ⟨a,n,v,rfl,rfl,w,by lia,by lia,?_,λp z=>zG.alloc h' g (zU.flat r n.toNat) z⟩;have hm:=mM ds.length t;rw[<- r.length,Z8]
      lia
     ·rw[if_neg e] at h';exact h'.elim
    | dct _=>simp only[M.zy,q] at h';exact h'.elim
    | fdc _=>simp only[M.zy,q] at h';exact h'.elim
    | dtt _=>simp only[M.zy,q] at h';exact h'.elim
    | ftt _=>simp only[M.zy,q] at h';exact h'.elim
    | ins _ _=>simp only[M.zy,q] at h';exact h'.elim
  | _=>exact h.elim
 | _=>exact h.elim
def aL (K:PySem.W.Frag):R2:=λx y H Q=>uIx K x y H Q\/∃ a v,x=.ref a/\QE H a y (some v)/\Q v H
theorem x9 {X:Cx}{k:Nat} (j:z4 k X.A):IxR X (aL X.K):=by
 refine IxR.or iB ?_;intro c e i s σ H x y v u Q I rx ry h hs;obtain⟨a,l,rfl,g,q⟩:=h;cases rx;exact vo (eA I g) PySem.F.slot_dict_getitem.lookup (HL (UU j) I g ry λn o m f=>⟨l,H,m,f,q⟩) hs
noncomputable def bZ (K:PySem.W.Frag):List V->Hp->VK->Prop:=λxs H Q=>B4 K xs H Q\/∃ a kvs,xs=[V.ref a]/\H a=some (.dK kvs)/\Q (.int kvs.length) H
theorem uh {X:Cx}:jq X (.builtin "len") (bZ X.K):=jq.or EY Ip
theorem Xi:Ad2 K Θ M.zI (aL K):=by
 intro w H S x y X Y Q g rx ry h;cases x with
 | str a =>
  cases y with
  | int i =>
   obtain⟨rfl,z⟩:=rx;cases ry;have h':zG K Θ (zO K) w H (if a.length <= M.SZ then (match M.atI a i with | some c=>M.R.ok (M.D.str [c]) S | none=>.no) else .no) Q:=h;by_cases A:a.length <= M.SZ
   ·rw[if_pos A] at h';cases q:M.atI a i with
    | none=>rw[q] at h';exact h'.elim
    | some c =>
     rw[q] at h';refine .inl ⟨c,by rw[qL,<- yr];exact A,?_,zG.here (b:=V.str (ofT [c])) h' g ⟨rfl,kW z λd hd=>by
      have e:d=c:=by simpa using hd
      rw[e];unfold M.atI at q;cases E:M.ixN a.length i with
      | none=>rw[E] at q;cases q
      | some j=>rw[E] at q;exact y9 q⟩⟩
     rw[ZP];exact q
   ·rw[if_neg A] at h';exact h'.elim
  | _=>exact h.elim
 | tup ds =>
  cases y with
  | int i =>
   obtain⟨l,xs,rfl,B,r⟩:=rx;cases ry;have h':zG K Θ (zO K) w H (match M.atI ds i with | some d=>M.R.ok d S | none=>.no) Q:=h;cases q:M.atI ds i with
   | none=>rw[q] at h';exact h'.elim
   | some d =>
    rw[q] at h';obtain⟨v,m,n⟩:=wo r q;exact .inl ⟨xs,v,.inr B,m,zG.here h' g n⟩
  | _=>exact h.elim
 | ro ds =>
  cases y with
  | int i =>
   obtain⟨l,xs,rfl,B,r⟩:=rx;cases ry;have h':zG K Θ (zO K) w H (match M.atI ds i with | some d=>M.R.ok d S | none=>.no) Q:=h;cases q:M.atI ds i with
   | none=>rw[q] at h';exact h'.elim
   | some d =>
    rw[q] at h';obtain⟨v,m,n⟩:=wo r q;exact .inl ⟨xs,v,.inl B.sq,m,zG.here h' g n⟩
  | _=>exact h.elim
 | ref p =>
  obtain⟨a,rfl,ea⟩:=rx;cases q:S[p]? with
  | none=>simp[M.zI,q] at h;exact h.elim
  | some o =>
   cases o with
   | lst xs =>
    cases y with
    | int i =>
     cases ry;obtain⟨G,m,r⟩:=Zc g ea q;cases f:M.atI xs i with
     | none=>simp[M.zI,q,f] at h;exact h.elim
     | some d =>
      simp[M.zI,q,f] at h;obtain⟨v,t,n⟩:=wo r f;exact .inl ⟨G,v,.inl (SqL.of m),t,zG.here h g n⟩
    | _=>simp[M.zI,q] at h;exact h.elim
   | dct kvs =>
    by_cases s:M.qC y=true
    case neg=>simp[M.zI,q,s] at h;exact h.elim
    obtain⟨ks,m,r⟩:=Q2 g ea q;obtain⟨k,C,rfl⟩:=XY s ry;have u:=r.val C;cases f:M.qM y kvs with
    | none=>simp[M.zI,q,s,f] at h;exact h.elim
    | some d =>
     simp[M.zI,q,s,f] at h;rw[f] at u;obtain⟨v,t,n⟩:=u;refine .inr ⟨a,v,rfl,?_,zG.here h g n⟩;rw[<- t];exact QE.k m
   | dtt _=>simp[M.zI,q] at h;exact h.elim
   | ftt _=>simp[M.zI,q] at h;exact h.elim
   | fdc kvs =>
    by_cases s:M.qC y=true
    case neg=>simp[M.zI,q,s] at h;exact h.elim
    obtain⟨I,ks,m,r⟩:=AZ g ea q;obtain⟨k,C,rfl⟩:=XY s ry;have u:=r.val C;cases f:M.qM y kvs with
    | none=>simp[M.zI,q,s,f] at h;exact h.elim
    | some d =>
     simp[M.zI,q,s,f] at h;rw[f] at u;obtain⟨v,t,n⟩:=u;refine .inr ⟨a,v,rfl,?_,zG.here h g n⟩;rw[<- t];exact (.inl ⟨ks,k,.inr ⟨I,m⟩,rfl,rfl⟩)
   | ins c fs=>simp[M.zI,q] at h;exact h.elim
 | _=>exact h.elim
theorem ue:AdN K Θ M.jX (bZ K):=by
 intro j H S xs n Q e rx h
 match xs,rx,h with
 | [.str a],rx,h =>
  obtain⟨_,_,rfl,⟨rfl,_⟩,rfl⟩:=rx;have h':zG K Θ (zO K) j H (if a.length <= M.SZ then M.R.ok (M.D.int a.length) S else .no) Q:=h;by_cases f:a.length <= M.SZ
  ·rw[if_pos f] at h';refine .inl ⟨by rw[qL,<- yr];exact f,?_⟩;rw[qL];exact zG.here (b:=V.int a.length) h' e rfl
  ·rw[if_neg f] at h';exact h'.elim
 | [.tup ds],rx,h =>
  obtain⟨_,_,rfl,⟨l,ys,rfl,g,r⟩,rfl⟩:=rx;exact .inl ⟨ys,.inr g,by rw[<- r.length];exact zG.here (b:=V.int ds.length) h e rfl⟩
 | [.ro ds],rx,h =>
  obtain⟨_,_,rfl,⟨l,ys,rfl,g,r⟩,rfl⟩:=rx;exact .inl ⟨ys,.inl g.sq,by rw[<- r.length];exact zG.here (b:=V.int ds.length) h e rfl⟩
 | [.ref p],rx,h =>
  obtain⟨_,_,rfl,⟨a,rfl,ea⟩,rfl⟩:=rx;cases q:S[p]? with
  | none=>simp[M.jX,q] at h;exact h.elim
  | some o =>
   cases o with
   | lst xs =>
    simp[M.jX,q] at h;obtain⟨m,i,r⟩:=Zc e ea q;exact .inl ⟨m,.inl (SqL.of i),by rw[<- r.length];exact zG.here (b:=V.int xs.length) h e rfl⟩
   | dct kvs =>
    simp[M.jX,q] at h;obtain⟨ks,i,r⟩:=Q2 e ea q;exact .inr ⟨a,ks,rfl,i,by rw[<- Paired.length r];exact zG.here (b:=V.int kvs.length) h e rfl⟩
   | fdc _=>simp[M.jX,q] at h;exact h.elim
   | dtt _=>simp[M.jX,q] at h;exact h.elim
   | ftt _=>simp[M.jX,q] at h;exact h.elim
   | ins c fs=>simp[M.jX,q] at h;exact h.elim
 | [.non],_,h=>exact h.elim
 | [.bl _],_,h=>exact h.elim
 | [.int _],_,h=>exact h.elim
 | [.ty _],_,h=>exact h.elim
 | [],_,h=>exact h.elim
 | a::_::_,_,h=>cases a<;>exact h.elim
def Ko (K:PySem.W.Frag) (neg:Bool):R2:=λx y H Q=>uIn K neg x y H Q\/∃ a o,y=.ref a/\QE H a x o/\Q (.bl (xor neg o.isSome)) H
theorem uJ {X:Cx}{k:Nat} (e:z4 k X.A):OpR X (jY .In) (Ko X.K false):=by
 refine OpR.or Fn ?_;intro c s σ H x y v u Q I rx ry h;obtain⟨a,o,rfl,g,q⟩:=h;cases ry;exact MR (UU e) I g rx λi f=>⟨.bl o.isSome,H,f,rfl,by rw[UK] at q;exact q⟩
theorem Ap {X:Cx}{k:Nat} (e:z4 k X.A):OpR X (jY .NotIn) (Ko X.K true):=by
 refine OpR.or nR ?_;intro c s σ H x y v u Q I rx ry h;obtain⟨a,o,rfl,g,q⟩:=h;cases ry;exact MY (UU e) I g rx λi f=>⟨.bl (!o.isSome),H,f,rfl,by rw[u2] at q;exact q⟩
theorem ah {d:M.D} (r:zO K c H d v):yO v=M.flat d:=by
 cases d with
 | non=>cases r;rfl
 | bl _=>cases r;rfl
 | int _=>cases r;rfl
 | str _=>obtain⟨rfl,_⟩:=r;rfl
 | ty _=>cases r;rfl
 | ref _=>obtain⟨_,rfl,_⟩:=r;rfl
 | tup _=>obtain⟨_,_,rfl,_⟩:=r;rfl
 | ro _=>obtain⟨_,_,rfl,_⟩:=r;rfl
theorem Mt {d:M.D} (r:zO K c H d v) (q:zO K c H e u):eqV v u=M.eqF d e:=by
 cases d with
 | non =>
  cases r;cases e with
  | str _=>obtain⟨rfl,_⟩:=q;rfl
  | ref _=>obtain⟨_,rfl,_⟩:=q;rfl
  | tup _=>obtain⟨_,_,rfl,_⟩:=q;rfl
  | ro _=>obtain⟨_,_,rfl,_⟩:=q;rfl
  | _=>cases q;rfl
 | bl _ =>
  cases r;cases e with
  | str _=>obtain⟨rfl,_⟩:=q;rfl
  | ref _=>obtain⟨_,rfl,_⟩:=q;rfl
  | tup _=>obtain⟨_,_,rfl,_⟩:=q;rfl
  | ro _=>obtain⟨_,_,rfl,_⟩:=q;rfl
  | _=>cases q;rfl
 | int _ =>
  cases r;cases e with
  | str _=>obtain⟨rfl,_⟩:=q;rfl
  | ref _=>obtain⟨_,rfl,_⟩:=q;rfl
  | tup _=>obtain⟨_,_,rfl,_⟩:=q;rfl
  | ro _=>obtain⟨_,_,rfl,_⟩:=q;rfl
  | _=>cases q;rfl
 | str x =>
  obtain⟨rfl,_⟩:=r;cases e with
  | str y=>obtain⟨rfl,_⟩:=q;exact cQ x y
  | ref _=>obtain⟨_,rfl,_⟩:=q;rfl
  | tup _=>obtain⟨_,_,rfl,_⟩:=q;rfl
  | ro _=>obtain⟨_,_,rfl,_⟩:=q;rfl
  | _=>cases q;rfl
 | ty _=>cases r;rfl
 | ref _=>obtain⟨_,rfl,_⟩:=r;rfl
 | tup _=>obtain⟨_,_,rfl,_⟩:=r;rfl
 | ro _=>obtain⟨_,_,rfl,_⟩:=r;rfl
theorem A6:∀ {ds:List M.D}{xs:List V},zU K g H ds xs->xs.all yO=ds.all M.flat
 | [],_,r=>by cases r;rfl
 | _::_,_,⟨y,ys,e,c,f⟩=>by subst e;rw[JE,JE,ah c,A6 f]
theorem Bf (rx:zO K c H x v):∀ {ds:List M.D}{xs:List V},zU K c H ds xs->inV v xs=M.y2 x ds
 | [],_,r=>by cases r;rfl
 | _::_,_,⟨y,ys,e,f,g⟩=>by
  subst e;unfold inV M.y2;rw[QR,QR,Mt f rx];have:=Bf rx g;unfold inV M.y2 at this;rw[this]
theorem U9 (a:M.T):∀ b:M.T,M.QV a b=true ↔ ∃ i,i+a.length <= b.length/\(b.drop i).take a.length=a
 | []=>by
  simp only[M.QV,List.isEmpty_iff];constructor
  ·rintro rfl;exact⟨0,by simp,by simp⟩
  ·rintro ⟨i,h,e⟩
   simp at h;exact h.2
 | c::r=>by
  simp only[M.QV,VU,U9 a r];constructor
  ·rintro (h | ⟨i,h,e⟩)
   ·have:=List.isPrefixOf_iff_prefix.mp h;exact⟨0,by simpa using this.length_le,by simpa using (List.prefix_iff_eq_take.mp this).symm⟩
   ·exact⟨i+1,by simp;lia,by simpa using e⟩
  ·rintro ⟨i,h,e⟩
   cases i with
   | zero=>left;exact List.isPrefixOf_iff_prefix.mpr (List.prefix_iff_eq_take.mpr (by simpa using e.symm))
   | succ i=>right;exact⟨i,by simp at h;lia,by simpa using e⟩
theorem wF (a b:M.T) (i:Nat):A7 (ofT b) (ofT a) (ofT b).length i↔(i+a.length <= b.length/\(b.drop i).take a.length=a):=by
 unfold A7 nv;rw[qL,qL];refine and_congr_right λ_=>?_;rw[beq_iff_eq];constructor
 ·intro h;have:=congrArg bK h;simpa [ofT,vc] using this
 ·intro h;apply Array.ext';simpa [ofT,vc] using h
theorem nM (a b:M.T):(!(xk (ofT b) (ofT a) 0 (ofT b).length 1).isEmpty)=M.QV a b:=by
 rcases G7 (ofT b) (ofT a) 1 (by decide) with ⟨e,h⟩ | ⟨i,r,e,h,_⟩
 ·rw[e];have:¬ M.QV a b=true:=λq=>by
   obtain⟨i,q⟩:=(U9 a b).mp q;exact h i ((wF a b i).mpr q)
  simpa using this
 ·rw[e];have:=(U9 a b).mpr ⟨i,(wF a b i).mp h⟩;simp[this]
theorem cn {neg:Bool}{S:M.S}{y:M.D}{Q:VK} (f:zY K Θ m S H) (rx:zO K m H x n) (ry:zO K m H y Y) (h:zG K Θ rB m H (M.inD x y S) (λb z=>Q (.bl (xor neg b)) z)):Ko K neg n Y H Q:=by
 have seq:∀ {ds:List M.D}{xs:List V}{a:zE},(SqL K H a xs\/SqT K H a xs)->zU K m H ds xs->zG K Θ rB m H (if (M.flat x && ds.all M.flat)=true then M.R.ok (M.y2 x ds) S else .no) (λb z=>Q (.bl (xor neg b)) z)->uIn K neg n (.ref a) H Q:=λ{ds xs a} s r h'=>by
  by_cases t:(M.flat x && ds.all M.flat)=true
  ·rw[if_pos t] at h';rw[j8,<- ah rx,<- A6 r] at t;have:=zG.here (b:=M.y2 x ds) h' f rfl;rw[<- Bf rx r] at this;have g:∃ xs,(SqL K H a xs\/SqT K H a xs)/\yO n=true/\xs.all yO=true/\Q (.bl (xor neg (inV n xs))) H:=⟨xs,s,t.1,t.2,this⟩
   cases n<;>exact g
  ·rw[if_neg t] at h';exact h'.elim
 cases y with
 | str b =>
  cases x with
  | str a =>
   obtain⟨rfl,_⟩:=rx;obtain⟨rfl,_⟩:=ry;refine .inl ?_;show Q (.bl (xor neg (!(xk (ofT b) (ofT a) 0 (ofT b).length 1).isEmpty))) H;rw[nM];exact zG.here (b:=M.QV a b) h f rfl
  | _=>exact h.elim
 | tup ds =>
  obtain⟨l,xs,rfl,s,r⟩:=ry;exact .inl (seq (.inr s) r h)
 | ro ds =>
  obtain⟨l,xs,rfl,s,r⟩:=ry;exact .inl (seq (.inl s.sq) r h)
 | ref p =>
  obtain⟨a,rfl,ea⟩:=ry;cases q:S[p]? with
  | none=>simp[M.inD,q] at h;exact h.elim
  | some o =>
   cases o with
   | lst ds =>
    obtain⟨C,u,r⟩:=Zc f ea q;refine .inl (seq (.inl (SqL.of u)) r ?_);simp only[M.inD,q] at h;exact h
   | dct kvs =>
    by_cases i:M.qC x=true
    case neg=>simp[M.inD,q,i] at h;exact h.elim
    simp only[M.inD,q,if_pos i] at h;obtain⟨ks,u,r⟩:=Q2 f ea q;obtain⟨k,A,rfl⟩:=XY i rx;have e:=r.val A;refine .inr ⟨a,q8 ks k,rfl,QE.k u,?_⟩;have j:(q8 ks k).isSome=(M.qM x kvs).isSome:=by
     cases w:M.qM x kvs with
     | none=>rw[w] at e;rw[e];rfl
     | some d=>rw[w] at e;obtain⟨v,j,_⟩:=e;rw[j];rfl
    rw[j];exact zG.here (b:=(M.qM x kvs).isSome) h f rfl
   | dtt _=>simp[M.inD,q] at h;exact h.elim
   | ftt _=>simp[M.inD,q] at h;exact h.elim
   | fdc kvs =>
    by_cases i:M.qC x=true
    case neg=>simp[M.inD,q,i] at h;exact h.elim
    simp only[M.inD,q,if_pos i] at h;obtain⟨B,ks,u,r⟩:=AZ f ea q;obtain⟨k,A,rfl⟩:=XY i rx;have e:=r.val A;refine .inr ⟨a,q8 ks k,rfl,(.inl ⟨ks,k,.inr ⟨B,u⟩,rfl,rfl⟩),?_⟩;have j:(q8 ks k).isSome=(M.qM x kvs).isSome:=by
     cases w:M.qM x kvs with
     | none=>rw[w] at e;rw[e];rfl
     | some d=>rw[w] at e;obtain⟨v,j,_⟩:=e;rw[j];rfl
    rw[j];exact zG.here (b:=(M.qM x kvs).isSome) h f rfl
   | ins c fs=>simp[M.inD,q] at h;exact h.elim
 | _=>exact h.elim
theorem UW:AdC K Θ M.cIn (Ko K false):=by
 intro g H S x y n Y Q i rx ry h;refine cn i rx ry ?_;have h':zG K Θ rB g H (M.inD x y S) (λb j=>Q (.bl b) j):=h;revert h';cases M.inD x y S with
 | ok b s=>exact λh' c m o p l f e=>by cases e;rw[UK];exact h' c m b p l f rfl
 | exc e s=>exact λh'=>h'
 | no=>exact λh'=>h'
theorem aS:AdC K Θ M.Ql (Ko K true):=by
 intro j H S x y l Y Q f rx ry h;exact cn f rx ry (zG.bind h λg m b n o p q c e i=>by cases e;rw[u2];exact zG.here (b:=!b) i c rfl)
theorem w_me_globT {X:Cx}{pos:Pos}{a:zE}{d:M.D} (h:Zv X.mg x (.ref a)) (c:Gl X x) (r:∀ e H,zO X.K e H d (.ref a)) (hd:(x == ("__debug__" : Str))=false:=by decide):WE X Θ (.Name x pos) (M.eC d):=by
 delta WE at ⊢
 exact xl (dR h c hd) r
theorem w_mt_ofw {X:Cx} (h:WW X Θ e m):WT X Θ e m:=by
 delta WT WW at h ⊢
 exact PW.pt h
theorem bb {X:Cx}:Zj X [] (RdT X.K Θ M.jU):=λc s σ H Q I ⟨g,e,S,st,f,h⟩=>Ht c s σ H Q I (zG.here (b:=true) h f rfl)
theorem ey {X:Cx} (h:WT X Θ c t):Zj X [c] (RdT X.K Θ t):=HP (by with_unfolding_all exact h)
theorem CZ:∀ ns:List Int,zU K c H (ns.map .int) (ns.map V.int)
 | []=>rfl
 | n::ns=>⟨_,_,rfl,rfl,CZ ns⟩
theorem E8 {f:M.F} (c:∀ ns:List Int,ns.length <= 63->∃ s,f [.ro (ns.map .int)] []=.ok (.bl true) s) {a:zE}{ns:List Int} (g:ns.length <= 63) (j:va H) (l:SqL K H a (ns.map V.int)):SpM K Θ 1 f [.ref a] H (λv _=>v=.bl true) E:=by
 obtain⟨s,e⟩:=c ns g;refine⟨[],[.ro (ns.map .int)],[],rfl,⟨_,_,rfl,⟨a,ns.map V.int,rfl,?_,CZ ns⟩,rfl⟩,⟨rfl,cZ,λi o q=>by simp at q⟩,?_⟩
 ·rcases l with (h | h) | h
  ·rcases j a with z | ⟨o,xs,z⟩
   ·rw[h] at z;cases z
   ·rw[h] at z;cases z
  ·exact .inl h
  ·exact .inr h
 ·rw[e];exact λm n b _ _ _ r=>r
end
section
variable {P:jB}{w:jG}{K:PySem.W.Frag}{mg:Str->Option zD}{base:zi}{Θ:Tab}
theorem nr {st:zf}{k:Nat}{b:M.SM} (F:Fun K x qual st f fd) (n:Qu N ps (jl st))
  (g:∀ (c:zD) (A:jc) (outer:List Env) (s:zJ) (H:Hp) (E:XK),z4 k (A.deeper (y8 qual (jl st) s.heap.objs.size f c)) ->
   MSs (Ze CX0 P w K mg base N qual (jl st) f c A outer s H E).nox Θ (yP st) b):zm P w K mg base CX0 (k+1) f fd ps (SpM K Θ ps.length (M.fn N.length b)):=by
 refine F.ok (k:=k) n (λvs H Q E h=>?_) (λc A outer s H vs Q E o h=>?_)
 ·obtain⟨i,ds,S,m,r,_⟩:=h;rw[<- r.length,m]
 ·obtain⟨i,ds,S,m,r,p,h⟩:=h;refine⟨_,g c A outer s H E o,i,_,S,DQ r N,p,?_⟩;have h':zG K Θ (zO K) i H (b (ds.map some++z9 (N.length - ds.length) none) S).out Q:=h;show z8 K Θ i H (b (ds.map some++z9 (N.length - ds.length) none) S) _;revert h';cases b (ds.map some++z9 (N.length - ds.length) none) S with
  | rt a s=>exact λh'=>h'
  | nx a s=>exact λh' j q t u v l _=>h' j q .non u v l rfl
  | bk a s=>exact λh'=>h'.elim
  | ct a s=>exact λh'=>h'.elim
  | exc e a s=>exact λh'=>h'
  | no=>exact λh'=>h'
theorem w_fun_M0 {st:zf}{k:Nat}{b:M.SM} (F:Fun K x qual st f fd) (g:Qu N ps (jl st))
  (c:∀ (e:zD) (A:jc) (outer:List Env) (s:zJ) (H:Hp) (E:XK),z4 k (A.deeper (y8 qual (jl st) s.heap.objs.size f e)) ->
   WSs (Ze CX0 P w K mg base N qual (jl st) f e A outer s H E).nox Θ (yP st) b):zm P w K mg base CX0 (k+1) f fd ps (SpM K Θ ps.length (M.fn N.length b)):=by with_unfolding_all exact nr (x:=x) (qual:=qual) (st:=st) (f:=f) (fd:=fd) (N:=N) (ps:=ps) (k:=k) (b:=b) F g c
end
theorem Mw:qk "sorted" = some (.builtin "sorted"):=by decide +kernel
theorem E2:qk "min" = some (.builtin "min"):=by decide +kernel
theorem Lc:qk "max" = some (.builtin "max"):=by decide +kernel
end L2
namespace L2
open PySem PySem.Spec PyProof.Rows PySem.Builtin.Str
section
variable {K:PySem.W.Frag}{Θ:Tab}
theorem uL (c:Nat):∀ l:M.T,M.jE c l=TX.qY c l
 | []=>rfl
 | d::r=>by
  unfold M.jE TX.qY;rw[uL c r];rfl
theorem AK (c:Nat):∀ (l p:List Nat),p∈TX.qY c l->∀ x∈p,x∈l
 | [],p,e,x,f=>by
  simp only[TX.qY,eJ,List.not_mem_nil,or_false] at e;subst e;exact absurd f (by simp)
 | d::r,p,e,x,f=>by
  have g:=AK c r;unfold TX.qY at e;split at e
  ·rcases List.mem_cons.mp e with rfl | e
   ·cases f
   ·exact jh _ (g p e x f)
  ·cases q:TX.qY c r with
   | nil=>exact absurd q (TX.ni c r)
   | cons a as =>
    rw[q] at e g;rcases List.mem_cons.mp e with rfl | e
    ·rcases List.mem_cons.mp f with rfl | f
     ·exact qa
     ·exact jh _ (g a qa x f)
    ·exact jh _ (g p (jh _ e) x f)
theorem Ul:∀ (ts:List M.T),(∀ t∈ts,okT t)->zU K e H (ts.map .str) ((ts.map ofT).map V.str)
 | [],_=>rfl
 | t::ts,h=>⟨_,_,rfl,⟨rfl,h t qa⟩,Ul ts λx c=>h x (jh _ c)⟩
theorem nS:AdM K Θ M.J3 dz:=by
 intro n H S x xs X o Q i rx e h;unfold M.J3 at h;split at h
 ·rename_i z c;obtain⟨rfl,f⟩:=rx;obtain⟨Y,r,rfl,⟨rfl,j⟩,rfl⟩:=e;split at h
  ·rename_i l;refine⟨ofT z,ofT [c],rfl,rfl,rfl,by rw[qL,<- yr];exact l,λp m=>?_⟩;rw[show ofT [c]=⟨#[c]⟩ from rfl,TX.mP,ZP,<- uL];refine h.alloc i (Ul (M.jE c z) λt g=>kW f λd hd=>?_) m;rw[uL] at g;exact AK c z t g d hd
  ·exact h.elim
 ·exact h.elim
theorem WK (c:Nat) (b:M.T) (i:Nat):A7 (ofT b) (ofT [c]) (ofT b).length i↔b[i]? = some c:=by
 rw[wF];constructor
 ·rintro ⟨h,e⟩
  have:((b.drop i).take [c].length)[0]? = some c:=by rw[e];rfl
  simpa using this
 ·intro h;obtain⟨f,e⟩:=List.getElem?_eq_some_iff.mp h;refine⟨by simp only[zx,jw];lia,?_⟩;rw[kX f,e];rfl
theorem JL {S:M.S}{p:Nat}{X:V}{ds:List M.D} (g:zY K Θ c S H) (rx:zO K c H (.ref p) X) (e:S[p]? = some (.lst ds)):∃ a xs,X=.ref a/\c[p]? = some a/\H a=some (.lst xs)/\zU K c H ds xs:=by
 obtain⟨a,rfl,ha⟩:=rx;obtain⟨b,f,xs,h,r⟩:=g.obj p _ e;rw[ha] at f;cases f;exact⟨a,xs,rfl,ha,h,r⟩
theorem kZ {H:Hp}{a:zE}{xs:List V} (h:H a=some (.lst xs)):Mut (H a):=by rw[h];trivial
theorem AO:AdM K Θ M.q0 AJ:=by
 intro l H S x xs X n Q g rx c h;unfold M.q0 at h;split at h
 ·rename_i p y;obtain⟨Y,r,rfl,ry,rfl⟩:=c;split at h
  ·rename_i ds e;obtain⟨a,i,rfl,ha,f,j⟩:=JL g rx e;split at h
   ·rename_i m;have le:=Le.put (kZ f) (.lst (i++[Y]));refine⟨a,i,Y,rfl,rfl,f,by rw[<- yr,<- j.length];exact m,?_⟩;exact h l _ _ (jg _) le (g.put ha (kZ f) ⟨_,qp,(j.mono (jg _) le).app ⟨_,_,rfl,ry.mono (jg _) le,rfl⟩⟩) rfl
   ·exact h.elim
  ·exact h.elim
 ·exact h.elim
theorem MZ:AdM K Θ M.qZ Bb:=by
 intro m H S x xs X o Q i rx c h;unfold M.qZ at h;split at h
 ·rename_i p;cases c;split at h
  ·rename_i ds e;obtain⟨a,j,rfl,ha,f,g⟩:=JL i rx e;split at h
   ·rename_i y l;rw[List.getLast?_eq_getElem?] at l;obtain⟨Y,n,ry⟩:=g.get l;have le:=Le.put (kZ f) (.lst j.dropLast);exact⟨a,j,Y,rfl,rfl,f,by rw[<- g.length];exact n,h m _ _ (jg _) le (i.put ha (kZ f) ⟨_,qp,g.dropLast.mono (jg _) le⟩) (ry.mono (jg _) le)⟩
   ·exact h.elim
  ·exact h.elim
 ·exact h.elim
end
end L2
namespace L2
open PySem PySem.Spec PyProof.Rows PySem.Builtin.Str
section
variable {K:PySem.W.Frag}{Θ:Tab}
theorem Ew (x:M.T) (a b:Nat):YL (ofT x) (ofT [a]) (ofT [b])=ofT (x.map λc=>if c=a then b else c):=by
 have h:=TX.Hd (ofT x) a b;have e:∀ s:Str,s=ofT s.cps.toList:=λs=>by cases s;simp[ofT]
 rw[e (YL (ofT x) (ofT [a]) (ofT [b]))];show ofT (YL (ofT x) ⟨#[a]⟩ ⟨#[b]⟩).cps.toList=_;rw[h,ZP]
theorem FL {X:Cx}{to:TE}{y z:Str}{j k:Nat}{r w c e:Pos} (B:PE X o to) (l:(y == z)=false) (f:QH o "replace" X.env (zr o X.env)=zr o X.env:=by rfl) (g:(c.endLine == e.line)=true:=by rfl) :
  PE X (.Call (.Attribute o "replace" c) [.Constant (.str y) j r,.Constant (.str z) k w] [] e) (λσ H Q=>to σ H λx m=>∃ a,x=.str a/\a.length+(a.length+1) * z.length <= 16777216/\Q (.str (YL a y z)) m):=by
 intro i s σ H Q I h;refine dC f rfl g rfl (zu (B i s σ H _ I h) λv s1 x m p A ⟨a,ex,C,q⟩=>?_);subst ex;obtain⟨E,G⟩:=V8 (T := "str") p A rfl;obtain⟨t,rfl⟩:=A;refine⟨"str","str.replace",PySem.F.plainAttrs_str,PySem.F.slot_str_replace,PySem.F.type_str_replace,E,G,?_⟩;refine uc rfl (dd ?_);show wpAny _ _ (U1 [(false,zr (.Constant (.str y) j r) X.env),(false,zr (.Constant (.str z) k w) X.env)]) _ _ s1;refine V6 (Ub (V6 (Ub (wJ ?_))));have J:=p.tk;exact yD (n:=1) (show 1 <= s1.toks+1+1 by lia) (SC.replace (u:=s1.toks) (v:=s1.toks+1) (KE J) (Nat.succ_ne_zero _) (je (xg _)) l C λt' k L=>⟨.str _,m,p.tok k L,⟨_,rfl⟩,q⟩)
theorem w_me_repl {X:Cx}{y z:Str}{a b:Nat}{j k:Nat}{E N f g:Pos} (G:WE X Θ o mo) (I:y=ofT [a]) (t:z=ofT [b]) (u:(a == b)=false) (hok:okT [b]) (l:QH o "replace" X.env (zr o X.env)=zr o X.env:=by rfl) (m:(f.endLine == g.line)=true:=by rfl) :
  WE X Θ (.Call (.Attribute o "replace" f) [.Constant (.str y) j E,.Constant (.str z) k N] [] g) (M.eM .str M.K1 mo (M.zB (M.eC (.str [a])) (M.zB (M.eC (.str [b])) M.zC))):=by
 delta WE at G ⊢
 have v:(y == z)=false:=by
  cases q:y == z with
  | false=>rfl
  | true =>
   have e:=eq_of_beq q;rw[I,t] at e;have U:=uC e;cases U;simp at u
 refine (FL G v l m).up λσ H Q Y A S st rp h=>⟨Y,A,S,st,rp,zG.bind h λr J x X1 s E l1 B rx i=>?_⟩
 cases x with
 | str w =>
  obtain⟨rfl,C⟩:=rx;have n:zG X.K Θ (zO X.K) r J (if 2 * w.length+1 <= M.SZ then .ok (.str (w.map λc=>if c=a then b else c)) s else .no) Q:=i;by_cases L:2 * w.length+1 <= M.SZ
  ·rw[if_pos L] at n;refine⟨ofT w,rfl,?_,?_⟩
   ·rw[t,qL,qL];have:M.SZ=16777216:=rfl;simp only[zx,jw]
    lia
   ·rw[I,t,Ew];refine zG.here n B ⟨rfl,List.all_eq_true.mpr λc hc=>?_⟩;obtain⟨d,hd,rfl⟩:=List.mem_map.mp hc;split
    ·exact List.all_eq_true.mp hok b (by simp)
    ·exact List.all_eq_true.mp C d hd
  ·rw[if_neg L] at n;exact n.elim
 | non=>exact i.elim
 | bl _=>exact i.elim
 | int _=>exact i.elim
 | ty _=>exact i.elim
 | tup _=>exact i.elim
 | ro _=>exact i.elim
 | ref p =>
  have n:zG X.K Θ (zO X.K) r J (if M.yf .str (.ref p) s then _ else .no) Q:=i;have e:M.yf .str (.ref p) s=false:=by
   simp only[M.yf];cases s[p]? with
   | none=>rfl
   | some o=>cases o<;>rfl
  rw[e] at n;exact n.elim
theorem FS:AdN K Θ M.vB (λxs H Q=>(∃ i,xs=[.int i]/\Q (.int i) H)\/∃ k,xs=[.bl k]/\Q (.int (if k then 1 else 0)) H):=by
 intro f H S xs g Q e c h;unfold M.vB at h;split at h
 ·obtain⟨Y,r,rfl,ry,rfl⟩:=c;cases ry;exact .inl ⟨_,rfl,zG.here h e rfl⟩
 ·obtain⟨Y,r,rfl,ry,rfl⟩:=c;cases ry;exact .inr ⟨_,rfl,zG.here h e rfl⟩
 ·exact h.elim
end
end L2
namespace L2
open PySem PySem.Spec PyProof.Rows
section
variable {Θ:Tab}
theorem PS.or {X:Cx}{st:zf} (h:PS X st t) (h':PS X st t'):PS X st (λD σ H=>t D σ H\/t' D σ H):=λc s σ H D I q=>by
 rcases q with q | q
 ·exact h c s σ H D I q
 ·exact h' c s σ H D I q
theorem bY {H:Hp}{a:zE}{ks:List (Key×V)} (h:H a=some (.dK ks)):Mut (H a):=by rw[h];trivial
theorem EG {X:Cx}{pos pos':Pos} (hr:z4 n X.A) (ho:ME X Θ o mo) (hi:ME X Θ i mi) (he:ME X Θ e me)
  (ha:∀ v,Qy (.Subscript o i pos') X.env v=(do
   let ov <- holding [v] (zr o X.env)
   let iv <- holding [v,ov] (zr i X.env)
   standAt pos'
   holding [v,ov,iv] (VC ov iv v)
   release [v,ov,iv] []):=by intro _;rfl)
  (hs:Ba [.Subscript o i pos'] e pos.line X.env=pure false:=by rfl) (hw:dQ [.Subscript o i pos'] e X.env=pure none:=by rfl) (h1:(C1 [.Subscript o i pos'] X.env).map (·.2)=[Qy (.Subscript o i pos') X.env]:=by rfl)
  (hs2:Qc e (some (.Subscript o i pos')) pos.line X.env=pure false:=by rfl):MS X Θ (.Assign [.Subscript o i pos'] e pos) (M.yu mo mi me) :=
 (PS.or (fV he (lh ho hi LH ha) hs hw h1) (Fc (by have:=hr.units;lia) ho hi he hs2)).up λD σ H G f S st rp h=>by
  have g:z8 X.K Θ G H ((me f S).stm f λy s=>(mo f s).stm f λx s=>(mi f s).stm f λk s=>(M.yj x k y s).stm f λ_ s=>.nx f s) D:=h;clear h;cases U:me f S with
  | no=>rw[U] at g;exact g.elim
  | exc a s=>rw[U] at g;exact .inr ⟨G,f,S,st,rp,by rw[U];exact (show yw X.K Θ G H a s from g)⟩
  | ok y S1 =>
   rw[U,M.R.stm_ok] at g;cases hO:mo f S1 with
   | no=>rw[hO] at g;exact g.elim
   | exc a s=>rw[hO] at g;exact .inr ⟨G,f,S,st,rp,by rw[U];exact λm H1 v p l t rv=>⟨m,f,S1,st.mono p l,t,by rw[hO];exact yw.weak (show yw X.K Θ G H a s from g) p l⟩⟩
   | ok x S2 =>
    rw[hO,M.R.stm_ok] at g;cases hI:mi f S2 with
    | no=>rw[hI] at g;exact g.elim
    | exc a s=>rw[hI] at g;exact .inr ⟨G,f,S,st,rp,by rw[U];exact λm H1 v p l t rv=>⟨m,f,S1,st.mono p l,t,by rw[hO];exact λB H2 v2 u w C rv2=>⟨B,f,S2,st.mono (p.trans u) (l.trans w),C,by rw[hI];exact yw.weak (show yw X.K Θ G H a s from g) (p.trans u) (l.trans w)⟩⟩⟩
    | ok k S3 =>
     rw[hI,M.R.stm_ok] at g;cases x with
     | ref p =>
      cases q:S3[p]? with
      | none=>simp only[M.yj,q] at g;exact g.elim
      | some ob =>
       cases ob with
       | lst xs =>
        cases k with
        | int j =>
         cases hj:M.ixN xs.length j with
         | none=>simp only[M.yj,q,hj] at g;exact g.elim
         | some j' =>
          simp only[M.yj,q,hj,M.R.stm_ok] at g;refine .inl ⟨G,f,S,st,rp,?_⟩;rw[U];intro m H1 Y I J t ry;refine⟨m,f,S1,st.mono I J,t,?_⟩;rw[hO];intro B H2 Xv u w C rx;refine⟨B,f,S2,st.mono (I.trans u) (J.trans w),C,?_⟩;rw[hI];intro L H3 Kv N Q E rk;obtain⟨a,zs,rfl,ha,hx,rz⟩:=JL E (rx.mono N Q) q;cases rk;have le:=Le.put (kZ hx) (.lst (zs.set j' Y));refine⟨a,zs,j,j',rfl,rfl,hx,by rw[<- rz.length];exact hj,?_⟩;exact g L _ σ (I.trans (u.trans N)) (J.trans (w.trans (Q.trans le))) (E.put ha (kZ hx) ⟨_,qp,zU.set (ry.mono (u.trans N) (w.trans (Q.trans le))) j' (rz.mono (jg _) le)⟩) (st.mono (I.trans (u.trans N)) (J.trans (w.trans (Q.trans le))))
        | _=>simp only[M.yj,q] at g;exact g.elim
       | dct kvs =>
        cases hk:(M.qC k && decide (kvs.length < M.SZ)) with
        | false=>simp only[M.yj,q,hk] at g;exact g.elim
        | true =>
         have hk2:(if (M.qC k && decide (kvs.length < M.SZ))=true then M.R.ok () (S3.set p (.dct (M.ym k y kvs))) else .no)=M.R.ok () (S3.set p (.dct (M.ym k y kvs))):=if_pos hk;simp only[M.yj,q,hk2,M.R.stm_ok] at g;rw[j8] at hk;refine .inr ⟨G,f,S,st,rp,?_⟩;rw[U];intro m H1 Y I J t ry;refine⟨m,f,S1,st.mono I J,t,?_⟩;rw[hO];intro B H2 Xv u w C rx;refine⟨B,f,S2,st.mono (I.trans u) (J.trans w),C,?_⟩;rw[hI];intro L H3 Kv N Q E rk;obtain⟨a,rfl,ea⟩:=rx.mono N Q;obtain⟨b,e1,ks,e2,r⟩:=E.obj _ _ q;rw[ea] at e1;cases e1;obtain⟨kk,hkk,rfl⟩:=XY hk.1 rk;have le:=Le.put (bY e2) (.dK (qz ks kk Y));refine⟨a,_,rfl,Kf.k e2 (by rw[<- Paired.length r,<- yr];exact of_decide_eq_true hk.2),?_⟩;have r':DR X.K L (upd H3 a (.dK (qz ks kk Y))) kvs ks:=Paired.mapP r λa b z=>⟨z.1,z.2.mono (jg _) le⟩
         exact g L _ σ (I.trans (u.trans N)) (J.trans (w.trans (Q.trans le))) (E.put ea (bY e2) ⟨_,qp,DR.put r' hkk (ry.mono (u.trans N) (w.trans (Q.trans le)))⟩) (st.mono (I.trans (u.trans N)) (J.trans (w.trans (Q.trans le))))
       | fdc _=>simp only[M.yj,q] at g;exact g.elim
       | dtt _=>simp only[M.yj,q] at g;exact g.elim
       | ftt _=>simp only[M.yj,q] at g;exact g.elim
       | ins c fs=>simp only[M.yj,q] at g;exact g.elim
     | _=>exact g.elim
theorem w_ms_sub {X:Cx}{pos pos':Pos} (h:z4 n X.A) (j:WE X Θ o mo) (hi:WE X Θ i mi) (l:WE X Θ e me)
  (ha:∀ v,Qy (.Subscript o i pos') X.env v=(do
   let c <- holding [v] (zr o X.env)
   let f <- holding [v,c] (zr i X.env)
   standAt pos'
   holding [v,c,f] (VC c f v)
   release [v,c,f] []):=by intro _;rfl)
  (hs:Ba [.Subscript o i pos'] e pos.line X.env=pure false:=by rfl) (hw:dQ [.Subscript o i pos'] e X.env=pure none:=by rfl) (m:(C1 [.Subscript o i pos'] X.env).map (·.2)=[Qy (.Subscript o i pos') X.env]:=by rfl)
  (g:Qc e (some (.Subscript o i pos')) pos.line X.env=pure false:=by rfl):WS X Θ (.Assign [.Subscript o i pos'] e pos) (M.yu mo mi me):=by with_unfolding_all exact EG (X:=X) (o:=o) (i:=i) (e:=e) (mo:=mo) (mi:=mi) (me:=me) (pos:=pos) (pos':=pos') (n:=n) h j hi l ha hs hw m g
end
end L2
namespace L2
open PySem PySem.Spec PyProof.Rows
section
variable {K:PySem.W.Frag}{Θ:Tab}
theorem CB:∀ {xs:List V}{us:List zD},xs.length=us.length->(∀ (j:Nat) u,us[j]? = some u->∃ x,xs[j]? = some x/\zj x u)->zd xs us
 | [],[],_,_=>.nil
 | [],_::_,h,_=>by simp at h
 | _::_,[],h,_=>by simp at h
 | x::xs,u::us,h,k=>by
  obtain⟨y,e,r⟩:=k 0 u rfl;cases e;exact .cons r (CB (by simpa using h) λj u c=>by
   obtain⟨y,e,r⟩:=k (j+1) u (by simpa using c);exact⟨y,by simpa using e,r⟩)
theorem lQ {P:jB}{k:Key}{v:zD} (h:(yT P w).is k v=true):zj (kV k) v:=by
 rcases QC (k:=k) (v:=v) h with ⟨i,t,rfl,rfl⟩ | ⟨x,t,rfl,rfl⟩
 ·exact⟨t,rfl⟩
 ·exact⟨t,rfl⟩
noncomputable def af (K:PySem.W.Frag):List V->Hp->VK->Prop:=λxs H Q=>(∃ p ys,xs=[.ref p]/\(SqL K H p ys\/SqT K H p ys)/\∀ l,H l=none->Q (.ref l) (upd H l (.lst ys))) \/
 ∃ p ks,xs=[.ref p]/\H p=some (.dK ks)/\∀ l,H l=none->Q (.ref l) (upd H l (.lst (ks.map λc=>kV c.1)))
theorem lj {X:Cx}{k:Nat} (v:z4 k X.A):jq X (.type "list") (af X.K):=by
 intro c s σ H xs us Q I r h;rcases h with h | ⟨p,ks,rfl,w,q⟩
 ·exact Ee c s σ H xs us Q I r h
 ·obtain⟨u,rfl,y⟩:=yU r;cases y;obtain⟨z,lo,vs,l,B⟩:=JJ I.hok w;obtain⟨M,C⟩:=B.dictAt;have N:=l.length;refine yD (n:=1) I.tk (PySem.W.kdl_call (PySem.W.kdl_dict lo) v.hd C (by lia) λh' tk g E keep G it i=>?_);obtain⟨hsz,hit⟩:=it;refine⟨.ref s.heap.objs.size,_,I.laid (t':=tk) (o:=.lst (ks.map λm=>kV m.1)) keep (zo _) ⟨by rw[jS];exact z,g.toList,E,CB (by simp;lia) λj u J=>?_,by simpa using G⟩ i,rfl,q _ (I.hok.fresh (zo _))⟩;obtain⟨k,x,e,L⟩:=hit j u (by simpa using J);have U:j < ks.length:=by have:=(List.getElem?_eq_some_iff.mp e).1;lia
  have f:(ks.map (·.1))[j]? = some k:=by rw[l.keys,yB,e];rfl
  refine⟨kV k,?_,lQ L⟩;rw[yB] at f ⊢;cases t:ks[j]? with
  | none=>rw[t] at f;cases f
  | some m=>rw[t] at f;cases f;rfl
theorem dM:∀ {kvs:List (M.D×M.D)}{ks:List (Key×V)},DR K e H kvs ks->zU K e H (kvs.map (·.1)) (ks.map λf=>kV f.1)
 | _,_,.nil=>rfl
 | (d,_)::_,(k,_)::_,.cons h t=>by
  refine⟨_,_,rfl,?_,dM t⟩;have c:Zm d k:=h.1;cases d with
  | int i=>cases c;rfl
  | str x=>obtain⟨rfl,ok⟩:=c;exact⟨rfl,ok⟩
  | _=>exact c.elim
theorem nH:AdN K Θ M.vE (af K):=by
 intro o H S xs q Q g c h;unfold M.vE at h;split at h
 ·obtain⟨Y,r,rfl,⟨a,i,rfl,l,j⟩,rfl⟩:=c;exact .inl ⟨a,i,rfl,.inr l,λp f=>zG.alloc h g j f⟩
 ·obtain⟨Y,r,rfl,⟨a,i,rfl,l,j⟩,rfl⟩:=c;exact .inl ⟨a,i,rfl,.inl l.sq,λp f=>zG.alloc h g j f⟩
 ·rename_i p;obtain⟨Y,r,rfl,ry,rfl⟩:=c;split at h
  ·rename_i ds e;obtain⟨a,i,rfl,ha,m,j⟩:=JL g ry e;exact .inl ⟨a,i,rfl,.inl (SqL.of m),λp f=>zG.alloc h g j f⟩
  ·rename_i kvs e;obtain⟨a,rfl,ha⟩:=ry;obtain⟨ks,n,r⟩:=Q2 g ha e;exact .inr ⟨a,ks,rfl,n,λp f=>zG.alloc h g (dM r) f⟩
  ·exact h.elim
 ·exact h.elim
noncomputable def c8:List V->Hp->VK->Prop:=λxs H Q=>∃ p ks,xs=[.ref p]/\H p=some (.dK ks)/\∀ l,H l=none->Q (.ref l) (upd H l (.dK ks))
theorem L5 {X:Cx}:jq X (.type "dict") c8:=by
 intro g s σ H xs us Q I r h;obtain⟨p,ks,rfl,j,q⟩:=h;obtain⟨u,rfl,l⟩:=yU r;cases l;obtain⟨z,lo,vs,i,m⟩:=JJ I.hok j;refine PySem.kt_call_dict lo m (by rw[<- i.length];exact z) λh' c sb=>?_;have f:(s.heap.objs.size == Zu)=false:=by have:=I.big;exact beq_eq_false_iff_ne.mpr (KE this)
 exact⟨.ref s.heap.objs.size,_,I.laid (t':=s.toks) (o:=.dK ks) (λb o e=>(sb.2 b (je (jR e))).trans (ji _ e)) (zo _) (U2 z f i c),rfl,q _ (I.hok.fresh (zo _))⟩
theorem bf {c:List zE}{H:Hp}{S:M.S}{kvs:List (M.D×M.D)}{ks:List (Key×V)}{Q:VK} (h:zG K Θ (zO K) c H (M.alloc (.dct kvs) S) Q) (f:zY K Θ c S H) (r:DR K c H kvs ks) {p:zE} (e:H p=none):Q (.ref p) (upd H p (.dK ks)) :=
 h (c++[p]) _ _ (Zo _ _) (Le.new e _) (f.alloc e ⟨ks,qp,Paired.mapP r λ_ _ z=>⟨z.1,z.2.mono (Zo _ _) (Le.new e _)⟩⟩) ⟨p,rfl,by rw[<- f.len];simp⟩
theorem Mh:AdN K Θ M.k8 c8:=by
 intro j H S xs l Q f c h;unfold M.k8 at h;split at h
 ·rename_i p;obtain⟨Y,r,rfl,ry,rfl⟩:=c;split at h
  ·rename_i kvs e;obtain⟨a,rfl,ha⟩:=ry;obtain⟨ks,g,r⟩:=Q2 f ha e;exact⟨a,ks,rfl,g,λp i=>bf h f r i⟩
  ·exact h.elim
 ·exact h.elim
theorem w_me_dnew {X:Cx}{pos:Pos}:WE X Θ (.Dict [] [] pos) M.VF:=by
 delta WE at ⊢
 exact Ld.up λσ H Q g c S st e h=>λp f=>bf (kvs:=[]) h e .nil f
noncomputable def QD {e:Type} (c:e->e->Bool) (y:e) (ys:List e):e:=ys.foldl (λb z=>if c z b then z else b) y
theorem uW {f:Type} (c:f->f->Bool) (y:f) (ys:List f):∀ k,k <= ys.length->(y::ys).getD (v9 (λi j=>c ((y::ys).getD i y) ((y::ys).getD j y)) k) y=QD c y (ys.take k)
 | 0,_=>rfl
 | k+1,h=>by
  have l:=uW c y ys k (by lia);have e:ys.take (k+1)=ys.take k++[(y::ys).getD (k+1) y]:=by
   rw[gJ,yQ (by lia)];simp[qP,show k < ys.length by lia]
  rw[e];unfold QD at l ⊢;rw[hQ,<- l];show (y::ys).getD (if c ((y::ys).getD (k+1) y) ((y::ys).getD (v9 _ k) y) then k+1 else v9 _ k) y=_;split
  ·rename_i g;simp only[Qf,l7];rw[if_pos g]
  ·rename_i g;simp only[Qf,l7];rw[if_neg g]
theorem wK {ys:List Str} (r:zd (ys.map V.str) its) {i:Nat}{v:zD} (h:its[i]? = some v) (d:Str):∃ t,v=.str (ys.getD i d) t:=by
 have e:=r.length;have hi:i < its.length:=(List.getElem?_eq_some_iff.mp h).1;rw[jS] at e;obtain⟨u,c,f⟩:=r.get (i:=i) (x:=V.str (ys.getD i d)) (by rw[yB,qP,yQ (by lia)];rfl);rw[h] at c;cases c;exact f
noncomputable def uY (K:PySem.W.Frag) (c:Str->Str->Bool):List V->Hp->VK->Prop:=λxs H Q=>∃ p y ys,xs=[.ref p]/\SqL K H p ((y::ys).map V.str)/\Q (.str (QD c y ys)) H
noncomputable def gtS (x y:Str):Bool:=decide (y.cps.toList < x.cps.toList)
theorem mx {X:Cx}{k:Nat} (z:z4 k X.A):jq X (.builtin "max") (uY X.K gtS):=by
 intro x s σ H xs us Q I r h;obtain⟨p,y,ys,rfl,B,q⟩:=h;obtain⟨u,rfl,C⟩:=yU r;cases C;obtain⟨its,g,pl,hz⟩:=I.list B;have c:its.length=ys.length+1:=by have:=g.length;simp at this;lia
 obtain⟨o,E,G⟩:=pl.isList;have f:p < s.heap.objs.size:=jR E;refine yD (n:=1) I.tk (call_max_walk (uP pl.isList ?_));refine⟨s.heap.objs.size,_,_,_,_,_,λi j=>gtS ((y::ys).getD i y) ((y::ys).getD j y),rfl,bq (show X.A.in1.handled=none from z.hd) s.heap.objs.size p (je f) its.toArray,⟨⟨_,qi _ rfl,rfl,rfl⟩,pl.isList.push _⟩,?_,by simp[c],?_,λv h' tk J L l=>?_⟩
 ·intro b m;rw[Q3];rcases List.mem_cons.mp m with rfl | m
  ·exact xg _
  ·have:b=p:=by simpa using m
   rw[this];exact uE f
 ·intro i j M N s' Q' E' hi U Y;obtain⟨t,rfl⟩:=wK g (v:=M) (by simpa using hi) y;obtain⟨t',rfl⟩:=wK g (v:=N) (by simpa using U) y;exact P.gt_str Y
 ·have w:∀ b o,s.heap.get? b=some o->h'.get? b=some o:=λb o e=>L b o (by simpa using je (jR e)) (ji _ e);obtain⟨t,rfl⟩:=wK g (v:=v) (i:=v9 (λi j=>gtS ((y::ys).getD i y) ((y::ys).getD j y)) (its.toArray.size - 1)) (by rw[<- iJ];exact J) y;refine⟨.str (QD gtS y ys),H,I.kept w l,⟨t,?_⟩,q⟩;rw[show its.toArray.size - 1=ys.length by simp[c],uW gtS y ys ys.length (zo _),Ln]
noncomputable def gtI (x y:Int):Bool:=decide (y < x)
noncomputable def WZ (K:PySem.W.Frag):List V->Hp->VK->Prop:=λxs H Q=>∃ p y ys,xs=[.ref p]/\SqL K H p ((y::ys).map V.int)/\Q (.int (QD gtI y ys)) H
theorem uK {ys:List Int} (r:zd (ys.map V.int) its) {i:Nat}{v:zD} (h:its[i]? = some v) (d:Int):∃ t,v=.int (ys.getD i d) t:=by
 have e:=r.length;have hi:i < its.length:=(List.getElem?_eq_some_iff.mp h).1;rw[jS] at e;obtain⟨u,c,f⟩:=r.get (i:=i) (x:=V.int (ys.getD i d)) (by rw[yB,qP,yQ (by lia)];rfl);rw[h] at c;cases c;exact f
theorem Ef {X:Cx}{k:Nat} (z:z4 k X.A):jq X (.builtin "max") (WZ X.K):=by
 intro x s σ H xs us Q I r h;obtain⟨p,y,ys,rfl,B,q⟩:=h;obtain⟨u,rfl,C⟩:=yU r;cases C;obtain⟨its,g,pl,hz⟩:=I.list B;have c:its.length=ys.length+1:=by have:=g.length;simp at this;lia
 obtain⟨o,E,G⟩:=pl.isList;have f:p < s.heap.objs.size:=jR E;refine yD (n:=1) I.tk (call_max_walk (uP pl.isList ?_));refine⟨s.heap.objs.size,_,_,_,_,_,λi j=>gtI ((y::ys).getD i y) ((y::ys).getD j y),rfl,bq (show X.A.in1.handled=none from z.hd) s.heap.objs.size p (je f) its.toArray,⟨⟨_,qi _ rfl,rfl,rfl⟩,pl.isList.push _⟩,?_,by simp[c],?_,λv h' tk J L l=>?_⟩
 ·intro b m;rw[Q3];rcases List.mem_cons.mp m with rfl | m
  ·exact xg _
  ·have:b=p:=by simpa using m
   rw[this];exact uE f
 ·intro i j M N s' Q' E' hi U Y;obtain⟨t,rfl⟩:=uK g (v:=M) (by simpa using hi) y;obtain⟨t',rfl⟩:=uK g (v:=N) (by simpa using U) y;exact gt_int Y
 ·have w:∀ b o,s.heap.get? b=some o->h'.get? b=some o:=λb o e=>L b o (by simpa using je (jR e)) (ji _ e);obtain⟨t,rfl⟩:=uK g (v:=v) (i:=v9 (λi j=>gtI ((y::ys).getD i y) ((y::ys).getD j y)) (its.toArray.size - 1)) (by rw[<- iJ];exact J) y;refine⟨.int (QD gtI y ys),H,I.kept w l,⟨t,?_⟩,q⟩;rw[show its.toArray.size - 1=ys.length by simp[c],uW gtI y ys ys.length (zo _),Ln]
theorem nL {X:Cx}{k:Nat} (c:z4 k X.A):jq X (.builtin "max") (λxs H Q=>uY X.K gtS xs H Q\/WZ X.K xs H Q):=jq.or (mx c) (Ef c)
theorem cY:∀ {ds:List M.D}{ys:List V}{ns:List Int},M.Qn ds=some ns->zU K h H ds ys->ys=ns.map V.int
 | [],_,_,e,r=>by cases e;cases r;rfl
 | .int x::ds,_,_,e,r=>by
  obtain⟨y,ys,rfl,f,g⟩:=r;cases f;have c:(M.Qn ds).map (x :: ·)=some _:=e;cases q:M.Qn ds with
  | none=>rw[q] at c;cases c
  | some cs =>
   rw[q] at c;cases c;rw[cY q g];rfl
 | .non::_,_,_,e,_=>by cases e
 | .bl _::_,_,_,e,_=>by cases e
 | .str _::_,_,_,e,_=>by cases e
 | .tup _::_,_,_,e,_=>by cases e
 | .ro _::_,_,_,e,_=>by cases e
 | .ref _::_,_,_,e,_=>by cases e
 | .ty _::_,_,_,e,_=>by cases e
theorem Co:∀ (ys:List Int) (y:Int),QD gtI y ys=ys.foldl (λb y=>if b < y then y else b) y
 | [],_=>rfl
 | z::ys,y=>by
  have c:=Co ys;unfold QD at c ⊢;rw[Qf,Qf];have e:(if gtI z y=true then z else y)=if y < z then z else y:=by unfold gtI;simp
  rw[e];exact c _
theorem bE {c:Str->Str->Bool}{d:M.T->M.T->Bool} (h:∀ x y,c (ofT x) (ofT y)=d x y):∀ (ys:List M.T) (y:M.T),QD c (ofT y) (ys.map ofT)=ofT (ys.foldl (λb z=>if d z b then z else b) y)
 | [],y=>rfl
 | z::ys,y=>by
  have e:=bE h ys;unfold QD at e ⊢;rw[jH,Qf,Qf,h];split
  ·exact e z
  ·exact e y
theorem aD {f:M.T->M.T->Bool}:∀ (ys:List M.T) (y:M.T),okT y->(∀ t∈ys,okT t)->okT (ys.foldl (λb z=>if f z b then z else b) y)
 | [],_,h,_=>h
 | z::ys,y,h,k=>by
  rw[Qf];refine aD ys _ ?_ λt c=>k t (jh _ c);split
  ·exact k z qa
  ·exact h
theorem fK:AdN K Θ M.Yk (λxs H Q=>uY K gtS xs H Q\/WZ K xs H Q):=by
 intro w H S xs A Q g i h;unfold M.Yk M.Wa at h;split at h
 ·rename_i p;obtain⟨Y,r,rfl,ry,rfl⟩:=i;split at h
  ·rename_i ds e;have o:S[p]? = some (.lst ds):=by
    unfold M.zy at e;split at e
    ·rename_i q s;cases e;exact s
    ·cases e
   obtain⟨a,B,rfl,ha,l,m⟩:=JL g ry o;unfold M.Yx at h;split at h
   ·rename_i ts j;obtain⟨rfl,hok⟩:=KU j m;split at h
    ·rename_i y c;cases ts with
     | nil=>cases c
     | cons t ts =>
      cases c;refine .inl ⟨a,ofT t,ts.map ofT,rfl,SqL.of l,?_⟩;rw[bE (d:=λx y=>decide (y < x)) (λx y=>by unfold gtS;rw[ZP,ZP])];have n:(ts.foldl (λb z=>if (λx y=>decide (y < x)) z b then z else b) t)=ts.foldl (λb y=>if b < y then y else b) t:=by
       congr 1
       funext b z
       simp
      refine zG.here h g ⟨by rw[n],?_⟩;have:=aD (f:=λx y=>decide (y < x)) ts t (hok t (by simp)) λu v=>hok u (by simp[v])
      rwa [n] at this
    ·exact h.elim
   ·unfold M.Uo at h;split at h
    ·rename_i ts j;have:=cY j m;subst this;split at h
     ·rename_i y c;cases ts with
      | nil=>cases c
      | cons t ts =>
       cases c;refine .inr ⟨a,t,ts,rfl,SqL.of l,?_⟩;rw[Co];exact zG.here h g rfl
     ·exact h.elim
    ·exact h.elim
  ·exact h.elim
 ·exact h.elim
theorem ef {c:Type} (xs:List c):(qE xs.length).filterMap (xs[·]?)=xs:=by
 induction xs with
 | nil=>rfl
 | cons x xs e =>
  rw[zx,GS,vz,cg];simp only[jJ]
  congr 1
theorem mj (its:List zD):wy its.toArray none none (some (-1))=its.reverse.toArray:=by
 unfold wy;have c:JB none none (some (-1)) its.toArray.size=((its.length:Int) - 1,-1,-1):=by
  simp[JB]
 rw[c];have f:W0 ((its.length:Int) - 1) (-1) (-1)=(qE its.length).reverse:=by
  unfold W0;have e:(if (-1:Int) > 0 then (if (its.length:Int) - 1 < -1 then (-1 - ((its.length:Int) - 1) + -1 - 1) / -1 else 0) else (if (its.length:Int) - 1 > -1 then ((its.length:Int) - 1 - -1 - -1 - 1) / - -1 else 0)).toNat=its.length:=by
   rw[if_neg (by decide)];split
   ·rw[show (- -1:Int)=1 by decide,CY];lia
   ·lia
  dsimp only;rw[e];apply eh
  ·simp
  ·intro i g h;simp at g ⊢
   lia
 dsimp only;rw[f,List.filterMap_reverse]
 congr 2
 have:=ef its;simpa using this
theorem EX {X:Cx}{st:zV}{l pos:Pos} (z:PE X e te) (i:PE X st (tC (.int (-1)))):PE X (.Subscript e (.Slice none none (some st) l) pos) (λσ H Q=>te σ H λx g=>∃ a xs,x=.ref a/\SqL X.K g a xs/\∀ p,g p=none->Q (.ref p) (upd g p (.lst xs.reverse))):=by
 intro c s σ H Q I h;refine Wz (zu (z c s σ H _ I h) λv s1 x g B C E=>?_);obtain⟨a,xs,rfl,G,q⟩:=E;cases C;refine b3 ?_;rw[wb];refine wpAny_pure (wpAny_pure ?_);rw[aH];refine zu (i c s1 σ g (λv J=>v=.int (-1)/\J=g) B ⟨rfl,rfl⟩) λu f y L M N ⟨U,Y⟩=>?_;subst U;subst Y;obtain⟨t,rfl⟩:=N;have j:Inv X c σ L { f with heap:=f.heap.push { cls:=.type "slice",data:=.fields #[.none,.none,.int (-1) t] } }:=M.kept (t':=f.toks) λb ob q=>ji _ q;obtain⟨its,r,m,hz⟩:=j.list G;have n:=r.length;show wpAny (zP X.prog X.w) X.A (Wq e (.Slice none none (some st) l) (.ref a) (.ref f.heap.objs.size)) (EP X c σ Q) X.xe { f with heap:=f.heap.push { cls:=.type "slice",data:=.fields #[.none,.none,.int (-1) t] } };refine vo (ops:=[.ref a,.ref f.heap.objs.size]) m.isList.typeIs slot_list_getitem.lookup ?_ (by with_unfolding_all rfl);refine eW m.isList (D5 ..) .none .none (.int (-1) t) (by decide) ?_ (by rw[jo]<;>lia);rw[mj];refine⟨.ref _,_,j.laid (t':=f.toks) (o:=.lst xs.reverse) (λb ob q=>ji _ q) (zo _) ?_,rfl,q _ (j.hok.fresh (zo _))⟩;exact⟨by rw[kv];exact hz,_,0,r.reverse,qi _ rfl⟩
end
end L2
namespace L2
open PySem PySem.Spec PyProof.Rows
section
variable {P:jB}{w:jG}{A:jc}{E:zD->zJ->Prop}{s:zJ}
def eQ (h:zi) (z TI TO:zE) (c:zD) (b:Bool):Prop:=h.get? z=some { cls:=.type "zip",dict:=none,data:=.fields #[c,.bool b,.bool false,.ref TI,.ref TO],slots:=#[] }
structure ZSt (z TI TO i1 i2 l1 l2:zE) (xs ys:Array zD) (i:Nat) (h:zi):Prop where
 zp:∃ f0 b,eQ h z TI TO f0 b/\((i=0/\f0=.none)\/∃ (T:zE) (o:Obj),f0=QX T/\h.get? T=some o)
 ti:KR h TI (.ref i1) (.ref i2)
 to:∃ a b,KR h TO a b
 n1:h.IsTupleIter i1 l1 i
 n2:h.IsTupleIter i2 l2 i
 t1:h.IsTuple l1 xs
 t2:h.IsTuple l2 ys
structure ZLp (lo z TO i1 i2 S:zE) (xs ys:List zD) (h0 h:zi) (ps:List zE):Prop where
 its:∀ (j:Nat) p,ps[j]? = some p->lo <= p/\∃ x y,xs[j]? = some x/\ys[j]? = some y/\KR h p x y
 keep:∀ b o,b≠S->b≠z->b≠TO->b≠i1->b≠i2->h0.get? b=some o->h.get? b=some o
 nd:ps.Nodup
noncomputable abbrev zt1 (h:zi) (a:zE):zi:=h.push { cls:=.type "tuple_iterator",data:=.fields #[.ref a,.int 0 0] }
end
end L2
namespace L2
open PySem PySem.Spec PyProof.Rows
inductive Us:Hp->List (V×V)->List V->Hp->Prop
 | nil (H:Hp):Us H [] [] H
 | cons {H H':Hp}{a:zE}{x y:V}{r:List (V×V)}{zs:List V} (h:H a=none) (t:Us (upd H a (.tup [x,y])) r zs H'):Us H ((x,y)::r) (.ref a::zs) H'
noncomputable def dZ:List V->Hp->VK->Prop:=λxs H Q=>∃ i,xs=[.int i]/\i.natAbs.log2 < 1920/\Q (.str (toString i)) H
theorem gm {X:Cx}:jq X (.type "str") dZ:=Lq
theorem g8 (i:Int):(Xq (toString i))=ofT (M.JO i):=by
 rw[Str.ofString_eq_toList];rfl
theorem Gq (i:Int):okT (M.JO i):=List.all_eq_true.mpr λc e=>by
 obtain⟨d,_,rfl⟩:=List.mem_map.mp e;have:=d.valid;rw[decide_eq_true_iff];rcases this with h | h
 ·exact Aw h (by decide)
 ·exact h.2
theorem gn {K:PySem.W.Frag}:AdN K j M.YU dZ:=by
 intro l H S xs m Q g e h;unfold M.YU at h;split at h
 ·rename_i i;obtain⟨Y,r,rfl,ry,rfl⟩:=e;cases ry;by_cases c:M.qK i=true
  ·rw[if_pos c] at h;unfold M.qK at c;rw[decide_eq_true_iff] at c;refine⟨i,rfl,?_,?_⟩
   ·by_cases f:i.natAbs=0
    ·rw[f];decide
    ·exact Aw ((Nat.log2_lt f).mpr (show i.natAbs < 2 ^ 64 from c)) (by decide)
   ·show Q (.str (Xq (toString i))) H;rw[g8];exact zG.here h g ⟨rfl,Gq i⟩
  ·rw[if_neg c] at h;exact h.elim
 ·exact h.elim
end L2
namespace L2
open PySem PySem.Spec PyProof.Rows
section
variable {K:PySem.W.Frag}{Θ:Tab}
theorem IU:Ad2 K Θ M.JY (λx y H Q=>match x,y with | .int i,.int j=>Q (.int (i+j)) H | .str a,.str b=>a.length+b.length <= zg/\Q (.str (a++b)) H | _,_=>False):=by
 intro f H S x y X Y Q e rx ry h;cases x with
 | int i =>
  cases y with
  | int j=>cases rx;cases ry;exact zG.here (b:=V.int (i+j)) h e rfl
  | _=>exact h.elim
 | str a =>
  cases y with
  | str b =>
   obtain⟨rfl,oa⟩:=rx;obtain⟨rfl,ob⟩:=ry;have h':zG K Θ (zO K) f H (if a.length+b.length <= M.SZ then M.R.ok (M.D.str (a++b)) S else .no) Q:=h;by_cases c:a.length+b.length <= M.SZ
   ·rw[if_pos c] at h';refine⟨by rw[qL,qL,<- yr];exact c,?_⟩;rw[Dh];exact zG.here h' e ⟨rfl,YN oa ob⟩
   ·rw[if_neg c] at h';exact h'.elim
  | _=>exact h.elim
 | _=>exact h.elim
noncomputable def AR (K:PySem.W.Frag):List V->Hp->VK->Prop:=λxs H Q=>∃ p ys,xs=[.ref p]/\((SqL K H p ys/\∀ l,H l=none->Q (.ref l) (upd H l (.tup ys)))\/(SqT K H p ys/\Q (.ref p) H))
theorem gO {X:Cx}:jq X (.type "tuple") (AR X.K):=m7
theorem mG:AdN K Θ M.VT (AR K):=by
 intro m H S xs u Q g c h;unfold M.VT at h;split at h
 ·rename_i ds;obtain⟨Y,r,rfl,ry,rfl⟩:=c;obtain⟨a,f,rfl,n,j⟩:=id ry;exact⟨a,f,rfl,.inr ⟨n,zG.here h g ry⟩⟩
 ·rename_i p;obtain⟨Y,r,rfl,ry,rfl⟩:=c;split at h
  ·rename_i ds e;have o:S[p]? = some (.lst ds):=by
    unfold M.zy at e;split at e
    ·rename_i q s;cases e;exact s
    ·cases e
   obtain⟨a,f,rfl,ha,t,j⟩:=JL g ry o;exact⟨a,f,rfl,.inl ⟨SqL.of t,λl i=>h m _ _ (jg _) (Le.new i _) (g.aside i _) ⟨l,f,rfl,.inl (.inl qp),j.mono (jg _) (Le.new i _)⟩⟩⟩
  ·exact h.elim
 ·exact h.elim
end
end L2
namespace L2
open PySem PySem.Spec PyProof.Rows
structure QG (K:PySem.W.Frag) (Θ:Tab) (c:Nat) (C:zE) (N:List Str):Prop where
 tab:Θ c=some (C,N)
 cl:Cls K C
 no:∀ f∈N,Jt K C f
 few:N.length < 999
 nd:N.Nodup
theorem xK {c:Type}{f:c->Prop}{a:c}{l:List c} (h:f a) (k:∀ x∈l,f x):∀ x∈a::l,f x:=λx g=>(List.mem_cons.mp g).elim (λe=>by rw[e];exact h) (k x)
structure yR (P:jB) (w:jG) (K:PySem.W.Frag) (mg:Str->Option zD) (base:zi) (C:zE) (m:Str) (k:Nat) (ps:List Str) (sp:Sp):Prop where
 ex:∃ f fd,zm P w K mg base CX0 k f fd ps sp/\yH K fd ps []/\YD K C m f
structure Uj (P:jB) (w:jG) (K:PySem.W.Frag) (mg:Str->Option zD) (base:zi) (C:zE) (x:Str) (k:Nat) (ps:List Str) (sp:Sp):Prop where
 ex:∃ f fd,zm P w K mg base CX0 k f fd ps sp/\yH K fd ps []/\Mk K C f/\mg x=some (.ref C)
theorem Ah {c:Type} [DecidableEq c]:∀ {l N:List c},l.Nodup->(∀ x∈l,x∈N)->l.length <= N.length
 | [],_,_,_=>ZV _
 | a::l,N,h,k=>by
  have ha:=k a qa;have f:=List.nodup_cons.mp h;have i:l.length <= (N.erase a).length:=Ah f.2 λx g=>(List.mem_erase_of_ne (show x≠a from λe=>f.1 (by rw[<- e];exact g))).mpr (k x (jh _ g));rw[List.length_erase_of_mem ha] at i;have j:=List.length_pos_of_mem ha;rw[zx]
  lia
theorem WV (f:Str) (v:V):∀ fs:List (Str×V),∀ g,g∈(qH f v fs).map (·.1)->g=f\/g∈fs.map (·.1)
 | [],g,h=>by
  have h':g∈[f]:=h;exact .inl (by simpa using h')
 | (k,x)::r,g,h=>by
  rw[show qH f v ((k,x)::r)=(if k=f then (k,v)::r else (k,x)::qH f v r) from rfl] at h;by_cases c:k=f
  ·rw[if_pos c] at h;exact .inr h
  ·rw[if_neg c,jH] at h;rcases List.mem_cons.mp h with e | h
   ·exact .inr (by rw[e];simp)
   ·rcases WV f v r g h with e | e
    ·exact .inl e
    ·exact .inr (jh _ e)
theorem bw (f:Str) (v:V):∀ fs:List (Str×V),(fs.map (·.1)).Nodup->((qH f v fs).map (·.1)).Nodup
 | [],_=>by show [f].Nodup;simp
 | (k,x)::r,h=>by
  rw[jH,wM] at h;rw[show qH f v ((k,x)::r)=(if k=f then (k,v)::r else (k,x)::qH f v r) from rfl];by_cases c:k=f
  ·rw[if_pos c,jH,wM];exact h
  ·rw[if_neg c,jH,wM];refine⟨λm=>?_,bw f v r h.2⟩;rcases WV f v r k m with e | e
   ·exact c e
   ·exact h.1 e
theorem Ac {f:Str}:∀ {c:List (Str×V)},f∉c.map (·.1)->c.lookup f=none
 | [],_=>rfl
 | (g,x)::r,h=>by
  rw[jH,eJ,not_or] at h;have e:(f == g)=false:=beq_eq_false_iff_ne.mpr h.1;rw[ZA,e];exact Ac h.2
theorem dt {P:jB}{K:PySem.W.Frag}{mg:Str->Option zD}{base:zi}{k:Nat}{q:M.F} (h:∀ ds s,q ds s=.no):zm P w K mg base CX0 k f fd ps (SpM K e n q) :=
 ⟨λvs H Q E ⟨c,ds,S,_,_,_,z⟩=>by rw[h] at z;exact z.elim,λA outer s H args us vs Q E _ _ _ _ _ ⟨c,ds,S,_,_,_,z⟩=>by rw[h] at z;exact z.elim⟩
section
variable {K:PySem.W.Frag}{Θ:Tab}{ρ:List zE}{H:Hp}
theorem Jr.few {fs:List (Option M.D)} (r:Jr K ρ H N fs c):c.length <= N.length:=by
 have:=Ah r.nd r.within
 rwa [jS] at this
theorem Jr.put {fs:List (Option M.D)}{i:Nat}{f:Str}{d:M.D} (r:Jr K ρ H N fs m) (p:N.Nodup) (hi:N[i]? = some f) (le:Le H o) (q:zO K ρ o d v):Jr K ρ o N (fs.set i (some d)) (qH f v m):=by
 refine⟨by rw[xw];exact r.len,bw f v m r.nd,λg s=>?_,λj g e h l=>?_⟩
 ·rcases WV f v m g s with z | z
  ·rw[z];exact y9 hi
  ·exact r.within g z
 ·rw[Wm];by_cases c:i=j
  ·subst c;rw[hi] at h;cases h;rw[if_pos rfl];have t:i < fs.length:=by rw[r.len];exact (List.getElem?_eq_some_iff.mp hi).1
   rw[J6 t] at l;cases l;exact⟨v,rfl,q⟩
  ·rw[Zk c] at l;have n:¬ g=f:=λz=>c (Yy p (by rw[hi]) (by rw[h,z]));rw[if_neg n];obtain⟨u,w,x⟩:=r.get j g e h l;exact⟨u,w,x.mono (jg _) le⟩
theorem YY {S:M.S}{p:Nat}{a:zE}{fs:List (Option M.D)} (j:QG K Θ c C N) (l:zY K Θ ρ S H) (ha:ρ[p]? = some a) (e:S[p]? = some (.ins c fs)):∃ g f,H a=some (.ins C g f)/\Jr K ρ H N fs f:=by
 obtain⟨b,h,o,g,f,q,m,i,n⟩:=l.obj p _ e;rw[ha] at h;cases h;rw[j.tab] at i;cases i;exact⟨g,f,m,n⟩
theorem cB {a C c:zE}{e:List (Str×V)} (h:H a=some (.ins C c e)):Mut (H a):=by rw[h];trivial
theorem aR {S:M.S}{i:Nat}{f:Str}{Q:VK} (l:QG K Θ c C N) (hi:N[i]? = some f) (j:zY K Θ ρ S H) (rx:zO K ρ H x m) (h:zG K Θ (zO K) ρ H (M.Xw c i x S) Q) :
  ∃ a g fs v,m=.ref a/\H a=some (.ins C g fs)/\fs.lookup f=some v/\Q v H:=by
 unfold M.Xw at h;split at h
 ·rename_i p;split at h
  ·rename_i w fs e;split at h
   ·rename_i n;subst n;split at h
    ·rename_i d o;obtain⟨a,rfl,ha⟩:=rx;obtain⟨g,q,r,s⟩:=YY l j ha e;obtain⟨v,t,u⟩:=s.get i f d hi o;exact⟨a,g,q,v,rfl,r,t,zG.here h j u⟩
    ·exact h.elim
   ·exact h.elim
  ·exact h.elim
 ·exact h.elim
theorem w_me_fld {X:Cx}{i:Nat}{f:Str}{pos:Pos} (g:QG X.K Θ c C N) (hi:N[i]? = some f) (n:WE X Θ e m) (o:QH e f X.env (zr e X.env)=zr e X.env:=by rfl):WE X Θ (.Attribute e f pos) (M.jC c i m):=by
 delta WE at n ⊢
 exact (ij n o).up λσ H Q ρ j S st p h=>⟨ρ,j,S,st,p,zG.bind h λr z x A B E G l rx s=>by
   obtain⟨a,t,fs,v,u,w,y,q⟩:=aR g hi l rx s;exact⟨a,C,t,fs,v,u,w,g.cl,g.no f (y9 hi),y,q⟩⟩
theorem Bi {S:M.S}{i:Nat}{f:Str}{y:M.D}{D:Qv} (l:QG K Θ c C N) (hi:N[i]? = some f) (n:zY K Θ ρ S H) (st:jL K ρ H j σ) (rx:zO K ρ H x r) (ry:zO K ρ H y Y) (h:z8 K Θ ρ H ((M.xY c i x y S).stm j λ_ s=>.nx j s) D) :
  ∃ a g fs,r=.ref a/\H a=some (.ins C g fs)/\fs.length < 1000/\D.nx σ (upd H a (.ins C g (qH f Y fs))):=by
 unfold M.xY at h;split at h
 ·rename_i p;split at h
  ·rename_i u fs e;split at h
   ·rename_i t;subst t;obtain⟨a,rfl,ha⟩:=rx;obtain⟨g,o,m,q⟩:=YY l n ha e;have le:=Le.put (cB m) (.ins C g (qH f Y o));refine⟨a,g,o,rfl,m,by have:=q.few;have:=l.few;lia,?_⟩;exact h ρ _ σ (jg _) le (n.put ha (cB m) ⟨C,g,_,N,qp,l.tab,q.put l.nd hi le (ry.mono (jg _) le)⟩) (st.mono (jg _) le)
   ·exact h.elim
  ·exact h.elim
 ·exact h.elim
theorem w_ms_fld {X:Cx}{i:Nat}{f:Str}{pos pos':Pos} (j:QG X.K Θ c C N) (hi:N[i]? = some f) (r:WE X Θ o mo) (s:WE X Θ e m) (hs:Qc e (some (.Attribute o f pos')) pos.line X.env=pure false:=by kernel_rfl):WS X Θ (.Assign [.Attribute o f pos'] e pos) (M.ZK c i mo m):=by
 delta WE WS at r s ⊢
 exact (fb r s hs).up λD σ H ρ g S st z h=>⟨ρ,g,S,st,z,z8.stm h λl U y Y A t u n ry B=>⟨l,g,A,st.mono t u,n,z8.stm B λE H2 x X1 S2 v w p rx G=>by
   obtain⟨a,I,fs,J,L,Q,q⟩:=Bi j hi p (st.mono (t.trans v) (u.trans w)) rx (ry.mono v w) G;exact⟨a,C,I,fs,J,L,j.cl,j.no f (y9 hi),Q,q⟩⟩⟩
theorem w_ms_fldaug {X:Cx}{i:Nat}{f:Str}{pos pos':Pos} (B:QG X.K Θ c C N) (hi:N[i]? = some f) (ho:WE X Θ o mo) (he:WE X Θ e m) (G:PIp X op r) (ad:Ad2 X.K Θ g r):WS X Θ (.AugAssign (.Attribute o f pos') op e pos) (M.QZ g c i mo m):=by
 delta WE WS at ho he ⊢
 exact (Hq ho he G).up λD σ H ρ n S st rp h=>⟨ρ,n,S,st,rp,z8.stm h λw p x I S1 p1 l1 J rx h1=>by
   have L:z8 X.K Θ w p ((M.Xw c i x S1).stm n λv s=>(m n s).stm n λy s=>(g v y s).stm n λz s=>(M.xY c i x z s).stm n λ_ s=>.nx n s) D:=h1;have hp:∃ a A fs v,I=.ref a/\p a=some (.ins C A fs)/\fs.lookup f=some v/\∃ j l t d,jL X.K j p l σ/\zY X.K Θ j t p/\zO X.K j p d v/\zO X.K j p x I/\z8 X.K Θ j p ((m l t).stm l λy s=>(g d y s).stm l λz s=>(M.xY c i x z s).stm l λ_ s=>.nx l s) D:=by
    have h2:zG X.K Θ (zO X.K) w p (M.Xw c i x S1) (λv H2=>H2=p->∃ j l t d,jL X.K j p l σ/\zY X.K Θ j t p/\zO X.K j p d v/\zO X.K j p x I/\z8 X.K Θ j p ((m l t).stm l λy s=>(g d y s).stm l λz s=>(M.xY c i x z s).stm l λ_ s=>.nx l s) D) :=
     z8.stm L λj H2 d v t p2 l2 u Q h3 e=>by
      subst e;exact⟨j,n,t,d,st.mono (p1.trans p2) (l1.trans l2),u,Q,rx.mono p2 l2,h3⟩
    obtain⟨a,A,fs,v,E,U,e3,q⟩:=aR B hi J rx h2;exact⟨a,A,fs,v,E,U,e3,q rfl⟩
   obtain⟨a,A,fs,v,E,U,e3,j,l,t,d,st2,u,Q,rx2,h4⟩:=hp;refine⟨a,C,A,fs,v,E,U,B.cl,B.no f (y9 hi),e3,j,l,t,st2,u,z8.stm h4 λρ3 H3 y Y S3 p3 l3 rp3 ry h5=>ad ρ3 H3 S3 d y v Y _ rp3 (Q.mono p3 l3) ry (z8.stm h5 λρ4 H4 z Z S4 p4 l4 rp4 rz h6=>?_)⟩;obtain⟨a',dx',fs',f1,f2,f3,q⟩:=Bi B hi rp4 (st2.mono (p3.trans p4) (l3.trans l4)) (rx2.mono (p3.trans p4) (l3.trans l4)) rz h6;rw[E] at f1;cases f1;exact⟨dx',fs',f2,f3,q⟩⟩
theorem cX {fs:List (Option M.D)}{m:Str} (r:Jr K ρ H N fs c) (hm:m∉N):c.lookup m=none:=Ac λz=>hm (r.within m z)
theorem w_me_meth {X:Cx}{k n:Nat}{e:zV}{es:List zV}{pos l:Pos} (L:QG X.K Θ c C N) (h:yR X.prog X.w X.K X.mg X.base C name k ps (SpM X.K Θ (n+1) f)) (hr:z4 kk X.A) (hk:k <= kk) (hm:name∉N) (U:WE X Θ o mo) (ha:WA X Θ (e::es) m) (ar:kF m n) (hx:Zq CX0 X E0:=by exact Xz)
  (he:qN e=true:=by rfl) (B:es.all qN=true:=by rfl)
  (ht:zr (.Call (.Attribute o name l) (e::es) [] pos) X.env=(do
   let Y <- zr o X.env
   standAt l.atName
   let (f,first) <- holding [Y] (X4 Y name pl)
   callWith pos f first (qX pos (jK (e::es) X.env)) (xD pos (xp [] X.env))):=by rfl):WE X Θ (.Call (.Attribute o name l) (e::es) [] pos) (M.jN c f mo m):=by
 delta WA WE at U ha ⊢
 obtain⟨g,fd,F,b,mt⟩:=h.ex;refine (i9 U L.cl mt F (hr.mono hk) b .nil hx ha (qv he) (Qm B) ht).up λσ H Q ρ j S st rp h=>⟨ρ,j,S,st,rp,zG.bind h λt E x X1 u p1 l1 y rx h1=>?_⟩
 cases x with
 | ref p =>
  have i:zG X.K Θ (zO X.K) t E (match u[p]? with | some (.ins v _)=>if v=c then (m j u).bind λxs s=>f (.ref p::xs) s else .no | _=>.no) Q:=h1;cases q:u[p]? with
  | none=>rw[q] at i;exact i.elim
  | some ob =>
   rw[q] at i;cases ob with
   | ins v fs =>
    by_cases hc:v=c
    ·subst hc;have r:zG X.K Θ (zO X.K) t E (if v=v then (m j u).bind λxs s=>f (.ref p::xs) s else .no) Q:=i;rw[if_pos rfl] at r;obtain⟨a,rfl,G⟩:=id rx;obtain⟨dx,gs,e1,e2⟩:=YY L y G q;refine⟨a,dx,gs,rfl,e1,cX e2 hm,t,j,u,st.mono p1 l1,y,?_⟩;cases z:m j u with
     | no=>rw[z] at r;exact r.elim
     | exc a s=>rw[z] at r;exact r
     | ok ds S2 =>
      rw[z] at r;intro I H2 vs p2 l2 J r2;rw[yZ];exact⟨I,.ref p::ds,S2,by rw[zx,ar _ _ _ _ z],⟨_,_,rfl,rx.mono p2 l2,r2⟩,J,zG.weak r p2 l2⟩
    ·have r:zG X.K Θ (zO X.K) t E (if v=c then (m j u).bind λxs s=>f (.ref p::xs) s else .no) Q:=i;rw[if_neg hc] at r;exact r.elim
   | lst _=>exact i.elim
   | dct _=>exact i.elim
   | fdc _=>exact i.elim
   | dtt _=>exact i.elim
   | ftt _=>exact i.elim
 | _=>exact h1.elim
theorem w_me_meth0 {X:Cx}{k:Nat}{pos i:Pos} (v:QG X.K Θ c C N) (h:yR X.prog X.w X.K X.mg X.base C name k ps (SpM X.K Θ 1 f)) (G:z4 I X.A) (J:k <= I) (hm:name∉N) (y:WE X Θ o mo) (L:Zq CX0 X E0:=by exact Xz)
  (U:zr (.Call (.Attribute o name i) [] [] pos) X.env=(do
   let z <- zr o X.env
   standAt i.atName
   let (f,first) <- holding [z] (X4 z name pl)
   callWith pos f first (qX pos (jK [] X.env)) (xD pos (xp [] X.env))):=by rfl):WE X Θ (.Call (.Attribute o name i) [] [] pos) (M.jN c f mo M.zC):=by
 delta WE at y ⊢
 obtain⟨g,fd,F,b,mt⟩:=h.ex;refine (EO y v.cl mt F (G.mono J) b .nil L U).up λσ H Q ρ s S st Y h=>⟨ρ,s,S,st,Y,zG.bind h λj t x X1 l p1 l1 n rx B=>?_⟩
 cases x with
 | ref p =>
  have e:zG X.K Θ (zO X.K) j t (match l[p]? with | some (.ins m _)=>if m=c then f [.ref p] l else .no | _=>.no) Q:=B;cases q:l[p]? with
  | none=>rw[q] at e;exact e.elim
  | some ob =>
   rw[q] at e;cases ob with
   | ins m fs =>
    by_cases E:m=c
    ·subst E;have r:zG X.K Θ (zO X.K) j t (if m=m then f [.ref p] l else .no) Q:=e;rw[if_pos rfl] at r;obtain⟨a,rfl,u⟩:=id rx;obtain⟨dx,gs,e1,e2⟩:=YY v n u q;exact⟨a,dx,gs,rfl,e1,cX e2 hm,j,[.ref p],l,rfl,⟨_,_,rfl,rx,rfl⟩,n,r⟩
    ·have r:zG X.K Θ (zO X.K) j t (if m=c then f [.ref p] l else .no) Q:=e;rw[if_neg E] at r;exact r.elim
   | lst _=>exact e.elim
   | dct _=>exact e.elim
   | fdc _=>exact e.elim
   | dtt _=>exact e.elim
   | ftt _=>exact e.elim
 | _=>exact B.elim
theorem w_me_make {X:Cx}{k n E:Nat}{e:zV}{es:List zV}{pos p:Pos} (cm:QG X.K Θ c C N) (h:Uj X.prog X.w X.K X.mg X.base C x k ps (SpM X.K Θ (n+1) f)) (hr:z4 kk X.A) (hk:k+1 <= kk) (hn:N.length=E) (hg:Gl X x) (ha:WA X Θ (e::es) m) (ar:kF m n) (hx:Zq CX0 X E0:=by exact Xz) (J:(x == ("__debug__" : Str))=false:=by decide)
  (he:qN e=true:=by rfl) (L:es.all qN=true:=by rfl):WE X Θ (.Call (.Name x p) (e::es) [] pos) (M.K2 c E f m):=by
 delta WA WE at ha ⊢
 obtain⟨g,fd,F,b,mk,U⟩:=h.ex;refine (fX mk F (hr.mono hk) hg U b .nil hx ha J (qv he) (Qm L)).up λσ H Q ρ r S st rp h=>⟨ρ,r,S,st,rp,?_⟩
 have h':zG X.K Θ (zO X.K) ρ H ((m r S).bind λxs s=>(f (.ref s.length::xs) (s++[.ins c (z9 E none)])).bind λd s'=>if d=.non then .ok (.ref s.length) s' else .no) Q:=h;cases G:m r S with
 | no=>rw[G] at h';exact h'.elim
 | exc a s=>rw[G] at h';exact h'
 | ok ds Y =>
  rw[G,M.R.bind_ok] at h';intro j t vs p1 l1 u r1 y o hy z hne;rw[yZ];have l2:Le t (upd t o (.own y)):=Le.new z _;have rp2:=u.aside z (.own y);have B:upd t o (.own y) y=none:=by rw[ja (ZJ hne)];exact hy
  have l3:Le (upd t o (.own y)) (upd (upd t o (.own y)) y (.ins C o [])):=Le.new B _;have pre:j <+: j++[y]:=Zo _ _;have rp3:zY X.K Θ (j++[y]) (Y++[.ins c (z9 E none)]) (upd (upd t o (.own y)) y (.ins C o [])):=by
   refine rp2.alloc B ⟨C,o,[],N,qp,cm.tab,by rw[aC];exact hn.symm,cZ,(λf hf=>nomatch hf),λi f d _ q=>?_⟩;rw[K3] at q;split at q<;>cases q
  have l:(j++[y])[Y.length]? = some y:=by rw[<- u.len];simp
  refine⟨j++[y],.ref Y.length::ds,_,by rw[zx,ar _ _ _ _ G],⟨_,_,rfl,⟨y,rfl,l⟩,r1.mono pre (l2.trans l3)⟩,rp3,?_⟩;refine zG.bind (zG.weak h' (p1.trans pre) (l1.trans (l2.trans l3))) λρ4 H4 d v S4 p4 l4 rp4 rv I=>?_;by_cases hd:d=.non
  ·subst hd;rw[if_pos rfl] at I;cases rv;exact⟨rfl,zG.here I rp4 ⟨y,rfl,kh p4 l⟩⟩
  ·rw[if_neg hd] at I;exact I.elim
end
end L2
namespace L2
open PySem PySem.Spec PyProof.Rows
section
variable {P:jB}{w:jG}{A:jc}{E:zD->zJ->Prop}{s:zJ}
theorem Lp:U0 (.type "list_reverseiterator") "__len__" = pure none:=by rw[K7,X0];kernel_rfl
theorem HZ:U0 (.type "list_reverseiterator") "__length_hint__" = pure (some (.builtin "list_reverseiterator.__length_hint__")):=by rw[K7,X0];kernel_rfl
theorem LB {I l:zE}{i:Int}{R:Bool->zJ->Prop} (h:s.heap.IsRevIter I l i) (q:R false s):wpAny (zP P w) A (lZ (.ref I)) R E s:=by
 unfold lZ;refine zS (Y9 h.typeIs Lp ?_);show wpAny (zP P w) _ (specialOf (qG I) (Xq "__length_hint__") >>= _) _ _ _;refine zS (Y9 h.typeIs HZ ?_);generalize e:("list_reverseiterator.__length_hint__" : String)=f
 wp_delta
 rw[show splitId f=some ("list_reverseiterator","__length_hint__") from by subst e;decide +kernel];subst e;refine zS (bh (T := "list_reverseiterator") (b:=true) h.typeIs (by rw[Yb];kernel_rfl) ?_);refine xu (λc=>absurd c (by decide)) (λ_=>?_);refine xu (λ_=>?_) (λc=>absurd (by decide +kernel) c);refine xu (λc=>absurd c (by decide +kernel)) (λ_=>?_);exact wpAny_pure q
end
theorem GX:PySem.Slot "reversed" "__init__" "object.__init__" :=
 .of (owner := "object") (n := "__init__") (by rw[K7,X0];kernel_rfl) (by decide +kernel) (by decide +kernel) (by decide +kernel)
  (by first | exact .inl (by decide +kernel) | exact .inr (by decide +kernel)) (by rw[Yb];kernel_rfl)
theorem iq:TypeCalled "reversed" "reversed.__new__" "object.__init__" :=
 ⟨by decide +kernel,by decide +kernel,⟨_,_,PySem.F.mro_reversed⟩,PySem.F.made_reversed,by decide +kernel,PySem.F.sub_reversed_self,GX⟩
theorem K0:PySem.Slot "reversed" "__next__" "reversed.__next__" :=
 .of (owner := "reversed") (n := "__next__") (by rw[K7,X0];kernel_rfl) (by decide +kernel) (by decide +kernel) (by decide +kernel)
  (by first | exact .inl (by decide +kernel) | exact .inr (by decide +kernel)) (by rw[Yb];kernel_rfl)
theorem DJ:PySem.Slot "reversed" "__iter__" "reversed.__iter__" :=
 .of (owner := "reversed") (n := "__iter__") (by rw[K7,X0];kernel_rfl) (by decide +kernel) (by decide +kernel) (by decide +kernel)
  (by first | exact .inl (by decide +kernel) | exact .inr (by decide +kernel)) (by rw[Yb];kernel_rfl)
theorem Ao:Manifest.owners.lookup (String.ofList ['d','e','s','r','e','v','e','r'].reverse)=some Manifest.sig_reversed:=by kernel_rfl
theorem Bh (a:zD):argsOk "reversed.__next__" ⟨[a],[]⟩:=by
 unfold argsOk;rw[signature?_of (id := "reversed.__next__") (n:=['_','_','t','x','e','n','_','_']) (o:=['d','e','s','r','e','v','e','r']) (by kernel_rfl) Ao];kernel_rfl
theorem hW (a:zD):argsOk "reversed.__iter__" ⟨[a],[]⟩:=by
 unfold argsOk;rw[signature?_of (id := "reversed.__iter__") (n:=['_','_','r','e','t','i','_','_']) (o:=['d','e','s','r','e','v','e','r']) (by kernel_rfl) Ao];kernel_rfl
theorem cJ:entryFor table "reversed.__next__" = some Builtin.«reversed.__next__» := entryFor_of_tree (by kernel_rfl)
theorem lP:entryFor table "reversed.__iter__" = some Builtin.«dict_keyiterator.__iter__» :=
 entryFor_alias (id' := "dict_keyiterator.__iter__") (by kernel_rfl) (by first | rfl | decide +kernel | (unfold String.splitOn;simp +decide [String.splitOnAux])) (by decide +kernel) (by kernel_rfl)
theorem fx:U0 (.type "tuple") "__reversed__" = pure none:=by rw[K7,X0];kernel_rfl
def Jm (h:zi) (a t:zE) (i:Int):Prop:=h.get? a=some { cls:=.type "reversed",dict:=none,data:=.fields #[.ref t,QX i],slots:=#[] }
section
variable {P:jB}{w:jG}{A:jc}{E:zD->zJ->Prop}{s:zJ}
theorem Jm.typeIs {a:zE} (x:Jm s.heap a t i):s.TypeIs (.ref a) "reversed" := ⟨_,x,rfl⟩
theorem mw (t:zE) (xs:Array zD):Meets (Builtin.«reversed.__new__» ⟨[.type "reversed",.ref t],[]⟩) (λ_ R s=>xB s.heap t xs/\(xs.size:Int) < 2 ^ 63/\R (.ok (.ret (.ref s.heap.objs.size))) { s with heap:=s.heap.push { cls:=.type "reversed",data:=.fields #[.ref t,QX ((xs.size:Int) - 1)] },toks:=s.toks+1+1 }) :=
 .of_wp λprog w A R s h=>by
  obtain⟨e,f,h⟩:=h;unfold Builtin.«reversed.__new__»;refine zS (vN (newClass_reversed _) ?_)
  try dsimp only
  refine zS (vN (a:=()) (by first | rfl | kernel_rfl) ?_);refine zS (vN (a:=()) (by first | rfl | kernel_rfl) ?_)
  try dsimp only
  refine zS (Y9 e.typeIs fx ?_)
  try dsimp only
  refine zS (zS (bh (T := "tuple") (b:=false) e.typeIs (by rw[Yb];kernel_rfl) ?_));refine xu (λc=>absurd c (by decide)) (λ_=>?_);refine zS (Y9 e.typeIs PySem.F.slot_tuple_getitem.lookup ?_);refine xu (λ_=>?_) (λc=>absurd (by decide +kernel) c);refine wpAny_pure ?_;refine xu (λc=>absurd c (by decide)) (λ_=>?_);refine zS (len_tuple e f ?_);refine zS (m:=asInt? _) (wpAny_pure ?_);refine zS (m:=NL _ _) ?_;show wpAny (zP prog w) _ (newObj (.type "reversed") (.fields #[.ref t,QX ((xs.size:Int) - 1)])) _ _ _;exact JV (wpAny_pure ⟨_,rfl,h⟩)
theorem Fp {Q:zD->zJ->Prop} (c:xB s.heap t xs) (e:(xs.size:Int) < 2 ^ 63)
  (q:Q (.ref s.heap.objs.size) { s with heap:=s.heap.push { cls:=.type "reversed",data:=.fields #[.ref t,QX ((xs.size:Int) - 1)] },toks:=s.toks+1+1 }):wpAny (zP P w) A (call (.type "reversed") [.ref t]) Q E s:=by
 refine callType_new iq (by decide) (PySem.F.typeCall_reversed_1 _) (PySem.F.newCall_reversed_1 _) (λobj=>PySem.F.args_object_init_2 obj _) PySem.F.entry_reversed_new (mw t xs) ⟨c,e,?_⟩;exact⟨⟨_,qi _ rfl,rfl⟩,q⟩
theorem Ik {i:Nat}{x:zD}{Q:Option zD->zJ->Prop} (hit:Jm s.heap it t (i:Int)) (l:xB s.heap t xs) (hi:i < 2 ^ 62) (c:xs[i]? = some x)
  (q:∀ h',Jm h' it t ((i:Int) - 1)->xR it s.heap h'->Q (some x) { s with heap:=h',toks:=s.toks+1 }):wpAny (zP P w) A (vC (.ref it)) Q E s:=by
 unfold vC;refine zS (Ug (DY (name:=Xq "__next__") hit.typeIs K0
  (Y4 K0 hit.typeIs cJ ?_ (Bh _))))
 unfold Builtin.«reversed.__next__»;refine zS (vN (a:=(qG it,[])) rfl ?_)
 try dsimp only
 refine zS (xG hit rfl (x:=.ref t) rfl ?_);refine zS (xG hit rfl (x:=QX (i:Int)) rfl ?_);show wpAny (zP P w) _ (if (i:Int) < 0 then _ else _) _ _ s;rw[if_neg (by lia)];refine zS (Y9 l.typeIs PySem.F.slot_tuple_getitem.lookup ?_);refine xu (λe=>absurd e (by decide)) (λ_=>?_);refine zS (wpAny_mkInt ?_);have lt:i < xs.size:=by
  rcases Gk i xs.size with h | h
  ·exact h
  ·rw[Array.getElem?_eq_none h] at c;cases c
 refine zS (Ug (NC (s:={ s with toks:=s.toks+1 }) l (by lia) (by lia) (j:=i) (by unfold Cd;simp;lia) c ?_));refine zS (xG (s:={ s with toks:=s.toks+1 }) hit rfl (x:=QX (i:Int)) rfl ?_);refine zS (B9 (s:={ s with toks:=s.toks+1 }) hit (by simp) λh' f g=>?_);exact wpAny_pure ⟨x,rfl,wpAny_pure (q h' f g)⟩
theorem Hy {Q:Option zD->zJ->Prop} (c:A.handled=none) (hit:Jm s.heap it t (-1))
  (q:∀ h',Heap.ExtBut it s.heap h'->Q none { s with heap:=h' }):wpAny (zP P w) A (vC (.ref it)) Q E s:=by
 unfold vC;refine zS (Ug (DY (name:=Xq "__next__") hit.typeIs K0
  (Y4 K0 hit.typeIs cJ ?_ (Bh _))))
 unfold Builtin.«reversed.__next__»;refine zS (vN (a:=(qG it,[])) rfl ?_)
 try dsimp only
 refine zS (xG hit rfl (x:=.ref t) rfl ?_);refine zS (xG hit rfl (x:=QX (-1)) rfl ?_);show wpAny (zP P w) _ (if (-1:Int) < 0 then _ else _) _ _ s;rw[if_pos (by decide)];refine zS (k7 ?_);refine zS ?_;show wpAny (zP P w) _ (setField (.ref it) 1 (QX (-1)) >>= λ_=>setField (.ref it) 0 .none) _ _ s;refine zS (B9 hit (by simp) λe f s1=>?_);refine B9 (s:={ s with heap:=e }) f (by simp) λh i g=>?_
 first
 | show wpAny (zP P w) _ (newExc (.type "StopIteration") [] >>= _) _ _ _
 | (refine zS ?_;show wpAny (zP P w) _ (newExc (.type "StopIteration") [] >>= _) _ _ _)
 refine zS ?_;simp only[newExc,newTuple];refine zS (JV ?_ (by size_fits));refine zS (m:=gL _ _) (vN (a:=vA) (by first | rfl | (simp only[gL];rfl)) ?_);refine JV ?_ (by size_fits);simp only[raiseNew];refine zS (wpAny_handled ?_)
 first | rw[show A.in1.handled=none from c] | rw[c]
 refine zS (wpAny_pure (wpAny_throw ?_));refine zS (bh (T := "StopIteration") (b:=true) ⟨_,qi _ rfl,rfl⟩ isSubtype_stop ?_);exact wpAny_pure (q _ (((s1.extBut.trans g.extBut).push _).push _))
theorem BF {Q:zD->zJ->Prop} (hit:Jm s.heap it t i) (h:Q (.ref it) s):wpAny (zP P w) A (YC (.ref it)) Q E s:=by
 refine wpAny_pyIter_slot hit.typeIs DJ (Y4 DJ hit.typeIs lP ?_ (hW _));show wpAny (zP P w) _ (ret (.ref it)) _ _ s;exact wpAny_pure ⟨_,rfl,"reversed",_,hit.typeIs,K0.lookup,h⟩
end
theorem Mn {xs:List zD} (h:ItemsOf (λi v=>xs.toArray[xs.toArray.size - 1 - i]? = some v) c xs.length):c=xs.reverse.toArray:=by
 apply Array.toList_inj.mp;apply List.ext_getElem?;intro j;rcases Gk j xs.length with f | f
 ·have e:c[j]? = some (c[j]'(by rw[h.1];exact f)):=Array.getElem?_eq_getElem _;have g:=h.2 j _ e;rw[kG,e,<- g,eV f];simp
 ·rw[YH (by rw[jm,h.1];exact f),YH (by simpa using f)]
section
variable {Θ:Tab}
theorem BG:qk "reversed" = some (.type "reversed"):=by decide +kernel
end
end L2
namespace L2
open PySem PySem.Spec PyProof.Rows
def SIt (b:Bool) (h:zi) (it a:zE) (i:Nat):Prop:=match b with | true=>h.IsListIter it a i | false=>h.IsTupleIter it a i
section
variable {P:jB}{w:jG}{A:jc}{E:zD->zJ->Prop}{s:zJ}
structure ZAt (b1 b2:Bool) (z TI TO i1 i2 l1 l2:zE) (i:Nat) (h:zi):Prop where
 zp:IsZip h z TI TO .none
 ti:KR h TI (.ref i1) (.ref i2)
 to:∃ a b,KR h TO a b
 n1:SIt b1 h i1 l1 i
 n2:SIt b2 h i2 l2 i
end
section
variable {Θ:Tab}
theorem AN {S:M.S}{ds:List M.D} (e:M.zy S p=some ds):S[p]? = some (.lst ds):=by
 unfold M.zy at e;split at e
 ·rename_i c f;cases e;exact f
 ·cases e
end
end L2
namespace L2
open PySem PySem.Spec PyProof.Rows
section
variable {P:jB}{w:jG}{A:jc}{E:zD->zJ->Prop}{s:zJ}
set_option maxHeartbeats 4000000 in
end
end L2
namespace L2
open PySem PySem.Spec PyProof.Rows
noncomputable def wk:HO->Bool
 | .dK _=>true
 | .ext _=>true
 | _=>false
section
variable {K:PySem.W.Frag}{Θ:Tab}{ρ:List zE}{H H':Hp}
section
variable {a:zE}{o:Obj}{u:HO} (hu:wk u=true) (ha:H a=some (.frz o u))
include hu ha
end
end
end L2
namespace L2
open PySem PySem.Spec PyProof.Rows
noncomputable def Itv (K:PySem.W.Frag) (a:zE) (xs:List V):It :=
 ⟨λi H=>SqT K H a xs/\∃ x,xs.reverse[i]? = some x,λi H x c=>c=H/\xs.reverse[i]? = some x,λi H=>SqT K H a xs/\xs.length <= i⟩
theorem FZ {P:jB}{K:PySem.W.Frag} (a it:zE) (xs:List V) (hz:xs.length < 2 ^ 62):Je P w K tg (Itv K a xs) [it] it (λi h=>i <= xs.length/\Jm h it a ((xs.length:Int) - 1 - (i:Int))) where
 mem:=by simp
 obj:=λi h st b g=>by
  have e:b=it:=by simpa using g
  subst e;exact⟨_,st.2,λv z=>nomatch z⟩
 keep:=λi h h' st k=>⟨st.1,k it (by simp) _ st.2⟩
 item:=by
  intro X m hw n G i f s σ H E I l st q;subst m hw n;obtain⟨J,x,j⟩:=q;obtain⟨its,L,p,_⟩:=I.tuple J;have hl:=L.length;have hi:i < xs.length:=by have:=(List.getElem?_eq_some_iff.mp j).1;rwa [kv] at this
  have r:xs[xs.length - 1 - i]? = some x:=by rw[eV hi] at j;exact j
  obtain⟨u,M,N⟩:=L.get r;obtain⟨t,y,Q,A,B,C⟩:=l it (by simp);have e:(xs.length:Int) - 1 - (i:Int)=((xs.length - 1 - i:Nat):Int):=by lia
  have hit:=st.2;rw[e] at hit;refine Ik hit p (by lia) (x:=u) (by simpa using M) λh' c sb=>?_;have U:((xs.length - 1 - i:Nat):Int) - 1=(xs.length:Int) - 1 - ((i+1:Nat):Int):=by lia
  rw[U] at c;have Y:Inv X f σ H { s with heap:=h',toks:=s.toks+1 }:=I.turned (t':=s.toks+1) (λb o g e=>sb.extBut b o g e) t y A B C;exact⟨u,rfl,kL (s:={ s with heap:=h',toks:=s.toks+1 }) c rfl rfl (by decide) ⟨x,H,Y,N,⟨rfl,j⟩,⟨hi,c⟩,λb g=>(l b g).1⟩⟩
 done:=by
  intro X m hw n G i f s σ H E I l st q;subst m hw n;obtain⟨J,j⟩:=q;obtain⟨t,y,Q,A,B,C⟩:=l it (by simp);have e:(xs.length:Int) - 1 - (i:Int) = -1:=by have:=st.1;lia
  have hit:=st.2;rw[e] at hit;exact Hy (I.ok.hd G) hit λh' eb=>⟨rfl,I.turned (t':=s.toks) (λb o g e=>eb b o g e) t y A B C⟩
 self:=λ_ _ _ _ _ st h=>BF st.2 h
def Mb (K:PySem.W.Frag) (e:TA):TI:=λσ H R=>e σ H λvs c=>∃ a xs,vs=[.ref a]/\SqT K c a xs/\R (Itv K a xs) c
theorem gj {X:Cx}{a:zV}{p pos:Pos} (n:Gl X "reversed") (hm:X.mg "reversed" = none) (ha:PA X [a] r) (j:qN a=true):PI X tg (.Call (.Name "reversed" p) [a] [] pos) (Mb X.K r):=by
 intro c s σ H R I h;refine Call_ (xV I n hm BG (Vo (zu (ha pos c s σ H _ I h) λus s1 vs t f u v=>?_) (qv j) (Qm (by simp))));obtain⟨i,xs,rfl,w,q⟩:=v;obtain⟨l,rfl,x⟩:∃ l,us=[l]/\l=.ref i:=by
  cases u with
  | cons c1 t1=>cases t1;exact⟨_,rfl,c1⟩
 subst x;obtain⟨its,y,p,z⟩:=f.tuple w;have m:=y.length;rw[Z8] at z;refine Fp p (by simp;lia) ?_;have g:Jm (s1.heap.push { cls:=.type "reversed",data:=.fields #[.ref i,QX ((its.toArray.size:Int) - 1)] }) s1.heap.objs.size i ((its.toArray.size:Int) - 1):=qi _ rfl;refine BF g ⟨s1.heap.objs.size,[s1.heap.objs.size],_,_,t,rfl,f.kept (t':=s1.toks+1+1) λb o e=>ji _ e,FZ i _ xs (by rw[m];lia),⟨ZV _,?_⟩,λb A=>?_,q⟩
 ·have e:((its.toArray.size:Int) - 1)=(xs.length:Int) - 1 - ((0:Nat):Int):=by rw[jo,m];lia
  rw[<- e];exact g
 ·have e:b=s1.heap.objs.size:=by simpa using A
  subst e;exact f.fpOk (zo _) (f.hok.fresh (zo _))
section
variable {Θ:Tab}
theorem fv {K:PySem.W.Frag}{a:zE}{ds:List M.D} (m:SqT K H a xs) (r:zU K t H ds xs):ItR K Θ t H (Itv K a xs) ds.reverse []:=by
 have n:=r.rev;refine⟨λj c o q p l f g e=>?_,λj c o q v w p l f g e y=>?_,λc o q p l f g=>?_⟩
 ·obtain⟨v,h,_⟩:=n.get (i:=j) (d:=ds.reverse[j]) (yQ e);exact⟨l.sqT m,v,h⟩
 ·obtain⟨x,h,u⟩:=(n.mono p l).get (i:=j) (d:=ds.reverse[j]) (yQ e);obtain⟨rfl,s⟩:=y;rw[h] at s;cases s;exact⟨ds.reverse[j],yQ e,u,Le.refl _,f⟩
 ·exact⟨l.sqT m,by rw[kv,r.length];exact zo _⟩
theorem w_mi_reversed {X:Cx}{p pos:Pos} (q:Gl X "reversed") (hm:X.mg "reversed" = none) (n:WE X Θ e m) (hs:qN e=true:=by rfl):WI X Θ tg (.Call (.Name "reversed" p) [e] [] pos) (M.vG m):=by
 delta WE WI at n ⊢
 exact (gj q hm (K8 n VZ hs) hs).imp λσ H R ⟨f,c,S,st,t,h⟩=>⟨f,c,S,st,t,by
   have h':zG X.K Θ _ f H (((m c S).bind λx s=>match x with
    | .tup ds=>M.R.ok (ds.reverse,([]:M.Gd)) s
    | _=>.no).bind λp s=>if M.zh p.2 s then .ok p s else .no) R:=h
   show zG X.K Θ _ f H ((m c S).bind λx s=>(M.R.ok [] s).bind λxs s=>.ok (x::xs) s) _;cases hm:m c S with
   | no=>rw[hm] at h';exact h'.elim
   | exc a s=>rw[hm] at h';exact h'
   | ok d y =>
    rw[hm] at h';intro g u vs p l i j;obtain⟨v,ys,rfl,j,w⟩:=j;cases w;cases d with
    | tup ds =>
     obtain⟨a,xs,rfl,o,r⟩:=j;exact⟨a,xs,rfl,o,h' g u _ p l i (fv o r)⟩
    | _=>exact h'.elim⟩
end
theorem Al:∀ {us:List zD}{ys:List Str},vf us ys->zd (ys.map V.str) us
 | _,_,.nil=>.nil
 | _,_,.cons x t r=>.cons ⟨t,rfl⟩ (Al r)
noncomputable def Ar (K:PySem.W.Frag):List V->Hp->VK->Prop:=λxs H Q=>∃ p ys,xs=[.ref p]/\SqL K H p (ys.map V.str)/\ys.length <= 16777216/\∀ q c,H q=none->c.Perm ys->UG c=true->Q (.ref q) (upd H q (.lst (c.map V.str)))
theorem GW {X:Cx}{k:Nat} (y:z4 k X.A):jq X (.builtin "sorted") (Ar X.K):=by
 intro f s σ H xs us Q I r h;obtain⟨p,ys,rfl,l,m,q⟩:=h;obtain⟨u,rfl,n⟩:=yU r;cases n;obtain⟨its,g,pl,z⟩:=I.list l;have i:its.length=ys.length:=by have:=g.length;simp at this;lia
 refine TS.mL pl.isList (Y2 g) (by lia) λout c t j v=>?_;obtain⟨e,w⟩:=sortedAll_at s.heap its out;have x:=j.length_eq;refine⟨.ref (s.heap.objs.size+1),_,I.laid (t':=s.toks) (o:=.lst (c.map V.str)) (λb ob q=>sortedAll_old q) (Wt _) ⟨by rw[jS,Z8];lia,out.toList,e,Al t,?_⟩,rfl,q _ _ (I.hok.fresh (Wt _)) j v⟩;simpa [ZO] using w
theorem Hu (a:M.T):¬ a < a:=λh=>List.lt_irrefl a h
theorem d7 {a b c:M.T} (e:¬ b < a) (f:¬ c < b):¬ c < a:=by
 rw[GY] at e f ⊢;exact List.le_trans e f
theorem GV {a b:M.T} (c:¬ b < a) (e:¬ a < b):a=b:=by
 rw[GY] at c e;exact List.le_antisymm c e
theorem UL (x:M.T):∀ ts:List M.T,(M.qJ.insT' x ts).Perm (x::ts)
 | []=>.refl _
 | y::r=>by
  unfold M.qJ.insT';split
  ·exact ((UL x r).cons y).trans (.swap x y r)
  ·exact .refl _
theorem wt:∀ ts:List M.T,(M.qJ ts).Perm ts
 | []=>.refl _
 | x::r=>(UL x _).trans ((wt r).cons x)
theorem Ab (x:M.T):∀ ts:List M.T,ts.Pairwise (λa b=>¬ b < a)->(M.qJ.insT' x ts).Pairwise (λa b=>¬ b < a)
 | [],_=>by unfold M.qJ.insT';simp
 | y::r,h=>by
  rw[UT] at h;unfold M.qJ.insT';split
  ·rename_i e;rw[UT];refine⟨λb c=>?_,Ab x r h.2⟩;rcases List.mem_cons.mp ((UL x r).mem_iff.mp c) with rfl | c
   ·exact λz=>Hu _ (List.lt_trans z e)
   ·exact h.1 b c
  ·rename_i e;rw[UT];refine⟨λb c=>?_,List.pairwise_cons.mpr h⟩;rcases List.mem_cons.mp c with rfl | c
   ·exact e
   ·exact d7 e (h.1 b c)
theorem bC:∀ ts:List M.T,(M.qJ ts).Pairwise (λa b=>¬ b < a)
 | []=>.nil
 | x::r=>Ab x _ (bC r)
theorem dU:∀ (p:Str) (l:List Str),risingS p l=true->(p::l).Pairwise (λa b=>¬ b.cps.toList < a.cps.toList)
 | p,[],_=>by simp
 | p,x::r,h=>by
  unfold risingS at h;rw[j8,X6,ltCps_eq,decide_eq_false_iff_not] at h;have e:=dU x r h.2;rw[UT];refine⟨λb c=>?_,e⟩;rcases List.mem_cons.mp c with rfl | c
  ·exact h.1
  ·exact d7 h.1 ((List.pairwise_cons.mp e).1 b c)
theorem Md (h:UG l=true):l.Pairwise (λa b=>¬ b.cps.toList < a.cps.toList):=by
 cases l with
 | nil=>exact .nil
 | cons x r=>exact dU x r h
theorem GO {ts:List M.T}{ys:List Str} (c:ys.Perm (ts.map ofT)) (hs:UG ys=true):ys=(M.qJ ts).map ofT:=by
 refine List.Perm.eq_of_pairwise (le:=λa b=>¬ b.cps.toList < a.cps.toList) (λa b _ i f g=>?_) (Md hs) ?_ (c.trans ((wt ts).map ofT).symm)
 ·have e:=GV f g;cases a with
  | mk j=>cases b with
   | mk l=>exact congrArg Str.mk (Array.toList_inj.mp e)
 ·rw[List.pairwise_map];refine (bC ts).imp λ{a b} h=>?_;rw[ZP,ZP];exact h
section
variable {K:PySem.W.Frag}{Θ:Tab}
theorem my:AdN K Θ M.uF (Ar K):=by
 intro u H S xs v Q g c h;unfold M.uF at h;split at h
 ·rename_i p;obtain⟨Y,r,rfl,ry,rfl⟩:=c;split at h
  ·rename_i ds e;obtain⟨a,w,rfl,ha,i,j⟩:=JL g ry (AN e);unfold M.V4 at h;split at h
   ·rename_i ts l;obtain⟨rfl,hok⟩:=KU l j;split at h
    ·rename_i f;refine⟨a,ts.map ofT,rfl,SqL.of i,by rw[jS];exact f,λq m n o hs=>?_⟩;rw[GO o hs];exact h.alloc g (Ul (M.qJ ts) λt s=>hok t ((wt ts).mem_iff.mp s)) n
    ·exact h.elim
   ·exact h.elim
  ·exact h.elim
 ·exact h.elim
end
theorem HI {X:Cx}:MtR X "str.find" (λx vs H Q=>∃ z y,x=.str z/\vs=[.str y]/\Q (.int (uS z y)) H):=by
 intro c s σ H x vs v us Q I rx e h;obtain⟨z,y,rfl,rfl,q⟩:=h;obtain⟨t,rfl⟩:=rx;obtain⟨u,rfl,f,rfl⟩:=yU e;exact SC.find ⟨.int _,H,I.tok _,⟨_,rfl⟩,q⟩
theorem HV (x:M.T) (c:Nat):uS (ofT x) (ofT [c])=M.xo c x 0:=by
 unfold uS M.xo;rw[J0];rcases G7 (ofT x) (ofT [c]) 1 (by decide) with ⟨e,h⟩ | ⟨i,r,e,h,f⟩
 ·have g:x.findIdx? (· == c)=none:=by
   rw[List.findIdx?_eq_none_iff];intro d hd;obtain⟨i,hi,q⟩:=List.mem_iff_getElem.mp hd;cases l:d == c with
   | false=>rfl
   | true =>
    exact absurd ((WK c x i).mpr (by rw[yQ hi,q,eq_of_beq l])) (h i)
  rw[e,g]
 ·have hi:=(WK c x i).mp h;have hs:x.findIdx? (· == c)=some i:=by
   rw[List.findIdx?_eq_some_iff_getElem];obtain⟨m,n⟩:=List.getElem?_eq_some_iff.mp hi;refine⟨m,by simp[n],λj o q=>f j o ((WK c x j).mpr ?_)⟩;rw[yQ (by lia)];exact congrArg some (eq_of_beq q)
  rw[e,hs];simp
section
variable {K:PySem.W.Frag}{Θ:Tab}
theorem nN:AdM K Θ M.Ux (λx vs H Q=>∃ z y,x=.str z/\vs=[.str y]/\Q (.int (uS z y)) H):=by
 intro j H S x xs X l Q f rx e h;unfold M.Ux at h;split at h
 ·rename_i z c;obtain⟨rfl,g⟩:=rx;obtain⟨Y,r,rfl,⟨rfl,i⟩,rfl⟩:=e;split at h
  ·refine⟨ofT z,ofT [c],rfl,rfl,?_⟩;rw[HV];exact zG.here h f rfl
  ·exact h.elim
 ·exact h.elim
end
theorem HR (x:M.T) (u:Tok):BU (ofT x) none none (-1,u)=ofT x.reverse:=by
 have h:=step_rev_list (ofT x) u;have f:(ofT x).length=x.length:=qL x;have e:(BU (ofT x) none none (-1,u)).cps.toList=x.reverse:=by
  rw[h,f];refine eh (by simp) λi l g=>?_;rw[List.getElem_map,HF,List.getElem_reverse];have hi:i < x.length:=by simpa using g
  simp[ofT,Array.getD,show x.length - 1 - i < x.length by lia]
 cases j:BU (ofT x) none none (-1,u) with
 | mk c =>
  rw[j] at e;exact congrArg Str.mk (Array.toList_inj.mp e)
theorem nJ {X:Cx}{st:zV}{m pos:Pos} (r:PE X e te) (j:PE X st (tC (.int (-1)))):PE X (.Subscript e (.Slice none none (some st) m) pos) (λσ H Q=>te σ H λx i=>∃ z:M.T,x=.str (ofT z)/\(ofT z).length <= zg/\Q (.str (ofT z.reverse)) i):=by
 intro f s σ H Q I h;refine Wz (zu (r f s σ H _ I h) λv s1 x i B C E=>?_);obtain⟨z,rfl,G,q⟩:=E;obtain⟨tx,rfl⟩:=C;refine b3 ?_;rw[wb];refine wpAny_pure (wpAny_pure ?_);rw[aH];refine zu (j f s1 σ i (λv J=>v=.int (-1)/\J=i) B ⟨rfl,rfl⟩) λu g y o L N ⟨U,Y⟩=>?_;subst U;subst Y;obtain⟨t,rfl⟩:=N;have p:Inv X f σ o { g with heap:=g.heap.push { cls:=.type "slice",data:=.fields #[.none,.none,.int (-1) t] } }:=L.kept (t':=g.toks) λb ob q=>ji _ q;show wpAny (zP X.prog X.w) X.A (Wq e (.Slice none none (some st) m) (.str (ofT z) tx) (.ref g.heap.objs.size)) (EP X f σ Q) X.xe { g with heap:=g.heap.push { cls:=.type "slice",data:=.fields #[.none,.none,.int (-1) t] } };refine yD (n:=1) p.tk ?_;refine vo (ops:=[.ref g.heap.objs.size,.str (ofT z) tx]) (xi _ _ _) F.slot_str_getitem.lookup ?_ (by with_unfolding_all rfl);refine Va (l:=none) (u:=none) (st:=some (-1,t)) ⟨_,qi _ rfl,rfl,rfl⟩ rfl (Y0 ⟨jM (Txt.sliceBy_le (ofT z) none none (-1,t) (show (-1:Int)≠0 by decide)) G,λt' c hc=>⟨.str (ofT z.reverse),o,p.tok c hc,⟨t',?_⟩,q⟩⟩);exact congrArg (λy=>X3 y t') (HR z t)
section
variable {X:Cx}{Θ:Tab}
theorem PE.or (h:PE X e t) (h':PE X e t'):PE X e (λσ H Q=>t σ H Q\/t' σ H Q):=λc s σ H Q I q=>by
 rcases q with q | q
 ·exact h c s σ H Q I q
 ·exact h' c s σ H Q I q
theorem w_me_rev {j:Nat}{r B C pos:Pos} (u:WE X Θ e m):WE X Θ (.Subscript e (.Slice none none (some (.UnaryOp .USub (.Constant (.int 1) j r) B)) C) pos) (M.eUn M.Yp m):=by
 delta WE at u ⊢
 exact (PE.or (EX u ((BJ dk wN).imp λσ H Q h=>⟨1,rfl,h⟩)) (nJ u ((BJ dk wN).imp λσ H Q h=>⟨1,rfl,h⟩))).up λσ H Q o g S st y h=>by
   have h':zG X.K Θ (zO X.K) o H ((m g S).bind M.Yp) Q:=h;cases hm:m g S with
   | no=>rw[hm] at h';exact h'.elim
   | exc a s=>rw[hm] at h';exact .inl ⟨o,g,S,st,y,by rw[hm];exact h'⟩
   | ok d t =>
    rw[hm] at h';have go:∀ {A:VK},(∀ f n v,o <+: f->Le H n->zY X.K Θ f t n->zO X.K f n d v->A v n)->RdE X.K Θ m σ H A:=λq=>⟨o,g,S,st,y,by rw[hm];exact q⟩
    cases d with
    | ref p =>
     refine .inl (go λf n v r w i rx=>?_);have l:zG X.K Θ (zO X.K) o H (match M.zy t p with | some xs=>M.alloc (.lst xs.reverse) t | none=>.no) Q:=h';cases e:M.zy t p with
     | none=>rw[e] at l;exact l.elim
     | some ds =>
      rw[e] at l;obtain⟨a,E,rfl,ha,G,I⟩:=JL i rx (AN e);exact⟨a,E,rfl,SqL.of G,λp J=>zG.alloc (zG.weak l r w) i I.rev J⟩
    | str z =>
     refine .inr (go λf n v r w i rx=>?_);obtain⟨rfl,ok⟩:=rx;have l:zG X.K Θ (zO X.K) o H (if z.length <= M.SZ then M.R.ok (.str z.reverse) t else .no) Q:=h';by_cases x:z.length <= M.SZ
     ·rw[if_pos x] at l;exact⟨z,rfl,by rw[qL,<- yr];exact x,l f n _ r w i ⟨rfl,kW ok λc L=>List.mem_reverse.mp L⟩⟩
     ·rw[if_neg x] at l;exact l.elim
    | _=>exact h'.elim
end
end L2
namespace L2
open PySem PySem.Spec PyProof.Rows PySem.Builtin.Str
section
variable {P:jB}{w:jG}{A:jc}{E:zD->zJ->Prop}{s:zJ}
theorem mU {I l:zE}{its:Array zD}{Q:List zD->zJ->Prop} (z:A.handled=none) (n:l≠I) (y:I < s.heap.objs.size) (B:l < s.heap.objs.size) (hit:s.heap.IsRevIter I l ((its.size:Int) - 1)) (C:s.heap.IsList l its) (G:its.size <= zg)
  (q:∀ h' tk h,s.toks <= tk->(∀ b o,b≠I->s.heap.get? b=some o->h'.get? b=some o)->ItemsOf (λi v=>its[its.size - 1 - i]? = some v) h its.size->Q h.toList { s with heap:=h',toks:=tk }):wpAny (zP P w) A (collect (.ref I)) Q E s:=by
 have W:=Walks.listRev (prog:=P) (w:=w) (A:=A.in1) z I l n its;have p:s.heap.objs.size∉[I,l]:=λhm=>by
  rcases List.mem_cons.mp hm with e | hm
  ·exact Z2 _ (e ▸ y)
  ·exact Z2 _ (List.mem_singleton.mp hm ▸ B)
 have r:s.heap.objs.size≠I:=KE y;unfold collect;refine zS (wpAny_runValue (iQ PySem.F.entry_proto_collect ?_));rw[HG PySem.F.plain_proto_collect _];show wpAny _ A.in1 (newList [] >>= λl=>again (.builtin "list.__iadd__" ⟨[l,.ref I],[]⟩)) _ _ s;refine zS (JV ?_);refine wpAny_pure ⟨plainId_quiet PySem.F.plain_list_iadd _,iQ PySem.F.entry_list_iadd ?_⟩;rw[HG PySem.F.plain_list_iadd _];have t:(0:Nat) <= its.size/\s.heap.IsRevIter I l ((its.size:Int) - 1 - ((0:Nat):Int))/\s.heap.IsList l its:=⟨ZV _,by simpa using hit,C⟩
 have f:=W.frame 0 s.heap (s.heap.push { cls:=.type "list",data:=.seq ([]:List zD).toArray }) t λb _ o e=>ji _ e;have g:(s.heap.push { cls:=.type "list",data:=.seq ([]:List zD).toArray }).get? s.heap.objs.size=some { cls:=.type "list",data:=.seq ([]:List zD).toArray }:=qi _ rfl;have H:Ed (.ref s.heap.objs.size) (.ref I)=false:=by simp[Ed,r]
 have t1:(JC "list_reverseiterator" == JC "list")=false:=by decide
 have t2:(JC "list_reverseiterator" == JC "tuple")=false:=by decide
 show wpAny _ A.in1 (LV (.ref s.heap.objs.size) (.ref I) (.ref s.heap.objs.size)) _ _ _;unfold LV;refine zS (cf (gX f.2.1) ?_);simp only[H,t1,t2,Gz,jv,if_false];refine zS (W.self 0 _ _ _ f ?_);refine zS (xx (LB f.2.1 ?_));rw[if_neg (by decide)];refine wpAny_pure ⟨plainId_quiet PySem.F.plain_extend_loop _,codeAny_extend_loopS W.toS G _ p _ its.size 0 _ _ _ rfl (ZV _) f g (ItemsOf.nil _) λu j M hm x m=>?_⟩;show wpAny _ A (load s.heap.objs.size >>= _) _ _ u;refine zS (wpAny_load x (wpAny_pure ?_));rw[Moved.eq_with hm];refine q u.heap u.toks j hm.toks (λb o J e=>hm.heap b o (λc=>?_) (ji _ e)) m;rcases List.mem_cons.mp c with L | c
 ·exact je (jR e) L
 ·exact J (List.mem_singleton.mp c)
theorem lM {I l:zE}{its:List zD}{x:Str}{t:Tok}{Q:zD->zJ->Prop} (n:A.handled=none) (i:l≠I) (u:I < s.heap.objs.size) (v:l < s.heap.objs.size) (hit:s.heap.IsRevIter I l ((its.toArray.size:Int) - 1)) (y:s.heap.IsList l its.toArray) (hs:vf its ys) (z:its.length <= zg) (B:(ys.map (·.length)).sum+ys.length * x.length <= 16777216)
  (q:∀ h' t' tk,(∀ b o,b≠I->s.heap.get? b=some o->h'.get? b=some o)->Q (.str (x6 x ys.reverse) t') { s with heap:=h',toks:=tk }):wpAny (zP P w) A (call (.builtin "str.join") [.str x t,.ref I]) Q E s:=by
 refine DD (codeAny_call_builtin PySem.F.slot_str_join.plain PySem.F.entry_str_join (PySem.F.slot_str_join.check _ _ _ _ _ _ _ _ (xi _ _ _) (PySem.F.args_str_join_2 _ _) ?_));rw[join_tree_other];refine zS (cf (gX hit) ?_);show wpAny _ A.in1 ((YC (.ref I)).tryCatch _ >>= λit=>collect it >>= λe=>joinTail x e) _ _ s;refine zS (wpAny_tryCatch (wpAny_pyIter_revIter hit ?_));refine zS (mU (A:=A.in1) n i u v hit y (by rw[jo];exact z) λh' tk f C G h=>?_);have ea:f=its.reverse.toArray:=Mn (by simpa using h);obtain⟨c,H,J⟩:=strsAre_values hs;have L:f.toList=YS c.reverse:=by
  rw[ea];show its.reverse=_;rw[H];unfold YS;rw[kq]
 rw[L];have m:c.reverse.map (·.1)=ys.reverse:=by rw[<- J,kq]
 have hok:JoinOk x (c.reverse.map (·.1))=true:=by
  rw[m];refine joinOk_of ?_;rw[kq,iW,kv];exact B
 unfold JoinOk at hok;rw[X6] at hok;have g:Gives (joinTail x (YS c.reverse)) (joinMade x c.reverse):=by
  have j:=gives_joinTail x c.reverse hok;generalize c.reverse=l at *;cases l with
  | nil=>exact j
  | cons p r=>cases r with
   | nil=>exact j
   | cons q M=>exact j
 refine g P w A (wants Q E) _ (post_join c.reverse ⟨joinFit_length hok,λt' k=>?_⟩);rw[m];exact q h' t' k G
end
section
variable {X:Cx}{Θ:Tab}{k:Nat}
noncomputable def FT (K:PySem.W.Frag) (x:Str):V->Hp->VK->Prop:=λv H Q=>∃ p,∃ ys:List Str,v=.ref p/\SqL K H p (ys.map V.str)/\(ys.map (·.length)).sum+ys.length * x.length <= 16777216/\Q (.str (x6 x ys.reverse)) H
theorem E3 {z:Str}{j:Nat}{p G c f i:Pos}{a:zV} (M:z4 k X.A) (w:Gl X "reversed") (x:X.mg "reversed" = none) (ha:PE X a N) (t:qN a=true:=by rfl) (r:(f.endLine == i.line)=true:=by rfl) :
  PE X (.Call (.Attribute (.Constant (.str z) j p) "join" f) [.Call (.Name "reversed" G) [a] [] c] [] i) (λσ H Q=>N σ H λv y=>FT X.K z v y Q):=by
 intro m s σ H Q I h;refine dC rfl rfl r rfl (Ub ?_);have I0:Inv X m σ H { s with toks:=s.toks+1 }:=I.tok _;obtain⟨U,Y⟩:=V8 (T := "str") I0 (show zj (.str z) (.str z s.toks) from ⟨_,rfl⟩) rfl;refine⟨"str","str.join",PySem.F.plainAttrs_str,PySem.F.slot_str_join,PySem.F.type_str_join,U,Y,?_⟩;refine uc rfl (dd ?_);show wpAny _ _ (U1 [(false,zr (.Call (.Name "reversed" G) [a] [] c) X.env)]) _ _ _;refine V6 ?_;refine Call_ (xV I0 w x BG (Vo ?_ (qv t) (Qm (by simp))));rw[qv (e:=a) (es:=[]) t];refine V6 (zu (ha m _ σ H _ I0 h) λu s1 v y B r1 q1=>wJ ?_);obtain⟨l,ys,rfl,hq,hz,q⟩:=q1;cases r1;obtain⟨its,J,pl,C⟩:=B.list hq;have hl:=J.length;have L:l < s1.heap.objs.size:=by obtain⟨o,e,_⟩:=pl.isList;exact jR e
 refine call_reversed_list pl.isList ?_;have g:(s1.heap.push (revObj l ((its.toArray.size:Int) - 1))).IsRevIter s1.heap.objs.size l ((its.toArray.size:Int) - 1):=⟨_,qi _ rfl,rfl,rfl⟩
 have n1:(s1.heap.push (revObj l ((its.toArray.size:Int) - 1))).objs.size=s1.heap.objs.size+1:=Q3 ..;refine wJ ?_;refine yD (n:=1) (show 1 <= _ from B.tk) (lM (I:=s1.heap.objs.size) (l:=l) (its:=its) (ys:=ys) M.hd (je L) (by show s1.heap.objs.size < (s1.heap.push _).objs.size;rw[n1];exact xg _) (by show l < (s1.heap.push _).objs.size;rw[n1];exact uE L) g (pl.isList.push _) (Y2 J) (by rw[<- hl];exact C) hz λh' t' tk kk E=>?_);exact⟨.str (x6 z ys.reverse),y,B.kept (t':=tk) (λb o e=>kk b o (je (jR e)) (ji _ e)) E,⟨_,rfl⟩,q⟩
theorem w_me_joinrev {y:M.T}{z:Str}{j:Nat}{p N t g l:Pos}{a:zV} (v:z=ofT y) (U:okT y) (Y:z4 k X.A) (w:Gl X "reversed") (B:X.mg "reversed" = none) (ha:WE X Θ a m) (C:qN a=true:=by rfl) (s:(g.endLine == l.line)=true:=by rfl) :
  WE X Θ (.Call (.Attribute (.Constant (.str z) j p) "join" g) [.Call (.Name "reversed" N) [a] [] t] [] l) (M.eUn (M.Vp y) m):=by
 delta WE at ha ⊢
 exact (E3 Y w B ha C s).up λσ H Q ρ E S st rp h=>⟨ρ,E,S,st,rp,zG.bind h λG H1 x X1 I p1 l1 u rx n=>by
   subst v;cases x with
   | ref i =>
    obtain⟨ad,rfl,ea⟩:=rx;have f:zG X.K Θ (zO X.K) G H1 (match M.zy I i with | some xs=>M.q7 y xs.reverse I | none=>.no) Q:=n;cases q:I[i]? with
    | none=>simp[M.zy,q] at f;exact f.elim
    | some o =>
     cases o with
     | lst ds =>
      simp only[M.zy,q] at f;obtain⟨zs,e1,r⟩:=Zc u ea q;cases e:M.y6 ds.reverse with
      | none=>simp only[M.q7,e] at f;exact f.elim
      | some ts =>
       obtain⟨ez,ok⟩:=KU e r.rev;have J:zs=(ts.reverse.map ofT).map V.str:=by
        have:=congrArg List.reverse ez;rw[Uk] at this;rw[this,kq,kq]
       by_cases L:(ts.map ZT).sum+ts.length * y.length <= M.SZ
       ·simp only[M.q7,e,if_pos L] at f;refine⟨ad,ts.reverse.map ofT,rfl,SqL.of (by rw[<- J];exact e1),?_,?_⟩
        ·rw[cH,jS,qL,kq,iW,kv];exact L
        ·rw[<- kq,Uk,dm];exact zG.here f u ⟨rfl,uU U ok⟩
       ·simp only[M.q7,e,if_neg L] at f;exact f.elim
     | dct kvs=>simp[M.zy,q] at f;exact f.elim
     | fdc _=>simp[M.zy,q] at f;exact f.elim
     | dtt _=>simp[M.zy,q] at f;exact f.elim
     | ftt _=>simp[M.zy,q] at f;exact f.elim
     | ins c fs=>simp[M.zy,q] at f;exact f.elim
   | non=>exact n.elim
   | bl _=>exact n.elim
   | int _=>exact n.elim
   | str _=>exact n.elim
   | tup _=>exact n.elim
   | ro _=>exact n.elim
   | ty _=>exact n.elim⟩
end
theorem EA {K:PySem.W.Frag}:AdN K g M.vJ (λxs H Q=>∃ i j,xs=[.int i,.int j]/\Q (.int (if j < i then j else i)) H):=by
 intro l H S xs m Q e c h;unfold M.vJ at h;split at h
 ·rename_i i j;obtain⟨Y,r,rfl,ry,Z,n,rfl,f,rfl⟩:=c;cases ry;cases f;exact⟨i,j,rfl,zG.here h e rfl⟩
 ·exact h.elim
end L2
namespace L2
open PySem PySem.Spec PyProof.Rows PySem.Builtin.Str
def Bu (K:PySem.W.Frag):R2:=λx y H Q=>∃ a b ys,x=.ref a/\y=.ref b/\SqT K H a []/\SqT K H b ys/\Q (.ref b) H
theorem mY {X:Cx}:OpR X (qy .Add) (Bu X.K):=by
 intro j s σ H x y v u Q I rx ry h;obtain⟨a,b,ys,rfl,rfl,ha,r,q⟩:=h;cases rx;cases ry;obtain⟨its,t,w,_⟩:=I.tuple ha;obtain⟨l,C,z,_⟩:=I.tuple r;cases t;obtain⟨⟨cls,A,data,B⟩,m,o,n,hd⟩:=id w;obtain⟨⟨p,g,data2,i⟩,c,e,n2,f⟩:=id z;simp only at o hd e f;subst o hd e f;exact dv ⟨_,m,rfl⟩ ⟨_,c,rfl⟩ c2 Dc PySem.F.slot_tuple_add PySem.F.entry_tuple_add (PySem.F.args_tuple_add_2 _ _)
  (tuple_addW0 _ _ _ _ n n2 A g B i rfl) ⟨m,c,⟨.ref b,H,I,rfl,q⟩⟩
theorem gU {K:PySem.W.Frag}:Ad2 K p M.VL (λx y H Q=>(wQ x y H Q\/WD K x y H Q)\/Bu K x y H Q):=by
 intro j H S x y X Y Q f rx ry h;by_cases g:∃ b,x=.tup []/\y=.tup b
 ·obtain⟨b,rfl,rfl⟩:=g;obtain⟨l,xs,rfl,m,r⟩:=id rx;obtain⟨i,ys,rfl,c,n⟩:=id ry;have o:xs=[]:=List.length_eq_zero_iff.mp r.length.symm;subst o;exact .inr ⟨l,i,ys,rfl,rfl,m,c,zG.here h f ⟨i,ys,rfl,c,n⟩⟩
 ·have e:M.VL x y S=M.zc x y S:=by
   unfold M.VL;split
   ·exact absurd ⟨_,rfl,rfl⟩ g
   ·rfl
  rw[e] at h;exact .inl (Ye j H S x y X Y Q f rx ry h)
end L2
namespace L2
open PySem PySem.Spec PyProof.Rows PySem.SeqAt
mutual
inductive IsV (h:zi):Nat->M.D->zD->Prop
 | non {n:Nat}:IsV h n .non .none
 | int {n:Nat}{i:Int}{t:Tok}:IsV h n (.int i) (.int i t)
 | str {n:Nat}{x:M.T}{t:Tok}:IsV h n (.str x) (.str (ofT x) t)
 | tup {n:Nat}{ds:List M.D}{a:zE}{us:List zD}:h.IsTuple a us.toArray->Y3 h n ds us->IsV h (n+1) (.tup ds) (.ref a)
inductive Y3 (h:zi):Nat->List M.D->List zD->Prop
 | nil {n:Nat}:Y3 h n [] []
 | cons {n:Nat}{d:M.D}{ds:List M.D}{u:zD}{us:List zD}:IsV h n d u->Y3 h n ds us->Y3 h n (d::ds) (u::us)
end
section
variable {X:Cx}{pins:List (zE×Obj)}{σ:St}{H:Hp}{s:zJ}
def A9 (K:PySem.W.Frag) (H:Hp) (d:M.D) (x:V):Prop:=M.kyT d=true/\∃ c,zO K c H d x
end
section
variable {X:Cx}{pins:List (zE×Obj)}{σ:St}{H:Hp}{s:zJ}{Θ:Tab}{K:PySem.W.Frag}{ρ:List zE}{S:M.S}
structure TDt (K:PySem.W.Frag) (H:Hp) (ha:M.D->Int) (a:zE) (xs:List (M.D×zE×zD)):Prop where
 at':H a=some (.ext (TD ha a xs))
 ks:∀ q∈xs,A9 K H q.1 (.ref q.2.1)
structure TDx (K:PySem.W.Frag) (H:Hp) (ha:M.D->Int) (a:zE) (xs:List (M.D×zE×zD)):Prop where
 at':H a=some (.ext (TD ha a xs))\/∃ o,H a=some (.frz o (.ext (TD ha a xs)))
 ks:∀ q∈xs,A9 K H q.1 (.ref q.2.1)
end
end L2
namespace L2
open PySem PySem.Spec PyProof.Rows
section
variable {P:jB}{w:jG}{A:jc}{E:zD->zJ->Prop}{s:zJ}
structure ILp (lo it S:zE) (us:List (zD×zD)) (h0 h:zi) (ps:List zE):Prop where
 its:∀ (j:Nat) p,ps[j]? = some p->lo <= p/\∃ x y,us[j]? = some (x,y)/\KR h p x y
 keep:∀ b o,b≠S->b≠it->h0.get? b=some o->h.get? b=some o
 nd:ps.Nodup
end
end L2
namespace L2
open PySem PySem.Spec PyProof.Rows
def IsG (K:PySem.W.Frag) (n:Str) (st:zf):Prop:=∃ f,PySem.W.nsIn K jb n=some (some (.ref f))/\∃ fd,Fun K n n st f fd
def IsM (K:PySem.W.Frag) (C:zE) (n q:Str) (st:zf):Prop:=∃ f,PySem.W.findIn K (.ref C) n=some (some (.ref f))/\PySem.W.isFn K (.ref f)=true/\∃ fd,Fun K n q st f fd
section
variable {K:PySem.W.Frag}{h:zi}{mg:Str->Option zD}{n q x:Str}{st:zf}{f C:zE}{P:jB}{w:jG}{base:zi}{k:Nat}{ps:List Str}{sp:Sp}
theorem isM {j kV pm:zD}{m:Option zE}{e:Array (Option zD)} (a:PySem.W.findIn K (.ref C) n=some (some (.ref f))) (i:PySem.W.isFn K (.ref f)=true) (l:K.lookup f=some ⟨j,m,.func (PySem.W.fnOf n q (QJ st) (yP st) (jl st) .none kV o pm p g ct),e⟩) (c:PySem.W.codeIn K g q=true) (kp:PySem.W.keepIn K (.ref f)=true):IsM K C n q st:=⟨f,a,i,_,uT l c kp⟩
theorem isG {i kV pm:zD}{j:Option zE}{e:Array (Option zD)} (a:PySem.W.nsIn K jb n=some (some (.ref f))) (l:K.lookup f=some ⟨i,j,.func (PySem.W.fnOf n n (QJ st) (yP st) (jl st) .none kV m pm o g ct),e⟩) (c:PySem.W.codeIn K g n=true) (kp:PySem.W.keepIn K (.ref f)=true):IsG K n st:=⟨f,a,_,uT l c kp⟩
def BA (x q:Str) (st:zf) (ps:List Str) (us:List zD):Prop:=∀ (kV c pm:zD) (g:Option zE) (e ct:zD),wx (PySem.W.fnOf x q (QJ st) (yP st) (jl st) .none kV c pm g e ct) ⟨us,[]⟩=pure (ps.zip us)
def Bnd (x q:Str) (st:zf) (ps:List Str):Prop:=∀ (kV c pm:zD) (g:Option zE) (e ct:zD) (us:List zD),us.length=ps.length->wx (PySem.W.fnOf x q (QJ st) (yP st) (jl st) .none kV c pm g e ct) ⟨us,[]⟩=pure (ps.zip us)
noncomputable def uR:Nat->(List zD->Prop)->Prop
 | 0,p=>p []
 | n+1,p=>∀ a,uR n λus=>p (a::us)
theorem ai:∀ (n:Nat) (p:List zD->Prop),uR n p->∀ us:List zD,us.length=n->p us
 | 0,p,h,us,e=>by
  cases us with
  | nil=>exact h
  | cons a us=>cases e
 | n+1,p,h,us,e=>by
  cases us with
  | nil=>cases e
  | cons a us=>exact ai n _ (h a) us (Nat.succ.inj e)
theorem bnd {x q:Str}{st:zf}{ps:List Str} (h:uR ps.length (BA x q st ps)):Bnd x q st ps:=λkV c pm i g ct us e=>ai _ _ h us e kV c pm i g ct
theorem VD (i:IsG K n st) (X:K.In h) (G:h.Ns jb mg) (b:Bnd n n st ps):∃ f fd,Fun K n n st f fd/\yH K fd ps []/\PySem.W.keepIn K (.ref f)=true/\mg n=some (.ref f):=by
 obtain⟨f,a,fd,F⟩:=i;exact⟨f,fd,F,F.binds b,F.kp,PySem.W.mg_of X G a⟩
theorem jx (i:IsG K n st) (X:K.In h) (G:h.Ns jb mg) (o:∀ f fd,Fun K n n st f fd->yH K fd ps []->PySem.W.keepIn K (.ref f)=true->mg n=some (.ref f)->zm P w K mg base CX0 k f fd ps sp) (b:Bnd n n st ps:=by exact bnd (by (repeat intro _);rfl)):Has P w K mg base n k ps sp:=by
 obtain⟨f,fd,F,B,kp,m⟩:=VD i X G b;exact⟨f,fd,o f fd F B kp m,B,kp,m⟩
theorem ZE (i:IsM K C n q st) (o:∀ f fd,Fun K n q st f fd->zm P w K mg base CX0 k f fd ps sp) (b:Bnd n q st ps:=by exact bnd (by (repeat intro _);rfl)):yR P w K mg base C n k ps sp:=by
 obtain⟨f,a,j,fd,F⟩:=i;exact⟨f,fd,o f fd F,F.binds b,a,j,F.kp⟩
theorem E9 (i:IsM K C "__init__" q st) (X:K.In h) (G:h.Ns jb mg) (a:PySem.W.nsIn K jb x=some (some (.ref C))) (mk:PySem.W.makesIn K C=true) (c:PySem.W.keepIn K (.ref C)=true) (o:∀ f fd,Fun K "__init__" q st f fd->zm P w K mg base CX0 k f fd ps sp) (b:Bnd "__init__" q st ps:=by exact bnd (by (repeat intro _);rfl)):Uj P w K mg base C x k ps sp:=by
 obtain⟨f,e,j,fd,F⟩:=i;exact⟨f,fd,o f fd F,F.binds b,⟨mk,e,j,c⟩,PySem.W.mg_of X G a⟩
end
section
variable {P:jB}{w:jG}{K:PySem.W.Frag}{mg:Str->Option zD}{base:zi}{Θ:Tab}{x qual:Str}{st:zf}{f:zE}{fd:QI}{N ps:List Str}{k:Nat}{b:M.SM}{q:M.F}
theorem w_fun_Mn (F:Fun K x qual st f fd) (h:M.jI ps.length (M.fn N.length b) q)
  (c:N.Nodup->∀ (e:zD) (A:jc) (outer:List Env) (s:zJ) (H:Hp) (E:XK),z4 k (A.deeper (y8 qual (jl st) s.heap.objs.size f e))->WSs (Ze CX0 P w K mg base N qual (jl st) f e A outer s H E).nox Θ (yP st) b)
  (g:Qu N ps (jl st):=by exact⟨rfl,rfl,rfl,by decide +kernel,rfl,by decide +kernel,by decide +kernel⟩):zm P w K mg base CX0 (k+1) f fd ps (SpM K Θ ps.length q):=w_fun_M F g h (c g.nd)
theorem w_fun_M0n (F:Fun K x qual st f fd)
  (c:N.Nodup->∀ (e:zD) (A:jc) (outer:List Env) (s:zJ) (H:Hp) (E:XK),z4 k (A.deeper (y8 qual (jl st) s.heap.objs.size f e))->WSs (Ze CX0 P w K mg base N qual (jl st) f e A outer s H E).nox Θ (yP st) b)
  (g:Qu N ps (jl st):=by exact⟨rfl,rfl,rfl,by decide +kernel,rfl,by decide +kernel,by decide +kernel⟩):zm P w K mg base CX0 (k+1) f fd ps (SpM K Θ ps.length (M.fn N.length b)):=w_fun_M0 F g (c g.nd)
end
end L2
set_option maxHeartbeats 4000000
namespace M
noncomputable section
noncomputable def UP:SM :=
  (ZK 4 0 (zA 0) (zA 2))
noncomputable def uo:SM :=
  (ZK 4 1 (zA 0) (zA 3))
noncomputable def ua:SM :=
  (ZK 4 2 (zA 0) VF)
noncomputable def Wo:SM :=
  (ZK 4 3 (zA 0) (eC (.int 0)))
noncomputable def US:SM :=
  (ZK 4 4 (zA 0) (jT zC))
noncomputable def WJ:SM :=
  (ZK 4 5 (zA 0) (jT (zB (ze (zB (eC (.str [112,97,114,116])) (zB (zA 1) (zB (eC .non) zC)))) zC)))
noncomputable def wh:SM :=
  (ZK 4 6 (zA 0) (eC .non))
noncomputable def vu:SM:=(zH UP (zH uo (zH ua (zH Wo (zH US (zH WJ wh))))))
noncomputable def CS:F:=fn 4 vu
noncomputable abbrev vb:F:=CS
noncomputable abbrev qd:T:=[116,101,120,116]
noncomputable abbrev VG:T:=[97,115,107,115]
noncomputable abbrev jn:T:=[102,97,105,108,115]
noncomputable abbrev qu:T:=[116,111,111,32,108,111,110,103]
noncomputable abbrev Kz:T:=[116,111,111,32,109,117,99,104]
noncomputable abbrev tNo:T:=[110,111,32,110,97,109,101]
noncomputable abbrev ZH:T:=[106,111,105,110]
noncomputable abbrev tIf:T:=[105,102]
noncomputable abbrev Z1:T:=[101,97,99,104]
noncomputable abbrev EE:T:=[114,111,117,110,100]
noncomputable abbrev tOf:T:=[111,102]
noncomputable abbrev JS:T:=[102,97,105,108]
noncomputable abbrev c9:T:=[98,97,99,107]
noncomputable abbrev C4:T:=[102,105,114,115,116]
noncomputable abbrev CA:T:=[114,101,115,116]
noncomputable abbrev aj:T:=[99,111,117,110,116]
noncomputable abbrev Hz:T:=[115,111,114,116,101,100]
def W5 (w:T):Prop:=w=c9\/w=C4\/w=CA\/w=aj\/w=Hz
def W7 (w:T):Prop:=w=tOf\/w=JS\/W5 w
noncomputable def zW (r:T×T):D:=.tup [.str r.1,.str r.2]
noncomputable def qc (kvs:List (T×T)) (x:T):Option T:=kvs.lookup x
noncomputable def pd (p:T×T):D×D:=(.str p.1,.str p.2)
theorem XA (x:T):∀ kvs:List (T×T),qM (.str x) (kvs.map pd)=(qc kvs x).map .str
 | []=>rfl
 | (k,v)::kvs=>by
  have c:=XA x kvs;unfold qM qc at *;rw[jH,ZA,ZA];show (match D.str x == D.str k with | true=>_ | false=>_)=_;by_cases e:x=k
  ·subst e;simp[pd]
  ·have f:(D.str x == D.str k)=false:=by simpa using e
   have g:(x == k)=false:=by simpa using e
   rw[f,g];exact c
theorem Ae {v:T} (h:qc ans x=some v):(x,v)∈ans:=by
 obtain⟨c,f,e,_⟩:=List.lookup_eq_some_iff.mp h;rw[e];simp
theorem at0 (x:D) (r:List D):atI (x::r) 0=some x:=by simp[atI,ixN]
theorem at1 (x y:D) (r:List D):atI (x::y::r) 1=some y:=by
 unfold atI ixN;rw[if_pos (by decide),if_pos (by simp only[zx];lia)];rfl
theorem ab {S:M.S}{a:Nat}{ans:List (T×T)} (ha:S[a]? = some (.dct (ans.map pd))) (x:T):inD (.str x) (.ref a) S=.ok (qc ans x).isSome S:=by
 simp only[inD,ha];rw[if_pos (show qC (.str x)=true from rfl),XA,Uy]
theorem fF {S:M.S}{a:Nat}{ans:List (T×T)} (ha:S[a]? = some (.dct (ans.map pd))) {v:T} (h:qc ans x=some v):zI (.ref a) (.str x) S=.ok (.str v) S:=by
 have hd:qM (.str x) (ans.map pd)=some (.str v):=by rw[XA,h];rfl
 simp only[zI,ha,hd];rfl
noncomputable def JG (u:List T) (n:T):List T:=u++(if u.contains n=true then [] else [n])
theorem cK (u:List T) (n:T):(JG u n).length <= u.length+1:=by
 unfold JG;split<;>simp
noncomputable def usD (c:List T):List (D×D):=c.map λx=>(D.str x,D.bl true)
theorem dY (c:List T):(usD c).map (λp:D×D=>p.1)=c.map D.str:=by unfold usD;rw[ZR];rfl
theorem LY (t:T) (c:List T):ym (.str t) (.bl true) (usD c)=usD (JG c t):=by
 have ha:((usD c).any λp=>decide (p.1=.str t))=c.contains t:=by
  unfold usD;rw[Lm,List.contains_eq_any_beq]
  congr 1
  funext x
  simp only[wq];by_cases h:x=t
  ·subst h;simp
  ·have e:(t == x)=false:=by simpa using λz:t=x=>h z.symm
   rw[e];simp[h]
 unfold ym JG;rw[ha];by_cases h:c.contains t=true
 ·rw[if_pos h,if_pos h,yZ];unfold usD;rw[ZR];refine Qa λx f=>?_;simp only[wq];split<;>rfl
 ·rw[if_neg h,if_neg h];unfold usD;rw[vi];rfl
inductive Tr where
 | txt (t:T) | line | it | stem | thing (n:T) | kin (n:T) | join (ts:List Tr) | ife (a b x y:Tr) | each (a b:Tr) | one (w:T) (a:Tr)
noncomputable def Tr.d:Tr->D
 | .txt t=>.tup [.str [116,101,120,116],.str t]
 | .line=>.tup [.str [108,105,110,101]]
 | .it=>.tup [.str [105,116]]
 | .stem=>.tup [.str [115,116,101,109]]
 | .thing n=>.tup [.str [116,104,105,110,103],.str n]
 | .kin n=>.tup [.str [107,105,110],.str n]
 | .join ts=>.tup (.str [106,111,105,110]::ds ts)
 | .ife a b x y=>.tup [.str [105,102],a.d,b.d,x.d,y.d]
 | .each a b=>.tup [.str [101,97,99,104],a.d,b.d]
 | .one w a=>.tup [.str w,a.d]
where ds:List Tr->List D
 | []=>[]
 | t::ts=>t.d::ds ts
theorem Tr.ds_map:∀ ts:List Tr,Tr.d.ds ts=ts.map Tr.d
 | []=>rfl
 | t::ts=>by rw[Tr.d.ds,Tr.ds_map ts];rfl
theorem Tr.d_join (ts:List Tr):(Tr.join ts).d=.tup (.str ZH::ts.map Tr.d):=by
 rw[Tr.d,Tr.ds_map]
inductive Out where
 | tx (t:T) | en (r:T×T)
abbrev Ct:=Nat×List T
noncomputable def qB (ans:List (T×T)) (n:T) (c:Ct):Out×Ct:=match qc ans n with
 | some v=>(.tx v,(c.1,JG c.2 n))
 | none=>(.en (VG,n),c)
noncomputable def yM:Out×Ct->Out×Ct
 | (.tx t,c)=>if 900 < t.length then (.en (jn,qu),c) else (.tx t,c)
 | r=>r
noncomputable def evs (f:Tr->Ct->Out×Ct):List Tr->T->Ct->Out×Ct
 | [],t,c=>(.tx t,c)
 | a::r,t,c=>match f a c with
  | (.en e,c)=>(.en e,c)
  | (.tx x,c)=>evs f r (t++x) c
noncomputable def evw (f:T->Ct->Out×Ct):List T->T->Ct->Out×Ct
 | [],t,c=>(.tx t,c)
 | w::r,t,c=>match f w c with
  | (.en e,c)=>(.en e,c)
  | (.tx x,c)=>if 900 < (t++x).length then (.en (jn,qu),c) else evw f r (t++x) c
noncomputable def Wk (S:M.S) (st:D) (a:Nat) (us:List (D×D)) (k:Int) (tx td:List D) (en:D) (g:M.S):M.S :=
 S++(.ins 4 [some st,some (.ref a),some (.ref (S.length+1)),some (.int k),some (.ref (S.length+2)),some (.ref (S.length+3)),some en]::.dct us::.lst tx::.lst td::g)
section
variable {S:M.S}{st:D}{a:Nat}{us us':List (D×D)}{k k':Int}{tx tx' td td':List D}{en en':D}{g:M.S}
theorem wk0:(Wk S st a us k tx td en g)[S.length]? = some (.ins 4 [some st,some (.ref a),some (.ref (S.length+1)),some (.int k),some (.ref (S.length+2)),some (.ref (S.length+3)),some en]):=by simp[Wk]
theorem wk1:(Wk S st a us k tx td en g)[S.length+1]? = some (.dct us):=by simp[Wk]
theorem wk2:(Wk S st a us k tx td en g)[S.length+2]? = some (.lst tx):=by simp[Wk]
theorem wk3:(Wk S st a us k tx td en g)[S.length+3]? = some (.lst td):=by simp[Wk]
theorem wkO {p:Nat}{o:O} (h:S[p]? = some o):(Wk S st a us k tx td en g)[p]? = some o:=yl h _
theorem ws0:(Wk S st a us k tx td en g).set S.length (.ins 4 [some st,some (.ref a),some (.ref (S.length+1)),some (.int k'),some (.ref (S.length+2)),some (.ref (S.length+3)),some en'])=Wk S st a us k' tx td en' g:=by
 unfold Wk;rw[K9 _ _ (zo _),Fq];rfl
theorem ws1:(Wk S st a us k tx td en g).set (S.length+1) (.dct us')=Wk S st a us' k tx td en g:=by
 unfold Wk;rw[K9 _ _ (by lia),show S.length+1 - S.length=1 by lia];rfl
theorem ws2:(Wk S st a us k tx td en g).set (S.length+2) (.lst tx')=Wk S st a us k tx' td en g:=by
 unfold Wk;rw[K9 _ _ (by lia),show S.length+2 - S.length=2 by lia];rfl
theorem ws3:(Wk S st a us k tx td en g).set (S.length+3) (.lst td')=Wk S st a us k tx td' en g:=by
 unfold Wk;rw[K9 _ _ (by lia),show S.length+3 - S.length=3 by lia];rfl
theorem W1 (h:M.S):Wk S st a us k tx td en g++h=Wk S st a us k tx td en (g++h):=by simp[Wk]
end
theorem LU (S:M.S) (c:D) (st:D) (a:Nat):vb [.ref S.length,c,st,.ref a] (S++[.ins 4 (z9 7 none)])=.ok .non (Wk S st a [] 0 [] [.tup [.str [112,97,114,116],c,.non]] .non []):=by
 have e:(3:Nat) <= SZ:=by decide
 have f:(1:Nat) <= SZ:=by decide
 have g:(0:Nat) <= SZ:=by decide
 simp[CS,vu,UP,uo,ua,Wo,US,WJ,wh,e,f,g,Wk,RS.out]
noncomputable def YG:SM :=
  (ZK 4 6 (zA 0) (ze (zB (eC (.str [102,97,105,108,115])) (zB (zA 1) zC))))
noncomputable def kg:F:=fn 2 YG
noncomputable abbrev xJ:F:=kg
section
variable {S:M.S}{st:D}{a:Nat}{us:List (D×D)}{k:Int}{tx td:List D}{en:D}{g:M.S}
theorem Vb (w:T):xJ [.ref S.length,.str w] (Wk S st a us k tx td en g)=.ok .non (Wk S st a us k tx td (zW (jn,w)) g):=by
 have c:(2:Nat) <= SZ:=by decide
 simp[kg,YG,wk0,c,ws0,zW,RS.out]
end
noncomputable def Ky:SM :=
  (sIf (zN cGt (zK jX (zB (zA 1) zC)) (eC (.int 900)))
  (z6 (jN 4 xJ (zA 0) (zB (eC (.str [116,111,111,32,108,111,110,103])) zC)))
  (z6 (eM .list q0 (jC 4 4 (zA 0)) (zB (zA 1) zC))))
noncomputable def xO:F:=fn 2 Ky
noncomputable abbrev yp:F:=xO
section
variable {S:M.S}{st:D}{a:Nat}{us:List (D×D)}{k:Int}{tx td:List D}{en:D}{g:M.S}
theorem K5 (t:T) (c:t.length <= 900) (i:tx.length <= 5000):yp [.ref S.length,.str t] (Wk S st a us k tx td en g)=.ok .non (Wk S st a us k (tx++[.str t]) td en g):=by
 have e:t.length <= SZ:=by unfold SZ;lia
 have f:tx.length < SZ:=by unfold SZ;lia
 have h:¬ (900:Int) < (t.length:Int):=by lia
 simp[xO,Ky,e,h,c,wk0,wk2,f,ws2,RS.out]
theorem V2 (t:T) (f:900 < t.length) (i:t.length <= 100000):yp [.ref S.length,.str t] (Wk S st a us k tx td en g)=.ok .non (Wk S st a us k tx td (zW (jn,qu)) g):=by
 have c:t.length <= SZ:=by unfold SZ;lia
 have h:(900:Int) < (t.length:Int):=by lia
 have e:=Vb (S:=S) (st:=st) (a:=a) (us:=us) (k:=k) (tx:=tx) (td:=td) (en:=en) (g:=g) qu;simp[xO,Ky,c,h,wk0,-kg,e,RS.out]
end
noncomputable def XW:SM :=
  (sIf (zN cEq (eOp zI (zA 1) (eC (.int 0))) (eC (.str [116,101,120,116])))
  (zX (eOp zI (zA 1) (eC (.int 1))))
  zq)
noncomputable def Ka:SM :=
  (sIf (zN cEq (eOp zI (zA 1) (eC (.int 0))) (eC (.str [108,105,110,101])))
  (zX (eC (.str [10])))
  zq)
noncomputable def Vm:SM :=
  (sIf (zN cEq (eOp zI (zA 1) (eC (.int 0))) (eC (.str [105,116])))
  (zX (zA 2))
  zq)
noncomputable def Wh:SM :=
  (zX (jC 4 0 (zA 0)))
noncomputable def J7:SM:=(zH XW (zH Ka (zH Vm Wh)))
noncomputable def kQ:F:=fn 3 J7
noncomputable abbrev Qq:F:=kQ
section
variable {S:M.S}{st:D}{a:Nat}{us:List (D×D)}{k:Int}{tx td:List D}{en:D}{g:M.S}
theorem lC (t:T) (i:D):Qq [.ref S.length,(Tr.txt t).d,i] (Wk S st a us k tx td en g)=.ok (.str t) (Wk S st a us k tx td en g):=by
 simp[kQ,J7,XW,Tr.d,at0,at1,RS.out]
theorem fU (i:D):Qq [.ref S.length,Tr.line.d,i] (Wk S st a us k tx td en g)=.ok (.str [10]) (Wk S st a us k tx td en g):=by
 simp[kQ,J7,XW,Ka,Tr.d,at0,RS.out]
theorem HN (i:D):Qq [.ref S.length,Tr.it.d,i] (Wk S st a us k tx td en g)=.ok i (Wk S st a us k tx td en g):=by
 simp[kQ,J7,XW,Ka,Vm,Tr.d,at0,RS.out]
theorem mu (i:D):Qq [.ref S.length,Tr.stem.d,i] (Wk S st a us k tx td en g)=.ok st (Wk S st a us k tx td en g):=by
 simp[kQ,J7,XW,Ka,Vm,Wh,Tr.d,at0,wk0,RS.out]
end
noncomputable def vS:SM :=
  (sIf (zN cIn (zA 1) (jC 4 1 (zA 0)))
  (zH (yu (jC 4 2 (zA 0)) (zA 1) (eC (.bl true)))
  (z6 (jN 4 yp (zA 0) (zB (eOp zI (jC 4 1 (zA 0)) (zA 1)) zC))))
  (ZK 4 6 (zA 0) (ze (zB (eC (.str [97,115,107,115])) (zB (zA 1) zC)))))
noncomputable def XF:F:=fn 2 vS
noncomputable abbrev Z7:F:=XF
section
variable {S:M.S}{st:D}{a:Nat}{us:List (D×D)}{k:Int}{tx td:List D}{en:D}{g:M.S}{ans:List (T×T)}
theorem m6 (ha:S[a]? = some (.dct (ans.map pd))) {v:T} (h:qc ans x=some v) (c:v.length <= 900) (e:tx.length <= 5000) (j:us.length <= 5000):Z7 [.ref S.length,.str x] (Wk S st a us k tx td en g)=.ok .non (Wk S st a (ym (.str x) (.bl true) us) k (tx++[.str v]) td en g):=by
 have hi:=ab (wkO (st:=st) (a:=a) (us:=us) (k:=k) (tx:=tx) (td:=td) (en:=en) (g:=g) ha) x;rw[h] at hi;have f:=λus=>fF (wkO (st:=st) (a:=a) (us:=us) (k:=k) (tx:=tx) (td:=td) (en:=en) (g:=g) ha) h;have z:us.length < SZ:=by unfold SZ;lia
 have i:=K5 (S:=S) (st:=st) (a:=a) (us:=ym (.str x) (.bl true) us) (k:=k) (tx:=tx) (td:=td) (en:=en) (g:=g) v c e;simp[XF,vS,wk0,wk1,-inD,hi,-zI,f,qC,z,ws1,-xO,i,RS.out]
theorem f6 (ha:S[a]? = some (.dct (ans.map pd))) (h:qc ans x=none):Z7 [.ref S.length,.str x] (Wk S st a us k tx td en g)=.ok .non (Wk S st a us k tx td (zW (VG,x)) g):=by
 have hi:=ab (wkO (st:=st) (a:=a) (us:=us) (k:=k) (tx:=tx) (td:=td) (en:=en) (g:=g) ha) x;rw[h] at hi;have c:(2:Nat) <= SZ:=by decide
 simp[XF,vS,wk0,-inD,hi,c,ws0,zW,RS.out]
end
noncomputable def Um:SM :=
  (qs (vG (zA 1)) (zw 3)
  (z6 (eM .list q0 (jC 4 5 (zA 0)) (zB (ze (zB (eC (.str [112,97,114,116])) (zB (zA 3) (zB (zA 2) zC)))) zC))))
noncomputable def vD:F:=fn 4 Um
noncomputable abbrev xj:F:=vD
section
variable {S:M.S}{st:D}{a:Nat}{us:List (D×D)}{k:Int}{tx td:List D}{en:D}{g:M.S}
noncomputable def ptD (i p:D):D:=.tup [.str [112,97,114,116],p,i]
noncomputable abbrev UR:SM:=(z6 (eM .list q0 (jC 4 5 (zA 0)) (zB (ze (zB (eC (.str [112,97,114,116])) (zB (zA 3) (zB (zA 2) zC)))) zC)))
theorem CV (c:Option D) (i:D):∀ (ps:List D) (td:List D) (v:Option D),td.length+ps.length <= 5000->∃ f,j9 [] (qU (zw 3) UR) ps [some (.ref S.length),c,some i,v] (Wk S st a us k tx td en g)=.nx [some (.ref S.length),c,some i,f] (Wk S st a us k tx (td++ps.map (ptD i)) en g)
 | [],td,v,_=>⟨v,by simp[j9]⟩
 | p::ps,td,v,h=>by
  rw[zx] at h;have z:td.length < SZ:=by unfold SZ;lia
  have j:(3:Nat) <= SZ:=by decide
  have l:∀ s,zh [] s=true:=λ_=>rfl;obtain⟨f,e⟩:=CV c i ps (td++[ptD i p]) (some p) (by simp;lia);refine⟨f,?_⟩;have m:qU (zw 3) UR p [some (.ref S.length),c,some i,v] (Wk S st a us k tx td en g)=.nx [some (.ref S.length),c,some i,some p] (Wk S st a us k tx (td++[ptD i p]) en g):=by
   simp[wk0,wk3,z,j,ws3,ptD]
  rw[j9,m];dsimp only;rw[if_pos (l _),e];simp
theorem Vs (i:D) (ps:List D) (h:td.length+ps.length <= 5000):xj [.ref S.length,.tup ps,i] (Wk S st a us k tx td en g)=.ok .non (Wk S st a us k tx (td++ps.reverse.map (ptD i)) en g):=by
 have c:∀ s,zh [] s=true:=λ_=>rfl;obtain⟨f,e⟩:=CV (S:=S) (st:=st) (a:=a) (us:=us) (k:=k) (tx:=tx) (en:=en) (g:=g) (some (.tup ps)) i ps.reverse td none (by rw[kv];exact h);show (qs (vG (zA 1)) (zw 3) UR [some (.ref S.length),some (.tup ps),some i,none] (Wk S st a us k tx td en g)).out=_;simp only[qs,vG,zA,jJ,jW,R.bind_ok,R.stm_ok,c,if_true,e];rfl
end
noncomputable def J5:SM :=
  (zH (zQ 3 (eOp zI (zA 1) (eC (.int 0))))
  (sIf (zN cEq (zA 3) (eC (.str [106,111,105,110])))
  (zH (z6 (eM .list q0 (jC 4 5 (zA 0)) (zB (ze (zB (eC (.str [106,111,105,110])) (zB (eOp XB (zK jX (zB (zA 1) zC)) (eC (.int 1))) zC))) zC)))
  (z6 (jN 4 xj (zA 0) (zB (eSl (zA 1) (jr (eC (.int 1))) qb) (zB (zA 2) zC)))))
  (sIf (zN cEq (zA 3) (eC (.str [105,102])))
  (zH (z6 (eM .list q0 (jC 4 5 (zA 0)) (zB (ze (zB (eC (.str [105,102])) (zB (zA 1) (zB (zA 2) zC)))) zC)))
  (z6 (jN 4 xj (zA 0) (zB (eSl (zA 1) (jr (eC (.int 1))) (jr (eC (.int 3)))) (zB (zA 2) zC)))))
  (sIf (zN cEq (zA 3) (eC (.str [101,97,99,104])))
  (zH (z6 (eM .list q0 (jC 4 5 (zA 0)) (zB (ze (zB (eC (.str [101,97,99,104])) (zB (eOp zI (zA 1) (eC (.int 2))) zC))) zC)))
  (z6 (jN 4 xj (zA 0) (zB (eSl (zA 1) (jr (eC (.int 1))) (jr (eC (.int 2)))) (zB (zA 2) zC)))))
  (zH (z6 (eM .list q0 (jC 4 5 (zA 0)) (zB (ze (zB (zA 3) zC)) zC)))
  (z6 (jN 4 xj (zA 0) (zB (eSl (zA 1) (jr (eC (.int 1))) qb) (zB (zA 2) zC)))))))))
noncomputable def kY:F:=fn 4 J5
noncomputable abbrev Q7:F:=kY
section
variable {S:M.S}{st:D}{a:Nat}{us:List (D×D)}{k:Int}{tx td:List D}{en:D}{g:M.S}
theorem mH (i:D) (ps:List D) (h:td.length+ps.length <= 3000) (l:1 <= ps.length):Q7 [.ref S.length,.tup (.str ZH::ps),i] (Wk S st a us k tx td en g)=.ok .non (Wk S st a us k tx (td++[.tup [.str ZH,.int (ps.length:Int)]]++ps.reverse.map (ptD i)) en g):=by
 have z:td.length < SZ:=by unfold SZ;lia
 have e:(2:Nat) <= SZ:=by decide
 have c:=Vs (S:=S) (st:=st) (a:=a) (us:=us) (k:=k) (tx:=tx) (td:=td++[.tup [.str ZH,.int (ps.length:Int)]]) (en:=en) (g:=g) i ps (by simp;lia);have c1:cut (D.str ZH::ps) (some 1) none=ps:=by rw[xm _ (by decide)];rfl
 have f:¬ (sIx (ps.length+1) 0 (some 1)=0):=by unfold sIx;simp;lia
 have j:((ps.length:Int)+1) - 1=(ps.length:Int):=by lia
 simp[kY,J5,at0,wk0,wk3,z,e,ws3,c1,f,j,-vD,c,RS.out]
theorem fG (i p q x y:D) (h:td.length <= 3000):Q7 [.ref S.length,.tup [.str tIf,p,q,x,y],i] (Wk S st a us k tx td en g)=.ok .non (Wk S st a us k tx (td++[.tup [.str tIf,.tup [.str tIf,p,q,x,y],i],ptD i q,ptD i p]) en g):=by
 have z:td.length < SZ:=by unfold SZ;lia
 have e:(3:Nat) <= SZ:=by decide
 have c:=Vs (S:=S) (st:=st) (a:=a) (us:=us) (k:=k) (tx:=tx) (td:=td++[.tup [.str tIf,.tup [.str tIf,p,q,x,y],i]]) (en:=en) (g:=g) i [p,q] (by simp;lia);have c1:cut [D.str tIf,p,q,x,y] (some 1) (some 3)=[p,q]:=rfl;have f:¬ (sIx 5 0 (some 1)=0):=by decide
 simp[kY,J5,at0,wk0,wk3,z,e,ws3,c1,f,-vD,c,RS.out]
theorem Fm (i p q:D) (h:td.length <= 3000):Q7 [.ref S.length,.tup [.str Z1,p,q],i] (Wk S st a us k tx td en g)=.ok .non (Wk S st a us k tx (td++[.tup [.str Z1,q],ptD i p]) en g):=by
 have z:td.length < SZ:=by unfold SZ;lia
 have e:(2:Nat) <= SZ:=by decide
 have c:=Vs (S:=S) (st:=st) (a:=a) (us:=us) (k:=k) (tx:=tx) (td:=td++[.tup [.str Z1,q]]) (en:=en) (g:=g) i [p] (by simp;lia);have c1:cut [D.str Z1,p,q] (some 1) (some 2)=[p]:=rfl;have f:¬ (sIx 3 0 (some 1)=0):=by decide
 have j:atI [D.str Z1,p,q] 2=some q:=rfl;simp[kY,J5,at0,j,wk0,wk3,z,e,ws3,c1,f,-vD,c,RS.out]
theorem Iz (hw:W7 w) (i p:D) (h:td.length <= 3000):Q7 [.ref S.length,.tup [.str w,p],i] (Wk S st a us k tx td en g)=.ok .non (Wk S st a us k tx (td++[.tup [.str w],ptD i p]) en g):=by
 have z:td.length < SZ:=by unfold SZ;lia
 have e:(1:Nat) <= SZ:=by decide
 have n1:¬ w=[106,111,105,110]:=by rcases hw with rfl | rfl | rfl | rfl | rfl | rfl | rfl<;>decide
 have n2:¬ w=[105,102]:=by rcases hw with rfl | rfl | rfl | rfl | rfl | rfl | rfl<;>decide
 have f:¬ w=[101,97,99,104]:=by rcases hw with rfl | rfl | rfl | rfl | rfl | rfl | rfl<;>decide
 have c:=Vs (S:=S) (st:=st) (a:=a) (us:=us) (k:=k) (tx:=tx) (td:=td++[.tup [.str w]]) (en:=en) (g:=g) i [p] (by simp;lia);have c1:cut [D.str w,p] (some 1) none=[p]:=rfl;have j:sIx 2 0 (some 1)=1:=rfl;simp[kY,J5,at0,n1,n2,f,wk0,wk3,z,e,ws3,c1,j,-vD,c,RS.out]
end
noncomputable def ZL:SM :=
  (zH (QZ JY 4 3 (zA 0) (eC (.int 1)))
  (sIf (zN cGt (jC 4 3 (zA 0)) (eC (.int 500)))
  (z6 (jN 4 xJ (zA 0) (zB (eC (.str [116,111,111,32,109,117,99,104])) zC)))
  (sIf (zN cIn (eOp zI (zA 1) (eC (.int 0))) (ze (zB (eC (.str [116,101,120,116])) (zB (eC (.str [108,105,110,101])) (zB (eC (.str [105,116])) (zB (eC (.str [115,116,101,109])) zC))))))
  (z6 (jN 4 yp (zA 0) (zB (jN 4 Qq (zA 0) (zB (zA 1) (zB (zA 2) zC))) zC)))
  (sIf (zN cEq (eOp zI (zA 1) (eC (.int 0))) (eC (.str [116,104,105,110,103])))
  (z6 (jN 4 Z7 (zA 0) (zB (eOp zI (zA 1) (eC (.int 1))) zC)))
  (sIf (zN cEq (eOp zI (zA 1) (eC (.int 0))) (eC (.str [107,105,110])))
  (z6 (jN 4 Z7 (zA 0) (zB (eOp zc (eOp zc (eOp zI (zA 1) (eC (.int 1))) (eC (.str [46]))) (jC 4 0 (zA 0))) zC)))
  (z6 (jN 4 Q7 (zA 0) (zB (zA 1) (zB (zA 2) zC)))))))))
noncomputable def mZ:F:=fn 3 ZL
noncomputable abbrev QN:F:=mZ
section
variable {S:M.S}{st:D}{a:Nat}{us:List (D×D)}{k:Int}{tx td:List D}{en:D}{g:M.S}{ans:List (T×T)}
theorem Xx (b i:D) (r:SM):(QZ JY 4 3 (zA 0) (eC (.int 1)) [some (.ref S.length),some b,some i] (Wk S st a us k tx td .non g)).then r=r [some (.ref S.length),some b,some i] (Wk S st a us (k+1) tx td .non g):=by
 simp[wk0,ws0]
theorem g5 (b i:D) (f:500 <= k):QN [.ref S.length,b,i] (Wk S st a us k tx td .non g)=.ok .non (Wk S st a us (k+1) tx td (zW (jn,Kz)) g):=by
 have c:500 < k+1:=by lia
 have e:=Vb (S:=S) (st:=st) (a:=a) (us:=us) (k:=k+1) (tx:=tx) (td:=td) (en:=.non) (g:=g) Kz;show (ZL [some (.ref S.length),some b,some i] (Wk S st a us k tx td .non g)).out=_;unfold ZL;show (((QZ JY 4 3 (zA 0) (eC (.int 1)) [some (.ref S.length),some b,some i] (Wk S st a us k tx td .non g)).then _).out)=_;rw[Xx];simp[wk0,c,-kg,e,RS.out]
theorem mX {b i:D}{w t:T}{r:List D} (f:b=.tup (.str w::r)) (hw:w=[116,101,120,116]\/w=[108,105,110,101]\/w=[105,116]\/w=[115,116,101,109]) (h:∀ k,Qq [.ref S.length,b,i] (Wk S st a us k tx td .non g)=.ok (.str t) (Wk S st a us k tx td .non g)) (j:t.length <= 100000) (l:tx.length <= 5000) (q:k <= 499):QN [.ref S.length,b,i] (Wk S st a us k tx td .non g)=.ok .non (if 900 < t.length then Wk S st a us (k+1) tx td (zW (jn,qu)) g else Wk S st a us (k+1) (tx++[.str t]) td .non g):=by
 have m:(4:Nat) <= SZ:=by decide
 have n:¬ 500 < k+1:=by lia
 have hm:y2 (.str w) [D.str [116,101,120,116],D.str [108,105,110,101],D.str [105,116],D.str [115,116,101,109]]=true:=by rcases hw with rfl | rfl | rfl | rfl<;>decide
 have c:=h (k+1);have o:yp [.ref S.length,.str t] (Wk S st a us (k+1) tx td .non g)=.ok .non (if 900 < t.length then Wk S st a us (k+1) tx td (zW (jn,qu)) g else Wk S st a us (k+1) (tx++[.str t]) td .non g):=by
  by_cases e:900 < t.length
  ·rw[if_pos e,V2 t e j]
  ·rw[if_neg e,K5 t (by lia) l]
 show (ZL [some (.ref S.length),some b,some i] (Wk S st a us k tx td .non g)).out=_;unfold ZL;show (((QZ JY 4 3 (zA 0) (eC (.int 1)) [some (.ref S.length),some b,some i] (Wk S st a us k tx td .non g)).then _).out)=_;rw[Xx];generalize (if 900 < t.length then Wk S st a us (k+1) tx td (zW (jn,qu)) g else Wk S st a us (k+1) (tx++[.str t]) td .non g)=u at *;have p:∀ s,zI b (.int 0) s=.ok (.str w) s:=λs=>by rw[f];simp[at0]
 simp[wk0,n,-zI,p,flat,hm,m,-kQ,-xO,c,o,RS.out]
theorem fZ {i:D}{n:T}{c:M.S} (e:Z7 [.ref S.length,.str n] (Wk S st a us (k+1) tx td .non g)=.ok .non c) (j:k <= 499):QN [.ref S.length,(Tr.thing n).d,i] (Wk S st a us k tx td .non g)=.ok .non c:=by
 have f:(4:Nat) <= SZ:=by decide
 have h:¬ 500 < k+1:=by lia
 show (ZL [some (.ref S.length),some (Tr.thing n).d,some i] (Wk S st a us k tx td .non g)).out=_;unfold ZL;show (((QZ JY 4 3 (zA 0) (eC (.int 1)) [some (.ref S.length),some (Tr.thing n).d,some i] (Wk S st a us k tx td .non g)).then _).out)=_;rw[Xx];simp only[Tr.d];simp[wk0,h,at0,at1,flat,y2,eqF,f,-XF,e,RS.out]
theorem Fi {i:D}{n x:T}{c:M.S} (hs:st=.str x) (m:x.length <= 1000) (o:n.length <= 1000) (e:Z7 [.ref S.length,.str (n++[46]++x)] (Wk S st a us (k+1) tx td .non g)=.ok .non c) (p:k <= 499):QN [.ref S.length,(Tr.kin n).d,i] (Wk S st a us k tx td .non g)=.ok .non c:=by
 have f:(4:Nat) <= SZ:=by decide
 have h:¬ 500 < k+1:=by lia
 have j:n.length+1 <= SZ:=by unfold SZ;lia
 have l:n.length+1+x.length <= SZ:=by unfold SZ;lia
 subst hs;simp only[yI,XT,Xd] at e;show (ZL [some (.ref S.length),some (Tr.kin n).d,some i] (Wk S (.str x) a us k tx td .non g)).out=_;unfold ZL;show (((QZ JY 4 3 (zA 0) (eC (.int 1)) [some (.ref S.length),some (Tr.kin n).d,some i] (Wk S (.str x) a us k tx td .non g)).then _).out)=_;rw[Xx];simp only[Tr.d];simp[wk0,h,at0,at1,flat,y2,eqF,f,j,l,-XF,e,RS.out]
theorem V7 {b i:D}{w:T}{r:List D}{c:M.S} (e:b=.tup (.str w::r)) (hw:W7 w\/w=ZH\/w=tIf\/w=Z1) (hi:Q7 [.ref S.length,b,i] (Wk S st a us (k+1) tx td .non g)=.ok .non c) (l:k <= 499):QN [.ref S.length,b,i] (Wk S st a us k tx td .non g)=.ok .non c:=by
 have f:(4:Nat) <= SZ:=by decide
 have h:¬ 500 < k+1:=by lia
 have hm:y2 (.str w) [D.str [116,101,120,116],D.str [108,105,110,101],D.str [105,116],D.str [115,116,101,109]]=false:=by rcases hw with (rfl | rfl | rfl | rfl | rfl | rfl | rfl) | rfl | rfl | rfl<;>decide
 have n1:¬ w=[116,104,105,110,103]:=by rcases hw with (rfl | rfl | rfl | rfl | rfl | rfl | rfl) | rfl | rfl | rfl<;>decide
 have n2:¬ w=[107,105,110]:=by rcases hw with (rfl | rfl | rfl | rfl | rfl | rfl | rfl) | rfl | rfl | rfl<;>decide
 have j:∀ s,zI b (.int 0) s=.ok (.str w) s:=λs=>by rw[e];simp[at0]
 show (ZL [some (.ref S.length),some b,some i] (Wk S st a us k tx td .non g)).out=_;unfold ZL;show (((QZ JY 4 3 (zA 0) (eC (.int 1)) [some (.ref S.length),some b,some i] (Wk S st a us k tx td .non g)).then _).out)=_;rw[Xx];simp[wk0,h,-zI,j,flat,hm,n1,n2,f,-kY,hi,RS.out]
end
noncomputable def Xn:SM :=
  (zH (zQ 2 (yC 1 (qt (zA 1)) (zw 3) jU (eM .list qZ (jC 4 4 (zA 0)) zC)))
  (z6 (jN 4 yp (zA 0) (zB (eUn (Vp []) (zA 2)) zC))))
noncomputable def Ir:F:=fn 3 Xn
noncomputable abbrev Jk:F:=Ir
section
variable {S:M.S}{st:D}{a:Nat}{us:List (D×D)}{k:Int}{tx td:List D}{g:M.S}
theorem C9 (c e:Option D):∀ (ys ds:List D),ds.length=ys.length->qo [] (qV 1 (zw 3) jU (eM .list qZ (jC 4 4 (zA 0)) zC) [some (.ref S.length),c,e]) ds (Wk S st a us k (tx++ys.reverse) td .non g)=.ok ys (Wk S st a us k tx td .non g)
 | [],[],_=>by simp[qo]
 | [],_::_,h=>by cases h
 | _::_,[],h=>by cases h
 | y::ys,d::ds,h=>by
  have f:=C9 c e ys ds (by simpa using h);have i:∀ s,zh [] s=true:=λ_=>rfl;have j:qV 1 (zw 3) jU (eM .list qZ (jC 4 4 (zA 0)) zC) [some (.ref S.length),c,e] d (Wk S st a us k (tx++ys.reverse++[y]) td .non g)=.ok (some y) (Wk S st a us k (tx++ys.reverse) td .non g):=by
   simp[wk0,wk2,ws2]
  rw[Yd,<- yI,qo,j,R.bind_ok,if_pos (i _),f];rfl
theorem lp (xs:List T) (f:(xs.map ZT).sum <= 100000) (s:M.S) {p:Nat} (c:s[p]? = some (.lst (xs.map D.str).reverse)):Vp [] (.ref p) s=.ok (.str xs.flatten) s:=by
 have e:zy s p=some (xs.map D.str).reverse:=by simp[zy,c]
 have z:(xs.map ZT).sum+xs.length * 0 <= SZ:=by unfold SZ;lia
 simp only[Vp,e,Uk];unfold q7;rw[vm];dsimp only;rw[jw,if_pos z,DW]
theorem Ce (xs:List T) (n:xs.length <= 3000) (i:(xs.map ZT).sum <= 100000) (r:R D):(yp [.ref S.length,.str xs.flatten] (Wk S st a us k tx td .non (g++[.lst (xs.map D.str).reverse]))=r)->(∀ d s,r=.ok d s->d=.non)->(∃ d s,r=.ok d s)->Jk [.ref S.length,.int (xs.length:Int)] (Wk S st a us k (tx++xs.map .str) td .non g)=r:=by
 intro h hd ⟨d,s,e⟩;have c:=hd d s e;subst e;subst c;have j:(xs.length:Int).natAbs < 4611686018427387904:=by lia
 have f:=C9 (S:=S) (st:=st) (a:=a) (us:=us) (k:=k) (tx:=tx) (td:=td) (g:=g) (some (.int (xs.length:Int))) none (xs.map D.str).reverse (qI 0 (xs.length:Int)) (by simp[qI]);rw[Uk] at f;have z:(qI 0 (xs.length:Int)).length <= SZ:=by simp only[qI,jS,aA];unfold SZ;lia
 have l:jt 1 (qt (zA 1)) (zw 3) jU (eM .list qZ (jC 4 4 (zA 0)) zC) [some (.ref S.length),some (.int (xs.length:Int)),none] (Wk S st a us k (tx++xs.map .str) td .non g)=.ok (xs.map D.str).reverse (Wk S st a us k tx td .non g):=by
  unfold jt;simp only[qt,zA,jJ,jW,R.bind_ok,j,if_true];rw[if_pos ⟨z,rfl⟩];exact f
 have m:=lp xs i (Wk S st a us k tx td .non (g++[.lst (xs.map D.str).reverse])) (p:=(Wk S st a us k tx td .non g).length) (by rw[<- W1,iX]);show (Xn [some (.ref S.length),some (.int (xs.length:Int)),none] (Wk S st a us k (tx++xs.map .str) td .non g)).out=_;unfold Xn;simp only[zH,zQ,yC,l,R.bind_ok,alloc,R.stm_ok,qw,qx,RS.then_nx,W1,z6,jN,zA,jJ,jW,wk0,if_true,zB,zC,eUn,m,h];rfl
theorem Mg (xs:List T) (c:xs.length <= 3000) (f:tx.length <= 5000) (h:xs.flatten.length <= 900):Jk [.ref S.length,.int (xs.length:Int)] (Wk S st a us k (tx++xs.map .str) td .non g)=.ok .non (Wk S st a us k (tx++[.str xs.flatten]) td .non (g++[.lst (xs.map D.str).reverse])):=by
 have hs:(xs.map ZT).sum <= 100000:=by rw[<- Bn];lia
 have i:=K5 (S:=S) (st:=st) (a:=a) (us:=us) (k:=k) (tx:=tx) (td:=td) (en:=.non) (g:=g++[.lst (xs.map D.str).reverse]) xs.flatten h f;exact Ce xs c hs _ i (λd s e=>by cases e;rfl) ⟨_,_,rfl⟩
theorem lN (xs:List T) (c:xs.length <= 3000) (f:900 < xs.flatten.length) (h:xs.flatten.length <= 100000):Jk [.ref S.length,.int (xs.length:Int)] (Wk S st a us k (tx++xs.map .str) td .non g)=.ok .non (Wk S st a us k tx td (zW (jn,qu)) (g++[.lst (xs.map D.str).reverse])):=by
 have hs:(xs.map ZT).sum <= 100000:=by rw[<- Bn];lia
 have i:=V2 (S:=S) (st:=st) (a:=a) (us:=us) (k:=k) (tx:=tx) (td:=td) (en:=.non) (g:=g++[.lst (xs.map D.str).reverse]) xs.flatten f h;exact Ce xs c hs _ i (λd s e=>by cases e;rfl) ⟨_,_,rfl⟩
end
noncomputable def Xr:SM :=
  (zH (zQ 3 (eM .list qZ (jC 4 4 (zA 0)) zC))
  (zH (zQ 4 (eM .list qZ (jC 4 4 (zA 0)) zC))
  (z6 (eM .list q0 (jC 4 5 (zA 0)) (zB (ze (zB (eC (.str [112,97,114,116])) (zB (eIf (zN cEq (zA 4) (zA 3)) (eOp zI (zA 1) (eC (.int 3))) (eOp zI (zA 1) (eC (.int 4)))) (zB (zA 2) zC)))) zC)))))
noncomputable def mT:F:=fn 5 Xr
noncomputable abbrev kB:F:=mT
section
variable {S:M.S}{st:D}{a:Nat}{us:List (D×D)}{k:Int}{tx td:List D}{en:D}{g:M.S}{ans:List (T×T)}
theorem at3 (x y z w:D) (r:List D):atI (x::y::z::w::r) 3=some w:=by
 unfold atI ixN;rw[if_pos (by decide),if_pos (by simp only[zx];lia)];rfl
theorem at4 (x y z w v:D) (r:List D):atI (x::y::z::w::v::r) 4=some v:=by
 unfold atI ixN;rw[if_pos (by decide),if_pos (by simp only[zx];lia)];rfl
theorem Mc (i p q x y:D) (t u:T) (h:td.length <= 5000):kB [.ref S.length,.tup [.str tIf,p,q,x,y],i] (Wk S st a us k (tx++[.str t]++[.str u]) td .non g)=.ok .non (Wk S st a us k tx (td++[ptD i (if t=u then x else y)]) .non g):=by
 have z:td.length < SZ:=by unfold SZ;lia
 have c:(3:Nat) <= SZ:=by decide
 have f:∀ (v:Option D) (r:SM),(zQ 3 (eM .list qZ (jC 4 4 (zA 0)) zC) [some (.ref S.length),some (.tup [.str tIf,p,q,x,y]),some i,none,none] (Wk S st a us k (tx++[.str t]++[.str u]) td .non g)).then r=r [some (.ref S.length),some (.tup [.str tIf,p,q,x,y]),some i,some (.str u),none] (Wk S st a us k (tx++[.str t]) td .non g):=λv r=>by
  simp[wk0,wk2,ws2,-yI]
 have j:∀ (r:SM),(zQ 4 (eM .list qZ (jC 4 4 (zA 0)) zC) [some (.ref S.length),some (.tup [.str tIf,p,q,x,y]),some i,some (.str u),none] (Wk S st a us k (tx++[.str t]) td .non g)).then r=r [some (.ref S.length),some (.tup [.str tIf,p,q,x,y]),some i,some (.str u),some (.str t)] (Wk S st a us k tx td .non g):=λr=>by
  simp[wk0,wk2,ws2]
 show (Xr [some (.ref S.length),some (.tup [.str tIf,p,q,x,y]),some i,none,none] (Wk S st a us k (tx++[.str t]++[.str u]) td .non g)).out=_;unfold Xr;show (((zQ 3 _ _ _).then (zH _ _)).out)=_;rw[f none];show (((zQ 4 _ _ _).then _).out)=_;rw[j];by_cases e:t=u
 ·simp[wk0,wk3,ws3,z,c,e,at3,ptD,RS.out]
 ·simp[wk0,wk3,ws3,z,c,e,at4,ptD,RS.out]
end
noncomputable def vx:SM :=
  (zX (yC 1 (iE (eM .str J3 (eM .str K1 (zA 0) (zB (eC (.str [10])) (zB (eC (.str [32])) zC))) (zB (eC (.str [32])) zC))) (zw 1) (zN cNe (zA 1) (eC (.str []))) (zA 1)))
noncomputable def d6:F:=fn 1 vx
noncomputable def yd:F
 | [.str x],s=>if x.length <= 100000 then alloc (.lst ((zb x).map .str)) s else .no
 | _,_=>.no
theorem eG:jI 1 d6 yd:=jI.new λds S i c n=>by
 match ds,i with
 | [.str x],_ =>
  by_cases f:x.length <= 100000
  ·have j:2 * x.length+1 <= SZ:=by unfold SZ;lia
   have l:x.length+2 <= SZ:=by unfold SZ;lia
   have hs:=VY 32 (jy x);have m:(jy x).length=x.length:=by simp[jy]
   have e:jt 1 (iE (eM .str J3 (eM .str K1 (zA 0) (zB (eC (.str [10])) (zB (eC (.str [32])) zC))) (zB (eC (.str [32])) zC))) (zw 1) (zN cNe (zA 1) (eC (.str []))) (zA 1) [some (.str x)] S=.ok ((zb x).map .str) (S++[.lst ((jE 32 (jy x)).map .str)]) :=
    CJ (ts:=jE 32 (jy x)) (g:=[(S.length,.lst ((jE 32 (jy x)).map .str))]) (λw=>decide (w≠[])) (by simp[j,l];rfl) (by unfold SZ;lia) (by simp[zh]) λw _=>by by_cases h:w=[]<;>simp[h]
   refine .inr ⟨.lst ((zb x).map .str),S.length+1,[.lst ((jE 32 (jy x)).map .str),.lst ((zb x).map .str)],by simp[yd,f],by simp[d6,vx,e],by simp,by lia,Ym _ _⟩
  ·exact .inl (by simp[yd,f])
 | [.non],_=>exact .inl rfl
 | [.bl _],_=>exact .inl rfl
 | [.int _],_=>exact .inl rfl
 | [.ty _],_=>exact .inl rfl
 | [.ref _],_=>exact .inl rfl
 | [.tup _],_=>exact .inl rfl
 | [.ro _],_=>exact .inl rfl
noncomputable def Ks:SM :=
  (sIf (zN cLt (zA 3) (zK jX (zB (zA 2) zC)))
  (zH (z6 (eM .list q0 (jC 4 5 (zA 0)) (zB (ze (zB (eC (.str [114,111,117,110,100])) (zB (zA 1) (zB (zA 2) (zB (eOp zc (zA 3) (eC (.int 1))) zC))))) zC)))
  (z6 (eM .list q0 (jC 4 5 (zA 0)) (zB (ze (zB (eC (.str [112,97,114,116])) (zB (zA 1) (zB (eOp zI (zA 2) (zA 3)) zC)))) zC))))
  zq)
noncomputable def vF:F:=fn 4 Ks
noncomputable abbrev Zw:F:=vF
section
variable {S:M.S}{st:D}{a:Nat}{us:List (D×D)}{k:Int}{tx td:List D}{en:D}{g:M.S}{ans:List (T×T)}
noncomputable def rdD (b:D) (l:Nat) (j:Int):D:=.tup [.str EE,b,.ref l,.int j]
theorem ED (b:D) {l:Nat}{ws:List T} (c:(Wk S st a us k tx td en g)[l]? = some (.lst (ws.map .str))) {j:Nat} (e:ws.length <= j):Zw [.ref S.length,b,.ref l,.int (j:Int)] (Wk S st a us k tx td en g)=.ok .non (Wk S st a us k tx td en g):=by
 have h:¬ ((j:Int) < (ws.length:Int)):=by lia
 simp[vF,Ks,c,h,RS.out]
theorem iV (b:D) {l:Nat}{ws:List T} (c:∀ td,(Wk S st a us k tx td en g)[l]? = some (.lst (ws.map .str))) {j:Nat} (m:j < ws.length) (n:td.length <= 5000):Zw [.ref S.length,b,.ref l,.int (j:Int)] (Wk S st a us k tx td en g)=.ok .non (Wk S st a us k tx (td++[rdD b l ((j:Int)+1),ptD (.str (ws.getD j [])) b]) en g):=by
 have h:(j:Int) < (ws.length:Int):=by lia
 have z:td.length < SZ:=by unfold SZ;lia
 have e:td.length+1 < SZ:=by unfold SZ;lia
 have f:(3:Nat) <= SZ:=by decide
 have i:(4:Nat) <= SZ:=by decide
 have x:atI (ws.map D.str) (j:Int)=some (.str (ws.getD j [])):=by
  rw[JK (d:=.str []) (by lia) (by simpa using h),iO,qP,qP,yB];cases ws[j]?<;>rfl
 generalize ws.getD j []=w at *;simp[vF,Ks,c,h,wk0,wk3,ws3,z,e,f,i,x,rdD,ptD,RS.out]
noncomputable def yn (b:D) (l:Nat) (ws:List T) (j:Nat):List D:=if j < ws.length then [rdD b l ((j:Int)+1),ptD (.str (ws.getD j [])) b] else []
theorem wkG (n:Nat):(Wk S st a us k tx td en g)[S.length+4+n]? = g[n]? := by
 unfold Wk;rw[ZQ (by lia),show S.length+4+n - S.length=n+1+1+1+1 by lia];simp
theorem uX (b:D) {n:Nat}{ws:List T} (f:g[n]? = some (.lst (ws.map .str))) (j:Nat) (h:td.length <= 5000):Zw [.ref S.length,b,.ref (S.length+4+n),.int (j:Int)] (Wk S st a us k tx td en g)=.ok .non (Wk S st a us k tx (td++yn b (S.length+4+n) ws j) en g):=by
 have e:∀ td,(Wk S st a us k tx td en g)[S.length+4+n]? = some (.lst (ws.map .str)):=λtd=>by rw[wkG];exact f
 unfold yn;by_cases c:j < ws.length
 ·rw[if_pos c];exact iV b e c h
 ·rw[if_neg c,yZ];exact ED b (e td) (by lia)
end
noncomputable def UQ:SM :=
  (zH (zQ 2 (zK yd (zB (eM .list qZ (jC 4 4 (zA 0)) zC) zC)))
  (zH (z6 (eM .list q0 (jC 4 4 (zA 0)) (zB (eC (.str [])) zC)))
  (z6 (jN 4 Zw (zA 0) (zB (zA 1) (zB (zA 2) (zB (eC (.int 0)) zC)))))))
noncomputable def Gb:F:=fn 3 UQ
noncomputable abbrev kE:F:=Gb
section
variable {S:M.S}{st:D}{a:Nat}{us:List (D×D)}{k:Int}{tx td:List D}{en:D}{g:M.S}{ans:List (T×T)}
theorem ib (b:D) (t:T) (l:t.length <= 2000) (m:tx.length <= 5000) (hd:td.length <= 5000):kE [.ref S.length,b] (Wk S st a us k (tx++[.str t]) td .non g)=.ok .non (Wk S st a us k (tx++[.str []]) (td++yn b (S.length+4+g.length) (zb t) 0) .non (g++[.lst ((zb t).map .str)])):=by
 have z:tx.length < SZ:=by unfold SZ;lia
 have e:∀ s,yd [.str t] s=.ok (.ref s.length) (s++[.lst ((zb t).map .str)]):=λs=>by
  simp only[yd];rw[if_pos (by lia)];rfl
 have f:(Wk S st a us k tx td .non g).length=S.length+4+g.length:=by simp[Wk];lia
 have h:=uX (S:=S) (st:=st) (a:=a) (us:=us) (k:=k) (tx:=tx++[.str []]) (td:=td) (en:=.non) (g:=g++[.lst ((zb t).map .str)]) b (n:=g.length) (ws:=zb t) (by simp) 0 hd;generalize zb t=ws at *;have i:(zQ 2 (zK yd (zB (eM .list qZ (jC 4 4 (zA 0)) zC) zC))) [some (.ref S.length),some b,none] (Wk S st a us k (tx++[.str t]) td .non g)=.nx [some (.ref S.length),some b,some (.ref (S.length+4+g.length))] (Wk S st a us k tx td .non (g++[.lst (ws.map .str)])):=by
  simp[wk0,wk2,ws2,e,f,W1]
 have j:(z6 (eM .list q0 (jC 4 4 (zA 0)) (zB (eC (.str [])) zC))) [some (.ref S.length),some b,some (.ref (S.length+4+g.length))] (Wk S st a us k tx td .non (g++[.lst (ws.map .str)]))=.nx [some (.ref S.length),some b,some (.ref (S.length+4+g.length))] (Wk S st a us k (tx++[.str []]) td .non (g++[.lst (ws.map .str)])):=by
  simp[wk0,wk2,ws2,z]
 show (zH (zQ 2 (zK yd (zB (eM .list qZ (jC 4 4 (zA 0)) zC) zC))) (zH (z6 (eM .list q0 (jC 4 4 (zA 0)) (zB (eC (.str [])) zC))) (z6 (jN 4 Zw (zA 0) (zB (zA 1) (zB (zA 2) (zB (eC (.int 0)) zC)))))) [some (.ref S.length),some b,none] (Wk S st a us k (tx++[.str t]) td .non g)).out=_;rw[zH,i,RS.then_nx,zH,j,RS.then_nx];have c:Zw [.ref S.length,b,.ref (S.length+4+g.length),.int 0] (Wk S st a us k (tx++[.str []]) td .non (g++[.lst (ws.map .str)]))=.ok .non (Wk S st a us k (tx++[.str []]) (td++yn b (S.length+4+g.length) ws 0) .non (g++[.lst (ws.map .str)])):=h;simp[wk0,-vF,c,RS.out]
end
noncomputable def U8:SM :=
  (zH (zQ 4 (eM .list qZ (jC 4 4 (zA 0)) zC))
  (zH (z6 (jN 4 yp (zA 0) (zB (eOp zc (eM .list qZ (jC 4 4 (zA 0)) zC) (zA 4)) zC)))
  (z6 (jN 4 Zw (zA 0) (zB (zA 1) (zB (zA 2) (zB (zA 3) zC)))))))
noncomputable def Io:F:=fn 5 U8
noncomputable abbrev kT:F:=Io
section
variable {S:M.S}{st:D}{a:Nat}{us:List (D×D)}{k:Int}{tx td:List D}{en:D}{g:M.S}{ans:List (T×T)}
theorem i7 (b:D) {n:Nat}{ws:List T} (f:g[n]? = some (.lst (ws.map .str))) (j:Nat) (t x:T) (r:t.length <= 900) (h:x.length <= 900) (i:tx.length <= 5000) (hd:td.length <= 5000):kT [.ref S.length,b,.ref (S.length+4+n),.int (j:Int)] (Wk S st a us k (tx++[.str t]++[.str x]) td .non g)=.ok .non (if 900 < (t++x).length then Wk S st a us k tx (td++yn b (S.length+4+n) ws j) (zW (jn,qu)) g else Wk S st a us k (tx++[.str (t++x)]) (td++yn b (S.length+4+n) ws j) .non g):=by
 have z:t.length+x.length <= SZ:=by unfold SZ;lia
 have l:(zQ 4 (eM .list qZ (jC 4 4 (zA 0)) zC)) [some (.ref S.length),some b,some (.ref (S.length+4+n)),some (.int (j:Int)),none] (Wk S st a us k (tx++[.str t]++[.str x]) td .non g)=.nx [some (.ref S.length),some b,some (.ref (S.length+4+n)),some (.int (j:Int)),some (.str x)] (Wk S st a us k (tx++[.str t]) td .non g):=by
  simp[wk0,wk2,ws2,-yI]
 obtain⟨W,m,o,p⟩:∃ W:M.S,(∃ tx' c,W=Wk S st a us k tx' td c g)/\yp [.ref S.length,.str (t++x)] (Wk S st a us k tx td .non g)=.ok .non W/\Zw [.ref S.length,b,.ref (S.length+4+n),.int (j:Int)] W=.ok .non (if 900 < (t++x).length then Wk S st a us k tx (td++yn b (S.length+4+n) ws j) (zW (jn,qu)) g else Wk S st a us k (tx++[.str (t++x)]) (td++yn b (S.length+4+n) ws j) .non g):=by
  by_cases e:900 < (t++x).length
  ·rw[if_pos e];exact⟨_,⟨_,_,rfl⟩,V2 _ e (by rw[jk];lia),uX b f j hd⟩
  ·rw[if_neg e];exact⟨_,⟨_,_,rfl⟩,K5 _ (by lia) i,uX b f j hd⟩
 generalize (if 900 < (t++x).length then Wk S st a us k tx (td++yn b (S.length+4+n) ws j) (zW (jn,qu)) g else Wk S st a us k (tx++[.str (t++x)]) (td++yn b (S.length+4+n) ws j) .non g)=s at *;obtain⟨tx',c,rfl⟩:=m;have q:(z6 (jN 4 yp (zA 0) (zB (eOp zc (eM .list qZ (jC 4 4 (zA 0)) zC) (zA 4)) zC))) [some (.ref S.length),some b,some (.ref (S.length+4+n)),some (.int (j:Int)),some (.str x)] (Wk S st a us k (tx++[.str t]) td .non g)=.nx [some (.ref S.length),some b,some (.ref (S.length+4+n)),some (.int (j:Int)),some (.str x)] (Wk S st a us k tx' td c g):=by
  simp[wk0,wk2,ws2,z,-xO,o]
 show (zH (zQ 4 (eM .list qZ (jC 4 4 (zA 0)) zC)) (zH (z6 (jN 4 yp (zA 0) (zB (eOp zc (eM .list qZ (jC 4 4 (zA 0)) zC) (zA 4)) zC))) (z6 (jN 4 Zw (zA 0) (zB (zA 1) (zB (zA 2) (zB (zA 3) zC)))))) [some (.ref S.length),some b,some (.ref (S.length+4+n)),some (.int (j:Int)),none] (Wk S st a us k (tx++[.str t]++[.str x]) td .non g)).out=_;rw[zH,l,RS.then_nx,zH,q,RS.then_nx];simp[wk0,-vF,p,RS.out]
end
noncomputable def VB:SM :=
  (zX (uq cLe cLe (eC (.str [97])) (zA 0) (eC (.str [122]))))
noncomputable def Dd:F:=fn 1 VB
noncomputable def k6:F
 | [.str x],s=>.ok (.bl (Qe x)) s
 | _,_=>.no
theorem FM:jI 1 Dd k6:=jI.pure λds S e c f=>by
 match ds,e with
 | [a],_ =>
  cases a with
  | str x=>exact .inr ⟨_,[],rfl,by by_cases h:x < [97]<;>simp[Dd,VB,Qe,h],rfl⟩
  | _=>exact .inl rfl
noncomputable def y1:SM :=
  (zH (sIf (tOr (QL (Zi (zK Qg (zB (zA 0) (zB (eC (.ty .str)) zC))))) (QL (JR cLe cLe (eC (.int 1)) (zK jX (zB (zA 0) zC)) (eC (.int 8)))))
  (zX (eC (.bl false)))
  zq)
  (zX (JQ (Jc JF 1 (iE (zA 0)) (zw 1) jU (zK k6 (zB (zA 1) zC))) (yt Ql (zA 0) (eC (.tup [(.str [111,102]),(.str [105,102]),(.str [105,115]),(.str [116,104,101,110]),(.str [101,108,115,101]),(.str [101,97,99,104]),(.str [100,111]),(.str [105,116]),(.str [98,97,99,107]),(.str [102,105,114,115,116]),(.str [114,101,115,116]),(.str [99,111,117,110,116]),(.str [115,111,114,116,101,100]),(.str [102,97,105,108]),(.str [108,105,110,101]),(.str [109,111,114,101])]))))))
noncomputable def Zp:F:=fn 1 y1
noncomputable def ye:F
 | [.str x],s=>if x.length <= SZ then .ok (.bl (yg x)) s else .no
 | [d],s=>if ya s d then .ok (.bl false) s else .no
 | _,_=>.no
theorem lW:jI 1 Zp ye:=jI.pure λds S n c r=>by
 match ds,n with
 | [a],_ =>
  cases a with
  | str x =>
   by_cases i:x.length <= SZ
   ·refine .inr ⟨_,[],by simp[ye,i];rfl,?_,rfl⟩;have e:jt 1 (iE (zA 0)) (zw 1) jU (zK k6 (zB (zA 1) zC)) [some (.str x)] S=.ok (x.map λc=>.bl (Qe [c])) S :=
     dI _ (by simp[i]) i λc _=>by simp[k6]
    by_cases j:1 <= x.length
    ·by_cases l:x.length <= 8
     ·have f:¬ (x.length:Int) < 1:=by lia
      have g:¬ (8:Int) < (x.length:Int):=by lia
      cases m:(x.all λc=>Qe [c]) with
      | true =>
       by_cases q:x∈jP<;>simp[Zp,y1,i,f,g,j,l,e,all_map,m,yg,ly,Yl,flat,q]
      | false=>simp[Zp,y1,i,f,g,j,l,e,all_map,m,yg]
     ·have g:(8:Int) < (x.length:Int):=by lia
      simp[Zp,y1,i,g,yg,l]
    ·have f:(x.length:Int) < 1:=by lia
     simp[Zp,y1,i,f,yg,j]
   ·exact .inl (by simp[ye,i])
  | non=>exact .inr ⟨_,[],rfl,by simp[Zp,y1],rfl⟩
  | bl b=>exact .inr ⟨_,[],rfl,by simp[Zp,y1],rfl⟩
  | int b=>exact .inr ⟨_,[],rfl,by simp[Zp,y1],rfl⟩
  | tup b=>exact .inr ⟨_,[],rfl,by simp[Zp,y1],rfl⟩
  | ro b=>exact .inr ⟨_,[],rfl,by simp[Zp,y1],rfl⟩
  | ty b=>exact .inl rfl
  | ref p =>
   cases h:S[p]? with
   | none=>exact .inl (by simp[ye,ya,h])
   | some o =>
    cases o with
    | lst xs=>exact .inr ⟨_,[],by simp[ye,ya,h];rfl,by simp[Zp,y1,h],rfl⟩
    | dct xs=>exact .inr ⟨_,[],by simp[ye,ya,h];rfl,by simp[Zp,y1,h],rfl⟩
    | ins c fs=>exact .inl (by simp[ye,ya,h])
    | fdc _=>exact .inl (by simp[ye,ya,h])
    | dtt _=>exact .inl (by simp[ye,ya,h])
    | ftt _=>exact .inl (by simp[ye,ya,h])
noncomputable def Zr:SM :=
  (zH (sIf (QL (Zi (zK Qg (zB (zA 0) (zB (eC (.ty .str)) zC)))))
  (zX (eC (.bl false)))
  zq)
  (zH (zQ 1 (eM .str J3 (zA 0) (zB (eC (.str [46])) zC)))
  (zX (JQ (yt cLe (zK jX (zB (zA 1) zC)) (eC (.int 2))) (Jc JF 1 (iE (zA 1)) (zw 2) jU (zK ye (zB (zA 2) zC)))))))
noncomputable def QK:F:=fn 2 Zr
noncomputable def y7 (x:T):Bool:=decide ((jE 46 x).length <= 2) && (jE 46 x).all yg
noncomputable def yS:F
 | [.str x],s=>if x.length+2 <= 10000 then .ok (.bl (y7 x)) s else .no
 | [d],s=>if ya s d then .ok (.bl false) s else .no
 | _,_=>.no
theorem DX (c:Nat):∀ x:T,(jE c x).length <= x.length+1
 | []=>by simp[jE]
 | d::r=>by
  have e:=DX c r;unfold jE;split
  ·simp;lia
  ·split<;>simp_all<;>lia
theorem dD (c:Nat):∀ (x:T),∀ p∈jE c x,p.length <= x.length
 | [],p,h=>by simp[jE] at h;subst h;simp
 | d::r,p,h=>by
  have f:=dD c r;unfold jE at h;split at h
  ·rcases List.mem_cons.mp h with rfl | h
   ·simp
   ·have:=f p h;simp;lia
  ·split at h
   ·simp at h;subst h;simp
   ·rename_i q g e;rw[e] at f;rcases List.mem_cons.mp h with rfl | h
    ·have:=f q (by simp);simp;lia
    ·have:=f p (by simp[h]);simp;lia
theorem gT:jI 1 QK yS:=jI.pure λds S m c v=>by
 match ds,m with
 | [a],_ =>
  cases a with
  | str x =>
   by_cases i:x.length+2 <= 10000
   ·refine .inr ⟨.bl (y7 x),[.lst ((jE 46 x).map .str)],by simp[yS,i],?_,rfl⟩;have hs:=DX 46 x;have j:x.length+2 <= SZ:=jM i (by decide);have q:(jE 46 x).length <= SZ:=jM (by lia:_ <= 10000) (by decide);have e:jt 1 (iE (zA 1)) (zw 2) jU (zK ye (zB (zA 2) zC)) [some (.str x),some (.ref S.length)] (S++[.lst ((jE 46 x).map .str)])=.ok ((jE 46 x).map λt=>.bl (yg t)) (S++[.lst ((jE 46 x).map .str)]):=by
     have:=uz (n:=1) (it:=iE (zA 1)) (tg:=zw 2) (e:=zK ye (zB (zA 2) zC)) (σ:=[some (.str x),some (.ref S.length)]) (s:=S++[.lst ((jE 46 x).map .str)]) (xs:=(jE 46 x).map .str) (g:=[(S.length,.lst ((jE 46 x).map .str))]) (λd=>match d with | .str y=>.bl (yg y) | _=>.non) (by simp) (by simpa using q) (by simp[zh]) (λd hd=>by
      obtain⟨t,r,rfl⟩:=List.mem_map.mp hd;have:=dD 46 x t r;have u:t.length <= SZ:=jM (by lia:_ <= 10000) (by decide);simp[ye,u])
     rw[this,ZR];rfl
    by_cases l:(jE 46 x).length <= 2
    ·have f:((jE 46 x).length:Int) <= 2:=by lia
     simp[QK,Zr,j,e,all_map,f,y7,l]
    ·have f:¬ ((jE 46 x).length:Int) <= 2:=by lia
     simp[QK,Zr,j,f,y7,l]
   ·exact .inl (by simp[yS];lia)
  | non=>exact .inr ⟨_,[],rfl,by simp[QK,Zr],rfl⟩
  | bl b=>exact .inr ⟨_,[],rfl,by simp[QK,Zr],rfl⟩
  | int b=>exact .inr ⟨_,[],rfl,by simp[QK,Zr],rfl⟩
  | tup b=>exact .inr ⟨_,[],rfl,by simp[QK,Zr],rfl⟩
  | ro b=>exact .inr ⟨_,[],rfl,by simp[QK,Zr],rfl⟩
  | ty b=>exact .inl rfl
  | ref p =>
   cases h:S[p]? with
   | none=>exact .inl (by simp[yS,ya,h])
   | some o =>
    cases o with
    | lst xs=>exact .inr ⟨_,[],by simp[yS,ya,h];rfl,by simp[QK,Zr,h],rfl⟩
    | dct xs=>exact .inr ⟨_,[],by simp[yS,ya,h];rfl,by simp[QK,Zr,h],rfl⟩
    | ins c fs=>exact .inl (by simp[yS,ya,h])
    | fdc _=>exact .inl (by simp[yS,ya,h])
    | dtt _=>exact .inl (by simp[yS,ya,h])
    | ftt _=>exact .inl (by simp[yS,ya,h])
noncomputable def YE:SM :=
  (zX (eM .str ZI (eC (.str [32])) (zB (zK uF (zB (zK yd (zB (zA 0) zC)) zC)) zC)))
noncomputable def wL:F:=fn 1 YE
theorem Ve (c:Nat):∀ (x:T),∀ p∈jE c x,p.length <= x.length
 | [],p,h=>by simp[jE] at h;subst h;simp
 | d::r,p,h=>by
  have f:=Ve c r;unfold jE at h;split at h
  ·rcases List.mem_cons.mp h with rfl | h
   ·simp
   ·have:=f p h;simp;lia
  ·split at h
   ·simp at h;subst h;simp
   ·rename_i q g e;rw[e] at f;rcases List.mem_cons.mp h with rfl | h
    ·have:=f q (by simp);simp;lia
    ·have:=f p (by simp[h]);simp;lia
theorem Ja {t:T} (h:t.length <= 2000):(zb t).length <= 2001/\∀ p∈zb t,p.length <= 2000:=by
 have f:(jy t).length=t.length:=by simp[jy]
 have g:=VY 32 (jy t);have c:=Ve 32 (jy t);unfold zb;refine⟨jM (List.length_filter_le _ _) (by lia),λp e=>?_⟩;have:=c p (List.mem_filter.mp e).1
 lia
theorem Dg {m:Nat}:∀ ys:List T,(∀ p∈ys,p.length <= m)->(ys.map ZT).sum <= m * ys.length
 | [],_=>by simp
 | y::ys,h=>by
  have:=Dg ys λp c=>h p (jh _ c);have:=h y qa;simp only[jH,W8,zx,Nat.mul_add,Nat.mul_one]
  lia
theorem XQ (x:T) (c:x.length <= 1) (ys:List T) (e:ys.length <= 2001) (h:∀ p∈ys,p.length <= 2000) (s:M.S):q7 x (ys.map .str) s=.ok (.str (qW x ys)) s:=by
 unfold q7;rw[vm];have:=Dg ys h;have f:ys.length * x.length <= ys.length * 1:=mM _ c;dsimp only;rw[if_pos (by unfold SZ;lia)]
theorem df (x:T):∀ ts:List T,(qJ.insT' x ts).Perm (x::ts)
 | []=>.refl _
 | y::r=>by
  unfold qJ.insT';split
  ·exact ((df x r).cons y).trans (.swap x y r)
  ·exact .refl _
theorem K4:∀ ts:List T,(qJ ts).Perm ts
 | []=>.refl _
 | x::r=>(df x _).trans ((K4 r).cons x)
theorem Y7 {t:T} (h:t.length <= 2000) (s:M.S):yd [.str t] s=.ok (.ref s.length) (s++[.lst ((zb t).map .str)]):=by
 simp only[yd];rw[if_pos (by lia)];rfl
noncomputable def vP:F:=chS wL
theorem mV:jI 1 wL vP:=yk _
theorem gv {t:T} (h:t.length <= 2000) (S:M.S):vP [.str t] S=.ok (.str (qW [32] (qJ (zb t)))) S:=by
 have c:=Ja h;have e:=λs=>XQ [32] (by simp) (qJ (zb t)) (by rw[(K4 (zb t)).length_eq];lia) (λp f=>jM (c.2 p ((K4 (zb t)).mem_iff.mp f)) (by lia)) s;refine yq (g:=[.lst ((zb t).map .str),.lst ((qJ (zb t)).map .str)]) ?_ rfl;simp[wL,YE,Y7 h,V4,vm,show (zb t).length <= 16777216 by lia,e]
noncomputable def Vv:SM :=
  (zX (eUn Yp (zA 0)))
noncomputable def wI:F:=fn 1 Vv
noncomputable def KH:F:=chS wI
theorem G0:jI 1 wI KH:=yk _
theorem M9 {t:T} (h:t.length <= 2000) (S:M.S):KH [.str t] S=.ok (.str t.reverse) S:=by
 have z:t.length <= SZ:=by unfold SZ;lia
 refine yq (g:=[]) ?_ rfl;simp[wI,Vv,z]
noncomputable def V5:SM :=
  (zX (eM .str ZI (eC (.str [32])) (zB (eSl (zK yd (zB (zA 0) zC)) qb (jr (eC (.int 1)))) zC)))
noncomputable def UX:F:=fn 1 V5
noncomputable def Ki:F:=chS UX
theorem I7:jI 1 UX Ki:=yk _
theorem Mf {t:T} (h:t.length <= 2000) (S:M.S):Ki [.str t] S=.ok (.str (qW [32] ((zb t).take 1))) S:=by
 have c:=Ja h;have c1:cut ((zb t).map D.str) none (some 1)=((zb t).take 1).map D.str:=by rw[Yr _ (by decide)];simp
 have e:=λs=>XQ [32] (by simp) ((zb t).take 1) (by rw[ZG];lia) (λp f=>jM (c.2 p (w6 f)) (by lia)) s;refine yq (g:=[.lst ((zb t).map .str),.lst (((zb t).take 1).map .str)]) ?_ rfl;simp[UX,V5,Y7 h,-EL,c1,e]
noncomputable def V1:SM :=
  (zX (eM .str ZI (eC (.str [32])) (zB (eSl (zK yd (zB (zA 0) zC)) (jr (eC (.int 1))) qb) zC)))
noncomputable def u0:F:=fn 1 V1
noncomputable def vK:F:=chS u0
theorem Ea:jI 1 u0 vK:=yk _
theorem fw {t:T} (h:t.length <= 2000) (S:M.S):vK [.str t] S=.ok (.str (qW [32] ((zb t).drop 1))) S:=by
 have c:=Ja h;have c1:cut ((zb t).map D.str) (some 1) none=((zb t).drop 1).map D.str:=by rw[xm _ (by decide)];simp
 have e:=λs=>XQ [32] (by simp) ((zb t).drop 1) (by rw[QW];lia) (λp f=>jM (c.2 p (Vz f)) (by lia)) s;refine yq (g:=[.lst ((zb t).map .str),.lst (((zb t).drop 1).map .str)]) ?_ rfl;simp[u0,V1,Y7 h,-F0,-cM,c1,e]
noncomputable def Ya:SM :=
  (zX (zK YU (zB (zK jX (zB (zK yd (zB (zA 0) zC)) zC)) zC)))
noncomputable def wz:F:=fn 1 Ya
noncomputable def Kb:F:=chS wz
theorem Lb:jI 1 wz Kb:=yk _
theorem EC {t:T} (h:t.length <= 2000) (S:M.S):Kb [.str t] S=.ok (.str (JO (zb t).length)) S:=by
 have c:=Ja h;have e:qK ((zb t).length:Int)=true:=by unfold qK;rw[decide_eq_true_iff];lia
 refine yq (g:=[.lst ((zb t).map .str)]) ?_ rfl;simp[wz,Ya,Y7 h,e]
noncomputable def xb:SM :=
  (sIf (zN cEq (zA 0) (eC (.str [98,97,99,107])))
  (zX (zK KH (zB (zA 1) zC)))
  zq)
noncomputable def xy:SM :=
  (sIf (zN cEq (zA 0) (eC (.str [102,105,114,115,116])))
  (zX (zK Ki (zB (zA 1) zC)))
  zq)
noncomputable def KD:SM :=
  (sIf (zN cEq (zA 0) (eC (.str [114,101,115,116])))
  (zX (zK vK (zB (zA 1) zC)))
  zq)
noncomputable def vw:SM :=
  (sIf (zN cEq (zA 0) (eC (.str [99,111,117,110,116])))
  (zX (zK Kb (zB (zA 1) zC)))
  zq)
noncomputable def UJ:SM :=
  (zX (zK vP (zB (zA 1) zC)))
noncomputable def Ji:SM:=(zH xb (zH xy (zH KD (zH vw UJ))))
noncomputable def xX:F:=fn 2 Ji
noncomputable def X8:F:=chS xX
theorem Mo:jI 2 xX X8:=yk _
noncomputable def yE (w t:T):T:=if w=c9 then t.reverse else if w=C4 then qW [32] ((zb t).take 1) else if w=CA then qW [32] ((zb t).drop 1) else if w=aj then JO (zb t).length else qW [32] (qJ (zb t))
theorem gy {t:T} (hw:W5 w) (h:t.length <= 2000) (S:M.S):X8 [.str w,.str t] S=.ok (.str (yE w t)) S:=by
 have c:=Ja h;have e:=M9 h S;have f:=Mf h S;have i:=fw h S;have j:=EC h S;have l:=gv h S;refine yq (g:=[]) ?_ rfl;unfold yE;rcases hw with rfl | rfl | rfl | rfl | rfl
 ·simp[xX,Ji,xb,e]
 ·simp[xX,Ji,xb,xy,f]
 ·simp[xX,Ji,xb,xy,KD,i]
 ·simp[xX,Ji,xb,xy,KD,vw,j]
 ·simp[xX,Ji,xb,xy,KD,vw,UJ,l]
noncomputable def tot (ys:List T):Nat:=(ys.map ZT).sum+ys.length
theorem ZZ (y:T) (ys:List T):tot (y::ys)=y.length+1+tot ys:=by
 unfold tot;simp only[jH,W8,zx]
 lia
theorem aK (c:Nat):∀ x:T,tot (jE c x)=x.length+1
 | []=>rfl
 | d::r=>by
  have f:=aK c r;unfold jE;split
  ·rw[ZZ,f];simp only[zx,jw];lia
  ·split
   ·rename_i e;rw[e] at f;simp[tot] at f
   ·rename_i p ps e;rw[e,ZZ] at f;rw[ZZ];simp only[zx]
    lia
theorem UA {ys c:List T} (h:ys.Sublist c):tot ys <= tot c:=by
 induction h with
 | slnil=>exact zo _
 | cons a _ e=>rw[ZZ];lia
 | cons_cons a _ e=>rw[ZZ,ZZ];lia
theorem D6 (ts:List T):tot (qJ ts)=tot ts:=by
 have ins:∀ (x:T) (l:List T),tot (qJ.insT' x l)=x.length+1+tot l:=by
  intro x l
  induction l with
  | nil=>simp[qJ.insT',ZZ]
  | cons y l c =>
   unfold qJ.insT';split
   ·rw[ZZ,c,ZZ];lia
   ·rw[ZZ]
 induction ts with
 | nil=>rfl
 | cons t ts c=>unfold qJ;rw[ins,c,ZZ]
theorem YI:∀ ys:List T,(qW [32] ys).length <= tot ys
 | []=>by simp[qW,tot]
 | [y]=>by simp[qW,tot]
 | y::z::ys=>by
  have:=YI (z::ys);rw[ZZ];show (y++[32]++qW [32] (z::ys)).length <= _;simp only[jk,zx,jw]
  lia
theorem Em {t:T} (h:t.length <= 2000):tot (zb t) <= 2001:=by
 have c:=aK 32 (jy t);have e:(jy t).length=t.length:=by simp[jy]
 have f:tot (zb t) <= tot (jE 32 (jy t)):=UA List.filter_sublist
 lia
theorem da (b:Nat):∀ (f n:Nat) (ds:List Char),(cA b f n ds).length <= f+ds.length
 | 0,n,ds=>by rw[cA];lia
 | f+1,n,ds=>by
  rw[cA];split
  ·simp;lia
  ·have:=da b f (n / b) (Nat.digitChar (n % b)::ds);rw[zx] at this
   lia
theorem D9 (n:Nat):(JO (n:Int)).length <= n+1:=by
 have e:(toString (n:Int)).toList=Nat.toDigits 10 n:=by
  show (Nat.repr n).toList=_;unfold Nat.repr;simp
 unfold JO;rw[e,jS];exact da 10 (n+1) n []
theorem A0 {t:T} (hw:W5 w) (h:t.length <= 2000):(yE w t).length <= 3000:=by
 have c:=Ja h;have f:=Em h;have e:∀ n:Nat,n < 2002->(JO (n:Int)).length <= 3000:=λn g=>jM (D9 n) (by lia);unfold yE;rcases hw with rfl | rfl | rfl | rfl | rfl
 ·rw[if_pos rfl,kv];lia
 ·rw[if_neg (by decide),if_pos rfl];have:=YI ((zb t).take 1);have:=UA (mK 1 (zb t))
  lia
 ·rw[if_neg (by decide),if_neg (by decide),if_pos rfl];have:=YI ((zb t).drop 1);have:=UA (List.drop_sublist 1 (zb t))
  lia
 ·rw[if_neg (by decide),if_neg (by decide),if_neg (by decide),if_pos rfl];exact e _ (by lia)
 ·rw[if_neg (by decide),if_neg (by decide),if_neg (by decide),if_neg (by decide)];have:=YI (qJ (zb t));rw[D6] at this
  lia
noncomputable def Zz:SM :=
  (zH (zQ 2 (eM .list qZ (jC 4 4 (zA 0)) zC))
  (sIf (zN cEq (zA 1) (eC (.str [102,97,105,108])))
  (z6 (jN 4 xJ (zA 0) (zB (zA 2) zC)))
  (sIf (zN cNe (zA 1) (eC (.str [111,102])))
  (z6 (jN 4 yp (zA 0) (zB (zK X8 (zB (zA 1) (zB (zA 2) zC))) zC)))
  (sIf (Zi (zK yS (zB (zA 2) zC)))
  (z6 (jN 4 Z7 (zA 0) (zB (zA 2) zC)))
  (z6 (jN 4 xJ (zA 0) (zB (eC (.str [110,111,32,110,97,109,101])) zC)))))))
noncomputable def fo:F:=fn 3 Zz
noncomputable abbrev Qj:F:=fo
section
variable {S:M.S}{st:D}{a:Nat}{us:List (D×D)}{k:Int}{tx td:List D}{en:D}{g:M.S}{ans:List (T×T)}
theorem VQ (t:T):∀ (v1 v2:Option D) r,zH (zQ 2 (eM .list qZ (jC 4 4 (zA 0)) zC)) r [some (.ref S.length),v1,v2] (Wk S st a us k (tx++[.str t]) td en g)=r [some (.ref S.length),v1,some (.str t)] (Wk S st a us k tx td en g):=λv1 v2 r=>by
 simp[wk0,wk2,ws2]
theorem Ho {t:T} (hw:W5 w) (e:t.length <= 2000) (f:tx.length <= 5000):Qj [.ref S.length,.str w] (Wk S st a us k (tx++[.str t]) td en g)=.ok .non (if 900 < (yE w t).length then Wk S st a us k tx td (zW (jn,qu)) g else Wk S st a us k (tx++[.str (yE w t)]) td en g):=by
 have h:=gy hw e (Wk S st a us k tx td en g);have j:=A0 hw e;have i:yp [.ref S.length,.str (yE w t)] (Wk S st a us k tx td en g)=.ok .non (if 900 < (yE w t).length then Wk S st a us k tx td (zW (jn,qu)) g else Wk S st a us k (tx++[.str (yE w t)]) td en g):=by
  by_cases c:900 < (yE w t).length
  ·rw[if_pos c,V2 _ c (by lia)]
  ·rw[if_neg c,K5 _ (by lia) f]
 have n1:¬ w=JS:=by rcases hw with rfl | rfl | rfl | rfl | rfl<;>decide
 have n2:¬ w=tOf:=by rcases hw with rfl | rfl | rfl | rfl | rfl<;>decide
 show (Zz [some (.ref S.length),some (.str w),none] (Wk S st a us k (tx++[.str t]) td en g)).out=_;unfold Zz;rw[VQ t];generalize (if 900 < (yE w t).length then Wk S st a us k tx td (zW (jn,qu)) g else Wk S st a us k (tx++[.str (yE w t)]) td en g)=l at *;simp[n1,n2,wk0,h,-xO,i,RS.out]
theorem fR (t:T):Qj [.ref S.length,.str JS] (Wk S st a us k (tx++[.str t]) td en g)=.ok .non (Wk S st a us k tx td (zW (jn,t)) g):=by
 have c:=Vb (S:=S) (st:=st) (a:=a) (us:=us) (k:=k) (tx:=tx) (td:=td) (en:=en) (g:=g) t;show (Zz [some (.ref S.length),some (.str JS),none] (Wk S st a us k (tx++[.str t]) td en g)).out=_;unfold Zz;rw[VQ t];simp[wk0,-kg,c,RS.out]
theorem iA {t:T} (h:t.length <= 2000) (c:y7 t=false):Qj [.ref S.length,.str tOf] (Wk S st a us k (tx++[.str t]) td en g)=.ok .non (Wk S st a us k tx td (zW (jn,tNo)) g):=by
 have e:∀ s,yS [.str t] s=.ok (.bl (y7 t)) s:=λs=>by
  simp only[yS];rw[if_pos (by lia)]
 have f:=Vb (S:=S) (st:=st) (a:=a) (us:=us) (k:=k) (tx:=tx) (td:=td) (en:=en) (g:=g) tNo;show (Zz [some (.ref S.length),some (.str tOf),none] (Wk S st a us k (tx++[.str t]) td en g)).out=_;unfold Zz;rw[VQ t];simp[wk0,e,c,-kg,f,RS.out]
theorem Fh {t:T}{c:M.S} (i:t.length <= 2000) (e:y7 t=true) (f:Z7 [.ref S.length,.str t] (Wk S st a us k tx td en g)=.ok .non c):Qj [.ref S.length,.str tOf] (Wk S st a us k (tx++[.str t]) td en g)=.ok .non c:=by
 have h:∀ s,yS [.str t] s=.ok (.bl (y7 t)) s:=λs=>by
  simp only[yS];rw[if_pos (by lia)]
 show (Zz [some (.ref S.length),some (.str tOf),none] (Wk S st a us k (tx++[.str t]) td en g)).out=_;unfold Zz;rw[VQ t];simp[wk0,h,e,-XF,f,RS.out]
end
noncomputable def Xl:SM :=
  (zH (VP (qr (Jl (jC 4 6 (zA 0))) (zN cGt (zK jX (zB (jC 4 5 (zA 0)) zC)) (eC (.int 0))))
  (zH (zQ 1 (eM .list qZ (jC 4 5 (zA 0)) zC))
  (sIf (zN cEq (eOp zI (zA 1) (eC (.int 0))) (eC (.str [112,97,114,116])))
  (z6 (jN 4 QN (zA 0) (zB (eOp zI (zA 1) (eC (.int 1))) (zB (eOp zI (zA 1) (eC (.int 2))) zC))))
  (sIf (zN cEq (eOp zI (zA 1) (eC (.int 0))) (eC (.str [106,111,105,110])))
  (z6 (jN 4 Jk (zA 0) (zB (eOp zI (zA 1) (eC (.int 1))) zC)))
  (sIf (zN cEq (eOp zI (zA 1) (eC (.int 0))) (eC (.str [105,102])))
  (z6 (jN 4 kB (zA 0) (zB (eOp zI (zA 1) (eC (.int 1))) (zB (eOp zI (zA 1) (eC (.int 2))) zC))))
  (sIf (zN cEq (eOp zI (zA 1) (eC (.int 0))) (eC (.str [101,97,99,104])))
  (z6 (jN 4 kE (zA 0) (zB (eOp zI (zA 1) (eC (.int 1))) zC)))
  (sIf (zN cEq (eOp zI (zA 1) (eC (.int 0))) (eC (.str [114,111,117,110,100])))
  (z6 (jN 4 kT (zA 0) (zB (eOp zI (zA 1) (eC (.int 1))) (zB (eOp zI (zA 1) (eC (.int 2))) (zB (eOp zI (zA 1) (eC (.int 3))) zC)))))
  (z6 (jN 4 Qj (zA 0) (zB (eOp zI (zA 1) (eC (.int 0))) zC))))))))))
  (zH (sIf (Jl (jC 4 6 (zA 0)))
  (zX (ze (zB (eC (.str [116,101,120,116])) (zB (eOp zI (jC 4 4 (zA 0)) (eC (.int 0))) zC))))
  zq)
  (zX (jC 4 6 (zA 0)))))
noncomputable def I9:F:=fn 2 Xl
noncomputable abbrev ke:F:=I9
noncomputable abbrev yY:TM:=qr (Jl (jC 4 6 (zA 0))) (zN cGt (zK jX (zB (jC 4 5 (zA 0)) zC)) (eC (.int 0)))
noncomputable abbrev Uw:SM:=zQ 1 (eM .list qZ (jC 4 5 (zA 0)) zC)
noncomputable abbrev QQ:SM :=
  (sIf (zN cEq (eOp zI (zA 1) (eC (.int 0))) (eC (.str [112,97,114,116])))
  (z6 (jN 4 QN (zA 0) (zB (eOp zI (zA 1) (eC (.int 1))) (zB (eOp zI (zA 1) (eC (.int 2))) zC))))
  (sIf (zN cEq (eOp zI (zA 1) (eC (.int 0))) (eC (.str [106,111,105,110])))
  (z6 (jN 4 Jk (zA 0) (zB (eOp zI (zA 1) (eC (.int 1))) zC)))
  (sIf (zN cEq (eOp zI (zA 1) (eC (.int 0))) (eC (.str [105,102])))
  (z6 (jN 4 kB (zA 0) (zB (eOp zI (zA 1) (eC (.int 1))) (zB (eOp zI (zA 1) (eC (.int 2))) zC))))
  (sIf (zN cEq (eOp zI (zA 1) (eC (.int 0))) (eC (.str [101,97,99,104])))
  (z6 (jN 4 kE (zA 0) (zB (eOp zI (zA 1) (eC (.int 1))) zC)))
  (sIf (zN cEq (eOp zI (zA 1) (eC (.int 0))) (eC (.str [114,111,117,110,100])))
  (z6 (jN 4 kT (zA 0) (zB (eOp zI (zA 1) (eC (.int 1))) (zB (eOp zI (zA 1) (eC (.int 2))) (zB (eOp zI (zA 1) (eC (.int 3))) zC)))))
  (z6 (jN 4 Qj (zA 0) (zB (eOp zI (zA 1) (eC (.int 0))) zC))))))))
noncomputable abbrev ZW:SM:=zH Uw QQ
noncomputable abbrev W2:SM:=(zH (sIf (Jl (jC 4 6 (zA 0)))
  (zX (ze (zB (eC (.str [116,101,120,116])) (zB (eOp zI (jC 4 4 (zA 0)) (eC (.int 0))) zC))))
  zq)
  (zX (jC 4 6 (zA 0))))
theorem Iu:Xl=zH (VP yY ZW) W2:=rfl
section
variable {S:M.S}{st:D}{a:Nat}{us:List (D×D)}{k:Int}{tx td:List D}{en:D}{g:M.S}{ans:List (T×T)}
theorem Dj (n:Nat) (v:Option D):qg (n+1) yY ZW [some (.ref S.length),v] (Wk S st a us k tx [] .non g)=.nx [some (.ref S.length),v] (Wk S st a us k tx [] .non g):=by
 have c:yY [some (.ref S.length),v] (Wk S st a us k tx [] .non g)=.ok false (Wk S st a us k tx [] .non g):=by
  simp[wk0,wk3]
 rw[qg,c];simp
theorem Lu (n:Nat) (v:Option D) (r:T×T):qg (n+1) yY ZW [some (.ref S.length),v] (Wk S st a us k tx td (zW r) g)=.nx [some (.ref S.length),v] (Wk S st a us k tx td (zW r) g):=by
 have c:yY [some (.ref S.length),v] (Wk S st a us k tx td (zW r) g)=.ok false (Wk S st a us k tx td (zW r) g):=by
  simp[wk0,zW]
 rw[qg,c];simp
theorem GF {x:D}{c:M.S} (n:Nat) (v:Option D) (hd:QQ [some (.ref S.length),some x] (Wk S st a us k tx td .non g)=.nx [some (.ref S.length),some x] c):qg (n+1) yY ZW [some (.ref S.length),v] (Wk S st a us k tx (td++[x]) .non g)=qg n yY ZW [some (.ref S.length),some x] c:=by
 have e:yY [some (.ref S.length),v] (Wk S st a us k tx (td++[x]) .non g)=.ok true (Wk S st a us k tx (td++[x]) .non g):=by
  have:(0:Int) < (td.length:Int)+1:=by lia
  simp[wk0,wk3,this]
 have f:Uw [some (.ref S.length),v] (Wk S st a us k tx (td++[x]) .non g)=.nx [some (.ref S.length),some x] (Wk S st a us k tx td .non g):=by
  simp[wk0,wk3,ws3]
 rw[qg,e,R.stm_ok,if_pos rfl];show (match ((Uw [some (.ref S.length),v] (Wk S st a us k tx (td++[x]) .non g)).then QQ) with | .nx σ s=>qg n yY ZW σ s | .ct σ s=>qg n yY ZW σ s | .bk σ s=>.nx σ s | r=>r)=_;rw[f,RS.then_nx,hd]
theorem at2 (x y z:D) (r:List D):atI (x::y::z::r) 2=some z:=by
 unfold atI ixN;rw[if_pos (by decide),if_pos (by simp only[zx];lia)];rfl
theorem Jj {p i:D}{c:M.S} (e:QN [.ref S.length,p,i] (Wk S st a us k tx td .non g)=.ok .non c):QQ [some (.ref S.length),some (ptD i p)] (Wk S st a us k tx td .non g)=.nx [some (.ref S.length),some (ptD i p)] c:=by
 unfold ptD;simp[at0,at1,at2,wk0,e]
theorem Cq {n:Int}{c:M.S} (e:Jk [.ref S.length,.int n] (Wk S st a us k tx td .non g)=.ok .non c):QQ [some (.ref S.length),some (.tup [.str ZH,.int n])] (Wk S st a us k tx td .non g)=.nx [some (.ref S.length),some (.tup [.str ZH,.int n])] c:=by
 simp[at0,at1,wk0,e]
theorem mm {p i:D}{c:M.S} (e:kB [.ref S.length,p,i] (Wk S st a us k tx td .non g)=.ok .non c):QQ [some (.ref S.length),some (.tup [.str tIf,p,i])] (Wk S st a us k tx td .non g)=.nx [some (.ref S.length),some (.tup [.str tIf,p,i])] c:=by
 simp[at0,at1,at2,wk0,e]
theorem mQ {p:D}{c:M.S} (e:kE [.ref S.length,p] (Wk S st a us k tx td .non g)=.ok .non c):QQ [some (.ref S.length),some (.tup [.str Z1,p])] (Wk S st a us k tx td .non g)=.nx [some (.ref S.length),some (.tup [.str Z1,p])] c:=by
 simp[at0,at1,wk0,e]
theorem HW {b:D}{l:Nat}{j:Int}{c:M.S} (e:kT [.ref S.length,b,.ref l,.int j] (Wk S st a us k tx td .non g)=.ok .non c):QQ [some (.ref S.length),some (rdD b l j)] (Wk S st a us k tx td .non g)=.nx [some (.ref S.length),some (rdD b l j)] c:=by
 unfold rdD;simp[at0,at1,at2,at3,wk0,e]
theorem VS (hw:W7 w) {c:M.S} (e:Qj [.ref S.length,.str w] (Wk S st a us k tx td .non g)=.ok .non c):QQ [some (.ref S.length),some (.tup [.str w])] (Wk S st a us k tx td .non g)=.nx [some (.ref S.length),some (.tup [.str w])] c:=by
 have f:¬ w=[112,97,114,116]:=by rcases hw with rfl | rfl | rfl | rfl | rfl | rfl | rfl<;>decide
 have n1:¬ w=[106,111,105,110]:=by rcases hw with rfl | rfl | rfl | rfl | rfl | rfl | rfl<;>decide
 have n2:¬ w=[105,102]:=by rcases hw with rfl | rfl | rfl | rfl | rfl | rfl | rfl<;>decide
 have h:¬ w=[101,97,99,104]:=by rcases hw with rfl | rfl | rfl | rfl | rfl | rfl | rfl<;>decide
 have i:¬ w=[114,111,117,110,100]:=by rcases hw with rfl | rfl | rfl | rfl | rfl | rfl | rfl<;>decide
 simp[at0,f,n1,n2,h,i,wk0,e]
def Go (S s c:M.S) (m:Nat):Prop:=∀ f v,∃ e,qg (f+m) yY ZW [some (.ref S.length),v] s=qg f yY ZW [some (.ref S.length),e] c
theorem Go.nil (s:M.S):Go S s s 0:=λf v=>⟨v,rfl⟩
theorem Go.then (h:Go S s s1 m) (c:Go S s1 e n):Go S s e (m+n):=λf v=>by
 obtain⟨v1,i⟩:=h (f+n) v;obtain⟨v2,j⟩:=c f v1;exact⟨v2,by rw[show f+(m+n)=f+n+m by lia,i,j]⟩
theorem Go.one {x:D}{c:M.S} (hd:QQ [some (.ref S.length),some x] (Wk S st a us k tx td .non g)=.nx [some (.ref S.length),some x] c):Go S (Wk S st a us k tx (td++[x]) .non g) c 1:=λf v=>⟨some x,GF f v hd⟩
end
def Arr (S:M.S) (st:D) (a:Nat) (tx td:List D) (g:M.S) (r:Out×Ct) (c:M.S):Prop:=match r.1 with
 | .tx x=>∃ h,c=Wk S st a (usD r.2.2) (r.2.1:Int) (tx++[.str x]) td .non (g++h)
 | .en e=>∃ h tx' td',c=Wk S st a (usD r.2.2) (r.2.1:Int) tx' td' (zW e) (g++h)
noncomputable def yz:D->T
 | .str x=>x
 | _=>[]
noncomputable def andO (r:Out×Ct) (f:T->Ct->Out×Ct):Out×Ct:=match r with
 | (.tx x,c)=>f x c
 | (.en e,c)=>(.en e,c)
noncomputable def Jy (ans:List (T×T)) (w p:T) (c:Ct):Out×Ct:=if w=JS then (.en (jn,p),c) else if w=tOf then (if y7 p=true then qB ans p c else (.en (jn,tNo),c)) else yM (.tx (yE w p),c)
noncomputable def ev (ans:List (T×T)) (st:D):Nat->Tr->D->Ct->Out×Ct
 | 0,_,_,c=>(.en ([],[]),c)
 | n+1,t,i,c=>if 500 <= c.1 then (.en (jn,Kz),(c.1+1,c.2)) else match t with
  | .txt x=>(.tx x,(c.1+1,c.2))
  | .line=>(.tx [10],(c.1+1,c.2))
  | .it=>(.tx (yz i),(c.1+1,c.2))
  | .stem=>(.tx (yz st),(c.1+1,c.2))
  | .thing m=>qB ans m (c.1+1,c.2)
  | .kin m=>qB ans (m++[46]++yz st) (c.1+1,c.2)
  | .join ts=>yM (evs (λa c=>ev ans st n a i c) ts [] (c.1+1,c.2))
  | .ife a b x y=>andO (ev ans st n a i (c.1+1,c.2)) λp c=>andO (ev ans st n b i c) λq c=>ev ans st n (if p=q then x else y) i c
  | .each a b=>andO (ev ans st n a i (c.1+1,c.2)) λp c=>evw (λw c=>ev ans st n b (.str w) c) (zb p) [] c
  | .one w a=>andO (ev ans st n a i (c.1+1,c.2)) λp c=>Jy ans w p c
noncomputable def jV (st:D):Nat->Bool->Tr->Prop
 | 0,_,_=>False
 | n+1,b,t=>match t with
  | .txt x=>x.length <= 900
  | .line=>True
  | .it=>b=true
  | .stem=>∃ x,st=.str x
  | .thing m=>m.length <= 1000
  | .kin m=>m.length <= 1000/\∃ x,st=.str x
  | .join ts=>1 <= ts.length/\ts.length <= 50/\∀ a∈ts,jV st n b a
  | .ife p q x y=>jV st n b p/\jV st n b q/\jV st n b x/\jV st n b y
  | .each p q=>jV st n b p/\jV st n true q
  | .one w p=>W7 w/\jV st n b p
def zZ (S:M.S) (st:D) (a:Nat) (tx td:List D) (g s:M.S) (c:Ct) (r:Out×Ct) (lo hi e:Nat):Prop:=∃ m f,m+lo <= 4 * (r.2.1 - c.1)+hi/\c.1 <= r.2.1/\Go S s f m/\Arr S st a tx td g r f/\r.2.1 <= 501/\∀ x,r.1=.tx x->r.2.1 <= 500/\r.2.2.length+c.1 <= c.2.length+r.2.1+e/\x.length <= 900
def I0 (c:Ct):Prop:=c.1 <= 500/\c.2.length <= c.1
theorem zZ.weak {S:M.S}{st:D}{a:Nat}{lo f i:Nat} (h:zZ S st a tx td g s c r lo hi e) (n:f+hi <= lo+i):zZ S st a tx td g s c r f i e:=by
 obtain⟨m,j,o,l⟩:=h;exact⟨m,j,by lia,l⟩
theorem zZ.slack {S:M.S}{st:D}{a:Nat}{lo:Nat} (h:zZ S st a tx td g s c r lo hi 0):zZ S st a tx td g s c r lo hi 1:=by
 obtain⟨m,e,f,i,j,l,n,o⟩:=h;exact⟨m,e,f,i,j,l,n,λx p=>by have:=o x p;lia⟩
theorem zZ.pre {S:M.S}{st:D}{a:Nat}{c:Ct}{lo:Nat} (i:Go S s s1 1) (h:zZ S st a tx td g s1 (c.1+1,c.2) r lo hi e) (u:e <= 1) (v:hi+2 <= lo+4):zZ S st a tx td g s c r 1 0 0:=by
 obtain⟨m,j,l,n,o,p,q,f⟩:=h;dsimp only at l n f;exact⟨1+m,j,by lia,by lia,i.then o,p,q,λx t=>by have:=f x t;lia⟩
theorem zZ.step {S:M.S}{st:D}{a:Nat}{lo:Nat} (f:Go S s s1 1) (h:zZ S st a tx td g s1 c r lo hi e):zZ S st a tx td g s c r lo (hi+1) e:=by
 obtain⟨m,i,o,j,l,n⟩:=h;exact⟨1+m,i,by lia,j,f.then l,n⟩
theorem Arr.grow {S:M.S}{st:D}{a:Nat}{g h:M.S} (k:Arr S st a tx td (g++h) r s):Arr S st a tx td g r s:=by
 unfold Arr at k ⊢;split at k
 ·obtain⟨h',e⟩:=k;exact⟨h++h',by rw[e,yI]⟩
 ·obtain⟨h',tx',td',e⟩:=k;exact⟨h++h',tx',td',by rw[e,yI]⟩
theorem zZ.andO {S:M.S}{st:D}{a:Nat}{f:T->Ct->Out×Ct} (w:I0 c) (z:zZ S st a l n g s c j 1 0 0) (A:∀ x h,j.1=.tx x->I0 j.2->x.length <= 900->zZ S st a tx td (g++h) (Wk S st a (usD j.2.2) (j.2.1:Int) (l++[.str x]) n .non (g++h)) j.2 (f x j.2) 0 hi e):zZ S st a tx td g s c (andO j f) 1 hi e:=by
 obtain⟨m,s',p,q,r,t,B,C⟩:=z;obtain⟨o,i⟩:=j;cases o with
 | tx x =>
  obtain⟨u,E,G⟩:=C x rfl;obtain⟨h,rfl⟩:=t;have H:=w.2;dsimp only at u E;obtain⟨I,J,L,N,Q,U,Y,v⟩:=A x h rfl ⟨u,by show i.2.length <= i.1;lia⟩ G;dsimp only at p q L N v;exact⟨m+I,J,by show _ <= 4 * ((f x i).2.1 - _)+_;lia,by show _ <= (f x i).2.1;lia,r.then Q,U.grow,Y,λy hy=>by have:=v y hy;show (f x i).2.1 <= 500/\(f x i).2.2.length+c.1 <= c.2.length+(f x i).2.1+e/\_;lia⟩
 | en e =>
  obtain⟨h,tx',td',rfl⟩:=t;exact⟨m,_,by have e1':m+1 <= 4 * (i.1 - c.1)+0:=p;show m+1 <= 4 * (i.1 - c.1)+hi;lia,q,r,⟨h,tx',td',rfl⟩,B,λx hx=>nomatch hx⟩
theorem zZ.here {S:M.S}{st:D}{a:Nat}{h:M.S}{x:T} (e:I0 c) (f:x.length <= 900):zZ S st a tx td g (Wk S st a (usD c.2) (c.1:Int) (tx++[.str x]) td .non (g++h)) c (.tx x,c) 0 0 0 :=
 ⟨0,_,by simp,zo _,Go.nil _,⟨h,rfl⟩,JI e.1,λy i=>by cases i;exact⟨e.1,by show c.2.length+c.1 <= c.2.length+c.1+0;lia,f⟩⟩
theorem zZ.over {S:M.S}{st:D}{a:Nat}{h:M.S}{c:Ct} (f:c.1 <= 501):zZ S st a tx td g (Wk S st a (usD c.2) (c.1:Int) tx' td' (zW e) (g++h)) c (.en e,c) 0 0 0 :=
 ⟨0,_,by simp,zo _,Go.nil _,⟨h,tx',td',rfl⟩,f,λy i=>nomatch i⟩
theorem zZ.here0 {S:M.S}{st:D}{a:Nat}{x:T} (e:I0 c) (f:x.length <= 900):zZ S st a tx td g (Wk S st a (usD c.2) (c.1:Int) (tx++[.str x]) td .non g) c (.tx x,c) 0 0 0:=by
 have:=zZ.here (S:=S) (st:=st) (a:=a) (tx:=tx) (td:=td) (g:=g) (h:=[]) e f
 rwa [yZ] at this
theorem zZ.over0 {S:M.S}{st:D}{a:Nat}{c:Ct} (f:c.1 <= 501):zZ S st a tx td g (Wk S st a (usD c.2) (c.1:Int) tx' td' (zW e) g) c (.en e,c) 0 0 0:=by
 have:=zZ.over (S:=S) (st:=st) (a:=a) (tx:=tx) (tx':=tx') (td:=td) (td':=td') (g:=g) (h:=[]) (e:=e) f
 rwa [yZ] at this
section
variable {S:M.S}{st:D}{a:Nat}{ans:List (T×T)}
theorem HQ (f:Tr->Ct->Out×Ct) (p:Tr) (ts:List Tr) (t:T) (c:Ct):yM (evs f (p::ts) t c)=andO (f p c) λx c=>yM (evs f ts (t++x) c):=by
 rw[evs];unfold andO;cases f p c with
 | mk o c=>cases o<;>rfl
theorem Lr (f:T->Ct->Out×Ct) (w:T) (ws:List T) (t:T) (c:Ct):evw f (w::ws) t c=andO (f w c) λx c=>if 900 < (t++x).length then (.en (jn,qu),c) else evw f ws (t++x) c:=by
 rw[evw];unfold andO;cases f w c with
 | mk o c=>cases o<;>rfl
theorem G2:∀ xs:List T,(∀ x∈xs,x.length <= 900)->xs.flatten.length <= 900 * xs.length:=λxs=>by
 induction xs with
 | nil=>intro _;simp
 | cons x xs c =>
  intro h;have f:=h x qa;have g:=c λy e=>h y (jh _ e);rw[Q8,jk,zx]
  lia
theorem Ws (ha:S[a]? = some (.dct (ans.map pd))) (o:∀ q∈ans,q.2.length <= 900) (n:T) (f:I0 c) {tx:List D} (l:tx.length <= 5000) :
  ∃ i,Z7 [.ref S.length,.str n] (Wk S st a (usD c.2) (c.1:Int) tx td .non g)=.ok .non i/\zZ S st a tx td g i c (qB ans n c) 0 0 1:=by
 unfold qB;cases q:qc ans n with
 | none =>
  obtain⟨m,i,j,p,r,s,t,_⟩:=zZ.over0 (S:=S) (st:=st) (a:=a) (tx:=tx) (tx':=tx) (td:=td) (td':=td) (g:=g) (c:=c) (e:=(VG,n)) (JI f.1);exact⟨_,f6 ha q,m,i,j,p,r,s,t,λx l=>nomatch l⟩
 | some v =>
  have h:=o _ (Ae q);have j:=m6 (S:=S) (st:=st) (a:=a) (us:=usD c.2) (k:=(c.1:Int)) (tx:=tx) (td:=td) (en:=.non) (g:=g) ha q h l (by unfold usD;rw[jS];have:=f.1;have:=f.2;lia);rw[LY] at j;refine⟨_,j,?_⟩;have w:=cK c.2 n;exact⟨0,_,by simp,zo _,Go.nil _,⟨[],by rw[yZ]⟩,JI f.1,λy u=>by cases u;exact⟨f.1,by show (JG c.2 n).length+c.1 <= c.2.length+c.1+1;lia,h⟩⟩
abbrev YR (S:M.S) (st:D) (a:Nat) (ans:List (T×T)) (n:Nat) (p:Tr) (i:D):Prop:=∀ (tx td:List D) (g:M.S) (c:Ct),I0 c->tx.length+60 * n <= 3000->td.length+60 * n <= 3000->zZ S st a tx td g (Wk S st a (usD c.2) (c.1:Int) tx (td++[ptD i p.d]) .non g) c (ev ans st n p i c) 1 0 0
theorem bg {n N:Nat}{tx td:List D} (w:N <= 50) (z:tx.length+60 * (n+1) <= 3000) (hd:td.length+60 * (n+1) <= 3000):∀ (ts:List Tr) (xs:List T) (c:Ct) (g:M.S),(∀ p∈ts,YR S st a ans n p i)->I0 c->xs.length+ts.length=N->(∀ x∈xs,x.length <= 900) ->
  zZ S st a tx td g (Wk S st a (usD c.2) (c.1:Int) (tx++xs.map .str) (td++[.tup [.str ZH,.int (N:Int)]]++(ts.map Tr.d).reverse.map (ptD i)) .non g) c (yM (evs (λa c=>ev ans st n a i c) ts xs.flatten c)) 0 1 0
 | [],xs,c,g,_,e,f,j=>by
  have l:xs.length=N:=by simpa using f
  subst l;have G:=G2 xs j;have m:td++[D.tup [.str ZH,.int (xs.length:Int)]]++(([]:List Tr).map Tr.d).reverse.map (ptD i)=td++[D.tup [.str ZH,.int (xs.length:Int)]]:=by simp
  rw[m];show zZ S st a tx td g _ c (if 900 < xs.flatten.length then (.en (jn,qu),c) else (.tx xs.flatten,c)) 0 1 0;by_cases o:900 < xs.flatten.length
  ·rw[if_pos o];have r:=lN (S:=S) (st:=st) (a:=a) (us:=usD c.2) (k:=(c.1:Int)) (tx:=tx) (td:=td) (g:=g) xs (by lia) o (by lia);exact zZ.step (Go.one (Cq r)) (zZ.over (JI e.1))
  ·rw[if_neg o];have r:=Mg (S:=S) (st:=st) (a:=a) (us:=usD c.2) (k:=(c.1:Int)) (tx:=tx) (td:=td) (g:=g) xs (by lia) (by lia) (by lia);exact zZ.step (Go.one (Cq r)) (zZ.here e (by lia))
 | p::ts,xs,c,g,u,e,f,j=>by
  rw[zx] at f;rw[HQ];have m:td++[D.tup [.str ZH,.int (N:Int)]]++((p::ts).map Tr.d).reverse.map (ptD i)=(td++[D.tup [.str ZH,.int (N:Int)]]++(ts.map Tr.d).reverse.map (ptD i))++[ptD i p.d]:=by simp
  rw[m];refine zZ.weak (zZ.andO e (u p qa (tx++xs.map .str) (td++[D.tup [.str ZH,.int (N:Int)]]++(ts.map Tr.d).reverse.map (ptD i)) g c e (by simp;lia) (by simp;lia)) λx h A s t=>?_) (show 0+1 <= 1+1 by lia);have v:=bg w z hd ts (xs++[x]) (ev ans st n p i c).2 (g++h) (λq B=>u q (jh _ B)) s (by simp;lia) (λy C=>by
   rcases List.mem_append.mp C with h | h
   ·exact j y h
   ·rw[List.mem_singleton.mp h];exact t)
  have E:(xs++[x]).flatten=xs.flatten++x:=by simp
  rw[E,vi,<- yI] at v;exact v
theorem dh {n l0:Nat}{b:Tr}{tx td:List D}{ws:List T} (z:tx.length+60 * (n+1) <= 3000) (hd:td.length+60 * (n+1) <= 3000) (hw:∀ w∈ws,YR S st a ans n b (.str w)):∀ (d j:Nat) (t:T) (c:Ct) (g:M.S),ws.length - j=d->g[l0]? = some (.lst (ws.map .str))->I0 c->t.length <= 900 ->
  zZ S st a tx td g (Wk S st a (usD c.2) (c.1:Int) (tx++[.str t]) (td++yn b.d (S.length+4+l0) ws j) .non g) c (evw (λw c=>ev ans st n b (.str w) c) (ws.drop j) t c) 0 0 0
 | 0,j,t,c,g,A,v,o,p=>by
  have q:yn b.d (S.length+4+l0) ws j=[]:=by unfold yn;rw[if_neg (by lia)]
  have r:ws.drop j=[]:=A1 (by lia);rw[q,r,yZ];exact zZ.here0 o p
 | d+1,j,t,c,g,A,v,o,p=>by
  have e:j < ws.length:=by lia
  have q:td++yn b.d (S.length+4+l0) ws j=(td++[rdD b.d (S.length+4+l0) ((j:Int)+1)])++[ptD (.str (ws.getD j [])) b.d]:=by unfold yn;rw[if_pos e];simp
  have r:ws.drop j=ws.getD j []::ws.drop (j+1):=by
   rw[kX e,qP,yQ e];rfl
  have i:ws.getD j []∈ws:=by
   rw[qP,yQ e];exact dq e
  rw[q,r,Lr];refine zZ.weak (zZ.andO o (hw _ i (tx++[.str t]) (td++[rdD b.d (S.length+4+l0) ((j:Int)+1)]) g c o (by simp;lia) (by simp;lia)) (hi:=1) λx h B l s=>?_) (show 0+1 <= 1+0 by lia);have m:=yl v h;have u:=i7 (S:=S) (st:=st) (a:=a) (us:=usD (ev ans st n b (.str (ws.getD j [])) c).2.2) (k:=((ev ans st n b (.str (ws.getD j [])) c).2.1:Int)) (tx:=tx) (td:=td) (g:=g++h) b.d m (j+1) t x p s (by lia) (by lia);have f:=u;rw[show (((j+1:Nat):Int))=(j:Int)+1 by lia] at f;have go:=Go.one (HW f);by_cases y:900 < (t++x).length
  ·rw[if_pos y] at go ⊢;exact zZ.step go (zZ.over0 (JI l.1))
  ·rw[if_neg y] at go ⊢;exact zZ.step go (dh z hd hw d (j+1) (t++x) _ (g++h) (by lia) m l (by lia))
end
section
variable {S:M.S}{st:D}{a:Nat}{ans:List (T×T)}
theorem Ij:∀ p∈zb t,p.length <= t.length:=λp c=>by
 have e:(jy t).length=t.length:=by simp[jy]
 have:=Ve 32 (jy t) p (List.mem_filter.mp c).1
 lia
theorem Qt (ha:S[a]? = some (.dct (ans.map pd))) (z:∀ q∈ans,q.2.length <= 900) (o:(yz st).length <= 900):∀ (n:Nat) (t:Tr) (b:Bool) (i:D),jV st n b t->(b=true->∃ x,i=.str x/\x.length <= 900)->YR S st a ans n t i
 | 0,t,b,i,A,_=>A.elim
 | n+1,t,b,i,A,hi=>λtx td g c hc hx hd=>by
  by_cases v:500 <= c.1
  ·have f:=g5 (S:=S) (st:=st) (a:=a) (us:=usD c.2) (k:=(c.1:Int)) (tx:=tx) (td:=td) (g:=g) t.d i (by lia);have e:ev ans st (n+1) t i c=(.en (jn,Kz),(c.1+1,c.2)):=by rw[ev.eq_def];dsimp only;rw[if_pos v]
   rw[e];refine zZ.pre (c:=c) (lo:=0) (hi:=0) (e:=0) (Go.one (Jj f)) ?_ (by lia) (by lia);have j:=hc.1;exact zZ.over0 (c:=(c.1+1,c.2)) (by show c.1+1 <= 501;lia)
  have C:(c.1:Int) <= 499:=by lia
  have j:I0 (c.1+1,c.2):=⟨by show c.1+1 <= 500;lia,JI hc.2⟩
  have E:((c.1:Int)+1)=((c.1+1:Nat):Int):=by lia
  have bare:∀ {w x:T}{r:List D},t.d=.tup (.str w::r)->(w=[116,101,120,116]\/w=[108,105,110,101]\/w=[105,116]\/w=[115,116,101,109])->(∀ k,Qq [.ref S.length,t.d,i] (Wk S st a (usD c.2) k tx td .non g)=.ok (.str x) (Wk S st a (usD c.2) k tx td .non g))->x.length <= 900->ev ans st (n+1) t i c=(.tx x,(c.1+1,c.2))->zZ S st a tx td g (Wk S st a (usD c.2) (c.1:Int) tx (td++[ptD i t.d]) .non g) c (ev ans st (n+1) t i c) 1 0 0:=λ{w x r} G H e3 e4 e5=>by
   have f:=mX (S:=S) (st:=st) (a:=a) (us:=usD c.2) (k:=(c.1:Int)) (tx:=tx) (td:=td) (g:=g) G H e3 (by lia) (by lia) C;rw[if_neg (by lia),E] at f;rw[e5];exact zZ.pre (c:=c) (lo:=0) (hi:=0) (Go.one (Jj f)) (zZ.here0 (c:=(c.1+1,c.2)) j e4) (by lia) (by lia)
  cases t with
  | txt x=>exact bare rfl (.inl rfl) (λk=>lC x i) A (by rw[ev,if_neg v])
  | line=>exact bare rfl (.inr (.inl rfl)) (λk=>fU i) (by decide) (by rw[ev,if_neg v])
  | it =>
   obtain⟨x,rfl,hxl⟩:=hi A;exact bare rfl (.inr (.inr (.inl rfl))) (λk=>HN _) hxl (by rw[ev,if_neg v];rfl)
  | stem =>
   obtain⟨x,rfl⟩:=A;exact bare rfl (.inr (.inr (.inr rfl))) (λk=>mu _) o (by rw[ev,if_neg v];rfl)
  | thing m =>
   obtain⟨s',G,H⟩:=Ws (S:=S) (st:=st) (a:=a) ha z m (c:=(c.1+1,c.2)) j (tx:=tx) (td:=td) (g:=g) (by lia);have f:=fZ (S:=S) (st:=st) (a:=a) (us:=usD c.2) (k:=(c.1:Int)) (tx:=tx) (td:=td) (g:=g) (i:=i) (by rw[E];exact G) C;have e:ev ans st (n+1) (.thing m) i c=qB ans m (c.1+1,c.2):=by rw[ev,if_neg v]
   rw[e];exact zZ.pre (c:=c) (lo:=0) (hi:=0) (Go.one (Jj f)) H (by lia) (by lia)
  | kin m =>
   obtain⟨hm,x,rfl⟩:=A;have hst':x.length <= 900:=o;obtain⟨s',G,H⟩:=Ws (S:=S) (st:=.str x) (a:=a) ha z (m++[46]++x) (c:=(c.1+1,c.2)) j (tx:=tx) (td:=td) (g:=g) (by lia);have f:=Fi (S:=S) (st:=.str x) (a:=a) (us:=usD c.2) (k:=(c.1:Int)) (tx:=tx) (td:=td) (g:=g) (i:=i) rfl (by lia) hm (by rw[E];exact G) C;have e:ev ans (.str x) (n+1) (.kin m) i c=qB ans (m++[46]++x) (c.1+1,c.2):=by rw[ev,if_neg v];rfl
   rw[e];exact zZ.pre (c:=c) (lo:=0) (hi:=0) (Go.one (Jj f)) H (by lia) (by lia)
  | join ts =>
   obtain⟨h1,h2,h3⟩:=A;have u:=mH (S:=S) (st:=st) (a:=a) (us:=usD c.2) (k:=(c.1:Int)+1) (tx:=tx) (td:=td) (en:=.non) (g:=g) i (ts.map Tr.d) (by rw[jS];lia) (by rw[jS];exact h1);have f:=V7 (S:=S) (st:=st) (a:=a) (us:=usD c.2) (k:=(c.1:Int)) (tx:=tx) (td:=td) (g:=g) (i:=i) (Tr.d_join ts) (.inr (.inl rfl)) (by rw[Tr.d_join];exact u) C;rw[E,jS] at f;have e:ev ans st (n+1) (.join ts) i c=yM (evs (λa c=>ev ans st n a i c) ts [] (c.1+1,c.2)):=by rw[ev,if_neg v]
   rw[e];have hr:=bg (S:=S) (st:=st) (a:=a) (ans:=ans) (n:=n) (N:=ts.length) (i:=i) (tx:=tx) (td:=td) h2 hx hd ts [] (c.1+1,c.2) g (λp hp=>Qt ha z o n p b i (h3 p hp) hi) j (by simp) (by simp);rw[Jh,yZ] at hr;exact zZ.pre (c:=c) (lo:=0) (hi:=1) (Go.one (Jj f)) hr (by lia) (by lia)
  | ife p q x y =>
   obtain⟨I,g2,g3,g4⟩:=A;have u:=fG (S:=S) (st:=st) (a:=a) (us:=usD c.2) (k:=(c.1:Int)+1) (tx:=tx) (td:=td) (en:=.non) (g:=g) i p.d q.d x.d y.d (by lia);have f:=V7 (S:=S) (st:=st) (a:=a) (us:=usD c.2) (k:=(c.1:Int)) (tx:=tx) (td:=td) (g:=g) (i:=i) (show (Tr.ife p q x y).d=.tup (.str tIf::[p.d,q.d,x.d,y.d]) by rw[Tr.d]) (.inr (.inr (.inl rfl))) (by rw[Tr.d];exact u) C;rw[E] at f;have e:ev ans st (n+1) (.ife p q x y) i c=andO (ev ans st n p i (c.1+1,c.2)) λs c=>andO (ev ans st n q i c) λt c=>ev ans st n (if s=t then x else y) i c:=by rw[ev,if_neg v]
   rw[e];have J:td++[D.tup [.str tIf,.tup [.str tIf,p.d,q.d,x.d,y.d],i],ptD i q.d,ptD i p.d]=(td++[D.tup [.str tIf,.tup [.str tIf,p.d,q.d,x.d,y.d],i]]++[ptD i q.d])++[ptD i p.d]:=by simp
   rw[J] at f;refine zZ.pre (c:=c) (lo:=1) (hi:=0) (e:=0) (Go.one (Jj f)) ?_ (by lia) (by lia);refine zZ.andO j (Qt ha z o n p b i I hi tx _ g (c.1+1,c.2) j (by lia) (by simp;lia)) λs h hs l L=>?_;refine zZ.weak (zZ.andO (hi:=0) l (Qt ha z o n q b i g2 hi (tx++[.str s]) _ (g++h) _ l (by simp;lia) (by simp;lia)) λQ h2 hs2 U hsl2=>?_) (show 0+0 <= 1+0 by lia);have Y:=Mc (S:=S) (st:=st) (a:=a) (us:=usD (ev ans st n q i (ev ans st n p i (c.1+1,c.2)).2).2.2) (k:=((ev ans st n q i (ev ans st n p i (c.1+1,c.2)).2).2.1:Int)) (tx:=tx) (td:=td) (g:=g++h++h2) i p.d q.d x.d y.d s Q (by lia);have ed:(if s=Q then x.d else y.d)=(if s=Q then x else y).d:=by split<;>rfl
   rw[ed] at Y;have gx:jV st n b (if s=Q then x else y):=by split<;>assumption
   have:=zZ.step (Go.one (mm Y)) (Qt ha z o n (if s=Q then x else y) b i gx hi tx td (g++h++h2) _ U (by lia) (by lia));exact zZ.weak this (show 0+(0+1) <= 1+0 by lia)
  | each p q =>
   obtain⟨I,g2⟩:=A;have u:=Fm (S:=S) (st:=st) (a:=a) (us:=usD c.2) (k:=(c.1:Int)+1) (tx:=tx) (td:=td) (en:=.non) (g:=g) i p.d q.d (by lia);have f:=V7 (S:=S) (st:=st) (a:=a) (us:=usD c.2) (k:=(c.1:Int)) (tx:=tx) (td:=td) (g:=g) (i:=i) (show (Tr.each p q).d=.tup (.str Z1::[p.d,q.d]) by rw[Tr.d]) (.inr (.inr (.inr rfl))) (by rw[Tr.d];exact u) C;rw[E] at f;have e:ev ans st (n+1) (.each p q) i c=andO (ev ans st n p i (c.1+1,c.2)) λs c=>evw (λw c=>ev ans st n q (.str w) c) (zb s) [] c:=by rw[ev,if_neg v]
   rw[e];have J:td++[D.tup [.str Z1,q.d],ptD i p.d]=(td++[D.tup [.str Z1,q.d]])++[ptD i p.d]:=by simp
   rw[J] at f;refine zZ.pre (c:=c) (lo:=1) (hi:=1) (e:=0) (Go.one (Jj f)) ?_ (by lia) (by lia);refine zZ.andO j (Qt ha z o n p b i I hi tx _ g (c.1+1,c.2) j (by lia) (by simp;lia)) λs h hs l L=>?_;have he:=ib (S:=S) (st:=st) (a:=a) (us:=usD (ev ans st n p i (c.1+1,c.2)).2.2) (k:=((ev ans st n p i (c.1+1,c.2)).2.1:Int)) (tx:=tx) (td:=td) (g:=g++h) q.d s (by lia) (by lia) (by lia);have hw:∀ w∈zb s,YR S st a ans n q (.str w):=λw hw=>Qt ha z o n q true (.str w) g2 λ_=>⟨w,rfl,by have:=Ij w hw;lia⟩
   have hr:=dh (S:=S) (st:=st) (a:=a) (ans:=ans) (n:=n) (l0:=(g++h).length) (b:=q) (tx:=tx) (td:=td) (ws:=zb s) hx hd hw (zb s).length 0 [] _ (g++h++[.lst ((zb s).map .str)]) (by lia) (by simp) l (by simp);obtain⟨m,s',k1,k2,k3,k4,k5⟩:=zZ.step (Go.one (mQ he)) hr;exact⟨m,s',k1,k2,k3,k4.grow,k5⟩
  | one w p =>
   obtain⟨hw,I⟩:=A;have u:=Iz (S:=S) (st:=st) (a:=a) (us:=usD c.2) (k:=(c.1:Int)+1) (tx:=tx) (td:=td) (en:=.non) (g:=g) hw i p.d (by lia);have f:=V7 (S:=S) (st:=st) (a:=a) (us:=usD c.2) (k:=(c.1:Int)) (tx:=tx) (td:=td) (g:=g) (i:=i) (show (Tr.one w p).d=.tup (.str w::[p.d]) by rw[Tr.d]) (.inl hw) (by rw[Tr.d];exact u) C;rw[E] at f;have e:ev ans st (n+1) (.one w p) i c=andO (ev ans st n p i (c.1+1,c.2)) λs c=>Jy ans w s c:=by rw[ev,if_neg v]
   rw[e];have J:td++[D.tup [.str w],ptD i p.d]=(td++[D.tup [.str w]])++[ptD i p.d]:=by simp
   rw[J] at f;refine zZ.pre (c:=c) (lo:=1) (hi:=1) (e:=1) (Go.one (Jj f)) ?_ (by lia) (by lia);have hp:=Qt ha z o n p b i I hi tx (td++[D.tup [.str w]]) g (c.1+1,c.2) j (by lia) (by simp;lia);obtain⟨m0,s0,j1,j2,j3,j4,j5,j6⟩:=hp;refine zZ.andO (e:=1) j ⟨m0,s0,j1,j2,j3,j4,j5,j6⟩ λs h hs l L=>?_;generalize (ev ans st n p i (c.1+1,c.2)).2=B at *;unfold Jy;rcases hw with rfl | rfl | hw
   ·rw[if_neg (by decide),if_pos rfl];cases hn:y7 s with
    | false =>
     rw[if_neg (by decide)];exact zZ.slack <| zZ.step (Go.one (VS (.inl rfl) (iA (S:=S) (st:=st) (a:=a) (us:=usD B.2) (k:=(B.1:Int)) (tx:=tx) (td:=td) (en:=.non) (g:=g++h) (by lia) hn))) (zZ.over0 (JI l.1))
    | true =>
     rw[if_pos rfl];obtain⟨s1,G,H⟩:=Ws (S:=S) (st:=st) (a:=a) ha z s (c:=B) l (tx:=tx) (td:=td) (g:=g++h) (by lia);exact zZ.step (Go.one (VS (.inl rfl) (Fh (S:=S) (st:=st) (a:=a) (us:=usD B.2) (k:=(B.1:Int)) (tx:=tx) (td:=td) (en:=.non) (g:=g++h) (by lia) hn G))) H
   ·rw[if_pos rfl];exact zZ.slack <| zZ.step (Go.one (VS (.inr (.inl rfl)) (fR (S:=S) (st:=st) (a:=a) (us:=usD B.2) (k:=(B.1:Int)) (tx:=tx) (td:=td) (en:=.non) (g:=g++h) s))) (zZ.over0 (JI l.1))
   ·have n1:¬ w=JS:=by rcases hw with rfl | rfl | rfl | rfl | rfl<;>decide
    have n2:¬ w=tOf:=by rcases hw with rfl | rfl | rfl | rfl | rfl<;>decide
    rw[if_neg n1,if_neg n2];have hs1:=Ho (S:=S) (st:=st) (a:=a) (us:=usD B.2) (k:=(B.1:Int)) (tx:=tx) (td:=td) (en:=.non) (g:=g++h) (t:=s) hw (by lia) (by lia);have go:=Go.one (VS (.inr (.inr hw)) hs1);unfold yM;by_cases h9:900 < (yE w s).length
    ·rw[if_pos h9] at go;dsimp only;rw[if_pos h9];exact zZ.slack (zZ.step go (zZ.over0 (JI l.1)))
    ·rw[if_neg h9] at go;dsimp only;rw[if_neg h9];exact zZ.slack (zZ.step go (zZ.here0 l (by lia)))
end
section
variable {S:M.S}{st:D}{a:Nat}{us:List (D×D)}{k:Int}{tx td:List D}{en:D}{g:M.S}{ans:List (T×T)}
def Fin (S:M.S) (st:D) (a:Nat) (r:(T×T)×List T) (s:M.S):Prop :=
 ∃ us k tx td g,us.map (λp:D×D=>p.1)=r.2.map D.str/\((s=Wk S st a us k [.str r.1.2] [] .non g/\r.1.1=qd)\/s=Wk S st a us k tx td (zW r.1) g)
theorem nc {r:(T×T)×List T}{s:M.S} (h:Fin S st a r s) (n:Nat) (v:Option D):((qg (n+1) yY ZW [some (.ref S.length),v] s).then W2).out=.ok (zW r.1) s:=by
 have f:(2:Nat) <= SZ:=by decide
 obtain⟨us,k,tx,td,g,_,⟨rfl,e⟩ | rfl⟩:=h
 ·rw[Dj];obtain⟨⟨i,t⟩,c⟩:=r;dsimp only at e;subst e;simp[wk0,wk2,at0,f,zW,RS.out]
 ·rw[Lu];simp[wk0,zW,RS.out]
noncomputable def zv:Out->T×T
 | .tx x=>(qd,x)
 | .en e=>e
theorem MC (ha:S[a]? = some (.dct (ans.map pd))) (p:∀ q∈ans,q.2.length <= 900) (j:(yz st).length <= 900) {n:Nat} (A:n <= 40) (s:jV st n false t) :
  ∃ i,ke [.ref S.length] (Wk S st a [] 0 [] [ptD .non t.d] .non [])=.ok (zW (zv (ev ans st n t .non (0,[])).1)) i/\Fin S st a (zv (ev ans st n t .non (0,[])).1,(ev ans st n t .non (0,[])).2.2) i:=by
 obtain⟨m,i,u,B,v,l,C,E⟩:=Qt ha p j n t false .non s (λh=>nomatch h) [] [] [] (0,[]) ⟨ZV _,zo _⟩ (by simp;lia) (by simp;lia);generalize ev ans st n t .non (0,[])=r at *;have f:Fin S st a (zv r.1,r.2.2) i:=by
  obtain⟨o,c⟩:=r;cases o with
  | tx x =>
   obtain⟨h,rfl⟩:=l;exact⟨_,_,[],[],_,dY _,.inl ⟨rfl,rfl⟩⟩
  | en e =>
   obtain⟨h,tx',td',rfl⟩:=l;exact⟨_,_,_,_,_,dY _,.inr rfl⟩
 refine⟨i,?_,f⟩;show (Xl [some (.ref S.length),none] _).out=_;rw[Iu];have hm:m <= 3000:=by dsimp only at u;lia
 obtain⟨w,e⟩:=v (999999999999 - m+1) none;have y:KP=999999999999 - m+1+m:=by unfold KP;lia
 show ((qg KP yY ZW [some (.ref S.length),none] (Wk S st a [] 0 [] ([]++[ptD .non t.d]) .non [])).then W2).out=_;rw[y];have z:qg (999999999999 - m+1+m) yY ZW [some (.ref S.length),none] (Wk S st a [] 0 [] ([]++[ptD .non t.d]) .non [])=qg (999999999999 - m+1) yY ZW [some (.ref S.length),w] i:=e;rw[z];exact nc f _ _
end
noncomputable def vI:SM :=
  (zH (zQ 3 (K2 4 7 vb (zB (zA 0) (zB (zA 1) (zB (zA 2) zC)))))
  (zH (zQ 4 (jN 4 ke (zA 3) zC))
  (zX (ze (zB (zA 4) (zB (zK vE (zB (jC 4 2 (zA 3)) zC)) zC))))))
noncomputable def lJ:F:=fn 5 vI
noncomputable abbrev kU:F:=lJ
theorem Hr {S:M.S}{st:D}{a:Nat}{r:(T×T)×List T}{i:M.S} (h:ke [.ref S.length] (Wk S st a [] 0 [] [ptD .non c] .non [])=.ok (zW r.1) i) (f:Fin S st a r i) :
  ∃ l g,kU [c,st,.ref a] S=.ok (.tup [zW r.1,.ref l]) (S++g)/\(S++g)[l]? = some (.lst (r.2.map D.str)):=by
 have j:(2:Nat) <= SZ:=by decide
 have hi:=LU S c st a;obtain⟨us,k,tx,td,g,m,hs⟩:=f;obtain⟨tx',td',en,rfl⟩:∃ tx td en,i=Wk S st a us k tx td en g:=by
  rcases hs with ⟨e,_⟩ | e
  ·exact⟨_,_,_,e⟩
  ·exact⟨_,_,_,e⟩
 refine⟨S.length+4+g.length,.ins 4 [some st,some (.ref a),some (.ref (S.length+1)),some (.int k),some (.ref (S.length+2)),some (.ref (S.length+3)),some en]::.dct us::.lst tx'::.lst td'::(g++[.lst (r.2.map D.str)]),?_,?_⟩
 ·have n:(Wk S st a us k tx' td' en g).length=S.length+4+g.length:=by simp[Wk];lia
  have o:(zQ 3 (K2 4 7 vb (zB (zA 0) (zB (zA 1) (zB (zA 2) zC))))) [some c,some st,some (.ref a),none,none] S=.nx [some c,some st,some (.ref a),some (.ref S.length),none] (Wk S st a [] 0 [] [ptD .non c] .non []):=by
   simp only[zQ,K2,zB,zC,zA,jJ,jW,R.bind_ok,hi,if_true,R.stm_ok,qw,qx];rfl
  have p:(zQ 4 (jN 4 ke (zA 3) zC)) [some c,some st,some (.ref a),some (.ref S.length),none] (Wk S st a [] 0 [] [ptD .non c] .non [])=.nx [some c,some st,some (.ref a),some (.ref S.length),some (zW r.1)] (Wk S st a us k tx' td' en g):=by
   simp[wk0,h]
  show (vI [some c,some st,some (.ref a),none,none] S).out=_;unfold vI;show ((((zQ 3 _) [some c,some st,some (.ref a),none,none] S).then _).out)=_;rw[o,RS.then_nx];show ((((zQ 4 _) [some c,some st,some (.ref a),some (.ref S.length),none] (Wk S st a [] 0 [] [ptD .non c] .non [])).then _).out)=_;rw[p,RS.then_nx];have q:Wk S st a us k tx' td' en g++[.lst (r.2.map D.str)]=S++(.ins 4 [some st,some (.ref a),some (.ref (S.length+1)),some (.int k),some (.ref (S.length+2)),some (.ref (S.length+3)),some en]::.dct us::.lst tx'::.lst td'::(g++[.lst (r.2.map D.str)])):=by simp[Wk]
  rw[<- q];simp[wk0,wk1,m,n,j,RS.out]
 ·rw[ZQ (by lia),show S.length+4+g.length - S.length=g.length+1+1+1+1 by lia];simp
theorem Cu {S:M.S}{st:D}{a:Nat}{ans:List (T×T)} (ha:S[a]? = some (.dct (ans.map pd))) (e:∀ q∈ans,q.2.length <= 900) (c:(yz st).length <= 900) {n:Nat} (f:n <= 40) (h:jV st n false t) :
  ∃ l g,kU [t.d,st,.ref a] S=.ok (.tup [zW (zv (ev ans st n t .non (0,[])).1),.ref l]) (S++g)/\(S++g)[l]? = some (.lst ((ev ans st n t .non (0,[])).2.2.map D.str)):=by
 obtain⟨m,i,j⟩:=MC (S:=S) (st:=st) (a:=a) ha e c f h;exact Hr (r:=(zv (ev ans st n t .non (0,[])).1,(ev ans st n t .non (0,[])).2.2)) i j
noncomputable def Vq:SM :=
  (zX (eOp zI (eC (.str [97,98,99,100,101,102,103,104,105,106,107,108,109,110,111,112,113,114,115,116,117,118,119,120,121,122])) (eOp jD (zA 0) (eC (.int 26)))))
noncomputable def DO:F:=fn 1 Vq
noncomputable def yb (c:Int):Nat:=97+(c % 26).toNat
noncomputable def abc:T:=[97,98,99,100,101,102,103,104,105,106,107,108,109,110,111,112,113,114,115,116,117,118,119,120,121,122]
theorem gr (c:Int):atI abc (c % 26)=some (yb c):=by
 have a:=Zh c (show (26:Int)≠0 by decide);have b:=Zl c (show (0:Int) < 26 by decide);rw[JK a (by show _ < ((26:Nat):Int);exact b) 0];unfold yb;have:∀ n:Nat,n < 26->abc.getD n 0=97+n:=by decide
 rw[this _ (by lia)]
theorem Av (c:Int):97 <= yb c/\yb c <= 122:=by
 have a:=Zh c (show (26:Int)≠0 by decide);have b:=Zl c (show (0:Int) < 26 by decide);unfold yb
 lia
noncomputable def yo:F
 | [.int c],s=>.ok (.str [yb c]) s
 | _,_=>.no
theorem Dr:jI 1 DO yo:=jI.pure λds S f c g=>by
 match ds,f with
 | [a],_ =>
  cases a with
  | int c =>
   have e:=gr c;unfold abc at e;have z:(26:Nat) <= SZ:=by decide
   exact .inr ⟨.str [yb c],[],rfl,by simp[DO,Vq,e,z],rfl⟩
  | _=>exact .inl rfl
noncomputable def X2:SM :=
  (zQ 2 (Jc (q7 []) 1 (qt (eC (.int 8))) (zw 5) jU (zK yo (zB (eOp jD (eOp qe (eOp zc (eOp jO (zA 0) (eC (.int 468))) (eOp qe (zA 5) (eC (.int 977)))) (eC (.int 48271))) (eC (.int 7919))) zC))))
noncomputable def xv:SM :=
  (zQ 3 (eOp zI (jT (zB (eC (.int 1)) (zB (eC (.int 2)) (zB (eC (.int 3)) (zB (eC (.int 4)) (zB (eC (.int 6)) (zB (eC (.int 8)) zC))))))) (eOp jD (eOp jO (zA 0) (eC (.int 26))) (eC (.int 6)))))
noncomputable def XC:SM :=
  (sIf (zN cEq (eOp jD (eOp jO (zA 0) (eC (.int 156))) (eC (.int 3))) (eC (.int 0)))
  (zX (eSl (zA 2) qb (jr (eOp zc (zA 1) (eC (.int 1))))))
  zq)
noncomputable def vW:SM :=
  (zQ 4 (eOp jD (eOp jO (zA 0) (eC (.int 468))) (zA 3)))
noncomputable def Xu:SM :=
  (sIf (zN cEq (eOp jD (eOp jO (zA 0) (eC (.int 156))) (eC (.int 3))) (eC (.int 1)))
  (zX (eOp zc (eOp zc (eSl (zA 2) qb (jr (zA 4))) (zK yo (zB (eOp zc (zA 0) (zA 1)) zC))) (eSl (zA 2) (jr (eOp zc (zA 4) (eC (.int 1)))) (jr (zA 3)))))
  zq)
noncomputable def vl:SM :=
  (zX (eOp zc (zK yo (zB (eOp zc (zA 0) (zA 1)) zC)) (eSl (zA 2) (jr (zA 1)) (jr (eOp zc (zA 1) (eOp jD (eOp zc (zA 3) (zA 1)) (eC (.int 8))))))))
noncomputable def uQ:SM:=(zH X2 (zH xv (zH XC (zH vW (zH Xu vl)))))
noncomputable def EF:F:=fn 5 uQ
noncomputable def yy (c:Int):T:=(qE 8).map λ(j:Nat)=>yb ((c / 468+j * 977) * 48271 % 7919)
noncomputable def qf (c:Int):Int:=([1,2,3,4,6,8]:List Int).getD (c / 26 % 6).toNat 1
noncomputable def plT (c k:Int):T:=if c / 156 % 3=0 then cut (yy c) none (some (k+1)) else if c / 156 % 3=1 then cut (yy c) none (some (c / 468 % qf c))++[yb (c+k)]++cut (yy c) (some (c / 468 % qf c+1)) (some (qf c)) else [yb (c+k)]++cut (yy c) (some k) (some (k+(qf c+k) % 8))
def QP (x:T):Prop:=∀ ch∈x,97 <= ch/\ch <= 122
theorem YX {y:T} (h:QP x) (k:QP y):QP (x++y):=λch c=>(List.mem_append.mp c).elim (h ch) (k ch)
theorem Ua (c:Int):QP [yb c]:=λch e=>by rw[List.mem_singleton.mp e];exact Av c
theorem Ys (c:Int):QP (yy c):=λch e=>by
 obtain⟨j,_,rfl⟩:=List.mem_map.mp e;exact Av _
theorem Uc {x:T}{lo hi:Option Int}{ch:Nat} (h:ch∈cut x lo hi):ch∈x:=by
 unfold cut at h;exact Vz (w6 h)
theorem YW (h:QP x) (lo hi:Option Int):QP (cut x lo hi):=λch c=>h ch (Uc c)
theorem DZ (c:Int):(yy c).length=8:=by simp[yy]
theorem D3 (c k:Int):QP (plT c k):=by
 unfold plT;split
 ·exact YW (Ys c) _ _
 ·split
  ·exact YX (YX (YW (Ys c) _ _) (Ua _)) (YW (Ys c) _ _)
  ·exact YX (Ua _) (YW (Ys c) _ _)
theorem F7 (c k:Int):(plT c k).length <= 17:=by
 unfold plT;have h:=λlo hi=>cR (yy c) lo hi;have b:=DZ c;split
 ·have:=h none (some (k+1));lia
 ·split
  ·have e:=h none (some (c / 468 % qf c));have f:=h (some (c / 468 % qf c+1)) (some (qf c));simp only[jk,dJ];lia
  ·have e:=h (some k) (some (k+(qf c+k) % 8));simp only[jk,dJ];lia
theorem Ff (c:Int):atI ([.int 1,.int 2,.int 3,.int 4,.int 6,.int 8]:List D) (c / 26 % 6)=some (.int (qf c))/\0 < qf c/\qf c <= 8:=by
 have a:=Zh (c / 26) (show (6:Int)≠0 by decide);have b:=Zl (c / 26) (show (0:Int) < 6 by decide);unfold qf;rw[JK a (by show _ < ((6:Nat):Int);exact b) (.int 1)];generalize f:(c / 26 % 6).toNat=n;have e:n < 6:=by lia
 have:∀ n:Nat,n < 6->([.int 1,.int 2,.int 3,.int 4,.int 6,.int 8]:List D).getD n (.int 1)=.int (([1,2,3,4,6,8]:List Int).getD n 1)/\0 < ([1,2,3,4,6,8]:List Int).getD n 1/\([1,2,3,4,6,8]:List Int).getD n 1 <= 8:=by decide
 have:=this n e;exact⟨by rw[this.1],this.2⟩
noncomputable def Xf:F
 | [.int c,.int k],s=>.ok (.str (plT c k)) s
 | _,_=>.no
theorem mW (c k:Int) (S:M.S) (r:SM):(X2 [some (.int c),some (.int k),none,none,none] S).then r=r [some (.int c),some (.int k),some (.str (yy c)),none,none] S:=by
 have s1:qK 977=true:=by decide
 have g:qK 48271=true:=by decide
 have h:jt 1 (qt (eC (.int 8))) (zw 5) jU (zK yo (zB (eOp jD (eOp qe (eOp zc (eOp jO (zA 0) (eC (.int 468))) (eOp qe (zA 5) (eC (.int 977)))) (eC (.int 48271))) (eC (.int 7919))) zC)) [some (.int c),some (.int k),none,none,none] S=.ok ((qE 8).map λ(j:Nat)=>.str [yb ((c / 468+j * 977) * 48271 % 7919)]) S:=by
  have:=WX (n:=1) (it:=qt (eC (.int 8))) (tg:=zw 5) (e:=zK yo (zB (eOp jD (eOp qe (eOp zc (eOp jO (zA 0) (eC (.int 468))) (eOp qe (zA 5) (eC (.int 977)))) (eC (.int 48271))) (eC (.int 7919))) zC)) (σ:=[some (.int c),some (.int k),none,none,none]) (s:=S) (lo:=0) (hi:=8) (λ(j:Nat)=>.str [yb ((c / 468+j * 977) * 48271 % 7919)]) (by simp) (by decide) λj f=>by
   simp[yo,s1,g]
  exact this
 have f:=Bq (λ(j:Nat)=>yb ((c / 468+j * 977) * 48271 % 7919)) (qE 8) S (by decide);simp[X2,h,f,yy]
theorem fh:jI 2 EF Xf:=jI.pure λds S o c r=>by
 match ds,o with
 | [a,b],_ =>
  cases a with
  | int c =>
   cases b with
   | int k =>
    obtain⟨e,l,s⟩:=Ff c;refine .inr ⟨.str (plT c k),[.lst [.int 1,.int 2,.int 3,.int 4,.int 6,.int 8]],rfl,?_,rfl⟩;show ((X2 [some (.int c),some (.int k),none,none,none] S).then (zH xv (zH XC (zH vW (zH Xu vl))))).out=_;rw[mW];have f:(6:Nat) <= SZ:=by decide
    have g:(8:Nat) <= SZ:=by decide
    have i:=DZ c;have h:=λlo hi=>cR (yy c) lo hi;have t:(qf c).natAbs < 1073741824:=by lia
    unfold plT;by_cases m:c / 156 % 3=0
    ·simp[xv,XC,f,g,e,m,i]
    ·by_cases n:c / 156 % 3=1
     ·have p:=h none (some (c / 468 % qf c));have u:=h (some (c / 468 % qf c+1)) (some (qf c));have j:(cut (yy c) none (some (c / 468 % qf c))).length+1 <= SZ:=by unfold SZ;lia
      have q:(cut (yy c) none (some (c / 468 % qf c))).length+1+(cut (yy c) (some (c / 468 % qf c+1)) (some (qf c))).length <= SZ:=by unfold SZ;lia
      simp[xv,XC,vW,Xu,f,g,e,n,i,l,yo,j];exact q
     ·have p:=h (some k) (some (k+(qf c+k) % 8));have j:1+(cut (yy c) (some k) (some (k+(qf c+k) % 8))).length <= SZ:=by unfold SZ;lia
      simp[xv,XC,vW,Xu,vl,f,g,e,m,n,i,l,yo,j]
   | _=>exact .inl rfl
  | _=>exact .inl rfl
noncomputable def X9:SM :=
  (zQ 1 (jT (zB (eC (.str [111,102])) (zB (eC (.str [105,102])) (zB (eC (.str [105,115])) (zB (eC (.str [116,104,101,110])) (zB (eC (.str [101,108,115,101])) (zB (eC (.str [101,97,99,104])) (zB (eC (.str [100,111])) (zB (eC (.str [105,116])) (zB (eC (.str [98,97,99,107])) (zB (eC (.str [102,105,114,115,116])) (zB (eC (.str [114,101,115,116])) (zB (eC (.str [99,111,117,110,116])) (zB (eC (.str [115,111,114,116,101,100])) zC)))))))))))))))
noncomputable def Kt:SM :=
  (zQ 1 (eOp zc (zA 1) (jT (zB (eC (.str [102,97,105,108])) (zB (eC (.str [108,105,110,101])) (zB (eC (.str [109,111,114,101])) zC))))))
noncomputable def vd:SM :=
  (zQ 2 (jT zC))
noncomputable def kI:SM :=
  (qs (qt (eC (.int 8))) (zw 3)
  (zH (zQ 4 (zK Xf (zB (zA 0) (zB (zA 3) zC))))
  (zH (qs (qt (eC (.int 26))) (zw 5)
  (sIf (tOr (zN cIn (zA 4) (zA 1)) (zN cIn (zA 4) (zA 2)))
  (zQ 4 (eOp zc (zK yo (zB (eOp zc (zA 0) (zA 5)) zC)) (eSl (zA 4) (jr (eC (.int 1))) qb)))
  zq))
  (z6 (eM .list q0 (zA 2) (zB (zA 4) zC))))))
noncomputable def Yn:SM :=
  (zX (zA 2))
noncomputable def WC:SM:=(zH X9 (zH Kt (zH vd (zH kI Yn))))
noncomputable def EH:F:=fn 6 WC
noncomputable def YJ (c:Int) (N:List T) (w:T) (j:Nat):T:=if jP.contains w=true\/N.contains w=true then yb (c+j)::w.drop 1 else w
noncomputable def ZY (c:Int) (k:Nat) (N:List T) (j:Nat):T:=(qE j).foldl (YJ c N) (plT c k)
noncomputable def yL (c:Int):Nat->List T
 | 0=>[]
 | k+1=>yL c k++[ZY c k (yL c k) 26]
theorem bL (c:Int) (k:Nat) (N:List T) (j:Nat):ZY c k N (j+1)=YJ c N (ZY c k N j) j:=by
 unfold ZY;rw[Lh,hQ];rfl
theorem uv (c:Int) (k:Nat) (N:List T):∀ j,QP (ZY c k N j)/\(ZY c k N j).length <= 17
 | 0=>⟨D3 c k,F7 c k⟩
 | j+1=>by
  obtain⟨e,f⟩:=uv c k N j;rw[bL];unfold YJ;split
  ·refine⟨YX (x:=[yb (c+j)]) (Ua _) λch g=>e ch (Vz g),?_⟩;simp only[zx,QW]
   lia
  ·exact⟨e,f⟩
theorem bB (c:Int):∀ k,∀ t∈yL c k,QP t/\t.length <= 17
 | 0,t,h=>by cases h
 | k+1,t,h=>by
  unfold yL at h;rcases List.mem_append.mp h with h | h
  ·exact bB c k t h
  ·rw[List.mem_singleton.mp h];exact uv c k _ 26
theorem U3 (c:Int):∀ k,(yL c k).length=k
 | 0=>rfl
 | k+1=>by rw[yL,jk,U3 c k];rfl
noncomputable def Kn:F
 | [.int c],s=>alloc (.lst ((yL c 8).map .str)) s
 | _,_=>.no
noncomputable abbrev ag:SM:=sIf (tOr (zN cIn (zA 4) (zA 1)) (zN cIn (zA 4) (zA 2)))
  (zQ 4 (eOp zc (zK yo (zB (eOp zc (zA 0) (zA 5)) zC)) (eSl (zA 4) (jr (eC (.int 1))) qb)))
  zq
noncomputable abbrev nb1:SM:=zQ 4 (zK Xf (zB (zA 0) (zB (zA 3) zC)))
noncomputable abbrev nb2:SM:=qs (qt (eC (.int 26))) (zw 5) ag
noncomputable abbrev nb3:SM:=z6 (eM .list q0 (zA 2) (zB (zA 4) zC))
noncomputable abbrev c4:SM:=zH nb1 (zH nb2 nb3)
theorem fD:kI=qs (qt (eC (.int 8))) (zw 3) c4:=rfl
theorem ve {s:M.S}{p:Nat}{ts:List T} (e:s[p]? = some (.lst (ts.map .str))) (x:T):inD (.str x) (.ref p) s=.ok (ts.contains x) s:=by
 simp only[inD,e];rw[if_pos (by rw[aF];rfl),Yl]
theorem F6 {c:Int}{k:Nat}{K N:List T}{s:M.S}{p q:Nat} (B:s[p]? = some (.lst (jP.map .str))) (C:s[q]? = some (.lst (N.map .str))) (i:Option D) :
  ∃ h,∀ r,zH nb2 r [some (.int c),some (.ref p),some (.ref q),some (.int (k:Nat)),some (.str (plT c k)),i] s=r [some (.int c),some (.ref p),some (.ref q),some (.int (k:Nat)),some (.str (ZY c k N 26)),h] s:=by
 obtain⟨E,l,e,G,h,H⟩:=Kq (g:=[]) (f:=qU (zw 5) ag) (λj σ l=>l=s/\∃ i:Option D,σ=[some (.int c),some (.ref p),some (.ref q),some (.int (k:Nat)),some (.str (ZY c k N j)),i]) (qI 0 26) 0 [some (.int c),some (.ref p),some (.ref q),some (.int (k:Nat)),some (.str (plT c k)),i] s ⟨rfl,i,rfl⟩ λj d hd σ l ⟨es,i,n⟩=>by
  subst es n;have o:d=.int (j:Int):=by
   unfold qI at hd;rw[yB] at hd;cases t:(qE ((26:Int) - 0).toNat)[j]? with
   | none=>rw[t] at hd;cases hd
   | some m =>
    rw[t] at hd;have:=(List.getElem?_eq_some_iff.mp t).2;rw[HF] at this;subst this;simp at hd;exact hd.symm
  subst o;rw[qQ,bL];have L:=(uv c k N j).2;have u:=ve B (ZY c k N j);have x:=ve C (ZY c k N j);generalize ZY c k N j=w at *;refine⟨_,l,?_,rfl,rfl,some (.int (j:Int)),rfl⟩;have y:w.length <= SZ:=by unfold SZ;lia
  have z:1+(w.drop 1).length <= SZ:=by rw[QW];unfold SZ;lia
  have c1:cut w (some 1) none=w.drop 1:=by rw[xm _ (by decide)];rfl
  unfold YJ;by_cases v:jP.contains w=true
  ·simp[-inD,-bT,u,v,yo,y,c1];simpa using z
  ·by_cases A:N.contains w=true
   ·simp[-inD,-bT,u,x,v,A,yo,y,c1];simpa using z
   ·simp[-inD,-bT,u,x,v,A]
 subst G H;refine⟨h,λr=>?_⟩;have I:∀ s,zh [] s=true:=λ_=>rfl;have J:(26:Int).natAbs < 4611686018427387904:=by decide
 show ((qs _ _ _ _ _).then r)=_;simp only[qs,qt,eC,R.bind_ok,J,if_true,R.stm_ok,I,e,RS.then_nx];rfl
theorem g7:jI 1 EH Kn:=jI.new λds S u c Q=>by
 match ds,u with
 | [a],_ =>
  cases a with
  | int c =>
   have i:(13:Nat) <= SZ:=by decide
   have v:(3:Nat) <= SZ:=by decide
   have j:(16:Nat) <= SZ:=by decide
   have w:(0:Nat) <= SZ:=by decide
   have x:∀ r,(X9 [some (.int c),none,none,none,none,none] S).then (zH Kt (zH vd r))=r [some (.int c),some (.ref (S.length+2)),some (.ref (S.length+3)),none,none,none] (S++[.lst ((jP.take 13).map .str),.lst ((jP.drop 13).map .str),.lst (jP.map .str),.lst []]):=λr=>by
    simp[X9,Kt,vd,i,v,j,w,jP]
   generalize U:O.lst ((jP.take 13).map .str)=A at *;generalize Y:O.lst ((jP.drop 13).map .str)=B at *;obtain⟨y,l,e,z,v3,v4,h,C⟩:=Kq (g:=[]) (f:=qU (zw 3) c4) (λk σ l=>l=S++[A,B,.lst (jP.map .str),.lst ((yL c k).map .str)]/\∃ v3 v4 h:Option D,σ=[some (.int c),some (.ref (S.length+2)),some (.ref (S.length+3)),v3,v4,h]) (qI 0 8) 0 [some (.int c),some (.ref (S.length+2)),some (.ref (S.length+3)),none,none,none] (S++[A,B,.lst (jP.map .str),.lst []]) ⟨rfl,_,_,_,rfl⟩ λk d hd σ l ⟨es,v3,v4,h,m⟩=>by
    subst es m;have n:k < 8:=by have:=(List.getElem?_eq_some_iff.mp hd).1;simpa [qI] using this
    have o:d=.int (k:Int):=by
     have:∀ k:Nat,k < 8->(qI 0 8)[k]? = some (.int (k:Int)):=by decide
     rw[this k n] at hd;cases hd;rfl
    subst o;rw[qQ];obtain⟨t,E⟩:=F6 (c:=c) (k:=k) (K:=jP) (N:=yL c k) (s:=S++[A,B,.lst (jP.map .str),.lst ((yL c k).map .str)]) (p:=S.length+2) (q:=S.length+3) (by simp) (by simp) h;refine⟨[some (.int c),some (.ref (S.length+2)),some (.ref (S.length+3)),some (.int (k:Int)),some (.str (ZY c k (yL c k) 26)),t],S++[A,B,.lst (jP.map .str),.lst ((yL c (k+1)).map .str)],?_,rfl,rfl,_,_,_,rfl⟩;show zH nb1 (zH nb2 nb3) [some (.int c),some (.ref (S.length+2)),some (.ref (S.length+3)),some (.int (k:Int)),v4,h] _=_;have G:∀ (r:SM) (s:M.S),zH nb1 r [some (.int c),some (.ref (S.length+2)),some (.ref (S.length+3)),some (.int (k:Int)),v4,h] s=r [some (.int c),some (.ref (S.length+2)),some (.ref (S.length+3)),some (.int (k:Int)),some (.str (plT c k)),h] s:=λr s=>by
     simp[Xf]
    rw[G,E];have H:(yL c k).length < SZ:=by rw[U3];unfold SZ;lia
    simp[H,yL]
   refine .inr ⟨.lst ((yL c 8).map .str),S.length+3,[A,B,.lst (jP.map .str),.lst ((yL c 8).map .str)],rfl,?_,by simp,by lia,Ym _ _⟩;show ((X9 [some (.int c),none,none,none,none,none] S).then (zH Kt (zH vd (zH kI Yn)))).out=_;rw[x];subst z C;have I:∀ r,(kI [some (.int c),some (.ref (S.length+2)),some (.ref (S.length+3)),none,none,none] (S++[A,B,.lst (jP.map .str),.lst []])).then r=r [some (.int c),some (.ref (S.length+2)),some (.ref (S.length+3)),v3,v4,h] (S++[A,B,.lst (jP.map .str),.lst ((yL c 8).map .str)]):=λr=>by
    rw[fD];have J:∀ s,zh [] s=true:=λ_=>rfl;have L:(8:Int).natAbs < 4611686018427387904:=by decide
    simp only[qs,qt,eC,R.bind_ok,L,if_true,R.stm_ok,J,e,RS.then_nx];rfl
   show ((kI _ _).then _).out=_;rw[I];simp[Yn]
  | _=>exact .inl rfl
noncomputable def YM:SM :=
  (zH (zQ 1 (eC (.str [32,33,35,36,38,39,40,41,42,43,44,45,46,47,48,49,50,51,52,53,54,55,56,57,58,59,60,61,62,63,64,65,66,67,68,69,70,71,72,73,74,75,76,77,78,79,80,81,82,83,84,85,86,87,88,89,90,91,92,93,94,95,96])))
  (zH (zQ 1 (eOp zc (zA 1) (eC (.str [97,98,99,100,101,102,103,104,105,106,107,108,109,110,111,112,113,114,115,116,117,118,119,120,121,122,123,124,125,126]))))
  (zX (eOp zI (zA 1) (eOp jD (zA 0) (eC (.int 93)))))))
noncomputable def Wv:F:=fn 2 YM
noncomputable def xP:F:=chS Wv
theorem nq:jI 1 Wv xP:=yk _
noncomputable def VW:T:=[32,33,35,36,38,39,40,41,42,43,44,45,46,47,48,49,50,51,52,53,54,55,56,57,58,59,60,61,62,63,64,65,66,67,68,69,70,71,72,73,74,75,76,77,78,79,80,81,82,83,84,85,86,87,88,89,90,91,92,93,94,95,96]++[97,98,99,100,101,102,103,104,105,106,107,108,109,110,111,112,113,114,115,116,117,118,119,120,121,122,123,124,125,126]
noncomputable def sgN (c:Int):Nat:=VW.getD (c % 93).toNat 0
theorem iU (c:Int) (S:M.S):xP [.int c] S=.ok (.str [sgN c]) S:=by
 have a:=Zh c (show (93:Int)≠0 by decide);have b:=Zl c (show (0:Int) < 93 by decide);have e:atI VW (c % 93)=some (sgN c):=JK (xs:=VW) a (show c % 93 < ((93:Nat):Int) from b) 0;have f:(93:Nat) <= SZ:=by decide
 refine yq (g:=[]) ?_ rfl;rw[yZ];unfold VW at e;have h:(63:Nat)+30 <= SZ:=by decide
 simp only[Wv,YM,fn,jH,Jh,zx,jw,z9,XT,Xd,zH,zQ,eC,R.stm_ok,qx,qw,RS.then_nx,eOp,zA,jW,jJ,R.bind_ok,zc,zX,jD];simp only[XT,Xd] at e;simp[e,f,RS.out]
noncomputable def Yg:SM :=
  (zX (Jc (q7 []) 1 (qt (zA 1)) (zw 2) jU (zK xP (zB (eOp zc (eOp jD (eOp qe (eOp zc (zA 0) (eOp qe (zA 2) (eC (.int 977)))) (eC (.int 48271))) (eC (.int 7919))) (eOp qe (eOp jD (eOp jO (zA 0) (eC (.int 93))) (eC (.int 2))) (zA 2))) zC))))
noncomputable def uN:F:=fn 2 Yg
noncomputable def x3:F:=chS uN
theorem HU:jI 2 uN x3:=yk _
noncomputable def x2 (c:Int) (n:Nat):T:=(qE n).map λ(k:Nat)=>sgN ((c+k * 977) * 48271 % 7919+c / 93 % 2 * k)
theorem Cw (c:Int) (n:Nat) (m:n <= 60) (S:M.S):x3 [.int c,.int (n:Int)] S=.ok (.str (x2 c n)) S/\(x2 c n).length <= 60:=by
 have s1:qK 977=true:=by decide
 have f:qK 48271=true:=by decide
 have a:=Zh (c / 93) (show (2:Int)≠0 by decide);have b:=Zl (c / 93) (show (0:Int) < 2 by decide);have h:qK (c / 93 % 2)=true:=by unfold qK;rw[decide_eq_true_iff];lia
 have i:n < 4611686018427387904:=by lia
 have j:jt 1 (qt (zA 1)) (zw 2) jU (zK xP (zB (eOp zc (eOp jD (eOp qe (eOp zc (zA 0) (eOp qe (zA 2) (eC (.int 977)))) (eC (.int 48271))) (eC (.int 7919))) (eOp qe (eOp jD (eOp jO (zA 0) (eC (.int 93))) (eC (.int 2))) (zA 2))) zC)) [some (.int c),some (.int (n:Int))] S=.ok ((qE n).map λ(k:Nat)=>.str [sgN ((c+k * 977) * 48271 % 7919+c / 93 % 2 * k)]) S:=by
  have:=WX (n:=1) (it:=qt (zA 1)) (tg:=zw 2) (e:=zK xP (zB (eOp zc (eOp jD (eOp qe (eOp zc (zA 0) (eOp qe (zA 2) (eC (.int 977)))) (eC (.int 48271))) (eC (.int 7919))) (eOp qe (eOp jD (eOp jO (zA 0) (eC (.int 93))) (eC (.int 2))) (zA 2))) zC)) (σ:=[some (.int c),some (.int (n:Int))]) (s:=S) (lo:=0) (hi:=(n:Int)) (λ(k:Nat)=>.str [sgN ((c+k * 977) * 48271 % 7919+c / 93 % 2 * k)]) (by simp[i]) (by unfold SZ;lia) λk o=>by
   simp[iU,s1,f,h]
  simpa using this
 have l:=Bq (λ(k:Nat)=>sgN ((c+k * 977) * 48271 % 7919+c / 93 % 2 * k)) (qE n) S (by rw[aA];unfold SZ;lia);refine⟨?_,by unfold x2;simp;lia⟩;refine yq (g:=[]) ?_ rfl;rw[yZ];unfold x2;simp[uN,Yg,j,l]
noncomputable def Kg:SM :=
  (zQ 3 (eOp jD (zA 0) (eC (.int 6))))
noncomputable def ui:SM :=
  (sIf (qr (Zi (zA 2)) (zN cEq (zA 3) (eC (.int 0))))
  (zX (ze (zB (eC (.str [115,116,101,109])) zC)))
  zq)
noncomputable def wB:SM :=
  (sIf (qr (Zi (zA 2)) (zN cEq (zA 3) (eC (.int 1))))
  (zX (ze (zB (eC (.str [107,105,110])) (zB (eOp zI (zA 1) (eOp jD (eOp jO (zA 0) (eC (.int 6))) (eC (.int 8)))) zC))))
  zq)
noncomputable def u7:SM :=
  (sIf (zN cLt (zA 3) (eC (.int 3)))
  (zX (ze (zB (eC (.str [116,101,120,116])) (zB (zK x3 (zB (eOp jO (zA 0) (eC (.int 18))) (zB (eOp qe (eOp jD (eOp jO (zA 0) (eC (.int 6))) (eC (.int 3))) (eC (.int 2))) zC))) zC))))
  zq)
noncomputable def Uh:SM :=
  (sIf (zN cEq (zA 3) (eC (.int 3)))
  (zX (ze (zB (eC (.str [108,105,110,101])) zC)))
  zq)
noncomputable def uH:SM :=
  (sIf (zN cEq (zA 3) (eC (.int 4)))
  (zX (ze (zB (eC (.str [116,104,105,110,103])) (zB (eOp zI (zA 1) (eOp jD (eOp jO (zA 0) (eC (.int 6))) (eC (.int 8)))) zC))))
  zq)
noncomputable def uf:SM :=
  (zX (ze (zB (eC (.str [116,104,105,110,103])) (zB (eOp zc (eOp zc (eOp zI (zA 1) (eOp jD (eOp jO (zA 0) (eC (.int 6))) (eC (.int 8)))) (eC (.str [46]))) (eOp zI (zA 1) (eOp jD (eOp jO (zA 0) (eC (.int 48))) (eC (.int 8))))) zC))))
noncomputable def uy:SM:=(zH Kg (zH ui (zH wB (zH u7 (zH Uh (zH uH uf))))))
noncomputable def Vi:F:=fn 4 uy
noncomputable def JX:F:=chS Vi
theorem Ly:jI 3 Vi JX:=yk _
noncomputable def JT (fam:Bool) (N:List T):Tr->Prop
 | .stem=>fam=true
 | .kin n=>fam=true/\n∈N
 | .txt t=>t.length <= 60
 | .line=>True
 | .thing n=>n∈N\/∃ a∈N,∃ b∈N,n=a++[46]++b
 | _=>False
theorem QB {ts:List T}{k:Int} (e:0 <= k) (h:k < ts.length):∃ t∈ts,atI (ts.map D.str) k=some (.str t):=by
 have c:k.toNat < ts.length:=by lia
 refine⟨ts[k.toNat],dq c,?_⟩;rw[JK (d:=.str []) e (by simpa using h),qP,yB,yQ c];rfl
theorem Kk {c:TM}{e:EM}{b:Bool}{d:D}{σ:St}{s:M.S} (f:c σ s=.ok b s) (g:e σ s=.ok d s):(zH (sIf c (zX e) zq) r σ s).out=if b=true then .ok d s else (r σ s).out:=by
 rw[zH,sIf,f,R.stm_ok];cases b
 ·rfl
 ·simp only[if_true,zX,g,R.stm_ok];rfl
theorem HC {N:List T} (U:N.length=8) (h:∀ t∈N,t.length <= 17) {S:M.S}{p:Nat} (r:S[p]? = some (.lst (N.map .str))) (c:Int) (fam:Bool):∃ l,JT fam N l/\JX [.int c,.ref p,.bl fam] S=.ok l.d S:=by
 have w:(1:Nat) <= SZ:=by decide
 have o:(2:Nat) <= SZ:=by decide
 have A:=Zh (c / 6) (show (8:Int)≠0 by decide);have Y:=Zl (c / 6) (show (0:Int) < 8 by decide);have B:=Zh (c / 48) (show (8:Int)≠0 by decide);have b1:=Zl (c / 48) (show (0:Int) < 8 by decide);obtain⟨f,q,v⟩:=QB (ts:=N) A (by lia);obtain⟨g,x,C⟩:=QB (ts:=N) B (by lia);have l:=h f q;have lg:=h g x;have tx:=λs=>Cw (c / 18) (c / 6 % 3 * 2).toNat (by lia) s;rw[show (((c / 6 % 3 * 2).toNat:Nat):Int)=c / 6 % 3 * 2 by lia] at tx;generalize x2 (c / 18) (c / 6 % 3 * 2).toNat=u at *;have E:=(tx S).2;have tx':=λs=>(tx s).1;have G:qK 2=true:=by decide
 have k0:=Zh c (show (6:Int)≠0 by decide);have k1:=Zl c (show (0:Int) < 6 by decide);have H:f.length+1 <= SZ:=by unfold SZ;lia
 have I:f.length+1+g.length <= SZ:=by unfold SZ;lia
 have e:Vi [.int c,.ref p,.bl fam] S=if (fam && decide (c % 6=0))=true then .ok Tr.stem.d S else if (fam && decide (c % 6=1))=true then .ok (Tr.kin f).d S else if decide (c % 6 < 3)=true then .ok (Tr.txt u).d S else if decide (c % 6=3)=true then .ok Tr.line.d S else if decide (c % 6=4)=true then .ok (Tr.thing f).d S else .ok (Tr.thing (f++[46]++g)).d S:=by
  have t2:∀ k:Int,(qr (Zi (zA 2)) (zN cEq (zA 3) (eC (.int k)))) [some (.int c),some (.ref p),some (.bl fam),some (.int (c % 6))] S=.ok (fam && decide (c % 6=k)) S:=λk=>by cases fam<;>simp
  have y:∀ k:Int,(zN cEq (zA 3) (eC (.int k))) [some (.int c),some (.ref p),some (.bl fam),some (.int (c % 6))] S=.ok (decide (c % 6=k)) S:=λk=>by simp
  have J:(zN cLt (zA 3) (eC (.int 3))) [some (.int c),some (.ref p),some (.bl fam),some (.int (c % 6))] S=.ok (decide (c % 6 < 3)) S:=by simp
  have L:Kg [some (.int c),some (.ref p),some (.bl fam),none] S=.nx [some (.int c),some (.ref p),some (.bl fam),some (.int (c % 6))] S:=by simp[Kg]
  show (zH Kg _ [some (.int c),some (.ref p),some (.bl fam),none] S).out=_;rw[zH,L,RS.then_nx];unfold ui wB u7 Uh uH uf;rw[Kk (t2 0) (d:=Tr.stem.d) (by simp[w,Tr.d]),Kk (t2 1) (d:=(Tr.kin f).d) (by simp[r,v,o,Tr.d]),Kk J (d:=(Tr.txt u).d) (by simp[tx',o,G,Tr.d]),Kk (y 3) (d:=Tr.line.d) (by simp[w,Tr.d]),Kk (y 4) (d:=(Tr.thing f).d) (by simp[r,v,o,Tr.d])];have Q:(zX (ze (zB (eC (.str [116,104,105,110,103])) (zB (eOp zc (eOp zc (eOp zI (zA 1) (eOp jD (eOp jO (zA 0) (eC (.int 6))) (eC (.int 8)))) (eC (.str [46]))) (eOp zI (zA 1) (eOp jD (eOp jO (zA 0) (eC (.int 48))) (eC (.int 8))))) zC)))) [some (.int c),some (.ref p),some (.bl fam),some (.int (c % 6))] S=.rt (Tr.thing (f++[46]++g)).d S:=by simp[r,v,C,o,H,I,Tr.d]
  rw[Q];rfl
 have fin:∀ t:Tr,JT fam N t->D.cl S.length t.d=true->Vi [.int c,.ref p,.bl fam] S=.ok t.d S->∃ l,JT fam N l/\JX [.int c,.ref p,.bl fam] S=.ok l.d S:=λt i m n=>⟨t,i,yq (g:=[]) (by rw[yZ];exact n) m⟩
 by_cases j:(fam && decide (c % 6=0))=true
 ·exact fin .stem (Bool.and_eq_true_iff.mp j).1 rfl (by rw[e,if_pos j])
 by_cases i:(fam && decide (c % 6=1))=true
 ·exact fin (.kin f) ⟨(Bool.and_eq_true_iff.mp i).1,q⟩ rfl (by rw[e,if_neg j,if_pos i])
 by_cases m:decide (c % 6 < 3)=true
 ·exact fin (.txt u) E rfl (by rw[e,if_neg j,if_neg i,if_pos m])
 by_cases n:decide (c % 6=3)=true
 ·exact fin .line trivial rfl (by rw[e,if_neg j,if_neg i,if_neg m,if_pos n])
 by_cases z:decide (c % 6=4)=true
 ·exact fin (.thing f) (.inl q) rfl (by rw[e,if_neg j,if_neg i,if_neg m,if_neg n,if_pos z])
 exact fin (.thing (f++[46]++g)) (.inr ⟨f,q,g,x,rfl⟩) rfl (by rw[e,if_neg j,if_neg i,if_neg m,if_neg n,if_neg z])
noncomputable def X5 (c:F):SM :=
  (zH (zQ 1 (jT zC))
  (zH (sIf (zN Ql (eOp zI (zA 0) (eC (.int 0))) (jT (zB (eC (.str [116,101,120,116])) (zB (eC (.str [116,104,105,110,103])) (zB (eC (.str [107,105,110])) zC)))))
  (zQ 1 (zK vE (zB (eSl (zA 0) (jr (eC (.int 1))) qb) zC)))
  zq)
  (zX (eOp zc (eC (.int 1)) (zK Yk (zB (eOp zc (jT (zB (eC (.int 0)) zC)) (yC 1 (iE (zA 1)) (zw 2) jU (zK c (zB (zA 2) zC)))) zC))))))
noncomputable def DC (c:F):F:=fn 2 (X5 c)
noncomputable def Tr.kids:Tr->List Tr
 | .join ts=>ts
 | .ife a b x y=>[a,b,x,y]
 | .each a b=>[a,b]
 | .one _ a=>[a]
 | _=>[]
noncomputable def Tr.hgt:Tr->Nat
 | .join ts=>1+hs ts
 | .ife a b x y=>1+max a.hgt (max b.hgt (max x.hgt (max y.hgt 0)))
 | .each a b=>1+max a.hgt (max b.hgt 0)
 | .one _ a=>1+max a.hgt 0
 | _=>1
where hs:List Tr->Nat
 | []=>0
 | t::ts=>max t.hgt (hs ts)
theorem Tr.hgt_kids:∀ t:Tr,t.hgt=1+Tr.hgt.hs t.kids
 | .join _=>by rw[Tr.hgt,Tr.kids]
 | .ife _ _ _ _=>by rw[Tr.hgt,Tr.kids,Tr.hgt.hs,Tr.hgt.hs,Tr.hgt.hs,Tr.hgt.hs,Tr.hgt.hs]
 | .each _ _=>by rw[Tr.hgt,Tr.kids,Tr.hgt.hs,Tr.hgt.hs,Tr.hgt.hs]
 | .one _ _=>by rw[Tr.hgt,Tr.kids,Tr.hgt.hs,Tr.hgt.hs]
 | .txt _=>rfl
 | .line=>rfl
 | .it=>rfl
 | .stem=>rfl
 | .thing _=>rfl
 | .kin _=>rfl
theorem Tr.hs_le {n:Nat}:∀ {ts:List Tr},Tr.hgt.hs ts <= n ↔ ∀ t∈ts,t.hgt <= n
 | []=>by simp[Tr.hgt.hs]
 | t::ts=>by
  rw[Tr.hgt.hs,Nat.max_le,Tr.hs_le (ts:=ts)];simp
theorem AY {st:D}{n:Nat}{b:Bool} (h:jV st (n+1) b t):∀ k∈t.kids,∃ e,jV st n e k:=by
 intro k c;cases t with
 | join ts=>exact⟨b,h.2.2 k c⟩
 | ife p q x y =>
  simp[Tr.kids] at c;rcases c with rfl | rfl | rfl | rfl
  ·exact⟨b,h.1⟩
  ·exact⟨b,h.2.1⟩
  ·exact⟨b,h.2.2.1⟩
  ·exact⟨b,h.2.2.2⟩
 | each p q =>
  simp[Tr.kids] at c;rcases c with rfl | rfl
  ·exact⟨b,h.1⟩
  ·exact⟨true,h.2⟩
 | one w p =>
  simp[Tr.kids] at c;subst c;exact⟨b,h.2⟩
 | _=>cases c
theorem vq {st:D}:∀ {n:Nat}{b:Bool}{t:Tr},jV st n b t->t.hgt <= n
 | 0,_,_,h=>h.elim
 | n+1,b,t,h=>by
  rw[Tr.hgt_kids];have:Tr.hgt.hs t.kids <= n:=Tr.hs_le.mpr λk c=>by
   obtain⟨e,h'⟩:=AY h k c;exact vq h'
  lia
theorem y4 {st:D}:∀ {n m:Nat}{b c:Bool}{t:Tr},jV st n b t->t.hgt <= m->(b=true->c=true)->jV st m c t
 | 0,_,_,_,_,h,_,_=>h.elim
 | n+1,m,b,c,t,h,hm,e=>by
  rw[Tr.hgt_kids] at hm;obtain⟨m,rfl⟩:∃ g,m=g+1:=⟨m - 1,by lia⟩
  have f:∀ k∈t.kids,k.hgt <= m:=Tr.hs_le.mp (by lia);cases t with
  | txt x=>exact h
  | line=>trivial
  | it=>exact e h
  | stem=>exact h
  | thing x=>exact h
  | kin x=>exact h
  | join ts=>exact⟨h.1,h.2.1,λk z=>y4 (h.2.2 k z) (f k z) e⟩
  | ife p q x y=>exact⟨y4 h.1 (f _ (by simp[Tr.kids])) e,y4 h.2.1 (f _ (by simp[Tr.kids])) e,y4 h.2.2.1 (f _ (by simp[Tr.kids])) e,y4 h.2.2.2 (f _ (by simp[Tr.kids])) e⟩
  | each p q=>exact⟨y4 h.1 (f _ (by simp[Tr.kids])) e,y4 h.2 (f _ (by simp[Tr.kids])) λz=>z⟩
  | one w p=>exact⟨h.1,y4 h.2 (f _ (by simp[Tr.kids])) e⟩
noncomputable abbrev y0:List T:=[[116,101,120,116],[116,104,105,110,103],[107,105,110]]
theorem LO {st:D}{n:Nat}{b:Bool} (h:jV st (n+1) b t):∃ k ds,t.d=.tup (.str k::ds)/\(y0.contains k=true->t.kids=[])/\(y0.contains k=false->ds=t.kids.map Tr.d)/\ds.length <= 50:=by
 cases t with
 | txt x=>exact⟨_,_,rfl,λ_=>rfl,λz=>absurd z (by decide),by simp⟩
 | line=>exact⟨_,_,rfl,λ_=>rfl,λ_=>rfl,by simp⟩
 | it=>exact⟨_,_,rfl,λ_=>rfl,λ_=>rfl,by simp⟩
 | stem=>exact⟨_,_,rfl,λ_=>rfl,λ_=>rfl,by simp⟩
 | thing x=>exact⟨_,_,rfl,λ_=>rfl,λz=>absurd z (by decide),by simp⟩
 | kin x=>exact⟨_,_,rfl,λ_=>rfl,λz=>absurd z (by decide),by simp⟩
 | join ts=>exact⟨_,_,rfl,λz=>absurd z (by decide),λ_=>Tr.ds_map ts,by rw[Tr.ds_map,jS];exact h.2.1⟩
 | ife p q x y=>exact⟨_,_,rfl,λz=>absurd z (by decide),λ_=>rfl,by simp⟩
 | each p q=>exact⟨_,_,rfl,λz=>absurd z (by decide),λ_=>rfl,by simp⟩
 | one w p =>
  refine⟨w,_,rfl,λz=>?_,λ_=>rfl,by simp⟩;obtain⟨hw,_⟩:=h;rcases hw with rfl | rfl | rfl | rfl | rfl | rfl | rfl<;>exact absurd z (by decide)
theorem AG {g:Gd}{c:Type}{F:D->M.S->R (Option D)}{s:M.S} (f h:c->D) (e:zh g s=true):∀ as:List c,(∀ a∈as,F (f a) s=.ok (some (h a)) s)->qo g F (as.map f) s=.ok (as.map h) s
 | [],_=>rfl
 | a::as,i=>by
  have j:=AG f h e as λb l=>i b (jh _ l);rw[jH,qo,i a qa,R.bind_ok,if_pos e,j];rfl
theorem UE {n:Nat}{it:IM}{tg:GM}{e:EM}{σ:St}{s:M.S}{c:Type}{as:List c} (f h:c->D) {g:Gd} (hi:it σ s=.ok (as.map f,g) s) (j:as.length <= SZ) (i:zh g s=true) (l:∀ a∈as,qV n tg jU e σ (f a) s=.ok (some (h a)) s):jt n it tg jU e σ s=.ok (as.map h) s:=by
 unfold jt;rw[hi,R.bind_ok,if_pos ⟨by rw[jS];exact j,i⟩];exact AG f h i as l
noncomputable def Zb:Nat->F
 | 0=>λ_ _=>.no
 | n+1=>chS (DC (Zb n))
theorem LS (ds:List D) (s:M.S):Zb 0 ds s=.no:=rfl
noncomputable abbrev Jf:F:=Zb 20
theorem eU (n:Nat):jI 1 (DC (Zb n)) (Zb (n+1)):=yk _
theorem bo:∀ (ts:List Tr) (b:Nat),(ts.map λt=>((t.hgt:Nat):Int)).foldl (λb y=>if b < y then y else b) (b:Int)=((max b (Tr.hgt.hs ts):Nat):Int)
 | [],b=>by simp[Tr.hgt.hs]
 | t::ts,b=>by
  rw[jH,Qf,Tr.hgt.hs];have e:(if (b:Int) < (t.hgt:Int) then (t.hgt:Int) else (b:Int))=((max b t.hgt:Nat):Int):=by split<;>lia
  rw[e,bo ts (max b t.hgt)]
  lia
theorem bX:∀ ts:List Tr,Qn (ts.map λt=>.int (t.hgt:Int))=some (ts.map λt=>(t.hgt:Int))
 | []=>rfl
 | t::ts=>by rw[jH,Qn,bX ts];rfl
theorem UO {st:D}:∀ (n:Nat) {b:Bool}{t:Tr} (S:M.S),jV st n b t->Zb n [t.d] S=.ok (.int (t.hgt:Int)) S
 | 0,_,_,_,h=>h.elim
 | n+1,b,t,S,h=>by
  obtain⟨k,ds,e,w,x,y⟩:=LO h;have E:=AY h;have z:(0:Nat) <= SZ:=by decide
  have G:(1:Nat) <= SZ:=by decide
  have A:(3:Nat) <= SZ:=by decide
  have zk:t.kids.length <= 50:=by
   cases i:y0.contains k with
   | true=>rw[w i];simp
   | false=>rw[x i,jS] at y;exact y
  have H:t.kids.length <= SZ:=by unfold SZ;lia
  have j:1+t.kids.length <= SZ:=by unfold SZ;lia
  have B:atI (D.str k::ds) 0=some (.str k):=at0 _ _;have f:inD (.str k) (.ref (S.length+1)) (S++[.lst [],.lst (y0.map .str)])=.ok (y0.contains k) (S++[.lst [],.lst (y0.map .str)]):=ve (by simp) k;have hw:[D.str [116,101,120,116],.str [116,104,105,110,103],.str [107,105,110]]=y0.map .str:=rfl;have m:∃ g q,(S++g)[q]? = some (.lst (t.kids.map Tr.d))/\∀ r:SM,(zH (zQ 1 (jT zC)) (zH (sIf (zN Ql (eOp zI (zA 0) (eC (.int 0))) (jT (zB (eC (.str [116,101,120,116])) (zB (eC (.str [116,104,105,110,103])) (zB (eC (.str [107,105,110])) zC))))) (zQ 1 (zK vE (zB (eSl (zA 0) (jr (eC (.int 1))) qb) zC))) zq) r)) [some (.tup (.str k::ds)),none] S=r [some (.tup (.str k::ds)),some (.ref q)] (S++g):=by
   have c1:cut (D.str k::ds) (some 1) none=ds:=by rw[xm _ (by decide)];rfl
   have I:ds.length+1 <= SZ:=by unfold SZ;lia
   have J:¬ sIx (ds.length+1) 0 (some 1)=0:=by unfold sIx;simp;lia
   cases i:y0.contains k with
   | true =>
    refine⟨[.lst [],.lst (y0.map .str)],S.length,by rw[w i];simp,λr=>?_⟩;rw[i] at f;simp[-inD,-jH,-Jh,z,A,B,hw,f]
   | false =>
    refine⟨[.lst [],.lst (y0.map .str),.lst ds],S.length+2,by rw[<- x i];simp,λr=>?_⟩;rw[i] at f;simp[-inD,-jH,-Jh,z,A,B,hw,f,c1,I,J]
  obtain⟨g,q,C,m⟩:=m;have o:q < (S++g).length:=(List.getElem?_eq_some_iff.mp C).1;have l:(S++g++[O.lst [.int 0]])[q]? = some (.lst (t.kids.map Tr.d)):=by rw[yG o];exact C
  have p:zh [(q,O.lst (t.kids.map Tr.d))] (S++g++[O.lst [.int 0]])=true:=by simp[-yI,zh,l]
  have i:jt 1 (iE (zA 1)) (zw 2) jU (zK (Zb n) (zB (zA 2) zC)) [some (.tup (.str k::ds)),some (.ref q)] (S++g++[O.lst [.int 0]])=.ok ((t.kids.map λc=>.int (c.hgt:Int))) (S++g++[O.lst [.int 0]]):=by
   have:=UE (n:=1) (it:=iE (zA 1)) (tg:=zw 2) (e:=zK (Zb n) (zB (zA 2) zC)) (σ:=[some (.tup (.str k::ds)),some (.ref q)]) (s:=S++g++[O.lst [.int 0]]) (as:=t.kids) Tr.d (λc=>.int (c.hgt:Int)) (g:=[(q,O.lst (t.kids.map Tr.d))]) (by simp only[iE,zA,jJ,jW,R.bind_ok,itD,l]) H p λc i=>by
    obtain⟨b',h'⟩:=E c i;have:=UO n (S++g++[O.lst [.int 0]]) h';simp[-yI,this]
   exact this
  rw[e];have L:(S++g++[O.lst [.int 0]]++[O.lst (t.kids.map λc=>.int (c.hgt:Int))])[(S++g).length]? = some (.lst [.int 0]):=by
   rw[yG (by simp)];simp
  have N:(S++g++[O.lst [.int 0]]++[O.lst (t.kids.map λc=>.int (c.hgt:Int))])[(S++g++[O.lst [.int 0]]).length]? = some (.lst (t.kids.map λc=>.int (c.hgt:Int))):=by simp
  have Q:(S++g++[O.lst [.int 0]]++[O.lst (t.kids.map λc=>.int (c.hgt:Int))]++[O.lst (.int 0::t.kids.map λc=>.int (c.hgt:Int))])[(S++g++[O.lst [.int 0]]++[O.lst (t.kids.map λc=>.int (c.hgt:Int))]).length]? = some (.lst (.int 0::t.kids.map λc=>.int (c.hgt:Int))):=by simp
  have hm:∀ s,Yx (.int 0::t.kids.map λc=>.int (c.hgt:Int)) s=.ok (.int (Tr.hgt.hs t.kids:Int)) s:=λs=>by
   have U:y6 (.int 0::t.kids.map λc=>.int (c.hgt:Int))=none:=rfl;have Y:Qn (.int 0::t.kids.map λc=>.int (c.hgt:Int))=some (0::t.kids.map λc=>(c.hgt:Int)):=by rw[Qn,bX];rfl
   have u:=bo t.kids 0;rw[Nat.zero_max] at u;unfold Yx;rw[U];dsimp only;unfold Uo;rw[Y];show R.ok (D.int (Ww _ 0 _)) s=_;rw[show ((0:Nat):Int)=0 from rfl] at u;rw[u]
  refine yq (g:=g++[O.lst [.int 0]]++[O.lst (t.kids.map λc=>.int (c.hgt:Int))]++[O.lst (.int 0::t.kids.map λc=>.int (c.hgt:Int))]) ?_ rfl;show (X5 (Zb n) [some (.tup (.str k::ds)),none] S).out=_;unfold X5;rw[m];have v:[D.int 0].length+(t.kids.map λc=>D.int (c.hgt:Int)).length <= SZ:=by simpa using j
  simp only[zX,eOp,eC,zK,zB,zC,jT,yC,zx,jw,G,if_true,alloc,R.bind_ok,i,zc,L,N,v,Yk,Wa,zy,XT,Xd,Q,hm,R.stm_ok,RS.out,Tr.hgt_kids t];simp[j,hm]
noncomputable def K6:SM :=
  (zQ 3 (ze (zB (eC (.str [108,105,110,101])) zC)))
noncomputable def vV:SM :=
  (zQ 4 (eC (.bl false)))
noncomputable def Xe:SM :=
  (qs (iE (zA 0)) (zw 5)
  (zH (zQ 6 (zK JX (zB (eOp jO (zA 5) (eC (.int 20))) (zB (zA 1) (zB (zA 2) zC)))))
  (zH (zQ 7 (eOp jD (zA 5) (eC (.int 20))))
  (sIf (tOr (zN cGt (zK Jf (zB (zA 3) zC)) (eC (.int 9))) (zN cLt (zA 7) (eC (.int 3))))
  (zH (zQ 3 (eOp zI (jT (zB (zA 6) (zB (zA 6) (zB (ze (zB (eC (.str [105,116])) zC)) zC)))) (eOp jD (zA 7) (eC (.int 3)))))
  (zQ 4 (yt cEq (zA 3) (ze (zB (eC (.str [105,116])) zC)))))
  (sIf (zN cEq (zA 7) (eC (.int 3)))
  (zQ 3 (ze (zB (eC (.str [106,111,105,110])) (zB (zA 3) (zB (zA 6) zC)))))
  (sIf (zN cEq (zA 7) (eC (.int 4)))
  (zQ 3 (ze (zB (eC (.str [106,111,105,110])) (zB (zA 6) (zB (zA 3) (zB (zA 6) zC))))))
  (sIf (zN cEq (zA 7) (eC (.int 5)))
  (zH (zQ 3 (ze (zB (eC (.str [106,111,105,110])) (zB (zA 3) (zB (ze (zB (eC (.str [105,116])) zC)) zC)))))
  (zQ 4 (eC (.bl true))))
  (sIf (zN cLt (zA 7) (eC (.int 8)))
  (zH (zQ 8 (jT (zB (zA 6) (zB (ze (zB (eC (.str [108,105,110,101])) zC)) (zB (zA 6) (zB (zA 6) zC))))))
  (zH (yu (zA 8) (eOp jD (eOp jO (zA 5) (eC (.int 20))) (eC (.int 4))) (zA 3))
  (zQ 3 (zK VT (zB (eOp zc (jT (zB (eC (.str [105,102])) zC)) (zA 8)) zC)))))
  (sIf (zN cLt (zA 7) (eC (.int 10)))
  (zQ 3 (ze (zB (eC (.str [101,97,99,104])) (zB (zA 3) (zB (ze (zB (eC (.str [106,111,105,110])) (zB (ze (zB (eC (.str [105,116])) zC)) (zB (zA 6) zC)))) zC)))))
  (sIf (zN cLt (zA 7) (eC (.int 13)))
  (zH (zQ 3 (ze (zB (eC (.str [101,97,99,104])) (zB (zA 6) (zB (eOp zI (jT (zB (ze (zB (eC (.str [106,111,105,110])) (zB (zA 3) (zB (ze (zB (eC (.str [105,116])) zC)) zC)))) (zB (zA 3) zC))) (eOp jO (zA 7) (eC (.int 12)))) zC)))))
  (zQ 4 (eC (.bl false))))
  (zQ 3 (ze (zB (eOp zI (jT (zB (eC (.str [111,102])) (zB (eC (.str [98,97,99,107])) (zB (eC (.str [114,101,115,116])) (zB (eC (.str [115,111,114,116,101,100])) (zB (eC (.str [102,97,105,108])) (zB (eC (.str [102,105,114,115,116])) (zB (eC (.str [99,111,117,110,116])) zC)))))))) (eOp XB (zA 7) (eC (.int 13)))) (zB (zA 3) zC))))))))))))))
noncomputable def Xh:SM :=
  (sIf (Zi (zA 4))
  (zX (ze (zB (eC (.str [101,97,99,104])) (zB (ze (zB (eC (.str [116,101,120,116])) (zB (eOp zc (eOp zc (eOp zI (zA 1) (eC (.int 2))) (eC (.str [32]))) (eOp zI (zA 1) (eC (.int 3)))) zC))) (zB (zA 3) zC)))))
  zq)
noncomputable def Kp:SM :=
  (zX (zA 3))
noncomputable def W3:SM:=(zH K6 (zH vV (zH Xe (zH Xh Kp))))
noncomputable def Bv:F:=fn 9 W3
noncomputable def Tr.allL (p:Tr->Prop):Tr->Prop
 | .join ts=>ls ts
 | .ife a b x y=>a.allL p/\b.allL p/\x.allL p/\y.allL p
 | .each a b=>a.allL p/\b.allL p
 | .one _ a=>a.allL p
 | t=>p t
where ls:List Tr->Prop
 | []=>True
 | t::ts=>t.allL p/\ls ts
def xS (fam:Bool) (N:List T) (t:Tr):Prop:=JT fam N t\/t=.it
theorem L3 (h:JT fam N t):t.allL (xS fam N):=by
 cases t<;>first | exact h.elim | exact .inl h
theorem VA:Tr.allL (xS fam N) .it:=.inr rfl
theorem LR {fam:Bool}{N:List T} (e:∀ t∈N,t.length <= 17) {st:D} (c:fam=true->∃ x,st=.str x) {t:Tr} (h:JT fam N t) (n:Nat) (b:Bool):jV st (n+1) b t:=by
 cases t with
 | txt x=>exact jM (show x.length <= 60 from h) (by decide)
 | line=>trivial
 | stem=>exact c h
 | thing m =>
  show m.length <= 1000;rcases h with h | ⟨a,ha,b,f,rfl⟩
  ·exact jM (e m h) (by decide)
  ·have:=e a ha;have:=e b f;simp;lia
 | kin m=>exact⟨jM (e m h.2) (by decide),c h.1⟩
 | _=>exact h.elim
theorem Dl (h:JT fam N t) (s:M.S):eqD t.d (.tup [.str [105,116]]) s=.ok false s:=by
 cases t with
 | it=>exact h.elim
 | join _=>exact h.elim
 | ife _ _ _ _=>exact h.elim
 | each _ _=>exact h.elim
 | one _ _=>exact h.elim
 | _=>rfl
theorem G8 (s:M.S):eqD (.tup [.str [105,116]]) (.tup [.str [105,116]]) s=.ok true s:=rfl
noncomputable abbrev Y1:SM:=(sIf (tOr (zN cGt (zK Jf (zB (zA 3) zC)) (eC (.int 9))) (zN cLt (zA 7) (eC (.int 3))))
  (zH (zQ 3 (eOp zI (jT (zB (zA 6) (zB (zA 6) (zB (ze (zB (eC (.str [105,116])) zC)) zC)))) (eOp jD (zA 7) (eC (.int 3)))))
  (zQ 4 (yt cEq (zA 3) (ze (zB (eC (.str [105,116])) zC)))))
  (sIf (zN cEq (zA 7) (eC (.int 3)))
  (zQ 3 (ze (zB (eC (.str [106,111,105,110])) (zB (zA 3) (zB (zA 6) zC)))))
  (sIf (zN cEq (zA 7) (eC (.int 4)))
  (zQ 3 (ze (zB (eC (.str [106,111,105,110])) (zB (zA 6) (zB (zA 3) (zB (zA 6) zC))))))
  (sIf (zN cEq (zA 7) (eC (.int 5)))
  (zH (zQ 3 (ze (zB (eC (.str [106,111,105,110])) (zB (zA 3) (zB (ze (zB (eC (.str [105,116])) zC)) zC)))))
  (zQ 4 (eC (.bl true))))
  (sIf (zN cLt (zA 7) (eC (.int 8)))
  (zH (zQ 8 (jT (zB (zA 6) (zB (ze (zB (eC (.str [108,105,110,101])) zC)) (zB (zA 6) (zB (zA 6) zC))))))
  (zH (yu (zA 8) (eOp jD (eOp jO (zA 5) (eC (.int 20))) (eC (.int 4))) (zA 3))
  (zQ 3 (zK VT (zB (eOp zc (jT (zB (eC (.str [105,102])) zC)) (zA 8)) zC)))))
  (sIf (zN cLt (zA 7) (eC (.int 10)))
  (zQ 3 (ze (zB (eC (.str [101,97,99,104])) (zB (zA 3) (zB (ze (zB (eC (.str [106,111,105,110])) (zB (ze (zB (eC (.str [105,116])) zC)) (zB (zA 6) zC)))) zC)))))
  (sIf (zN cLt (zA 7) (eC (.int 13)))
  (zH (zQ 3 (ze (zB (eC (.str [101,97,99,104])) (zB (zA 6) (zB (eOp zI (jT (zB (ze (zB (eC (.str [106,111,105,110])) (zB (zA 3) (zB (ze (zB (eC (.str [105,116])) zC)) zC)))) (zB (zA 3) zC))) (eOp jO (zA 7) (eC (.int 12)))) zC)))))
  (zQ 4 (eC (.bl false))))
  (zQ 3 (ze (zB (eOp zI (jT (zB (eC (.str [111,102])) (zB (eC (.str [98,97,99,107])) (zB (eC (.str [114,101,115,116])) (zB (eC (.str [115,111,114,116,101,100])) (zB (eC (.str [102,97,105,108])) (zB (eC (.str [102,105,114,115,116])) (zB (eC (.str [99,111,117,110,116])) zC)))))))) (eOp XB (zA 7) (eC (.int 13)))) (zB (zA 3) zC)))))))))))
noncomputable abbrev YV:SM:=zH (zQ 6 (zK JX (zB (eOp jO (zA 5) (eC (.int 20))) (zB (zA 1) (zB (zA 2) zC))))) (zH (zQ 7 (eOp jD (zA 5) (eC (.int 20)))) Y1)
theorem IH:Xe=qs (iE (zA 0)) (zw 5) YV:=rfl
theorem qD {c:TM}{a b:SM}{σ:St}{s:M.S} (h:c σ s=.ok false s):sIf c a b σ s=b σ s:=by rw[sIf,h];rfl
theorem xf {c:TM}{a b:SM}{σ:St}{s:M.S} (h:c σ s=.ok true s):sIf c a b σ s=a σ s:=by rw[sIf,h];rfl
theorem Fy {fam:Bool}{N:List T} (hN:∀ t∈N,t.length <= 17) {st:D} (hst:fam=true->∃ x,st=.str x) {t:Tr}{free:Bool} (Y:jV st 12 free t) (ha:t.allL (xS fam N)) (hl:JT fam N f) {v0 v1 v2 v8:Option D}{c:Int} (S:M.S) :
  ∃ t' q g v8',Y1 [v0,v1,v2,some t.d,some (.bl free),some (.int c),some f.d,some (.int (c % 20)),v8] S=.nx [v0,v1,v2,some t'.d,some (.bl q),some (.int c),some f.d,some (.int (c % 20)),v8'] (S++g)/\jV st 12 q t'/\t'.allL (xS fam N):=by
 have r:(1:Nat) <= SZ:=by decide
 have z2:(2:Nat) <= SZ:=by decide
 have u:(3:Nat) <= SZ:=by decide
 have Q:(4:Nat) <= SZ:=by decide
 have z5:(5:Nat) <= SZ:=by decide
 have z7:(7:Nat) <= SZ:=by decide
 have hi:∀ s,Jf [t.d] s=.ok (.int (t.hgt:Int)) s:=λs=>UO 20 s (y4 Y (jM (vq Y) (by decide)) λz=>z);have l:∀ n b,jV st (n+1) b f:=λn b=>LR hN hst hl n b;have o:=L3 hl;have w0:=Zh c (show (20:Int)≠0 by decide);have w1:=Zl c (show (0:Int) < 20 by decide);by_cases hA:9 < t.hgt\/c % 20 < 3
 ·have ht:(tOr (zN cGt (zK Jf (zB (zA 3) zC)) (eC (.int 9))) (zN cLt (zA 7) (eC (.int 3)))) [v0,v1,v2,some t.d,some (.bl free),some (.int c),some f.d,some (.int (c % 20)),v8] S=.ok true S:=by
   by_cases h9:(9:Int) < (t.hgt:Int)
   ·simp[hi,h9]
   ·have:c % 20 < 3:=by lia
    simp[hi,h9,this]
  have L:=Dl hl (S++[.lst [f.d,f.d,.tup [.str [105,116]]]]);have ht':=G8 (S++[.lst [f.d,f.d,.tup [.str [105,116]]]]);have m:c % 20 % 3=0\/c % 20 % 3=1\/c % 20 % 3=2:=by lia
  have j0:∀ x y z:D,atI [x,y,z] 0=some x:=λ_ _ _=>rfl;have j1:∀ x y z:D,atI [x,y,z] 1=some y:=λ_ _ _=>rfl;have j2:∀ x y z:D,atI [x,y,z] 2=some z:=λ_ _ _=>rfl;unfold Y1;rw[sIf,ht];rcases m with m | m | m
  ·refine⟨f,false,[.lst [f.d,f.d,.tup [.str [105,116]]]],v8,?_,l 11 false,o⟩;simp[-eqD,m,r,u,j0,L]
  ·refine⟨f,false,[.lst [f.d,f.d,.tup [.str [105,116]]]],v8,?_,l 11 false,o⟩;simp[-eqD,m,r,u,j1,L]
  ·refine⟨.it,true,[.lst [f.d,f.d,.tup [.str [105,116]]]],v8,?_,rfl,VA⟩;simp[-eqD,m,r,u,j2,ht',Tr.d]
 ·have i:∀ b:Bool,(free=true->b=true)->jV st 11 b t:=λb L=>y4 Y (by lia) L;have g10:∀ b:Bool,(free=true->b=true)->jV st 10 b t:=λb L=>y4 Y (by lia) L;have id':free=true->free=true:=λz=>z;have A:free=true->true=true:=λ_=>rfl;have ht:(tOr (zN cGt (zK Jf (zB (zA 3) zC)) (eC (.int 9))) (zN cLt (zA 7) (eC (.int 3)))) [v0,v1,v2,some t.d,some (.bl free),some (.int c),some f.d,some (.int (c % 20)),v8] S=.ok false S:=by
   have h9:¬ (9:Int) < (t.hgt:Int):=by lia
   have:¬ c % 20 < 3:=by lia
   simp[hi,h9,this]
  unfold Y1;rw[qD ht];have j:∀ k:Int,¬ c % 20=k->(zN cEq (zA 7) (eC (.int k))) [v0,v1,v2,some t.d,some (.bl free),some (.int c),some f.d,some (.int (c % 20)),v8] S=.ok false S:=λk h=>by simp[h]
  have eY:∀ k:Int,c % 20=k->(zN cEq (zA 7) (eC (.int k))) [v0,v1,v2,some t.d,some (.bl free),some (.int c),some f.d,some (.int (c % 20)),v8] S=.ok true S:=λk h=>by simp[h]
  have v:∀ k:Int,¬ c % 20 < k->(zN cLt (zA 7) (eC (.int k))) [v0,v1,v2,some t.d,some (.bl free),some (.int c),some f.d,some (.int (c % 20)),v8] S=.ok false S:=λk h=>by simp[h]
  have lY:∀ k:Int,c % 20 < k->(zN cLt (zA 7) (eC (.int k))) [v0,v1,v2,some t.d,some (.bl free),some (.int c),some f.d,some (.int (c % 20)),v8] S=.ok true S:=λk h=>by simp[h]
  have hw:c % 20=3\/c % 20=4\/c % 20=5\/(6 <= c % 20/\c % 20 < 8)\/(8 <= c % 20/\c % 20 < 10)\/(10 <= c % 20/\c % 20 < 12)\/c % 20=12\/13 <= c % 20:=by lia
  have hk4:c / 20 % 4=0\/c / 20 % 4=1\/c / 20 % 4=2\/c / 20 % 4=3:=by lia
  have x4:ixN 4 0=some 0/\ixN 4 1=some 1/\ixN 4 2=some 2/\ixN 4 3=some 3:=⟨rfl,rfl,rfl,rfl⟩
  have p0:∀ x y:D,atI [x,y] 0=some x:=λ_ _=>rfl;have p1:∀ x y:D,atI [x,y] 1=some y:=λ_ _=>rfl;rcases hw with e | e | e | e | e | e | e | e
  ·rw[xf (eY 3 e)];refine⟨.join [t,f],free,[],v8,?_,⟨by simp,by simp,λk p=>?_⟩,ha,o,trivial⟩
   ·simp[u,Tr.d,Tr.d.ds]
   ·simp at p;rcases p with rfl | rfl
    ·exact i _ id'
    ·exact l 10 _
  ·rw[qD (j 3 (by lia)),xf (eY 4 e)];refine⟨.join [f,t,f],free,[],v8,?_,⟨by simp,by simp,λk p=>?_⟩,o,ha,o,trivial⟩
   ·simp[Q,Tr.d,Tr.d.ds]
   ·simp at p;rcases p with rfl | rfl | rfl
    ·exact l 10 _
    ·exact i _ id'
    ·exact l 10 _
  ·rw[qD (j 3 (by lia)),qD (j 4 (by lia)),xf (eY 5 e)];refine⟨.join [t,.it],true,[],v8,?_,⟨by simp,by simp,λk p=>?_⟩,ha,VA,trivial⟩
   ·simp[r,u,Tr.d,Tr.d.ds]
   ·simp at p;rcases p with rfl | rfl
    ·exact i _ A
    ·rfl
  ·have B:¬ c % 20=3:=by lia
   have C:¬ c % 20=4:=by lia
   have E:¬ c % 20=5:=by lia
   rw[qD (j 3 B),qD (j 4 C),qD (j 5 E),xf (lY 8 e.2)];have G:jV st 11 free .line:=trivial;have H:Tr.allL (xS fam N) .line:=.inl trivial;rcases hk4 with k | k | k | k
   ·exact⟨.ife t .line f f,free,[.lst [t.d,Tr.line.d,f.d,f.d],.lst [.str [105,102]],.lst [.str [105,102],t.d,Tr.line.d,f.d,f.d]],some (.ref S.length),by simp[k,r,Q,z5,x4,Tr.d],⟨i _ id',G,l 10 _,l 10 _⟩,ha,H,o,o⟩
   ·exact⟨.ife f t f f,free,[.lst [f.d,t.d,f.d,f.d],.lst [.str [105,102]],.lst [.str [105,102],f.d,t.d,f.d,f.d]],some (.ref S.length),by simp[k,r,Q,z5,x4,Tr.d],⟨l 10 _,i _ id',l 10 _,l 10 _⟩,o,ha,o,o⟩
   ·exact⟨.ife f .line t f,free,[.lst [f.d,Tr.line.d,t.d,f.d],.lst [.str [105,102]],.lst [.str [105,102],f.d,Tr.line.d,t.d,f.d]],some (.ref S.length),by simp[k,r,Q,z5,x4,Tr.d],⟨l 10 _,G,i _ id',l 10 _⟩,o,H,ha,o⟩
   ·exact⟨.ife f .line f t,free,[.lst [f.d,Tr.line.d,f.d,t.d],.lst [.str [105,102]],.lst [.str [105,102],f.d,Tr.line.d,f.d,t.d]],some (.ref S.length),by simp[k,r,Q,z5,x4,Tr.d],⟨l 10 _,G,l 10 _,i _ id'⟩,o,H,o,ha⟩
  ·have B:¬ c % 20=3:=by lia
   have C:¬ c % 20=4:=by lia
   have E:¬ c % 20=5:=by lia
   have U:¬ c % 20 < 8:=by lia
   rw[qD (j 3 B),qD (j 4 C),qD (j 5 E),qD (v 8 U),xf (lY 10 e.2)];refine⟨.each t (.join [.it,f]),free,[],v8,?_,⟨i _ id',by simp,by simp,λk p=>?_⟩,ha,VA,o,trivial⟩
   ·simp[r,u,Tr.d,Tr.d.ds]
   ·simp at p;rcases p with rfl | rfl
    ·rfl
    ·exact l 9 _
  ·have B:¬ c % 20=3:=by lia
   have C:¬ c % 20=4:=by lia
   have E:¬ c % 20=5:=by lia
   have U:¬ c % 20 < 8:=by lia
   have I:¬ c % 20 < 10:=by lia
   have J:c % 20 < 13:=by lia
   have d12:c % 20 / 12=0:=by lia
   rw[qD (j 3 B),qD (j 4 C),qD (j 5 E),qD (v 8 U),qD (v 10 I),xf (lY 13 J)];refine⟨.each f (.join [t,.it]),false,[.lst [Tr.d (.join [t,.it]),t.d]],v8,?_,⟨l 10 _,by simp,by simp,λk p=>?_⟩,o,ha,VA,trivial⟩
   ·simp[d12,r,z2,u,Tr.d,Tr.d.ds,p0]
   ·simp at p;rcases p with rfl | rfl
    ·exact g10 _ A
    ·rfl
  ·rw[qD (j 3 (by lia)),qD (j 4 (by lia)),qD (j 5 (by lia)),qD (v 8 (by lia)),qD (v 10 (by lia)),xf (lY 13 (by lia))];refine⟨.each f t,false,[.lst [Tr.d (.join [t,.it]),t.d]],v8,?_,⟨l 10 _,i _ A⟩,o,ha⟩;simp[e,r,z2,u,Tr.d,Tr.d.ds,p1]
  ·have B:¬ c % 20=3:=by lia
   have C:¬ c % 20=4:=by lia
   have E:¬ c % 20=5:=by lia
   have U:¬ c % 20 < 8:=by lia
   have I:¬ c % 20 < 10:=by lia
   have J:¬ c % 20 < 13:=by lia
   rw[qD (j 3 B),qD (j 4 C),qD (j 5 E),qD (v 8 U),qD (v 10 I),qD (v 13 J)];obtain⟨w,hw7,hw⟩:∃ w:T,W7 w/\atI [D.str [111,102],.str [98,97,99,107],.str [114,101,115,116],.str [115,111,114,116,101,100],.str [102,97,105,108],.str [102,105,114,115,116],.str [99,111,117,110,116]] (c % 20 - 13)=some (.str w):=by
    have:c % 20 - 13=0\/c % 20 - 13=1\/c % 20 - 13=2\/c % 20 - 13=3\/c % 20 - 13=4\/c % 20 - 13=5\/c % 20 - 13=6:=by lia
    rcases this with e | e | e | e | e | e | e<;>rw[e]<;>refine⟨_,?_,rfl⟩
    ·exact .inl rfl
    ·exact .inr (.inr (.inl rfl))
    ·exact .inr (.inr (.inr (.inr (.inl rfl))))
    ·exact .inr (.inr (.inr (.inr (.inr (.inr rfl)))))
    ·exact .inr (.inl rfl)
    ·exact .inr (.inr (.inr (.inl rfl)))
    ·exact .inr (.inr (.inr (.inr (.inr (.inl rfl)))))
   refine⟨.one w t,free,[.lst [D.str [111,102],.str [98,97,99,107],.str [114,101,115,116],.str [115,111,114,116,101,100],.str [102,97,105,108],.str [102,105,114,115,116],.str [99,111,117,110,116]]],v8,?_,⟨hw7,i _ id'⟩,ha⟩;simp[z2,z7,hw,Tr.d]
noncomputable def XN:F:=chS Bv
theorem fq:jI 3 Bv XN:=yk _
mutual
theorem Tr.cl_d (n:Nat):∀ t:Tr,D.cl n t.d=true
 | .txt _=>rfl
 | .line=>rfl
 | .it=>rfl
 | .stem=>rfl
 | .thing _=>rfl
 | .kin _=>rfl
 | .join ts=>by
  show D.cl.all n (.str [106,111,105,110]::Tr.d.ds ts)=true;exact Tr.cl_ds n ts
 | .ife a b x y=>by
  show (true && (D.cl n a.d && (D.cl n b.d && (D.cl n x.d && (D.cl n y.d && true)))))=true;rw[Tr.cl_d n a,Tr.cl_d n b,Tr.cl_d n x,Tr.cl_d n y];rfl
 | .each a b=>by
  show (true && (D.cl n a.d && (D.cl n b.d && true)))=true;rw[Tr.cl_d n a,Tr.cl_d n b];rfl
 | .one w a=>by
  show (true && (D.cl n a.d && true))=true;rw[Tr.cl_d n a];rfl
theorem Tr.cl_ds (n:Nat):∀ ts:List Tr,D.cl.all n (Tr.d.ds ts)=true
 | []=>rfl
 | t::ts=>by
  show (D.cl n t.d && D.cl.all n (Tr.d.ds ts))=true;rw[Tr.cl_d n t,Tr.cl_ds n ts];rfl
end
theorem D1 {fam:Bool}{N:List T} (w:N.length=8) (u:∀ t∈N,t.length <= 17) {st:D} (y:fam=true->∃ x,st=.str x) {S:M.S}{p q:Nat}{cs:List Int} (A:S[p]? = some (.lst (cs.map .int))) (H:S[q]? = some (.lst (N.map .str))):∃ t,jV st 13 false t/\t.allL (xS fam N)/\XN [.ref p,.ref q,.bl fam] S=.ok t.d S:=by
 have J:(1:Nat) <= SZ:=by decide
 have L:(2:Nat) <= SZ:=by decide
 have Q:(3:Nat) <= SZ:=by decide
 obtain⟨U,s',e,g,t,free,m,i,v7,v8,B,C,n,v⟩:=Kq (g:=[(p,.lst (cs.map .int))]) (f:=qU (zw 5) YV) (λj σ s=>∃ (g:M.S) (t:Tr) (free:Bool) (m i v7 v8:Option D),σ=[some (.ref p),some (.ref q),some (.bl fam),some t.d,some (.bl free),m,i,v7,v8]/\s=S++g/\jV st 12 free t/\t.allL (xS fam N)) (cs.map .int) 0 [some (.ref p),some (.ref q),some (.bl fam),some Tr.line.d,some (.bl false),none,none,none,none] S ⟨[],.line,false,none,none,none,none,rfl,by simp,trivial,.inl trivial⟩ λj d hd σ s ⟨g,t,free,m,i,v7,v8,B,C,n,v⟩=>by
  subst B C;rw[yB] at hd;obtain⟨c,_,rfl⟩:=Option.map_eq_some_iff.mp hd;obtain⟨I,Y,el⟩:=HC w u (yl H g) (c / 20) fam;obtain⟨t',l,g',E,e',g1,a1⟩:=Fy u y n v Y (v0:=some (.ref p)) (v1:=some (.ref q)) (v2:=some (.bl fam)) (v8:=v8) (c:=c) (S++g);refine⟨_,_,?_,by simp[zh,yl A],g++g',t',l,some (.int c),some I.d,some (.int (c % 20)),E,rfl,rfl,g1,a1⟩;have b1:∀ r:SM,zH (zQ 6 (zK JX (zB (eOp jO (zA 5) (eC (.int 20))) (zB (zA 1) (zB (zA 2) zC))))) (zH (zQ 7 (eOp jD (zA 5) (eC (.int 20)))) r) [some (.ref p),some (.ref q),some (.bl fam),some t.d,some (.bl free),some (.int c),i,v7,v8] (S++g)=r [some (.ref p),some (.ref q),some (.bl fam),some t.d,some (.bl free),some (.int c),some I.d,some (.int (c % 20)),v8] (S++g):=λr=>by
   simp[el]
  show YV [some (.ref p),some (.ref q),some (.bl fam),some t.d,some (.bl free),some (.int c),i,v7,v8] (S++g)=_;unfold YV;rw[b1,e',yI]
 subst B C;obtain⟨n2,i2,a2⟩:=QB (ts:=N) (k:=2) (by decide) (by lia);obtain⟨o,i3,a3⟩:=QB (ts:=N) (k:=3) (by decide) (by lia);have l2:=u n2 i2;have l3:=u o i3;have m1:n2.length+1 <= SZ:=by unfold SZ;lia
 have m2:n2.length+1+o.length <= SZ:=by unfold SZ;lia
 have G:∀ r,(K6 [some (.ref p),some (.ref q),some (.bl fam),none,none,none,none,none,none] S).then (zH vV r)=r [some (.ref p),some (.ref q),some (.bl fam),some Tr.line.d,some (.bl false),none,none,none,none] S:=λr=>by
  simp[K6,vV,J,Tr.d]
 have e3:∀ r,(Xe [some (.ref p),some (.ref q),some (.bl fam),some Tr.line.d,some (.bl false),none,none,none,none] S).then r=r [some (.ref p),some (.ref q),some (.bl fam),some t.d,some (.bl free),m,i,v7,v8] (S++g):=λr=>by
  have hg:zh [(p,O.lst (cs.map .int))] S=true:=by simp[zh,A]
  rw[IH];simp only[qs,iE,itD,zA,jJ,R.bind_ok,A,R.stm_ok,hg,if_true,e,RS.then_nx]
 have fin:∀ t':Tr,(zH Xh Kp [some (.ref p),some (.ref q),some (.bl fam),some t.d,some (.bl free),m,i,v7,v8] (S++g)).out=.ok t'.d (S++g)->XN [.ref p,.ref q,.bl fam] S=.ok t'.d S:=λt' h=>by
  refine yq (g:=g) ?_ (Tr.cl_d _ _);show ((K6 [some (.ref p),some (.ref q),some (.bl fam),none,none,none,none,none,none] S).then (zH vV (zH Xe (zH Xh Kp)))).out=_;rw[G];show ((Xe _ _).then _).out=_;rw[e3];exact h
 cases free with
 | true =>
  refine⟨.each (.txt (n2++[32]++o)) t,⟨?_,n⟩,⟨.inl ?_,v⟩,fin _ ?_⟩
  ·show (n2++[32]++o).length <= 900;simp;lia
  ·show (n2++[32]++o).length <= 60;simp;lia
  ·simp[Xh,yl H g,a2,a3,m1,m2,L,Q,Tr.d,RS.out]
 | false =>
  refine⟨t,y4 n (jM (vq n) (by decide)) λz=>z,v,fin _ ?_⟩;simp[Xh,Kp,RS.out]
noncomputable def Vw:SM :=
  (zX (eOp jD (eOp qe (eOp zc (zA 0) (eOp qe (eC (.int 7919)) (zA 1))) (eC (.int 48271))) (eC (.int 2147483647))))
noncomputable def bU:F:=fn 2 Vw
noncomputable def mix (c k:Int):Int:=(c+7919 * k) * 48271 % 2147483647
noncomputable def Q6:F
 | [.int c,.int k],s=>.ok (.int (mix c k)) s
 | _,_=>.no
theorem ml:jI 2 bU Q6:=jI.pure λds S e c h=>by
 match ds,e with
 | [a,b],_ =>
  cases a with
  | int c =>
   cases b with
   | int k =>
    have f:qK 7919=true:=by decide
    have g:qK 48271=true:=by decide
    exact .inr ⟨_,[],rfl,by simp[bU,Vw,f,g,mix],rfl⟩
   | _=>exact .inl rfl
  | _=>exact .inl rfl
noncomputable def Xp:SM :=
  (zH (sIf (zN cLt (zA 1) (zK jX (zB (zA 0) zC)))
  (zX (zK Q6 (zB (eOp zI (zA 0) (zA 1)) (zB (zA 1) zC))))
  zq)
  (zX (eC (.int 0))))
noncomputable def uO:F:=fn 2 Xp
noncomputable def ku (xs:List D) (k:Int):Option Int:=if k < xs.length then (match xs.getD k.toNat .non with | .int i=>some (mix i k) | _=>none) else some 0
noncomputable def jz:F
 | [.ro xs,.int k],s=>if 0 <= k then (match ku xs k with | some i=>.ok (.int i) s | none=>.no) else .no
 | _,_=>.no
theorem gK:jI 2 uO jz:=jI.pure λds S f c j=>by
 match ds,f with
 | [a,b],_ =>
  cases a with
  | ro xs =>
   cases b with
   | int k =>
    by_cases e:0 <= k
    ·have s1:qK 48271=true:=by decide
     have l:qK 7919=true:=by decide
     by_cases h:k < (xs.length:Int)
     ·have ea:=JK e h (D.non);cases hd:xs.getD k.toNat .non with
      | int i =>
       have g:ku xs k=some (mix i k):=by unfold ku;rw[if_pos h,hd]
       exact .inr ⟨_,[],by simp[jz,e,g];rfl,by simp[uO,Xp,h,ea,-qP,hd,Q6],rfl⟩
      | _=>exact .inl (by simp[jz,e,ku,h,-qP,hd])
     ·exact .inr ⟨.int 0,[],by simp[jz,e,ku,h],by simp[uO,Xp,h],rfl⟩
    ·exact .inl (by simp[jz,e])
   | _=>exact .inl rfl
  | _=>exact .inl rfl
noncomputable def Qs (ns:List Int) (k:Nat):Int:=if k < ns.length then mix (ns.getD k 0) k else 0
theorem V9 (ns:List Int) (k:Nat) (s:M.S):jz [.ro (ns.map .int),.int (k:Int)] s=.ok (.int (Qs ns k)) s:=by
 have c:(0:Int) <= (k:Int):=by lia
 simp only[jz,c,if_true];unfold ku Qs;by_cases h:k < ns.length
 ·have h':(k:Int) < ((ns.map D.int).length:Int):=by rw[jS];lia
  rw[if_pos h',if_pos h];have:(ns.map D.int).getD (k:Int).toNat .non=.int (ns.getD k 0):=by
   rw[iO,qP,yB,qP,yQ h];rfl
  rw[this]
 ·have h':¬ (k:Int) < ((ns.map D.int).length:Int):=by rw[jS];lia
  rw[if_neg h',if_neg h]
noncomputable def vQ:SM :=
  (zX (yC 1 (KN (zA 1) (zK vJ (zB (zA 2) (zB (zK jX (zB (zA 0) zC)) zC)))) (zw 3) jU (zK Q6 (zB (eOp zI (zA 0) (zA 3)) (zB (zA 3) zC)))))
noncomputable def cS:F:=fn 3 vQ
noncomputable def kH:F:=chN cS
theorem Iq:jI 3 cS kH:=hX _
theorem lR (ns:List Int) (q:ns.length <= 63) (a b:Nat) (r:b <= 100) (ha:a <= 100) (S:M.S):∃ cs:List Int,kH [.ro (ns.map .int),.int (a:Int),.int (b:Int)] S=.ok (.ref S.length) (S++[.lst (cs.map .int)]):=by
 obtain⟨h,c⟩:∃ h:Int,h=if (ns.length:Int) < (b:Int) then (ns.length:Int) else (b:Int):=⟨_,rfl⟩
 have t:h <= ns.length/\0 <= h/\h <= 100:=by rw[c];split<;>lia
 have i:(a:Int).natAbs < 4611686018427387904/\h.natAbs < 4611686018427387904:=by lia
 have m:=WX (n:=1) (it:=KN (zA 1) (zK vJ (zB (zA 2) (zB (zK jX (zB (zA 0) zC)) zC)))) (tg:=zw 3) (e:=zK Q6 (zB (eOp zI (zA 0) (zA 3)) (zB (zA 3) zC))) (σ:=[some (.ro (ns.map .int)),some (.int (a:Int)),some (.int (b:Int))]) (s:=S) (lo:=(a:Int)) (hi:=h) (λ(k:Nat)=>.int (mix (ns.getD (a+k) 0) ((a:Int)+k)))
  (by simp only[KN,zA,zK,zB,zC,jJ,jW,R.bind_ok,jX,jS,vJ,<- c,i,and_self,if_true]) (by unfold SZ;lia) λk u=>by
   have o:atI (ns.map D.int) ((a:Int)+(k:Int))=some (.int (ns.getD (a+k) 0)):=by
    rw[JK (d:=.int 0) (by lia) (by rw[jS];lia),show ((a:Int)+(k:Int)).toNat=a+k by lia,qP,yB,qP];cases ns[a+k]?<;>rfl
   simp[o,Q6]
 refine⟨(qE (h - (a:Int)).toNat).map λ(k:Nat)=>mix (ns.getD (a+k) 0) ((a:Int)+k),?_⟩;rw[ZR];refine Mr (g:=[.lst ((qE (h - (a:Int)).toNat).map λ(k:Nat)=>.int (mix (ns.getD (a+k) 0) ((a:Int)+k)))]) (j:=S.length) ?_ (by simp) (zo _) ?_
 ·show (vQ [some (.ro (ns.map .int)),some (.int (a:Int)),some (.int (b:Int))] S).out=_;unfold vQ;simp only[zX,yC,m,R.bind_ok,alloc,R.stm_ok,RS.out]
 ·have:∀ (f:Nat->Int) (l:List Nat) (n:Nat),D.cl.all n (l.map λk=>.int (f k))=true:=λf l n=>by
   induction l with
   | nil=>rfl
   | cons x l p=>exact p
  exact this (λ(k:Nat)=>mix (ns.getD (a+k) 0) ((a:Int)+k)) _ _
noncomputable def Qz:SM :=
  (zH (sIf (zN Ql (zA 0) (eOp zI (zA 1) (eC (.str [97,110,115,119,101,114,115]))))
  (zX (ze (zB (eC (.str [97,115,107,115])) (zB (zA 0) zC))))
  zq)
  (zH (sIf (zN Ql (zA 0) (eOp zI (zA 1) (eC (.str [117,115,101,100]))))
  (z6 (eM .list q0 (eOp zI (zA 1) (eC (.str [117,115,101,100]))) (zB (zA 0) zC)))
  zq)
  (zX (ze (zB (eC (.str [116,101,120,116])) (zB (eOp zI (eOp zI (zA 1) (eC (.str [97,110,115,119,101,114,115]))) (zA 0)) zC))))))
noncomputable def DK:F:=fn 2 Qz
noncomputable abbrev kn:F:=DK
noncomputable abbrev ud:T:=[97,110,115,119,101,114,115]
noncomputable abbrev ur:T:=[115,116,101,109]
noncomputable abbrev UN:T:=[117,115,101,100]
noncomputable abbrev VH:T:=[108,101,102,116]
noncomputable def kvW (a:Nat) (st:D) (u:Nat) (k:Int):List (D×D):=[(.str ud,.ref a),(.str ur,st),(.str UN,.ref u),(.str VH,.int k)]
theorem Hw (a:Nat) (st:D) (u:Nat) (k:Int):qM (.str ud) (kvW a st u k)=some (.ref a):=rfl
theorem Ez (a:Nat) (st:D) (u:Nat) (k:Int):qM (.str ur) (kvW a st u k)=some st:=rfl
theorem Gn (a:Nat) (st:D) (u:Nat) (k:Int):qM (.str UN) (kvW a st u k)=some (.ref u):=rfl
theorem LF (a:Nat) (st:D) (u:Nat) (k:Int):qM (.str VH) (kvW a st u k)=some (.int k):=rfl
theorem FP (a:Nat) (st:D) (u:Nat) (k c:Int):ym (.str VH) (.int c) (kvW a st u k)=kvW a st u c:=rfl
structure Wd (ans:List (T×T)) (st:D) (wd a u:Nat) (s:M.S) (k:Int) (us:List T):Prop where
 ew:s[wd]? = some (.dct (kvW a st u k))
 ea:s[a]? = some (.dct (ans.map pd))
 eu:s[u]? = some (.lst (us.map .str))
 wa:wd≠a
 wu:wd≠u
 au:a≠u
def Wf (e u:Nat) (s c:M.S):Prop:=s.length <= c.length/\∀ i,i < s.length->i≠e->i≠u->c[i]? = s[i]?
theorem Wf.refl (s:M.S):Wf c u s s:=⟨zo _,λ_ _ _ _=>rfl⟩
theorem Wf.trans (h:Wf c u s t) (k:Wf c u t r):Wf c u s r:=⟨jM h.1 k.1,λi hi e f=>(k.2 i (qR hi h.1) e f).trans (h.2 i hi e f)⟩
theorem Wf.app (s g:M.S):Wf c u s (s++g):=⟨by simp,λi hi _ _=>yG hi⟩
section
variable {ans:List (T×T)}{st:D}{wd a u:Nat}{s:M.S}{k:Int}{us:List T}
theorem Wd.app (h:Wd ans st wd a u s k us) (g:M.S):Wd ans st wd a u (s++g) k us:=⟨yl h.ew g,yl h.ea g,yl h.eu g,h.wa,h.wu,h.au⟩
theorem Wd.opA (h:Wd ans st wd a u s k us):zI (.ref wd) (.str ud) s=.ok (.ref a) s:=by simp[h.ew,Hw,qC]
theorem Wd.opS (h:Wd ans st wd a u s k us):zI (.ref wd) (.str ur) s=.ok st s:=by simp[h.ew,Ez,qC]
theorem Wd.opU (h:Wd ans st wd a u s k us):zI (.ref wd) (.str UN) s=.ok (.ref u) s:=by simp[h.ew,Gn,qC]
theorem Wd.opL (h:Wd ans st wd a u s k us):zI (.ref wd) (.str VH) s=.ok (.int k) s:=by simp[h.ew,LF,qC]
theorem Uu (h:Wd ans st wd a u s k us) (G:us.length <= 1000) (n:T) (c:Nat):∃ f,kn [.str n,.ref wd] s=.ok (zW (zv (qB ans n (c,us)).1)) f/\Wd ans st wd a u f k (qB ans n (c,us)).2.2/\Wf wd u s f:=by
 have p:(2:Nat) <= SZ:=by decide
 have q:=h.opA;have y:=h.opU;have g:inD (.str n) (.ref a) s=.ok (qc ans n).isSome s:=by
  simp only[inD,h.ea,XA];cases qc ans n<;>simp[qC]
 have m:inD (.str n) (.ref u) s=.ok (us.contains n) s:=ve h.eu n;unfold qB;cases r:qc ans n with
 | none =>
  rw[r] at g;refine⟨s,?_,h,Wf.refl s⟩;show (Qz [some (.str n),some (.ref wd)] s).out=_;unfold Qz;simp only[zH,sIf,zN,zA,eOp,eC,jJ,jW,R.bind_ok,q,Ql,g,R.stm_ok,gq,uk,if_true,zX,ze,zB,zC,zx,jw,qQ,xM,p,RS.then,RS.out,zW,zv]
 | some v =>
  rw[r] at g;have j:∀ f,f[a]? = some (O.dct (ans.map pd))->zI (.ref a) (.str n) f=.ok (.str v) f:=λf e=>by
   simp[e,qC,XA,r]
  cases o:us.contains n with
  | true =>
   rw[o] at m;refine⟨s,?_,by unfold JG;rw[o];simpa using h,Wf.refl s⟩;show (Qz [some (.str n),some (.ref wd)] s).out=_;unfold Qz;have t:=j s h.ea;simp only[zH,sIf,zN,zA,eOp,eC,jJ,jW,R.bind_ok,q,y,Ql,g,m,R.stm_ok,Cr,xA,jv,if_false,if_true,zq,RS.then_nx,zX,ze,zB,zC,t,zx,jw,qQ,xM,p,RS.out,zW,zv]
  | false =>
   rw[o] at m;have w:¬ u=wd:=λz=>h.wu z.symm;have l:¬ u=a:=λz=>h.au z.symm;have A:u < s.length:=(List.getElem?_eq_some_iff.mp h.eu).1;have h':Wd ans st wd a u (s.set u (.lst ((us++[n]).map .str))) k (us++[n]):=⟨by rw[Zk w];exact h.ew,by rw[Zk l];exact h.ea,by rw[J6 A],h.wa,h.wu,h.au⟩
   refine⟨s.set u (.lst ((us++[n]).map .str)),?_,by unfold JG;rw[o];simpa using h',by simp,λi hi _ B=>Zk (λz=>B z.symm)⟩;show (Qz [some (.str n),some (.ref wd)] s).out=_;unfold Qz;have t:=j _ h'.ea;have x:=h'.opA;have ha:q0 (.ref u) [.str n] s=.ok .non (s.set u (.lst ((us++[n]).map .str))):=by
    have C:us.length < SZ:=by unfold SZ;lia
    simp[h.eu,C]
   have E:yf .list (.ref u) s=true:=by simp[yf,h.eu]
   simp only[zH,sIf,zN,zA,eOp,eC,jJ,jW,R.bind_ok,q,y,Ql,g,m,R.stm_ok,Cr,xA,uk,jv,if_false,if_true,zq,RS.then_nx,z6,eM,E,zB,zC,ha,zX,ze,x,t,zx,jw,qQ,xM,p,RS.out,zW,zv]
end
noncomputable def JZ:SM :=
  (sIf (zN cEq (eOp zI (zA 0) (eC (.int 0))) (eC (.str [116,104,105,110,103])))
  (zX (zK kn (zB (eOp zI (zA 0) (eC (.int 1))) (zB (zA 2) zC))))
  zq)
noncomputable def xE:SM :=
  (sIf (zN cEq (eOp zI (zA 0) (eC (.int 0))) (eC (.str [107,105,110])))
  (zX (zK kn (zB (eOp zc (eOp zc (eOp zI (zA 0) (eC (.int 1))) (eC (.str [46]))) (eOp zI (zA 2) (eC (.str [115,116,101,109])))) (zB (zA 2) zC))))
  zq)
noncomputable def XZ:SM :=
  (sIf (zN cEq (eOp zI (zA 0) (eC (.int 0))) (eC (.str [105,116])))
  (zX (ze (zB (eC (.str [116,101,120,116])) (zB (zA 1) zC))))
  zq)
noncomputable def vH:SM :=
  (sIf (zN cEq (eOp zI (zA 0) (eC (.int 0))) (eC (.str [115,116,101,109])))
  (zX (ze (zB (eC (.str [116,101,120,116])) (zB (eOp zI (zA 2) (eC (.str [115,116,101,109]))) zC))))
  zq)
noncomputable def YZ:SM :=
  (zX (ze (zB (eC (.str [116,101,120,116])) (zB (eOp zI (eOp VL (eSl (zA 0) (jr (eC (.int 1))) qb) (ze (zB (eC (.str [10])) zC))) (eC (.int 0))) zC))))
noncomputable def Zd:SM:=(zH JZ (zH xE (zH XZ (zH vH YZ))))
noncomputable def vZ:F:=fn 3 Zd
noncomputable abbrev VN:F:=vZ
noncomputable def Tr.bare:Tr->Prop
 | .join _=>False
 | .ife _ _ _ _=>False
 | .each _ _=>False
 | .one _ _=>False
 | _=>True
noncomputable def Zs (ans:List (T×T)) (st i:D):Tr->Ct->Out×Ct
 | .txt x,c=>(.tx x,c)
 | .line,c=>(.tx [10],c)
 | .it,c=>(.tx (yz i),c)
 | .stem,c=>(.tx (yz st),c)
 | .thing m,c=>qB ans m c
 | .kin m,c=>qB ans (m++[46]++yz st) c
 | _,c=>(.tx [],c)
theorem BQ {st:D}{n:Nat}{t:Tr} (e:t.bare) {c:Ct} (f:¬ 500 <= c.1):ev ans st (n+1) t i c=Zs ans st i t (c.1+1,c.2):=by
 rw[ev.eq_def];dsimp only;rw[if_neg f];cases t<;>first | rfl | exact e.elim
section
variable {ans:List (T×T)}{st:D}{wd a u:Nat}{s:M.S}{k:Int}{us:List T}
theorem Hb (h:Wd ans st wd a u s k us) (z:us.length <= 1000) (p:(yz st).length <= 900) {n:Nat}{b:Bool} (q:jV st (n+1) b t) (E:t.bare) {i:D} (hi:b=true->∃ x,i=.str x) (c:Nat):∃ g,VN [t.d,i,.ref wd] s=.ok (zW (zv (Zs ans st i t (c,us)).1)) g/\Wd ans st wd a u g k (Zs ans st i t (c,us)).2.2/\Wf wd u s g:=by
 have o:(2:Nat) <= SZ:=by decide
 have A:(1:Nat) <= SZ:=by decide
 have B:=h.opS;have C:∀ x y:D,atI [x,y] 0=some x:=λ_ _=>rfl;have G:∀ x y:D,atI [x,y] 1=some y:=λ_ _=>rfl;have l:∀ x:D,atI [x] 0=some x:=λ_=>rfl;have H:∀ x y:D,cut [x,y] (some 1) none=[y]:=λ_ _=>rfl;have c1:∀ x:D,cut [x] (some 1) none=[]:=λ_=>rfl;have I:sIx 2 0 (some 1)=1:=rfl;have s1:sIx 1 0 (some 1)=1:=rfl;cases t with
 | txt x=>exact⟨s,by simp[-zI,vZ,Zd,JZ,xE,XZ,vH,YZ,Tr.d,zW,zv,Zs,RS.out,zI,C,H,I,A,o],h,Wf.refl s⟩
 | line=>exact⟨s,by simp[vZ,Zd,JZ,xE,XZ,vH,YZ,Tr.d,zW,zv,Zs,RS.out,l,c1,s1,A,o],h,Wf.refl s⟩
 | it =>
  obtain⟨x,rfl⟩:=hi q;exact⟨s,by simp[vZ,Zd,JZ,xE,XZ,Tr.d,zW,zv,Zs,RS.out,l,o,yz],h,Wf.refl s⟩
 | stem =>
  obtain⟨x,rfl⟩:=q;have j:zI (.ref wd) (.str [115,116,101,109]) s=.ok (.str x) s:=B;refine⟨s,?_,h,Wf.refl s⟩;show (Zd [some (.tup [.str [115,116,101,109]]),some i,some (.ref wd)] s).out=_;have v:zI (.tup [.str [115,116,101,109]]) (.int 0) s=.ok (.str [115,116,101,109]) s:=rfl;simp[-zI,Zd,JZ,xE,XZ,vH,v,j,zW,zv,Zs,RS.out,o,yz]
 | thing m =>
  obtain⟨g,e,w,f⟩:=Uu h z m c;refine⟨g,?_,w,f⟩;show _=R.ok (zW (zv (qB ans m (c,us)).1)) g;rw[<- e];generalize zW (zv (qB ans m (c,us)).1)=r at e;show (Zd [some (.tup [.str [116,104,105,110,103],.str m]),some i,some (.ref wd)] s).out=_;rw[e];simp[Zd,JZ,C,G,e,RS.out]
 | kin m =>
  obtain⟨hm,x,rfl⟩:=q;have j:zI (.ref wd) (.str [115,116,101,109]) s=.ok (.str x) s:=B;have Q:x.length <= 900:=p;obtain⟨g,e,w,f⟩:=Uu h z (m++[46]++x) c;refine⟨g,?_,w,f⟩;show _=R.ok (zW (zv (qB ans (m++[46]++x) (c,us)).1)) g;generalize zW (zv (qB ans (m++[46]++x) (c,us)).1)=r at e ⊢;show (Zd [some (.tup [.str [107,105,110],.str m]),some i,some (.ref wd)] s).out=_;have v:zI (.tup [.str [107,105,110],.str m]) (.int 0) s=.ok (.str [107,105,110]) s:=rfl;have J:zI (.tup [.str [107,105,110],.str m]) (.int 1) s=.ok (.str m) s:=rfl;have L:m.length+1 <= SZ:=by unfold SZ;lia
  have N:m.length+1+x.length <= SZ:=by unfold SZ;lia
  simp only[yI,XT,Xd] at e;simp[-zI,Zd,JZ,xE,v,J,j,L,N,e,RS.out]
 | _=>exact E.elim
end
noncomputable def Xo (c:F):SM :=
  (zH (zQ 3 (eC (.str [])))
  (zH (qs (iE (zA 0)) (zw 4)
  (zH (zQ 5 (zK c (zB (eOp zI (zA 4) (eC (.int 0))) (zB (eOp zI (zA 4) (eC (.int 1))) (zB (zA 1) zC)))))
  (zH (sIf (zN cNe (eOp zI (zA 5) (eC (.int 0))) (eC (.str [116,101,120,116])))
  (zX (zA 5))
  zq)
  (zH (zQ 3 (eOp zc (zA 3) (eOp zI (zA 5) (eC (.int 1)))))
  (sIf (qr (Zi (zA 2)) (zN cGt (zK jX (zB (zA 3) zC)) (eC (.int 900))))
  (zX (ze (zB (eC (.str [102,97,105,108,115])) (zB (eC (.str [116,111,111,32,108,111,110,103])) zC))))
  zq)))))
  (zX (ze (zB (eC (.str [116,101,120,116])) (zB (zA 3) zC))))))
noncomputable def Kx (c:F):F:=fn 6 (Xo c)
noncomputable abbrev xr (r:F):F:=Kx r
theorem ba {ans:List (T×T)}{st:D} (g:∀ q∈ans,q.2.length <= 900) (f:(yz st).length <= 900) {n:Nat} (r:n <= 40) {b:Bool}{i:D} (h:jV st n b t) (hi:b=true->∃ x,i=.str x/\x.length <= 900) (j:I0 c) :
  c.1 <= (ev ans st n t i c).2.1/\(ev ans st n t i c).2.1 <= 501/\∀ x,(ev ans st n t i c).1=.tx x->(ev ans st n t i c).2.1 <= 500/\(ev ans st n t i c).2.2.length+c.1 <= c.2.length+(ev ans st n t i c).2.1/\x.length <= 900:=by
 obtain⟨m,s,u,l,v,w,o,p⟩:=Qt (S:=[.dct (ans.map pd)]) (a:=0) rfl g f n t b i h hi [] [] [] c j (by simp;lia) (by simp;lia);exact⟨l,o,λx e=>p x e⟩
noncomputable def yA (early:Bool) (f:Tr×D->Ct->Out×Ct):List (Tr×D)->T->Ct->Out×Ct
 | [],t,c=>(.tx t,c)
 | p::ps,t,c=>match f p c with
  | (.en e,c)=>(.en e,c)
  | (.tx x,c)=>if early=true/\900 < (t++x).length then (.en (jn,qu),c) else yA early f ps (t++x) c
theorem UM {f:Tr->D->Ct->Out×Ct}{i:D}:∀ (ts:List Tr) (t:T) (c:Ct),yA false (λp c=>f p.1 p.2 c) (ts.map λa=>(a,i)) t c=evs (λa c=>f a i c) ts t c
 | [],t,c=>rfl
 | a::ts,t,c=>by
  rw[jH,yA,evs];cases f a i c with
  | mk o g =>
   cases o with
   | en e=>rfl
   | tx x =>
    dsimp only;rw[if_neg (by simp),UM ts]
theorem wW {f:Tr->D->Ct->Out×Ct}{b:Tr}:∀ (ws:List T) (t:T) (c:Ct),yA true (λp c=>f p.1 p.2 c) (ws.map λw=>(b,.str w)) t c=evw (λw c=>f b (.str w) c) ws t c
 | [],t,c=>rfl
 | w::ws,t,c=>by
  rw[jH,yA,evw];cases f b (.str w) c with
  | mk o g =>
   cases o with
   | en e=>rfl
   | tx x =>
    dsimp only;by_cases h:900 < (t++x).length
    ·rw[if_pos h,if_pos ⟨rfl,h⟩]
    ·rw[if_neg h,if_neg (λz=>h z.2),wW ws]
theorem Wy {e:T×T} (h:(qB ans n c).1=.en e):e.1≠qd:=by
 unfold qB at h;split at h
 ·cases h
 ·cases h;show VG≠qd;decide
theorem AB {r:Out×Ct}{e:T×T} (f:∀ e,r.1=.en e->e.1≠qd) (h:(yM r).1=.en e):e.1≠qd:=by
 obtain⟨o,c⟩:=r;cases o with
 | en g=>exact f e h
 | tx x =>
  unfold yM at h;dsimp only at h;split at h
  ·cases h;decide
  ·cases h
theorem Yo {r:Out×Ct}{f:T->Ct->Out×Ct}{e:T×T} (g:∀ e,r.1=.en e->e.1≠qd) (i:∀ x c e,(f x c).1=.en e->e.1≠qd) (h:(andO r f).1=.en e):e.1≠qd:=by
 obtain⟨o,c⟩:=r;cases o with
 | en j=>exact g e h
 | tx x=>exact i x c e h
theorem W4 {f:Tr×D->Ct->Out×Ct} (g:∀ p c e,(f p c).1=.en e->e.1≠qd):∀ (ps:List (Tr×D)) (t:T) (c:Ct) (e:T×T),(yA early f ps t c).1=.en e->e.1≠qd
 | [],t,c,e,h=>by cases h
 | p::ps,t,c,e,h=>by
  rw[yA] at h;have i:=g p c;cases q:f p c with
  | mk o j =>
   rw[q] at h i;cases o with
   | en l=>exact i e h
   | tx x =>
    dsimp only at h;split at h
    ·cases h;decide
    ·exact W4 g ps _ _ e h
theorem M7 {e:T×T} (h:(Jy ans w p c).1=.en e):e.1≠qd:=by
 unfold Jy at h;split at h
 ·cases h;show jn≠qd;decide
 ·split at h
  ·split at h
   ·exact Wy h
   ·cases h;decide
  ·exact AB (λe z=>by cases z) h
theorem Xy {st:D}:∀ (n:Nat) (t:Tr) (i:D) (c:Ct) (e:T×T),(ev ans st n t i c).1=.en e->e.1≠qd
 | 0,t,i,c,e,h=>by
  rw[ev] at h;cases h;decide
 | n+1,t,i,c,e,h=>by
  have g:=Xy (ans:=ans) (st:=st) n;rw[ev.eq_def] at h;dsimp only at h;split at h
  ·cases h;decide
  ·cases t with
   | txt x=>cases h
   | line=>cases h
   | it=>cases h
   | stem=>cases h
   | thing m=>exact Wy h
   | kin m=>exact Wy h
   | join ts =>
    refine AB (λe z=>?_) h;rw[<- UM (f:=λa i c=>ev ans st n a i c)] at z;exact W4 (λp c e=>g p.1 p.2 c e) _ _ _ e z
   | ife a b x y=>exact Yo (g a i _) (λp c e=>Yo (g b i c) λq c e=>g _ i c e) h
   | each a b =>
    refine Yo (g a i _) (λs c e z=>?_) h;rw[<- wW (f:=λa i c=>ev ans st n a i c)] at z;exact W4 (λp c e=>g p.1 p.2 c e) _ _ _ e z
   | one w a=>exact Yo (g a i _) (λp c e=>M7) h
section
variable {ans:List (T×T)}{st:D}{wd a u:Nat}
def TC (ans:List (T×T)) (st:D) (wd a u:Nat) (r:F) (n:Nat) (t:Tr) (i:D):Prop:=∀ (s:M.S) (c:Ct),I0 c->Wd ans st wd a u s (500 - (c.1:Int)) c.2 ->
 ∃ e,r [t.d,i,.ref wd] s=.ok (zW (zv (ev ans st n t i c).1)) e/\Wd ans st wd a u e (500 - ((ev ans st n t i c).2.1:Int)) (ev ans st n t i c).2.2/\Wf wd u s e/\∀ x,(ev ans st n t i c).1=.tx x->I0 (ev ans st n t i c).2/\x.length <= 900
noncomputable abbrev ZC (r:F):SM:=(zH (zQ 5 (zK r (zB (eOp zI (zA 4) (eC (.int 0))) (zB (eOp zI (zA 4) (eC (.int 1))) (zB (zA 1) zC)))))
  (zH (sIf (zN cNe (eOp zI (zA 5) (eC (.int 0))) (eC (.str [116,101,120,116])))
  (zX (zA 5))
  zq)
  (zH (zQ 3 (eOp zc (zA 3) (eOp zI (zA 5) (eC (.int 1)))))
  (sIf (qr (Zi (zA 2)) (zN cGt (zK jX (zB (zA 3) zC)) (eC (.int 900))))
  (zX (ze (zB (eC (.str [102,97,105,108,115])) (zB (eC (.str [116,111,111,32,108,111,110,103])) zC))))
  zq))))
noncomputable abbrev prD (q:Tr×D):D:=.tup [q.1.d,q.2]
theorem cb {p:Nat}{xs:List D} (g:p≠wd) (h:p≠u):∀ (ps:List (Tr×D)) (t:T) (c:Ct) (s:M.S) (v4 f:Option D),(∀ q∈ps,TC ans st wd a u r n q.1 q.2)->I0 c->Wd ans st wd a u s (500 - (c.1:Int)) c.2->s[p]? = some (.lst xs)->t.length+900 * ps.length <= 5000000 ->
  ∃ C,Wd ans st wd a u C (500 - ((yA early (λq c=>ev ans st n q.1 q.2 c) ps t c).2.1:Int)) (yA early (λq c=>ev ans st n q.1 q.2 c) ps t c).2.2/\Wf wd u s C /\
   ((∃ x i j,(yA early (λq c=>ev ans st n q.1 q.2 c) ps t c).1=.tx x/\j9 [(p,.lst xs)] (qU (zw 4) (ZC r)) (ps.map prD) [some (.ref p),some (.ref wd),some (.bl early),some (.str t),v4,f] s=.nx [some (.ref p),some (.ref wd),some (.bl early),some (.str x),i,j] C/\I0 (yA early (λq c=>ev ans st n q.1 q.2 c) ps t c).2/\x.length <= t.length+900 * ps.length) \/
   (∃ e,(yA early (λq c=>ev ans st n q.1 q.2 c) ps t c).1=.en e/\j9 [(p,.lst xs)] (qU (zw 4) (ZC r)) (ps.map prD) [some (.ref p),some (.ref wd),some (.bl early),some (.str t),v4,f] s=.rt (zW e) C))
 | [],t,c,s,v4,f,_,L,hw,_,_=>⟨s,hw,Wf.refl s,.inl ⟨t,v4,f,rfl,rfl,L,by simp⟩⟩
 | q::ps,t,c,s,v4,f,hr,L,hw,E,hz=>by
  obtain⟨s1,e1,G,m,g1⟩:=hr q qa s c L hw;have v:=Xy (ans:=ans) (st:=st) n q.1 q.2 c;rw[yA];rw[zx] at hz;cases hq:ev ans st n q.1 q.2 c with
  | mk o c1 =>
   rw[hq] at e1 G g1 v;have w:∀ x y:D,atI [x,y] 0=some x:=λ_ _=>rfl;have H:∀ x y:D,atI [x,y] 1=some y:=λ_ _=>rfl;have N:∀ k:SM,zH (zQ 5 (zK r (zB (eOp zI (zA 4) (eC (.int 0))) (zB (eOp zI (zA 4) (eC (.int 1))) (zB (zA 1) zC))))) k [some (.ref p),some (.ref wd),some (.bl early),some (.str t),some (prD q),f] s=k [some (.ref p),some (.ref wd),some (.bl early),some (.str t),some (prD q),some (zW (zv o))] s1:=λk=>by
    have Q:r [q.1.d,q.2,.ref wd] s=.ok (zW (zv o)) s1:=e1;simp[w,H,Q]
   have pg:zh [(p,O.lst xs)] s1=true:=by
    have:=m.2 p (List.getElem?_eq_some_iff.mp E).1 g h;simp[zh,this,E]
   cases o with
   | en e =>
    refine⟨s1,G,m,.inr ⟨e,rfl,?_⟩⟩;have U:=v e rfl;have ne:eqD (.str e.1) (.str [116,101,120,116]) s1=.ok false s1:=by
     have:¬ e.1=[116,101,120,116]:=U;simp[this]
    have A:ZC r [some (.ref p),some (.ref wd),some (.bl early),some (.str t),some (prD q),f] s=.rt (zW e) s1:=by
     unfold ZC;rw[N];simp[-eqD,zW,zv,w,ne]
    rw[jH,j9];show (match ZC r [some (.ref p),some (.ref wd),some (.bl early),some (.str t),some (prD q),f] s with | .nx σ s=>_ | .ct σ s=>_ | .bk σ s=>_ | r=>r)=_;rw[A]
   | tx x =>
    obtain⟨Y,hx⟩:=g1 x rfl;dsimp only;have I:t.length+x.length <= SZ:=by unfold SZ;lia
    have zt':(t++x).length <= SZ:=by rw[jk];exact I
    have z2:(2:Nat) <= SZ:=by decide
    have l:∀ s,eqD (.str [116,101,120,116]) (.str [116,101,120,116]) s=.ok true s:=λs=>by simp
    by_cases J:early=true/\900 < (t++x).length
    ·rw[if_pos J];refine⟨s1,G,m,.inr ⟨_,rfl,?_⟩⟩;have h9:(900:Int) < ((t++x).length:Int):=by lia
     rw[jk] at h9;have A:ZC r [some (.ref p),some (.ref wd),some (.bl early),some (.str t),some (prD q),f] s=.rt (zW (jn,qu)) s1:=by
      unfold ZC;rw[N];have B:t.length+x.length <= SZ:=I;simp[-eqD,zW,zv,w,H,l,J.1,B];have:(900:Int) < (t.length:Int)+(x.length:Int):=by lia
      simp[this,z2]
     rw[jH,j9];show (match ZC r [some (.ref p),some (.ref wd),some (.bl early),some (.str t),some (prD q),f] s with | .nx σ s=>_ | .ct σ s=>_ | .bk σ s=>_ | r=>r)=_;rw[A]
    ·rw[if_neg J];obtain⟨s2,w2,f2,alt⟩:=cb (early:=early) g h ps (t++x) c1 s1 (some (prD q)) (some (zW (qd,x))) (λq' h'=>hr q' (jh _ h')) Y G (by rw[m.2 p (List.getElem?_eq_some_iff.mp E).1 g h];exact E) (by rw[jk];lia);have A:ZC r [some (.ref p),some (.ref wd),some (.bl early),some (.str t),some (prD q),f] s=.nx [some (.ref p),some (.ref wd),some (.bl early),some (.str (t++x)),some (prD q),some (zW (qd,x))] s1:=by
      unfold ZC;rw[N];cases early with
      | false=>simp[-eqD,zW,zv,w,H,l,I]
      | true =>
       have:¬ (900:Int) < (t.length:Int)+(x.length:Int):=by
        have:¬ 900 < (t++x).length:=λz=>J ⟨rfl,z⟩;rw[jk] at this
        lia
       simp[-eqD,zW,zv,w,H,l,I,this]
     have st1:j9 [(p,.lst xs)] (qU (zw 4) (ZC r)) ((q::ps).map prD) [some (.ref p),some (.ref wd),some (.bl early),some (.str t),v4,f] s=j9 [(p,.lst xs)] (qU (zw 4) (ZC r)) (ps.map prD) [some (.ref p),some (.ref wd),some (.bl early),some (.str (t++x)),some (prD q),some (zW (qd,x))] s1:=by
      rw[jH,j9];show (match ZC r [some (.ref p),some (.ref wd),some (.bl early),some (.str t),some (prD q),f] s with | .nx σ s=>_ | .ct σ s=>_ | .bk σ s=>_ | r=>r)=_;rw[A];dsimp only;rw[if_pos pg]
     rw[st1];refine⟨s2,w2,m.trans f2,?_⟩;rcases alt with ⟨y,i,j,h1,h2,h3,h4⟩ | ⟨e,h1,h2⟩
     ·exact .inl ⟨y,i,j,h1,h2,h3,by rw[jk] at h4;rw[zx];lia⟩
     ·exact .inr ⟨e,h1,h2⟩
theorem Bl {p:Nat}{early:Bool} (l:p≠wd) (m:p≠u) {ps:List (Tr×D)} (z:∀ q∈ps,TC ans st wd a u r n q.1 q.2) (I:ps.length <= 5000) (A:I0 c) (hw:Wd ans st wd a u s (500 - (c.1:Int)) c.2) (o:s[p]? = some (.lst (ps.map prD))) :
  ∃ g,xr r [.ref p,.ref wd,.bl early] s=.ok (zW (zv (yA early (λq c=>ev ans st n q.1 q.2 c) ps [] c).1)) g/\Wd ans st wd a u g (500 - ((yA early (λq c=>ev ans st n q.1 q.2 c) ps [] c).2.1:Int)) (yA early (λq c=>ev ans st n q.1 q.2 c) ps [] c).2.2/\Wf wd u s g/\∀ x,(yA early (λq c=>ev ans st n q.1 q.2 c) ps [] c).1=.tx x->I0 (yA early (λq c=>ev ans st n q.1 q.2 c) ps [] c).2/\x.length <= 900 * ps.length:=by
 have B:(2:Nat) <= SZ:=by decide
 obtain⟨g,C,E,h⟩:=cb (r:=r) (n:=n) (p:=p) (early:=early) (xs:=ps.map prD) l m ps [] c s none none z A hw o (by simp;lia);have G:zh [(p,O.lst (ps.map prD))] s=true:=by simp[zh,o]
 generalize yA early (λq c=>ev ans st n q.1 q.2 c) ps [] c=J at *;have t:∀ σ,(j9 [(p,.lst (ps.map prD))] (qU (zw 4) (ZC r)) (ps.map prD) [some (.ref p),some (.ref wd),some (.bl early),some (.str []),none,none] s)=σ->xr r [.ref p,.ref wd,.bl early] s=(σ.then (zX (ze (zB (eC (.str [116,101,120,116])) (zB (zA 3) zC))))).out:=λσ e=>by
  rw[<- e];show (Xo r [some (.ref p),some (.ref wd),some (.bl early),none,none,none] s).out=_;unfold Xo;simp only[zH,zQ,eC,R.stm_ok,qw,qx,RS.then_nx,qs,iE,itD,zA,jJ,R.bind_ok,o,G,if_true]
 refine⟨g,?_,C,E,?_⟩
 ·rcases h with ⟨x,v4,H,f,i,v,w⟩ | ⟨e,f,i⟩
  ·rw[t _ i,f];simp[B,zW,zv,RS.out]
  ·rw[t _ i,f];rfl
 ·intro x j;rcases h with ⟨y,v4,H,f,i,v,w⟩ | ⟨e,f,i⟩
  ·rw[f] at j;cases j;exact⟨v,by simpa using w⟩
  ·rw[f] at j;cases j
end
noncomputable def uB:SM :=
  (zX (yC 1 (iE (eM .str J3 (eM .str K1 (zA 0) (zB (eC (.str [10])) (zB (eC (.str [32])) zC))) (zB (eC (.str [32])) zC))) (zw 1) (zN cNe (zA 1) (eC (.str []))) (zA 1)))
noncomputable def C8:F:=fn 1 uB
noncomputable def Z3:F
 | [.str x],s=>if x.length <= 100000 then alloc (.lst ((zb x).map .str)) s else .no
 | _,_=>.no
theorem ET:jI 1 C8 Z3:=jI.new λds S i c n=>by
 match ds,i with
 | [.str x],_ =>
  by_cases f:x.length <= 100000
  ·have j:2 * x.length+1 <= SZ:=by unfold SZ;lia
   have l:x.length+2 <= SZ:=by unfold SZ;lia
   have hs:=VY 32 (jy x);have m:(jy x).length=x.length:=by simp[jy]
   have e:jt 1 (iE (eM .str J3 (eM .str K1 (zA 0) (zB (eC (.str [10])) (zB (eC (.str [32])) zC))) (zB (eC (.str [32])) zC))) (zw 1) (zN cNe (zA 1) (eC (.str []))) (zA 1) [some (.str x)] S=.ok ((zb x).map .str) (S++[.lst ((jE 32 (jy x)).map .str)]) :=
    CJ (ts:=jE 32 (jy x)) (g:=[(S.length,.lst ((jE 32 (jy x)).map .str))]) (λw=>decide (w≠[])) (by simp[j,l];rfl) (by unfold SZ;lia) (by simp[zh]) λw _=>by by_cases h:w=[]<;>simp[h]
   refine .inr ⟨.lst ((zb x).map .str),S.length+1,[.lst ((jE 32 (jy x)).map .str),.lst ((zb x).map .str)],by simp[Z3,f],by simp[C8,uB,e],by simp,by lia,Ym _ _⟩
  ·exact .inl (by simp[Z3,f])
 | [.non],_=>exact .inl rfl
 | [.bl _],_=>exact .inl rfl
 | [.int _],_=>exact .inl rfl
 | [.ty _],_=>exact .inl rfl
 | [.ref _],_=>exact .inl rfl
 | [.tup _],_=>exact .inl rfl
 | [.ro _],_=>exact .inl rfl
noncomputable def KQ:SM :=
  (zQ 2 (zK Z3 (zB (zA 1) zC)))
noncomputable def JW:SM :=
  (sIf (zN cEq (zA 0) (eC (.str [98,97,99,107])))
  (zX (eUn Yp (zA 1)))
  zq)
noncomputable def Jz:SM :=
  (sIf (zN cEq (zA 0) (eC (.str [102,105,114,115,116])))
  (zX (eM .str ZI (eC (.str [])) (zB (eSl (zA 2) qb (jr (eC (.int 1)))) zC)))
  zq)
noncomputable def XE:SM :=
  (sIf (zN cEq (zA 0) (eC (.str [114,101,115,116])))
  (zX (eM .str ZI (eC (.str [32])) (zB (eSl (zA 2) (jr (eC (.int 1))) qb) zC)))
  zq)
noncomputable def Kl:SM :=
  (sIf (zN cEq (zA 0) (eC (.str [99,111,117,110,116])))
  (zX (zK YU (zB (zK jX (zB (zA 2) zC)) zC)))
  zq)
noncomputable def Vc:SM :=
  (zX (eM .str ZI (eC (.str [32])) (zB (zK uF (zB (zA 2) zC)) zC)))
noncomputable def wc:SM:=(zH KQ (zH JW (zH Jz (zH XE (zH Kl Vc)))))
noncomputable def Cn:F:=fn 3 wc
noncomputable def XM:F:=chS Cn
theorem gC:jI 2 Cn XM:=yk _
theorem i6 (ws:List T):qW [] (ws.take 1)=qW [32] (ws.take 1):=by
 cases ws with
 | nil=>rfl
 | cons w ws=>rfl
theorem Ig {t:T} (hw:W5 w) (h:t.length <= 900) (S:M.S):XM [.str w,.str t] S=.ok (.str (yE w t)) S:=by
 have j:t.length <= 2000:=by lia
 have c:=Ja j;have l:t.length <= SZ:=by unfold SZ;lia
 have m:Z3 [.str t] S=.ok (.ref S.length) (S++[.lst ((zb t).map .str)]):=by
  show (if t.length <= 100000 then alloc _ S else .no)=_;rw[if_pos (by lia)];rfl
 have x:(S++[O.lst ((zb t).map .str)])[S.length]? = some (.lst ((zb t).map .str)):=by simp
 have c1:cut ((zb t).map D.str) none (some 1)=((zb t).take 1).map D.str:=by rw[Yr _ (by decide)];simp
 have n:cut ((zb t).map D.str) (some 1) none=((zb t).drop 1).map D.str:=by rw[xm _ (by decide)];simp
 have i:=λs=>XQ [] (by simp) ((zb t).take 1) (by rw[ZG];lia) (λp f=>jM (c.2 p (w6 f)) (by lia)) s;have o:=λs=>XQ [32] (by simp) ((zb t).drop 1) (by rw[QW];lia) (λp f=>jM (c.2 p (Vz f)) (by lia)) s;rw[i6] at i;have q:∀ r,(KQ [some (.str w),some (.str t),none] S).then r=r [some (.str w),some (.str t),some (.ref S.length)] (S++[.lst ((zb t).map .str)]):=λr=>by
  simp only[KQ,zQ,zK,zB,zC,zA,jJ,jW,R.bind_ok,m,R.stm_ok,qw,qx,RS.then_nx]
 have fin:∀ g,(zH JW (zH Jz (zH XE (zH Kl Vc))) [some (.str w),some (.str t),some (.ref S.length)] (S++[.lst ((zb t).map .str)])).out=.ok (.str (yE w t)) (S++g)->XM [.str w,.str t] S=.ok (.str (yE w t)) S:=λg e=>by
  refine yq (g:=g) ?_ rfl;show ((KQ [some (.str w),some (.str t),none] S).then _).out=_;rw[q];exact e
 unfold yE at *;rcases hw with rfl | rfl | rfl | rfl | rfl
 ·exact fin [.lst ((zb t).map .str)] (by simp[JW,l,RS.out])
 ·exact fin [.lst ((zb t).map .str),.lst (((zb t).take 1).map .str)] (by simp[-EL,JW,Jz,c1,i,RS.out])
 ·exact fin [.lst ((zb t).map .str),.lst (((zb t).drop 1).map .str)] (by simp[-F0,-cM,JW,Jz,XE,n,o,RS.out])
 ·have u:qK ((zb t).length:Int)=true:=by unfold qK;rw[decide_eq_true_iff];lia
  exact fin [.lst ((zb t).map .str)] (by simp[JW,Jz,XE,Kl,u,RS.out])
 ·have v:=λs=>XQ [32] (by simp) (qJ (zb t)) (by rw[(K4 (zb t)).length_eq];lia) (λp f=>jM (c.2 p ((K4 (zb t)).mem_iff.mp f)) (by lia)) s;exact fin [.lst ((zb t).map .str),.lst ((qJ (zb t)).map .str)] (by simp[JW,Jz,XE,Kl,Vc,V4,vm,show (zb t).length <= 16777216 by lia,v,RS.out])
noncomputable def Xm:SM :=
  (zH (zQ 1 (jT (zB (eC (.str [111,102])) (zB (eC (.str [105,102])) (zB (eC (.str [105,115])) (zB (eC (.str [116,104,101,110])) (zB (eC (.str [101,108,115,101])) (zB (eC (.str [101,97,99,104])) (zB (eC (.str [100,111])) (zB (eC (.str [105,116])) (zB (eC (.str [98,97,99,107])) (zB (eC (.str [102,105,114,115,116])) (zB (eC (.str [114,101,115,116])) (zB (eC (.str [99,111,117,110,116])) (zB (eC (.str [115,111,114,116,101,100])) zC)))))))))))))))
  (zH (sIf (tOr (zN cIn (zA 0) (eOp zc (zA 1) (jT (zB (eC (.str [102,97,105,108])) (zB (eC (.str [108,105,110,101])) (zB (eC (.str [109,111,114,101])) zC)))))) (QL (JR cLe cLe (eC (.int 1)) (zK jX (zB (zA 0) zC)) (eC (.int 8)))))
  (zX (eC (.bl false)))
  zq)
  (zX (Jc JF 1 (iE (zA 0)) (zw 2) jU (yt cIn (zA 2) (eC (.str [97,98,99,100,101,102,103,104,105,106,107,108,109,110,111,112,113,114,115,116,117,118,119,120,121,122])))))))
noncomputable def bV:F:=fn 2 Xm
noncomputable def J9:F:=chS bV
theorem Mj:jI 1 bV J9:=yk _
theorem cz (c:Nat):∀ x:T,QV [c] x=x.contains c
 | []=>rfl
 | d::r=>by
  unfold QV;rw[cz c r,GP];simp[List.isPrefixOf]
theorem Yt (a b:Nat):(([a]:List Nat) < [b])↔a < b:=by
 rw[List.cons_lt_cons_iff];simp
theorem GQ (c:Nat):abc.contains c=Qe [c]:=by
 unfold Qe;by_cases i:97 <= c
 ·by_cases j:c <= 122
  ·have:∀ n,n < 26->abc.contains (97+n)=true:=by decide
   have e:=this (c - 97) (by lia);rw[show 97+(c - 97)=c by lia] at e;rw[e];have f:¬ ([c]:T) < [97]:=by intro h;have:=(Yt _ _).mp h;lia
   have g:¬ ([122]:T) < [c]:=by intro h;have:=(Yt _ _).mp h;lia
   simp[f,g]
  ·have e:abc.contains c=false:=by
    cases q:abc.contains c with
    | false=>rfl
    | true =>
     have:∀ d∈abc,d <= 122:=by decide
     have:=this c (by simpa using q)
     lia
   have g:([122]:T) < [c]:=(Yt _ _).mpr (by lia);rw[e];simp[g]
 ·have e:abc.contains c=false:=by
   cases q:abc.contains c with
   | false=>rfl
   | true =>
    have:∀ d∈abc,97 <= d:=by decide
    have:=this c (by simpa using q)
    lia
  have f:([c]:T) < [97]:=(Yt _ _).mpr (by lia);rw[e];simp[f]
theorem Wg (x:T) (E:x.length <= 1000) (S:M.S):J9 [.str x] S=.ok (.bl (yg x)) S:=by
 have j:(13:Nat) <= SZ:=by decide
 have y:(3:Nat) <= SZ:=by decide
 have l:(16:Nat) <= SZ:=by decide
 have m:x.length <= SZ:=by unfold SZ;lia
 have z:∀ (s:M.S) (v:Option D),jt 1 (iE (zA 0)) (zw 2) jU (yt cIn (zA 2) (eC (.str abc))) [some (.str x),v] s=.ok (x.map λc=>.bl (Qe [c])) s:=λs v =>
  dI _ (by simp[m]) m λc _=>by
   have:=GQ c;simp only[qV,zw,jU,yt,zA,eC,cIn,inD];simp;rw[cz,this]
 have e:=λs=>all_map (λc=>Qe [c]) x s;have n:∀ s:M.S,inD (.str x) (.ref s.length) (s++[.lst (jP.map .str)])=.ok (jP.contains x) (s++[.lst (jP.map .str)]):=λs=>by
  simp only[inD,iX];rw[if_pos (by rw[aF];rfl),Yl]
 have A:∀ r,(zH (zQ 1 (jT (zB (eC (.str [111,102])) (zB (eC (.str [105,102])) (zB (eC (.str [105,115])) (zB (eC (.str [116,104,101,110])) (zB (eC (.str [101,108,115,101])) (zB (eC (.str [101,97,99,104])) (zB (eC (.str [100,111])) (zB (eC (.str [105,116])) (zB (eC (.str [98,97,99,107])) (zB (eC (.str [102,105,114,115,116])) (zB (eC (.str [114,101,115,116])) (zB (eC (.str [99,111,117,110,116])) (zB (eC (.str [115,111,114,116,101,100])) zC))))))))))))))) r) [some (.str x),none] S=r [some (.str x),some (.ref S.length)] (S++[.lst ((jP.take 13).map .str)]):=λr=>by
  simp[j,jP]
 have t:eOp zc (zA 1) (jT (zB (eC (.str [102,97,105,108])) (zB (eC (.str [108,105,110,101])) (zB (eC (.str [109,111,114,101])) zC)))) [some (.str x),some (.ref S.length)] (S++[.lst ((jP.take 13).map .str)])=.ok (.ref (S.length+2)) (S++[.lst ((jP.take 13).map .str),.lst ((jP.drop 13).map .str)]++[.lst (jP.map .str)]):=by
  simp[y,l,jP]
 generalize u:S++[O.lst ((jP.take 13).map .str),.lst ((jP.drop 13).map .str)]=i at *;have o:i.length=S.length+2:=by rw[<- u];simp
 rw[<- o] at t;have f:=n i;refine yq (g:=[.lst ((jP.take 13).map .str),.lst ((jP.drop 13).map .str),.lst (jP.map .str)]) ?_ rfl;have B:S++[O.lst ((jP.take 13).map .str),.lst ((jP.drop 13).map .str),.lst (jP.map .str)]=i++[.lst (jP.map .str)]:=by rw[<- u];simp
 rw[B];show (Xm [some (.str x),none] S).out=_;unfold Xm;rw[A];unfold yg;simp only[zH,sIf,tOr,zN,zA,jJ,R.bind_ok,t,cIn,f,QL,JR,eC,zK,zB,zC,jX,m,if_true,cLe];by_cases a:jP.contains x=true
 ·rw[a];simp
 ·have C:jP.contains x=false:=(Bool.not_eq_true _).mp a;rw[C];by_cases p:1 <= x.length
  ·by_cases w:x.length <= 8
   ·have h:(1:Int) <= (x.length:Int):=by lia
    have q:(x.length:Int) <= 8:=by lia
    have:=z (i++[.lst (jP.map .str)]) (some (.ref S.length));unfold abc at this;simp[h,q,p,w,this,e]
   ·have h:(1:Int) <= (x.length:Int):=by lia
    have q:¬ (x.length:Int) <= 8:=by lia
    simp[h,q,p,w]
  ·have h:¬ (1:Int) <= (x.length:Int):=by lia
   simp[h,p]
noncomputable def x5:SM :=
  (zH (zQ 1 (eM .str Ux (zA 0) (zB (eC (.str [46])) zC)))
  (zH (sIf (zN cLt (zA 1) (eC (.int 0)))
  (zX (zK J9 (zB (zA 0) zC)))
  zq)
  (zX (JQ (zK J9 (zB (eSl (zA 0) qb (jr (zA 1))) zC)) (zK J9 (zB (eSl (zA 0) (jr (eOp zc (zA 1) (eC (.int 1)))) qb) zC))))))
noncomputable def KW:F:=fn 2 x5
noncomputable def KS:F:=chS KW
theorem Ii:jI 1 KW KS:=yk _
noncomputable def VM (x:T):Bool:=match x.findIdx? (· == 46) with
 | none=>yg x
 | some i=>yg (x.take i) && yg (x.drop (i+1))
theorem hD (x:T) (n:x.length <= 900) (S:M.S):KS [.str x] S=.ok (.bl (VM x)) S:=by
 have h:x.length <= SZ:=by unfold SZ;lia
 refine yq (g:=[]) ?_ rfl;rw[yZ];unfold VM;cases q:x.findIdx? (· == 46) with
 | none =>
  have c:xo 46 x 0 = -1:=by unfold xo;rw[J0,q]
  have:=Wg x (by lia) S;simp[KW,x5,h,c,this]
 | some i =>
  have c:xo 46 x 0=(i:Int):=by unfold xo;rw[J0,q];simp
  have c1:cut x none (some (i:Int))=x.take i:=by rw[Yr _ (by lia)];simp
  have j:cut x (some ((i:Int)+1)) none=x.drop (i+1):=by rw[xm _ (by lia)];congr 1
  have e:=Wg (x.take i) (by rw[ZG];lia) S;have l:=Wg (x.drop (i+1)) (by rw[QW];lia) S;have m:¬ ((i:Int) < 0):=by lia
  cases f:yg (x.take i) with
  | true =>
   rw[f] at e;simp[KW,x5,h,c,c1,j,e,l,m,f]
  | false =>
   rw[f] at e;simp[KW,x5,h,c,c1,j,e,l,m,f]
theorem Yq (c:Nat):∀ x:T,jE c x=match x.findIdx? (· == c) with | none=>[x] | some i=>x.take i::jE c (x.drop (i+1))
 | []=>rfl
 | d::r=>by
  have f:=Yq c r;have e:jE c (d::r)=(if d=c then []::jE c r else match jE c r with | []=>[[d]] | p::ps=>(d::p)::ps):=rfl;rw[e,List.findIdx?_cons];by_cases h:d=c
  ·subst h;simp
  ·have g:(d == c)=false:=by simpa using h
   rw[if_neg h,g];cases q:r.findIdx? (· == c) with
   | none =>
    rw[q] at f;dsimp only at f;rw[f];simp
   | some i =>
    rw[q] at f;dsimp only at f;rw[f];simp
theorem Lk {x:T} (h:46∈x):yg x=false:=by
 unfold yg;have:(x.all λc=>Qe [c])=false:=by
  rw[List.all_eq_false];exact⟨46,h,by decide⟩
 rw[this];simp
theorem LP (x:T):VM x=y7 x:=by
 unfold VM y7;have hs:=Yq 46 x;cases q:x.findIdx? (· == 46) with
 | none =>
  rw[q] at hs;dsimp only at hs ⊢;rw[hs];simp
 | some i =>
  rw[q] at hs;dsimp only at hs ⊢;have c:=Yq 46 (x.drop (i+1));cases f:(x.drop (i+1)).findIdx? (· == 46) with
  | none =>
   rw[f] at c;dsimp only at c;rw[c] at hs;rw[hs];simp
  | some j =>
   rw[f] at c;dsimp only at c;have hm:46∈x.drop (i+1):=by
    obtain⟨g,h,_⟩:=List.findIdx?_eq_some_iff_getElem.mp f;have:=eq_of_beq h;rw[<- this];exact dq _
   rw[Lk hm];have g:∀ y:T,1 <= (jE 46 y).length:=λy=>by
    rw[Yq];split<;>simp
   have:=g ((x.drop (i+1)).drop (j+1));have e:¬ (jE 46 x).length <= 2:=by
    rw[hs,c];simp only[zx]
    lia
   rw[decide_eq_false e];simp
noncomputable def xF (c:F):SM :=
  (sIf (zN cEq (eOp zI (zA 0) (eC (.int 0))) (eC (.str [101,97,99,104])))
  (zX (zK (xr c) (zB (yC 1 (iE (zK Z3 (zB (zA 1) zC))) (zw 5) jU (ze (zB (eOp zI (zA 0) (eC (.int 2))) (zB (zA 5) zC)))) (zB (zA 3) (zB (eC (.bl true)) zC)))))
  zq)
noncomputable def xh (c:F):SM :=
  (sIf (zN cEq (eOp zI (zA 0) (eC (.int 0))) (eC (.str [105,102])))
  (zH (zQ 4 (zK c (zB (eOp zI (zA 0) (eC (.int 2))) (zB (zA 2) (zB (zA 3) zC)))))
  (zH (sIf (zN cNe (eOp zI (zA 4) (eC (.int 0))) (eC (.str [116,101,120,116])))
  (zX (zA 4))
  zq)
  (zX (zK c (zB (eOp zI (zA 0) (eOp zc (eC (.int 3)) (zK vB (zB (yt cNe (eOp zI (zA 4) (eC (.int 1))) (zA 1)) zC)))) (zB (zA 2) (zB (zA 3) zC)))))))
  zq)
noncomputable def xN (c:F):SM :=
  (sIf (zN cEq (eOp zI (zA 0) (eC (.int 0))) (eC (.str [102,97,105,108])))
  (zX (ze (zB (eC (.str [102,97,105,108,115])) (zB (zA 1) zC))))
  zq)
noncomputable def Xk (c:F):SM :=
  (sIf (qr (zN cEq (eOp zI (zA 0) (eC (.int 0))) (eC (.str [111,102]))) (QL (Zi (zK KS (zB (zA 1) zC)))))
  (zX (ze (zB (eC (.str [102,97,105,108,115])) (zB (eC (.str [110,111,32,110,97,109,101])) zC))))
  zq)
noncomputable def KZ (c:F):SM :=
  (sIf (zN cEq (eOp zI (zA 0) (eC (.int 0))) (eC (.str [111,102])))
  (zX (zK kn (zB (zA 1) (zB (zA 3) zC))))
  zq)
noncomputable def Yu (c:F):SM :=
  (zX (ze (zB (eC (.str [116,101,120,116])) (zB (zK XM (zB (eOp zI (zA 0) (eC (.int 0))) (zB (zA 1) zC))) zC))))
noncomputable def Qo (c:F):SM:=(zH (xF c) (zH (xh c) (zH (xN c) (zH (Xk c) (zH (KZ c) (Yu c))))))
noncomputable def Km (c:F):F:=fn 5 (Qo c)
noncomputable abbrev vU (r:F):F:=Km r
noncomputable def Zn (ans:List (T×T)) (st:D) (n:Nat) (t:Tr) (x:T) (i:D) (c:Ct):Out×Ct:=match t with
 | .each _ b=>evw (λw c=>ev ans st n b (.str w) c) (zb x) [] c
 | .ife _ b p q=>andO (ev ans st n b i c) λy c=>ev ans st n (if x=y then p else q) i c
 | .one w _=>if w=JS then (.en (jn,x),c) else if w=tOf then (if y7 x=true then qB ans x c else (.en (jn,tNo),c)) else (.tx (yE w x),c)
 | _=>(.tx [],c)
theorem fj {w:T} (h:w∈zb x):w.length <= x.length:=by
 have c:(jy x).length=x.length:=by simp[jy]
 have:=Ve 32 (jy x) w (List.mem_filter.mp h).1
 lia
theorem d3:∀ {ans:List (T×T)}{n v:T},qc ans n=some v->∃ q∈ans,q.2=v
 | [],n,v,h=>by cases h
 | (k,w)::ans,n,v,h=>by
  unfold qc at h;rw[ZA] at h;cases q:n == k with
  | true=>rw[q] at h;cases h;exact⟨_,qa,rfl⟩
  | false =>
   rw[q] at h;obtain⟨r,c,e⟩:=d3 (ans:=ans) h;exact⟨r,jh _ c,e⟩
noncomputable def Tr.deep:Tr->Prop
 | .ife _ _ _ _=>True
 | .each _ _=>True
 | .one _ _=>True
 | _=>False
section
variable {ans:List (T×T)}{st:D}{wd a u:Nat}
def Bz (ans:List (T×T)) (st:D) (wd a u:Nat) (r:F) (n:Nat):Prop:=∀ (t:Tr) (b:Bool) (i:D),jV st n b t->(b=true->∃ x,i=.str x/\x.length <= 900)->TC ans st wd a u r n t i
theorem LW (hv:∀ q∈ans,q.2.length <= 900) (H:Bz ans st wd a u r n) {t:Tr} (hd:t.deep) {b:Bool}{i:D} (U:jV st (n+1) b t) (hi:b=true->∃ x,i=.str x/\x.length <= 900) {x:T} (hx:x.length <= 900) (C:I0 c) (hc1:c.2.length+1 <= c.1) (hw:Wd ans st wd a u s (500 - (c.1:Int)) c.2) :
  ∃ h,vU r [t.d,.str x,i,.ref wd] s=.ok (zW (zv (Zn ans st n t x i c).1)) h/\Wd ans st wd a u h (500 - ((Zn ans st n t x i c).2.1:Int)) (Zn ans st n t x i c).2.2/\Wf wd u s h/\∀ y,(Zn ans st n t x i c).1=.tx y->I0 (Zn ans st n t x i c).2/\y.length <= 3000000:=by
 have z2:(2:Nat) <= SZ:=by decide
 have lw:wd < s.length:=(List.getElem?_eq_some_iff.mp hw.ew).1;have lu:u < s.length:=(List.getElem?_eq_some_iff.mp hw.eu).1;cases t with
 | each f g =>
  have hb:=Ja (t:=x) (by lia);obtain⟨s1,l⟩:∃ s1:M.S,s1=s++[.lst ((zb x).map .str)]:=⟨_,rfl⟩
  obtain⟨E,B⟩:∃ E:M.S,E=s1++[.lst (((zb x).map λw=>(g,D.str w)).map prD)]:=⟨_,rfl⟩
  have w2:Wd ans st wd a u E (500 - (c.1:Int)) c.2:=by rw[B,l];exact (hw.app _).app _
  have f2:Wf wd u s E:=by rw[B,l];exact (Wf.app _ _).trans (Wf.app _ _)
  have l1:s1.length=s.length+1:=by rw[l];simp
  have G:Z3 [.str x] s=.ok (.ref s.length) s1:=by
   show (if x.length <= 100000 then alloc _ s else .no)=_;rw[if_pos (by lia),l];rfl
  have hp:E[s1.length]? = some (.lst (((zb x).map λw=>(g,D.str w)).map prD)):=by rw[B];simp
  obtain⟨h,e,w',f',k'⟩:=Bl (r:=r) (n:=n) (p:=s1.length) (early:=true) (by lia) (by lia) (ps:=(zb x).map λw=>(g,D.str w)) (λq G=>by
   obtain⟨w,hm,rfl⟩:=List.mem_map.mp G;exact H g true (.str w) U.2 λ_=>⟨w,rfl,jM (fj hm) hx⟩) (by rw[jS];lia) C w2 hp
  rw[wW (f:=λa i c=>ev ans st n a i c)] at e w' k';refine⟨h,?_,w',f2.trans f',λy j=>?_⟩
  ·show (Qo r [some (.tup [.str [101,97,99,104],f.d,g.d]),some (.str x),some i,some (.ref wd),none] s).out=R.ok (zW (zv (evw (λw c=>ev ans st n g (.str w) c) (zb x) [] c).1)) h;generalize zW (zv (evw (λw c=>ev ans st n g (.str w) c) (zb x) [] c).1)=R0 at *;have A:∀ s,zI (.tup [.str [101,97,99,104],f.d,g.d]) (.int 0) s=.ok (.str [101,97,99,104]) s:=λ_=>rfl;have i2:∀ s,zI (.tup [.str [101,97,99,104],f.d,g.d]) (.int 2) s=.ok g.d s:=λ_=>rfl;have hgd:zh [(s.length,O.lst ((zb x).map .str))] s1=true:=by rw[l];simp[zh]
   have hs:s1[s.length]? = some (.lst ((zb x).map .str)):=by rw[l];simp
   have Y:jt 1 (iE (zK Z3 (zB (zA 1) zC))) (zw 5) jU (ze (zB (eOp zI (zA 0) (eC (.int 2))) (zB (zA 5) zC))) [some (.tup [.str [101,97,99,104],f.d,g.d]),some (.str x),some i,some (.ref wd),none] s=.ok (((zb x).map λw=>(g,D.str w)).map prD) s1:=by
    have:=Dp (n:=1) (it:=iE (zK Z3 (zB (zA 1) zC))) (tg:=zw 5) (e:=ze (zB (eOp zI (zA 0) (eC (.int 2))) (zB (zA 5) zC))) (σ:=[some (.tup [.str [101,97,99,104],f.d,g.d]),some (.str x),some i,some (.ref wd),none]) (s:=s) (s1:=s1) (xs:=(zb x).map .str) (g:=[(s.length,O.lst ((zb x).map .str))]) (λd=>.tup [g.d,d]) (by simp only[iE,zK,zB,zC,zA,jJ,jW,R.bind_ok,G,itD,hs]) (by rw[jS];unfold SZ;lia) hgd λd _=>by simp[-zI,i2,z2]
    rw[this,ZR,ZR];rfl
   unfold Qo xF;have I:∀ s,eqD (.str [101,97,99,104]) (.str [101,97,99,104]) s=.ok true s:=λs=>by simp
   simp only[zH,sIf,zN,eOp,zA,eC,jJ,jW,R.bind_ok,A,cEq,I,R.stm_ok,if_true,zX,zK,zB,zC,yC,Y,alloc,<- B,e,RS.then,RS.out]
  ·obtain⟨Q,h2⟩:=k' y j;refine⟨Q,?_⟩;rw[jS] at h2
   lia
 | ife f g p q =>
  obtain⟨s1,e1,w1,f1,k1⟩:=H g b i U.2.1 hi s c C hw;have hen:=Xy (ans:=ans) (st:=st) n g i c;show ∃ h,(Qo r [some (.tup [.str [105,102],f.d,g.d,p.d,q.d]),some (.str x),some i,some (.ref wd),none] s).out=R.ok (zW (zv (andO (ev ans st n g i c) λy c=>ev ans st n (if x=y then p else q) i c).1)) h/\Wd ans st wd a u h (500 - ((andO (ev ans st n g i c) λy c=>ev ans st n (if x=y then p else q) i c).2.1:Int)) (andO (ev ans st n g i c) λy c=>ev ans st n (if x=y then p else q) i c).2.2/\Wf wd u s h/\∀ z,(andO (ev ans st n g i c) λy c=>ev ans st n (if x=y then p else q) i c).1=.tx z->I0 (andO (ev ans st n g i c) λy c=>ev ans st n (if x=y then p else q) i c).2/\z.length <= 3000000;have A:∀ s,zI (.tup [.str [105,102],f.d,g.d,p.d,q.d]) (.int 0) s=.ok (.str [105,102]) s:=λ_=>rfl;have i2:∀ s,zI (.tup [.str [105,102],f.d,g.d,p.d,q.d]) (.int 2) s=.ok g.d s:=λ_=>rfl;have i3:∀ s,zI (.tup [.str [105,102],f.d,g.d,p.d,q.d]) (.int 3) s=.ok p.d s:=λ_=>rfl;have i4:∀ s,zI (.tup [.str [105,102],f.d,g.d,p.d,q.d]) (.int 4) s=.ok q.d s:=λ_=>rfl;have n1:∀ s,eqD (.str [105,102]) (.str [101,97,99,104]) s=.ok false s:=λs=>by simp
  have n2:∀ s,eqD (.str [105,102]) (.str [105,102]) s=.ok true s:=λs=>by simp
  have j0:∀ (r:T×T) s,zI (zW r) (.int 0) s=.ok (.str r.1) s:=λ_ _=>rfl;have j1:∀ (r:T×T) s,zI (zW r) (.int 1) s=.ok (.str r.2) s:=λ_ _=>rfl;cases G:ev ans st n g i c with
  | mk o c1 =>
   rw[G] at e1 w1 k1 hen;have b0:∀ k,zH (xF r) k [some (.tup [.str [105,102],f.d,g.d,p.d,q.d]),some (.str x),some i,some (.ref wd),none] s=k [some (.tup [.str [105,102],f.d,g.d,p.d,q.d]),some (.str x),some i,some (.ref wd),none] s:=λk=>by
    simp only[xF,zH,sIf,zN,eOp,zA,eC,jJ,jW,R.bind_ok,A,cEq,n1,R.stm_ok,jv,if_false,zq,RS.then_nx]
   unfold Qo;rw[b0];cases o with
   | en e =>
    have hne:¬ e.1=[116,101,120,116]:=hen e rfl;have ne:eqD (.str e.1) (.str [116,101,120,116]) s1=.ok false s1:=by simp[hne]
    refine⟨s1,?_,w1,f1,λz hz=>by cases hz⟩;show _=R.ok (zW e) s1;have J:r [g.d,i,.ref wd] s=.ok (zW e) s1:=e1;simp only[xh,zH,sIf,zN,eOp,zA,eC,jJ,jW,R.bind_ok,A,i2,cEq,n2,R.stm_ok,if_true,zQ,zK,zB,zC,J,qw,qx,RS.then_nx,j0,cNe,ne,uk,zX,RS.then,RS.out]
   | tx y =>
    obtain⟨hc1',j⟩:=k1 y rfl;have J:r [g.d,i,.ref wd] s=.ok (zW (qd,y)) s1:=e1;have I:eqD (.str qd) (.str [116,101,120,116]) s1=.ok true s1:=by simp
    have step:∀ (t':Tr) (k:Int),(if x=y then p else q)=t'->zI (.tup [.str [105,102],f.d,g.d,p.d,q.d]) (.int (3+k)) s1=.ok t'.d s1->(if (!decide (y=x))=true then (1:Int) else 0)=k->jV st n b t'->∃ h,(zH (xh r) (zH (xN r) (zH (Xk r) (zH (KZ r) (Yu r)))) [some (.tup [.str [105,102],f.d,g.d,p.d,q.d]),some (.str x),some i,some (.ref wd),none] s).out=R.ok (zW (zv (ev ans st n t' i c1).1)) h/\Wd ans st wd a u h (500 - ((ev ans st n t' i c1).2.1:Int)) (ev ans st n t' i c1).2.2/\Wf wd u s h/\∀ z,(ev ans st n t' i c1).1=.tx z->I0 (ev ans st n t' i c1).2/\z.length <= 3000000:=λt' k ht hix hk hgt=>by
     obtain⟨E,e2,w2,f2,k2⟩:=H t' b i hgt hi s1 c1 hc1' w1;refine⟨E,?_,w2,f1.trans f2,λz hz=>⟨(k2 z hz).1,jM (k2 z hz).2 (by decide)⟩⟩;have eqy:eqD (.str y) (.str x) s1=.ok (decide (y=x)) s1:=by simp
     simp only[xh,zH,sIf,zN,eOp,zA,eC,jJ,jW,R.bind_ok,A,i2,cEq,n2,R.stm_ok,if_true,zQ,zK,zB,zC,J,qw,qx,RS.then_nx,j0,j1,cNe,I,xA,jv,if_false,zq,zX,yt,eqy,vB,zc,hk,hix,e2,RS.then,RS.out]
    by_cases m:x=y
    ·have L:y=x:=m.symm;have:=step p 0 (by rw[if_pos m]) (i3 s1) (by simp[L]) U.2.2.1;simpa [andO,m] using this
    ·have L:¬ y=x:=λz=>m z.symm;have:=step q 1 (by rw[if_neg m]) (i4 s1) (by simp[L]) U.2.2.2;simpa [andO,m] using this
 | one w f =>
  obtain⟨hw7,hgf⟩:=U;have A:∀ s,zI (.tup [.str w,f.d]) (.int 0) s=.ok (.str w) s:=λ_=>rfl;have q1:∀ (v:T) s,eqD (.str w) (.str v) s=.ok (decide (w=v)) s:=λv s=>by simp
  show ∃ h,(Qo r [some (.tup [.str w,f.d]),some (.str x),some i,some (.ref wd),none] s).out=_/\_;have hwE:¬ w=[101,97,99,104] /\ ¬ w=[105,102]:=by
   rcases hw7 with rfl | rfl | rfl | rfl | rfl | rfl | rfl<;>decide
  have b0:∀ k,zH (xF r) (zH (xh r) k) [some (.tup [.str w,f.d]),some (.str x),some i,some (.ref wd),none] s=k [some (.tup [.str w,f.d]),some (.str x),some i,some (.ref wd),none] s:=λk=>by
   simp only[xF,xh,zH,sIf,zN,eOp,zA,eC,jJ,jW,R.bind_ok,A,cEq,q1,hwE.1,hwE.2,decide_false,R.stm_ok,jv,if_false,zq,RS.then_nx]
  unfold Qo;rw[b0];unfold Zn;dsimp only;rcases hw7 with rfl | rfl | h5
  ·
   rw[if_neg (by decide),if_pos rfl];have hn:=hD x hx s;rw[LP] at hn;cases hnm:y7 x with
   | false =>
    rw[hnm] at hn;refine⟨s,?_,hw,Wf.refl s,λy j=>by cases j⟩;simp[-zI,-eqD,xN,Xk,A,q1,hn,z2,zW,zv,RS.out]
   | true =>
    rw[hnm] at hn;obtain⟨h,e,w',f'⟩:=Uu hw (by have:=C.1;have:=C.2;lia) x c.1;rw[if_pos rfl];refine⟨h,?_,?_,f',λy j=>?_⟩
    ·have e':DK [.str x,.ref wd] s=.ok (zW (zv (qB ans x c).1)) h:=e;generalize zW (zv (qB ans x c).1)=R0 at e';simp[-zI,-eqD,xN,Xk,KZ,A,q1,hn,e',RS.out]
    ·have ec:(qB ans x c).2.1=c.1:=by unfold qB;split<;>rfl
     rw[ec];exact w'
    ·unfold qB at j ⊢;cases N:qc ans x with
     | none=>rw[N] at j;cases j
     | some v =>
      rw[N] at j;cases j;obtain⟨q,G,e2⟩:=d3 N;have h9:=hv q G;have:=cK c.2 x;have:=C.1;exact⟨⟨C.1,by dsimp only;lia⟩,by rw[<- e2];lia⟩
  ·
   rw[if_pos rfl];refine⟨s,?_,hw,Wf.refl s,λy j=>by cases j⟩;simp[-zI,-eqD,xN,A,q1,z2,zW,zv,RS.out]
  ·have Q:¬ w=JS /\ ¬ w=tOf:=by rcases h5 with rfl | rfl | rfl | rfl | rfl<;>decide
   have hm:=Ig h5 hx s;have hml:=A0 h5 (t:=x) (by lia);rw[if_neg Q.1,if_neg Q.2];refine⟨s,?_,hw,Wf.refl s,λy j=>?_⟩
   ·have e1:¬ w=[102,97,105,108]:=Q.1;have e2:¬ w=[111,102]:=Q.2;simp[-zI,-eqD,xN,Xk,KZ,Yu,A,q1,e1,e2,hm,z2,zW,zv,RS.out]
   ·cases j;exact⟨C,jM hml (by decide)⟩
 | _=>exact hd.elim
end
noncomputable def Y5 (c:F):SM :=
  (yu (zA 2) (eC (.str [108,101,102,116])) (eOp XB (eOp zI (zA 2) (eC (.str [108,101,102,116]))) (eC (.int 1))))
noncomputable def vY (c:F):SM :=
  (sIf (zN cLt (eOp zI (zA 2) (eC (.str [108,101,102,116]))) (eC (.int 0)))
  (zX (ze (zB (eC (.str [102,97,105,108,115])) (zB (eC (.str [116,111,111,32,109,117,99,104])) zC))))
  zq)
noncomputable def Q9 (c:F):SM :=
  (sIf (tOr (zN cEq (zK jX (zB (zA 0) zC)) (eC (.int 1))) (zN cIn (eOp zI (zA 0) (eC (.int 0))) (jT (zB (eC (.str [116,101,120,116])) (zB (eC (.str [116,104,105,110,103])) (zB (eC (.str [107,105,110])) zC))))))
  (zQ 3 (zK VN (zB (zA 0) (zB (zA 1) (zB (zA 2) zC)))))
  (sIf (zN cEq (eOp zI (zA 0) (eC (.int 0))) (eC (.str [106,111,105,110])))
  (zQ 3 (zK (xr c) (zB (yC 1 (iE (eSl (zA 0) (jr (eC (.int 1))) qb)) (zw 4) jU (ze (zB (zA 4) (zB (zA 1) zC)))) (zB (zA 2) (zB (eC (.bl false)) zC)))))
  (zH (zQ 3 (zK c (zB (eOp zI (zA 0) (eC (.int 1))) (zB (zA 1) (zB (zA 2) zC)))))
  (sIf (zN cEq (eOp zI (zA 3) (eC (.int 0))) (eC (.str [116,101,120,116])))
  (zQ 3 (zK (vU c) (zB (zA 0) (zB (eOp zI (zA 3) (eC (.int 1))) (zB (zA 1) (zB (zA 2) zC))))))
  zq))))
noncomputable def kJ (c:F):SM :=
  (sIf (qr (zN cEq (eOp zI (zA 3) (eC (.int 0))) (eC (.str [116,101,120,116]))) (zN cGt (zK jX (zB (eOp zI (zA 3) (eC (.int 1))) zC)) (eC (.int 900))))
  (zX (ze (zB (eC (.str [102,97,105,108,115])) (zB (eC (.str [116,111,111,32,108,111,110,103])) zC))))
  zq)
noncomputable def Xj (c:F):SM :=
  (zX (zA 3))
noncomputable def kj (c:F):SM:=(zH (Y5 c) (zH (vY c) (zH (Q9 c) (zH (kJ c) (Xj c)))))
noncomputable def VO (c:F):F:=fn 4 (kj c)
noncomputable def jj:Nat->F
 | 0=>λ_ _=>.no
 | n+1=>VO (jj n)
theorem iZ (ds:List D) (s:M.S):jj 0 ds s=.no:=rfl
noncomputable abbrev CI:F:=jj 20
theorem Wx {r:Out×Ct} (h:∀ x,r.1=.tx x->x.length <= 900):yM r=r:=by
 obtain⟨o,c⟩:=r;cases o with
 | en e=>rfl
 | tx x =>
  have:=h x rfl;show (if 900 < x.length then _ else _)=_;rw[if_neg (by lia)]
theorem H9 (r:Out×Ct):(yM r).2=r.2:=by
 obtain⟨o,c⟩:=r;cases o with
 | en e=>rfl
 | tx x =>
  show (if 900 < x.length then ((Out.en (jn,qu),c):Out×Ct) else (.tx x,c)).2=c;split<;>rfl
noncomputable def Tr.fst:Tr->Tr
 | .ife a _ _ _=>a
 | .each a _=>a
 | .one _ a=>a
 | t=>t
section
variable {ans:List (T×T)}{st:D}{wd a u:Nat}
theorem iz (m:∀ q∈ans,q.2.length <= 900) {n:Nat}{t:Tr} (hd:t.deep) {c:Ct} (j:¬ 500 <= c.1) (s:∀ x,(ev ans st (n+1) t i c).1=.tx x->x.length <= 900):yM (andO (ev ans st n t.fst i (c.1+1,c.2)) λx c=>Zn ans st n t x i c)=ev ans st (n+1) t i c:=by
 have e:∀ r,r=ev ans st (n+1) t i c->(∀ f:T->Ct->Out×Ct,True)->yM r=ev ans st (n+1) t i c:=λr z _=>by rw[z];exact Wx s
 cases t with
 | each f g=>exact e _ (by rw[ev.eq_def ans st (n+1)];dsimp only;rw[if_neg j];rfl) λ_=>trivial
 | ife f g p q=>exact e _ (by rw[ev.eq_def ans st (n+1)];dsimp only;rw[if_neg j];rfl) λ_=>trivial
 | one w f =>
  rw[ev.eq_def ans st (n+1)];dsimp only;rw[if_neg j];show yM (andO (ev ans st n f i (c.1+1,c.2)) _)=andO (ev ans st n f i (c.1+1,c.2)) _;cases ev ans st n f i (c.1+1,c.2) with
  | mk o c1 =>
   cases o with
   | en e=>rfl
   | tx x =>
    show yM (Zn ans st n (.one w f) x i c1)=Jy ans w x c1;unfold Zn Jy;dsimp only;split
    ·rfl
    ·split
     ·split
      ·refine Wx λy h=>?_;unfold qB at h;cases l:qc ans x with
       | none=>rw[l] at h;cases h
       | some v =>
        rw[l] at h;cases h;exact m _ (Ae l)
      ·rfl
     ·rfl
 | _=>exact hd.elim
theorem iD {n:Nat}{b:Bool}{t:Tr} (hd:t.deep) (c:jV st (n+1) b t):∃ k j7,t.d=.tup (.str k::t.fst.d::j7)/\y0.contains k=false /\ ¬ k=[106,111,105,110]/\jV st n b t.fst:=by
 cases t with
 | ife f g p q=>exact⟨_,_,rfl,rfl,by decide,c.1⟩
 | each f g=>exact⟨_,_,rfl,rfl,by decide,c.1⟩
 | one w f =>
  obtain⟨hw,e⟩:=c;refine⟨w,_,rfl,?_,?_,e⟩<;>rcases hw with rfl | rfl | rfl | rfl | rfl | rfl | rfl<;>decide
 | _=>exact hd.elim
theorem gE (r:F) {E:Out×Ct} (h:∀ e,E.1=.en e->e.1≠qd) (p:∀ x,E.1=.tx x->x.length <= 5000000) (v0 v1 v2:Option D) (s:M.S):(zH (kJ r) (Xj r) [v0,v1,v2,some (zW (zv E.1))] s).out=.ok (zW (zv (yM E).1)) s:=by
 have q:(2:Nat) <= SZ:=by decide
 have i:∀ (r:T×T) s,zI (zW r) (.int 0) s=.ok (.str r.1) s:=λ_ _=>rfl;have l:∀ (r:T×T) s,zI (zW r) (.int 1) s=.ok (.str r.2) s:=λ_ _=>rfl;obtain⟨o,c⟩:=E;cases o with
 | en e =>
  have j:¬ e.1=[116,101,120,116]:=h e rfl;have ne:eqD (.str e.1) (.str [116,101,120,116]) s=.ok false s:=by simp[j]
  show _=R.ok (zW e) s;simp only[kJ,Xj,zH,sIf,qr,zN,eOp,zA,eC,jJ,jW,R.bind_ok,zv,i,cEq,ne,R.stm_ok,jv,if_false,zq,RS.then_nx,zX,RS.out]
 | tx x =>
  have t:=p x rfl;have m:x.length <= SZ:=by unfold SZ;lia
  have g:eqD (.str qd) (.str [116,101,120,116]) s=.ok true s:=by simp
  show _=R.ok (zW (zv (if 900 < x.length then ((Out.en (jn,qu),c):Out×Ct) else (.tx x,c)).1)) s;by_cases n:900 < x.length
  ·have f:(900:Int) < (x.length:Int):=by lia
   rw[if_pos n];simp only[kJ,Xj,zH,sIf,qr,zN,eOp,zA,eC,jJ,jW,R.bind_ok,zv,i,l,cEq,g,if_true,zK,zB,zC,jX,m,cGt,f,decide_true,R.stm_ok,zX,ze,zx,jw,qQ,xM,q,RS.then,RS.out];rfl
  ·have f:¬ (900:Int) < (x.length:Int):=by lia
   rw[if_neg n];simp only[kJ,Xj,zH,sIf,qr,zN,eOp,zA,eC,jJ,jW,R.bind_ok,zv,i,l,cEq,g,if_true,zK,zB,zC,jX,m,cGt,f,decide_false,R.stm_ok,jv,if_false,zq,RS.then_nx,zX,RS.out]
theorem iN {k:Int} (hw:Wd ans st wd a u s k us) (r:F) (v0 v1 v3:Option D):∃ s1,(∀ m,zH (Y5 r) m [v0,v1,some (.ref wd),v3] s=m [v0,v1,some (.ref wd),v3] s1)/\Wd ans st wd a u s1 (k - 1) us/\Wf wd u s s1:=by
 have c:wd < s.length:=(List.getElem?_eq_some_iff.mp hw.ew).1;have e:zI (.ref wd) (.str [108,101,102,116]) s=.ok (.int k) s:=hw.opL;have f:yj (.ref wd) (.str [108,101,102,116]) (.int (k - 1)) s=.ok () (s.set wd (.dct (kvW a st u (k - 1)))):=by
  have g:(kvW a st u k).length < SZ:=by show (4:Nat) < SZ;decide
  have:=FP a st u k (k - 1);simp[yj,hw.ew,qC,g,this]
 refine⟨s.set wd (.dct (kvW a st u (k - 1))),λm=>?_,⟨by rw[J6 c],by rw[Zk hw.wa];exact hw.ea,by rw[Zk hw.wu];exact hw.eu,hw.wa,hw.wu,hw.au⟩,by simp,λi hi h j=>Zk λz=>h z.symm⟩;simp only[Y5,zH,yu,eOp,zA,eC,jJ,jW,R.bind_ok,e,XB,R.stm_ok,f,RS.then_nx]
theorem BO (hv:∀ q∈ans,q.2.length <= 900) (Q:(yz st).length <= 900):∀ n,n <= 40->Bz ans st wd a u (jj n) n
 | 0,_=>λt b i hg=>hg.elim
 | n+1,hn=>λt b i hg hi s c hc hw=>by
  have H:=BO hv Q n (by lia);have U:=ba hv Q hn hg hi hc;have hz2:(2:Nat) <= SZ:=by decide
  obtain⟨s1,e1,w1,f1⟩:=iN hw (jj n) (some t.d) (some i) none;have fin:∀ v,(kj (jj n) [some t.d,some i,some (.ref wd),none] s).out=.ok (zW (zv (ev ans st (n+1) t i c).1)) v->Wd ans st wd a u v (500 - ((ev ans st (n+1) t i c).2.1:Int)) (ev ans st (n+1) t i c).2.2->Wf wd u s v->∃ v,jj (n+1) [t.d,i,.ref wd] s=.ok (zW (zv (ev ans st (n+1) t i c).1)) v/\Wd ans st wd a u v (500 - ((ev ans st (n+1) t i c).2.1:Int)) (ev ans st (n+1) t i c).2.2/\Wf wd u s v/\∀ x,(ev ans st (n+1) t i c).1=.tx x->I0 (ev ans st (n+1) t i c).2/\x.length <= 900:=λv h1 h2 h3=>⟨v,h1,h2,h3,λx G=>by
   obtain⟨k1,k2,k3⟩:=U.2.2 x G;exact⟨⟨k1,by have:=hc.2;lia⟩,k3⟩⟩
  have hL:∀ k,Wd ans st wd a u s1 k c.2->zI (.ref wd) (.str [108,101,102,116]) s1=.ok (.int k) s1:=λk h=>h.opL;have hL:=hL _ w1;by_cases h5:500 <= c.1
  ·have ee:ev ans st (n+1) t i c=(.en (jn,Kz),(c.1+1,c.2)):=by rw[ev.eq_def];dsimp only;rw[if_pos h5]
   refine fin s1 ?_ ?_ f1
   ·rw[ee];unfold kj;rw[e1];have I:(500 - (c.1:Int) - 1 < 0):=by lia
    simp only[vY,zH,sIf,zN,eOp,zA,eC,jJ,jW,R.bind_ok,hL,cLt,I,decide_true,R.stm_ok,if_true,zX,ze,zB,zC,zx,jw,qQ,xM,hz2,RS.then,RS.out];rfl
   ·rw[ee];have:500 - ((c.1+1:Nat):Int)=500 - (c.1:Int) - 1:=by lia
    rw[this];exact w1
  ·have hc':I0 (c.1+1,c.2):=⟨by show c.1+1 <= 500;lia,by show c.2.length <= c.1+1;have:=hc.2;lia⟩
   have hc1:(c.1+1,c.2).2.length+1 <= (c.1+1,c.2).1:=by show c.2.length+1 <= c.1+1;have:=hc.2;lia
   have w1':Wd ans st wd a u s1 (500 - ((c.1+1,c.2).1:Int)) (c.1+1,c.2).2:=by
    have:500 - (((c.1+1,c.2):Ct).1:Int)=500 - (c.1:Int) - 1:=by show 500 - ((c.1+1:Nat):Int)=_;lia
    rw[this];exact w1
   have e2:∀ m,zH (vY (jj n)) m [some t.d,some i,some (.ref wd),none] s1=m [some t.d,some i,some (.ref wd),none] s1:=λm=>by
    have I:¬ (500 - (c.1:Int) - 1 < 0):=by lia
    simp only[vY,zH,sIf,zN,eOp,zA,eC,jJ,jW,R.bind_ok,hL,cLt,I,decide_false,R.stm_ok,jv,if_false,zq,RS.then_nx]
   have tail:∀ (E:Out×Ct) (A:M.S),yM E=ev ans st (n+1) t i c->(∀ x,E.1=.tx x->x.length <= 5000000)->Q9 (jj n) [some t.d,some i,some (.ref wd),none] s1=.nx [some t.d,some i,some (.ref wd),some (zW (zv E.1))] A->Wd ans st wd a u A (500 - (E.2.1:Int)) E.2.2->Wf wd u s1 A->∃ v,jj (n+1) [t.d,i,.ref wd] s=.ok (zW (zv (ev ans st (n+1) t i c).1)) v/\Wd ans st wd a u v (500 - ((ev ans st (n+1) t i c).2.1:Int)) (ev ans st (n+1) t i c).2.2/\Wf wd u s v/\∀ x,(ev ans st (n+1) t i c).1=.tx x->I0 (ev ans st (n+1) t i c).2/\x.length <= 900:=λE A hE hz e3 Y f3=>by
    refine fin A ?_ ?_ (f1.trans f3)
    ·unfold kj;rw[e1,e2];show ((Q9 (jj n) _ _).then _).out=_;rw[e3,RS.then_nx,<- hE];exact gE _ (λe he=>by
      obtain⟨o,cc⟩:=E;cases o with
      | tx x=>cases he
      | en e' =>
       have:(ev ans st (n+1) t i c).1=.en e':=by rw[<- hE];rfl
       cases he;exact Xy (n+1) t i c e this) hz _ _ _ A
    ·rw[<- hE,H9];exact Y
   have z3:(3:Nat) <= SZ:=by decide
   obtain⟨j,hs2⟩:∃ j:M.S,j=s1++[.lst (y0.map .str)]:=⟨_,rfl⟩
   have w2:Wd ans st wd a u j (500 - ((c.1+1,c.2).1:Int)) (c.1+1,c.2).2:=by rw[hs2];exact w1'.app _
   have f2:Wf wd u s1 j:=by rw[hs2];exact Wf.app _ _
   have hlist:jT (zB (eC (.str [116,101,120,116])) (zB (eC (.str [116,104,105,110,103])) (zB (eC (.str [107,105,110])) zC))) [some t.d,some i,some (.ref wd),none] s1=.ok (.ref s1.length) j:=by
    rw[hs2];simp[z3]
   have hin:∀ k:T,inD (.str k) (.ref s1.length) j=.ok (y0.contains k) j:=λk=>ve (by rw[hs2];simp) k;have us:((c.1+1,c.2):Ct).2.length <= 1000:=by have:=hc.1;have:=hc.2;show c.2.length <= 1000;lia
   have z1:∀ k:Int,(1:Int)=1:=λ_=>rfl;have J:∀ (k:T) (ds:List D),t.d=.tup (.str k::ds)->1 <= ds.length->(tOr (zN cEq (zK jX (zB (zA 0) zC)) (eC (.int 1))) (zN cIn (eOp zI (zA 0) (eC (.int 0))) (jT (zB (eC (.str [116,101,120,116])) (zB (eC (.str [116,104,105,110,103])) (zB (eC (.str [107,105,110])) zC)))))) [some t.d,some i,some (.ref wd),none] s1=.ok (y0.contains k) j:=λk ds B hl=>by
    have t1:zN cEq (zK jX (zB (zA 0) zC)) (eC (.int 1)) [some t.d,some i,some (.ref wd),none] s1=.ok false s1:=by
     have:¬ ds=[]:=λz=>by rw[z] at hl;simp at hl
     rw[B];simp[this]
     lia
    have t0:eOp zI (zA 0) (eC (.int 0)) [some t.d,some i,some (.ref wd),none] s1=.ok (.str k) s1:=by
     rw[B];simp[at0]
    show (zN cEq (zK jX (zB (zA 0) zC)) (eC (.int 1)) [some t.d,some i,some (.ref wd),none] s1).bind _=_;rw[t1,R.bind_ok];show (if false=true then _ else zN cIn (eOp zI (zA 0) (eC (.int 0))) _ [some t.d,some i,some (.ref wd),none] s1)=_;rw[if_neg (by decide)];show (eOp zI (zA 0) (eC (.int 0)) [some t.d,some i,some (.ref wd),none] s1).bind _=_;rw[t0,R.bind_ok,hlist,R.bind_ok];exact hin k
   by_cases N:t.bare
   ·have hi':b=true->∃ x,i=.str x:=λz=>by obtain⟨x,h,_⟩:=hi z;exact⟨x,h⟩
    have hE:yM (Zs ans st i t (c.1+1,c.2))=ev ans st (n+1) t i c:=by
     rw[<- BQ N h5];exact Wx λx G=>(U.2.2 x G).2.2
    have hE9:∀ x,(Zs ans st i t (c.1+1,c.2)).1=.tx x->x.length <= 5000000:=λx G=>by
     rw[<- BQ N h5] at G;exact jM (U.2.2 x G).2.2 (by decide)
    have two:(∃ A,A=s1/\(tOr (zN cEq (zK jX (zB (zA 0) zC)) (eC (.int 1))) (zN cIn (eOp zI (zA 0) (eC (.int 0))) (jT (zB (eC (.str [116,101,120,116])) (zB (eC (.str [116,104,105,110,103])) (zB (eC (.str [107,105,110])) zC)))))) [some t.d,some i,some (.ref wd),none] s1=.ok true A)\/(tOr (zN cEq (zK jX (zB (zA 0) zC)) (eC (.int 1))) (zN cIn (eOp zI (zA 0) (eC (.int 0))) (jT (zB (eC (.str [116,101,120,116])) (zB (eC (.str [116,104,105,110,103])) (zB (eC (.str [107,105,110])) zC)))))) [some t.d,some i,some (.ref wd),none] s1=.ok true j:=by
     have ln1:∀ x:D,∀ s,eqD (.int (([x]:List D).length:Int)) (.int 1) s=.ok true s:=λx s=>by simp
     cases t with
     | line=>exact .inl ⟨s1,rfl,by simp only[tOr,zN,zK,zB,zC,zA,eC,jJ,R.bind_ok,Tr.d,jX,cEq,ln1,if_true]⟩
     | it=>exact .inl ⟨s1,rfl,by simp only[tOr,zN,zK,zB,zC,zA,eC,jJ,R.bind_ok,Tr.d,jX,cEq,ln1,if_true]⟩
     | stem=>exact .inl ⟨s1,rfl,by simp only[tOr,zN,zK,zB,zC,zA,eC,jJ,R.bind_ok,Tr.d,jX,cEq,ln1,if_true]⟩
     | txt x=>exact .inr (J _ _ rfl (by simp))
     | thing x=>exact .inr (J _ _ rfl (by simp))
     | kin x=>exact .inr (J _ _ rfl (by simp))
     | _=>exact N.elim
    have one:∀ v,Wd ans st wd a u v (500 - ((c.1+1,c.2).1:Int)) (c.1+1,c.2).2->Wf wd u s1 v->(tOr (zN cEq (zK jX (zB (zA 0) zC)) (eC (.int 1))) (zN cIn (eOp zI (zA 0) (eC (.int 0))) (jT (zB (eC (.str [116,101,120,116])) (zB (eC (.str [116,104,105,110,103])) (zB (eC (.str [107,105,110])) zC)))))) [some t.d,some i,some (.ref wd),none] s1=.ok true v->∃ v,jj (n+1) [t.d,i,.ref wd] s=.ok (zW (zv (ev ans st (n+1) t i c).1)) v/\Wd ans st wd a u v (500 - ((ev ans st (n+1) t i c).2.1:Int)) (ev ans st (n+1) t i c).2.2/\Wf wd u s v/\∀ x,(ev ans st (n+1) t i c).1=.tx x->I0 (ev ans st (n+1) t i c).2/\x.length <= 900:=λv w' f' B=>by
     obtain⟨A,e3,Y,f3⟩:=Hb w' us Q hg N hi' (c.1+1);have ec:(Zs ans st i t (c.1+1,c.2)).2.1=c.1+1:=by
      have hask:∀ m,(qB ans m (c.1+1,c.2)).2.1=c.1+1:=λm=>by unfold qB;split<;>rfl
      cases t<;>first | rfl | exact hask _
     refine tail _ A hE hE9 ?_ (by rw[ec];exact Y) (f'.trans f3);unfold Q9;rw[sIf,B];have e3':vZ [t.d,i,.ref wd] v=.ok (zW (zv (Zs ans st i t (c.1+1,c.2)).1)) A:=e3;generalize zW (zv (Zs ans st i t (c.1+1,c.2)).1)=R0 at e3' ⊢;simp only[R.stm_ok,if_true,zQ,zK,zB,zC,zA,jJ,jW,R.bind_ok,e3',qw,qx]
    rcases two with ⟨v,rfl,B⟩ | B
    ·exact one v w1' (Wf.refl _) B
    ·exact one j w2 f2 B
   ·have ix0:∀ (k:T) (ds:List D),t.d=.tup (.str k::ds)->∀ (v3:Option D) s,eOp zI (zA 0) (eC (.int 0)) [some t.d,some i,some (.ref wd),v3] s=.ok (.str k) s:=λk ds B v3 s=>by
     rw[B];simp[at0]
    have C:t.deep->∃ v,jj (n+1) [t.d,i,.ref wd] s=.ok (zW (zv (ev ans st (n+1) t i c).1)) v/\Wd ans st wd a u v (500 - ((ev ans st (n+1) t i c).2.1:Int)) (ev ans st (n+1) t i c).2.2/\Wf wd u s v/\∀ x,(ev ans st (n+1) t i c).1=.tx x->I0 (ev ans st (n+1) t i c).2/\x.length <= 900:=λhdp=>by
     obtain⟨k,j7,hd,hk1,hk2,hgf⟩:=iD hdp hg;have B:=J _ _ hd (by simp);rw[hk1] at B;obtain⟨A,e3,Y,f3,k3⟩:=H t.fst b i hgf hi j (c.1+1,c.2) hc' w2;have L:=iz hv hdp (i:=i) h5 λx G=>(U.2.2 x G).2.2;have hcnt:=ba hv Q (by lia) hgf hi hc';have i0:=ix0 _ _ hd none j;have eqj:eqD (.str k) (.str [106,111,105,110]) j=.ok false j:=by simp[hk2]
     have i1:∀ (v3:Option D) s,eOp zI (zA 0) (eC (.int 1)) [some t.d,some i,some (.ref wd),v3] s=.ok t.fst.d s:=λv3 s=>by
      rw[hd];have:∀ (x y:D) (l:List D),atI (x::y::l) 1=some y:=λx y l=>at1 x y l;simp[this]
     have hen:=Xy (ans:=ans) (st:=st) n t.fst i (c.1+1,c.2);have j0:∀ (r:T×T) s,zI (zW r) (.int 0) s=.ok (.str r.1) s:=λ_ _=>rfl;have j1:∀ (r:T×T) s,zI (zW r) (.int 1) s=.ok (.str r.2) s:=λ_ _=>rfl;cases hE:ev ans st n t.fst i (c.1+1,c.2) with
     | mk o c3 =>
      rw[hE] at e3 Y k3 L hen hcnt;have e3':jj n [t.fst.d,i,.ref wd] j=.ok (zW (zv o)) A:=e3;have pre:∀ σ,(sIf (zN cEq (eOp zI (zA 3) (eC (.int 0))) (eC (.str [116,101,120,116]))) (zQ 3 (zK (vU (jj n)) (zB (zA 0) (zB (eOp zI (zA 3) (eC (.int 1))) (zB (zA 1) (zB (zA 2) zC)))))) zq) [some t.d,some i,some (.ref wd),some (zW (zv o))] A=σ->Q9 (jj n) [some t.d,some i,some (.ref wd),none] s1=σ:=λσ e=>by
       rw[<- e];unfold Q9;rw[sIf,B,R.stm_ok,if_neg (by decide)];show ((((eOp zI (zA 0) (eC (.int 0)) [some t.d,some i,some (.ref wd),none] j).bind λx s=>(eC (.str [106,111,105,110]) [some t.d,some i,some (.ref wd),none] s).bind λy s=>cEq x y s).stm _ _))=_;rw[i0];simp only[R.bind_ok,eC,cEq,eqj,R.stm_ok,jv,if_false];show ((((eOp zI (zA 0) (eC (.int 1)) [some t.d,some i,some (.ref wd),none] j).bind λx s=>((zB (zA 1) (zB (zA 2) zC)) [some t.d,some i,some (.ref wd),none] s).bind λxs s=>R.ok (x::xs) s).bind λxs s=>jj n xs s).stm _ _).then _=_;rw[i1];simp only[R.bind_ok,zB,zC,zA,jJ,jW,e3',R.stm_ok,qw,qx,RS.then_nx]
      cases o with
      | en e =>
       have hne:¬ e.1=[116,101,120,116]:=hen e rfl;have ne:eqD (.str e.1) (.str [116,101,120,116]) A=.ok false A:=by simp[hne]
       refine tail (.en e,c3) A L (λx G=>by cases G) (pre _ ?_) Y (f2.trans f3);simp only[sIf,zN,eOp,zA,eC,jJ,jW,R.bind_ok,zv,j0,cEq,ne,R.stm_ok,jv,if_false,zq]
      | tx x =>
       obtain⟨hc3,hx9⟩:=k3 x rfl;have hcn:=(hcnt.2.2 x rfl).2.1;obtain⟨s4,e4,w4,f4,k4⟩:=LW (r:=jj n) hv H hdp hg hi hx9 hc3 (by have:c3.2.length+(c.1+1) <= c.2.length+c3.1:=hcn;have:=hc.2;lia) Y;have e4':Km (jj n) [t.d,.str x,i,.ref wd] A=.ok (zW (zv (Zn ans st n t x i c3).1)) s4:=e4;refine tail (Zn ans st n t x i c3) s4 L (λy hy=>jM (k4 y hy).2 (by decide)) (pre _ ?_) w4 (f2.trans (f3.trans f4));generalize zW (zv (Zn ans st n t x i c3).1)=R0 at e4' ⊢;have eq1:eqD (.str qd) (.str [116,101,120,116]) A=.ok true A:=by simp
       simp only[sIf,zN,eOp,zA,eC,jJ,jW,R.bind_ok,zv,j0,j1,cEq,eq1,R.stm_ok,if_true,zQ,zK,zB,zC,e4',qw,qx]
    cases t with
    | join ts =>
     obtain⟨hl1,hl2,hgs⟩:=hg;have hd:Tr.d (.join ts)=.tup (.str [106,111,105,110]::ts.map Tr.d):=by
      show D.tup (.str [106,111,105,110]::Tr.d.ds ts)=_;rw[Tr.ds_map]
     have B:=J _ _ hd (by simpa using hl1);rw[show y0.contains [106,111,105,110]=false from rfl] at B;obtain⟨A,hs3⟩:∃ A:M.S,A=j++[.lst ((ts.map λk=>(k,i)).map prD)]:=⟨_,rfl⟩
     have Y:Wd ans st wd a u A (500 - ((c.1+1,c.2).1:Int)) (c.1+1,c.2).2:=by rw[hs3];exact w2.app _
     have f3:Wf wd u j A:=by rw[hs3];exact Wf.app _ _
     have lw:wd < j.length:=(List.getElem?_eq_some_iff.mp w2.ew).1;have lu:u < j.length:=(List.getElem?_eq_some_iff.mp w2.eu).1;obtain⟨s4,e4,w4,f4,k4⟩:=Bl (r:=jj n) (n:=n) (p:=j.length) (early:=false) (by lia) (by lia) (ps:=ts.map λk=>(k,i)) (λq hq=>by
      obtain⟨k,hk,rfl⟩:=List.mem_map.mp hq;exact H k b i (hgs k hk) hi) (by rw[jS];lia) hc' Y (by rw[hs3];simp)
     rw[UM (f:=λa i c=>ev ans st n a i c)] at e4 w4 k4;refine tail (evs (λa c=>ev ans st n a i c) ts [] (c.1+1,c.2)) s4 (by rw[ev.eq_def ans st (n+1)];dsimp only;rw[if_neg h5]) (λx G=>by
      have:=(k4 x G).2;rw[jS] at this
      lia) ?_ w4 (f2.trans (f3.trans f4))
     generalize zW (zv (evs (λa c=>ev ans st n a i c) ts [] (c.1+1,c.2)).1)=R0 at *;have e4':Kx (jj n) [.ref j.length,.ref wd,.bl false] A=.ok R0 s4:=e4;have i0:=ix0 _ _ hd none j;have eqj:eqD (.str [106,111,105,110]) (.str [106,111,105,110]) j=.ok true j:=by simp
     have c1:cut (D.str [106,111,105,110]::ts.map Tr.d) (some 1) none=ts.map Tr.d:=by rw[xm _ (by decide)];rfl
     have sx:¬ sIx (ts.length+1) 0 (some 1)=0:=by unfold sIx;simp;lia
     have zt:ts.length <= SZ:=by unfold SZ;lia
     have zt1:ts.length+1 <= SZ:=by unfold SZ;lia
     have hcmp:jt 1 (iE (eSl (zA 0) (jr (eC (.int 1))) qb)) (zw 4) jU (ze (zB (zA 4) (zB (zA 1) zC))) [some (Tr.d (.join ts)),some i,some (.ref wd),none] j=.ok ((ts.map λk=>(k,i)).map prD) j:=by
      have:=UE (n:=1) (it:=iE (eSl (zA 0) (jr (eC (.int 1))) qb)) (tg:=zw 4) (e:=ze (zB (zA 4) (zB (zA 1) zC))) (σ:=[some (Tr.d (.join ts)),some i,some (.ref wd),none]) (s:=j) (as:=ts) Tr.d (λk=>.tup [k.d,i]) (g:=[]) (by rw[hd];simp[c1,sx,zt1]) zt rfl λk _=>by simp[hz2]
      rw[this,ZR];rfl
     unfold Q9;rw[sIf,B];rw[R.stm_ok,if_neg (by decide)];show ((((eOp zI (zA 0) (eC (.int 0)) [some (Tr.d (.join ts)),some i,some (.ref wd),none] j).bind λx s=>(eC (.str [106,111,105,110]) [some (Tr.d (.join ts)),some i,some (.ref wd),none] s).bind λy s=>cEq x y s).stm _ _))=_;rw[i0];simp only[R.bind_ok,eC,cEq,eqj,R.stm_ok,if_true,zQ,zK,zB,zC,yC,hcmp,alloc,<- hs3,zA,jJ,jW,e4',qw,qx]
    | txt x=>exact absurd trivial N
    | line=>exact absurd trivial N
    | it=>exact absurd trivial N
    | stem=>exact absurd trivial N
    | thing x=>exact absurd trivial N
    | kin x=>exact absurd trivial N
    | ife f g p q=>exact C trivial
    | each f g=>exact C trivial
    | one w f=>exact C trivial
end
noncomputable def vM:SM :=
  (zQ 2 (eOp zI (zA 1) (eOp jD (eOp jO (zA 0) (eC (.int 6))) (eC (.int 8)))))
noncomputable def KA:SM :=
  (zQ 3 (eOp zI (zA 1) (eOp jD (eOp jO (zA 0) (eC (.int 48))) (eC (.int 8)))))
noncomputable def km:SM :=
  (zQ 4 (jT (zB (zA 2) (zB (eOp zc (eOp zc (zA 2) (eC (.str [46]))) (zA 3)) (zB (eC (.str [])) (zB (eOp zc (eOp zc (eOp zc (eOp zc (eC (.str [32,32])) (zA 3)) (eC (.str [10]))) (zA 2)) (eC (.str [32]))) (zB (eOp zc (eOp zc (eOp zc (eOp zc (zA 2) (eC (.str [32]))) (zA 3)) (eC (.str [32]))) (zA 2)) zC)))))))
noncomputable def Vj:SM :=
  (zQ 4 (eOp zc (zA 4) (jT (zB (zK x3 (zB (eOp jO (zA 0) (eC (.int 384))) (zB (eOp jD (eOp jO (zA 0) (eC (.int 6))) (eC (.int 31))) zC))) zC))))
noncomputable def Yj:SM :=
  (zX (eOp zI (zA 4) (eOp jD (zA 0) (eC (.int 6)))))
noncomputable def U4:SM:=(zH vM (zH KA (zH km (zH Vj Yj))))
noncomputable def Df:F:=fn 5 U4
noncomputable def JM:F:=chS Df
theorem Ls:jI 2 Df JM:=yk _
theorem cI {ts:List T}{k:Int} (c:0 <= k) (h:k < ts.length):atI (ts.map D.str) k=some (.str (ts.getD k.toNat [])):=by
 rw[JK (d:=.str []) c (by simpa using h),qP,qP,yB];cases ts[k.toNat]?<;>rfl
theorem DH {N:List T} (h:∀ t∈N,t.length <= 17) (i:Nat):(N.getD i []).length <= 17:=by
 rw[qP];cases q:N[i]? with
 | none=>simp
 | some t=>exact h t (y9 q)
theorem FA {N:List T} (C:N.length=8) (h:∀ t∈N,t.length <= 17) {S:M.S}{p:Nat} (m:S[p]? = some (.lst (N.map .str))) (c:Int):∃ t,JM [.int c,.ref p] S=.ok (.str t) S/\t.length <= 60:=by
 have o:=Zh (c / 6) (show (8:Int)≠0 by decide);have E:=Zl (c / 6) (show (0:Int) < 8 by decide);have q:=Zh (c / 48) (show (8:Int)≠0 by decide);have G:=Zl (c / 48) (show (0:Int) < 8 by decide);have v:=cI (ts:=N) o (by lia);have w:=cI (ts:=N) q (by lia);have H:=DH h (c / 6 % 8).toNat;have I:=DH h (c / 48 % 8).toNat;generalize N.getD (c / 6 % 8).toNat []=f at *;generalize N.getD (c / 48 % 8).toNat []=g at *;have J:=Zh (c / 6) (show (31:Int)≠0 by decide);have c1:=Zl (c / 6) (show (0:Int) < 31 by decide);have tx:=λs=>Cw (c / 384) (c / 6 % 31).toNat (by lia) s;rw[show (((c / 6 % 31).toNat:Nat):Int)=c / 6 % 31 by lia] at tx;generalize Q:x2 (c / 384) (c / 6 % 31).toNat=u at *;have x:=(tx S).2;have tx':=λs=>(tx s).1;have U:=Zh c (show (6:Int)≠0 by decide);have Y:=Zl c (show (0:Int) < 6 by decide);have z5:(5:Nat) <= SZ:=by decide
 have y:(1:Nat) <= SZ:=by decide
 have z:(6:Nat) <= SZ:=by decide
 have A:∀ r,(vM [some (.int c),some (.ref p),none,none,none] S).then (zH KA r)=r [some (.int c),some (.ref p),some (.str f),some (.str g),none] S:=λr=>by
  simp[vM,KA,m,v,w]
 have m1:f.length+1 <= SZ:=by unfold SZ;lia
 have m2:f.length+1+g.length <= SZ:=by unfold SZ;lia
 have m3:g.length+1+1 <= SZ:=by unfold SZ;lia
 have m4:g.length+1+1+1 <= SZ:=by unfold SZ;lia
 have m5:g.length+f.length+1+1+1 <= SZ:=by unfold SZ;lia
 have zz:∀ n,n <= 200->n <= SZ:=λn h=>by unfold SZ;lia
 have B:km [some (.int c),some (.ref p),some (.str f),some (.str g),none] S=.nx [some (.int c),some (.ref p),some (.str f),some (.str g),some (.ref S.length)] (S++[.lst [.str f,.str (f++[46]++g),.str [],.str ([32,32]++g++[10]++f++[32]),.str (f++[32]++g++[32]++f)]]):=by
  have w1:=zz (f.length+1) (by lia);simp only[km,zQ,jT,zB,zC,zA,eOp,eC,jJ,jW,R.bind_ok,zc,jk,zx,jw];rw[if_pos (zz _ (by lia))];simp only[R.bind_ok,jk,zx,jw];rw[if_pos (zz _ (by lia))];simp only[R.bind_ok,jk,zx,jw];rw[if_pos (zz _ (by lia))];simp only[R.bind_ok,jk,zx,jw];rw[if_pos (zz _ (by lia))];simp only[R.bind_ok,jk,zx,jw];rw[if_pos (zz _ (by lia))];simp only[R.bind_ok,jk,zx,jw];rw[if_pos (zz _ (by lia))];simp only[R.bind_ok,jk,zx,jw];rw[if_pos (zz _ (by lia))];simp only[R.bind_ok,jk,zx,jw];rw[if_pos (zz _ (by lia))];simp only[R.bind_ok,jk,zx,jw];rw[if_pos (zz _ (by lia))];simp only[R.bind_ok,jk,zx,jw];rw[if_pos (zz _ (by lia))];simp only[R.bind_ok,jk,zx,jw];rw[if_pos (zz _ (by lia))];rfl
 generalize l:[D.str f,.str (f++[46]++g),.str [],.str ([32,32]++g++[10]++f++[32]),.str (f++[32]++g++[32]++f)]=L at *;have j:L.length=5:=by rw[<- l];rfl
 have i:∀ t,atI (L++[.str u]) (c % 6)=some (.str t)->JM [.int c,.ref p] S=.ok (.str t) S:=λt e=>by
  refine yq (g:=[.lst L,.lst [.str u],.lst (L++[.str u])]) ?_ rfl;show ((vM [some (.int c),some (.ref p),none,none,none] S).then (zH KA (zH km (zH Vj Yj)))).out=_;rw[A];show ((km _ _).then _).out=_;rw[B];simp[Vj,Yj,tx',y,z,j,e,RS.out]
 rw[<- l] at i;have:c % 6=0\/c % 6=1\/c % 6=2\/c % 6=3\/c % 6=4\/c % 6=5:=by lia
 rcases this with e | e | e | e | e | e<;>rw[e] at i
 ·exact⟨_,i _ rfl,by lia⟩
 ·exact⟨_,i _ rfl,by simp;lia⟩
 ·exact⟨_,i _ rfl,by simp⟩
 ·exact⟨_,i _ rfl,by simp;lia⟩
 ·exact⟨_,i _ rfl,by simp;lia⟩
 ·exact⟨_,i _ rfl,x⟩
noncomputable def Ke:SM :=
  (zQ 1 (zK Kn (zB (zK jz (zB (zA 0) (zB (eC (.int 0)) zC))) zC)))
noncomputable def kS:SM :=
  (zQ 2 (yt cEq (eOp jD (zK jz (zB (zA 0) (zB (eC (.int 1)) zC))) (eC (.int 2))) (eC (.int 0))))
noncomputable def XU:SM :=
  (zQ 3 (eOp zI (jT (zB (eC .non) (zB (eOp zI (zA 1) (eC (.int 5))) zC))) (zK vB (zB (zA 2) zC))))
noncomputable def kc:SM :=
  (zQ 4 (zK XN (zB (zK kH (zB (zA 0) (zB (eC (.int 18)) (zB (eC (.int 26)) zC)))) (zB (zA 1) (zB (zA 2) zC)))))
noncomputable def JU:SM :=
  (sIf (qr (zN cEq (eOp jD (eOp jO (zK jz (zB (zA 0) (zB (eC (.int 1)) zC))) (eC (.int 128))) (eC (.int 3))) (eC (.int 1))) (zN cLt (zK Jf (zB (zA 4) zC)) (eC (.int 10))))
  (zQ 4 (ze (zB (eC (.str [101,97,99,104])) (zB (ze (zB (eC (.str [116,101,120,116])) (zB (eOp zc (eOp zc (eOp zc (eOp zc (eOp zI (zA 1) (eC (.int 1))) (eC (.str [32]))) (eOp zI (zA 1) (eC (.int 0)))) (eC (.str [32,32]))) (eOp zI (zA 1) (eC (.int 2)))) zC))) (zB (ze (zB (eC (.str [106,111,105,110])) (zB (ze (zB (eC (.str [105,116])) zC)) (zB (zA 4) zC)))) zC)))))
  zq)
noncomputable def XG:SM :=
  (zQ 5 VF)
noncomputable def XD:SM :=
  (qs (qt (eC (.int 16))) (zw 6)
  (zH (zQ 7 (eOp zI (eOp zc (zA 1) (yC 1 (iE (zA 1)) (zw 11) jU (eOp zc (eOp zc (zA 11) (eC (.str [46]))) (eOp zI (zA 1) (eC (.int 5)))))) (zA 6)))
  (sIf (zN cGt (eOp jD (zK jz (zB (zA 0) (zB (eOp zc (eC (.int 2)) (zA 6)) zC))) (eC (.int 5))) (eC (.int 0)))
  (zH (yu (zA 5) (zA 7) (zK JM (zB (eOp jO (zK jz (zB (zA 0) (zB (eOp zc (eC (.int 2)) (zA 6)) zC))) (eC (.int 5))) (zB (zA 1) zC))))
  (sIf (qr (zN cEq (eOp jD (eOp jO (zK jz (zB (zA 0) (zB (eC (.int 1)) zC))) (eC (.int 2))) (eC (.int 4))) (eC (.int 1))) (zN cEq (eOp jD (eOp jO (zK jz (zB (zA 0) (zB (eC (.int 1)) zC))) (eC (.int 8))) (eC (.int 16))) (zA 6)))
  (yu (zA 5) (zA 7) (eSl (eOp qe (eOp zc (eOp zI (zA 5) (zA 7)) (eC (.str [97]))) (eC (.int 900))) qb (jr (eC (.int 900)))))
  zq))
  zq)))
noncomputable def x8:SM :=
  (zQ 8 (Vu (zB (eC (.str [97,110,115,119,101,114,115])) (zB (zA 5) (zB (eC (.str [115,116,101,109])) (zB (zA 3) (zB (eC (.str [117,115,101,100])) (zB (jT zC) (zB (eC (.str [108,101,102,116])) (zB (eC (.int 500)) zC))))))))))
noncomputable def kK:SM :=
  (zQ 9 (ze (zB (zK CI (zB (zA 4) (zB (eC .non) (zB (zA 8) zC)))) (zB (eOp zI (zA 8) (eC (.str [117,115,101,100]))) zC))))
noncomputable def XO:SM :=
  (zQ 10 (zK kU (zB (zA 4) (zB (zA 3) (zB (zK k8 (zB (zA 5) zC)) zC)))))
noncomputable def Vd:SM :=
  (zX (JQ (zK Qg (zB (zA 10) (zB (eC (.ty .tuple)) zC))) (JQ (yt cEq (zA 10) (zA 9)) (yt cEq (zK kU (zB (zA 4) (zB (zA 3) (zB (zK k8 (zB (zA 5) zC)) zC)))) (zA 9)))))
noncomputable def WQ:SM:=(zH Ke (zH kS (zH XU (zH kc (zH JU (zH XG (zH XD (zH x8 (zH kK (zH XO Vd))))))))))
noncomputable def Up:F:=fn 11 WQ
noncomputable def yW (k v:T) (kvs:List (T×T)):List (T×T):=if (kvs.any λp=>decide (p.1=k))=true then kvs.map λp=>if p.1=k then (p.1,v) else p else kvs++[(k,v)]
theorem cq (k v:T) (kvs:List (T×T)):ym (.str k) (.str v) (kvs.map pd)=(yW k v kvs).map pd:=by
 unfold ym yW;have e:((kvs.map pd).any λp=>decide (p.1=.str k))=kvs.any λp=>decide (p.1=k):=by
  rw[Lm]
  congr 1
  funext p
  simp[pd]
 rw[e];split
 ·rw[ZR,ZR];apply Qa;intro p _;simp only[wq,pd];by_cases h:p.1=k<;>simp[h]
 ·rw[vi];rfl
theorem Vt {k:T}:(yW k v kvs).length <= kvs.length+1:=by
 unfold yW;split
 ·rw[jS];lia
 ·simp
theorem UZ {m:Nat}{k v:T}{kvs:List (T×T)} (h:∀ q∈kvs,q.2.length <= m) (e:v.length <= m):∀ q∈yW k v kvs,q.2.length <= m:=λq c=>by
 unfold yW at c;split at c
 ·obtain⟨p,f,rfl⟩:=List.mem_map.mp c;split
  ·exact e
  ·exact h p f
 ·rcases List.mem_append.mp c with c | c
  ·exact h q c
  ·rw[List.mem_singleton.mp c];exact e
theorem IW (k v:T):∀ kvs:List (T×T),qc (yW k v kvs) k=some v:=λkvs=>by
 have f:∀ kvs:List (T×T),(kvs.any λp=>decide (p.1=k))=true->qc (kvs.map λp=>if p.1=k then (p.1,v) else p) k=some v:=λkvs=>by
  induction kvs with
  | nil=>intro h;cases h
  | cons p kvs c =>
   intro h;unfold qc at *;by_cases e:p.1=k
   ·rw[jH,if_pos e,ZA];have:(k == p.1)=true:=by simp[e]
    rw[this]
   ·rw[jH,if_neg e,ZA];have:(k == p.1)=false:=by simpa using λz=>e z.symm
    rw[this];refine c ?_;simpa [e] using h
 have g:∀ kvs:List (T×T),¬ (kvs.any λp=>decide (p.1=k))=true->qc (kvs++[(k,v)]) k=some v:=λkvs=>by
  induction kvs with
  | nil=>intro _;unfold qc;simp
  | cons p kvs c =>
   intro h;unfold qc at *;have e:¬ p.1=k:=λz=>h (by simp[z]);rw[XT,ZA];have:(k == p.1)=false:=by simpa using λz=>e z.symm
   rw[this];refine c λz=>h ?_;rw[QR,z];simp
 unfold yW;split
 ·rename_i h;exact f kvs h
 ·rename_i h;exact g kvs h
theorem dj {s:M.S}{l c:Nat}{us:List T} (r:T×T) (h:s[l]? = some (.lst (us.map .str))) (h':s[c]? = some (.lst (us.map .str))):eqD (.tup [zW r,.ref l]) (.tup [zW r,.ref c]) s=.ok true s:=by
 have f:∀ k:Nat,s[k]? = some (.lst (us.map .str))->toP Z9 s (.tup [zW r,.ref k])=some (.tup [.tup [.str r.1,.str r.2],.lst (us.map P.str)]):=λk e=>by
  have g:toP Z9 s (.ref k)=some (.lst (us.map P.str)):=by
   show (match zy s k with | some xs=>(qj.all (λj=>toP 8 s (.ref j)) xs).map P.lst | none=>none)=_;have:zy s k=some (us.map .str):=by simp[zy,e]
   rw[this];show (qj.all _ (us.map .str)).map P.lst=_;rw[Cz];rfl
  show (match (some (P.tup [.str r.1,.str r.2])),(match toP Z9 s (.ref k),(some ([]:List P)) with | some p,some ps=>some (p::ps) | _,_=>none) with | some p,some ps=>some (p::ps) | _,_=>none).map P.tup=_;rw[g];rfl
 simp only[eqD,f l h,f c h'];have q:P.eqvs (us.map P.str) (us.map P.str)=true:=by rw[AW];simp
 simp[P.dep,P.deps,az,P.eqv,P.eqvs,q]
noncomputable abbrev R0 (ns:List Int):D:=.ro (ns.map .int)
theorem ih {c1:Int}{N:List T} (o:N.length=8) (g:∀ t∈N,t.length <= 17) {st:D}{t:Tr} (h:jV st 13 false t) {s:M.S} (p:s[0]? = some (.lst (N.map .str))) (c:∀ s,jz [R0 ns,.int 1] s=.ok (.int c1) s) {v2 v3:Option D} :
  ∃ t',jV st 20 false t'/\JU [some (R0 ns),some (.ref 0),v2,v3,some t.d,none,none,none,none,none,none] s=.nx [some (R0 ns),some (.ref 0),v2,v3,some t'.d,none,none,none,none,none,none] s:=by
 have q:(1:Nat) <= SZ:=by decide
 have r:(2:Nat) <= SZ:=by decide
 have u:(3:Nat) <= SZ:=by decide
 have l:=vq h;have e:jV st 20 false t:=y4 h (jM l (by decide)) λz=>z;have hi:=UO 20 s e;have i:jV st 18 true t:=y4 h (jM l (by decide)) λ_=>rfl;obtain⟨f,v,w⟩:=QB (ts:=N) (k:=0) (by decide) (by lia);obtain⟨n1,x,y⟩:=QB (ts:=N) (k:=1) (by decide) (by lia);obtain⟨n2,A,B⟩:=QB (ts:=N) (k:=2) (by decide) (by lia);have l0:=g f v;have J:=g n1 x;have L:=g n2 A;by_cases j:c1 / 128 % 3=1
 ·by_cases m:(t.hgt:Int) < 10
  ·refine⟨.each (.txt (n1++[32]++f++[32,32]++n2)) (.join [.it,t]),⟨?_,by simp,by simp,λk n=>?_⟩,?_⟩
   ·show (n1++[32]++f++[32,32]++n2).length <= 900;simp;lia
   ·simp at n;rcases n with rfl | rfl
    ·rfl
    ·exact i
   ·have C:n1.length+1 <= SZ:=by unfold SZ;lia
    have E:n1.length+1+f.length <= SZ:=by unfold SZ;lia
    have G:n1.length+1+f.length+2 <= SZ:=by unfold SZ;lia
    have H:n1.length+1+f.length+2+n2.length <= SZ:=by unfold SZ;lia
    have I:(qr (zN cEq (eOp jD (eOp jO (zK jz (zB (zA 0) (zB (eC (.int 1)) zC))) (eC (.int 128))) (eC (.int 3))) (eC (.int 1))) (zN cLt (zK Jf (zB (zA 4) zC)) (eC (.int 10)))) [some (R0 ns),some (.ref 0),v2,v3,some t.d,none,none,none,none,none,none] s=.ok true s:=by
     simp[c,j,hi,m]
    unfold JU;rw[sIf,I,R.stm_ok,if_pos rfl];simp only[zQ,ze,zB,zC,eC,eOp,zA,jJ,jW,R.bind_ok,zI,p,w,y,B,zc,jk,zx,jw,qQ,xM,C,E,G,H,if_true,q,r,u,R.stm_ok,qw,qx,Tr.d,Tr.d.ds]
  ·exact⟨t,e,by simp[JU,c,j,hi,m]⟩
 ·exact⟨t,e,by simp[JU,c,j]⟩
noncomputable abbrev VJ:SM:=(zH (zQ 7 (eOp zI (eOp zc (zA 1) (yC 1 (iE (zA 1)) (zw 11) jU (eOp zc (eOp zc (zA 11) (eC (.str [46]))) (eOp zI (zA 1) (eC (.int 5)))))) (zA 6)))
  (sIf (zN cGt (eOp jD (zK jz (zB (zA 0) (zB (eOp zc (eC (.int 2)) (zA 6)) zC))) (eC (.int 5))) (eC (.int 0)))
  (zH (yu (zA 5) (zA 7) (zK JM (zB (eOp jO (zK jz (zB (zA 0) (zB (eOp zc (eC (.int 2)) (zA 6)) zC))) (eC (.int 5))) (zB (zA 1) zC))))
  (sIf (qr (zN cEq (eOp jD (eOp jO (zK jz (zB (zA 0) (zB (eC (.int 1)) zC))) (eC (.int 2))) (eC (.int 4))) (eC (.int 1))) (zN cEq (eOp jD (eOp jO (zK jz (zB (zA 0) (zB (eC (.int 1)) zC))) (eC (.int 8))) (eC (.int 16))) (zA 6)))
  (yu (zA 5) (zA 7) (eSl (eOp qe (eOp zc (eOp zI (zA 5) (zA 7)) (eC (.str [97]))) (eC (.int 900))) qb (jr (eC (.int 900)))))
  zq))
  zq))
theorem MM:XD=qs (qt (eC (.int 16))) (zw 6) VJ:=rfl
theorem fW {N:List T} (H:N.length=8) (I:∀ t∈N,t.length <= 17) {A B:O}{g:M.S}{ans:List (T×T)} (J:∀ q∈ans,q.2.length <= 900) {k:Nat} (hk:k < 16) (hl:ans.length <= 2 * k) {v2 v3 v4 v7:Option D} :
  ∃ (h:List (T×T)) (g':M.S) (L:Option D),(∀ q∈h,q.2.length <= 900)/\h.length <= 2 * (k+1)/\VJ [some (R0 ns),some (.ref 0),v2,v3,v4,some (.ref 3),some (.int (k:Int)),v7,none,none,none] (.lst (N.map .str)::A::B::.dct (ans.map pd)::g)=.nx [some (R0 ns),some (.ref 0),v2,v3,v4,some (.ref 3),some (.int (k:Int)),L,none,none,none] (.lst (N.map .str)::A::B::.dct (h.map pd)::g'):=by
 obtain⟨i,i5,a5⟩:=QB (ts:=N) (k:=5) (by decide) (by lia);have l5:=I i i5;have G:=λs=>V9 ns (2+k) s;rw[show ((2+k:Nat):Int)=2+(k:Int) by lia] at G;have m:∀ s,jz [.ro (ns.map .int),.int 1] s=.ok (.int (Qs ns 1)) s:=λs=>V9 ns 1 s;generalize Qs ns (2+k)=cv at *;generalize Qs ns 1=c1 at *;have u:∀ d,jt 1 (iE (zA 1)) (zw 11) jU (eOp zc (eOp zc (zA 11) (eC (.str [46]))) (eOp zI (zA 1) (eC (.int 5)))) [some (R0 ns),some (.ref 0),v2,v3,v4,some (.ref 3),some (.int (k:Int)),v7,none,none,none] (.lst (N.map .str)::A::B::d::g)=.ok (N.map λn=>.str (n++[46]++i)) (.lst (N.map .str)::A::B::d::g):=λd=>by
  refine UE (as:=N) D.str (λn=>.str (n++[46]++i)) (g:=[(0,.lst (N.map .str))]) (by simp) (by unfold SZ;lia) (by simp[zh]) λn hn=>?_;have:=I n hn;have Q:n.length+1 <= SZ:=by unfold SZ;lia
  have U:n.length+1+i.length <= SZ:=by unfold SZ;lia
  simp[a5,Q,U]
 obtain⟨e,_,Y⟩:=QB (ts:=N++N.map λn=>n++[46]++i) (k:=(k:Int)) (by lia) (by simp;lia);have j:atI (N.map D.str++N.map λn=>D.str (n++[46]++i)) (k:Int)=some (.str e):=by
  rw[<- Y,vi,ZR];rfl
 have zz:(N.map D.str).length+(N.map λn=>D.str (n++[46]++i)).length <= SZ:=by simp;unfold SZ;lia
 obtain⟨f,hg1⟩:∃ f:M.S,f=g++[.lst (N.map λn=>.str (n++[46]++i))]++[.lst (N.map D.str++N.map λn=>D.str (n++[46]++i))]:=⟨_,rfl⟩
 have b1:∀ r,zH (zQ 7 (eOp zI (eOp zc (zA 1) (yC 1 (iE (zA 1)) (zw 11) jU (eOp zc (eOp zc (zA 11) (eC (.str [46]))) (eOp zI (zA 1) (eC (.int 5)))))) (zA 6))) r [some (R0 ns),some (.ref 0),v2,v3,v4,some (.ref 3),some (.int (k:Int)),v7,none,none,none] (.lst (N.map .str)::A::B::.dct (ans.map pd)::g)=r [some (R0 ns),some (.ref 0),v2,v3,v4,some (.ref 3),some (.int (k:Int)),some (.str e),none,none,none] (.lst (N.map .str)::A::B::.dct (ans.map pd)::f):=λr=>by
  have C:∀ (a b c d:O) (l:M.S) (x:O),(a::b::c::d::(l++[x]))[l.length+1+1+1+1]? = some x:=λa b c d l x=>by simp
  rw[hg1];simp only[zH,zQ,eOp,zA,yC,jJ,jW,R.bind_ok,u,alloc,XT,zx,zc,C,zz,if_true,zI,jk,jw,qQ,j,R.stm_ok,qw,qx,RS.then_nx];have hl2:∀ (l:M.S) (x y:O),(l++[x]++[y])[l.length+1]? = some y:=λl x y=>by simp
  simp only[hl2,j,R.stm_ok,qw,qx,RS.then_nx]
 unfold VJ;rw[b1];by_cases hA:0 < cv % 5
 ·obtain⟨w,ew,lw⟩:=FA H I (S:=.lst (N.map .str)::A::B::.dct (ans.map pd)::f) (p:=0) rfl (cv / 5);have zl:(ans.map pd).length < SZ:=by rw[jS];unfold SZ;lia
  have zl2:((yW e w ans).map pd).length < SZ:=by
   have:=Vt (k:=e) (v:=w) (kvs:=ans);rw[jS];unfold SZ;lia
  have b2:(yu (zA 5) (zA 7) (zK JM (zB (eOp jO (zK jz (zB (zA 0) (zB (eOp zc (eC (.int 2)) (zA 6)) zC))) (eC (.int 5))) (zB (zA 1) zC)))) [some (R0 ns),some (.ref 0),v2,v3,v4,some (.ref 3),some (.int (k:Int)),some (.str e),none,none,none] (.lst (N.map .str)::A::B::.dct (ans.map pd)::f)=.nx [some (R0 ns),some (.ref 0),v2,v3,v4,some (.ref 3),some (.int (k:Int)),some (.str e),none,none,none] (.lst (N.map .str)::A::B::.dct ((yW e w ans).map pd)::f):=by
   have d5:(0:Int) < 5/\(5:Int).natAbs < 1073741824:=by decide
   simp only[yu,zK,zB,zC,eOp,zA,eC,jJ,jW,R.bind_ok,zc,G,jO,d5,and_self,if_true,ew,R.stm_ok,yj,qC,zl,decide_true,lF,cq,qw,qx]
  have tA:(zN cGt (eOp jD (zK jz (zB (zA 0) (zB (eOp zc (eC (.int 2)) (zA 6)) zC))) (eC (.int 5))) (eC (.int 0))) [some (R0 ns),some (.ref 0),v2,v3,v4,some (.ref 3),some (.int (k:Int)),some (.str e),none,none,none] (.lst (N.map .str)::A::B::.dct (ans.map pd)::f)=.ok true (.lst (N.map .str)::A::B::.dct (ans.map pd)::f):=by
   have d5:(0:Int) < 5:=by decide
   simp only[zN,zK,zB,zC,eOp,zA,eC,jJ,jW,R.bind_ok,zc,G,jD,d5,if_true,cGt,hA,decide_true]
  have E:w.length <= 900:=by lia
  by_cases hB:c1 / 2 % 4=1/\c1 / 8 % 16=(k:Int)
  ·refine⟨yW e (cut (z9 900 (w++[97])).flatten none (some 900)) (yW e w ans),f,some (.str e),UZ (UZ J E) ?_,?_,?_⟩
   ·rw[Yr _ (by decide),ZG];exact Nat.min_le_left _ _
   ·have h1:=Vt (k:=e) (v:=w) (kvs:=ans);have h2:=Vt (k:=e) (v:=cut (z9 900 (w++[97])).flatten none (some 900)) (kvs:=yW e w ans)
    lia
   ·rw[sIf,tA,R.stm_ok,if_pos rfl,zH,b2,RS.then_nx];have tB:(qr (zN cEq (eOp jD (eOp jO (zK jz (zB (zA 0) (zB (eC (.int 1)) zC))) (eC (.int 2))) (eC (.int 4))) (eC (.int 1))) (zN cEq (eOp jD (eOp jO (zK jz (zB (zA 0) (zB (eC (.int 1)) zC))) (eC (.int 8))) (eC (.int 16))) (zA 6))) [some (R0 ns),some (.ref 0),v2,v3,v4,some (.ref 3),some (.int (k:Int)),some (.str e),none,none,none] (.lst (N.map .str)::A::B::.dct ((yW e w ans).map pd)::f)=.ok true (.lst (N.map .str)::A::B::.dct ((yW e w ans).map pd)::f):=by
     simp[m,hB.1,hB.2]
    rw[sIf,tB,R.stm_ok,if_pos rfl];have hg:qM (.str e) ((yW e w ans).map pd)=some (.str w):=by rw[XA,IW];rfl
    have Q:w.length+1 <= SZ:=by unfold SZ;lia
    have U:0 <= (900:Int)/\(900:Int).natAbs <= 1000000/\(w++[97]).length * (900:Int).natAbs <= 1000000:=by
     refine⟨by decide,by decide,?_⟩;have:(w++[97]).length <= 61:=by simp;lia
     show (w++[97]).length * 900 <= 1000000
     lia
    have m3:((z9 900 (w++[97])).flatten).length <= SZ:=by
     rw[Bn,List.map_replicate,List.sum_replicate_nat];have:(w++[97]).length <= 61:=by simp;lia
     unfold SZ
     lia
    have m4:(900:Int).toNat=900:=rfl;have w1:w.length+([97]:T).length <= SZ:=Q;have o1:∀ s,qe (.str (w++[97])) (.int 900) s=.ok (.str (z9 900 (w++[97])).flatten) s:=λs=>by
     show (if _ then _ else _)=_;rw[if_pos U];rfl
    generalize (z9 900 (w++[97])).flatten=fl at *;have o2:∀ s,slD (.str fl) none (some 900) s=.ok (.str (cut fl none (some 900))) s:=λs=>by
     show (if _ then _ else _)=_;rw[if_pos m3]
    simp only[yu,eSl,qb,jr,eOp,zA,eC,jJ,jW,R.bind_ok,zI,qC,hg,if_true,zc,w1,o1,o2,R.stm_ok,yj,zl2,decide_true,lF,cq,qw,qx]
  ·refine⟨yW e w ans,f,some (.str e),UZ J E,by have:=Vt (k:=e) (v:=w) (kvs:=ans);lia,?_⟩;rw[sIf,tA,R.stm_ok,if_pos rfl,zH,b2,RS.then_nx];by_cases o:c1 / 2 % 4=1
   ·have hB2:¬ c1 / 8 % 16=(k:Int):=λz=>hB ⟨o,z⟩;simp[m,o,hB2]
   ·simp[m,o]
 ·refine⟨ans,f,some (.str e),J,by lia,?_⟩;simp[G,hA]
theorem ei {N:List T} (m:N.length=8) (w:∀ t∈N,t.length <= 17) {A B:O}{v2 v3 v4:Option D} :
  ∃ (ans:List (T×T)) (g:M.S) (c v7:Option D),(∀ q∈ans,q.2.length <= 900)/\XD [some (R0 ns),some (.ref 0),v2,v3,v4,some (.ref 3),none,none,none,none,none] [.lst (N.map .str),A,B,.dct []]=.nx [some (R0 ns),some (.ref 0),v2,v3,v4,some (.ref 3),c,v7,none,none,none] (.lst (N.map .str)::A::B::.dct (ans.map pd)::g):=by
 obtain⟨x,H,e,ans,g,c,v7,n,o,p,r⟩:=Kq (g:=[]) (f:=qU (zw 6) VJ) (λj σ s=>∃ (ans:List (T×T)) (g:M.S) (c v7:Option D),(∀ q∈ans,q.2.length <= 900)/\ans.length <= 2 * j/\σ=[some (R0 ns),some (.ref 0),v2,v3,v4,some (.ref 3),c,v7,none,none,none]/\s=.lst (N.map .str)::A::B::.dct (ans.map pd)::g) (qI 0 16) 0 [some (R0 ns),some (.ref 0),v2,v3,v4,some (.ref 3),none,none,none,none,none] [.lst (N.map .str),A,B,.dct []] ⟨[],[],none,none,(λq h=>nomatch h),zo _,rfl,rfl⟩ λj d hd σ s ⟨ans,g,c,v7,n,o,p,r⟩=>by
  subst p r;have i:j < 16:=by have:=(List.getElem?_eq_some_iff.mp hd).1;simpa [qI] using this
  have u:d=.int (j:Int):=by
   have:∀ k:Nat,k < 16->(qI 0 16)[k]? = some (.int (k:Int)):=by decide
   rw[this j i] at hd;cases hd;rfl
  subst u;rw[qQ] at o;obtain⟨l,g',v,y,z,C⟩:=fW (ns:=ns) m w (A:=A) (B:=B) (g:=g) n i o (v2:=v2) (v3:=v3) (v4:=v4) (v7:=v7);exact⟨_,_,C,rfl,l,g',_,v,y,by rw[qQ];exact z,rfl,rfl⟩
 refine⟨ans,g,c,v7,n,?_⟩;subst p r;have E:∀ s,zh [] s=true:=λ_=>rfl;have G:(16:Int).natAbs < 4611686018427387904:=by decide
 rw[MM];simp only[qs,qt,eC,R.bind_ok,G,if_true,R.stm_ok,E,e]
theorem LQ (ns:List Int) (hl:ns.length <= 63):∃ s,Up [.ro (ns.map .int)] []=.ok (.bl true) s:=by
 have U:∀ s,jz [R0 ns,.int 0] s=.ok (.int (Qs ns 0)) s:=λs=>V9 ns 0 s;have v:∀ s,jz [R0 ns,.int 1] s=.ok (.int (Qs ns 1)) s:=λs=>V9 ns 1 s;generalize Qs ns 0=Y at *;generalize Qs ns 1=c1 at *;obtain⟨N,eN⟩:∃ N,N=yL Y 8:=⟨_,rfl⟩
 have l:N.length=8:=by rw[eN];exact U3 Y 8
 have Q:∀ t∈N,t.length <= 17:=λt ht=>(bB Y 8 t (eN ▸ ht)).2;have z1:(1:Nat) <= SZ:=by decide
 have z2:(2:Nat) <= SZ:=by decide
 obtain⟨fam,w⟩:∃ fam:Bool,fam=decide (c1 % 2=0):=⟨_,rfl⟩
 obtain⟨f,i5,a5⟩:=QB (ts:=N) (k:=5) (by decide) (by lia);obtain⟨st,m⟩:∃ st:D,st=if fam=true then .str f else .non:=⟨_,rfl⟩
 have z:fam=true->∃ x,st=.str x:=λh=>⟨f,by rw[m,if_pos h]⟩
 have i:(yz st).length <= 900:=by
  rw[m];split
  ·exact jM (Q f i5) (by decide)
  ·exact ZV _
 have e1:Ke [some (R0 ns),none,none,none,none,none,none,none,none,none,none] []=.nx [some (R0 ns),some (.ref 0),none,none,none,none,none,none,none,none,none] [.lst (N.map .str)]:=by
  simp only[Ke,zQ,zK,zB,zC,zA,eC,jJ,R.bind_ok,U,Kn,alloc,<- eN,jw,Xd,R.stm_ok,qw,qx]
 have e2:kS [some (R0 ns),some (.ref 0),none,none,none,none,none,none,none,none,none] [.lst (N.map .str)]=.nx [some (R0 ns),some (.ref 0),some (.bl fam),none,none,none,none,none,none,none,none] [.lst (N.map .str)]:=by
  rw[w];simp[kS,v]
 have e3:XU [some (R0 ns),some (.ref 0),some (.bl fam),none,none,none,none,none,none,none,none] [.lst (N.map .str)]=.nx [some (R0 ns),some (.ref 0),some (.bl fam),some st,none,none,none,none,none,none,none] [.lst (N.map .str),.lst [.non,.str f]]:=by
  have p0:∀ x y:D,atI [x,y] 0=some x:=λ_ _=>rfl;have p1:∀ x y:D,atI [x,y] 1=some y:=λ_ _=>rfl;rw[m];cases fam<;>simp[XU,a5,z2,p0,p1]
 obtain⟨cs,ecs⟩:=lR ns hl 18 26 (by decide) (by decide) [.lst (N.map .str),.lst [.non,.str f]];obtain⟨t,hg,_,et⟩:=D1 (fam:=fam) (N:=N) l Q (st:=st) z (S:=[.lst (N.map .str),.lst [.non,.str f],.lst (cs.map .int)]) (p:=2) (q:=0) (cs:=cs) rfl rfl;have e4:kc [some (R0 ns),some (.ref 0),some (.bl fam),some st,none,none,none,none,none,none,none] [.lst (N.map .str),.lst [.non,.str f]]=.nx [some (R0 ns),some (.ref 0),some (.bl fam),some st,some t.d,none,none,none,none,none,none] [.lst (N.map .str),.lst [.non,.str f],.lst (cs.map .int)]:=by
  have C:kH [R0 ns,.int 18,.int 26] [.lst (N.map .str),.lst [.non,.str f]]=.ok (.ref 2) [.lst (N.map .str),.lst [.non,.str f],.lst (cs.map .int)]:=ecs;simp only[kc,zQ,zK,zB,zC,zA,eC,jJ,jW,R.bind_ok,C,et,R.stm_ok,qw,qx]
 obtain⟨t',o,e5⟩:=ih (ns:=ns) (c1:=c1) l Q hg (s:=[.lst (N.map .str),.lst [.non,.str f],.lst (cs.map .int)]) rfl v (v2:=some (.bl fam)) (v3:=some st);have e6:XG [some (R0 ns),some (.ref 0),some (.bl fam),some st,some t'.d,none,none,none,none,none,none] [.lst (N.map .str),.lst [.non,.str f],.lst (cs.map .int)]=.nx [some (R0 ns),some (.ref 0),some (.bl fam),some st,some t'.d,some (.ref 3),none,none,none,none,none] [.lst (N.map .str),.lst [.non,.str f],.lst (cs.map .int),.dct []]:=by
  simp[XG]
 obtain⟨ans,g,u,v7,hv,e7⟩:=ei (ns:=ns) l Q (A:=.lst [.non,.str f]) (B:=.lst (cs.map .int)) (v2:=some (.bl fam)) (v3:=some st) (v4:=some t'.d);generalize hS7:(O.lst (N.map .str)::.lst [.non,.str f]::.lst (cs.map .int)::.dct (ans.map pd)::g:M.S)=c at *;have h3:c[3]? = some (.dct (ans.map pd)):=by rw[<- hS7];rfl
 have l3:3 < c.length:=(List.getElem?_eq_some_iff.mp h3).1;have e8:x8 [some (R0 ns),some (.ref 0),some (.bl fam),some st,some t'.d,some (.ref 3),u,v7,none,none,none] c=.nx [some (R0 ns),some (.ref 0),some (.bl fam),some st,some t'.d,some (.ref 3),u,v7,some (.ref c.length),none,none] (c++[.dct (kvW 3 st (c.length+1) 500),.lst []]):=by
  have z0:(0:Nat) <= SZ:=by decide
  have hp:XJ [.str [97,110,115,119,101,114,115],.ref 3,.str [115,116,101,109],st,.str [117,115,101,100],.ref (c.length+1),.str [108,101,102,116],.int 500] []=some (kvW 3 st (c.length+1) 500):=rfl;have hk:(kvW 3 st (c.length+1) 500).length <= 15/\(8:Nat) <= 30:=by
   constructor
   ·show (4:Nat) <= 15;decide
   ·decide
  have hat:(c++[O.dct []]++[O.lst []])[c.length]? = some (.dct []):=by simp
  have G:(c++[O.dct []]++[O.lst []]).set c.length (.dct (kvW 3 st (c.length+1) 500))=c++[.dct (kvW 3 st (c.length+1) 500),.lst []]:=by simp
  have hln:(c++[O.dct []]).length=c.length+1:=by simp
  simp only[x8,zQ,Vu,zB,zC,eC,zA,jT,jJ,jW,R.bind_ok,jw,z0,if_true,alloc,hln,hat,hp,zx,qQ,xM,hk,and_self,G,R.stm_ok,qw,qx]
 have w8:Wd ans st c.length 3 (c.length+1) (c++[.dct (kvW 3 st (c.length+1) 500),.lst []]) (500 - ((0:Nat):Int)) []:=⟨by simp,yl h3 _,by simp,by lia,by lia,by lia⟩
 obtain⟨r,H,w9,f9,_⟩:=BO hv i 20 (by decide) t' false .non o (λh=>nomatch h) _ (0,[]) ⟨ZV _,zo _⟩ w8;have hU:=w9.opU;have I:=w9.eu;have J:=w9.ea;obtain⟨E,hE⟩:∃ E,E=ev ans st 20 t' .non (0,[]):=⟨_,rfl⟩
 rw[<- hE] at H I;have e9:kK [some (R0 ns),some (.ref 0),some (.bl fam),some st,some t'.d,some (.ref 3),u,v7,some (.ref c.length),none,none] (c++[.dct (kvW 3 st (c.length+1) 500),.lst []])=.nx [some (R0 ns),some (.ref 0),some (.bl fam),some st,some t'.d,some (.ref 3),u,v7,some (.ref c.length),some (.tup [zW (zv E.1),.ref (c.length+1)]),none] r:=by
  have hU':zI (.ref c.length) (.str [117,115,101,100]) r=.ok (.ref (c.length+1)) r:=hU;simp only[kK,zQ,ze,zB,zC,zK,zA,eC,eOp,jJ,jW,R.bind_ok,H,hU',zx,jw,qQ,xM,z2,if_true,R.stm_ok,qw,qx]
 obtain⟨la,ga,ea,ka⟩:=Cu (S:=r++[.dct (ans.map pd)]) (st:=st) (a:=r.length) (ans:=ans) (by simp) hv i (n:=20) (by decide) o;rw[<- hE] at ea ka;obtain⟨e,j⟩:∃ e,e=r++[.dct (ans.map pd)]++ga:=⟨_,rfl⟩
 rw[<- j] at ea ka;have e10:XO [some (R0 ns),some (.ref 0),some (.bl fam),some st,some t'.d,some (.ref 3),u,v7,some (.ref c.length),some (.tup [zW (zv E.1),.ref (c.length+1)]),none] r=.nx [some (R0 ns),some (.ref 0),some (.bl fam),some st,some t'.d,some (.ref 3),u,v7,some (.ref c.length),some (.tup [zW (zv E.1),.ref (c.length+1)]),some (.tup [zW (zv E.1),.ref la])] e:=by
  simp only[XO,zQ,zK,zB,zC,zA,jJ,jW,R.bind_ok,k8,J,alloc,ea,R.stm_ok,qw,qx]
 have L:e[c.length+1]? = some (.lst (E.2.2.map .str)):=by rw[j];exact yl (yl I _) _
 have a10:e[3]? = some (.dct (ans.map pd)):=by rw[j];exact yl (yl J _) _
 have q10:=dj (zv E.1) ka L;obtain⟨lb,gb,eb,kb⟩:=Cu (S:=e++[.dct (ans.map pd)]) (st:=st) (a:=e.length) (ans:=ans) (by simp) hv i (n:=20) (by decide) o;rw[<- hE] at eb kb;have q11:=dj (zv E.1) kb (yl (yl L [.dct (ans.map pd)]) gb);refine⟨e++[.dct (ans.map pd)]++gb,?_⟩;show ((Ke [some (R0 ns),none,none,none,none,none,none,none,none,none,none] []).then (zH kS (zH XU (zH kc (zH JU (zH XG (zH XD (zH x8 (zH kK (zH XO Vd)))))))))).out=_;rw[e1,RS.then_nx];show ((kS _ _).then _).out=_;rw[e2,RS.then_nx];show ((XU _ _).then _).out=_;rw[e3,RS.then_nx];show ((kc _ _).then _).out=_;rw[e4,RS.then_nx];show ((JU _ _).then _).out=_;rw[e5,RS.then_nx];show ((XG _ _).then _).out=_;rw[e6,RS.then_nx];show ((XD _ _).then _).out=_;rw[e7,RS.then_nx];show ((x8 _ _).then _).out=_;rw[e8,RS.then_nx];show ((kK _ _).then _).out=_;rw[e9,RS.then_nx];show ((XO _ _).then _).out=_;rw[e10,RS.then_nx];simp only[Vd,zX,JQ,zK,Qg,Z4,zB,zC,zA,eC,yt,jJ,jW,R.bind_ok,asB,if_true,cEq,q10,k8,a10,alloc,eb,q11,R.stm_ok,RS.out]
end
end M
namespace My
open PySem L2 PyProof.Rows
noncomputable def top (i:Nat):zf:=PySem.Challenge.pw_thingyard_k46_plain_working.main.body.getD i (.Pass ⟨0,0,0,0⟩)
theorem vv {X:Cx}{pos:Pos}{x:Str} (i:Nat) (c:X.N[i]? = some x:=by rfl) (e:Vis X.env.scope x:=by exact yJ (by kernel_rfl)) (f:(x == ("__debug__" : Str))=false:=by kernel_rfl) (g:(x == ("__classdict__" : Str))=false:=by kernel_rfl):WE X h (.Name x pos) (M.zA i):=w_me_var i c e f g
structure Qh (i:Nat):Prop
theorem vcm {X:Cx}{pos:Pos}{x:Str} (i:Nat) (_:Qh i) (c:X.N[i]? = some x:=by rfl) (e:Vis X.env.scope x:=by exact vg (yJ (by kernel_rfl))) (f:(x == ("__debug__" : Str))=false:=by kernel_rfl) (g:(x == ("__classdict__" : Str))=false:=by kernel_rfl):WE X h (.Name x pos) (M.zA i):=w_me_var i c e f g
theorem zz {X:Cx}{pos:Pos}{y:M.T}{x:Str}{j:Nat} (h:x=ofT y:=by decide +kernel) (ok:okT y:=by decide +kernel):WE X c (.Constant (.str x) j pos) (M.eC (.str y)):=w_me_str h ok
theorem gk {X:Cx}{x:Str} (h:X.env.kindOf x=some .globalImplicit:=by kernel_rfl):Gl X x:=h
def V3 (K:PySem.W.Frag):Sp:=λvs H Q E=>∀ c:Tab,SpM K c 1 M.Up vs H Q E
theorem IY {K:PySem.W.Frag}{a:zE}{ns:List Int} (c:ns.length <= 63) (e:va H) (f:SqL K H a (ns.map V.int)):V3 K [.ref a] H (λv _=>v=.bl true) E:=λ_=>E8 M.LQ c e f
noncomputable def Θ1 (e:zE):Tab:=⟨λc=>if c=4 then some (e,["stem","answers","used","steps","texts","todo","ended"]) else none,λ_=>0,λ_ _ _=>False⟩
section
variable (P:jB) (w:jG) (K:PySem.W.Frag) (mg:Str->Option zD) (base:zi) (zF:zE)
abbrev dH:Prop:=Uj P w K mg base zF "Working" 1 ["self","tree","stem","answers"] (SpM K (Θ1 zF) 4 M.vb)
abbrev YP:Prop:=yR P w K mg base zF "fail" 1 ["self","words"] (SpM K (Θ1 zF) 2 M.xJ)
abbrev ko:Prop:=yR P w K mg base zF "come_to" 2 ["self","text"] (SpM K (Θ1 zF) 2 M.yp)
abbrev DA:Prop:=yR P w K mg base zF "bare_text" 1 ["self","part","it"] (SpM K (Θ1 zF) 3 M.Qq)
abbrev Wc:Prop:=yR P w K mg base zF "come_to_answer" 3 ["self","name"] (SpM K (Θ1 zF) 2 M.Z7)
abbrev dO:Prop:=yR P w K mg base zF "put_parts" 1 ["self","parts","it"] (SpM K (Θ1 zF) 3 M.xj)
abbrev De:Prop:=yR P w K mg base zF "begin_inner" 2 ["self","part","it"] (SpM K (Θ1 zF) 3 M.Q7)
abbrev BL:Prop:=yR P w K mg base zF "begin" 4 ["self","part","it"] (SpM K (Θ1 zF) 3 M.QN)
abbrev aZ:Prop:=yR P w K mg base zF "end_join" 3 ["self","number"] (SpM K (Θ1 zF) 2 M.Jk)
abbrev aa:Prop:=yR P w K mg base zF "choose" 1 ["self","part","it"] (SpM K (Θ1 zF) 3 M.kB)
abbrev Xc:Prop:=Has P w K mg base "words_of" 1 ["text"] (SpM K (Θ1 zF) 1 M.yd)
abbrev wD:Prop:=yR P w K mg base zF "go_on_round" 1 ["self","part","words","number"] (SpM K (Θ1 zF) 4 M.Zw)
abbrev bW:Prop:=yR P w K mg base zF "begin_each" 2 ["self","part"] (SpM K (Θ1 zF) 2 M.kE)
abbrev AS:Prop:=yR P w K mg base zF "go_round" 3 ["self","part","words","number"] (SpM K (Θ1 zF) 4 M.kT)
abbrev aM:Prop:=Has P w K mg base "is_letter" 1 ["sign"] (SpM K (Θ1 zF) 1 M.k6)
abbrev Cc:Prop:=Has P w K mg base "is_plain" 2 ["thing"] (SpM K (Θ1 zF) 1 M.ye)
abbrev bD:Prop:=Has P w K mg base "is_name" 3 ["thing"] (SpM K (Θ1 zF) 1 M.yS)
abbrev A8:Prop:=Has P w K mg base "sorted_words" 2 ["text"] (SpM K (Θ1 zF) 1 M.vP)
abbrev DU:Prop:=Has P w K mg base "turned_about" 1 ["text"] (SpM K (Θ1 zF) 1 M.KH)
abbrev Ak:Prop:=Has P w K mg base "first_word" 2 ["text"] (SpM K (Θ1 zF) 1 M.Ki)
abbrev aV:Prop:=Has P w K mg base "rest_words" 2 ["text"] (SpM K (Θ1 zF) 1 M.vK)
abbrev cF:Prop:=Has P w K mg base "counted" 2 ["text"] (SpM K (Θ1 zF) 1 M.Kb)
abbrev ax:Prop:=Has P w K mg base "made_of" 3 ["kind","text"] (SpM K (Θ1 zF) 2 M.X8)
abbrev Bm:Prop:=yR P w K mg base zF "end_single" 4 ["self","kind"] (SpM K (Θ1 zF) 2 M.Qj)
abbrev B8:Prop:=yR P w K mg base zF "run" 5 ["self"] (SpM K (Θ1 zF) 1 M.ke)
abbrev BX:Prop:=Has P w K mg base "worked" 6 ["tree","stem","answers"] (SpM K (Θ1 zF) 3 M.kU)
abbrev uu:Prop:=Has P w K mg base "_law_letter" 1 ["_law_cell"] (SpM K (Θ1 zF) 1 M.yo)
abbrev cj:Prop:=Has P w K mg base "_law_plain_by" 2 ["_law_cell","_law_k"] (SpM K (Θ1 zF) 2 M.Xf)
abbrev b5:Prop:=Has P w K mg base "_law_names_by" 3 ["_law_cell"] (SpM K (Θ1 zF) 1 M.Kn)
abbrev Cf:Prop:=Has P w K mg base "_law_sign_by" 1 ["_law_cell"] (SpM K (Θ1 zF) 1 M.xP)
abbrev ux:Prop:=Has P w K mg base "_law_text_by" 2 ["_law_cell","_law_size"] (SpM K (Θ1 zF) 2 M.x3)
abbrev Am:Prop:=Has P w K mg base "_law_leaf_by" 3 ["_law_cell","_law_names","_law_family"] (SpM K (Θ1 zF) 3 M.JX)
abbrev Wb:Prop:=Has P w K mg base "_law_high" 20 ["_law_tree"] (SpM K (Θ1 zF) 1 M.Jf)
abbrev Bk:Prop:=Has P w K mg base "_law_tree_by" 21 ["_law_cells_here","_law_names","_law_family"] (SpM K (Θ1 zF) 3 M.XN)
abbrev We:Prop:=Has P w K mg base "_law_mixed" 1 ["_law_cell","_law_k"] (SpM K (Θ1 zF) 2 M.Q6)
abbrev DP:Prop:=Has P w K mg base "_law_cell_at" 2 ["_law_script","_law_k"] (SpM K (Θ1 zF) 2 M.jz)
abbrev CH:Prop:=Has P w K mg base "_law_cells" 2 ["_law_script","_law_at","_law_end"] (SpM K (Θ1 zF) 3 M.kH)
abbrev VR:Prop:=Has P w K mg base "_law_asked" 1 ["_law_name","_law_world"] (SpM K (Θ1 zF) 2 M.kn)
abbrev BB:Prop:=Has P w K mg base "_law_bare" 2 ["_law_tree","_law_it","_law_world"] (SpM K (Θ1 zF) 3 M.VN)
abbrev vk:Prop:=Has P w K mg base "_law_words" 1 ["_law_text"] (SpM K (Θ1 zF) 1 M.Z3)
abbrev WR:Prop:=Has P w K mg base "_law_word" 2 ["_law_kind","_law_text"] (SpM K (Θ1 zF) 2 M.XM)
abbrev dy:Prop:=Has P w K mg base "_law_is_plain" 1 ["_law_word_here"] (SpM K (Θ1 zF) 1 M.J9)
abbrev U7:Prop:=Has P w K mg base "_law_is_name" 2 ["_law_text"] (SpM K (Θ1 zF) 1 M.KS)
abbrev dF:Prop:=Has P w K mg base "_law_come" 62 ["_law_tree","_law_it","_law_world"] (SpM K (Θ1 zF) 3 M.CI)
abbrev aX:Prop:=Has P w K mg base "_law_answer_by" 3 ["_law_cell","_law_names"] (SpM K (Θ1 zF) 2 M.JM)
end
variable {P:jB}{w:jG}{K:PySem.W.Frag}{mg:Str->Option zD}{base:zi}{f:zE}{fd:QI}{cdv:zD}{A:jc}{outer:List Env}{s:zJ}{H:Hp}{E:XK}{zF:zE}
abbrev yV (K:PySem.W.Frag) (zF:zE):Prop:=QG K (Θ1 zF) 4 zF ["stem","answers","used","steps","texts","todo","ended"]
local macro_rules
 | `(tactic| ac_rfl)=>`(tactic| first
  | ((with_reducible show WE _ _ _ _);first
   | ((with_reducible show WE _ _ _ (M.zA _));first
    | exact vcm _ (by assumption)
    | exact vv _)
   | ((with_reducible show WE _ _ _ (M.eC _));first
    | exact w_me_int
    | exact zz
    | exact w_me_bl
    | exact w_me_non
    | exact w_me_ty .str gk (by assumption) WB
    | exact w_me_ty .tuple gk (by assumption) AH)
   | ((with_reducible show WE _ _ _ (M.eOp _ _ _));first
    | ((with_reducible show WE _ _ _ (M.eOp M.zI _ _));refine w_me_ix (x9 (by assumption)) Xi ?_ ?_<;>ac_rfl)
    | ((with_reducible show WE _ _ _ (M.eOp M.zc _ _));refine w_me_op (OpR.or vp Vr) Ye ?_ ?_<;>ac_rfl)
    | ((with_reducible show WE _ _ _ (M.eOp M.jD _ _));refine w_me_op FX gM ?_ ?_<;>ac_rfl)
    | ((with_reducible show WE _ _ _ (M.eOp M.jO _ _));refine w_me_op Lj Lw ?_ ?_<;>ac_rfl)
    | ((with_reducible show WE _ _ _ (M.eOp M.qe _ _));refine w_me_op Fo gR ?_ ?_<;>ac_rfl)
    | ((with_reducible show WE _ _ _ (M.eOp M.XB _ _));refine w_me_op HY MN ?_ ?_<;>ac_rfl)
    | ((with_reducible show WE _ _ _ (M.eOp M.VL _ _));refine w_me_op (OpR.or (OpR.or vp Vr) mY) gU ?_ ?_<;>ac_rfl))
   | ((with_reducible show WE _ _ _ (M.zK _ _));first
    | (refine w_me_call (by assumption) (by assumption) (by first | decide | omega) gk ?_ (by repeat first | exact Z5 | refine ZU ?_)<;>ac_rfl)
    | (refine w_me_callB uh ue gk (by assumption) UY ?_<;>ac_rfl)
    | (refine w_me_callB Cv d9 gk (by assumption) BK ?_<;>ac_rfl)
    | (refine w_me_callB (GW (by assumption)) my gk (by assumption) Mw ?_<;>ac_rfl)
    | (refine w_me_callTy gm gn gk (by assumption) WB ?_<;>ac_rfl)
    | (refine w_me_callTy (lj (by assumption)) nH gk (by assumption) Gp ?_<;>ac_rfl)
    | (refine w_me_callTy ER FS gk (by assumption) Mi ?_<;>ac_rfl)
    | (refine w_me_callTy L5 Mh gk (by assumption) Mz ?_<;>ac_rfl)
    | (refine w_me_callB (nL (by assumption)) fK gk (by assumption) Lc ?_<;>ac_rfl)
    | (refine w_me_callTy gO mG gk (by assumption) AH ?_<;>ac_rfl)
    | (refine w_me_callB (ek rfl) EA gk (by assumption) E2 ?_<;>ac_rfl))
   | ((with_reducible show WE _ _ _ (M.ze _));(refine w_me_tup ?_<;>ac_rfl))
   | ((with_reducible show WE _ _ _ (M.eM _ _ _ _));first
    | (refine w_me_m PySem.F.plainAttrs_list PySem.F.slot_list_append PySem.F.type_list_append AA AO rfl ?_ ?_<;>ac_rfl)
    | (refine w_me_m0 PySem.F.plainAttrs_list PySem.F.slot_list_pop PySem.F.type_list_pop E7 MZ rfl ?_<;>ac_rfl)
    | (refine w_me_m PySem.F.plainAttrs_str PySem.F.slot_str_join PySem.F.type_str_join bQ fc rfl ?_ ?_<;>ac_rfl)
    | (refine w_me_m PySem.F.plainAttrs_str PySem.F.slot_str_split PySem.F.type_str_split Dx nS rfl ?_ ?_<;>ac_rfl)
    | (refine w_me_repl ?_ (by decide +kernel) (by decide +kernel) rfl (by decide +kernel)<;>ac_rfl)
    | (refine w_me_m PySem.F.plainAttrs_str PySem.F.slot_str_find PySem.F.type_str_find HI nN rfl ?_ ?_<;>ac_rfl))
   | ((with_reducible show WE _ _ _ (M.jC _ _ _));(refine w_me_fld (by assumption) rfl ?_<;>ac_rfl))
   | ((with_reducible show WE _ _ _ (M.jT _));(refine w_me_lst ?_<;>ac_rfl))
   | ((with_reducible show WE _ _ _ (M.jN _ _ _ _));first
    | (refine w_me_meth (by assumption) (by assumption) (by assumption) (by first | decide | omega) (by decide +kernel) ?_ ?_ (by repeat first | exact Z5 | refine ZU ?_)<;>ac_rfl)
    | (refine w_me_meth0 (by assumption) (by assumption) (by assumption) (by first | decide | omega) (by decide +kernel) ?_<;>ac_rfl))
   | ((with_reducible show WE _ _ _ (M.eSl _ _ _));(refine w_me_sl IK iP ?_ ?_ ?_<;>ac_rfl))
   | ((with_reducible show WE _ _ _ (M.yt _ _ _));first
    | ((with_reducible show WE _ _ _ (M.yt M.cEq _ _));refine w_me_cmp (V0 (by assumption)) Yc ?_ ?_ (QA _)<;>ac_rfl)
    | ((with_reducible show WE _ _ _ (M.yt M.cLe _ _));refine w_me_cmp xT Jw ?_ ?_ (QA _)<;>ac_rfl)
    | ((with_reducible show WE _ _ _ (M.yt M.cIn _ _));refine w_me_cmp (uJ (by assumption)) UW ?_ ?_ (by rfl)<;>ac_rfl)
    | ((with_reducible show WE _ _ _ (M.yt M.cNe _ _));refine w_me_cmp (dS (by assumption)) DN ?_ ?_ (QA _)<;>ac_rfl))
   | ((with_reducible show WE _ _ _ (M.yC _ _ _ _ _));first
    | (refine w_me_comp (vars:=["_law_one"]) rfl ⟨rfl,rfl,(by kernel_rfl),(by kernel_rfl),(by decide +kernel),⟨(by kernel_rfl),trivial⟩,(by kernel_rfl)⟩ ?_ (λ_ _ _ _=>(w_mg_name (by first | assumption | exact of_decide_eq_true (by kernel_rfl)) rfl (yJ (by kernel_rfl)) (.inr (by kernel_rfl)))) ?_ ?_ (by kernel_rfl)<;>ac_rfl)
    | (refine w_me_comp (vars:=["word"]) rfl ⟨rfl,rfl,(by kernel_rfl),(by kernel_rfl),(by decide +kernel),trivial,(by kernel_rfl)⟩ ?_ (λ_ _ _ _=>(w_mg_name (by first | assumption | exact of_decide_eq_true (by kernel_rfl)) rfl (yJ (by kernel_rfl)) (.inr (by kernel_rfl)))) ?_ ?_ (by kernel_rfl)<;>ac_rfl)
    | (refine w_me_comp (vars:=["_law_part"]) rfl ⟨rfl,rfl,(by kernel_rfl),(by kernel_rfl),(by decide +kernel),trivial,(by kernel_rfl)⟩ ?_ (λ_ _ _ _=>(w_mg_name (by first | assumption | exact of_decide_eq_true (by kernel_rfl)) rfl (yJ (by kernel_rfl)) (.inr (by kernel_rfl)))) ?_ ?_ (by kernel_rfl)<;>ac_rfl)
    | (refine w_me_comp (vars:=["_law_k"]) rfl ⟨rfl,rfl,(by kernel_rfl),(by kernel_rfl),(by decide +kernel),⟨(by kernel_rfl),trivial⟩,(by kernel_rfl)⟩ ?_ (λ_ _ _ _=>(w_mg_name (by first | assumption | exact of_decide_eq_true (by kernel_rfl)) rfl (yJ (by kernel_rfl)) (.inr (by kernel_rfl)))) ?_ ?_ (by kernel_rfl)<;>ac_rfl)
    | (refine w_me_comp (vars:=["_law_word_here"]) rfl ⟨rfl,rfl,(by kernel_rfl),(by kernel_rfl),(by decide +kernel),trivial,(by kernel_rfl)⟩ ?_ (λ_ _ _ _=>(w_mg_name (by first | assumption | exact of_decide_eq_true (by kernel_rfl)) rfl (yJ (by kernel_rfl)) (.inr (by kernel_rfl)))) ?_ ?_ (by kernel_rfl)<;>ac_rfl)
    | (refine w_me_comp (vars:=["_law_word_here"]) rfl ⟨rfl,rfl,(by kernel_rfl),(by kernel_rfl),(by decide +kernel),⟨(by kernel_rfl),trivial⟩,(by kernel_rfl)⟩ ?_ (λ_ _ _ _=>(w_mg_name (by first | assumption | exact of_decide_eq_true (by kernel_rfl)) rfl (yJ (by kernel_rfl)) (.inr (by kernel_rfl)))) ?_ ?_ (by kernel_rfl)<;>ac_rfl))
   | ((with_reducible show WE _ _ _ (M.JQ _ _));(refine w_me_and ?_ ?_<;>ac_rfl))
   | ((with_reducible show WE _ _ _ (M.Jc _ _ _ _ _ _));first
    | (refine w_me_callC (Uv rfl) WY gk (by assumption) Ut (vars:=["part"]) rfl ⟨rfl,rfl,(by kernel_rfl),(by kernel_rfl),(by decide +kernel),trivial,(by kernel_rfl)⟩ ?_ (λ_ _ _ _=>(w_mg_name (by first | assumption | exact of_decide_eq_true (by kernel_rfl)) rfl (yJ (by kernel_rfl)) (.inr (by kernel_rfl)))) ?_ ?_ (by kernel_rfl)<;>ac_rfl)
    | (refine w_me_joinC (by decide +kernel) (vars:=["_law_j"]) rfl ⟨rfl,rfl,(by kernel_rfl),(by kernel_rfl),(by decide +kernel),⟨(by kernel_rfl),trivial⟩,(by kernel_rfl)⟩ ?_ (λ_ _ _ _=>(w_mg_name (by first | assumption | exact of_decide_eq_true (by kernel_rfl)) rfl (yJ (by kernel_rfl)) (.inr (by kernel_rfl)))) ?_ ?_ (by kernel_rfl) (λρ H S ds ys p Q rp r hq h=>KO (by decide +kernel) ρ H S ds ys p Q rp r (.inl hq) h)<;>ac_rfl)
    | (refine w_me_joinC (by decide +kernel) (vars:=["_law_k"]) rfl ⟨rfl,rfl,(by kernel_rfl),(by kernel_rfl),(by decide +kernel),⟨(by kernel_rfl),trivial⟩,(by kernel_rfl)⟩ ?_ (λ_ _ _ _=>(w_mg_name (by first | assumption | exact of_decide_eq_true (by kernel_rfl)) rfl (yJ (by kernel_rfl)) (.inr (by kernel_rfl)))) ?_ ?_ (by kernel_rfl) (λρ H S ds ys p Q rp r hq h=>KO (by decide +kernel) ρ H S ds ys p Q rp r (.inl hq) h)<;>ac_rfl)
    | (refine w_me_callC (Uv rfl) WY gk (by assumption) Ut (vars:=["_law_sign"]) rfl ⟨rfl,rfl,(by kernel_rfl),(by kernel_rfl),(by decide +kernel),trivial,(by kernel_rfl)⟩ ?_ (λ_ _ _ _=>(w_mg_name (by first | assumption | exact of_decide_eq_true (by kernel_rfl)) rfl (yJ (by kernel_rfl)) (.inr (by kernel_rfl)))) ?_ ?_ (by kernel_rfl)<;>ac_rfl))
   | ((with_reducible show WE _ _ _ (M.eUn _ _));first
    | (refine w_me_rev ?_<;>ac_rfl)
    | (refine w_me_joinrev (by decide +kernel) (by decide +kernel) (by assumption) gk (by assumption) ?_<;>ac_rfl))
   | ((with_reducible show WE _ _ _ M.VF);exact w_me_dnew)
   | ((with_reducible show WE _ _ _ (M.eIf _ _ _));(refine w_me_ifExp ?_ ?_ ?_<;>ac_rfl))
   | ((with_reducible show WE _ _ _ (M.uq _ _ _ _ _));(refine w_me_chain xT xT Jw Jw ?_ ?_ ?_<;>ac_rfl))
   | ((with_reducible show WE _ _ _ (M.K2 _ _ _ _));(refine w_me_make (by assumption) (by assumption) (by assumption) (by first | decide | omega) rfl gk ?_ (by repeat first | exact Z5 | refine ZU ?_)<;>ac_rfl))
   | ((with_reducible show WE _ _ _ (M.Vu _));(refine w_me_disp ?_<;>ac_rfl)))
  | ((with_reducible show WS _ _ _ _);first
   | ((with_reducible show WS _ _ _ (M.zQ _ _));first
    | ((with_reducible show WS _ _ _ (M.zQ 1 _));have:=(by assumption:Qh 1);(refine w_ms_set (by first | assumption | exact of_decide_eq_true (by kernel_rfl)) rfl (vg (by kernel_rfl)) ?_<;>ac_rfl))
    | (refine w_ms_set (by first | assumption | exact of_decide_eq_true (by kernel_rfl)) rfl (yJ (by kernel_rfl)) ?_<;>ac_rfl)
    | (refine w_ms_setcomp (vars:=["part"]) rfl ⟨rfl,rfl,(by kernel_rfl),(by kernel_rfl),(by decide +kernel),⟨(by kernel_rfl),trivial⟩,(by kernel_rfl)⟩ (by first | assumption | exact of_decide_eq_true (by kernel_rfl)) rfl (yJ (by kernel_rfl)) ?_ (λ_ _ _ _=>(w_mg_name (by first | assumption | exact of_decide_eq_true (by kernel_rfl)) rfl (yJ (by kernel_rfl)) (.inr (by kernel_rfl)))) ?_ ?_ (by kernel_rfl)<;>ac_rfl))
   | ((with_reducible show WS _ _ _ (M.zX _));(refine w_ms_ret ?_<;>ac_rfl))
   | ((with_reducible show WS _ _ _ (M.sIf _ _ _));(refine w_ms_if ?_ ?_ ?_<;>ac_rfl))
   | ((with_reducible show WS _ _ _ (M.z6 _));(refine w_ms_expr ?_<;>ac_rfl))
   | ((with_reducible show WS _ _ _ (M.ZK _ _ _ _));(refine w_ms_fld (by assumption) rfl ?_ ?_<;>ac_rfl))
   | ((with_reducible show WS _ _ _ (M.qs _ _ _));(refine w_ms_for fP rfl ?_ (w_mg_name (by first | assumption | exact of_decide_eq_true (by kernel_rfl)) rfl (yJ (by kernel_rfl)) (.inl rfl)) ?_<;>ac_rfl))
   | ((with_reducible show WS _ _ _ (M.yu _ _ _));(refine w_ms_sub (by assumption) ?_ ?_ ?_<;>ac_rfl))
   | ((with_reducible show WS _ _ _ (M.VP _ _));(refine w_ms_while fP ?_ ?_<;>ac_rfl)))
  | ((with_reducible show WA _ _ _ _);first
   | ((with_reducible show WA _ _ _ (M.zB _ _));(refine w_ma_cons ?_ ?_<;>ac_rfl))
   | ((with_reducible show WA _ _ _ M.zC);exact w_ma_nil))
  | ((with_reducible show WSs _ _ _ _);first
   | ((with_reducible show WSs _ _ _ (M.zH _ _));(refine w_mss_cons ?_ ?_<;>ac_rfl))
   | ((with_reducible show WSs _ _ _ M.zq);exact w_mss_nil))
  | ((with_reducible show WT _ _ _ _);first
   | ((with_reducible show WT _ _ _ (M.zN _ _ _));first
    | ((with_reducible show WT _ _ _ (M.zN M.cEq _ _));refine w_mt_cmp (V0 (by assumption)) Yc ?_ ?_ (QA _)<;>ac_rfl)
    | ((with_reducible show WT _ _ _ (M.zN M.cLt _ _));refine w_mt_cmp Hh nZ ?_ ?_ (QA _)<;>ac_rfl)
    | ((with_reducible show WT _ _ _ (M.zN M.cIn _ _));refine w_mt_cmp (uJ (by assumption)) UW ?_ ?_ (by rfl)<;>ac_rfl)
    | ((with_reducible show WT _ _ _ (M.zN M.cNe _ _));refine w_mt_cmp (dS (by assumption)) DN ?_ ?_ (QA _)<;>ac_rfl)
    | ((with_reducible show WT _ _ _ (M.zN M.cGt _ _));refine w_mt_cmp WH wV ?_ ?_ (QA _)<;>ac_rfl)
    | ((with_reducible show WT _ _ _ (M.zN M.Ql _ _));refine w_mt_cmp (Ap (by assumption)) aS ?_ ?_ (by rfl)<;>ac_rfl))
   | ((with_reducible show WT _ _ _ (M.Zi _));(refine w_mt_tru ?_<;>ac_rfl))
   | ((with_reducible show WT _ _ _ (M.QL _));(refine w_mt_not ?_<;>ac_rfl))
   | ((with_reducible show WT _ _ _ (M.Jl _));(refine w_mt_isN ?_<;>ac_rfl))
   | ((with_reducible show WT _ _ _ (M.JR _ _ _ _ _));(refine w_mt_chain xT xT Jw Jw ?_ ?_ ?_<;>ac_rfl)))
  | ((with_reducible show WO _ _ _ _);first
   | ((with_reducible show WO _ _ _ (M.jr _));(refine w_mo_some ?_<;>ac_rfl))
   | ((with_reducible show WO _ _ _ M.qb);exact w_mo_none))
  | ((with_reducible show WI _ _ _ _ _);first
   | ((with_reducible show WI _ _ _ _ (M.iE _));(refine w_mi_e ?_<;>ac_rfl))
   | ((with_reducible show WI _ _ _ _ (M.qt _));(refine w_mi_range1 gk (by assumption) ?_<;>ac_rfl))
   | ((with_reducible show WI _ _ _ _ (M.vG _));(refine w_mi_reversed gk (by assumption) ?_<;>ac_rfl))
   | ((with_reducible show WI _ _ _ _ (M.KN _ _));(refine w_mi_range2 gk (by assumption) ?_ ?_<;>ac_rfl)))
  | ((with_reducible show WW _ _ _ _);first
   | ((with_reducible show WW _ _ _ (M.qr _ _));(refine w_mw_and ?_ ?_<;>ac_rfl))
   | ((with_reducible show WW _ _ _ (M.tOr _ _));(refine w_mw_or ?_ ?_<;>ac_rfl)))
  | ((with_reducible show WP _ _ _ _ _ _);first
   | ((with_reducible show WP _ _ _ _ _ (M.zB _ _));(refine w_mp_cons ?_ ?_ ?_<;>ac_rfl))
   | ((with_reducible show WP _ _ _ _ _ M.zC);exact w_mp_nil))
  | (refine w_mss_one ?_<;>ac_rfl)
  | (refine w_mt_ofw ?_<;>ac_rfl)
  | exact bb
  | (refine w_mw_one_and ?_<;>ac_rfl)
  | (refine w_mw_one_or ?_<;>ac_rfl)
  | (refine w_me_one ?_<;>ac_rfl)
  | (refine ey ?_<;>ac_rfl)
  | (intro _ _ _ _;ac_rfl))
noncomputable abbrev Af:zf:=yx (top 17) 0
theorem mz (F:Fun K "__init__" "Working.__init__" Af f fd) (c:yV K zF) :
  zm P w K mg base CX0 1 f fd ["self","tree","stem","answers"] (SpM K (Θ1 zF) 4 M.vb):=by
 refine w_fun_M0n (N:=["self","tree","stem","answers"]) (b:=M.vu) F λnd cdv A outer s H E e=>?_;unfold M.vu M.UP M.uo M.ua M.Wo M.US M.WJ M.wh
 conv=>arg 3;whnf
 ac_rfl
noncomputable abbrev B6:zf:=yx (top 17) 2
theorem HD (F:Fun K "fail" "Working.fail" B6 f fd) (c:yV K zF) :
  zm P w K mg base CX0 1 f fd ["self","words"] (SpM K (Θ1 zF) 2 M.xJ):=by
 refine w_fun_M0n (N:=["self","words"]) (b:=M.YG) F λnd cdv A outer s H E e=>?_;unfold M.YG
 conv=>arg 3;whnf
 ac_rfl
noncomputable abbrev bS:zf:=yx (top 17) 3
theorem f7 (F:Fun K "come_to" "Working.come_to" bS f fd) (e:yV K zF) (c:YP P w K mg base zF) (h:mg "len" = none) (g:Zv mg "MOST_SIGNS" (.int 900)) :
  zm P w K mg base CX0 2 f fd ["self","text"] (SpM K (Θ1 zF) 2 M.yp):=by
 refine w_fun_M0n (N:=["self","text"]) (b:=M.Ky) F λnd cdv A outer s H E j=>?_;unfold M.Ky;exact (w_mss_one (w_ms_if (w_mt_cmp WH wV (w_me_callB uh ue gk h UY (w_ma_cons (vv 1) w_ma_nil)) (w_me_globS g gk (λ_ _=>rfl)) (QA _))
  (w_mss_one (w_ms_expr (w_me_meth e c j (by decide) (by decide +kernel) (vv 0) (w_ma_cons zz w_ma_nil) (ZU Z5))))
  (w_mss_one (w_ms_expr (w_me_m PySem.F.plainAttrs_list PySem.F.slot_list_append PySem.F.type_list_append AA AO rfl (w_me_fld (i:=4) e rfl (vv 0)) (w_ma_cons (vv 1) w_ma_nil))))))
noncomputable abbrev W9:zf:=yx (top 17) 6
theorem FO (F:Fun K "bare_text" "Working.bare_text" W9 f fd) (c:yV K zF) :
  zm P w K mg base CX0 1 f fd ["self","part","it"] (SpM K (Θ1 zF) 3 M.Qq):=by
 refine w_fun_M0n (N:=["self","part","it"]) (b:=M.J7) F λnd cdv A outer s H E e=>?_;unfold M.J7 M.XW M.Ka M.Vm M.Wh
 conv=>arg 3;whnf
 ac_rfl
noncomputable abbrev AQ:zf:=yx (top 17) 4
theorem IE (F:Fun K "come_to_answer" "Working.come_to_answer" AQ f fd) (e:yV K zF) (c:ko P w K mg base zF) :
  zm P w K mg base CX0 3 f fd ["self","name"] (SpM K (Θ1 zF) 2 M.Z7):=by
 refine w_fun_M0n (N:=["self","name"]) (b:=M.vS) F λnd cdv A outer s H E g=>?_;unfold M.vS
 conv=>arg 3;whnf
 ac_rfl
noncomputable abbrev DE:zf:=yx (top 17) 8
theorem Hf (F:Fun K "put_parts" "Working.put_parts" DE f fd) (e:yV K zF) (c:mg "reversed" = none) :
  zm P w K mg base CX0 1 f fd ["self","parts","it"] (SpM K (Θ1 zF) 3 M.xj):=by
 refine w_fun_M0n (N:=["self","parts","it","part"]) (b:=M.Um) F λnd cdv A outer s H E g=>?_;unfold M.Um
 conv=>arg 3;whnf
 ac_rfl
noncomputable abbrev cO:zf:=yx (top 17) 7
theorem fM (F:Fun K "begin_inner" "Working.begin_inner" cO f fd) (e:yV K zF) (c:dO P w K mg base zF) (g:mg "len" = none) :
  zm P w K mg base CX0 2 f fd ["self","part","it"] (SpM K (Θ1 zF) 3 M.Q7):=by
 refine w_fun_M0n (N:=["self","part","it","kind"]) (b:=M.J5) F λnd cdv A outer s H E h=>?_;unfold M.J5
 conv=>arg 3;whnf
 ac_rfl
noncomputable abbrev AC:zf:=yx (top 17) 5
theorem gz (F:Fun K "begin" "Working.begin" AC f fd) (c:yV K zF) (l:YP P w K mg base zF) (j:ko P w K mg base zF) (h:DA P w K mg base zF) (e:Wc P w K mg base zF) (g:De P w K mg base zF) (m:Zv mg "MOST_STEPS" (.int 500)) :
  zm P w K mg base CX0 4 f fd ["self","part","it"] (SpM K (Θ1 zF) 3 M.QN):=by
 refine w_fun_M0n (N:=["self","part","it"]) (b:=M.ZL) F λnd cdv A outer s H E n=>?_;unfold M.ZL;exact (w_mss_cons (w_ms_fldaug (i:=3) c rfl (vv 0) w_me_int gg IU)
  (w_mss_one (w_ms_if (w_mt_cmp WH wV (w_me_fld (i:=3) c rfl (vv 0)) (w_me_globS m gk (λ_ _=>rfl)) (QA _))
  (w_mss_one (w_ms_expr (w_me_meth c l n (by decide) (by decide +kernel) (vv 0) (w_ma_cons zz w_ma_nil) (ZU Z5))))
  (w_mss_one (w_ms_if (w_mt_cmp (uJ n) UW (w_me_ix (x9 n) Xi (vv 1) w_me_int) (w_me_tup (w_ma_cons zz (w_ma_cons zz (w_ma_cons zz (w_ma_cons zz w_ma_nil))))) (by rfl))
  (w_mss_one (w_ms_expr (w_me_meth c j n (by decide) (by decide +kernel) (vv 0) (w_ma_cons (w_me_meth c h n (by decide) (by decide +kernel) (vv 0) (w_ma_cons (vv 1) (w_ma_cons (vv 2) w_ma_nil)) (ZU (ZU Z5))) w_ma_nil) (ZU Z5))))
  (w_mss_one (w_ms_if (w_mt_cmp (V0 n) Yc (w_me_ix (x9 n) Xi (vv 1) w_me_int) zz (QA _))
  (w_mss_one (w_ms_expr (w_me_meth c e n (by decide) (by decide +kernel) (vv 0) (w_ma_cons (w_me_ix (x9 n) Xi (vv 1) w_me_int) w_ma_nil) (ZU Z5))))
  (w_mss_one (w_ms_if (w_mt_cmp (V0 n) Yc (w_me_ix (x9 n) Xi (vv 1) w_me_int) zz (QA _))
  (w_mss_one (w_ms_expr (w_me_meth c e n (by decide) (by decide +kernel) (vv 0) (w_ma_cons (w_me_op (OpR.or vp Vr) Ye (w_me_op (OpR.or vp Vr) Ye (w_me_ix (x9 n) Xi (vv 1) w_me_int) zz) (w_me_fld (i:=0) c rfl (vv 0))) w_ma_nil) (ZU Z5))))
  (w_mss_one (w_ms_expr (w_me_meth c g n (by decide) (by decide +kernel) (vv 0) (w_ma_cons (vv 1) (w_ma_cons (vv 2) w_ma_nil)) (ZU (ZU Z5))))))))))))))
noncomputable abbrev br:zf:=yx (top 17) 9
theorem GG (F:Fun K "end_join" "Working.end_join" br f fd) (g:yV K zF) (c:ko P w K mg base zF) (h:mg "range" = none) (e:mg "reversed" = none) :
  zm P w K mg base CX0 3 f fd ["self","number"] (SpM K (Θ1 zF) 2 M.Jk):=by
 refine w_fun_M0n (N:=["self","number","texts"]) (b:=M.Xn) F λnd cdv A outer s H E i=>?_;unfold M.Xn;have j:Qh 0:=⟨⟩
 conv=>arg 3;whnf
 ac_rfl
noncomputable abbrev B0:zf:=yx (top 17) 10
theorem mF (F:Fun K "choose" "Working.choose" B0 f fd) (c:yV K zF) :
  zm P w K mg base CX0 1 f fd ["self","part","it"] (SpM K (Θ1 zF) 3 M.kB):=by
 refine w_fun_M0n (N:=["self","part","it","second","first"]) (b:=M.Xr) F λnd cdv A outer s H E e=>?_;unfold M.Xr
 conv=>arg 3;whnf
 ac_rfl
noncomputable abbrev C3:zf:=top 7
theorem eP (F:Fun K "words_of" "words_of" C3 f fd) :
  zm P w K mg base CX0 1 f fd ["text"] (SpM K (Θ1 zF) 1 M.yd):=by
 refine w_fun_Mn (N:=["text"]) (b:=M.vx) F M.eG λnd cdv A outer s H E c=>?_;unfold M.vx
 conv=>arg 3;whnf
 ac_rfl
noncomputable abbrev aT:zf:=yx (top 17) 13
theorem MJ (F:Fun K "go_on_round" "Working.go_on_round" aT f fd) (c:yV K zF) (e:mg "len" = none) :
  zm P w K mg base CX0 1 f fd ["self","part","words","number"] (SpM K (Θ1 zF) 4 M.Zw):=by
 refine w_fun_M0n (N:=["self","part","words","number"]) (b:=M.Ks) F λnd cdv A outer s H E g=>?_;unfold M.Ks
 conv=>arg 3;whnf
 ac_rfl
noncomputable abbrev A5:zf:=yx (top 17) 11
theorem eI (F:Fun K "begin_each" "Working.begin_each" A5 f fd) (g:yV K zF) (e:Xc P w K mg base zF) (c:wD P w K mg base zF) :
  zm P w K mg base CX0 2 f fd ["self","part"] (SpM K (Θ1 zF) 2 M.kE):=by
 refine w_fun_M0n (N:=["self","part","words"]) (b:=M.UQ) F λnd cdv A outer s H E h=>?_;unfold M.UQ
 conv=>arg 3;whnf
 ac_rfl
noncomputable abbrev bA:zf:=yx (top 17) 12
theorem fk (F:Fun K "go_round" "Working.go_round" bA f fd) (g:yV K zF) (e:ko P w K mg base zF) (c:wD P w K mg base zF) :
  zm P w K mg base CX0 3 f fd ["self","part","words","number"] (SpM K (Θ1 zF) 4 M.kT):=by
 refine w_fun_M0n (N:=["self","part","words","number","text"]) (b:=M.U8) F λnd cdv A outer s H E h=>?_;unfold M.U8
 conv=>arg 3;whnf
 ac_rfl
noncomputable abbrev b6:zf:=top 4
theorem E4 (F:Fun K "is_letter" "is_letter" b6 f fd) :
  zm P w K mg base CX0 1 f fd ["sign"] (SpM K (Θ1 zF) 1 M.k6):=by
 refine w_fun_Mn (N:=["sign"]) (b:=M.VB) F M.FM λnd cdv A outer s H E c=>?_;unfold M.VB
 conv=>arg 3;whnf
 ac_rfl
noncomputable abbrev BN:zf:=top 5
theorem FN:(["thing","sign"]:List Str).Nodup:=by decide +kernel
theorem mf (F:Fun K "is_plain" "is_plain" BN f fd) (l:aM P w K mg base zF) (m:mg "all" = none) (g:mg "isinstance" = none) (n:mg "str" = none) (o:mg "len" = none) {c:zE} (h:Zv mg "KEPT_WORDS" (.ref c)) (j:∀ H,SqT K H c [(.str "of"),(.str "if"),(.str "is"),(.str "then"),(.str "else"),(.str "each"),(.str "do"),(.str "it"),(.str "back"),(.str "first"),(.str "rest"),(.str "count"),(.str "sorted"),(.str "fail"),(.str "line"),(.str "more")]) (e:Zv mg "MOST_LETTERS" (.int 8)) :
  zm P w K mg base CX0 2 f fd ["thing"] (SpM K (Θ1 zF) 1 M.ye):=by
 refine w_fun_Mn (N:=["thing"]) (b:=M.y1) F M.lW λnd cdv A outer s H E p=>?_;unfold M.y1;exact (w_mss_cons (w_ms_if (w_mt_ofw (w_mw_or (w_mt_not (w_mt_tru (w_me_callB Cv d9 gk g BK (w_ma_cons (vv 0) (w_ma_cons (w_me_ty .str gk n WB) w_ma_nil))))) (w_mw_one_or (w_mt_not (w_mt_chain xT xT Jw Jw w_me_int (w_me_callB uh ue gk o UY (w_ma_cons (vv 0) w_ma_nil)) (w_me_globS e gk (λ_ _=>rfl)))))))
  (w_mss_one (w_ms_ret w_me_bl))
  w_mss_nil)
  (w_mss_one (w_ms_ret (w_me_and (w_me_callC (Uv rfl) WY gk m Ut (vars:=["sign"]) rfl ⟨rfl,rfl,(by kernel_rfl),(by kernel_rfl),(by decide +kernel),trivial,(by kernel_rfl)⟩ (w_mi_e (vv 0)) (λ_ _ _ _=>(w_mg_name (i:=1) FN rfl (yJ (by kernel_rfl)) (.inr (by kernel_rfl)))) (λ_ _ _ _=>bb) (λ_ _ _ _=>(w_me_call l p (by decide) gk (w_ma_cons (vv 1) w_ma_nil) (ZU Z5))) (by kernel_rfl)) (w_me_one (w_me_cmp (Ap p) aS (vv 0) (w_me_globT h gk λq H=>⟨_,_,rfl,j H,⟨_,_,rfl,⟨by decide +kernel,by decide +kernel⟩,⟨_,_,rfl,⟨by decide +kernel,by decide +kernel⟩,⟨_,_,rfl,⟨by decide +kernel,by decide +kernel⟩,⟨_,_,rfl,⟨by decide +kernel,by decide +kernel⟩,⟨_,_,rfl,⟨by decide +kernel,by decide +kernel⟩,⟨_,_,rfl,⟨by decide +kernel,by decide +kernel⟩,⟨_,_,rfl,⟨by decide +kernel,by decide +kernel⟩,⟨_,_,rfl,⟨by decide +kernel,by decide +kernel⟩,⟨_,_,rfl,⟨by decide +kernel,by decide +kernel⟩,⟨_,_,rfl,⟨by decide +kernel,by decide +kernel⟩,⟨_,_,rfl,⟨by decide +kernel,by decide +kernel⟩,⟨_,_,rfl,⟨by decide +kernel,by decide +kernel⟩,⟨_,_,rfl,⟨by decide +kernel,by decide +kernel⟩,⟨_,_,rfl,⟨by decide +kernel,by decide +kernel⟩,⟨_,_,rfl,⟨by decide +kernel,by decide +kernel⟩,⟨_,_,rfl,⟨by decide +kernel,by decide +kernel⟩,rfl⟩⟩⟩⟩⟩⟩⟩⟩⟩⟩⟩⟩⟩⟩⟩⟩⟩) (by rfl)))))))
noncomputable abbrev dE:zf:=top 6
theorem nK (F:Fun K "is_name" "is_name" dE f fd) (e:Cc P w K mg base zF) (c:mg "isinstance" = none) (g:mg "str" = none) (h:mg "all" = none) (i:mg "len" = none) :
  zm P w K mg base CX0 3 f fd ["thing"] (SpM K (Θ1 zF) 1 M.yS):=by
 refine w_fun_Mn (N:=["thing","parts"]) (b:=M.Zr) F M.gT λnd cdv A outer s H E j=>?_;unfold M.Zr
 conv=>arg 3;whnf
 ac_rfl
noncomputable abbrev dw:zf:=top 13
theorem nV (F:Fun K "sorted_words" "sorted_words" dw f fd) (c:Xc P w K mg base zF) (e:mg "sorted" = none) :
  zm P w K mg base CX0 2 f fd ["text"] (SpM K (Θ1 zF) 1 M.vP):=by
 refine w_fun_Mn (N:=["text"]) (b:=M.YE) F M.mV λnd cdv A outer s H E g=>?_;unfold M.YE
 conv=>arg 3;whnf
 ac_rfl
noncomputable abbrev Cg:zf:=top 9
theorem Gw (F:Fun K "turned_about" "turned_about" Cg f fd) :
  zm P w K mg base CX0 1 f fd ["text"] (SpM K (Θ1 zF) 1 M.KH):=by
 refine w_fun_Mn (N:=["text"]) (b:=M.Vv) F M.G0 λnd cdv A outer s H E c=>?_;unfold M.Vv
 conv=>arg 3;whnf
 ac_rfl
noncomputable abbrev Ax:zf:=top 10
theorem L0 (F:Fun K "first_word" "first_word" Ax f fd) (c:Xc P w K mg base zF) :
  zm P w K mg base CX0 2 f fd ["text"] (SpM K (Θ1 zF) 1 M.Ki):=by
 refine w_fun_Mn (N:=["text"]) (b:=M.V5) F M.I7 λnd cdv A outer s H E e=>?_;unfold M.V5
 conv=>arg 3;whnf
 ac_rfl
noncomputable abbrev AX:zf:=top 11
theorem Ek (F:Fun K "rest_words" "rest_words" AX f fd) (c:Xc P w K mg base zF) :
  zm P w K mg base CX0 2 f fd ["text"] (SpM K (Θ1 zF) 1 M.vK):=by
 refine w_fun_Mn (N:=["text"]) (b:=M.V1) F M.Ea λnd cdv A outer s H E e=>?_;unfold M.V1
 conv=>arg 3;whnf
 ac_rfl
noncomputable abbrev DG:zf:=top 12
theorem iH (F:Fun K "counted" "counted" DG f fd) (c:Xc P w K mg base zF) (e:mg "str" = none) (g:mg "len" = none) :
  zm P w K mg base CX0 2 f fd ["text"] (SpM K (Θ1 zF) 1 M.Kb):=by
 refine w_fun_Mn (N:=["text"]) (b:=M.Ya) F M.Lb λnd cdv A outer s H E h=>?_;unfold M.Ya
 conv=>arg 3;whnf
 ac_rfl
noncomputable abbrev dr:zf:=top 16
theorem M8 (F:Fun K "made_of" "made_of" dr f fd) (c:A8 P w K mg base zF) (e:DU P w K mg base zF) (g:Ak P w K mg base zF) (h:aV P w K mg base zF) (i:cF P w K mg base zF) :
  zm P w K mg base CX0 3 f fd ["kind","text"] (SpM K (Θ1 zF) 2 M.X8):=by
 refine w_fun_Mn (N:=["kind","text"]) (b:=M.Ji) F M.Mo λnd cdv A outer s H E j=>?_;unfold M.Ji M.xb M.xy M.KD M.vw M.UJ
 conv=>arg 3;whnf
 ac_rfl
noncomputable abbrev Bx:zf:=yx (top 17) 14
theorem M0 (F:Fun K "end_single" "Working.end_single" Bx f fd) (h:yV K zF) (g:YP P w K mg base zF) (e:ko P w K mg base zF) (i:bD P w K mg base zF) (j:ax P w K mg base zF) (c:Wc P w K mg base zF) :
  zm P w K mg base CX0 4 f fd ["self","kind"] (SpM K (Θ1 zF) 2 M.Qj):=by
 refine w_fun_M0n (N:=["self","kind","text"]) (b:=M.Zz) F λnd cdv A outer s H E l=>?_;unfold M.Zz
 conv=>arg 3;whnf
 ac_rfl
noncomputable abbrev c0:zf:=yx (top 17) 1
theorem EI (F:Fun K "run" "Working.run" c0 f fd) (l:yV K zF) (j:BL P w K mg base zF) (g:aZ P w K mg base zF) (i:aa P w K mg base zF) (c:bW P w K mg base zF) (h:AS P w K mg base zF) (e:Bm P w K mg base zF) (m:mg "len" = none) :
  zm P w K mg base CX0 5 f fd ["self"] (SpM K (Θ1 zF) 1 M.ke):=by
 refine w_fun_M0n (N:=["self","task"]) (b:=M.Xl) F λnd cdv A outer s H E n=>?_;unfold M.Xl
 conv=>arg 3;whnf
 ac_rfl
noncomputable abbrev AI:zf:=top 18
theorem nj (F:Fun K "worked" "worked" AI f fd) (g:yV K zF) (c:dH P w K mg base zF) (e:B8 P w K mg base zF) (h:mg "list" = none) :
  zm P w K mg base CX0 6 f fd ["tree","stem","answers"] (SpM K (Θ1 zF) 3 M.kU):=by
 refine w_fun_M0n (N:=["tree","stem","answers","working","came"]) (b:=M.vI) F λnd cdv A outer s H E i=>?_;unfold M.vI
 conv=>arg 3;whnf
 ac_rfl
noncomputable abbrev bP:zf:=top 23
theorem Hs (F:Fun K "_law_letter" "_law_letter" bP f fd) :
  zm P w K mg base CX0 1 f fd ["_law_cell"] (SpM K (Θ1 zF) 1 M.yo):=by
 refine w_fun_Mn (N:=["_law_cell"]) (b:=M.Vq) F M.Dr λnd cdv A outer s H E c=>?_;unfold M.Vq
 conv=>arg 3;whnf
 ac_rfl
noncomputable abbrev AD:zf:=top 24
theorem Ep (F:Fun K "_law_plain_by" "_law_plain_by" AD f fd) (c:uu P w K mg base zF) (e:mg "range" = none) :
  zm P w K mg base CX0 2 f fd ["_law_cell","_law_k"] (SpM K (Θ1 zF) 2 M.Xf):=by
 refine w_fun_Mn (N:=["_law_cell","_law_k","_law_base","_law_size","_law_at"]) (b:=M.uQ) F M.fh λnd cdv A outer s H E g=>?_;unfold M.uQ M.X2 M.xv M.XC M.vW M.Xu M.vl;have h:Qh 0:=⟨⟩
 conv=>arg 3;whnf
 ac_rfl
noncomputable abbrev Cm:zf:=top 25
theorem fH (F:Fun K "_law_names_by" "_law_names_by" Cm f fd) (c:cj P w K mg base zF) (e:uu P w K mg base zF) (g:mg "range" = none) :
  zm P w K mg base CX0 3 f fd ["_law_cell"] (SpM K (Θ1 zF) 1 M.Kn):=by
 refine w_fun_Mn (N:=["_law_cell","_law_some","_law_names","_law_k","_law_word_here","_law_j"]) (b:=M.WC) F M.g7 λnd cdv A outer s H E h=>?_;unfold M.WC M.X9 M.Kt M.vd M.kI M.Yn
 conv=>arg 3;whnf
 ac_rfl
noncomputable abbrev Bg:zf:=top 26
theorem hG (F:Fun K "_law_sign_by" "_law_sign_by" Bg f fd) :
  zm P w K mg base CX0 1 f fd ["_law_cell"] (SpM K (Θ1 zF) 1 M.xP):=by
 refine w_fun_Mn (N:=["_law_cell","_law_some"]) (b:=M.YM) F M.nq λnd cdv A outer s H E c=>?_;unfold M.YM
 conv=>arg 3;whnf
 ac_rfl
noncomputable abbrev DV:zf:=top 27
theorem er (F:Fun K "_law_text_by" "_law_text_by" DV f fd) (c:Cf P w K mg base zF) (e:mg "range" = none) :
  zm P w K mg base CX0 2 f fd ["_law_cell","_law_size"] (SpM K (Θ1 zF) 2 M.x3):=by
 refine w_fun_Mn (N:=["_law_cell","_law_size"]) (b:=M.Yg) F M.HU λnd cdv A outer s H E g=>?_;unfold M.Yg;have h:Qh 0:=⟨⟩
 conv=>arg 3;whnf
 ac_rfl
noncomputable abbrev du:zf:=top 28
theorem Iv (F:Fun K "_law_leaf_by" "_law_leaf_by" du f fd) (c:ux P w K mg base zF) :
  zm P w K mg base CX0 3 f fd ["_law_cell","_law_names","_law_family"] (SpM K (Θ1 zF) 3 M.JX):=by
 refine w_fun_Mn (N:=["_law_cell","_law_names","_law_family","_law_way"]) (b:=M.uy) F M.Ly λnd cdv A outer s H E e=>?_;unfold M.uy M.Kg M.ui M.wB M.u7 M.Uh M.uH M.uf
 conv=>arg 3;whnf
 ac_rfl
noncomputable abbrev Ca:zf:=top 29
theorem DB (F:Fun K "_law_high" "_law_high" Ca f fd) (i:yH K fd ["_law_tree"] []) (j:PySem.W.keepIn K (.ref f)=true) (l:mg "_law_high" = some (.ref f)) (c:mg "list" = none) (h:mg "max" = none) :
  ∀ e,zm P w K mg base CX0 (0+e) f fd ["_law_tree"] (SpM K (Θ1 zF) 1 (M.Zb e))
 | 0=>dt M.LS
 | e+1=>by
  have g:Has P w K mg base "_law_high" (0+e) ["_law_tree"] (SpM K (Θ1 zF) 1 (M.Zb e)):=⟨⟨_,_,DB F i j l c h e,i,j,l⟩⟩
  refine w_fun_Mn (N:=["_law_tree","_law_parts"]) (k:=(0+e)) (b:=M.X5 (M.Zb e)) F (M.eU e) λnd cdv A outer s H E m=>?_;unfold M.X5
  conv=>arg 3;whnf
  ac_rfl
noncomputable abbrev Ai:zf:=top 30
theorem nh (F:Fun K "_law_tree_by" "_law_tree_by" Ai f fd) (c:Am P w K mg base zF) (e:Wb P w K mg base zF) (g:mg "tuple" = none) :
  zm P w K mg base CX0 21 f fd ["_law_cells_here","_law_names","_law_family"] (SpM K (Θ1 zF) 3 M.XN):=by
 refine w_fun_Mn (N:=["_law_cells_here","_law_names","_law_family","_law_tree","_law_free","_law_cell","_law_bud","_law_way","_law_four"]) (b:=M.W3) F M.fq λnd cdv A outer s H E h=>?_;unfold M.W3 M.K6 M.vV M.Xe M.Xh M.Kp
 conv=>arg 3;whnf
 ac_rfl
noncomputable abbrev Aj:zf:=top 20
theorem FV (F:Fun K "_law_mixed" "_law_mixed" Aj f fd) :
  zm P w K mg base CX0 1 f fd ["_law_cell","_law_k"] (SpM K (Θ1 zF) 2 M.Q6):=by
 refine w_fun_Mn (N:=["_law_cell","_law_k"]) (b:=M.Vw) F M.ml λnd cdv A outer s H E c=>?_;unfold M.Vw
 conv=>arg 3;whnf
 ac_rfl
noncomputable abbrev de:zf:=top 21
theorem Gv (F:Fun K "_law_cell_at" "_law_cell_at" de f fd) (c:We P w K mg base zF) (e:mg "len" = none) :
  zm P w K mg base CX0 2 f fd ["_law_script","_law_k"] (SpM K (Θ1 zF) 2 M.jz):=by
 refine w_fun_Mn (N:=["_law_script","_law_k"]) (b:=M.Xp) F M.gK λnd cdv A outer s H E g=>?_;unfold M.Xp
 conv=>arg 3;whnf
 ac_rfl
noncomputable abbrev ao:zf:=top 22
theorem FI (F:Fun K "_law_cells" "_law_cells" ao f fd) (c:We P w K mg base zF) (e:mg "range" = none) (g:mg "min" = none) (h:mg "len" = none) :
  zm P w K mg base CX0 2 f fd ["_law_script","_law_at","_law_end"] (SpM K (Θ1 zF) 3 M.kH):=by
 refine w_fun_Mn (N:=["_law_script","_law_at","_law_end"]) (b:=M.vQ) F M.Iq λnd cdv A outer s H E i=>?_;unfold M.vQ;have j:Qh 0:=⟨⟩
 conv=>arg 3;whnf
 ac_rfl
noncomputable abbrev dc:zf:=top 36
theorem D0 (F:Fun K "_law_asked" "_law_asked" dc f fd) :
  zm P w K mg base CX0 1 f fd ["_law_name","_law_world"] (SpM K (Θ1 zF) 2 M.kn):=by
 refine w_fun_M0n (N:=["_law_name","_law_world"]) (b:=M.Qz) F λnd cdv A outer s H E c=>?_;unfold M.Qz
 conv=>arg 3;whnf
 ac_rfl
noncomputable abbrev BZ:zf:=top 37
theorem m9 (F:Fun K "_law_bare" "_law_bare" BZ f fd) (c:VR P w K mg base zF) :
  zm P w K mg base CX0 2 f fd ["_law_tree","_law_it","_law_world"] (SpM K (Θ1 zF) 3 M.VN):=by
 refine w_fun_M0n (N:=["_law_tree","_law_it","_law_world"]) (b:=M.Zd) F λnd cdv A outer s H E e=>?_;unfold M.Zd M.JZ M.xE M.XZ M.vH M.YZ
 conv=>arg 3;whnf
 ac_rfl
noncomputable abbrev Cy:zf:=top 34
theorem F3 (F:Fun K "_law_words" "_law_words" Cy f fd) :
  zm P w K mg base CX0 1 f fd ["_law_text"] (SpM K (Θ1 zF) 1 M.Z3):=by
 refine w_fun_Mn (N:=["_law_text"]) (b:=M.uB) F M.ET λnd cdv A outer s H E c=>?_;unfold M.uB
 conv=>arg 3;whnf
 ac_rfl
noncomputable abbrev dW:zf:=top 35
theorem G5 (F:Fun K "_law_word" "_law_word" dW f fd) (c:vk P w K mg base zF) (g:mg "str" = none) (e:mg "sorted" = none) (h:mg "len" = none) :
  zm P w K mg base CX0 2 f fd ["_law_kind","_law_text"] (SpM K (Θ1 zF) 2 M.XM):=by
 refine w_fun_Mn (N:=["_law_kind","_law_text","_law_words_here"]) (b:=M.wc) F M.gC λnd cdv A outer s H E i=>?_;unfold M.wc M.KQ M.JW M.Jz M.XE M.Kl M.Vc
 conv=>arg 3;whnf
 ac_rfl
noncomputable abbrev aP:zf:=top 32
theorem Ec (F:Fun K "_law_is_plain" "_law_is_plain" aP f fd) (c:mg "all" = none) (e:mg "len" = none) :
  zm P w K mg base CX0 1 f fd ["_law_word_here"] (SpM K (Θ1 zF) 1 M.J9):=by
 refine w_fun_Mn (N:=["_law_word_here","_law_some"]) (b:=M.Xm) F M.Mj λnd cdv A outer s H E g=>?_;unfold M.Xm
 conv=>arg 3;whnf
 ac_rfl
noncomputable abbrev dN:zf:=top 33
theorem ID (F:Fun K "_law_is_name" "_law_is_name" dN f fd) (c:dy P w K mg base zF) :
  zm P w K mg base CX0 2 f fd ["_law_text"] (SpM K (Θ1 zF) 1 M.KS):=by
 refine w_fun_Mn (N:=["_law_text","_law_at"]) (b:=M.x5) F M.Ii λnd cdv A outer s H E e=>?_;unfold M.x5
 conv=>arg 3;whnf
 ac_rfl
noncomputable abbrev uj:zf:=top 38
theorem F1 {e:Nat} (F:Fun K "_law_row" "_law_row" uj f fd) (c:Has P w K mg base "_law_come" (2+3 * e) ["_law_tree","_law_it","_law_world"] (SpM K (Θ1 zF) 3 (M.jj e))) (g:mg "len" = none) :
  zm P w K mg base CX0 ((2+3 * e+0)+1) f fd ["_law_pairs","_law_world","_law_early"] (SpM K (Θ1 zF) 3 (M.xr (M.jj e))):=by
 refine w_fun_M0n (N:=["_law_pairs","_law_world","_law_early","_law_text","_law_pair","_law_end"]) (k:=(2+3 * e+0)) (b:=M.Xo (M.jj e)) F λnd cdv A outer s H E h=>?_;unfold M.Xo
 conv=>arg 3;whnf
 ac_rfl
noncomputable abbrev Wu:zf:=top 40
theorem LD {j:Nat} (F:Fun K "_law_behind" "_law_behind" Wu f fd) (l:Has P w K mg base "_law_row" (2+3 * j+1) ["_law_pairs","_law_world","_law_early"] (SpM K (Θ1 zF) 3 (M.xr (M.jj j)))) (h:Has P w K mg base "_law_come" (2+3 * j) ["_law_tree","_law_it","_law_world"] (SpM K (Θ1 zF) 3 (M.jj j))) (e:VR P w K mg base zF) (i:WR P w K mg base zF) (c:U7 P w K mg base zF) (g:vk P w K mg base zF) (m:mg "int" = none) :
  zm P w K mg base CX0 ((2+3 * j+1)+1) f fd ["_law_tree","_law_text","_law_it","_law_world"] (SpM K (Θ1 zF) 4 (M.vU (M.jj j))):=by
 refine w_fun_M0n (N:=["_law_tree","_law_text","_law_it","_law_world","_law_other"]) (k:=(2+3 * j+1)) (b:=M.Qo (M.jj j)) F λnd cdv A outer s H E n=>?_;unfold M.Qo M.xF M.xh M.xN M.Xk M.KZ M.Yu;have o:Qh 0:=⟨⟩
 conv=>arg 3;whnf
 ac_rfl
noncomputable abbrev cP:zf:=top 39
theorem bF (r:Fun K "_law_row" "_law_row" uj t x) (u:yH K x ["_law_pairs","_law_world","_law_early"] []) (k__law_row:PySem.W.keepIn K (.ref t)=true) (Kx:mg "_law_row" = some (.ref t)) (g:Fun K "_law_behind" "_law_behind" Wu h v) (i:yH K v ["_law_tree","_law_text","_law_it","_law_world"] []) (k__law_behind:PySem.W.keepIn K (.ref h)=true) (Km:mg "_law_behind" = some (.ref h)) (n:Fun K "_law_come" "_law_come" cP c j) (o:yH K j ["_law_tree","_law_it","_law_world"] []) (k__law_come:PySem.W.keepIn K (.ref c)=true) (VO:mg "_law_come" = some (.ref c)) (G:mg "len" = none) (l:VR P w K mg base zF) (p:WR P w K mg base zF) (e:U7 P w K mg base zF) (m:vk P w K mg base zF) (I:mg "int" = none) (y:BB P w K mg base zF) :
  ∀ C,zm P w K mg base CX0 (2+3 * C) c j ["_law_tree","_law_it","_law_world"] (SpM K (Θ1 zF) 3 (M.jj C))
 | 0=>dt M.iZ
 | C+1=>by
  have q:Has P w K mg base "_law_come" (2+3 * C) ["_law_tree","_law_it","_law_world"] (SpM K (Θ1 zF) 3 (M.jj C)):=⟨⟨_,_,bF r u k__law_row Kx g i k__law_behind Km n o k__law_come VO G l p e m I y C,o,k__law_come,VO⟩⟩
  have B:Has P w K mg base "_law_row" (2+3 * C+1) ["_law_pairs","_law_world","_law_early"] (SpM K (Θ1 zF) 3 (M.xr (M.jj C))):=⟨⟨_,_,F1 r q G,u,k__law_row,Kx⟩⟩
  have J:Has P w K mg base "_law_behind" (2+3 * C+2) ["_law_tree","_law_text","_law_it","_law_world"] (SpM K (Θ1 zF) 4 (M.vU (M.jj C))):=⟨⟨_,_,LD g B q l p e m I,i,k__law_behind,Km⟩⟩
  have z:2+3 * (C+1)=(2+3 * C+2)+1:=by omega
  rw[z];refine w_fun_M0n (N:=["_law_tree","_law_it","_law_world","_law_end"]) (k:=(2+3 * C+2)) (b:=M.kj (M.jj C)) n λnd cdv A outer s H E L=>?_;unfold M.kj M.Y5 M.vY M.Q9 M.kJ M.Xj;have Q:Qh 1:=⟨⟩
  conv=>arg 3;whnf
  ac_rfl
noncomputable abbrev aw:zf:=top 31
theorem FY (F:Fun K "_law_answer_by" "_law_answer_by" aw f fd) (c:ux P w K mg base zF) :
  zm P w K mg base CX0 3 f fd ["_law_cell","_law_names"] (SpM K (Θ1 zF) 2 M.JM):=by
 refine w_fun_Mn (N:=["_law_cell","_law_names","_law_first","_law_second","_law_some"]) (b:=M.U4) F M.Ls λnd cdv A outer s H E e=>?_;unfold M.U4 M.vM M.KA M.km M.Vj M.Yj
 conv=>arg 3;whnf
 ac_rfl
noncomputable abbrev JA:zf:=top 41
theorem Hg (F:Fun K "law" "law" JA f fd) (e:b5 P w K mg base zF) (g:Bk P w K mg base zF) (n:BX P w K mg base zF) (h:DP P w K mg base zF) (i:CH P w K mg base zF) (l:dF P w K mg base zF) (m:Wb P w K mg base zF) (c:aX P w K mg base zF) (o:mg "range" = none) (r:mg "int" = none) (q:mg "dict" = none) (j:mg "isinstance" = none) (p:mg "tuple" = none) :
  zm P w K mg base CX0 63 f fd ["_law_script"] (SpM K (Θ1 zF) 1 M.Up):=by
 refine w_fun_M0n (N:=["_law_script","_law_names","_law_family","_law_stem","_law_tree","_law_answers","_law_k","_law_name","_law_world","_law_due","_law_gave"]) (b:=M.WQ) F λnd cdv A outer s H E t=>?_;unfold M.WQ M.Ke M.kS M.XU M.kc M.JU M.XG M.XD M.x8 M.kK M.XO M.Vd;have u:Qh 1:=⟨⟩
 conv=>arg 3;whnf
 ac_rfl
theorem IA {l:PySem.W.OpenLaw}{w:jG}{K:PySem.W.Frag}{h:zi}{mg:Str->Option zD}{fa f48:zE}{zF:zE} (X:K.In h) (G:h.Ns jb mg) (hfa:mg "law" = some (.ref fa))
  {od48 an48:Option zE}{sl48:Array (Option zD)}{oc48 kV48 dc48 pm48 cd48 ct48:zD}
  (Do:PySem.W.nsIn K jb "Working" = some (some (.ref zF))) (Lz:PySem.W.plainGet K zF BD=true) (fT:PySem.W.hasDictIn K zF=true) (He:PySem.W.plainOver K zF=true) (ep:PySem.W.findIn K (.ref zF) "__setattr__" = some (some (.builtin "object.__setattr__"))) (FK:PySem.W.makesIn K zF=true) (nB:PySem.W.keepIn K (.ref zF)=true)
  (GH:PySem.W.findIn K (.ref zF) "stem" = some none)
  (ej:PySem.W.findIn K (.ref zF) "answers" = some none)
  (Fl:PySem.W.findIn K (.ref zF) "used" = some none)
  (Ie:PySem.W.findIn K (.ref zF) "steps" = some none)
  (eZ:PySem.W.findIn K (.ref zF) "texts" = some none)
  (mC:PySem.W.findIn K (.ref zF) "todo" = some none)
  (nI:PySem.W.findIn K (.ref zF) "ended" = some none)
  (a1:IsM K zF "__init__" "Working.__init__" Af)
  (a2:IsM K zF "fail" "Working.fail" B6)
  (a3:IsM K zF "come_to" "Working.come_to" bS)
  (a4:IsM K zF "bare_text" "Working.bare_text" W9)
  (a5:IsM K zF "come_to_answer" "Working.come_to_answer" AQ)
  (a6:IsM K zF "put_parts" "Working.put_parts" DE)
  (a7:IsM K zF "begin_inner" "Working.begin_inner" cO)
  (a8:IsM K zF "begin" "Working.begin" AC)
  (a9:IsM K zF "end_join" "Working.end_join" br)
  (a10:IsM K zF "choose" "Working.choose" B0)
  (a11:IsG K "words_of" C3)
  (a12:IsM K zF "go_on_round" "Working.go_on_round" aT)
  (a13:IsM K zF "begin_each" "Working.begin_each" A5)
  (a14:IsM K zF "go_round" "Working.go_round" bA)
  (a15:IsG K "is_letter" b6)
  (a16:IsG K "is_plain" BN)
  (a17:IsG K "is_name" dE)
  (a18:IsG K "sorted_words" dw)
  (a19:IsG K "turned_about" Cg)
  (a20:IsG K "first_word" Ax)
  (a21:IsG K "rest_words" AX)
  (a22:IsG K "counted" DG)
  (a23:IsG K "made_of" dr)
  (a24:IsM K zF "end_single" "Working.end_single" Bx)
  (a25:IsM K zF "run" "Working.run" c0)
  (a26:IsG K "worked" AI)
  (a27:IsG K "_law_letter" bP)
  (a28:IsG K "_law_plain_by" AD)
  (a29:IsG K "_law_names_by" Cm)
  (a30:IsG K "_law_sign_by" Bg)
  (a31:IsG K "_law_text_by" DV)
  (a32:IsG K "_law_leaf_by" du)
  (a33:IsG K "_law_high" Ca)
  (a34:IsG K "_law_tree_by" Ai)
  (a35:IsG K "_law_mixed" Aj)
  (a36:IsG K "_law_cell_at" de)
  (a37:IsG K "_law_cells" ao)
  (a38:IsG K "_law_asked" dc)
  (a39:IsG K "_law_bare" BZ)
  (a40:IsG K "_law_words" Cy)
  (a41:IsG K "_law_word" dW)
  (a42:IsG K "_law_is_plain" aP)
  (a43:IsG K "_law_is_name" dN)
  (a44:IsG K "_law_row" uj)
  (a45:IsG K "_law_behind" Wu)
  (a46:IsG K "_law_come" cP)
  (a47:IsG K "_law_answer_by" aw)
  (a48:PySem.W.nsIn K jb "law" = some (some (.ref f48))) (l48:K.lookup f48=some ⟨oc48,od48,.func (PySem.W.fnOf "law" "law" (QJ JA) (yP JA) (jl JA) .none kV48 dc48 pm48 an48 cd48 ct48),sl48⟩) (c48:PySem.W.codeIn K cd48 "law" = true) (k48:PySem.W.keepIn K (.ref f48)=true)
  (z_len:PySem.W.nsIn K jb "len" = some none)
  (z_reversed:PySem.W.nsIn K jb "reversed" = some none)
  (z_range:PySem.W.nsIn K jb "range" = some none)
  (z_all:PySem.W.nsIn K jb "all" = some none)
  (z_isinstance:PySem.W.nsIn K jb "isinstance" = some none)
  (z_str:PySem.W.nsIn K jb "str" = some none)
  (z_sorted:PySem.W.nsIn K jb "sorted" = some none)
  (z_list:PySem.W.nsIn K jb "list" = some none)
  (z_max:PySem.W.nsIn K jb "max" = some none)
  (z_tuple:PySem.W.nsIn K jb "tuple" = some none)
  (z_min:PySem.W.nsIn K jb "min" = some none)
  (z_int:PySem.W.nsIn K jb "int" = some none)
  (z_dict:PySem.W.nsIn K jb "dict" = some none)
  {u_MOST_SIGNS:zD} (v_MOST_SIGNS:PySem.W.nsIn K jb "MOST_SIGNS" = some (some u_MOST_SIGNS)) (r_MOST_SIGNS:kA (.int 900) u_MOST_SIGNS=true)
  {u_MOST_STEPS:zD} (v_MOST_STEPS:PySem.W.nsIn K jb "MOST_STEPS" = some (some u_MOST_STEPS)) (r_MOST_STEPS:kA (.int 500) u_MOST_STEPS=true)
  {n:zE}{y:Array zD}{n_KEPT_WORDS:Nat}{d_KEPT_WORDS:Option zE}{s_KEPT_WORDS:Array (Option zD)} (v_KEPT_WORDS:PySem.W.nsIn K jb "KEPT_WORDS" = some (some (.ref n))) (w_KEPT_WORDS:K.lookup n=some ⟨.type "tuple",d_KEPT_WORDS,.seq y n_KEPT_WORDS,s_KEPT_WORDS⟩) (r_KEPT_WORDS:vT [(.str "of"),(.str "if"),(.str "is"),(.str "then"),(.str "else"),(.str "each"),(.str "do"),(.str "it"),(.str "back"),(.str "first"),(.str "rest"),(.str "count"),(.str "sorted"),(.str "fail"),(.str "line"),(.str "more")] y.toList=true)
  {z:zD} (v_MOST_LETTERS:PySem.W.nsIn K jb "MOST_LETTERS" = some (some z)) (r_MOST_LETTERS:kA (.int 8) z=true)
  : ∃ fd:QI,(∀ (s:zJ) (v:zD),XI s fd ⟨[v],[]⟩ [("_law_script",v)])/\fd.scope.names.lookup ("_law_script" : Str)=some .local/\∀ base:zi,K.In base->base.Ns jb mg->zm l.prog w K mg base CX0 63 fa fd ["_law_script"] (V3 K):=by
 have e:=hfa.symm.trans (PySem.W.mg_of X G a48);cases e;obtain⟨f44,fd44,F44,B44,k44,m44⟩:=VD a44 X G (ps:=["_law_pairs","_law_world","_law_early"]) λ_ _ _ _ _ _ us hl=>match us,hl with | [_,_,_],_=>rfl
 obtain⟨f45,fd45,F45,B45,k45,m45⟩:=VD a45 X G (ps:=["_law_tree","_law_text","_law_it","_law_world"]) λ_ _ _ _ _ _ us hl=>match us,hl with | [_,_,_,_],_=>rfl
 obtain⟨f46,fd46,F46,B46,k46,m46⟩:=VD a46 X G (ps:=["_law_tree","_law_it","_law_world"]) λ_ _ _ _ _ _ us hl=>match us,hl with | [_,_,_],_=>rfl
 have F48:=uT (x := "law") (qual := "law") (st:=JA) l48 c48 k48;have p:=PySem.W.mg_none_of X G z_len;have aE:=PySem.W.mg_none_of X G z_reversed;have t:=PySem.W.mg_none_of X G z_range;have u3:=PySem.W.mg_none_of X G z_all;have r:=PySem.W.mg_none_of X G z_isinstance;have Y8:=PySem.W.mg_none_of X G z_str;have Bw:=PySem.W.mg_none_of X G z_sorted;have AF:=PySem.W.mg_none_of X G z_list;have Fk:=PySem.W.mg_none_of X G z_max;have bz:=PySem.W.mg_none_of X G z_tuple;have Ey:=PySem.W.mg_none_of X G z_min;have CO:=PySem.W.mg_none_of X G z_int;have D8:=PySem.W.mg_none_of X G z_dict;have ES:Zv mg "MOST_SIGNS" (.int 900):=⟨_,PySem.W.mg_of X G v_MOST_SIGNS,Vk r_MOST_SIGNS⟩
 have Dk:Zv mg "MOST_STEPS" (.int 500):=⟨_,PySem.W.mg_of X G v_MOST_STEPS,Vk r_MOST_STEPS⟩
 have Fx:Zv mg "KEPT_WORDS" (.ref n):=⟨_,PySem.W.mg_of X G v_KEPT_WORDS,rfl⟩
 have fN:∀ H,SqT K H n [(.str "of"),(.str "if"),(.str "is"),(.str "then"),(.str "else"),(.str "each"),(.str "do"),(.str "it"),(.str "back"),(.str "first"),(.str "rest"),(.str "count"),(.str "sorted"),(.str "fail"),(.str "line"),(.str "more")]:=λH=>gD w_KEPT_WORDS r_KEPT_WORDS;have Hk:Zv mg "MOST_LETTERS" (.int 8):=⟨_,PySem.W.mg_of X G v_MOST_LETTERS,Vk r_MOST_LETTERS⟩
 have c:yV K zF:=⟨rfl,⟨Lz,fT,He,ep⟩,xK GH (xK ej (xK Fl (xK Ie (xK eZ (xK mC (xK nI (λf hf=>nomatch hf))))))),by decide +kernel,by decide +kernel⟩
 refine⟨(PySem.W.fnOf "law" "law" (QJ JA) (yP JA) (jl JA) .none kV48 dc48 pm48 an48 cd48 ct48),λs v=>.of_eq rfl,by kernel_rfl,λbase _ _=>?_⟩;have Q:dH l.prog w K mg base zF:=E9 a1 X G Do FK nB λ_ _ F=>mz F c;have q:YP l.prog w K mg base zF:=ZE a2 λ_ _ F=>HD F c;have g:ko l.prog w K mg base zF:=ZE a3 λ_ _ F=>f7 F c q p ES;have L:DA l.prog w K mg base zF:=ZE a4 λ_ _ F=>FO F c;have i:Wc l.prog w K mg base zF:=ZE a5 λ_ _ F=>IE F c g;have M:dO l.prog w K mg base zF:=ZE a6 λ_ _ F=>Hf F c aE;have u:De l.prog w K mg base zF:=ZE a7 λ_ _ F=>fM F c M p;have Ma:BL l.prog w K mg base zF:=ZE a8 λ_ _ F=>gz F c q g L i u Dk;have U:aZ l.prog w K mg base zF:=ZE a9 λ_ _ F=>GG F c g t aE;have FG:aa l.prog w K mg base zF:=ZE a10 λ_ _ F=>mF F c;have o:Xc l.prog w K mg base zF:=jx a11 X G λ_ _ F _ _ _=>eP F;have j:wD l.prog w K mg base zF:=ZE a12 λ_ _ F=>MJ F c p;have I:bW l.prog w K mg base zF:=ZE a13 λ_ _ F=>eI F c o j;have Y:AS l.prog w K mg base zF:=ZE a14 λ_ _ F=>fk F c g j;have F9:aM l.prog w K mg base zF:=jx a15 X G λ_ _ F _ _ _=>E4 F;have F2:Cc l.prog w K mg base zF:=jx a16 X G λ_ _ F _ _ _=>mf F F9 u3 r Y8 p Fx fN Hk;have Eb:bD l.prog w K mg base zF:=jx a17 X G λ_ _ F _ _ _=>nK F F2 r Y8 u3 p;have Fe:A8 l.prog w K mg base zF:=jx a18 X G λ_ _ F _ _ _=>nV F o Bw;have lr:DU l.prog w K mg base zF:=jx a19 X G λ_ _ F _ _ _=>Gw F;have hV:Ak l.prog w K mg base zF:=jx a20 X G λ_ _ F _ _ _=>L0 F o;have Ex:aV l.prog w K mg base zF:=jx a21 X G λ_ _ F _ _ _=>Ek F o;have LC:cF l.prog w K mg base zF:=jx a22 X G λ_ _ F _ _ _=>iH F o Y8 p;have IT:ax l.prog w K mg base zF:=jx a23 X G λ_ _ F _ _ _=>M8 F Fe lr hV Ex LC;have J:Bm l.prog w K mg base zF:=ZE a24 λ_ _ F=>M0 F c q g Eb IT i;have L1:B8 l.prog w K mg base zF:=ZE a25 λ_ _ F=>EI F c Ma U FG I Y J p;have iT:BX l.prog w K mg base zF:=jx a26 X G λ_ _ F _ _ _=>nj F c Q L1 AF;have N:uu l.prog w K mg base zF:=jx a27 X G λ_ _ F _ _ _=>Hs F;have L9:cj l.prog w K mg base zF:=jx a28 X G λ_ _ F _ _ _=>Ep F N t;have GI:b5 l.prog w K mg base zF:=jx a29 X G λ_ _ F _ _ _=>fH F L9 N t;have Dm:Cf l.prog w K mg base zF:=jx a30 X G λ_ _ F _ _ _=>hG F;have C:ux l.prog w K mg base zF:=jx a31 X G λ_ _ F _ _ _=>er F Dm t;have En:Am l.prog w K mg base zF:=jx a32 X G λ_ _ F _ _ _=>Iv F C;have BE:Wb l.prog w K mg base zF:=jx a33 X G λ_ _ F B k m=>DB F B k m AF Fk 20;have Dq:Bk l.prog w K mg base zF:=jx a34 X G λ_ _ F _ _ _=>nh F En BE bz;have bu:We l.prog w K mg base zF:=jx a35 X G λ_ _ F _ _ _=>FV F;have Mp:DP l.prog w K mg base zF:=jx a36 X G λ_ _ F _ _ _=>Gv F bu p;have gf:CH l.prog w K mg base zF:=jx a37 X G λ_ _ F _ _ _=>FI F bu t Ey p;have CU:VR l.prog w K mg base zF:=jx a38 X G λ_ _ F _ _ _=>D0 F;have hJ:BB l.prog w K mg base zF:=jx a39 X G λ_ _ F _ _ _=>m9 F CU;have bt:vk l.prog w K mg base zF:=jx a40 X G λ_ _ F _ _ _=>F3 F;have FC:WR l.prog w K mg base zF:=jx a41 X G λ_ _ F _ _ _=>G5 F bt Y8 Bw p;have La:dy l.prog w K mg base zF:=jx a42 X G λ_ _ F _ _ _=>Ec F u3 p;have gH:U7 l.prog w K mg base zF:=jx a43 X G λ_ _ F _ _ _=>ID F La;have iS:dF l.prog w K mg base zF:=⟨⟨_,_,bF F44 B44 k44 m44 F45 B45 k45 m45 F46 B46 k46 m46 p CU FC gH bt CO hJ 20,B46,k46,m46⟩⟩
 have Ei:aX l.prog w K mg base zF:=jx a47 X G λ_ _ F _ _ _=>FY F C;exact (Hg F48 GI Dq iT Mp gf iS BE Ei t CO D8 r bz).imp λ_ _ _ _ h=>h _
theorem II {l:PySem.W.OpenLaw}{g:jG->zi->Prop}{d:DefRec}{K:Params->PySem.W.Frag} (j:l.most=some 63) (c:d.params.defaults=[])
  (m:∀ (w:jG) (h:zi),g w h->(K w.params).In h)
  (F:∀ (w:jG) (mg:Str->Option zD) (i:zE) (h:zi),(K w.params).In h->h.Ns jb mg->mg d.name=some (.ref i) ->
   ∃ fd:QI,(∀ (s:zJ) (u:zD),XI s fd ⟨[u],[]⟩ [("_law_script",u)])/\fd.scope.names.lookup ("_law_script" : Str)=some .local/\∀ base:zi,(K w.params).In base->base.Ns jb mg->zm l.prog w (K w.params) mg base CX0 63 i fd ["_law_script"] (V3 (K w.params))) :
  PySem.W.WalkO q e t g l.row.toRowW d [] (λf vs=>PySem.call f vs) :=
 L2.HB (n:=63) (k:=63) (x := "_law_script") (CX:=λ_=>CX0) (sp:=λw=>V3 (K w.params)) j (by decide) c ⟨rfl,by decide,by decide⟩ m F (λ_ _ _ _ o p r=>IY o p r) λ_ _ _ _ _ z=>z
end My
theorem PySem.W.Fast.tw3878007531980575436:True:=trivial
theorem PySem.W.Fast.tw16576339968774286633:True:=trivial
theorem PySem.W.Fast.tw17532939214599240219:True:=trivial
theorem PySem.W.Fast.tw11792639630122271364:True:=trivial
theorem PySem.W.Fast.tw9674761364294553765:True:=trivial
theorem PySem.W.Fast.tw14715674598591477862:True:=trivial
theorem PySem.W.Fast.tw5497428248196227616:True:=trivial
theorem PySem.W.Fast.tw2101325902028324630:True:=trivial
theorem PySem.W.Fast.tw3260339563395891497:True:=trivial
theorem PySem.W.Fast.tw8701843573819346072:True:=trivial
theorem PySem.W.Fast.tw17623023337185236482:True:=trivial
theorem PySem.W.Fast.tw10460197760759307840:True:=trivial
theorem PySem.W.Fast.tw17495348495385533490:True:=trivial
theorem PySem.W.Fast.tw4558476101331791946:True:=trivial
theorem PySem.W.Fast.tw7147096855998773765:True:=trivial
theorem PySem.W.Fast.tw13197496556041699960:True:=trivial
theorem PySem.W.Fast.tw3926967091454365928:True:=trivial
theorem PySem.W.Fast.tw8191784357585537330:True:=trivial
theorem PySem.W.Fast.tw12967515463877663061:True:=trivial
theorem PySem.W.Fast.tw7947014790077213399:True:=trivial
theorem PySem.W.Fast.tw5495932091655994624:True:=trivial
theorem PySem.W.Fast.tw8456141673294048161:True:=trivial
theorem PySem.W.Fast.tw18209885432590015524:True:=trivial
theorem PySem.W.Fast.tw9847793446623024904:True:=trivial
theorem PySem.W.Fast.tw1340528029417950171:True:=trivial
theorem PySem.W.Fast.tw2802040992130222699:True:=trivial
theorem PySem.W.Fast.tw2606493885854096580:True:=trivial
theorem PySem.W.Fast.tw1776388770476340398:True:=trivial
theorem PySem.W.Fast.tw16717621812841965169:True:=trivial
theorem PySem.W.Fast.tw655258187921110307:True:=trivial
theorem PySem.W.Fast.tw5544413033425051542:True:=trivial
theorem PySem.W.Fast.tw14004370284770313259:True:=trivial
theorem PySem.W.Fast.tw11602212132934790528:True:=trivial
theorem PySem.W.Fast.tw6071872425617651211:True:=trivial
theorem PySem.W.Fast.tw2970120497508336549:True:=trivial
theorem PySem.W.Fast.tw7090058158028617037:True:=trivial
theorem PySem.W.Fast.tw14834822183308986754:True:=trivial
theorem PySem.W.Fast.tw2229491874074338085:True:=trivial
theorem PySem.W.Fast.tw13952059176796243636:True:=trivial
theorem PySem.W.Fast.tw17061159448149822561:True:=trivial
theorem PySem.W.Fast.tw16037925023684503923:True:=trivial
theorem PySem.W.Fast.tw9193538589374781241:True:=trivial
theorem PySem.W.Fast.tw17451418039140306215:True:=trivial
theorem PySem.W.Fast.tw13190014746882744358:True:=trivial
theorem PySem.W.Fast.tw16060610360135466062:True:=trivial
theorem PySem.W.Fast.tw6161395744030233200:True:=trivial
theorem PySem.W.Fast.tw14652627221962173629:True:=trivial
theorem PySem.W.Fast.tw14534057434708047407:True:=trivial
theorem PySem.W.Fast.tw12082859240065195137:True:=trivial
theorem PySem.W.Fast.tw15685452731980332681:True:=trivial
theorem PySem.W.Fast.tw8263622058878633279:True:=trivial
theorem PySem.W.Fast.tw7103003528247348532:True:=trivial
theorem PySem.W.Fast.tw13610269311814869284:True:=trivial
theorem PySem.W.Fast.tw15924555781259815063:True:=trivial
theorem PySem.W.Fast.tw14520593883022679082:True:=trivial
theorem PySem.W.Fast.tw15737551692515622590:True:=trivial
theorem PySem.W.Fast.tw2775358524196842723:True:=trivial
theorem PySem.W.Fast.tw18327302032262657945:True:=trivial
theorem PySem.W.Fast.tw3962351128601222357:True:=trivial
theorem PySem.W.Fast.tw7903639882616966372:True:=trivial
theorem PySem.W.Fast.tw8174960092420962678:True:=trivial
theorem PySem.W.Fast.tw11407983599247235014:True:=trivial
theorem PySem.W.Fast.tw4667618421228432233:True:=trivial
theorem PySem.W.Fast.tw8002363303322812534:True:=trivial
theorem PySem.W.Fast.tw8000372831857316457:True:=trivial
theorem PySem.W.Fast.tw14498216513052815622:True:=trivial
theorem PySem.W.Fast.tw17834728664745483585:True:=trivial
theorem PySem.W.Fast.tw338658429495181716:True:=trivial
theorem PySem.W.Fast.tw10306953700783113957:True:=trivial
theorem PySem.W.Fast.tw14824976653013288491:True:=trivial
theorem PySem.W.Fast.tw14916449097014281668:True:=trivial
theorem PySem.W.Fast.tw5976720817038659384:True:=trivial
theorem PySem.W.Fast.tw6640854257350428031:True:=trivial
theorem PySem.W.Fast.tw6195402731848508361:True:=trivial
theorem PySem.W.Fast.tw5373262414269071079:True:=trivial
theorem PySem.W.Fast.tw15110121392467805809:True:=trivial
theorem PySem.W.Fast.tw11415634193652127607:True:=trivial
theorem PySem.W.Fast.tw7183919517961957782:True:=trivial
theorem PySem.W.Fast.tw7740609677802432036:True:=trivial
theorem PySem.W.Fast.tw2384541896748741819:True:=trivial
theorem PySem.W.Fast.tw9377298819996273510:True:=trivial
theorem PySem.W.Fast.tw5212414411934714721:True:=trivial
theorem PySem.W.Fast.tw3235348695606659604:True:=trivial
theorem PySem.W.Fast.tw11586524332412313579:True:=trivial
theorem PySem.W.Fast.tw3575476983069098920:True:=trivial
theorem PySem.W.Fast.tw2051381145945604461:True:=trivial
theorem PySem.W.Fast.tw6408441840951389332:True:=trivial
theorem PySem.W.Fast.tw10805496551021689612:True:=trivial
theorem PySem.W.Fast.tw7826666603498835712:True:=trivial
theorem PySem.W.Fast.tw13890391226000542604:True:=trivial
theorem PySem.W.Fast.tw4007277738530770467:True:=trivial
theorem PySem.W.Fast.tw2957205976718329576:True:=trivial
theorem PySem.W.Fast.tw1740695340507169378:True:=trivial
theorem PySem.W.Fast.tw1290337918789886217:True:=trivial
theorem PySem.W.Fast.tw4489988494367496093:True:=trivial
theorem PySem.W.Fast.tw2505628741452745396:True:=trivial
theorem PySem.W.Fast.tw9534300560856753423:True:=trivial
theorem PySem.W.Fast.tw4043684867052728941:True:=trivial
theorem PySem.W.Fast.tw17012307111311258:True:=trivial
theorem PySem.W.Fast.tw13806254047458973684:True:=trivial
theorem PySem.W.Fast.tw14172796303131929573:True:=trivial
theorem PySem.W.Fast.tw12631071996351694120:True:=trivial
theorem PySem.W.Fast.tw5369776650132947219:True:=trivial
theorem PySem.W.Fast.tw14244866966310160514:True:=trivial
theorem PySem.W.Fast.tw11463856078772844948:True:=trivial
theorem PySem.W.Fast.tw16141327018258977276:True:=trivial
theorem PySem.W.Fast.tw8491727569663959427:True:=trivial
theorem PySem.W.Fast.tw3025602182965495615:True:=trivial
theorem PySem.W.Fast.tw13514390768980202033:True:=trivial
theorem PySem.W.Fast.tw16931928147884655265:True:=trivial
theorem PySem.W.Fast.tw12793420221652557556:True:=trivial
theorem PySem.W.Fast.tw15672322873834803820:True:=trivial
theorem PySem.W.Fast.tw7970609102592288245:True:=trivial
theorem PySem.W.Fast.tw9982131346871223695:True:=trivial
theorem PySem.W.Fast.tw8151771931907994965:True:=trivial
theorem PySem.W.Fast.tw1140725106312047736:True:=trivial
theorem PySem.W.Fast.tw14713882907408422912:True:=trivial
theorem PySem.W.Fast.tw12535454861153802653:True:=trivial
theorem PySem.W.Fast.tw13192206654037960426:True:=trivial
theorem PySem.W.Fast.tw8556991528092524213:True:=trivial
theorem PySem.W.Fast.tw11441583269754428263:True:=trivial
theorem PySem.W.Fast.tw10304467848774490617:True:=trivial
theorem PySem.W.Fast.tw6994092114660859308:True:=trivial
theorem PySem.W.Fast.tw320244909667405942:True:=trivial
theorem PySem.W.Fast.tw3277919849594169241:True:=trivial
theorem PySem.W.Fast.tw7008139359791367405:True:=trivial
theorem PySem.W.Fast.tw6796396249074395763:True:=trivial
open PySem PySem.W PyProof.Rows
set_option maxRecDepth 100000 in
set_option maxHeartbeats 0 in
theorem PySem.Challenge.cw_thingyard_k46_plain_working_holds : PySem.Challenge.rw_thingyard_k46_plain_working.Holds := by
 w_on;o_law;k_head;(case hw=>w_witness2)
 k_fill
 refine My.II (l:=PySem.Challenge.rw_thingyard_k46_plain_working) rfl rfl (λw h Y=>PySem.W.kIn_of Y) ?F
 case F =>
  intro w mg fa h KX G hmg;refine' My.IA KX G hmg ?_ ?_ ?_ ?_ ?_ ?_ ?_ ?_ ?_ ?_ ?_ ?_ ?_ ?_ ?_ ?_ ?_ ?_ ?_ ?_ ?_ ?_ ?_ ?_ ?_ ?_ ?_ ?_ ?_ ?_ ?_ ?_ ?_ ?_ ?_ ?_ ?_ ?_ ?_ ?_ ?_ ?_ ?_ ?_ ?_ ?_ ?_ ?_ ?_ ?_ ?_ ?_ ?_ ?_ ?_ ?_ ?_ ?_ ?_ ?_ ?_ ?_ ?_ ?_ ?_ ?_ ?_ ?_ ?_ ?_ ?_ ?_ ?_ ?_ ?_ ?_ ?_ ?_ ?_ ?r_MOST_SIGNS ?_ ?r_MOST_STEPS ?_ ?_ ?r_KEPT_WORDS ?_ ?r_MOST_LETTERS
  all_goals first | k_is | (refine' L2.isG ?a ?l ?c ?k;(case a=>k_is);(case l=>k_is);(case c=>k_is);(case k=>k_is)) | (refine' L2.isM ?a ?i ?l ?c ?k;(case a=>k_is);(case i=>k_is);(case l=>k_is);(case c=>k_is);(case k=>k_is)) | skip
  (case r_MOST_SIGNS=>rfl)
  (case r_MOST_STEPS=>rfl)
  (case r_KEPT_WORDS=>rfl)
  (case r_MOST_LETTERS=>rfl)
