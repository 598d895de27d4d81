import PyProof.Rows.All
import Wide.All
import OpenK.AllK
import Wide.FinOn
import Lean
import PyProof.EqAt
import PyProof.EqKinds
import PyProof.TupleCall
import PySem.Challenge.RW_thingyard_k64_ranks
set_option Elab.async false
set_option linter.all false
set_option maxRecDepth 100000
open PySem renaming Value->zB,Addr->zC,Shared->zG,model->zI,Expr->zQ,Heap->zT,sizeLine->zc,Stmt->zh,Program->zi,eval->zu,World->zy,starEach->jd,Around->jh,compareOp->jv,mainGlobals->jx,bootBuiltins->j1,binaryOp->yD,backTo->yO,wpAny_with_toks->ye,wpAny_holding->y4,sysModules->y7,argBest->ZD,sizeLine_eq->ZG,rule->ZP,Scope->ZZ,cLine->Za,compEnvC->Zu,pyNext->QB,PyData->QC,codeAny_builtin->QG,assign->QL,IsPair->QW,attributeBase->Qg,rawInt->Qo,assignEach->Qs,Keyword->Qv,FuncData->Qw,wpAny_rule->Q0,behindInMarks->Q1,swapsWith->Q3,atKey->JA,foldedSetIterable->JG,valueAt->JT,bindArgs->Ja,IsPart->Jn,NameKind->xT,Result->xU,wpAny_passesOwn->xg,callerA->xq,wpAny_updateSeq->xt,tupleKind->xw,sliceBounds->x5,wpAny_Call_Name_kw->x9,setItem->kJ,Model->kK,call_meetsIn->kZ,wpAny_newObj_type->kf,BindsTo->ko,pyIter->XC,wpAny_tryCatch->XO,wpAny_seqItems->Xi,tupleKind_room_in1->Xk,plainId_quiet->Xl,PassesOwn->Xr,wpAny_truthy_bool->X6,getItem->KN,backToKw->KQ,keywordEach->KS,cellsFrom->KW,codeAny_mono->vJ,wpAny_typeOf->vM,scanBound->vW,wpAny_field->VF,wpAny_call_entry->VH,wpAny_letGo->VR,wpAny_standAt->Vt,wpAny_getItem_str_slice->Vv,wpAny_typeNameOfWhole_itemiter->YV,InCallC->YX,inplaceOp->Yf,wpAny_pyIter_list->uK,call_meets->ud,post_val_or_str->uq,PlainAttrs->uv,swapsWithSole->UK,wpAny_setField_rec->UM,wpAny_ite_split->Ua,wpAny_of_eq->U5,DictEntry->U6,seqIndex_neg->wb,wpAny_newList->wj,wpAny_Call_method0_late->We,wpAny_callSpecial?_slot->Wp,wpAny_call->Wr,newFunctionEnv->Wv,wpAny_attempt->Wz,letOwnedTupleGo->W0,wpAny_Name->ak,swappedStores->az,builtinsNs->Aq,wpAny_isOneOf_itemiter->Av,typeIs_str->Ax,typeLookup->A8,seqIndex_of->bH,meets_dict_items->cn,noFill_tuple_add->Cj,wpAny_execs_cons->dG,builtinLookup_eq_fast->dH,codeAny_call_builtin->dg,getattributeRaised->dw,wpAny_loadName_cell->DD,callType_codes->Dm,wpAny_comprehension_free->eu,firstArgMember->EJ,wpAny_storeName_local->Eg,wpAny_isTrue_Compare1->Ei,wpAny_dictEpoch->fE,wpAny_assign_Name->fO,wpAny_isInstance->fc,wpAny_newTuple->FQ,typeLookup_type->FZ,wpAny_pyNext_items_item->Fv,recursionLimit->F5,wpAny_fieldsOf->gA,wpAny_loadName_local->gL,wpAny_dictEntries->G0,wpAny_pyIter_items->hY
open PyProof.Rows renaming Keyed->zH,arrOf->zJ,SortSt->zO,wpS_bind->zR,pendingOf->jG,oneType'->qK,elem'->qb,wpS_mono->yE,wpS_forRange->yX,envOfC->ZM,seqObj->Zi,wpS_get->Zx,failedOf->Qe,AllBare->Q4,wpS_modify->JU,wpS_lift->xW,pairsOf->kT,StrsAre->XM,KK_congr->KY,IntsAre->ve,reverseSlice'->VT,minRun'->Vc,sortedS->Vi,callWith_type1->Vq,pairsOf_size->uS,wpS_reverse->uu,setPending->u9,KK_mirror_equal->UH,seqEpoch_at->WY,SortedToK->Wj,listUpdate_at->ai,slot_tuple_getitem->B5,slicePart_none->dN,subscriptTail_builtinR->et,callWith_builtin1->G9
open Or renaming inl->zb,inr->ZN
open Nat renaming le_refl->zd,ne_of_lt->z4,lt_of_lt_of_le->jR,zero_add->ja,le_trans->qD,ne_of_gt->qd,succ_pos->yf,zero_le->ZJ,lt_irrefl->Zy,sub_self->JN,lt_succ_of_lt->xK,lt_succ_self->xS,reduceAdd->x3,le_of_lt->kL,le_succ->kU,add_assoc->XU,le_of_eq->XX,lt_trans->Xc,add_sub_cancel->ui,add_zero->wH,add_sub_cancel_left->aB,reduceSub->bN,lt_of_le_of_lt->fz
open List renaming getElem?_cons_zero->zg,getElem?_cons_succ->zk,replicate->zq,length_map->z9,map_cons->jF,mem_cons_self->jI,prefix_refl->jN,getElem?_append_right->jP,length_cons->jU,mem_cons_of_mem->jV,append_assoc->jg,size_toArray->jw,length_append->jy,set_cons_succ->qC,length_set->qE,getElem?_append_left->qF,getElem?_map->qG,set_cons_zero->qH,range->qQ,mem_append_right->qw,length_take->qx,cons_append->qz,getD_eq_getElem?_getD->yC,nil_append->yQ,getElem?_set_ne->yY,map_map->yj,mem_of_getElem?->yn,any_cons->yp,length_nil->yy,lookup_cons->yz,getElem?_eq_getElem->ZL,append_nil->ZS,prefix_append->Zc,all_cons->Zd,mem_append_left->Zg,map_congr_left->Zv,nodup_nil->Z1,length_drop->Z6,map_id->QE,getElem?_eq_none->QQ,foldl_cons->Qi,getElem?_set_self->Qq,map_nil->Qz,take_succ->JI,replicate_succ->JQ,flatten_cons->Jo,take_length->Jq,nodup_cons->Jt,nodup_append->xP,length->xX,pairwise_cons->xv,take_of_length_le->k9,length_range->XA,find?_cons->XJ,getElem?_range->XQ,map_append->XS,drop_eq_getElem_cons->X7,extract_eq_take_drop->KD,getElem?_replicate->Ky,all_nil->Kz,drop_zero->vK,take_append_drop->vk,set_append_right->Vy,filterMap_cons->V1,reverse_perm->YK,mem_of_mem_take->uM,not_lt->UG,mem_append->Uc,all_map->WU,foldl->Wu,filter_congr->W3,mem_reverse->aP,getElem?_take_of_lt->aq,of_mem_zip->Ay,lt_irrefl->bY,getElem?_drop->BO,mem_filter->BV,drop_length->B8,any_eq_false->cE,mem_of_mem_drop->cO,take_succ_eq_append_getElem->cV,mem_map->cy,foldl_append->CA,filterMap_map->CZ,le_trans->dE,set_set->dJ,any_map->D0,any_eq_true->D1,perm_ext_iff_of_nodup->ee,filter_cons->ED,mem_cons->EV,reverse_append->Ea,filter_sublist->Ep,le_antisymm->Ez,find?_some->fC,length_replicate->gD,nodup_range->gE,lt_trans->gg,foldl_nil->Gb,drop_of_length_le->Gh,idxOf_cons->Gn,mem_of_find?_eq_some->HA,length_filter_le->HC
open PySem.Heap renaming lt_size->zm,get?_push_of_some->jK,get?_push_size->qU,size_push->QT,get?_update_self->xa,SameBut->kh,get?_update_other->Xe,size_update->Xg,get?_update_ne->VI,DictAt->A1,get?_push_ne->fS
open False renaming elim->jH
open Bool renaming false_eq_true->jW,and_eq_true->jl,false_ne_true->jt,and_self->ya,not_true->Ji,true_and->KR,not_eq_true'->K0,or_eq_true->vx,false_xor->YH,true_xor->YL,and_true->Yn,eq_iff_iff->uA,not_eq_false'->wR,or_false->DS,false_and->Eh,not_false->Ey
open PySem.Value renaming ref->jY,none->ZH,type->Qr,str->k8,int->uR,bool->AF,isStrOf->A7,float->cB,isInt->HH
open Array renaming length_toList->jf,toList_append->Zj,size_extract->kr,getElem?_toList->Xt,toList_reverse->KZ,getElem_toList->vF,toList_push->vY,toList_extract->Vz,toList->AU,getElem_extract->ef,size_map->ft,toList_setIfInBounds->Fg
open Ne renaming symm->jr
open PyProof.Rows.KeyOrd renaming kle_trans->yJ,kle_of_klt->Zn,kle_refl->Q8,kle_antisymm->c8
open PySem.Obj renaming mapSeq->yK
open PySem.PassesOwn renaming never->yc
open Int renaming emod_nonneg->yq,emod_lt_of_pos->ZQ,toNat_natCast->Vn,min_eq_left->V7,ediv_one->dQ
open PySem.SeqAt renaming shaped->ZC,EqAt->Cf,canLay_of_shaped->du
open True renaming intro->Zf
open Option.some renaming inj->Z2,injEq->fX
open PySem.PyData renaming eqv->xG,depthAll->Y4,strOk->cN,eqvAll->Df,canLayAll0->Fh,depth->gP
open PySem.NameKind renaming free->xH,cell->XN
open PySem.Builtin.Str renaming occurrences->xb,strSliceIndices->FY,subAt->Hn,tooLong->Hz
open Option renaming map_some->xp,map->Vm,toList_some->Y1,isSome_map->bK,getD_some->fQ,getD_none->F4,isSome_none->gy
open Sum renaming inl->xy,inr->ku
open ForInStep renaming yield->kn,done->Ki
open PySem.Around renaming under_plainId->Xa
open PySem.Txt renaming mul->vA,slice->vT,join->Y3
open PySem.Str renaming ofString->vh,length->uZ
open Function renaming comp->VJ
open List.Pairwise renaming nil->Yo
open PySem.Builtin.Tuple renaming tupleExact->uC,tupleItemsOf->Hl
open PySem.Builtin.Slice renaming slicePlaces->uQ,sliceAdjust->W5,sliceApplied->Fb,sliceFields->Ho,slicePartIndex->iC
open PySem.Calls renaming callWith_builtin->u3,spliced_cons->Ur,spliced_nil->Aa,Name_function_global->DA
open PySem.Walks renaming list->UR
open PyProof.Rows.F renaming plain_set_update_loop->Wf,entry_set_update_loop->Dc
open PyProof.Rows.SortSt renaming mk'->aD
open PySem.Builtin.List renaming listTooLong->aR,listExtendWith->AH,listSameRef->Cp,listLengthHint->FD,listItems->HJ,listFitsIndex->Hd,listUpdate->Hm
open PySem.Shared renaming TypeIs->bE
open List.cons renaming inj->bt
open PySem.StrLaws renaming At->BD
open PySem.W.WShape renaming has->cK
open PySem.SeqAt.EqAt renaming int_str->cu,str_int->fW,bool_int->Hf,none_str->Hq,str_none->Hr,int_int->Hs,str_str->Hu,str_bool->Hw,int_none->Hx,none_bool->Hy,bool_str->H8,int_bool->H9,bool_bool->iG,same->iI,none_int->iJ,bool_none->iK
open PySem.Builtin.Dict_items renaming ownedTupleIsFree->CI
open PyProof.Rows.IsTup renaming new->dA
open PySem.Builtin.Dict renaming updateFrom->dD,selfAndRest->Hb,addKeywords->Hc,pairItems->iD
open PySem.W.WData renaming int->dW
open Classical renaming propDecidable->DL
open PySem.Moved renaming trans->Dl,eq_with->gq
open Array.Perm renaming refl->fo,trans->Ha
open PySem.Heap.DictOf renaming new->FE
open PySem.CmpOp renaming In->FV,NotIn->G5
open Sum.inr renaming inj->gR
open PySem.Heap.IsSliceOf renaming new->HY
open PySem.Heap.SameBut renaming refl->Hg
open PySem.Builtin.Frozenset renaming updateFrom->Ht
open PySem.Builtin.Range renaming rangeSize->iF
noncomputable section
namespace L2
open PySem PySem.Spec PyProof.Rows
abbrev Key:=Sum Int Str
noncomputable def kg:Key->zB->Bool
 | .inl k,v=>HH k v
 | .inr x,v=>A7 x v
noncomputable def F0 (w:zy):Key->Int
 | .inl k=>hashInt k
 | .inr x=>hashStr w x
theorem Zr:∀ {k:Key}{v:zB},kg k v=true->(∃ i t,k=xy i/\v=uR i t)\/(∃ x t,k=ku x/\v=k8 x t)
 | .inl i,v,h=>by
  obtain⟨t,e⟩:=Value.isInt_shape (k:=i) (v:=v) h;exact .inl ⟨i,t,rfl,e⟩
 | .inr x,v,h=>by
  obtain⟨t,e⟩:=Value.isStrOf_shape (x:=x) (v:=v) h;exact .inr ⟨x,t,rfl,e⟩
theorem FL (i:Int) (t:Tok):kg (.inl i) (.int i t)=true:=by simp[kg,HH]
theorem bO (x:Str) (t:Tok):kg (.inr x) (.str x t)=true:=by simp[kg,A7]
theorem bR (a b:Int):decide ((xy a:Key)=xy b)=(a == b):=by
 by_cases e:a=b
 ·subst e;simp
 ·have h:¬ (xy a:Key)=xy b:=λq=>e (Sum.inl.inj q);rw[decide_eq_false h];exact (beq_eq_false_iff_ne.mpr e).symm
theorem G1 (a b:Str):decide ((ku a:Key)=ku b)=decide (a=b):=by
 by_cases e:a=b
 ·subst e;simp
 ·have h:¬ (ku a:Key)=ku b:=λq=>e (gR q);rw[decide_eq_false h,decide_eq_false e]
theorem HV (a:Int) (b:Str):decide ((xy a:Key)=ku b)=false:=decide_eq_false (λq=>nomatch q)
theorem Dj (a:Str) (b:Int):decide ((ku a:Key)=xy b)=false:=decide_eq_false (λq=>nomatch q)
noncomputable def jJ (prog:zi) (w:zy):PySem.KeyKind prog w Key where
 is:=kg
 hash:=F0 w
 inj:=λv a b ha f=>by
  rcases Zr ha with ⟨i,t,rfl,rfl⟩ | ⟨x,t,rfl,rfl⟩
  ·rcases Zr f with ⟨j,u,rfl,e⟩ | ⟨y,u,rfl,e⟩
   ·injection e with c _;rw[c]
   ·exact nomatch e
  ·rcases Zr f with ⟨j,u,rfl,e⟩ | ⟨y,u,rfl,e⟩
   ·exact nomatch e
   ·injection e with c _;rw[c]
 byValue:=λk v h=>by
  rcases Zr h with ⟨i,t,rfl,rfl⟩ | ⟨x,t,rfl,rfl⟩<;>rfl
 pyHash:=λd h=>by
  rcases Zr d with ⟨i,t,rfl,rfl⟩ | ⟨x,t,rfl,rfl⟩
  ·exact wpAny_pyHash_int h
  ·exact wpAny_pyHash_str h
 eqBool:=λg d h=>by
  rcases Zr g with ⟨i,t,rfl,rfl⟩ | ⟨x,t,rfl,rfl⟩
  ·rcases Zr d with ⟨j,u,rfl,rfl⟩ | ⟨y,u,rfl,rfl⟩
   ·rw[bR] at h;exact wpAny_eqBool_int h
   ·rw[HV] at h;exact cu i t y u _ _ _ _ h
  ·rcases Zr d with ⟨j,u,rfl,rfl⟩ | ⟨y,u,rfl,rfl⟩
   ·rw[Dj] at h;exact fW x t j u _ _ _ _ h
   ·rw[G1] at h;exact wpAny_eqBool_str h
 «strs» := λk x t v h=>by
  rcases Zr h with ⟨i,u,rfl,e⟩ | ⟨y,u,rfl,e⟩
  ·exact nomatch e
  ·injection e with c _;subst c;cases v<;>rfl
theorem GQ (prog:zi) (w:zy) (i:Int) (t:Tok):(jJ prog w).is (.inl i) (.int i t)=true:=FL i t
theorem B6 (prog:zi) (w:zy) (x:Str) (t:Tok):(jJ prog w).is (.inr x) (.str x t)=true:=bO x t
end L2
namespace L2
open PySem PySem.Spec PyProof.Rows
inductive V where
 | non | bl (b:Bool) | int (i:Int) | str (x:Str) | byt (b:Array UInt8) | flt (b:UInt64) | ref (a:zC) | ty (n:String)
 deriving DecidableEq
noncomputable def zX:V->zB->Prop
 | .non,u=>u=ZH
 | .bl b,u=>u=AF b
 | .int i,u=>∃ t,u=uR i t
 | .str x,u=>∃ t,u=k8 x t
 | .byt b,u=>∃ t,u=Value.bytes b t
 | .flt b,u=>∃ t,u=cB b t
 | .ref a,u=>u=jY a
 | .ty n,u=>u=Qr n
noncomputable abbrev za:List V->List zB->Prop:=Paired zX
theorem za.length (r:za xs us):xs.length=us.length:=Paired.length r
theorem za.get:∀ {xs:List V}{us:List zB}{i:Nat}{x:V},za xs us->xs[i]? = some x->∃ u,us[i]? = some u/\zX x u
 | _,_,_,_,.nil,e=>by simp at e
 | _,_,0,_,.cons r _,e=>by simp at e;subst e;exact⟨_,rfl,r⟩
 | _,_,i+1,x,.cons _ t,e=>by
  obtain⟨u,c,d⟩:=za.get (i:=i) (x:=x) t (by simpa using e);exact⟨u,by simpa using c,d⟩
theorem za.set (r:zX x u):∀ {xs:List V}{us:List zB} (i:Nat),za xs us->za (xs.set i x) (us.set i u)
 | _,_,_,.nil=>.nil
 | _,_,0,.cons _ t=>.cons r t
 | _,_,i+1,.cons q t=>.cons q (za.set r i t)
theorem za.append:∀ {xs ys:List V}{us c:List zB},za xs us->za ys c->za (xs++ys) (us++c)
 | _,_,_,_,.nil,s=>s
 | _,_,_,_,.cons r t,s=>.cons r (za.append t s)
theorem za.take:∀ {xs:List V}{us:List zB} (n:Nat),za xs us->za (xs.take n) (us.take n)
 | _,_,0,_=>.nil
 | _,_,_+1,.nil=>.nil
 | _,_,n+1,.cons r t=>.cons r (za.take n t)
theorem za.drop:∀ {xs:List V}{us:List zB} (n:Nat),za xs us->za (xs.drop n) (us.drop n)
 | _,_,0,r=>r
 | _,_,_+1,.nil=>.nil
 | _,_,n+1,.cons _ t=>za.drop n t
noncomputable def y8:Option V->Option zB->Prop
 | some v,some u=>zX v u
 | none,none=>True
 | _,_=>False
noncomputable def KV {c:Type}:List (c×V)->List (c×zB)->Prop:=Paired λ(p:c×V) (q:c×zB)=>p.1=q.1/\zX p.2 q.2
noncomputable def kV:Key->V
 | .inl i=>.int i
 | .inr x=>.str x
inductive HO where
 | lst (xs:List V)
 | tup (xs:List V)
 | dK (kvs:List (Key×V)) | dT (kvs:List (List Key×V))
 | set (S:Int->Bool) (n:Nat)
 | ins (C dx:zC) (fs:List (Str×V))
 | own (x:zC)
 | xd (fs:List (Str×V))
 | met (f x:zC)
 | rng (lo hi:Int)
 | frz (o:Obj) (u:HO)
 | tbl (ps:Array zB)
 | ext (φ:zT->Prop)
abbrev Hp:=zC->Option HO
noncomputable def upd (H:Hp) (a:zC) (o:HO):Hp:=λb=>if b=a then some o else H b
theorem ju {a:zC}:upd H a o a=some o:=by unfold upd;rw[if_pos rfl]
theorem zl {a b:zC} (h:b≠a):upd H a o b=H b:=by unfold upd;rw[if_neg h]
theorem cj {H:Hp}{a b:zC}{o u:HO} (h:H a=some o) (h':H b=some u) (d:o≠u):a≠b:=by
 intro e;subst e;rw[h] at h';exact d (Z2 h')
theorem Jv {H:Hp}{a b:zC}{o:HO} (h:H a=some o) (h':H b=none):a≠b:=by
 intro e;subst e;rw[h] at h';cases h'
section
variable (P:zi) (w:zy)
noncomputable def jQ (H:Hp) (h:zT) (a:zC):HO->Prop
 | .lst xs=>xs.length <= zc/\∃ (its:List zB) (n:Nat),za xs its/\h.get? a=some { cls:=.type "list",data:=.seq its.toArray n }
 | .tup xs=>xs.length <= zc/\∃ its:List zB,za xs its/\IsTup h a its.toArray
 | .dK kvs=>kvs.length <= zc/\(a == y7)=false/\∃ g,KV kvs g/\h.DictOf (jJ P w) a g
 | .dT kvs=>kvs.length <= zc/\(a == y7)=false/\∃ xs:List (List Key×zC×zB),
   Paired (λ(p:List Key×V) (q:List Key×zC×zB)=>p.1=q.1/\H q.2.1=some (.tup (p.1.map kV))/\zX p.2 q.2.2) kvs xs /\
   ∃ o es ep,h.get? a=some o/\o.ExactDict/\o.data=.dict es ep/\es.toList=xs.map (entryOfKey (xw (jJ P w)))/\(xs.map (·.1)).Nodup
 | .set S n=>h.SetOf (intKind P w) a S n
 | .ins C d fs=>H d=some (.own a)/\fs.length <= 1000/\d≠a/\h.get? a=some (PySem.W.instObj C d) /\
   ∃ c,h.Ns1 d c/\(∀ f,y8 (fs.lookup f) (c f))/\PySem.Within c (fs.map (·.1))
 | .own _=>∃ o,h.get? a=some o
 | .xd fs=>∃ c,h.Ns1 a c/\∀ f,y8 (fs.lookup f) (c f)
 | .rng lo hi=>∃ t u v,h.get? a=some { cls:=.type "range",data:=.fields #[.int lo t,.int hi u,.int 1 v] }
 | .frz o u=>h.get? a=some o/\jQ H h a u
 | .tbl ps=>h.get? a=some { cls:=.none,data:=.fields ps }
 | .met f x=>h.get? a=some (PySem.W.methodObj (.ref f) (.ref x))
 | .ext e=>e h/\(∃ o,h.get? a=some o)/\∀ i j:zT,e i->(∀ o,i.get? a=some o->j.get? a=some o)->e j
def HOk (H:Hp) (h:zT):Prop:=∀ a o,H a=some o->jQ P w H h a o
end
section
variable {P:zi}{w:zy}{H H':Hp}{h h':zT}{a:zC}{o:HO}
theorem jQ.lt (x:jQ P w H h a o):a < h.objs.size:=by
 cases o with
 | lst xs=>obtain⟨_,_,_,_,e⟩:=x;exact zm e
 | tup xs=>obtain⟨_,_,_,p⟩:=x;exact p.lt
 | dK kvs=>obtain⟨_,_,_,_,o,_,_,e,_⟩:=x;exact zm e
 | dT kvs=>obtain⟨_,_,_,_,o,_,_,e,_⟩:=x;exact zm e
 | set S n=>obtain⟨o,_,_,_,e,_⟩:=x;exact zm e
 | ins C c fs=>obtain⟨_,_,_,e,_⟩:=x;exact zm e
 | own y=>obtain⟨_,e⟩:=x;exact zm e
 | xd fs=>obtain⟨_,⟨_,_,_,e,_⟩,_⟩:=x;exact zm e
 | rng lo hi=>obtain⟨_,_,_,e⟩:=x;exact zm e
 | frz ob u=>obtain⟨e,_⟩:=x;exact zm e
 | tbl ps=>exact zm (show h.get? a=some _ from x)
 | met f y=>exact zm (show h.get? a=some _ from x)
 | ext d=>obtain⟨_,⟨_,e⟩,_⟩:=x;exact zm e
theorem Paired.mapP {d e:Type}{F G:d->e->Prop}:∀ {c:List d}{l₂:List e},Paired F c l₂->(∀ a b,F a b->G a b)->Paired G c l₂
 | _,_,.nil,_=>.nil
 | _,_,.cons r t,f=>.cons (f _ _ r) (Paired.mapP t f)
theorem jQ.stay (x:jQ P w H h a o) (k:∀ b u,(b=a\/H b=some (.own a))->h.get? b=some u->h'.get? b=some u)
  (j:∀ b,H b=some (.own a)->H' b=some (.own a)) (l:∀ b xs,H b=some (.tup xs)->H' b=some (.tup xs)):jQ P w H' h' a o:=by
 induction o with
 | lst xs=>obtain⟨z,its,n,r,e⟩:=x;exact⟨z,its,n,r,k _ _ (.inl rfl) e⟩
 | tup xs=>obtain⟨z,its,r,ob,e,c⟩:=x;exact⟨z,its,r,ob,k _ _ (.inl rfl) e,c⟩
 | dK kvs=>obtain⟨z,y,m,r,ob,es,ep,e,c⟩:=x;exact⟨z,y,m,r,ob,es,ep,k _ _ (.inl rfl) e,c⟩
 | dT kvs =>
  obtain⟨z,y,xs,r,ob,es,ep,e,c⟩:=x;exact⟨z,y,xs,Paired.mapP r λp q z=>⟨z.1,l _ _ z.2.1,z.2.2⟩,ob,es,ep,k _ _ (.inl rfl) e,c⟩
 | set S n=>obtain⟨ob,es,ep,t,e,c⟩:=x;exact⟨ob,es,ep,t,k _ _ (.inl rfl) e,c⟩
 | ins C B fs =>
  obtain⟨d,z,ne,e,g,⟨i,es,ep,s,c⟩,r⟩:=x;exact⟨j _ d,z,ne,k _ _ (.inl rfl) e,g,⟨i,es,ep,k _ _ (.inr d) s,c⟩,r⟩
 | own y=>obtain⟨ob,e⟩:=x;exact⟨ob,k _ _ (.inl rfl) e⟩
 | xd fs=>obtain⟨g,⟨i,es,ep,e,c⟩,r⟩:=x;exact⟨g,⟨i,es,ep,k _ _ (.inl rfl) e,c⟩,r⟩
 | rng lo hi=>obtain⟨t,u,v,e⟩:=x;exact⟨t,u,v,k _ _ (.inl rfl) e⟩
 | frz ob u A=>obtain⟨e,q⟩:=x;exact⟨k _ _ (.inl rfl) e,A q⟩
 | tbl ps =>
  have e:h.get? a=some { cls:=.none,data:=.fields ps }:=x;show h'.get? a=some { cls:=.none,data:=.fields ps };exact k a _ (.inl rfl) e
 | met f y =>
  have e:h.get? a=some (PySem.W.methodObj (.ref f) (.ref y)):=x;show h'.get? a=some (PySem.W.methodObj (.ref f) (.ref y));exact k a _ (.inl rfl) e
 | ext E=>obtain⟨p,⟨o,e⟩,st⟩:=x;exact⟨st _ _ p λo q=>k _ _ (.inl rfl) q,⟨o,k _ _ (.inl rfl) e⟩,st⟩
theorem HOk.lt (x:HOk P w H h) (e:H a=some o):a < h.objs.size:=(x a o e).lt
theorem HOk.fresh (x:HOk P w H h) (e:h.objs.size <= a):H a=none:=by
 cases q:H a with
 | none=>rfl
 | some u=>exact absurd (jR (x.lt q) e) (Zy _)
theorem HOk.kept (x:HOk P w H h) (k:∀ b u,h.get? b=some u->h'.get? b=some u):HOk P w H h':=λa o e =>
 (x a o e).stay (λb u _ q=>k b u q) (λ_ q=>q) λ_ _ q=>q
theorem HOk.laid (x:HOk P w H h) (k:∀ b u,h.get? b=some u->h'.get? b=some u) (g:h.objs.size <= a) (new:jQ P w (upd H a o) h' a o):HOk P w (upd H a o) h':=λb u e=>by
 have d:=x.fresh g;by_cases f:b=a
 ·subst f;rw[ju] at e;cases e;exact new
 ·rw[zl f] at e;exact (x b u e).stay (λc v _ q=>k c v q) (λc q=>by rw[zl (Jv q d)];exact q) λc xs q=>by rw[zl (Jv q d)];exact q
end
def Rd (H:Hp) (a:zC) (u:HO):Prop:=H a=some u\/∃ o,H a=some (.frz o u)
theorem Rd.ok {P:zi}{a:zC} (r:Rd H a u) (x:HOk P w H h):jQ P w H h a u:=by
 rcases r with r | ⟨o,r⟩
 ·exact x a u r
 ·obtain⟨_,q⟩:=x a _ r;exact q
noncomputable def Mut:Option HO->Prop
 | some (.lst _)=>True
 | some (.dK _)=>True
 | some (.dT _)=>True
 | some (.set _ _)=>True
 | some (.ins _ _ _)=>True
 | some (.ext _)=>True
 | _=>False
section
variable {P:zi}{w:zy}{H:Hp}{h h':zT}{x e:zC}{o':HO}
theorem HOk.write (ok:HOk P w H h) (i:Mut (H x)) (n:e=x\/H e=some (.own x)) (k:∀ b u,b≠e->h.get? b=some u->h'.get? b=some u) (m:∃ u,h'.get? e=some u)
  (new:jQ P w (upd H x o') h' x o'):HOk P w (upd H x o') h':=λb u q=>by
 have f:∀ c y,H c=some (.own y)->c≠x:=λc y r z=>by subst z;rw[r] at i;exact i
 have g:∀ c xs,H c=some (.tup xs)->c≠x:=λc xs r z=>by subst z;rw[r] at i;exact i
 by_cases j:b=x
 ·subst j;rw[ju] at q;cases q;exact new
 ·rw[zl j] at q;by_cases d:b=e
  ·have o:H b=some (.own x):=by
    rcases n with z | z
    ·exact absurd (d.trans z) j
    ·rw[d];exact z
   rw[q] at o;cases o;obtain⟨v,p⟩:=m;exact⟨v,by rw[d];exact p⟩
  ·refine (ok b u q).stay (λc v l r=>k c v ?_ r) (λc r=>by rw[zl (f c b r)];exact r) λc xs r=>by rw[zl (g c xs r)];exact r
   rcases l with rfl | l
   ·exact d
   ·rintro rfl
    rcases n with z | z
    ·exact f c b l z
    ·rw[l] at z;cases z;exact j rfl
end
structure Un (fs ex:List zC) (H H':Hp) (h h':zT):Prop where
 keep:∀ b o,h.get? b=some o->H b=none->b∉fs->b∉ex->h'.get? b=some o
 slot:∀ b o,h.get? b=some o->H b=none->b∈fs->b∉ex->∃ sl,h'.get? b=some { o with slots:=sl }
 free:∀ b o,h.get? b=some o->H b=none->b∉ex->H' b=none
 there:∀ b o,h.get? b=some o->b∉ex->∃ o',h'.get? b=some o'
 tups:∀ b xs,H b=some (.tup xs)->H' b=some (.tup xs)
 frzs:∀ b o u,H b=some (.frz o u)->H' b=some (.frz o u)
 tbls:∀ b ps,H b=some (.tbl ps)->∃ more,H' b=some (.tbl (ps++more))
section
variable {fs fs' ex ex':List zC}{H H1 H2:Hp}{h h1 h2 h':zT}{a x e:zC}{o:HO}
theorem Un.any (u:Un fs ex H H1 h h1) {b:zC}{ob:Obj} (q:h.get? b=some ob) (n:H b=none) (c:b∉ex):∃ f,h1.get? b=some { ob with slots:=f }:=by
 by_cases d:b∈fs
 ·exact u.slot b ob q n d c
 ·exact⟨ob.slots,u.keep b ob q n d c⟩
theorem Un.kept (k:∀ b u,h.get? b=some u->h'.get? b=some u):Un fs ex H H h h' :=
 ⟨λb ob q _ _ _=>k b ob q,λb ob q _ _ _=>⟨ob.slots,k b ob q⟩,λ_ _ _ n _=>n,λb ob q _=>⟨ob,k b ob q⟩,λ_ _ q=>q,λ_ _ _ q=>q,λ_ ps q=>⟨#[],by rw[q];simp⟩⟩
theorem Un.refl:Un fs ex H H h h:=Un.kept λ_ _ q=>q
theorem Un.laid (k:∀ b u,h.get? b=some u->h'.get? b=some u) (d:h.objs.size <= a) (c:H a=none):Un fs ex H (upd H a o) h h' where
 keep:=λb u q _ _ _=>k b u q
 slot:=λb u q _ _ _=>⟨u.slots,k b u q⟩
 free:=λb u q n _=>by rw[zl (z4 (jR (zm q) d))];exact n
 there:=λb u q _=>⟨u,k b u q⟩
 tups:=λb xs q=>by rw[zl (Jv q c)];exact q
 frzs:=λb u xs q=>by rw[zl (Jv q c)];exact q
 tbls:=λb ps q=>⟨#[],by rw[zl (Jv q c),q];simp⟩
theorem Un.write (d:Mut (H x)) (j:e=x\/H e=some (.own x)) (k:∀ b u,b≠e->h.get? b=some u->h'.get? b=some u) (f:∃ u,h'.get? e=some u):Un fs ex H (upd H x o) h h':=by
 have g:∀ b,H b=none->b≠x:=λb n z=>by subst z;rw[n] at d;exact d
 have i:∀ b,H b=none->b≠e:=λb n z=>by
  subst z;rcases j with r | r
  ·exact g b n r
  ·rw[n] at r;cases r
 have hm:∀ b u,H b=some u -> ¬ Mut (some u)->b≠x:=λb u q l z=>by subst z;rw[q] at d;exact l d
 refine⟨λb u q n _ _=>k b u (i b n) q,λb u q n _ _=>⟨u.slots,k b u (i b n) q⟩,λb u q n _=>by rw[zl (g b n)];exact n,λb u q _=>?_,
  λb xs q=>by rw[zl (hm b _ q λz=>z)];exact q,λb u xs q=>by rw[zl (hm b _ q λz=>z)];exact q,λb ps q=>⟨#[],by rw[zl (hm b _ q λz=>z),q];simp⟩⟩
 by_cases c:b=e
 ·subst c;exact f
 ·exact⟨u,k b u c q⟩
end
noncomputable def trk (h:zT) (H:Hp):List zC:=(qQ h.objs.size).filter λa=>(H a).isSome
noncomputable def Qj (h:zT) (H:Hp):zT:=PySem.W.hideAll h (trk h H)
theorem Bb (h:zT) (H:Hp):(Qj h H).objs.size=h.objs.size:=PySem.W.hideAll_size _ _
theorem CS {h:zT}{H:Hp}{b:zC}{o:Obj} (e:h.get? b=some o) (n:H b=none):(Qj h H).get? b=some o :=
 PySem.W.hideAll_get _ e λhm=>by
  have q:(H b).isSome=true:=(List.mem_filter.mp hm).2;rw[n] at q;simp at q
theorem g9 {b:zC}{o:Obj} (e:(Qj h H).get? b=some o):h.get? b=some o/\H b=none:=by
 have c:h.get? b=some o:=PySem.W.of_hideAll (trk h H) e;refine⟨c,?_⟩;cases q:H b with
 | none=>rfl
 | some x =>
  have hm:b∈trk h H:=List.mem_filter.mpr ⟨List.mem_range.mpr (zm c),by simp[q]⟩;have z:(Qj h H).get? b=none:=PySem.W.hideAll_none (trk h H) hm;rw[z] at e;cases e
noncomputable def de (g h:zT) (L:zC):List (zC×Obj):=(qQ h.objs.size).filterMap λa=>if a=L\/(g.get? a).isSome=true then none else (h.get? a).map λo=>(a,o)
noncomputable def jn (g h:zT) (L d:zC):List (zC×Obj):=(de g h L).filter λp=>decide (p.1≠d)
end L2
namespace L2
open PySem PySem.Spec PyProof.Rows
structure Mod (K:PySem.W.Frag) (mg:Str->Option zB) (base:zT):Prop where
 kin:K.In base
 glob:base.Ns jx mg
 blt:∃ mb,base.Ns Aq mb/\∀ x:Str,x ≠ "__name__" -> mb x=j1 x
 nolimit:base.NoLimit
structure Cx where
 prog:zi
 w:zy
 K:PySem.W.Frag
 mg:Str->Option zB
 base:zT
 A:jh
 N:List Str
 s₀:zG
 H₀:Hp
 env:Env
 outer:List Env
 stack:List Env
 ex:List zC
 fn:Str->Bool
 calm:Bool
 pn:List (zC×Obj)
 xe:zB->zG->Prop
noncomputable def frs (l:List Env):List zC:=l.filterMap (·.frame)
noncomputable abbrev Cx.fs (X:Cx):List zC:=frs X.outer
def Vis (c:ZZ) (x:Str):Prop:=c.names.lookup x=some .local\/c.names.lookup x=some .cell\/c.names.lookup x=some .free
def Loc (c:ZZ) (x:Str):Prop:=c.names.lookup x=some .local\/c.names.lookup x=some .cell
def bT (env:Env) (h:zT) (m:Str->Option zB) (x:Str) (u:zB):Prop :=
 (env.kindOf x=some .local/\m x=some u)\/((env.kindOf x=some .cell\/env.kindOf x=some .free)/\∃ c,env.cells.lookup x=some c/\h.IsCell c (some u))
structure Cx.Ok (X:Cx):Prop where
 mod:Mod X.K X.mg X.base
 kind:X.env.scope.kind=.function
 glob:X.env.globals=jx
 blt:X.env.builtins=Aq
 above:X.s₀.heap.objs.size <= X.env.locals
 inj:∀ x y c,X.env.cells.lookup x=some c->X.env.cells.lookup y=some c->x=y
 has:∀ x,(X.env.kindOf x=some .cell\/X.env.kindOf x=some .free)->∃ c,X.env.cells.lookup x=some c
 cab:∀ x c,X.fn x=true->X.env.cells.lookup x=some c->X.s₀.heap.objs.size <= c
 hd:X.calm=true->X.A.handled=none
 frames:X.A.frames=some X.stack
 stk:X.stack=X.outer\/(X.stack=X.env::X.outer/\X.env.frame=some X.env.locals)
 exf:∀ b∈X.ex,b≠X.env.locals/\∀ x c,X.env.cells.lookup x=some c->c≠b
 bs:∀ b o,X.base.get? b=some o->X.s₀.heap.get? b=some o/\X.H₀ b=none
 bsz:X.base.objs.size <= X.s₀.heap.objs.size
 noex:∀ b o,X.base.get? b=some o->b∉X.ex
 exfs:∀ b∈X.ex,b∉X.fs
 funs:X.s₀.heap.FunFrames X.base X.outer
 frf:∀ b∈X.fs,X.H₀ b=none
structure Inv (X:Cx) (pins:List (zC×Obj)) (σ:List (Option V)) (H:Hp) (s:zG):Prop where
 ok:X.Ok
 os:s.os=X.s₀.os
 bare:Q4 s.gens
 base:Un X.fs X.ex X.H₀ H X.s₀.heap s.heap
 loc:∃ m,s.heap.Ns X.env.locals m/\∀ (i:Nat) (x:Str) (v:V),X.N[i]? = some x->σ[i]? = some (some v)->Vis X.env.scope x->∃ u,zX v u/\bT X.env s.heap m x u
 cell:∀ x c,X.env.cells.lookup x=some c->∃ v,s.heap.IsCell c v
 free:H X.env.locals=none
 freeC:∀ x c,X.env.cells.lookup x=some c->H c=none
 pin:∀ p∈X.pn++pins,s.heap.get? p.1=some p.2/\H p.1=none/\p.1≠X.env.locals/\p.1∉X.fs/\∀ v,p.2.data≠.cell v
 hok:HOk X.prog X.w H s.heap
 len:σ.length=X.N.length
 tk:0 < s.toks
section
variable {X:Cx}{pins:List (zC×Obj)}{σ:List (Option V)}{H H':Hp}{s:zG}{h':zT}
theorem Cx.Ok.nofr (ok:X.Ok) {b:zC}{o:Obj} (e:X.base.get? b=some o):b∉X.fs:=λc=>by
 have:=(ok.funs.mem c).1;rw[e] at this;cases this
theorem Inv.bs (I:Inv X pins σ H s):∀ b o,X.base.get? b=some o->s.heap.get? b=some o/\H b=none:=λb o e =>
 ⟨I.base.keep b o (I.ok.bs b o e).1 (I.ok.bs b o e).2 (I.ok.nofr e) (I.ok.noex b o e),I.base.free b o (I.ok.bs b o e).1 (I.ok.bs b o e).2 (I.ok.noex b o e)⟩
theorem Inv.bk (I:Inv X pins σ H s):∀ b o,X.base.get? b=some o->s.heap.get? b=some o:=λb o e=>(I.bs b o e).1
theorem Inv.mod (I:Inv X pins σ H s):Mod X.K X.mg X.base:=I.ok.mod
theorem Inv.kIn (I:Inv X pins σ H s):X.K.In s.heap:=I.ok.mod.kin.keeps I.bk
theorem Inv.fr (I:Inv X pins σ H s):∃ m,Fr X.base X.env.locals s.heap m :=
 let ⟨m,c,_⟩:=I.loc
 ⟨m,c,I.bk,qD I.ok.bsz I.ok.above⟩
theorem Inv.lt (I:Inv X pins σ H s):X.env.locals < s.heap.objs.size:=let ⟨_,c,_⟩:=I.loc;c.lt
theorem Inv.sz (I:Inv X pins σ H s):X.s₀.heap.objs.size <= s.heap.objs.size:=qD I.ok.above (kL I.lt)
theorem Inv.nofs (I:Inv X pins σ H s) {a:zC} (h:s.heap.objs.size <= a):a∉X.fs:=λc=>by
 obtain⟨_,o,d,_⟩:=I.ok.funs.mem c;exact absurd (jR (zm d) (qD I.sz h)) (Zy _)
theorem Inv.cne (I:Inv X pins σ H s):∀ x c,X.env.cells.lookup x=some c->c≠X.env.locals:=λx c e z=>by
 obtain⟨v,o,g,hd⟩:=I.cell x c e;obtain⟨m,⟨o',es,ep,d,f,_⟩,_⟩:=I.loc;rw[z,d] at g;cases g;rw[f] at hd;cases hd
theorem Inv.funs (I:Inv X pins σ H s):s.heap.FunFrames X.base X.outer:=by
 have all:∀ (l:List Env),(∀ b∈frs l,b∈X.fs)->X.s₀.heap.FunFrames X.base l->s.heap.FunFrames X.base l:=by
  intro l
  induction l with
  | nil=>intro _ _;trivial
  | cons env r h =>
   intro g i;obtain⟨j,⟨L,o,c,m,n,hd⟩,p⟩:=i;have d:L∈X.fs:=g L (by unfold frs;rw[V1,c];exact jI);obtain⟨q,e⟩:=I.base.slot L o n (I.ok.frf L d) d λz=>I.ok.exfs L z d;exact⟨j,⟨L,_,c,m,e,hd⟩,h (λb f=>g b (by unfold frs;rw[V1,c];exact jV _ f)) p⟩
 exact all X.outer (λ_ f=>f) I.ok.funs
theorem Inv.stack (I:Inv X pins σ H s):s.heap.FunFrames X.base X.stack:=by
 rcases I.ok.stk with e | ⟨e,c⟩
 ·rw[e];exact I.funs
 ·rw[e];obtain⟨m,d,_⟩:=I.loc;refine .cons (by rw[I.ok.kind];decide) c d ?_ I.funs;exact Heap.get?_none_of_le (qD I.ok.bsz I.ok.above)
theorem Inv.stkSub (I:Inv X pins σ H s):∀ b∈frs X.stack,b∈X.env.locals::X.fs:=λb c=>by
 rcases I.ok.stk with e | ⟨e,d⟩
 ·rw[e] at c;exact jV _ c
 ·rw[e] at c;unfold frs at c;rw[V1,d] at c;exact c
theorem Inv.stkFree (I:Inv X pins σ H s):∀ b∈frs X.stack,H b=none:=λb c=>by
 rcases List.mem_cons.mp (I.stkSub b c) with e | c
 ·rw[e];exact I.free
 ·obtain⟨_,o,d,_⟩:=I.ok.funs.mem c;exact I.base.free b o d (I.ok.frf b c) λz=>I.ok.exfs b z c
theorem Inv.step {t':Nat}{d':Drawn}{ch:List zC} (I:Inv X pins σ H s)
  (g:∀ b∈ch,(b∈X.ex\/X.s₀.heap.objs.size <= b)/\b≠X.env.locals/\(∀ x c,X.env.cells.lookup x=some c->c≠b)/\∀ p∈X.pn++pins,p.1≠b)
  (keep:∀ b o,b≠X.env.locals->b∉X.fs->b∉ch->s.heap.get? b=some o->H b=none->h'.get? b=some o)
  (slot:∀ b o,b≠X.env.locals->b∈X.fs->b∉ch->s.heap.get? b=some o->H b=none->∃ G,h'.get? b=some { o with slots:=G }) (free:∀ b o,b∉ch->s.heap.get? b=some o->H b=none->H' b=none)
  (there:∀ b o,b∉ch->s.heap.get? b=some o->∃ o',h'.get? b=some o')
  (tups:∀ b xs,H b=some (.tup xs)->H' b=some (.tup xs)) (frzs:∀ b o u,H b=some (.frz o u)->H' b=some (.frz o u)) (tbls:∀ b ps,H b=some (.tbl ps)->∃ more,H' b=some (.tbl (ps++more)))
  (ns:∀ m,s.heap.Ns X.env.locals m->h'.Ns X.env.locals m) (hok:HOk X.prog X.w H' h') (Q:Q4 g') (U:0 < t':=by first | exact yf _ | assumption | exact Inv.tk (by assumption) | lia) :
  Inv X pins σ H' { s with heap:=h',gens:=g',drawn:=d',toks:=t' }:=by
 have C:∀ b o,X.s₀.heap.get? b=some o->b≠X.env.locals:=λb o e=>z4 (jR (zm e) I.ok.above);have t:∀ b o,X.s₀.heap.get? b=some o->b∉X.ex->b∉ch:=λb o e f A=>by
  rcases (g b A).1 with z | z
  ·exact f z
  ·exact absurd (jR (zm e) z) (Zy _)
 have h:∀ x c,X.env.cells.lookup x=some c->∀ v,s.heap.IsCell c v->h'.IsCell c v:=λx c e v ⟨o,B,hd⟩=>by
  have j:c∉ch:=λz=>(g c z).2.2.1 x c e rfl;by_cases L:c∈X.fs
  ·obtain⟨G,q⟩:=slot c o (I.cne x c e) L j B (I.freeC x c e);exact⟨_,q,hd⟩
  ·exact⟨o,keep c o (I.cne x c e) L j B (I.freeC x c e),hd⟩
 refine⟨I.ok,I.os,Q,⟨λb o e n A f=>?_,λb o e n A f=>?_,λb o e n f=>?_,λb o e f=>?_,λb xs e=>tups b xs (I.base.tups b xs e),λb o xs e=>frzs b o xs (I.base.frzs b o xs e),λb ps e=>?_⟩,?_,λx c e=>?_,?_,λx c e=>?_,λp M=>?_,hok,I.len,U⟩
 ·exact keep b o (C b o e) A (t b o e f) (I.base.keep b o e n A f) (I.base.free b o e n f)
 ·obtain⟨G,y⟩:=I.base.slot b o e n A f;obtain⟨J,E⟩:=slot b _ (C b o e) A (t b o e f) y (I.base.free b o e n f);exact⟨J,E⟩
 ·obtain⟨o',y⟩:=I.base.there b o e f;exact free b o' (t b o e f) y (I.base.free b o e n f)
 ·obtain⟨o',y⟩:=I.base.there b o e f;exact there b o' (t b o e f) y
 ·obtain⟨Y,y⟩:=I.base.tbls b ps e;obtain⟨m2,E⟩:=tbls b _ y;exact⟨Y++m2,by rw[E,Array.append_assoc]⟩
 ·obtain⟨m,hn,hl⟩:=I.loc;refine⟨m,ns m hn,λi x v y E e3=>?_⟩;obtain⟨u,r,l⟩:=hl i x v y E e3;refine⟨u,r,?_⟩;rcases l with l | ⟨k,c,e,z⟩
  ·exact .inl l
  ·exact .inr ⟨k,c,e,h x c e _ z⟩
 ·obtain⟨v,z⟩:=I.cell x c e;exact⟨v,h x c e v z⟩
 ·obtain⟨m,⟨o,_,_,B,_⟩,_⟩:=I.loc;exact free _ o (λz=>(g _ z).2.1 rfl) B I.free
 ·obtain⟨v,o,B,hd⟩:=I.cell x c e;exact free c o (λz=>(g c z).2.2.1 x c e rfl) B (I.freeC x c e)
 ·obtain⟨e,n,ne,N,d⟩:=I.pin p M;have j:p.1∉ch:=λz=>(g p.1 z).2.2.2 p M rfl;exact⟨keep p.1 p.2 ne N j e n,free p.1 p.2 j e n,ne,N,d⟩
theorem Inv.un {t':Nat} (I:Inv X pins σ H s) (u:Un X.fs [] H H' s.heap h') (hok:HOk X.prog X.w H' h') (i:0 < t':=by first | exact yf _ | assumption | exact Inv.tk (by assumption) | lia):Inv X pins σ H' { s with heap:=h',toks:=t' }:=by
 obtain⟨m,⟨o,es,ep,h,r⟩,_⟩:=id I.loc;obtain⟨p,j⟩:=u.any h I.free (by simp);exact I.step (g':=s.gens) (d':=s.drawn) (ch:=[]) (λ_ z=>nomatch z) (λb o _ d _ e n=>u.keep b o e n d (by simp)) (λb o _ d _ e n=>u.slot b o e n d (by simp)) (λb o _ e n=>u.free b o e n (by simp)) (λb o _ e=>u.there b o e (by simp)) u.tups u.frzs u.tbls (λq hm=>by
  obtain⟨o',f,g,c,l⟩:=hm;rw[h] at c;cases c;exact⟨_,f,g,j,l⟩) hok I.bare i
theorem Inv.call {t':Nat}{d':Drawn} (I:Inv X pins σ H s) (u:Un (frs X.stack) ch H H' s.heap h') (hok:HOk X.prog X.w H' h') (q:Q4 g')
  (f:∀ b∈ch,(b∈X.ex\/X.s₀.heap.objs.size <= b)/\b≠X.env.locals/\(∀ x c,X.env.cells.lookup x=some c->c≠b)/\∀ p∈X.pn++pins,p.1≠b) (t:0 < t':=by first | exact yf _ | assumption | exact Inv.tk (by assumption) | lia) :
  Inv X pins σ H' { s with heap:=h',gens:=g',drawn:=d',toks:=t' }:=by
 obtain⟨m,⟨o,es,ep,l,r⟩,_⟩:=id I.loc;obtain⟨A,h⟩:=u.any l I.free λz=>(f _ z).2.1 rfl;exact I.step (ch:=ch) f (λb o h v d e n=>u.keep b o e n (λz=>(List.mem_cons.mp (I.stkSub b z)).elim h v) d) (λb o _ _ d e n=>u.any e n d) (λb o d e n=>u.free b o e n d) (λb o d e=>u.there b o e d) u.tups u.frzs u.tbls (λB hm=>by
  obtain⟨o',i,j,g,y⟩:=hm;rw[l] at g;cases g;exact⟨_,i,j,h,y⟩) hok q t
theorem Inv.turned {t':Nat}{it:zC} (I:Inv X pins σ H s) (k:∀ b o,b≠it->s.heap.get? b=some o->h'.get? b=some o) (h:H it=none) (g:it≠X.env.locals)
  (i:it∈X.ex\/X.s₀.heap.objs.size <= it) (j:∀ x c,X.env.cells.lookup x=some c->c≠it) (l:∀ p∈X.pn++pins,p.1≠it) (t:0 < t':=by first | exact yf _ | assumption | exact Inv.tk (by assumption) | lia):Inv X pins σ H { s with heap:=h',toks:=t' }:=by
 have f:∀ b u,H b=some u->b≠it:=λb u e z=>by rw[z,h] at e;cases e
 refine I.step (g':=s.gens) (d':=s.drawn) (ch:=[it]) (λb w=>?_) (λb o _ _ d e _=>k b o (λz=>d (by simp[z])) e) (λb o _ _ d e _=>⟨o.slots,k b o (λz=>d (by simp[z])) e⟩) (λ_ _ _ _ n=>n)
  (λb o d e=>⟨o,k b o (λz=>d (by simp[z])) e⟩) (λ_ _ e=>e) (λ_ _ _ e=>e) (λb ps e=>⟨#[],by rw[e];simp⟩) (λm hm=>?_) (λb u e=>?_) I.bare t
 ·have e:b=it:=by simpa using w
  subst e;exact⟨i,g,j,l⟩
 ·obtain⟨o,es,ep,y,r⟩:=hm;exact⟨o,es,ep,k _ o (jr g) y,r⟩
 ·refine (I.hok b u e).stay (λc v d q=>k c v ?_ q) (λ_ q=>q) λ_ _ q=>q;rcases d with z | z
  ·rw[z];exact f b u e
  ·exact f c _ z
theorem Inv.tok (I:Inv X pins σ H s) (t:Nat) (c:0 < t:=by first | exact yf _ | assumption | exact Inv.tk (by assumption) | lia):Inv X pins σ H { s with toks:=t }:=I.un (h':=s.heap) (t':=t) Un.refl I.hok c
theorem Inv.kept {t':Nat} (I:Inv X pins σ H s) (k:∀ b u,s.heap.get? b=some u->h'.get? b=some u) (c:0 < t':=by first | exact yf _ | assumption | exact Inv.tk (by assumption) | lia):Inv X pins σ H { s with heap:=h',toks:=t' }:=I.un (Un.kept k) (I.hok.kept k) c
theorem Inv.laid {a:zC}{t':Nat} (I:Inv X pins σ H s) (k:∀ b u,s.heap.get? b=some u->h'.get? b=some u) (c:s.heap.objs.size <= a) (new:jQ X.prog X.w (upd H a o) h' a o) (d:0 < t':=by first | exact yf _ | assumption | exact Inv.tk (by assumption) | lia) :
  Inv X pins σ (upd H a o) { s with heap:=h',toks:=t' }:=I.un (Un.laid k c (I.hok.fresh c)) (I.hok.laid k c new) d
theorem Inv.write {x e:zC}{t':Nat} (I:Inv X pins σ H s) (d:Mut (H x)) (f:e=x\/H e=some (.own x)) (k:∀ b u,b≠e->s.heap.get? b=some u->h'.get? b=some u) (c:∃ u,h'.get? e=some u)
  (new:jQ X.prog X.w (upd H x o) h' x o) (g:0 < t':=by first | exact yf _ | assumption | exact Inv.tk (by assumption) | lia):Inv X pins σ (upd H x o) { s with heap:=h',toks:=t' }:=I.un (Un.write d f k c) (I.hok.write d f k c new) g
theorem Inv.weak {c:List (Option V)} (I:Inv X pins σ H s) (e:c.length=σ.length) (w:∀ (i:Nat) v,c[i]? = some (some v)->σ[i]? = some (some v)):Inv X pins c H s :=
 ⟨I.ok,I.os,I.bare,I.base,let ⟨m,f,d⟩:=I.loc;⟨m,f,λi x v g h j=>d i x v g (w i v h) j⟩,I.cell,I.free,I.freeC,I.pin,I.hok,e.trans I.len,I.tk⟩
theorem Inv.pins_of {pins':List (zC×Obj)} (I:Inv X pins σ H s) (h:∀ p∈pins',s.heap.get? p.1=some p.2/\H p.1=none/\p.1≠X.env.locals/\p.1∉X.fs/\∀ v,p.2.data≠.cell v):Inv X pins' σ H s :=
 ⟨I.ok,I.os,I.bare,I.base,I.loc,I.cell,I.free,I.freeC,λp c=>(List.mem_append.mp c).elim (λz=>I.pin p (Zg _ z)) (h p),I.hok,I.len,I.tk⟩
theorem Wx {N:List Str} (c:N.Nodup) {i j:Nat}{x:Str} (a:N[i]? = some x) (b:N[j]? = some x):i=j:=by
 obtain⟨f,d⟩:=List.getElem?_eq_some_iff.mp a;obtain⟨g,e⟩:=List.getElem?_eq_some_iff.mp b;exact (List.getElem_inj c).mp (d.trans e.symm)
theorem Wh {M:kK}{i:Nat}{x:Str}{Q:Unit->zG->Prop} (I:Inv X pins σ H s) (hN:X.N.Nodup) (hi:X.N[i]? = some x) (t:Loc X.env.scope x) (r:zX v u)
  (h:∀ s',Inv X pins (σ.set i (some v)) H s'->(∃ a,kh a s.heap s'.heap/\(a=X.env.locals\/X.env.cells.lookup x=some a))->Q () s') (hf:X.fn x=true\/X.env.scope.names.lookup x=some .local:=by first | exact .inl rfl | exact .inr rfl | assumption):wpAny M A (storeName X.env x u) Q E s:=by
 obtain⟨m,hn,hl⟩:=id I.loc;have hcls:(X.env.scope.kind == .class || (X.env.scope.kind == .module && X.env.locals != X.env.globals))=false:=by rw[I.ok.kind];rfl
 have G:i < σ.length:=by rw[I.len];exact (List.getElem?_eq_some_iff.mp hi).1
 have cne:=I.cne;have tracked:∀ {a:zC}{h':zT},(∃ o,s.heap.get? a=some o/\H a=none)->kh a s.heap h'->HOk X.prog X.w H h':=λ{a h'} ha f b ob e=>by
  obtain⟨_,_,B⟩:=ha;refine (I.hok b ob e).stay (λc w' l q=>(f.2 c ?_).trans q) (λ_ q=>q) λ_ _ q=>q
  rintro rfl
  rcases l with rfl | l
  ·rw[B] at e;cases e
  ·rw[B] at l;cases l
 rcases t with J | J
 ·refine Eg J hn (λh' hn' f=>?_) hcls;obtain⟨oL,_,_,hoL,_⟩:=id hn;refine h _ ⟨I.ok,I.os,I.bare,⟨λb o e n L t=>?_,λb o e n L t=>?_,I.base.free,λb o e t=>?_,I.base.tups,I.base.frzs,I.base.tbls⟩,⟨_,hn',λj y v' g C e3=>?_⟩,λy c e=>?_,I.free,I.freeC,λp hp=>?_,tracked ⟨oL,hoL,I.free⟩ f,by simpa using I.len,yf _⟩ ⟨_,f,.inl rfl⟩
  ·exact (f.2 b (z4 (jR (zm e) I.ok.above))).trans (I.base.keep b o e n L t)
  ·obtain⟨sl,g⟩:=I.base.slot b o e n L t;exact⟨sl,(f.2 b (z4 (jR (zm e) I.ok.above))).trans g⟩
  ·obtain⟨o',g⟩:=I.base.there b o e t;exact⟨o',(f.2 b (z4 (jR (zm e) I.ok.above))).trans g⟩
  ·by_cases U:j=i
   ·subst U;rw[hi] at g;cases g;rw[Qq G] at C;cases C;exact⟨u,r,.inl ⟨J,by simp⟩⟩
   ·rw[yY (jr U)] at C;obtain⟨u',r',q⟩:=hl j y v' g C e3;refine⟨u',r',?_⟩;rcases q with ⟨k,e⟩ | ⟨k,c,e,z⟩
    ·refine .inl ⟨k,?_⟩;have:y≠x:=λe=>U (Wx hN g (e ▸ hi));simp[this,e]
    ·exact .inr ⟨k,c,e,z.sameBut f (cne y c e)⟩
  ·obtain⟨w',z⟩:=I.cell y c e;exact⟨w',z.sameBut f (cne y c e)⟩
  ·obtain⟨e,n,ne,nf,d⟩:=I.pin p hp;exact⟨(f.2 p.1 ne).trans e,n,ne,nf,d⟩
 ·have Y:X.fn x=true:=by
   rcases hf with z | z
   ·exact z
   ·rw[z] at J;cases J
  obtain⟨c,l⟩:=I.ok.has x (.inl J);obtain⟨w',z⟩:=I.cell x c l;refine wpAny_storeName_cell I.ok.kind J l z (λh' hc' f=>?_);obtain⟨oc,hoc,hocd⟩:=id z;refine h { s with heap:=h' } ⟨I.ok,I.os,I.bare,⟨λb o e n L t=>?_,λb o e n L t=>?_,I.base.free,λb o e t=>?_,I.base.tups,I.base.frzs,I.base.tbls⟩,⟨m,hn.sameBut f (jr (cne x c l)),λj y v' g C e3=>?_⟩,λy c' e=>?_,I.free,I.freeC,λp hp=>?_,tracked ⟨oc,hoc,I.freeC x c l⟩ f,by simpa using I.len,I.tk⟩ ⟨c,f,.inr l⟩
  ·exact (f.2 b (z4 (jR (zm e) (I.ok.cab x c Y l)))).trans (I.base.keep b o e n L t)
  ·obtain⟨sl,g⟩:=I.base.slot b o e n L t;exact⟨sl,(f.2 b (z4 (jR (zm e) (I.ok.cab x c Y l)))).trans g⟩
  ·obtain⟨o',g⟩:=I.base.there b o e t;exact⟨o',(f.2 b (z4 (jR (zm e) (I.ok.cab x c Y l)))).trans g⟩
  ·by_cases U:j=i
   ·subst U;rw[hi] at g;cases g;rw[Qq G] at C;cases C;exact⟨u,r,.inr ⟨.inl J,c,l,hc'⟩⟩
   ·rw[yY (jr U)] at C;obtain⟨u',r',q⟩:=hl j y v' g C e3;refine⟨u',r',?_⟩;rcases q with q | ⟨k,c',e,z'⟩
    ·exact .inl q
    ·refine .inr ⟨k,c',e,z'.sameBut f ?_⟩
     rintro rfl
     exact U (Wx hN g (I.ok.inj _ _ _ e l ▸ hi))
  ·by_cases hcc:c'=c
   ·subst hcc;exact⟨_,hc'⟩
   ·obtain⟨w2,z2⟩:=I.cell y c' e;exact⟨w2,z2.sameBut f hcc⟩
  ·obtain⟨e,n,ne,nf,d⟩:=I.pin p hp;refine⟨(f.2 p.1 ?_).trans e,n,ne,nf,d⟩;intro q;rw[q,hoc] at e;have q':oc=p.2:=Z2 e;exact d w' (by rw[<- q'];exact hocd)
theorem Vu {M:kK}{i:Nat}{x:Str}{Q:Unit->zG->Prop} (I:Inv X pins σ H s) (d:X.N.Nodup) (hi:X.N[i]? = some x) (e:Loc X.env.scope x) (r:zX v u)
  (h:∀ c,Inv X pins (σ.set i (some v)) H c->Q () c) (f:X.fn x=true\/X.env.scope.names.lookup x=some .local:=by first | exact .inl rfl | exact .inr rfl | assumption):wpAny M A (storeName X.env x u) Q E s :=
 Wh I d hi e r (λc g _=>h c g) f
theorem Inv.call' {d:zG} (I:Inv X pins σ H s) (g:d.os=s.os) (u:Un (frs X.stack) ch H H' s.heap d.heap) (hok:HOk X.prog X.w H' d.heap) (h:Q4 d.gens)
  (f:∀ b∈ch,(b∈X.ex\/X.s₀.heap.objs.size <= b)/\b≠X.env.locals/\(∀ x c,X.env.cells.lookup x=some c->c≠b)/\∀ p∈X.pn++pins,p.1≠b) (i:0 < d.toks):Inv X pins σ H' d:=by
 obtain⟨h',g',d',t',o'⟩:=d;have e:o'=s.os:=g;subst e;exact I.call (g':=g') (t':=t') (d':=d') u hok h f i
end
abbrev XK:=zB->Option zC->Hp->Prop
abbrev St:=List (Option V)
abbrev VK:=V->Hp->Prop
abbrev TE:=St->Hp->VK->Prop
abbrev TT:=St->Hp->(Bool->Hp->Prop)->Prop
abbrev TA:=St->Hp->(List V->Hp->Prop)->Prop
structure yv where
 nx:St->Hp->Prop
 rt:VK
 bk:St->Hp->Prop:=λ_ _=>False
 ct:St->Hp->Prop:=λ_ _=>False
abbrev TS:=yv->St->Hp->Prop
def EP (X:Cx) (c:List (zC×Obj)) (σ:St) (Q:VK) (u:zB) (e:zG):Prop:=∃ v d,Inv X c σ d e/\zX v u/\Q v d
def TP (X:Cx) (c:List (zC×Obj)) (σ:St) (Q:Bool->Hp->Prop) (b:Bool) (e:zG):Prop:=∃ d,Inv X c σ d e/\Q b d
def AP (X:Cx) (c:List (zC×Obj)) (σ:St) (Q:List V->Hp->Prop) (us:List zB) (f:zG):Prop:=∃ d e,Inv X c σ e f/\za d us/\Q d e
def SP (X:Cx) (d:List (zC×Obj)) (D:yv) (f:Flow) (g:zG):Prop :=
 match f with
 | .next=>∃ c e,Inv X d c e g/\D.nx c e
 | .brk=>∃ c e,Inv X d c e g/\D.bk c e
 | .cont=>∃ c e,Inv X d c e g/\D.ct c e
 | .ret u=>∃ v c e,Inv X d c e g/\zX v u/\D.rt v e
def PE (X:Cx) (e:zQ) (t:TE):Prop :=
 ∀ (c:List (zC×Obj)) (s:zG) (σ:St) (H:Hp) (Q:VK),Inv X c σ H s->t σ H Q->wpAny (zI X.prog X.w) X.A (zu e X.env) (EP X c σ Q) X.xe s
def PT (X:Cx) (e:zQ) (t:TT):Prop :=
 ∀ (c:List (zC×Obj)) (s:zG) (σ:St) (H:Hp) (Q:Bool->Hp->Prop),Inv X c σ H s->t σ H Q->wpAny (zI X.prog X.w) X.A (isTrue e X.env (zu e X.env)) (TP X c σ Q) X.xe s
def PW (X:Cx) (e:zQ) (t:TT):Prop :=
 ∀ (d:Sem zB) (c:List (zC×Obj)) (s:zG) (σ:St) (H:Hp) (Q:Bool->Hp->Prop),Inv X c σ H s->t σ H Q->wpAny (zI X.prog X.w) X.A (isTrue e X.env d) (TP X c σ Q) X.xe s
theorem PW.pt {X:Cx} (h:PW X e t):PT X e t:=h _
def PA (X:Cx) (es:List zQ) (t:TA):Prop :=
 ∀ (pos:Pos) (c:List (zC×Obj)) (s:zG) (σ:St) (H:Hp) (Q:List V->Hp->Prop),Inv X c σ H s->t σ H Q->wpAny (zI X.prog X.w) X.A (spliced (yO pos (jd es X.env))) (AP X c σ Q) X.xe s
def PS (X:Cx) (st:zh) (t:TS):Prop :=
 ∀ (c:List (zC×Obj)) (s:zG) (σ:St) (H:Hp) (D:yv),Inv X c σ H s->t D σ H->wpAny (zI X.prog X.w) X.A (exec st X.env) (SP X c D) X.xe s
def PSs (X:Cx) (st:List zh) (t:TS):Prop :=
 ∀ (c:List (zC×Obj)) (s:zG) (σ:St) (H:Hp) (D:yv),Inv X c σ H s->t D σ H->wpAny (zI X.prog X.w) X.A (execs st X.env) (SP X c D) X.xe s
theorem thn {c:Type}{t:Sem c}{Q d:c->zG->Prop}{M:kK}{A:jh}{E:zB->zG->Prop}{s:zG} (h:wpAny M A t Q E s) (e:∀ a s,Q a s->d a s):wpAny M A t d E s:=wpAny_mono h e λ_ _ x=>x
end L2
namespace L2
open PySem PySem.Spec PyProof.Rows
section
variable {X:Cx}
def Up (i:Nat):TE:=λσ H Q=>∃ v,σ[i]? = some (some v)/\Q v H
def tC (v:V):TE:=λ_ H Q=>Q v H
theorem Ap {i:Nat}{x:Str}{pos:Pos} (o:X.N[i]? = some x) (p:Vis X.env.scope x) (hd:(x == ("__debug__" : Str))=false:=by decide) (j:(x == ("__classdict__" : Str))=false:=by decide):PE X (.Name x pos) (Up i):=by
 intro g s σ H Q I h;obtain⟨v,e,h⟩:=h;obtain⟨m,q,t⟩:=I.loc;obtain⟨u,r,l⟩:=t i x v o e p;have fin:EP X g σ Q u s:=⟨v,H,I,r,h⟩
 rcases l with ⟨f,hm⟩ | ⟨f,c,n,d⟩
 ·exact ak (gL I.ok.kind f q hm fin) hd
 ·rcases f with f | f
  ·exact ak (DD I.ok.kind f n d fin) hd
  ·exact ak (wpAny_loadName_free I.ok.kind f n d fin j) hd
theorem Uu {i j pos}:PE X (.Constant (.int i) j pos) (tC (.int i)):=λ_ _ _ H _ I h=>wpAny_Constant_int ⟨.int i,H,I.tok _,⟨_,rfl⟩,h⟩
theorem BF {b j pos}:PE X (.Constant (.bool b) j pos) (tC (.bl b)):=λ_ _ _ H _ I h=>Constant_bool ⟨.bl b,H,I,rfl,h⟩
theorem cS {j pos}:PE X (.Constant .none j pos) (tC .non):=λ_ _ _ H _ I h=>Constant_none ⟨.non,H,I,rfl,h⟩
theorem U8 {x j pos}:PE X (.Constant (.str x) j pos) (tC (.str x)):=λ_ _ _ H _ I h=>Calls.Constant_str ⟨.str x,H,I.tok _,⟨_,rfl⟩,h⟩
def Gl (X:Cx) (x:Str):Prop:=X.env.kindOf x=some .globalImplicit
theorem HN {u:zB}{pos:Pos}{Q:zB->zG->Prop} (I:Inv X c σ H s) (d:Gl X x) (hm:X.mg x=some u) (h:Q u s)
  (hd:(x == ("__debug__" : Str))=false:=by decide):wpAny (zI X.prog X.w) X.A (zu (.Name x pos) X.env) Q E s :=
 DA I.ok.kind d (Calls.loadGlobal_global (by rw[I.ok.glob];exact I.mod.glob.keeps I.bk) hm h) hd
theorem JB {u:zB}{pos:Pos}{Q:zB->zG->Prop} (I:Inv X c σ H s) (d:Gl X x) (hm:X.mg x=none) (e:j1 x=some u) (h:Q u s)
  (f:x ≠ "__name__" := by decide) (hd:(x == ("__debug__" : Str))=false:=by decide):wpAny (zI X.prog X.w) X.A (zu (.Name x pos) X.env) Q E s:=by
 obtain⟨j,g,i⟩:=I.mod.blt;exact DA I.ok.kind d (Calls.loadGlobal_builtin (by rw[I.ok.glob];exact I.mod.glob.keeps I.bk) hm (by rw[I.ok.blt];exact g.keeps I.bk) ((i x f).trans e) h) hd
theorem dF {u:zB}{pos:Pos} (c:Gl X x) (hm:X.mg x=none) (d:j1 x=some u) (r:zX v u) (e:x ≠ "__name__" := by decide) (hd:(x == ("__debug__" : Str))=false:=by decide):PE X (.Name x pos) (tC v) :=
 λ_ _ _ H _ I h=>JB I c hm d ⟨v,H,I,r,h⟩ e hd
variable {a b:zQ}{ta tb:TE}{pos:Pos}
def PC (X:Cx) (f:CmpOp) (a b:zQ) (t:TE):Prop :=
 ∀ (c:List (zC×Obj)) (s:zG) (σ:St) (H:Hp) (Q:VK),Inv X c σ H s->t σ H Q ->
  wpAny (zI X.prog X.w) X.A (zu a X.env) (λv d=>wpAny (zI X.prog X.w) X.A (zu b X.env) (λu e=>wpAny (zI X.prog X.w) X.A (jv f v u) (EP X c σ Q) X.xe e) X.xe d) X.xe s
theorem cH (b:zQ) {c:CmpOp} (h:c≠.In) (d:c≠.NotIn):Q1 c b=false:=by
 have e:(c == FV)=false:=by cases c<;>first | rfl | exact absurd rfl h
 have f:(c == G5)=false:=by cases c<;>first | rfl | exact absurd rfl d
 cases b<;>simp[Q1,e,f]
def xf (ta:TE):TE:=λσ H Q=>ta σ H λx c=>Q (.bl (decide (x=.non))) c
theorem zX.none_iff (r:zX x v):(v == ZH)=decide (x=.non):=by
 cases x with
 | non=>cases r;rfl
 | bl _=>cases r;rfl
 | int _=>obtain⟨t,rfl⟩:=r;rfl
 | str _=>obtain⟨t,rfl⟩:=r;rfl
 | byt _=>obtain⟨t,rfl⟩:=r;rfl
 | flt _=>obtain⟨t,rfl⟩:=r;rfl
 | ref _=>cases r;rfl
 | ty _=>cases r;rfl
theorem be {j pos'} (ha:PE X a ta):PC X .Is a (.Constant .none j pos') (xf ta):=by
 intro c s σ H Q I h;refine thn (ha c s σ H _ I h) λv s1 ⟨x,d,e,f,g⟩=>?_;exact Constant_none (is_none_gen ⟨.bl _,d,e,by rw[f.none_iff];rfl,g⟩)
def tB (t:TE):TT:=λσ H Q=>t σ H λx d=>∃ c,x=.bl c/\Q c d
theorem Be (h:PC X g a b t) (f:Q1 g b=false:=by first | exact cH _ (by decide) (by decide) | rfl):PT X (.Compare a [g] [b] pos) (tB t):=by
 intro e s σ H Q I hw;refine Ei (thn (h e s σ H _ I hw) λv s1 f=>thn f λu o i=>thn i λc p ⟨x,j,l,m,n⟩=>?_) f;obtain⟨d,rfl,q⟩:=n;cases m;exact X6 ⟨j,l,q⟩
variable {tA tB':TT}{jn:List zQ}
def K3 (t u:TT):TT:=λσ H Q=>t σ H λc d=>if c=true then u σ d Q else Q false d
def tOr (t u:TT):TT:=λσ H Q=>t σ H λc d=>if c=true then Q true d else u σ d Q
def yt (t:TT):TT:=λσ H Q=>t σ H λc d=>Q (!c) d
theorem fA (ha:PT X a tA):PW X (.BoolOp .And [a] pos) tA:=by
 intro f d s σ H Q I h;refine isTrue_and (thn (ha d s σ H Q I h) λc s1 e=>?_);cases c with
 | true=>exact isTrue_and_nil e
 | false=>exact e
theorem FO (ha:PT X a tA):PW X (.BoolOp .Or [a] pos) tA:=by
 intro f d s σ H Q I h;refine isTrue_or (thn (ha d s σ H Q I h) λc s1 e=>?_);cases c with
 | false=>exact isTrue_or_nil e
 | true=>exact e
theorem D4 (ha:PT X a tA) (i:PW X (.BoolOp .And (b::jn) pos) tB'):PW X (.BoolOp .And (a::b::jn) pos) (K3 tA tB'):=by
 intro j d s σ H Q I h;refine isTrue_and (thn (ha d s σ H _ I h) λc s1 ⟨e,f,g⟩=>?_);cases c with
 | true=>exact i j d s1 σ e Q f g
 | false=>exact⟨e,f,g⟩
theorem d6 (ha:PT X a tA) (i:PW X (.BoolOp .Or (b::jn) pos) tB'):PW X (.BoolOp .Or (a::b::jn) pos) (tOr tA tB'):=by
 intro j d s σ H Q I h;refine isTrue_or (thn (ha d s σ H _ I h) λc s1 ⟨e,f,g⟩=>?_);cases c with
 | true=>exact⟨e,f,g⟩
 | false=>exact i j d s1 σ e Q f g
theorem eJ (ha:PT X a tA):PT X (.UnaryOp .Not a pos) (yt tA):=by
 intro d s σ H Q I h;exact isTrue_not (ha d s σ H (λc e=>Q (!c) e) I h)
def GV (ta tb:TE):TE:=λσ H Q=>ta σ H λx d=>∃ c,x=.bl c/\if c=true then tb σ d Q else Q (.bl false) d
def ER (ta:TE):TE:=λσ H Q=>ta σ H λx d=>∃ c,x=.bl c/\Q (.bl (!c)) d
theorem FG {d} (h:PE X a t):PE X (.BoolOp d [a] pos) t:=λc s σ H Q I hw=>BoolOp_one (h c s σ H Q I hw)
theorem cI (ha:PE X a ta) (i:PE X (.BoolOp .And (b::jn) pos) tb):PE X (.BoolOp .And (a::b::jn) pos) (GV ta tb):=by
 intro d s σ H Q I h;refine BoolOp_and (thn (ha d s σ H _ I h) λv s1 ⟨x,f,g,j,e⟩=>?_);obtain⟨c,rfl,e⟩:=e;cases j;refine X6 ?_;cases c with
 | true=>exact i d s1 σ f Q g e
 | false=>exact⟨.bl false,f,g,rfl,e⟩
theorem HB (ha:PE X a ta):PE X (.UnaryOp .Not a pos) (ER ta):=by
 intro d s σ H Q I h;refine UnaryOp_ (thn (ha d s σ H _ I h) λv s1 ⟨x,f,g,i,e⟩=>?_);obtain⟨c,rfl,e⟩:=e;cases i;exact not_of (X6 ⟨.bl (!c),f,g,rfl,e⟩)
end
end L2
namespace L2
open PySem PySem.Spec PyProof.Rows
def SqL (K:PySem.W.Frag) (H:Hp) (a:zC) (xs:List V):Prop :=
 Rd H a (.lst xs) \/
  ∃ (o:Obj) (its:Array zB) (n:Nat),K.lookup a=some o/\o.cls=.type "list" /\ o.dict=none/\o.data=.seq its n/\its.size <= zc/\za xs its.toList
def SqT (K:PySem.W.Frag) (H:Hp) (a:zC) (xs:List V):Prop :=
 Rd H a (.tup xs) \/
  ∃ (o:Obj) (its:Array zB) (n:Nat),K.lookup a=some o/\o.cls=.type "tuple" /\ o.data=.seq its n/\its.size <= zc/\za xs its.toList
noncomputable def D8:zB->Option V
 | .none=>some .non
 | .bool b=>some (.bl b)
 | .int i _=>some (.int i)
 | .str x _=>some (.str x)
 | .bytes b _=>some (.byt b)
 | .float b _=>some (.flt b)
 | .ref a=>some (.ref a)
 | .type n=>some (.ty n)
 | _=>none
theorem zX.abs (r:zX x u):D8 u=some x:=by
 cases x with
 | non=>cases r;rfl
 | bl _=>cases r;rfl
 | int _=>obtain⟨t,rfl⟩:=r;rfl
 | str _=>obtain⟨t,rfl⟩:=r;rfl
 | byt _=>obtain⟨t,rfl⟩:=r;rfl
 | flt _=>obtain⟨t,rfl⟩:=r;rfl
 | ref _=>cases r;rfl
 | ty _=>cases r;rfl
theorem zX.inj {y:V} (r:zX x u) (q:zX y u):x=y:=Z2 (r.abs.symm.trans q.abs)
theorem za.inj:∀ {xs ys:List V}{us:List zB},za xs us->za ys us->xs=ys
 | _,_,_,.nil,.nil=>rfl
 | _,_,_,.cons r t,.cons c t'=>by rw[r.inj c,za.inj t t']
section
variable {X:Cx}{pins:List (zC×Obj)}{σ:St}{H:Hp}{s:zG}{a:zC}{xs ys:List V}
theorem SqL.of {K:PySem.W.Frag} (h:H a=some (.lst xs)):SqL K H a xs:=.inl (.inl h)
theorem SqT.of {K:PySem.W.Frag} (h:H a=some (.tup xs)):SqT K H a xs:=.inl (.inl h)
theorem Inv.list (I:Inv X pins σ H s) (h:SqL X.K H a xs):∃ its:List zB,za xs its/\PlainL s.heap a its.toArray/\xs.length <= zc:=by
 rcases h with h | ⟨o,its,n,c,d,hd,f,hz,r⟩
 ·obtain⟨z,its,n,r,e⟩:=h.ok I.hok;exact⟨its,r,⟨_,n,e,rfl,rfl,rfl⟩,z⟩
 ·refine⟨its.toList,r,⟨o,n,I.kIn a o c,d,hd,by simpa using f⟩,?_⟩;have e:=r.length;simp only[jf] at e
  lia
theorem Inv.tuple (I:Inv X pins σ H s) (h:SqT X.K H a xs):∃ its:List zB,za xs its/\IsTup s.heap a its.toArray/\xs.length <= zc:=by
 rcases h with h | ⟨o,its,n,c,d,f,hz,r⟩
 ·obtain⟨z,its,r,p⟩:=h.ok I.hok;exact⟨its,r,p,z⟩
 ·refine⟨its.toList,r,⟨o,I.kIn a o c,d,n,by simpa using f⟩,?_⟩;have e:=r.length;simp only[jf] at e
  lia
theorem Inv.list_inj (I:Inv X pins σ H s) (h:SqL X.K H a xs) (h':SqL X.K H a ys):xs=ys:=by
 obtain⟨its,r,⟨o,n,e,_,_,d⟩,_⟩:=I.list h;obtain⟨its',f,⟨o',i,c,_,_,d'⟩,_⟩:=I.list h';rw[e] at c;cases c;rw[d] at d';injection d' with g _;have:its=its':=by simpa using congrArg AU g
 subst this;exact r.inj f
theorem Inv.tuple_inj (I:Inv X pins σ H s) (h:SqT X.K H a xs) (h':SqT X.K H a ys):xs=ys:=by
 obtain⟨its,r,⟨o,e,_,n,d⟩,_⟩:=I.tuple h;obtain⟨its',f,⟨o',c,_,i,d'⟩,_⟩:=I.tuple h';rw[e] at c;cases c;rw[d] at d';injection d' with g _;have:its=its':=by simpa using congrArg AU g
 subst this;exact r.inj f
end
noncomputable abbrev Cx.wish (X:Cx) (E:zB->zG->Prop):Cx:={ X with xe:=E }
noncomputable abbrev Cx.nox (X:Cx):Cx:=X.wish λ_ _=>False
theorem Cx.Ok.wish {X:Cx} (ok:X.Ok) (E:zB->zG->Prop):(X.wish E).Ok :=
 ⟨ok.mod,ok.kind,ok.glob,ok.blt,ok.above,ok.inj,ok.has,ok.cab,ok.hd,ok.frames,ok.stk,ok.exf,ok.bs,ok.bsz,ok.noex,ok.exfs,ok.funs,ok.frf⟩
theorem Cx.Ok.unwish {X:Cx}{E:zB->zG->Prop} (ok:(X.wish E).Ok):X.Ok :=
 ⟨ok.mod,ok.kind,ok.glob,ok.blt,ok.above,ok.inj,ok.has,ok.cab,ok.hd,ok.frames,ok.stk,ok.exf,ok.bs,ok.bsz,ok.noex,ok.exfs,ok.funs,ok.frf⟩
section
variable {X:Cx}{pins:List (zC×Obj)}{σ:St}{H:Hp}{s:zG}{E:zB->zG->Prop}
theorem Inv.wish (I:Inv X pins σ H s) (E:zB->zG->Prop):Inv (X.wish E) pins σ H s:=⟨I.ok.wish E,I.os,I.bare,I.base,I.loc,I.cell,I.free,I.freeC,I.pin,I.hok,I.len,I.tk⟩
theorem Inv.unwish (I:Inv (X.wish E) pins σ H s):Inv X pins σ H s:=⟨I.ok.unwish,I.os,I.bare,I.base,I.loc,I.cell,I.free,I.freeC,I.pin,I.hok,I.len,I.tk⟩
theorem SP.unwish {D:yv} (h:SP (X.wish E) pins D f e):SP X pins D f e:=by
 cases f with
 | next=>obtain⟨c,d,I,q⟩:=h;exact⟨c,d,I.unwish,q⟩
 | brk=>obtain⟨c,d,I,q⟩:=h;exact⟨c,d,I.unwish,q⟩
 | cont=>obtain⟨c,d,I,q⟩:=h;exact⟨c,d,I.unwish,q⟩
 | ret u=>obtain⟨v,c,d,I,r,q⟩:=h;exact⟨v,c,d,I.unwish,r,q⟩
theorem PSs.nox {st:List zh} (h:PSs X.nox st t):PSs X st t:=λpins s σ H D I hw =>
 wpAny_mono (h pins s σ H D (I.wish _) hw) (λ_ _ q=>q.unwish) λ_ _ z=>jH z
end
section
variable {X:Cx}{st:zh}{jn:List zh}{t u:TS}{e:zQ}{te:TE}{pos:Pos}
def ES:TS:=λD σ H=>D.nx σ H
def EN (t u:TS):TS:=λD σ H=>t { D with nx:=u D } σ H
theorem fJ:PSs X [] ES:=λ_ _ σ H _ I h=>wpAny_execs_nil ⟨σ,H,I,h⟩
theorem DJ (g:PS X st t) (i:PSs X jn u):PSs X (st::jn) (EN t u):=by
 intro c s σ H D I h;refine dG (thn (g c s σ H { D with nx:=u D } I h) λf s1 q=>?_);cases f with
 | next =>
  obtain⟨d,j,l,q⟩:=q;exact i c s1 d j D l q
 | ret v=>exact q
 | brk=>exact q
 | cont=>exact q
theorem DN (d:PS X st t):PSs X [st] t:=by
 intro c s σ H D I h;refine dG (thn (d c s σ H D I h) λf s1 q=>?_);cases f with
 | next=>exact wpAny_execs_nil q
 | ret v=>exact q
 | brk=>exact q
 | cont=>exact q
theorem Inv.quiet (I:Inv X c σ H s):interactive X.env=false:=by simp[interactive,I.ok.kind]
def cW (te:TE):TS:=λD σ H=>te σ H λ_ c=>D.nx σ c
theorem BY (d:PE X e te) (f:Q3 e none pos.line X.env=pure false:=by rfl):PS X (.Expr e pos) (cW te):=by
 intro c s σ H D I h;exact wpAny_Expr_any (thn (d c s σ H _ I h) λv s1 ⟨x,g,i,l,j⟩=>⟨σ,g,i,j⟩) I.quiet f
def eF (te:TE):TS:=λD σ H=>te σ H D.rt
theorem Dr (d:PE X e te):PS X (.Return (some e) pos) (eF te):=by
 intro c s σ H D I h;exact wpAny_Return_some (thn (d c s σ H _ I h) λv s1 ⟨x,f,g,i,j⟩=>⟨x,σ,f,g,i,j⟩)
def Gq (c:TT) (t u:TS):TS:=λD σ H=>c σ H λb d=>if b=true then t D σ d else u D σ d
theorem gU {a b:List zh} (l:PT X c m) (ha:PSs X a t) (n:PSs X b u):PS X (.If c a b pos) (Gq m t u):=by
 intro f s σ H D I h;refine wpAny_If (thn (l f s σ H _ I h) λd s1 ⟨g,i,j⟩=>?_);cases d with
 | true=>exact ha f s1 σ g D i j
 | false=>exact n f s1 σ g D i j
end
abbrev TG:=V->St->Hp->(St->Hp->Prop)->Prop
abbrev TGs:=List V->St->Hp->(St->Hp->Prop)->Prop
def PG (X:Cx) (c:zQ) (t:TG):Prop :=
 ∀ (d:List (zC×Obj)) (s:zG) (σ:St) (H:Hp) (v:V) (u:zB) (Q:St->Hp->Prop),Inv X d σ H s->zX v u->t v σ H Q ->
  wpAny (zI X.prog X.w) X.A (QL c X.env u) (λ_ g=>∃ e f,Inv X d e f g/\Q e f) X.xe s
def PGs (X:Cx) (ts:List zQ) (t:TGs):Prop :=
 ∀ (c:List (zC×Obj)) (s:zG) (σ:St) (H:Hp) (e:List V) (us:List zB) (Q:St->Hp->Prop),Inv X c σ H s->za e us->t e σ H Q ->
  wpAny (zI X.prog X.w) X.A (assignInOrder ((Qs ts X.env).map (·.2)) us) (λ_ g=>∃ d f,Inv X c d f g/\Q d f) X.xe s
abbrev Ad:=V->V->V->Hp->(Hp->Prop)->Prop
def Wb (X:Cx) (t:Ad):Prop :=
 ∀ (c:List (zC×Obj)) (s:zG) (σ:St) (H:Hp) (o i v:V) (d e u:zB) (Q:Hp->Prop),Inv X c σ H s->zX o d->zX i e->zX v u->t o i v H Q ->
  wpAny (zI X.prog X.w) X.A (kJ d e u) (λ_ g=>∃ f,Inv X c σ f g/\Q f) X.xe s
abbrev TIp:=V->V->Hp->VK->Prop
def PIp (X:Cx) (d:Operator) (t:TIp):Prop :=
 ∀ (c:List (zC×Obj)) (s:zG) (σ:St) (H:Hp) (x y:V) (v u:zB) (Q:VK),Inv X c σ H s->zX x v->zX y u->t x y H Q ->
  wpAny (zI X.prog X.w) X.A (Yf d v u) (EP X c σ Q) X.xe s
section
variable {X:Cx}{pos:Pos}
def zY (i:Nat):TG:=λv σ H Q=>Q (σ.set i (some v)) H
theorem dM {i:Nat}{x:Str} (d:X.N.Nodup) (hi:X.N[i]? = some x) (e:Loc X.env.scope x) (f:X.fn x=true\/X.env.scope.names.lookup x=some .local:=by first | exact .inl rfl | exact .inr rfl | assumption):PG X (.Name x pos) (zY i):=by
 intro c s σ H v u Q I r h;exact fO (Vu I d hi e r (λj g=>⟨_,H,g,h⟩) f)
noncomputable def Qx:TGs:=λc σ H Q=>c=[]/\Q σ H
noncomputable def yV (t:TG) (u:TGs):TGs:=λd σ H Q=>∃ v r,d=v::r/\t v σ H λc e=>u r c e Q
theorem HR:PGs X [] Qx:=by
 intro c s σ H d us Q I r h;obtain⟨e,h⟩:=h;subst e;cases r;exact assignInOrder_nil ⟨σ,H,I,h⟩
theorem K6 (f:PG X e t) (g:PGs X es u)
  (i:(Qs (e::es) X.env).map (·.2)=QL e X.env::(Qs es X.env).map (·.2):=by rfl):PGs X (e::es) (yV t u):=by
 intro c s σ H p us Q I r h;obtain⟨v,q,j,h⟩:=h;subst j;cases r with
 | cons r l =>
  rw[i];refine assignInOrder_cons (thn (f c s σ H _ _ _ I r h) λ_ s1 ⟨d,m,n,o⟩=>?_);exact g c s1 d m _ _ Q n l o
def Qh (K:PySem.W.Frag) (n:Nat) (t:TGs):TG:=λv σ H Q=>∃ a xs,v=.ref a/\SqT K H a xs/\xs.length=n/\t xs σ H Q
theorem Fx {k:Nat}{n:Nat} (g:X.calm=true) (h:PGs X es t)
  (i:(Qs es X.env).length=n:=by rfl) (d:(Qs es X.env).findIdx? (·.1)=none:=by rfl):PG X (.Tuple es k pos) (Qh X.K n t):=by
 intro c s σ H v u Q I r hw;obtain⟨a,xs,j,l,m,hw⟩:=hw;subst j;cases r;obtain⟨its,f,p,hz⟩:=I.tuple l;refine assign_Tuple_tuple (I.ok.hd g) p (by simp[i,<- m,f.length]) d λh' q=>?_;have w:Inv X c σ H { s with heap:=h' }:=I.kept (t':=s.toks) λb o e=>q b o (z4 (zm e)) e;exact h c _ σ H xs _ Q w (by simpa using f) hw
def GR (to ti:TE) (t:Ad):TG:=λv σ H Q=>to σ H λo c=>ti σ c λi d=>t o i v d λe=>Q σ e
theorem BK {to:TE} (f:PE X o to) (hi:PE X i ti) (g:Wb X t)
  (ha:∀ v,QL (.Subscript o i pos) X.env v=(do
   let d <- holding [v] (zu o X.env)
   let e <- holding [v,d] (zu i X.env)
   standAt pos
   holding [v,d,e] (kJ d e v)
   release [v,d,e] []):=by intro _;rfl):PG X (.Subscript o i pos) (GR to ti t):=by
 intro c s σ H v u Q I r h;rw[ha];refine wpAny_bind (y4 (thn (f c s σ H _ I h) λd s1 ⟨x,j,l,m,n⟩=>?_));refine wpAny_bind (y4 (thn (hi c s1 σ j _ l n) λe p ⟨y,q,w,z,A⟩=>?_));refine wpAny_bind (Vt (wpAny_bind (y4 (thn (g c p σ q x y v d e u _ w m z r A) λ_ G ⟨B,C,E⟩=>?_))));exact wpAny_release ⟨σ,B,C,E⟩
def YI (te:TE) (g:TG):TS:=λD σ H=>te σ H λx c=>g x σ c D.nx
theorem GN (d:PE X e te) (f:PG X tg g) (i:UK [tg] e pos.line X.env=pure false:=by rfl) (hw:az [tg] e X.env=pure none:=by rfl)
  (j:(Qs [tg] X.env).map (·.2)=[QL tg X.env]:=by rfl):PS X (.Assign [tg] e pos) (YI te g):=by
 intro c s σ H D I h;refine wpAny_Assign_stores (thn (d c s σ H _ I h) λv s1 ⟨x,l,m,n,o⟩=>?_) i hw;rw[j];exact thn (f c s1 σ l x v _ m n o) λ_ p q=>q
theorem B3 {i:Nat}{x:Str}{pos':Pos} (d:X.N.Nodup) (hi:X.N[i]? = some x) (f:Loc X.env.scope x) (g:PE X e te) (j:Q3 e (some (.Name x pos')) pos.line X.env=pure false:=by rfl) (l:X.fn x=true\/X.env.scope.names.lookup x=some .local:=by first | exact .inl rfl | exact .inr rfl | assumption) :
  PS X (.Assign [.Name x pos'] e pos) (YI te (zY i)):=by
 intro c s σ H D I h;refine wpAny_Assign_Name (thn (g c s σ H _ I h) λv s1 ⟨y,m,n,o,p⟩=>?_) j;exact Vu n d hi f o (λr q=>⟨_,m,q,p⟩) l
def dZ (i:Nat) (te:TE) (ti:TIp):TS:=λD σ H=>∃ x,σ[i]? = some (some x)/\te σ H λy c=>ti x y c λz d=>D.nx (σ.set i (some z)) d
theorem fK {i:Nat}{x:Str}{pos':Pos} (t:X.N.Nodup) (hi:X.N[i]? = some x) (o:Loc X.env.scope x) (B:PE X e te) (C:PIp X q ti) (E:X.fn x=true\/X.env.scope.names.lookup x=some .local:=by first | exact .inl rfl | exact .inr rfl | assumption) :
  PS X (.AugAssign (.Name x pos') q e pos) (dZ i te ti):=by
 intro d s σ H D I h;obtain⟨v,G,h⟩:=h;obtain⟨m,J,L⟩:=I.loc;have p:Vis X.env.scope x:=by rcases o with k | k;exact .inl k;exact .inr (.inl k)
 obtain⟨u,r,l⟩:=L i x v hi G p;refine wpAny_AugAssign_Name ?_;have go:wpAny (zI X.prog X.w) X.A (zu e X.env) (λw j=>wpAny (zI X.prog X.w) X.A (Yf q u w) (λr n=>wpAny (zI X.prog X.w) X.A (storeName X.env x r) (λ_=>SP X d D .next) X.xe n) X.xe j) X.xe s:=by
  refine thn (B d s σ H _ I h) λw s1 ⟨y,M,Q,U,Y⟩=>?_;refine thn (C d s1 σ M v y u w _ Q r U Y) λz s2 ⟨zv,H2,I2,r2,q2⟩=>?_;exact Vu I2 t hi o r2 (λs3 I3=>⟨_,H2,I3,q2⟩) E
 rcases l with ⟨f,hm⟩ | ⟨f,c,hc,g⟩
 ·exact gL I.ok.kind f J hm go
 ·rcases f with f | f
  ·exact DD I.ok.kind f hc g go
  ·rcases o with k | k
   ·have:X.env.scope.names.lookup x=some .free:=f;rw[k] at this;cases this
   ·have:X.env.scope.names.lookup x=some .free:=f;rw[k] at this;cases this
noncomputable def ipI (f:Int->Int->Int):TIp:=λx y H Q=>∃ i j,x=.int i/\y=.int j/\Q (.int (f i j)) H
theorem gb:PIp X .Add (ipI λi j=>i+j):=by
 intro c s σ H x y v u Q I d e h;obtain⟨i,j,f,g,q⟩:=h;subst f;subst g;obtain⟨t,rfl⟩:=d;obtain⟨t',rfl⟩:=e;exact iadd_int ⟨.int _,H,I.tok _,⟨_,rfl⟩,q⟩
theorem Bs:PIp X .Sub (ipI λi j=>i - j):=by
 intro c s σ H x y v u Q I d e h;obtain⟨i,j,f,g,q⟩:=h;subst f;subst g;obtain⟨t,rfl⟩:=d;obtain⟨t',rfl⟩:=e;exact isub_int ⟨.int _,H,I.tok _,⟨_,rfl⟩,q⟩
end
section
variable {X:Cx}{pos:Pos}
def Fk (c:TT) (h:TS):TS:=λD σ H=>∃ W:Nat->St->Hp->Prop,(∃ m,W m σ H)/\∀ m σ H,W m σ H ->
 c σ H λb e=>if b=true then ∃ N:St->Hp->Prop,(∀ d f,N d f->∃ g,g < m/\W g d f)/\h { D with nx:=N,ct:=N,bk:=D.nx } σ e else D.nx σ e
theorem B7 (u:Xr (zI X.prog X.w) X.A X.env X.xe) (E:PT X c G) (J:PSs X i L):PS X (.While c i [] pos) (Fk G L):=by
 intro d s σ H D I h;obtain⟨W,⟨M,Q⟩,j⟩:=h;refine wpAny_While (codeAny_whileLoop (λn U=>∃ l x,Inv X d l x U/\W n l x) ?_ M ⟨σ,H,I,Q⟩)
 rintro n s1 ⟨g,y,Y,w1⟩
 refine xg u (thn (E d s1 g y _ Y (j n g y w1)) λb s2 ⟨z,B,o⟩=>?_);cases b with
 | true =>
  obtain⟨N,C,o⟩:=o;rw[if_pos rfl];refine xg u (thn (J d s2 g z _ B o) λf s3 p=>?_);cases f with
  | next =>
   obtain⟨e,m,q,r⟩:=p;obtain⟨t,hm,w3⟩:=C e m r;exact⟨t,hm,e,m,q,w3⟩
  | cont =>
   obtain⟨e,m,q,r⟩:=p;obtain⟨t,hm,w3⟩:=C e m r;exact⟨t,hm,e,m,q,w3⟩
  | brk=>exact p
  | ret v=>exact p
 | false =>
  rw[if_neg jt];exact wpAny_execs_nil ⟨g,z,B,o⟩
end
structure It where
 go:Nat->Hp->Prop
 yld:Nat->Hp->V->Hp->Prop
 stop:Nat->Hp->Prop
def Z3 (X:Cx) (d:List (zC×Obj)) (H:Hp) (b:zC):Prop :=
 H b=none/\b≠X.env.locals/\b∉X.fs/\(b∈X.ex\/X.s₀.heap.objs.size <= b)/\(∀ x c,X.env.cells.lookup x=some c->c≠b)/\∀ p∈X.pn++d,p.1≠b
theorem Inv.fpOk {X:Cx}{g:Hp}{b:zC} (I:Inv X d σ H s) (f:s.heap.objs.size <= b) (h:g b=none):Z3 X d g b:=by
 refine⟨h,qd (jR I.lt f),I.nofs f,.inr (qD I.sz f),λx c e z=>?_,λp i z=>?_⟩
 ·obtain⟨v,q⟩:=I.cell x c e;exact absurd (jR q.lt (by rw[z];exact f)) (Zy _)
 ·exact absurd (jR (zm (I.pin p i).1) (by rw[z];exact f)) (Zy _)
structure Qn (P:zi) (w:zy) (K:PySem.W.Frag) (tg:zQ) (J:It) (fp:List zC) (it:zC) (tn:Nat->zT->Prop):Prop where
 mem:it∈fp
 obj:∀ i h,tn i h->∀ b∈fp,∃ o,h.get? b=some o/\∀ v,o.data≠.cell v
 keep:∀ i h h',tn i h->(∀ b∈fp,∀ o,h.get? b=some o->h'.get? b=some o)->tn i h'
 item:∀ (X:Cx),X.prog=P->X.w=w->X.K=K->X.calm=true->∀ (i:Nat) (pins:List (zC×Obj)) (s:zG) (σ:St) (H:Hp) (E:zB->zG->Prop),Inv X pins σ H s->(∀ b∈fp,Z3 X pins H b)->tn i s.heap->J.go i H ->
  wpAny (zI P w) X.A (QB (.ref it)) (λr s1=>∃ u,r=some u /\
   wpAny (zI P w) X.A (W0 tg (.ref it) u) (λ_ s2=>∃ x H',Inv X pins σ H' s2/\zX x u/\J.yld i H x H'/\tn (i+1) s2.heap/\∀ b∈fp,H' b=none) E s1) E s
 done:∀ (X:Cx),X.prog=P->X.w=w->X.K=K->X.calm=true->∀ (i:Nat) (pins:List (zC×Obj)) (s:zG) (σ:St) (H:Hp) (E:zB->zG->Prop),Inv X pins σ H s->(∀ b∈fp,Z3 X pins H b)->tn i s.heap->J.stop i H ->
  wpAny (zI P w) X.A (QB (.ref it)) (λr s1=>r=none/\Inv X pins σ H s1) E s
 self:∀ (A:jh) (i:Nat) (s:zG) (Q:zB->zG->Prop) (E:zB->zG->Prop),tn i s.heap->Q (.ref it) s->wpAny (zI P w) A (XC (.ref it)) Q E s
abbrev TI:=St->Hp->(It->Hp->Prop)->Prop
def PIE (X:Cx) (c:List (zC×Obj)) (σ:St) (tg:zQ) (R:It->Hp->Prop) (d:zB) (f:zG):Prop :=
 ∃ (it:zC) (g:List zC) (h:Nat->zT->Prop) (J:It) (e:Hp),d=.ref it/\Inv X c σ e f/\Qn X.prog X.w X.K tg J g it h/\h 0 f.heap/\(∀ b∈g,Z3 X c e b)/\R J e
def PI (X:Cx) (tg d:zQ) (e:TI):Prop :=
 ∀ (c:List (zC×Obj)) (s:zG) (σ:St) (H:Hp) (R:It->Hp->Prop),Inv X c σ H s->e σ H R ->
  wpAny (zI X.prog X.w) X.A (zu d X.env) (λv s1=>wpAny (zI X.prog X.w) X.A (XC v) (PIE X c σ tg R) X.xe s1) X.xe s
theorem x1 {M:kK}{s:zG}{it:zC}{o:Obj}{n:String}{d:Array zB}{Q:Unit->zG->Prop} (e:s.heap.get? it=some o) (f:o.cls=.type n) (hd:o.data=.fields d)
  (g:["enumerate","zip","dict_itemiterator","dict_reverseitemiterator","odict_iterator","itertools.zip_longest","itertools.pairwise"].contains n=false) (c:Q () s):wpAny M A (W0 tg (.ref it) u) Q E s:=by
 unfold W0;cases tg<;>first
  | exact wpAny_pure c
  | (cases u<;>first
      | exact wpAny_pure c
      | (refine wpAny_bind (wpAny_load e ?_)
         rw[f,hd];show wpAny M A (if (["enumerate","zip","dict_itemiterator","dict_reverseitemiterator","odict_iterator","itertools.zip_longest","itertools.pairwise"].contains n && d[0]? == some (Qo _))=true then _ else _) Q E s;rw[if_neg (by intro h;rw[g,Eh] at h;cases h)];exact wpAny_pure c))
noncomputable def Itl (K:PySem.W.Frag) (a:zC):It :=
 ⟨λi H=>∃ xs x,SqL K H a xs/\xs[i]? = some x,λi H x c=>c=H/\∀ xs,SqL K H a xs->xs[i]? = some x,λi H=>∃ xs,SqL K H a xs/\xs.length <= i⟩
noncomputable def Itt (K:PySem.W.Frag) (a:zC):It :=
 ⟨λi H=>∃ xs x,SqT K H a xs/\xs[i]? = some x,λi H x c=>c=H/\∀ xs,SqT K H a xs->xs[i]? = some x,λi H=>∃ xs,SqT K H a xs/\xs.length <= i⟩
noncomputable def Itr (lo:Int) (n:Nat):It:=⟨λi _=>i < n,λi H x c=>c=H/\x=.int (lo+i),λi _=>n <= i⟩
theorem EA {P:zi}{K:PySem.W.Frag} (a it:zC):Qn P w K tg (Itl K a) [it] it (λi h=>h.IsListIter it a i) where
 mem:=by simp
 obj:=λi h st b g=>by
  have e:b=it:=by simpa using g
  subst e;obtain⟨o,e,c,d⟩:=st;exact⟨o,e,λv z=>by rw[d] at z;cases z⟩
 keep:=λi h h' st k=>st.at λo e=>k it (by simp) o e
 item:=by
  intro X n hw q L i f s σ H E I l st r;subst n hw q;obtain⟨xs,x,m,t⟩:=r;obtain⟨its,y,p,hz⟩:=I.list m;obtain⟨u,M,N⟩:=y.get t;obtain⟨A,B,Q,C,G,J⟩:=l it (by simp);refine wpAny_pyNext_list_item st p.isList (x:=u) (by simpa using M) λh' j sb=>?_;have U:Inv X f σ H { s with heap:=h' }:=I.turned (t':=s.toks) (λb o g e=>(sb.2 b g).trans e) A B C G J;obtain⟨o,e,c,d⟩:=id j;exact⟨u,rfl,x1 (s:={ s with heap:=h' }) e c d (by decide) ⟨x,H,U,N,⟨rfl,λys Y=>by rw[I.list_inj Y m];exact t⟩,j,λb g=>(l b g).1⟩⟩
 done:=by
  intro X n hw q L i f s σ H E I l st r;subst n hw q;obtain⟨xs,m,t⟩:=r;obtain⟨its,y,p,hz⟩:=I.list m;obtain⟨A,B,Q,C,G,J⟩:=l it (by simp);have hl:=y.length;exact wpAny_pyNext_list_end (I.ok.hd L) st p.isList (by simp;lia) λh' eb=>⟨rfl,I.turned (t':=s.toks) (λb o g e=>eb b o g e) A B C G J⟩
 self:=λ_ _ _ _ _ st h=>wpAny_pyIter_listiter st h
theorem cM {P:zi}{K:PySem.W.Frag} (a it:zC):Qn P w K tg (Itt K a) [it] it (λi h=>h.IsTupleIter it a i) where
 mem:=by simp
 obj:=λi h st b g=>by
  have e:b=it:=by simpa using g
  subst e;obtain⟨o,e,c,d⟩:=st;exact⟨o,e,λv z=>by rw[d] at z;cases z⟩
 keep:=λi h h' st k=>st.at λo e=>k it (by simp) o e
 item:=by
  intro X n hw q L i f s σ H E I l st r;subst n hw q;obtain⟨xs,x,m,t⟩:=r;obtain⟨its,y,p,hz⟩:=I.tuple m;obtain⟨u,M,N⟩:=y.get t;obtain⟨A,B,Q,C,G,J⟩:=l it (by simp);refine wpAny_pyNext_tuple_item st (show s.heap.IsTuple a its.toArray from p) (x:=u) (by simpa using M) λh' j sb=>?_;have U:Inv X f σ H { s with heap:=h' }:=I.turned (t':=s.toks) (λb o g e=>(sb.2 b g).trans e) A B C G J;obtain⟨o,e,c,d⟩:=id j;exact⟨u,rfl,x1 (s:={ s with heap:=h' }) e c d (by decide) ⟨x,H,U,N,⟨rfl,λys Y=>by rw[I.tuple_inj Y m];exact t⟩,j,λb g=>(l b g).1⟩⟩
 done:=by
  intro X n hw q L i f s σ H E I l st r;subst n hw q;obtain⟨xs,m,t⟩:=r;obtain⟨its,y,p,hz⟩:=I.tuple m;obtain⟨A,B,Q,C,G,J⟩:=l it (by simp);have hl:=y.length;exact wpAny_pyNext_tuple_end (I.ok.hd L) st (show s.heap.IsTuple a its.toArray from p) (by simp;lia) λh' eb=>⟨rfl,I.turned (t':=s.toks) (λb o g e=>eb b o g e) A B C G J⟩
 self:=λ_ _ _ _ _ st h=>wpAny_pyIter_tupleiter st h
theorem gi {P:zi}{K:PySem.W.Frag} (it:zC) (lo:Int) (n:Nat):Qn P w K tg (Itr lo n) [it] it (λi h=>IsRangeIter h it (lo+(i:Nat) * 1) ((n:Int) - (i:Nat)) 1) where
 mem:=by simp
 obj:=λi h st b d=>by
  have e:b=it:=by simpa using d
  subst e;exact⟨_,st,λv z=>by
   have A:Data.fields _=Data.cell v:=z;cases A⟩
 keep:=λi h h' st k=>k it (by simp) _ st
 item:=by
  intro X j hw l m i c s σ H E I g st p;subst j hw l;obtain⟨q,r,B,u,x,y⟩:=g it (by simp);have W:=Walks.range (prog:=X.prog) (w:=X.w) (I.ok.hd m) it lo 1 n;refine ye (n:=1) I.tk (W.item i s _ _ p st λv h' tk C f G J=>?_);obtain⟨t,rfl⟩:=C;have L:Inv X c σ H { s with heap:=h',toks:=tk }:=I.turned (λb o d e=>G b o (by simpa using d) e) q r u x y;refine⟨_,rfl,x1 (s:={ s with heap:=h',toks:=tk }) (n := "range_iterator") f rfl rfl (by decide) ⟨.int (lo+i),H,L,⟨t,?_⟩,⟨rfl,rfl⟩,f,λb d=>(g b d).1⟩⟩;rw[Int.mul_one]
 done:=by
  intro X j hw l m i c s σ H E I g st p;subst j hw l;obtain⟨q,r,B,u,x,y⟩:=g it (by simp);exact wpAny_pyNext_range_end (I.ok.hd m) st (by have:n <= i:=p;lia) λh' M=>⟨rfl,I.turned (t':=s.toks) (λb o d e=>M b o d e) q r u x y⟩
 self:=λ_ _ _ _ _ st h=>wpAny_pyIter_rangeiter st h
end L2
namespace L2
open PySem PySem.Spec PyProof.Rows
section
variable {X:Cx}{tg:zQ}
def cg (K:PySem.W.Frag) (d:TE):TI:=λσ H R=>d σ H λx c=>∃ a,x=.ref a/\(∃ xs,SqL K c a xs)/\R (Itl K a) c
def Cv (K:PySem.W.Frag) (d:TE):TI:=λσ H R=>d σ H λx c=>∃ a,x=.ref a/\(∃ xs,SqT K c a xs)/\R (Itt K a) c
theorem Cd (f:PE X l g):PI X tg l (cg X.K g):=by
 intro c s σ H R I h;refine thn (f c s σ H _ I h) λv s1 ⟨x,i,d,j,m⟩=>?_;obtain⟨a,e,⟨xs,n⟩,q⟩:=m;subst e;cases j;obtain⟨its,t,p,hz⟩:=d.list n;refine uK p.isList ?_;refine⟨s1.heap.objs.size,[s1.heap.objs.size],_,_,i,rfl,d.kept (t':=s1.toks) λb o e=>jK _ e,EA a _,⟨_,qU _ rfl,rfl,rfl⟩,λb r=>?_,q⟩;have e:b=s1.heap.objs.size:=by simpa using r
 subst e;exact d.fpOk (zd _) (d.hok.fresh (zd _))
theorem Eb (f:PE X l g):PI X tg l (Cv X.K g):=by
 intro c s σ H R I h;refine thn (f c s σ H _ I h) λv s1 ⟨x,i,d,j,m⟩=>?_;obtain⟨a,e,⟨xs,n⟩,q⟩:=m;subst e;cases j;obtain⟨its,t,p,hz⟩:=d.tuple n;refine wpAny_pyIter_tuple (show s1.heap.IsTuple a its.toArray from p) ?_;refine⟨s1.heap.objs.size,[s1.heap.objs.size],_,_,i,rfl,d.kept (t':=s1.toks) λb o e=>jK _ e,cM a _,⟨_,qU _ rfl,rfl,rfl⟩,λb r=>?_,q⟩;have e:b=s1.heap.objs.size:=by simpa using r
 subst e;exact d.fpOk (zd _) (d.hok.fresh (zd _))
theorem BR {R:It->Hp->Prop}{lo hi:Int}{t u v:Tok}{tk:Nat} (I:Inv X c σ H s) (f:-(2 ^ 62) <= lo) (g:lo < 2 ^ 62) (h:-(2 ^ 62) <= hi) (i:hi < 2 ^ 62)
  (q:R (Itr lo (hi - lo).toNat) H) (j:0 < tk:=by first | exact yf _ | assumption | exact Inv.tk (by assumption) | lia):wpAny (zI X.prog X.w) X.A (XC (.ref s.heap.objs.size)) (PIE X c σ tg R) E { s with heap:=s.heap.push { cls:=.type "range",data:=.fields #[.int lo t,.int hi u,.int 1 v] },toks:=tk }:=by
 refine wpAny_pyIter_range (IsRange.new ..) (small_one f g h i) ?_;have d:Inv X c σ H { s with heap:=s.heap.push { cls:=.type "range",data:=.fields #[.int lo t,.int hi u,.int 1 v] },toks:=tk }:=I.kept λb o e=>jK _ e;refine⟨(s.heap.push { cls:=.type "range",data:=.fields #[.int lo t,.int hi u,.int 1 v] }).objs.size,[(s.heap.push { cls:=.type "range",data:=.fields #[.int lo t,.int hi u,.int 1 v] }).objs.size],_,_,H,rfl,
  d.kept (t':=tk) λb o e=>jK _ e,gi _ lo (hi - lo).toNat,?_,λb l=>?_,q⟩
 ·have m:lo+((0:Nat):Int) * 1=lo:=by simp
  have n:(((hi - lo).toNat:Nat):Int) - ((0:Nat):Int)=iF lo hi 1:=by rw[rangeSize_one];split<;>lia
  show IsRangeIter _ _ (lo+((0:Nat):Int) * 1) ((((hi - lo).toNat:Nat):Int) - ((0:Nat):Int)) 1;rw[m,n];exact qU _ rfl
 ·have e:b=(s.heap.push { cls:=.type "range",data:=.fields #[.int lo t,.int hi u,.int 1 v] }).objs.size:=by simpa using l
  subst e;exact d.fpOk (zd _) (d.hok.fresh (zd _))
def CT (c:TA):TI:=λσ H R=>c σ H λd e=>∃ j:Int,d=[.int j] /\ -(2 ^ 62) <= j/\j < 2 ^ 62/\R (Itr 0 j.toNat) e
theorem Ex {a:zQ}{p pos:Pos} (f:Gl X "range") (hm:X.mg "range" = none) (ha:PA X [a] g) (i:jd [a] X.env=[(false,zu a X.env)]:=by rfl):PI X tg (.Call (.Name "range" p) [a] [] pos) (CT g):=by
 intro c s σ H R I h;refine Call_ (JB I f hm boot_range (Vq (thn (ha pos c s σ H _ I h) λus s1 ⟨u,v,l,m,d⟩=>?_) i rfl));obtain⟨j,e,d,n,q⟩:=d;subst e;cases m with
 | cons r o =>
  cases o;obtain⟨t,rfl⟩:=r;exact call_range_1 (BR l (by lia) (by lia) d n (by simpa using q))
def EK (h:TI) (g:TG) (j:TS):TS:=λD σ H=>h σ H λJ l=>∃ W:Nat->Nat->St->Hp->Prop,(∃ m,W 0 m σ l)/\∀ i m σ H,W i m σ H ->
 (J.stop i H/\D.nx σ H)\/(J.go i H/\∃ N:St->Hp->Prop,(∀ c d,N c d->∃ f,f < m/\W (i+1) f c d)/\∀ x d,J.yld i H x d->g x σ d λe n=>j { D with nx:=N,ct:=N,bk:=D.nx } e n)
noncomputable def QH (c:List zC) (h:zT):List (zC×Obj):=c.filterMap λb=>(h.get? b).map λo=>(b,o)
theorem K8 {c:List zC}{h:zT}{b:zC}{o:Obj} (d:b∈c) (e:h.get? b=some o):(b,o)∈QH c h:=List.mem_filterMap.mpr ⟨b,d,by rw[e];rfl⟩
theorem AG {p:zC×Obj} (c:p∈QH d h):p.1∈d/\h.get? p.1=some p.2:=by
 obtain⟨b,f,e⟩:=List.mem_filterMap.mp c;cases q:h.get? b with
 | none=>rw[q] at e;cases e
 | some o =>
  rw[q] at e;have g:(b,o)=p:=Z2 e;subst g;exact⟨f,q⟩
theorem Inv.pinned {f:List zC} (I:Inv X c σ H s) (i:∀ b∈f,Z3 X c H b) (j:∀ b∈f,∃ o,s.heap.get? b=some o/\∀ v,o.data≠.cell v):Inv X (c++QH f s.heap) σ H s :=
 I.pins_of λp l=>(List.mem_append.mp l).elim (λz=>I.pin p (qw _ z)) λz=>by
  obtain⟨g,e⟩:=AG z;obtain⟨m,n,q,_⟩:=i p.1 g;obtain⟨o,h,d⟩:=j p.1 g;rw[e] at h;cases h;exact⟨e,m,n,q,d⟩
theorem Inv.unpinned {c d:List (zC×Obj)} (I:Inv X (c++d) σ H s):Inv X c σ H s:=I.pins_of λp e=>I.pin p (qw _ (Zg _ e))
theorem YT {pos:Pos} (G:Xr (zI X.prog X.w) X.A X.env X.xe) (hc:X.calm=true) (hi:PI X tg B wi) (hg:PG X tg g) (l:PSs X L tb)
  (hs:∀ x,JG B X.env x=pure x:=by intro _;rfl):PS X (.For tg B L [] pos) (EK wi g tb):=by
 intro c s σ H D I h;refine wpAny_For (thn (hi c s σ H _ I h) λv s1 h1=>thn h1 λitv s2 h2=>?_) hs;obtain⟨it,M,tn,J,H2,e,I2,T,st2,f2,W,⟨m0,w0⟩,Q⟩:=h2;subst e;have p:∀ {z:Hp},(∀ b∈M,z b=none)->∀ b∈M,Z3 X c z b:=λhn b l=>⟨hn b l,(f2 b l).2⟩
 refine codeAny_forLoop_any (λn s'=>∃ i q z,Inv X c q z s'/\tn i s'.heap/\(∀ b∈M,z b=none)/\W i n q z) ?_ m0 ⟨0,σ,H2,I2,st2,λb l=>(f2 b l).1,w0⟩
 rintro n s3 ⟨i,t,H3,I3,st3,U,w3⟩
 rcases Q i n t H3 w3 with ⟨stop,qn⟩ | ⟨go,N,hN,step⟩
 ·refine xg G (thn (T.done X rfl rfl rfl hc i c s3 t H3 X.xe I3 (p U) st3 stop) λr s4 ⟨hr,I4⟩=>?_);subst hr;exact wpAny_execs_nil ⟨t,H3,I4,qn⟩
 ·refine xg G (thn (T.item X rfl rfl rfl hc i c s3 t H3 X.xe I3 (p U) st3 go) λr s4 ⟨u,hr,h4⟩=>?_);subst hr;refine xg G (thn h4 λ_ s5 ⟨x,H5,I5,r5,y5,E,fr5⟩=>?_);have I5':=I5.pinned (p fr5) (T.obj _ _ E);refine xg G (thn (hg _ s5 t H5 x u _ I5' r5 (step x H5 y5)) λ_ s6 ⟨σ6,H6,I6,q6⟩=>?_);refine xg G (thn (l _ s6 σ6 H6 _ I6 q6) λf s7 C=>?_);have again:∀ {j:St}{H7:Hp},Inv X (c++QH M s5.heap) j H7 s7->N j H7->∃ m,m < n/\∃ i q z,Inv X c q z s7/\tn i s7.heap/\(∀ b∈M,z b=none)/\W i m q z:=λ{j H7} y Y=>by
   obtain⟨m',hm,w7⟩:=hN j H7 Y;refine⟨m',hm,i+1,j,H7,y.unpinned,T.keep _ _ _ E λb l o e=>(y.pin (b,o) (qw _ (qw _ (K8 l e)))).1,λb l=>?_,w7⟩;obtain⟨o,e,d⟩:=T.obj _ _ E b l;exact (y.pin (b,o) (qw _ (qw _ (K8 l e)))).2.1
  cases f with
  | next=>obtain⟨j,H7,y,Y⟩:=C;exact again y Y
  | cont=>obtain⟨j,H7,y,Y⟩:=C;exact again y Y
  | brk=>obtain⟨j,H7,y,C⟩:=C;exact⟨j,H7,y.unpinned,C⟩
  | ret v=>obtain⟨x7,j,H7,y,r7,C⟩:=C;exact⟨x7,j,H7,y.unpinned,r7,C⟩
end
end L2
namespace L2
open PySem PySem.Spec PyProof.Rows
abbrev R2:=V->V->Hp->VK->Prop
def OpR (X:Cx) (f:zB->zB->Sem zB) (r:R2):Prop :=
 ∀ (c:List (zC×Obj)) (s:zG) (σ:St) (H:Hp) (x y:V) (v u:zB) (Q:VK),Inv X c σ H s->zX x v->zX y u->r x y H Q ->
  wpAny (zI X.prog X.w) X.A (f v u) (EP X c σ Q) X.xe s
def UnR (X:Cx) (f:zB->Sem zB) (r:V->Hp->VK->Prop):Prop :=
 ∀ (c:List (zC×Obj)) (s:zG) (σ:St) (H:Hp) (x:V) (v:zB) (Q:VK),Inv X c σ H s->zX x v->r x H Q ->
  wpAny (zI X.prog X.w) X.A (f v) (EP X c σ Q) X.xe s
def qX (X:Cx) (f:zB) (r:List V->Hp->VK->Prop):Prop :=
 ∀ (c:List (zC×Obj)) (s:zG) (σ:St) (H:Hp) (xs:List V) (us:List zB) (Q:VK),Inv X c σ H s->za xs us->r xs H Q ->
  wpAny (zI X.prog X.w) X.A (call f us) (EP X c σ Q) X.xe s
def br (X:Cx) (r:V->Hp->(Bool->Hp->Prop)->Prop):Prop :=
 ∀ (c:List (zC×Obj)) (s:zG) (σ:St) (H:Hp) (x:V) (v:zB) (Q:Bool->Hp->Prop),Inv X c σ H s->zX x v->r x H Q ->
  wpAny (zI X.prog X.w) X.A (truthy v) (TP X c σ Q) X.xe s
def tOp (r:R2) (c d:TE):TE:=λσ H Q=>c σ H λx e=>d σ e λy f=>r x y f Q
def tUn (r:V->Hp->VK->Prop) (c:TE):TE:=λσ H Q=>c σ H λx d=>r x d Q
def rI (C:Int->Int->Prop) (g:Int->Int->V):R2:=λx y H Q=>∃ i j,x=.int i/\y=.int j/\C i j/\Q (g i j) H
def rI0 (g:Int->Int->V):R2:=λx y H Q=>∃ i j,x=.int i/\y=.int j/\Q (g i j) H
noncomputable def rU (g:Int->V):V->Hp->VK->Prop:=λx H Q=>∃ i,x=.int i/\Q (g i) H
section
variable {X:Cx}{a b c:zQ}{ta tb tc:TE}{pos:Pos}
theorem V5 (ha:PE X a ta) (m:PE X b tb) {R:V->V->Hp->Prop} (I:Inv X d σ H s)
  (h:ta σ H λx l=>tb σ l λy e=>R x y e) {f:zB->zB->Sem zB}
  (n:∀ v u j x y e,Inv X d σ e j->zX x v->zX y u->R x y e->wpAny (zI X.prog X.w) X.A (f v u) Q X.xe j) :
  wpAny (zI X.prog X.w) X.A (zu a X.env) (λv g=>wpAny (zI X.prog X.w) X.A (zu b X.env) (λu i=>wpAny (zI X.prog X.w) X.A (f v u) Q X.xe i) X.xe g) X.xe s:=by
 refine thn (ha d s σ H _ I h) λv s1 ⟨x,l,o,p,q⟩=>?_;refine thn (m d s1 σ l _ o q) λu j ⟨y,e,r,t,z⟩=>?_;exact n v u j x y e r p t z
theorem Gj (e:OpR X (yD f) r) (ha:PE X a ta) (g:PE X b tb):PE X (.BinOp a f b pos) (tOp r ta tb):=by
 intro d s σ H Q I h;exact wpAny_BinOp (V5 ha g I h λv u i x y j l rx ry q=>e d i σ j x y v u Q l rx ry q)
theorem d3 (e:UnR X (unaryOp f) r) (ha:PE X a ta):PE X (.UnaryOp f a pos) (tUn r ta):=by
 intro d s σ H Q I h;exact UnaryOp_ (thn (ha d s σ H _ I h) λv s1 ⟨x,g,i,j,l⟩=>e d s1 σ g x v Q i j l)
theorem opI {f:zB->zB->Sem zB}{C:Int->Int->Prop}{g:Int->Int->Int}
  (ZP:∀ (i j:Int) (t u:Tok) (s:zG) (Q:zB->zG->Prop) (E:zB->zG->Prop),C i j->Q (.int (g i j) s.toks) { s with toks:=s.toks+1 }->wpAny (zI X.prog X.w) X.A (f (.int i t) (.int j u)) Q E s) :
  OpR X f (rI C λi j=>.int (g i j)):=by
 intro d s σ H x y v u Q I rx ry h;obtain⟨i,j,rfl,rfl,e,q⟩:=h;obtain⟨t,rfl⟩:=rx;obtain⟨t',rfl⟩:=ry;exact ZP i j t t' s _ _ e ⟨.int (g i j),H,I.tok _,⟨_,rfl⟩,q⟩
theorem wB {f:zB->zB->Sem zB}{g:Int->Int->Int}
  (ZP:∀ (i j:Int) (t u:Tok) (s:zG) (Q:zB->zG->Prop) (E:zB->zG->Prop),Q (.int (g i j) s.toks) { s with toks:=s.toks+1 }->wpAny (zI X.prog X.w) X.A (f (.int i t) (.int j u)) Q E s) :
  OpR X f (rI0 λi j=>.int (g i j)):=by
 intro d s σ H x y v u Q I rx ry h;obtain⟨i,j,rfl,rfl,q⟩:=h;obtain⟨t,rfl⟩:=rx;obtain⟨t',rfl⟩:=ry;exact ZP i j t t' s _ _ ⟨.int (g i j),H,I.tok _,⟨_,rfl⟩,q⟩
theorem wz {f:zB->zB->Sem zB}{g:Int->Int->Bool}
  (ZP:∀ (i j:Int) (t u:Tok) (s:zG) (Q:zB->zG->Prop) (E:zB->zG->Prop),Q (.bool (g i j)) s->wpAny (zI X.prog X.w) X.A (f (.int i t) (.int j u)) Q E s) :
  OpR X f (rI0 λi j=>.bl (g i j)):=by
 intro d s σ H x y v u Q I rx ry h;obtain⟨i,j,rfl,rfl,q⟩:=h;obtain⟨t,rfl⟩:=rx;obtain⟨t',rfl⟩:=ry;exact ZP i j t t' s _ _ ⟨.bl (g i j),H,I,rfl,q⟩
def gJ (i j:Int):Prop:=0 < j/\j < 1073741824
def vp (i j:Int):Prop:=(-(2 ^ 64) < i/\i < 2 ^ 64)\/(-(2 ^ 64) < j/\j < 2 ^ 64)
theorem vp.ok (h:vp i j):IntMulOk i j:=by
 rcases h with ⟨d,e⟩ | ⟨d,e⟩
 ·exact .of_left (intBits_le_64 d e)
 ·exact .of_right (intBits_le_64 d e)
theorem ba:OpR X (yD .Add) (rI0 λi j=>.int (i+j)):=wB λ_ _ _ _ _ _ _ q=>add_int q
theorem Fz:OpR X (yD .Sub) (rI0 λi j=>.int (i - j)):=wB λ_ _ _ _ _ _ _ q=>sub_int q
theorem Fc:OpR X (yD .Mult) (rI vp λi j=>.int (i * j)):=opI λ_ _ _ _ _ _ _ d q=>mul_int q d.ok
theorem b9:OpR X (yD .FloorDiv) (rI gJ λi j=>.int (i / j)):=opI λi j _ _ _ _ _ d q=>by
 have e:(0:Int) < j:=d.1;have f:j < 1073741824:=d.2;exact floordiv_int (by lia) (by rw[Int.fdiv_eq_ediv_of_nonneg i (by lia)];exact q) (.inl (PyProof.noPylong_small (by lia)))
theorem Ec:OpR X (yD .Mod) (rI (λ_ j=>0 < j) λi j=>.int (i % j)):=opI λi j _ _ _ _ _ d q=>by
 have e:(0:Int) < j:=d;exact mod_int' (by lia) (by rw[Int.fmod_eq_emod_of_nonneg i (by lia)];exact q)
theorem unI {f:zB->Sem zB}{g:Int->Int}
  (ZP:∀ (i:Int) (t:Tok) (s:zG) (Q:zB->zG->Prop) (E:zB->zG->Prop),Q (.int (g i) s.toks) { s with toks:=s.toks+1 }->wpAny (zI X.prog X.w) X.A (f (.int i t)) Q E s) :
  UnR X f (rU λi=>.int (g i)):=by
 intro d s σ H x v Q I rx h;obtain⟨i,rfl,q⟩:=h;obtain⟨t,rfl⟩:=rx;exact ZP i t s _ _ ⟨.int (g i),H,I.tok _,⟨_,rfl⟩,q⟩
theorem Gy:UnR X (unaryOp .USub) (rU λi=>.int (-i)):=unI λ_ _ _ _ _ q=>neg_int q
end
noncomputable def x6:V->V->Bool
 | .non,.non=>true | .non,.int _=>true | .int _,.non=>true | .non,.bl _=>true | .bl _,.non=>true | .non,.str _=>true | .str _,.non=>true
 | .int _,.int _=>true | .bl _,.bl _=>true | .str _,.str _=>true | .byt _,.byt _=>true
 | .int _,.str _=>true | .str _,.int _=>true | .bl _,.str _=>true | .str _,.bl _=>true
 | _,_=>false
def rEq:R2:=λx y H Q=>x6 x y=true/\Q (.bl (decide (x=y))) H
def rNe:R2:=λx y H Q=>x6 x y=true/\Q (.bl (!decide (x=y))) H
theorem aA {i j:Int}:decide (V.int i=V.int j)=(i == j):=by
 rw[uA];simp
theorem AD {i j:Bool}:decide (V.bl i=V.bl j)=(i == j):=by
 rw[uA];simp
theorem AS {i j:Str}:decide (V.str i=V.str j)=(i == j):=by
 rw[uA];simp
theorem Wg {i j:Array UInt8}:decide (V.byt i=V.byt j)=(i.toList == j.toList):=by
 rw[uA];cases i;cases j;simp
section
variable {X:Cx}{a b c:zQ}{ta tb tc:TE}{pos:Pos}
theorem jX {Q:VK}{k f:Bool} (I:Inv X d σ H s) (q:Q (.bl k) H) (e:k=f):EP X d σ Q (.bool f) s:=by
 subst e;exact⟨.bl k,H,I,rfl,q⟩
theorem Ed:OpR X (jv .Eq) rEq:=by
 intro e s σ H x y v u Q I rx ry h;obtain⟨d,q⟩:=h;cases x with
 | non =>
  cases rx;cases y with
  | non=>cases ry;exact PySem.EqNone.eq_none_none (jX I q (by simp))
  | bl j=>cases ry;exact PySem.EqNone.eq_none_bool (jX I q (by simp))
  | int j=>obtain⟨t',rfl⟩:=ry;exact PySem.EqNone.eq_none_int (jX I q (by simp))
  | str j=>obtain⟨t',rfl⟩:=ry;exact PySem.EqNone.eq_none_str (jX I q (by simp))
  | _=>exact absurd (show false=true from d) jt
 | bl i =>
  cases rx;cases y with
  | non=>cases ry;exact PySem.EqNone.eq_bool_none (jX I q (by simp))
  | bl j=>cases ry;exact eq_bool (jX I q AD)
  | str j=>obtain⟨t',rfl⟩:=ry;exact PySem.EqMixed.eq_bool_str (jX I q (by simp))
  | _=>exact absurd (show false=true from d) jt
 | int i =>
  obtain⟨t,rfl⟩:=rx;cases y with
  | non=>cases ry;exact PySem.EqNone.eq_int_none (jX I q (by simp))
  | int j=>obtain⟨t',rfl⟩:=ry;exact eq_int (jX I q aA)
  | str j=>obtain⟨t',rfl⟩:=ry;exact PySem.EqMixed.eq_int_str (jX I q (by simp))
  | _=>exact absurd (show false=true from d) jt
 | str i =>
  obtain⟨t,rfl⟩:=rx;cases y with
  | non=>cases ry;exact PySem.EqNone.eq_str_none (jX I q (by simp))
  | bl j=>cases ry;exact PySem.EqMixed.eq_str_bool (jX I q (by simp))
  | int j=>obtain⟨t',rfl⟩:=ry;exact PySem.EqMixed.eq_str_int (jX I q (by simp))
  | str j=>obtain⟨t',rfl⟩:=ry;exact eq_str (jX I q AS)
  | _=>exact absurd (show false=true from d) jt
 | byt i =>
  obtain⟨t,rfl⟩:=rx;cases y with
  | byt j=>obtain⟨t',rfl⟩:=ry;exact PySem.W.eq_bytes (jX I q Wg)
  | _=>exact absurd (show false=true from d) jt
 | _=>cases y<;>exact absurd (show false=true from d) jt
theorem Bu:OpR X (jv .NotEq) rNe:=by
 intro e s σ H x y v u Q I rx ry h;obtain⟨d,q⟩:=h;cases x with
 | non =>
  cases rx;cases y with
  | non=>cases ry;exact PySem.EqNone.ne_none_none (jX I q (by simp))
  | bl j=>cases ry;exact PySem.EqNone.ne_none_bool (jX I q (by simp))
  | int j=>obtain⟨t',rfl⟩:=ry;exact PySem.EqNone.ne_none_int (jX I q (by simp))
  | str j=>obtain⟨t',rfl⟩:=ry;exact PySem.EqNone.ne_none_str (jX I q (by simp))
  | _=>exact absurd (show false=true from d) jt
 | bl i =>
  cases rx;cases y with
  | non=>cases ry;exact PySem.EqNone.ne_bool_none (jX I q (by simp))
  | bl j=>cases ry;exact ne_bool (jX I q (congrArg not AD))
  | str j=>obtain⟨t',rfl⟩:=ry;exact PySem.EqMixed.ne_bool_str (jX I q (by simp))
  | _=>exact absurd (show false=true from d) jt
 | int i =>
  obtain⟨t,rfl⟩:=rx;cases y with
  | non=>cases ry;exact PySem.EqNone.ne_int_none (jX I q (by simp))
  | int j=>obtain⟨t',rfl⟩:=ry;exact ne_int (jX I q (congrArg not aA))
  | str j=>obtain⟨t',rfl⟩:=ry;exact PySem.EqMixed.ne_int_str (jX I q (by simp))
  | _=>exact absurd (show false=true from d) jt
 | str i =>
  obtain⟨t,rfl⟩:=rx;cases y with
  | non=>cases ry;exact PySem.EqNone.ne_str_none (jX I q (by simp))
  | bl j=>cases ry;exact PySem.EqMixed.ne_str_bool (jX I q (by simp))
  | int j=>obtain⟨t',rfl⟩:=ry;exact PySem.EqMixed.ne_str_int (jX I q (by simp))
  | str j=>obtain⟨t',rfl⟩:=ry;exact ne_str (jX I q (congrArg not AS))
  | _=>exact absurd (show false=true from d) jt
 | byt i =>
  obtain⟨t,rfl⟩:=rx;cases y with
  | byt j=>obtain⟨t',rfl⟩:=ry;exact PySem.W.ne_bytes (jX I q (congrArg not Wg))
  | _=>exact absurd (show false=true from d) jt
 | _=>cases y<;>exact absurd (show false=true from d) jt
theorem FC:OpR X (jv .Lt) (rI0 λi j=>.bl (decide (i < j))):=wz λ_ _ _ _ _ _ _ q=>lt_int q
theorem cf:OpR X (jv .Gt) (rI0 λi j=>.bl (decide (j < i))):=wz λ_ _ _ _ _ _ _ q=>gt_int q
theorem gO:OpR X (jv .Lt) (λx y H Q=>∃ i j,x=.str i/\y=.str j/\Q (.bl (decide (i.cps.toList < j.cps.toList))) H):=by
 intro d s σ H x y v u Q I rx ry h;obtain⟨i,j,rfl,rfl,q⟩:=h;obtain⟨t,rfl⟩:=rx;obtain⟨t',rfl⟩:=ry;exact lt_str (jX I q rfl)
theorem eO:OpR X (jv .In) (λx y H Q=>∃ i j,x=.str i/\y=.str j/\Q (.bl (!(xb j i 0 j.length 1).isEmpty)) H):=by
 intro d s σ H x y v u Q I rx ry h;obtain⟨i,j,rfl,rfl,q⟩:=h;obtain⟨t,rfl⟩:=rx;obtain⟨t',rfl⟩:=ry;exact in_str (jX I q rfl)
theorem Er:OpR X (jv .NotIn) (λx y H Q=>∃ i j,x=.str i/\y=.str j/\Q (.bl (!(!(xb j i 0 j.length 1).isEmpty))) H):=by
 intro d s σ H x y v u Q I rx ry h;obtain⟨i,j,rfl,rfl,q⟩:=h;obtain⟨t,rfl⟩:=rx;obtain⟨t',rfl⟩:=ry;exact notIn_str (jX I q rfl)
theorem OpR.or (h:OpR X f r) (h':OpR X f e):OpR X f (λx y H Q=>r x y H Q\/e x y H Q):=by
 intro d s σ H x y v u Q I rx ry q;rcases q with q | q
 ·exact h d s σ H x y v u Q I rx ry q
 ·exact h' d s σ H x y v u Q I rx ry q
theorem qt (b:zQ) {d:CmpOp} (h:d≠.In:=by decide) (e:d≠.NotIn:=by decide):Q1 d b=false:=by
 have f:(d == FV)=false:=by cases d<;>first | rfl | exact absurd rfl h
 have g:(d == G5)=false:=by cases d<;>first | rfl | exact absurd rfl e
 cases b<;>simp[Q1,f,g]
theorem dI (f:OpR X (jv e) r) (ha:PE X a ta) (g:PE X b tb) (hm:Q1 e b=false):PE X (.Compare a [e] [b] pos) (tOp r ta tb):=by
 intro d s σ H Q I h;exact wpAny_Compare1 (V5 ha g I h λv u i x y j l rx ry q=>f d i σ j x y v u Q l rx ry q) hm
def Ek (t:TE):TT:=λσ H Q=>t σ H λx d=>∃ k,x=.bl k/\Q k d
theorem Co (g:OpR X (jv f) r) (ha:PE X a ta) (i:PE X b tb) (hm:Q1 f b=false):PT X (.Compare a [f] [b] pos) (Ek (tOp r ta tb)):=by
 intro d s σ H Q I h;refine Ei (thn (ha d s σ H _ I h) λv s1 ⟨x,j,l,m,n⟩=>thn (i d s1 σ j _ l n) λu o ⟨y,p,q,t,w⟩ =>
  thn (g d o σ p x y v u _ q m t w) λc G ⟨z,A,B,C,k,e,E⟩=>?_) hm
 subst e;cases C;exact X6 ⟨A,B,E⟩
def WD (K:PySem.W.Frag) (x:V) (H:Hp) (k:Bool):Prop :=
 match x with
 | .non=>k=false
 | .bl b=>k=b
 | .int i=>k=(i != 0)
 | .str y=>y.length <= zc/\k=((y.length:Int) != 0)
 | .byt y=>y.size <= zc/\k=((y.size:Int) != 0)
 | .ref p=>(∃ xs,SqL K H p xs/\k = !xs.isEmpty)\/(∃ xs,SqT K H p xs/\k = !xs.isEmpty)\/∃ kvs,H p=some (.dK kvs)/\k = !kvs.isEmpty
 | _=>False
theorem G7 {d:Type}{kvs:List (d×V)}{e:List (d×zB)} (r:KV kvs e):(!e.isEmpty) = !kvs.isEmpty:=by
 cases r<;>rfl
theorem aT {its:List zB} (r:za xs its):(!its.toArray.isEmpty) = !xs.isEmpty:=by
 cases r<;>simp
theorem Jc:(zc:Nat) < 2 ^ 63:=by rw[ZG];decide
theorem EH:br X (λx H Q=>∃ k,WD X.K x H k/\Q k H):=by
 intro n s σ H x v Q I rx h;obtain⟨k,e,q⟩:=h;have z:=Jc;have A:zc=16777216:=ZG;cases x with
 | non =>
  cases rx;have d:k=false:=e;subst d;exact truthy_none ⟨H,I,q⟩
 | bl b =>
  cases rx;have d:k=b:=e;subst d;exact X6 ⟨H,I,q⟩
 | int i =>
  obtain⟨t,rfl⟩:=rx;have d:k=(i != 0):=e;subst d;exact PySem.P.truthy_int ⟨H,I,q⟩
 | str y =>
  obtain⟨t,rfl⟩:=rx;obtain⟨o,d⟩:y.length <= zc/\k=((y.length:Int) != 0):=e;subst d;exact PySem.P.truthy_str (by lia) ⟨H,I.tok _,q⟩
 | byt y =>
  obtain⟨t,rfl⟩:=rx;obtain⟨o,d⟩:y.size <= zc/\k=((y.size:Int) != 0):=e;subst d;exact PySem.W.truthy_bytes (by lia) ⟨H,I.tok _,q⟩
 | ref p =>
  cases rx;have d:(∃ xs,SqL X.K H p xs/\k = !xs.isEmpty)\/(∃ xs,SqT X.K H p xs/\k = !xs.isEmpty)\/∃ kvs,H p=some (.dK kvs)/\k = !kvs.isEmpty:=e;rcases d with ⟨xs,g,d⟩ | ⟨xs,g,d⟩ | ⟨kvs,g,d⟩
  ·subst d;obtain⟨its,r,l,hz⟩:=I.list g;have f:=r.length;exact wpAny_truthy_list l.isList (by simp only[jw];lia) ⟨H,I.tok _,by rw[aT r];exact q⟩
  ·subst d;obtain⟨its,r,l,hz⟩:=I.tuple g;have f:=r.length;exact truthy_tuple l (by simp only[jw];lia) ⟨H,I.tok _,by rw[aT r];exact q⟩
  ·subst d;obtain⟨hz,u,j,r,m⟩:kvs.length <= zc/\(p == y7)=false/\∃ j,KV kvs j/\s.heap.DictOf (jJ X.prog X.w) p j:=I.hok p _ g;have f:kvs.length=j.length:=Paired.length r;exact wpAny_truthy_dict u m (by lia) ⟨H,I.tok _,by rw[G7 r];exact q⟩
 | _=>exact (show False from e).elim
theorem Bl (ha:PE X a ta) (g:∀ d,isTrue a X.env d=(do let v <- d;standAt a.pos;holding [v] (truthy v))) :
  PT X a (λσ H Q=>ta σ H λx f=>∃ k,WD X.K x f k/\Q k f):=by
 intro e s σ H Q I h;exact isTrue_plain (thn (ha e s σ H _ I h) λv s1 ⟨x,i,j,l,m⟩=>EH e s1 σ i x v Q j l m) (g _)
theorem C1:OpR X (yD .Add) (λx y H Q=>∃ i j,x=.str i/\y=.str j/\i.length+j.length <= zc/\Q (.str (i++j)) H):=by
 intro e s σ H x y v u Q I rx ry h;obtain⟨i,j,rfl,rfl,hz,q⟩:=h;obtain⟨t,rfl⟩:=rx;obtain⟨t',rfl⟩:=ry;exact ye (n:=1) I.tk (add_str (λt' tk d=>⟨.str (i++j),H,I.tok _ d,⟨_,rfl⟩,q⟩) hz)
theorem Ef:OpR X (Yf .Add) (λx y H Q=>∃ i j,x=.str i/\y=.str j/\i.length+j.length <= zc/\Q (.str (i++j)) H):=by
 intro e s σ H x y v u Q I rx ry h;obtain⟨i,j,rfl,rfl,hz,q⟩:=h;obtain⟨t,rfl⟩:=rx;obtain⟨t',rfl⟩:=ry;exact ye (n:=1) I.tk (iadd_str (λt' tk d=>⟨.str (i++j),H,I.tok _ d,⟨_,rfl⟩,q⟩) hz)
theorem y6 {x:V} (r:za [x] us):∃ u,us=[u]/\zX x u:=by
 cases r with
 | cons d e=>cases e;exact⟨_,rfl,d⟩
theorem WQ {x y:V} (r:za [x,y] us):∃ u d,us=[u,d]/\zX x u/\zX y d:=by
 cases r with
 | cons e f =>
  cases f with
  | cons g h=>cases h;exact⟨_,_,rfl,e,g⟩
theorem wy (g:X.calm=true):qX X (.builtin "max") (λxs H Q=>∃ i j,xs=[.int i,.int j]/\Q (.int (if j > i then j else i)) H):=by
 intro f s σ H xs us Q I r h;obtain⟨i,j,rfl,q⟩:=h;obtain⟨u,l,rfl,⟨t,rfl⟩,⟨t',rfl⟩⟩:=WQ r;refine ye (n:=1) I.tk (max_two_ints (I.ok.hd g) λh' tk k e=>⟨_,H,I.kept k e,?_,q⟩);by_cases d:j > i
 ·rw[if_pos d,if_pos d];exact⟨_,rfl⟩
 ·rw[if_neg d,if_neg d];exact⟨_,rfl⟩
theorem Ce:qX X (.type "int") (λxs H Q=>(∃ i,xs=[.int i]/\Q (.int i) H)\/∃ k,xs=[.bl k]/\Q (.int (if k then 1 else 0)) H):=by
 intro d s σ H xs us Q I r h;rcases h with ⟨i,rfl,q⟩ | ⟨k,rfl,q⟩
 ·obtain⟨u,rfl,t,rfl⟩:=y6 r;exact call_int_int ⟨.int i,H,I,⟨_,rfl⟩,q⟩
 ·obtain⟨u,rfl,e⟩:=y6 r;cases e;exact call_int_bool ⟨.int (if k then 1 else 0),H,I.tok _,⟨_,rfl⟩,q⟩
theorem fI:qX X (.type "str") (λxs H Q=>∃ i,xs=[.int i]/\i.natAbs.log2 < 1920/\Q (.str (toString i)) H):=by
 intro d s σ H xs us Q I r h;obtain⟨i,rfl,hz,q⟩:=h;obtain⟨u,rfl,t,rfl⟩:=y6 r;exact PySem.P.str_of_int hz ⟨.str _,H,I.tok _,⟨_,rfl⟩,q⟩
end
end L2
namespace L2
open PySem PySem.Spec PyProof.Rows
structure ue (h:zT) (x dx C:zC) (mA:Str->Option zB):Prop where
 obj:h.get? x=some (PySem.W.instObj C dx)
 ns:h.Ns1 dx mA
 ne:dx≠x
theorem F9 {h:zT}{d:zC}{f:Str->Option zB} (n:h.Ns1 d f):∃ g,h.get? d=some g/\∀ name,PySem.W.lookIn name g=some (f name):=by
 obtain⟨o,es,ep,i,hd,j,_,hm⟩:=n;refine⟨o,i,λname=>?_⟩;have e:=hm name;unfold nsFind findBy at e;rw[<- Array.find?_toList] at e;unfold PySem.W.lookIn;rw[hd];dsimp only;split
 ·rename_i y q;rw[q] at e;exact congrArg some e
 ·rename_i q;rw[q] at e;have a:es.toList.any (·.refKey)=false:=by
   rw[cE];intro y l;obtain⟨z,t,c⟩:=j y (Array.mem_toList_iff.mp l);simp[DictEntry.refKey,c]
  have m:¬ es.toList.any (·.refKey)=true:=by rw[a];exact jt
  rw[if_neg m];exact congrArg some e
theorem ue.look (I:ue h x d C e):∃ c,PySem.W.InstAt h x (PySem.W.instObj C d) C (some c)/\∀ name,PySem.W.lookIn name c=some (e name) :=
 let ⟨c,f,g⟩:=F9 I.ns
 ⟨c,⟨I.obj,rfl,rfl,f⟩,g⟩
theorem y8.some_of {v:V} (r:y8 (some v) o):∃ u,o=some u/\zX v u:=by
 cases o with
 | none=>exact (show False from r).elim
 | some u=>exact⟨u,rfl,r⟩
section
variable {P:zi}{w:zy}{H H':Hp}{h h':zT}{a C dx:zC}{fs fs':List (Str×V)}
theorem B4 (hok:HOk P w H h) (e:H a=some (.ins C dx fs)):∃ c,ue h a dx C c/\(∀ f,y8 (fs.lookup f) (c f))/\PySem.Within c (fs.map (·.1))/\fs.length <= 1000/\H dx=some (.own a):=by
 obtain⟨d,z,ne,ob,c,n,r,q⟩:=(show jQ P w H h a (.ins C dx fs) from hok a _ e)
 exact⟨c,⟨ob,n,ne⟩,r,q,z,d⟩
end
structure Cls (K:PySem.W.Frag) (C:zC):Prop where
 pg:PySem.W.plainGet K C Str.empty=true
 hd:PySem.W.hasDictIn K C=true
 po:PySem.W.plainOver K C=true
 sa:PySem.W.findIn K (.ref C) "__setattr__" = some (some (.builtin "object.__setattr__"))
theorem Cls.get {K:PySem.W.Frag} (c:Cls K C) (f:Str):PySem.W.plainGet K C f=true:=c.pg
def Cs (K:PySem.W.Frag) (C:zC) (f:Str):Prop:=PySem.W.findIn K (.ref C) f=some none
structure Con (K:PySem.W.Frag) (C:zC) (f:Str) (v:V) (u:zB):Prop where
 at_:PySem.W.findIn K (.ref C) f=some (some u)
 rel:zX v u
 get:PySem.W.specialIn K u "__get__" = some none
 cp:PySem.W.copiedNames.contains f=false
structure EF (K:PySem.W.Frag) (C:zC) (m:Str) (f:zC):Prop where
 at_:PySem.W.findIn K (.ref C) m=some (some (.ref f))
 fn:PySem.W.isFn K (.ref f)=true
 kp:PySem.W.keepIn K (.ref f)=true
def Ck (X:Cx) (d:Operator) (e:V->V->Hp->VK->Prop):Prop :=
 ∀ (c:List (zC×Obj)) (s:zG) (σ:St) (H:Hp) (x y:V) (u v:zB) (Q:VK),Inv X c σ H s->zX x u->zX y v->e x y H Q->wpAny (zI X.prog X.w) X.A (Yf d u v) (EP X c σ Q) X.xe s
section
variable {X:Cx}{pins:List (zC×Obj)}{σ:St}{H:Hp}{s:zG}{A:jh}{E:zB->zG->Prop}{Q:zB->zG->Prop}{c:zB}{b:Bool}
inductive ZA (K:PySem.W.Frag) (H:Hp):V->zB->Prop where
 | non:ZA K H .non (.type "NoneType")
 | bl (x:Bool):ZA K H (.bl x) (.type "bool")
 | int (i:Int):ZA K H (.int i) (.type "int")
 | str (x:Str):ZA K H (.str x) (.type "str")
 | flt (x:UInt64):ZA K H (.flt x) (.type "float")
 | lst {a:zC}{xs:List V} (e:H a=some (.lst xs)):ZA K H (.ref a) (.type "list")
 | frz {a:zC}{o:Obj}{xs:List V} (e:H a=some (.frz o (.lst xs))):ZA K H (.ref a) (.type "list")
 | tup {a:zC}{xs:List V} (e:H a=some (.tup xs)):ZA K H (.ref a) (.type "tuple")
 | dK {a:zC}{kvs:List (Key×V)} (e:H a=some (.dK kvs)):ZA K H (.ref a) (.type "dict")
 | dT {a:zC}{kvs:List (List Key×V)} (e:H a=some (.dT kvs)):ZA K H (.ref a) (.type "dict")
 | ins {a C dx:zC}{fs:List (Str×V)} (e:H a=some (.ins C dx fs)) (cl:Cls K C) (ha:PySem.W.findIn K (.ref C) "__class__" = some (some (.builtin "object.__class__")))
   (hn:PySem.W.specialIn K (.builtin "object.__class__") "__get__" = some (some (.builtin "getset_descriptor.__get__"))) (htk:PySem.W.takesIn K (.builtin "object.__class__")=some true)
   (hm:PySem.W.mroIn K C (.type "object")=some true):ZA K H (.ref a) (.ref C)
theorem G3 (I:Inv X pins σ H s) (rx:zX x u) (ty:ZA X.K H x t) (e:PySem.W.kitOne X.K t c=some b) (h:∀ tk,Q (.bool b) { s with toks:=tk }) :
  wpAny (zI X.prog X.w) A (call (.builtin "isinstance") [u,c]) Q E s:=by
 cases ty with
 | non=>cases (show u=ZH from rx);exact PySem.W.kia_one PySem.W.kitx_none I.kIn Zf e (λz=>nomatch z) h
 | bl y=>cases (show u=AF y from rx);exact PySem.W.kia_one PySem.W.kitx_bool I.kIn Zf e (λz=>nomatch z) h
 | int i=>obtain⟨t,q⟩:=(show ∃ t,u=uR i t from rx);cases q;exact PySem.W.kia_one PySem.W.kitx_int I.kIn Zf e (λz=>nomatch z) h
 | str y=>obtain⟨t,q⟩:=(show ∃ t,u=k8 y t from rx);cases q;exact PySem.W.kia_one PySem.W.kitx_str I.kIn Zf e (λz=>nomatch z) h
 | flt y=>obtain⟨t,q⟩:=(show ∃ t,u=cB y t from rx);cases q;exact PySem.W.kia_one PySem.W.kitx_float I.kIn Zf e (λz=>nomatch z) h
 | @lst a xs d =>
  cases (show u=jY a from rx);obtain⟨_,_,n,_,f⟩:=(show jQ X.prog X.w H s.heap a (.lst xs) from I.hok a _ d)
  exact PySem.W.kia_one PySem.W.kitx_list I.kIn ⟨_,f,rfl⟩ e (λz=>nomatch z) h
 | @frz a ob xs d =>
  cases (show u=jY a from rx);obtain⟨_,_,_,n,_,f⟩:=(show jQ X.prog X.w H s.heap a (.frz ob (.lst xs)) from I.hok a _ d)
  exact PySem.W.kia_one PySem.W.kitx_list I.kIn ⟨_,f,rfl⟩ e (λz=>nomatch z) h
 | @tup a xs d =>
  cases (show u=jY a from rx);obtain⟨_,_,_,p⟩:=(show jQ X.prog X.w H s.heap a (.tup xs) from I.hok a _ d)
  obtain⟨o,f,g,_⟩:=p;exact PySem.W.kia_one PySem.W.kitx_tuple I.kIn ⟨o,f,g⟩ e (λz=>nomatch z) h
 | @dK a kvs d =>
  cases (show u=jY a from rx);obtain⟨_,_,m,_,p⟩:=(show jQ X.prog X.w H s.heap a (.dK kvs) from I.hok a _ d)
  obtain⟨o,es,ep,f,g,_⟩:=p;exact PySem.W.kia_one PySem.W.kitx_dict I.kIn ⟨o,f,g.1⟩ e (λz=>nomatch z) h
 | @dT a kvs d =>
  cases (show u=jY a from rx);obtain⟨_,_,xs,_,o,es,ep,f,g,_⟩:=(show jQ X.prog X.w H s.heap a (.dT kvs) from I.hok a _ d)
  exact PySem.W.kia_one PySem.W.kitx_dict I.kIn ⟨o,f,g.1⟩ e (λz=>nomatch z) h
 | @ins a C r fs d cl ha l j hm =>
  cases (show u=jY a from rx);obtain⟨v,O,_⟩:=B4 I.hok d;obtain⟨B,J,_⟩:=O.look;exact PySem.W.kia_one (PySem.W.kitx_own (cl.get _) cl.hd ha l j hm) I.kIn J e (λz=>nomatch z) h
end
end L2
namespace L2
open PySem PySem.Spec PyProof.Rows
structure zx (k:Nat) (A:jh):Prop where
 hd:A.handled=none
 dp:A.depth+3 * k+5 < F5
 un:A.units+16 * k+200 < Za
theorem zx.mono {j k:Nat} (r:zx k A) (h:j <= k):zx j A:=⟨r.hd,by have:=r.dp;lia,by have:=r.un;lia⟩
theorem zx.deeper {k:Nat} (r:zx (k+1) A) (env:Env):zx k (A.deeper env) :=
 ⟨r.hd,by have:=r.dp;show A.depth+1+3 * k+5 < _;lia,by have:=r.un;show A.units+3+16 * k+200 < _;lia⟩
theorem zx.depth {k:Nat} (r:zx k A):A.depth < F5:=by have:=r.dp;lia
theorem zx.units {k:Nat} (r:zx k A):A.units+64 < Za:=by have:=r.un;lia
theorem zx.units0 {k:Nat} (r:zx k A):A.units < Za:=by have:=r.un;lia
def WH:TA:=λ_ H Q=>Q [] H
def Ui (c:TE) (d:TA):TA:=λσ H Q=>c σ H λx e=>d σ e λxs f=>Q (x::xs) f
section
variable {X:Cx}{e:zQ}{es:List zQ}{te:TE}{t:TA}{pos:Pos}
theorem UP:PA X [] WH:=λ_ _ _ _ H Q I h=>Aa ⟨[],H,I,.nil,h⟩
theorem wC (ha:PE X e te) (d:PA X es t) (f:jd (e::es) X.env=(false,zu e X.env)::jd es X.env:=by rfl):PA X (e::es) (Ui te t):=by
 intro pos c s σ H Q I h;rw[f];show wpAny _ _ (spliced ((false,zu e X.env)::yO pos (jd es X.env))) _ _ s;refine Ur (thn (ha c s σ H _ I h) λu s1 ⟨x,g,i,j,l⟩=>?_);exact thn (d pos c s1 σ g _ i l) λus q ⟨xs,m,n,o,p⟩=>⟨x::xs,m,n,.cons j o,p⟩
def Ff (t:TA):TE:=λσ H Q=>t σ H λxs c=>xs.length <= zc/\∀ p,c p=none->Q (.ref p) (upd c p (.tup xs))
def E4 (t:TA):TE:=λσ H Q=>t σ H λxs c=>xs.length <= zc/\∀ p,c p=none->Q (.ref p) (upd c p (.lst xs))
theorem DI {g} (h:PA X es t):PE X (.Tuple es g pos) (Ff t):=by
 intro c s σ H Q I i;refine wpAny_Tuple_spliced (thn (h pos c s σ H _ I i) λus s1 ⟨xs,d,f,r,z,q⟩=>⟨by rw[<- r.length];exact z,?_⟩);have j:d s1.heap.objs.size=none:=f.hok.fresh (zd _);refine⟨.ref s1.heap.objs.size,upd d s1.heap.objs.size (.tup xs),f.laid (t':=s1.toks) (λb u e=>jK _ e) (zd _) ?_,rfl,q _ j⟩;exact⟨z,us,r,⟨_,qU _ rfl,rfl,_,rfl⟩⟩
theorem bz (h:PA X es t):PE X (.List es pos) (E4 t):=by
 intro c s σ H Q I g;refine wpAny_List_spliced (thn (h pos c s σ H _ I g) λus s1 ⟨xs,d,f,r,z,q⟩=>⟨by rw[<- r.length];exact z,?_⟩);have i:d s1.heap.objs.size=none:=f.hok.fresh (zd _);refine⟨.ref s1.heap.objs.size,upd d s1.heap.objs.size (.lst xs),f.laid (t':=s1.toks) (λb u e=>jK _ e) (zd _) ?_,rfl,q _ i⟩;exact⟨z,us,0,r,qU _ rfl⟩
end
abbrev Sp:=List V->Hp->VK->XK->Prop
abbrev CXT:=List Env->Hp->zG->XK->zB->zG->Prop
structure K1 (P:zi) (w:zy) (K:PySem.W.Frag) (mg:Str->Option zB) (base:zT) (A:jh) (outer:List Env) (s:zG) (H:Hp):Prop where
 frames:A.frames=some outer
 mod:Mod K mg base
 bs:∀ b o,base.get? b=some o->s.heap.get? b=some o/\H b=none
 bsz:base.objs.size <= s.heap.objs.size
 funs:s.heap.FunFrames base outer
 frf:∀ b∈frs outer,H b=none
 hok:HOk P w H s.heap
 bare:Q4 s.gens
def CE (outer:List Env) (P:zi) (w:zy) (H:Hp) (s:zG) (Q:VK) (u:zB) (c:zG):Prop :=
 ∃ v d,c.os=s.os/\Q4 c.gens/\Un (frs outer) [] H d s.heap c.heap/\HOk P w d c.heap/\zX v u/\Q v d
def CR (CX:CXT) (outer:List Env) (P:zi) (w:zy) (H:Hp) (s:zG) (Q:VK) (E:XK) (r:xU) (c:zG):Prop :=
 match r with
 | .ok (.ret u)=>CE outer P w H s Q u c
 | .ok _=>False
 | .error e=>CX outer H s E e c
structure jc (P:zi) (w:zy) (K:PySem.W.Frag) (mg:Str->Option zB) (base:zT) (CX:CXT) (k:Nat) (f:zC) (fd:Qw) (ps:List Str) (sp:Sp):Prop where
 len:∀ vs H Q E,sp vs H Q E->vs.length=ps.length
 run:∀ (A:jh) (outer:List Env) (s:zG) (H:Hp) (args:Args) (us:List zB) (vs:List V) (Q:VK) (E:XK),zx k A->K1 P w K mg base A outer s H->(0 < s.toks\/∃ p∈ps,fd.scope.names.lookup p=some .local)->ko s fd args (ps.zip us)->za vs us->sp vs H Q E ->
  codeAny (zI P w) A (.call (.ref f) args) (CR CX outer P w H s Q E) s
section
variable {X:Cx}{pins:List (zC×Obj)}{σ:St}{H:Hp}{s s':zG}
theorem Inv.env0 (I:Inv X pins σ H s):K1 X.prog X.w X.K X.mg X.base X.A X.stack s H :=
 ⟨I.ok.frames,I.ok.mod,I.bs,qD I.ok.bsz I.sz,I.stack,I.stkFree,I.hok,I.bare⟩
theorem Inv.after (I:Inv X pins σ H s) (h:CE X.stack X.prog X.w H s Q u s') (e:0 < s'.toks):EP X pins σ Q u s':=by
 obtain⟨v,f,os,bare,un,hok,r,q⟩:=h;obtain⟨i,g,d,t,c⟩:=s';obtain rfl:c=s.os:=os;exact⟨v,f,I.call (h':=i) (g':=g) (d':=d) (t':=t) (ch:=[]) un hok bare (λb z=>absurd z (by simp)) e,r,q⟩
end
def wK (sp:Sp) (c:List V) (E:XK) (t:TA):TE:=λσ H Q=>t σ H λd e=>sp (d++c) e Q E
def QJ (K:PySem.W.Frag) (fd:Qw) (ps:List Str) (c:List zB):Prop :=
 ∀ (s:zG) (us:List zB),K.In s.heap->(us++c).length=ps.length->ko s fd ⟨us,[]⟩ (ps.zip (us++c))
theorem QJ.all {K:PySem.W.Frag}{ps:List Str} (h:∀ us:List zB,us.length=ps.length->Ja fd ⟨us,[]⟩=pure (ps.zip us)):QJ K fd ps []:=λs us _ c=>by
 rw[ZS] at c ⊢;exact .of_eq (h us c)
def X0 (CX:CXT) (X:Cx) (E:XK):Prop:=∀ (c:List (zC×Obj)) (σ:St) (H:Hp) (s:zG) (e:zB) (d:zG),Inv X c σ H s->CX X.stack H s E e d->X.xe e d
section
variable {X:Cx}{CX:CXT}{k:Nat}{f C:zC}{fd:Qw}{ps:List Str}{sp:Sp}{dvs:List V}{ds:List zB}{E:XK}{x m:Str}{p pos apos:Pos}{e o:zQ}{es:List zQ}{ta:TE}{t:TA}
theorem FJ {Q:VK} (F:jc X.prog X.w X.K X.mg X.base CX k f fd ps sp) (l:zx k X.A) (q:QJ X.K fd ps ds) (hd:za dvs ds) (v:X0 CX X E)
  (I:Inv X c σ H s) (r:za g us) (h:sp (g++dvs) H Q E):wpAny (zI X.prog X.w) X.A (call (.ref f) us) (EP X c σ Q) X.xe s:=by
 have j:za (g++dvs) (us++ds):=r.append hd;have y:(us++ds).length=ps.length:=by rw[<- j.length];exact F.len _ _ _ _ h
 refine Wr (vJ (codeAny_toks_of (n:=1) I.tk (F.run X.A X.stack s H ⟨us,[]⟩ (us++ds) (g++dvs) Q E l I.env0 (.inl I.tk) (q s us I.kIn y) j h)) λr z ⟨i,d⟩=>?_);cases r with
 | error e=>exact v c σ H s e z I d
 | ok fl =>
  cases fl with
  | ret u=>exact I.after d i
  | next=>exact jH d
  | brk=>exact jH d
  | cont=>exact jH d
theorem G4 (F:jc X.prog X.w X.K X.mg X.base CX k f fd ps sp) (j:zx k X.A) (l:Gl X x) (hm:X.mg x=some (.ref f)) (n:PySem.W.keepIn X.K (.ref f)=true) (u:QJ X.K fd ps ds) (hd:za dvs ds) (v:X0 CX X E)
  (ha:PA X (e::es) t) (d:(x == ("__debug__" : Str))=false:=by decide) (y:jd (e::es) X.env=(false,zu e X.env)::jd es X.env:=by rfl) (g:(yO pos (jd es X.env)).any (·.1)=false:=by rfl) :
  PE X (.Call (.Name x p) (e::es) [] pos) (wK sp dvs E t):=by
 intro c s σ H Q I h;refine x9 (HN I l hm ?_ d);refine PySem.W.callWith_K (h₀:=X.base) I.ok.mod.kin n (thn (ha pos c s σ H _ I h) λus s1 ⟨z,B,i,r,q⟩=>⟨i.kIn,?_⟩) y g;exact FJ F j u hd v i r q
structure Mk (K:PySem.W.Frag) (C f:zC):Prop where
 makes:PySem.W.makesIn K C=true
 init:PySem.W.findIn K (.ref C) "__init__" = some (some (.ref f))
 fn:PySem.W.isFn K (.ref f)=true
 kp:PySem.W.keepIn K (.ref C)=true
end
def PK (X:Cx) (d:List Qv) (t:TA):Prop :=
 ∀ (pos:Pos) (c:List (zC×Obj)) (s:zG) (σ:St) (H:Hp) (Q:List V->Hp->Prop),Inv X c σ H s->t σ H Q->wpAny (zI X.prog X.w) X.A (evalAll ((KQ pos (KS d X.env)).map (·.2))) (AP X c σ Q) X.xe s
section
variable {X:Cx}{CX:CXT}{k:Nat}{f C:zC}{fd:Qw}{ps ks:List Str}{sp:Sp}{E:XK}{x m:Str}{p pos apos kpos:Pos}{e o:zQ}{es:List zQ}{kws:List Qv}{te ta:TE}{t tk:TA}{nm:Option Str}
theorem dc:PK X [] WH:=λ_ _ _ _ H Q I h=>wpAny_evalAll_nil ⟨[],H,I,.nil,h⟩
theorem b0 (ha:PE X e te) (d:PK X kws t):PK X (⟨nm,e,kpos⟩::kws) (Ui te t):=by
 intro pos c s σ H Q I h;show wpAny _ _ (evalAll ((do let v <- zu e X.env;standAt pos;pure v)::(KQ pos (KS kws X.env)).map (·.2))) _ _ s;refine wpAny_evalAll_cons (wpAny_bind (thn (ha c s σ H _ I h) λu s1 ⟨x,g,i,j,l⟩=>wpAny_bind (Vt (wpAny_pure ?_))));exact thn (d pos c s1 σ g _ i l) λus y ⟨xs,n,q,r,w⟩=>⟨x::xs,n,q,.cons j r,w⟩
structure iB (K:PySem.W.Frag) (fd:Qw) (ps ks:List Str) (g:List zB->List zB->List zB) (gV:List V->List V->List V):Prop where
 to:∀ (s:zG) (us ws:List zB),K.In s.heap->(g us ws).length=ps.length->ko s fd ⟨us,ks.zip ws⟩ (ps.zip (g us ws))
 rel:∀ {vs:List V}{us:List zB}{zs:List V}{ws:List zB},za vs us->za zs ws->za (gV vs zs) (g us ws)
variable {g:List zB->List zB->List zB}{gV:List V->List V->List V}
end
structure qO (N P:List Str) (sc:ZZ):Prop where
 kind:sc.kind=.function
 co:sc.isCoroutine=false
 gen:sc.isGenerator=false
 nd:N.Nodup
 pre:N.take P.length=P
 par:∀ x∈P,sc.names.lookup x=some .local\/sc.names.lookup x=some .cell
 nofree:∀ y∈sc.names,y.2≠.free
theorem UN {kindOf:Str->Option xT}{x:Str}:∀ {binds:List (Str×zB)}{m:Str->Option zB},(∀ v,(x,v)∉binds)->bindL kindOf binds m x=m x
 | [],_,_=>rfl
 | (n,v)::r,m,h=>by
  unfold bindL;rw[UN λw hw=>h w (jV _ hw)];split
  ·have:x≠n:=by rintro rfl;exact h v jI
   simp[this]
  ·rfl
theorem wF {kindOf:Str->Option xT}{x:Str}:∀ {binds:List (Str×zB)}{m:Str->Option zB},(∀ v,(x,v)∉binds)->bindC kindOf binds m x=m x
 | [],_,_=>rfl
 | (n,v)::r,m,h=>by
  unfold bindC;rw[wF λw hw=>h w (jV _ hw)];split
  ·rfl
  ·have:x≠n:=by rintro rfl;exact h v jI
   simp[this]
theorem au {kindOf:Str->Option xT}{x:Str}{v:zB}:∀ {P:List Str}{c:List zB}{i:Nat}{m:Str->Option zB},P.Nodup->P[i]? = some x->c[i]? = some v->kindOf x=some .local ->
  bindL kindOf (P.zip c) m x=some v
 | [],_,_,_,_,h,_,_=>by simp at h
 | _::_,[],_,_,_,_,h,_=>by simp at h
 | p::P,w::c,0,m,nd,d,e,f=>by
  simp at d e;subst d;subst e;show bindL kindOf ((p,w)::P.zip c) m p=_;unfold bindL;rw[UN λv g=>(List.nodup_cons.mp nd).1 (Ay g).1,if_pos f];simp
 | p::P,w::c,i+1,m,nd,d,e,f=>by
  show bindL kindOf ((p,w)::P.zip c) m x=_;unfold bindL;exact au (i:=i) (List.nodup_cons.mp nd).2 (by simpa using d) (by simpa using e) f
theorem AW {kindOf:Str->Option xT}{x:Str}{v:zB}:∀ {P:List Str}{c:List zB}{i:Nat}{m:Str->Option zB},P.Nodup->P[i]? = some x->c[i]? = some v->kindOf x≠some .local ->
  bindC kindOf (P.zip c) m x=some v
 | [],_,_,_,_,h,_,_=>by simp at h
 | _::_,[],_,_,_,_,h,_=>by simp at h
 | p::P,w::c,0,m,nd,d,e,f=>by
  simp at d e;subst d;subst e;show bindC kindOf ((p,w)::P.zip c) m p=_;unfold bindC;rw[wF λv g=>(List.nodup_cons.mp nd).1 (Ay g).1,if_neg f];simp
 | p::P,w::c,i+1,m,nd,d,e,f=>by
  show bindC kindOf ((p,w)::P.zip c) m x=_;unfold bindC;exact AW (i:=i) (List.nodup_cons.mp nd).2 (by simpa using d) (by simpa using e) f
noncomputable def start (N:List Str) (c:List V):St:=c.map some++zq (N.length - c.length) none
noncomputable def Ze (CX:CXT) (P:zi) (w:zy) (K:PySem.W.Frag) (mg:Str->Option zB) (base:zT) (N:List Str) (qual:Str) (scope:ZZ) (f:zC) (d:zB) (A:jh) (outer:List Env) (s:zG) (H:Hp) (E:XK):Cx where
 prog:=P
 w:=w
 K:=K
 mg:=mg
 base:=base
 A:=A.deeper (ZM qual scope s.heap.objs.size f d)
 N:=N
 s₀:=s
 H₀:=H
 env:=ZM qual scope s.heap.objs.size f d
 outer:=outer
 stack:=ZM qual scope s.heap.objs.size f d::outer
 ex:=[]
 calm:=true
 fn:=λ_=>true
 pn:=[]
 xe:=λe g=>wpAny (zI P w) (A.deeper (ZM qual scope s.heap.objs.size f d)) (leaving (ZM qual scope s.heap.objs.size f d) e) (λ_ c=>CX outer H s E e c) (λh c=>CX outer H s E h c) g
theorem UO {d:ZZ}{x:Str} (h:d.names.lookup x=some .cell):∃ c,(KW n d.names []).lookup x=some c:=by
 have q:=PySem.W.cellsFrom_some d.names n [] (.inl h);exact Option.isSome_iff_exists.mp q
theorem u7 {M:kK}{env:Env} (f:Str×zB->PUnit->Sem (ForInStep PUnit)) (H:∀ n v u,f (n,v) u=(do storeName env n v;pure (.yield ⟨⟩))) (G:env.scope.kind=.function) :
  ∀ (binds:List (Str×zB)) (m q:Str->Option zB) (s:zG) (Q:PUnit->zG->Prop),YX s₀ env.locals m env.cells q s ->
   (∀ x∈binds,env.kindOf x.1=some .local\/(env.kindOf x.1=some .cell/\(env.cells.lookup x.1).isSome=true)) ->
   (∀ t,YX s₀ env.locals (bindL env.kindOf binds m) env.cells (bindC env.kindOf binds q) t->((0 < s.toks\/∃ b∈binds,env.kindOf b.1=some .local)->0 < t.toks)->Q ⟨⟩ t)->wpAny M A (forIn binds ⟨⟩ f) Q E s
 | [],m,q,s,Q,x,_,h=>by
  rw[List.forIn_nil];exact wpAny_pure (h s x λz=>z.elim id λ⟨b,w,_⟩=>absurd w (by simp))
 | (n,v)::r,m,q,s,Q,x,d,h=>by
  rw[List.forIn_cons,H];have N:∀ y∈r,env.kindOf y.1=some .local\/(env.kindOf y.1=some .cell/\(env.cells.lookup y.1).isSome=true):=λy Y=>d y (jV _ Y);rcases d (n,v) jI with l | ⟨l,p⟩
  ·refine wpAny_bind (wpAny_bind (Eg l x.toInCall.ns (λh' I B=>wpAny_pure (u7 f H G r (λy=>if y=n then some v else m y) q _ Q ⟨⟨?_,I,λb o e=>?_,x.toInCall.fresh⟩,λk c p=>?_,x.apart,x.above⟩ N λg i J=>h g ?_ λ_=>J (.inl (yf _)))) (by rw[G];rfl)))
   ·obtain⟨U,tk,rfl⟩:=x.toInCall.same;exact⟨h',_,rfl⟩
   ·exact B.extBut b o (z4 (jR (zm e) x.toInCall.fresh)) (x.toInCall.keep b o e)
   ·exact (x.cell k c p).sameBut B (qd (x.above k c (PySem.mem_of_lookup p)))
   ·unfold bindL bindC;rw[if_pos l,if_pos l];exact i
  ·obtain⟨c,p⟩:=Option.isSome_iff_exists.mp p;have j:¬ env.kindOf n=some .local:=by rw[l];decide
   refine wpAny_bind (wpAny_bind (ye (n:=s.toks) (zd _) (stCC x G l p λt x' L=>wpAny_pure (u7 f H G r m _ t Q x' N λg i J=>h g ?_ λz=>J ?_))))
   ·unfold bindL bindC;rw[if_neg j,if_neg j];exact i
   ·rcases z with z | ⟨b,w,C⟩
    ·exact .inl (jR z L)
    ·rcases List.mem_cons.mp w with rfl | w
     ·exact absurd C j
     ·exact .inr ⟨b,w,C⟩
theorem e8 {M:kK}{s:zG}{scope:ZZ}{binds:List (Str×zB)}{code:zB}{Q:Env->zG->Prop}
  (l:scope.kind=.function)
  (h:∀ x∈binds,scope.names.lookup x.1=some .local\/(scope.names.lookup x.1=some .cell/\((KW (s.heap.objs.size+1) scope.names []).lookup x.1).isSome=true))
  (m:∀ env,env=newEnv scope s.heap.objs.size f (KW (s.heap.objs.size+1) scope.names []) qual g code none d ->
   ∀ i,YX s env.locals (bindL env.kindOf binds λ_=>none) env.cells (bindC env.kindOf binds λ_=>none) i->((0 < s.toks\/∃ b∈binds,scope.names.lookup b.1=some .local)->0 < i.toks)->Q env i) :
  wpAny M A (Wv scope f [] binds qual g code none d) Q E s:=by
 simp only[Wv,gy,jW,if_false];refine wpAny_bind (wpAny_alloc ?_);refine wpAny_bind (wpAny_layCells _ (λname kind cells=>by cases j:kind == XN<;>simp[j]) _ _ _ _ ?_);have ok:=cellsFrom_ok scope.names (s.heap.push { cls:=.type "frame",data:=.dict #[] }) (s.heap.objs.size+1) [] ⟨λ_ _ hm=>(nomatch hm),Yo⟩ (by rw[QT];exact zd _);rw[QT] at ok;rw[show ({ s with heap:=s.heap.push { cls:=.type "frame",data:=.dict #[] } }:zG).heap.objs.size=s.heap.objs.size+1 from QT ..];refine wpAny_bind (u7 (s₀:=s) (env:=newEnv scope s.heap.objs.size f (KW (s.heap.objs.size+1) scope.names []) qual g code none d)
  _ (λ_ _ _=>rfl) l binds (λ_=>none) (λ_=>none) _ _
  ⟨⟨⟨_,_,rfl⟩,(Heap.Ns.new s.heap (.type "frame")).keeps (pushCells_keeps _ _),λb o e=>pushCells_keeps _ _ b o (jK _ e),zd _⟩,
   λn c p=>(ok.empty n c (PySem.mem_of_lookup p)).1,ok.apart,λn c hm=>(ok.empty n c hm).2⟩
  h λi x q=>wpAny_pure (m _ rfl i x q))
theorem EL {P:zi}{K:PySem.W.Frag}{mg:Str->Option zB}{base:zT}{A:jh}{outer:List Env}{j:List V}
  (S:qO N ps scope) (hd:A.handled=none) (g:K1 P w K mg base A outer s H) (Q:j.length=ps.length) (r:za j us)
  (x:YX s s.heap.objs.size (bindL (ZM qual scope s.heap.objs.size f C).kindOf (ps.zip us) λ_=>none) (KW (s.heap.objs.size+1) scope.names []) (bindC (ZM qual scope s.heap.objs.size f C).kindOf (ps.zip us) λ_=>none) s1) (J:0 < s1.toks) :
  Inv (Ze CX P w K mg base N qual scope f C A outer s H E) [] (start N j) H s1:=by
 have L:ps.length <= N.length:=by have:=congrArg xX S.pre;rw[qx] at this;lia
 obtain⟨B,tk,rfl,G⟩:=x.done;have l:∀ b:zC,b∉(Ze CX P w K mg base N qual scope f C A outer s H E).ex:=λb z=>absurd (show b∈([]:List zC) from z) (by simp);refine⟨⟨g.mod,S.kind,rfl,rfl,zd _,λy z c B d=>?_,λy m=>?_,λy c _ h=>?_,λ_=>hd,Around.frames_deeper g.frames,.inr ⟨rfl,rfl⟩,λb z=>absurd z (l b),g.bs,g.bsz,λb _ _=>l b,λb z=>absurd z (l b),g.funs,g.frf⟩,
  rfl,g.bare,Un.kept G,⟨_,x.toInCall.ns,λi y v B d U=>?_⟩,λy c h=>⟨_,x.cell y c h⟩,g.hok.fresh (zd _),λy c h=>?_,λp o=>absurd (show p∈([]:List (zC×Obj)) from o) (by simp),g.hok.kept G,?_,J⟩
 ·exact name_of_addr x.apart (PySem.mem_of_lookup B) (PySem.mem_of_lookup d)
 ·have m:scope.names.lookup y=some .cell\/scope.names.lookup y=some .free:=m;rcases m with m | m
  ·exact UO m
  ·exact absurd rfl (S.nofree _ (PySem.mem_of_lookup m))
 ·exact kL (x.above y c (PySem.mem_of_lookup h))
 ·have hi:i < j.length:=by
   unfold start at d;by_cases hi:i < j.length
   ·exact hi
   ·rw[jP (by simpa using hi)] at d;rw[Ky] at d;split at d<;>cases d
  have ha:j[i]? = some v:=by
   unfold start at d;rw[qF (by simpa using hi),qG] at d;cases e:j[i]? with
   | none=>rw[e] at d;cases d
   | some a=>rw[e] at d;cases d;rfl
  obtain⟨u,I,M⟩:=r.get ha;have o:ps[i]? = some y:=by
   rw[<- S.pre,aq (by lia)];exact B
  have t:ps.Nodup:=by rw[<- S.pre];exact S.nd.sublist (List.take_sublist _ _)
  refine⟨u,M,?_⟩;rcases S.par y (yn o) with k | k
  ·exact .inl ⟨k,au t o I k⟩
  ·obtain⟨c,e⟩:=UO (n:=s.heap.objs.size+1) k;refine .inr ⟨.inl k,c,e,?_⟩;have q:=x.cell y c e;rw[AW t o I (by show scope.names.lookup y≠_;rw[k];decide)] at q;exact q
 ·exact g.hok.fresh (kL (x.above y c (PySem.mem_of_lookup h)))
 ·unfold start;show _=N.length;rw[jy,z9,gD]
  lia
theorem Fs {P:zi}{K:PySem.W.Frag}{mg:Str->Option zB}{base:zT}{k:Nat}{f:zC}{kV pm oc:zB}{od:Option zC}
  {M:Array (Option zB)}{sp:Sp} (lk:K.lookup f=some ⟨oc,od,.func (PySem.W.fnOf name qual d j scope dV kV U pm an c ct),M⟩) (Y:PySem.W.codeIn K c qual=true) (S:qO N ps scope)
  (len:∀ g H Q E,sp g H Q E->g.length=ps.length)
  (m:∀ (A:jh) (outer:List Env) (s:zG) (H:Hp) (g:List V) (Q:VK) (E:XK),zx k (A.deeper (ZM qual scope s.heap.objs.size f c))->sp g H Q E ->
   ∃ t,PSs (Ze CX P w K mg base N qual scope f c A outer s H E) j t/\t { nx:=λ_ l=>Q .non l,rt:=Q } (start N g) H) :
  jc P w K mg base CX (k+1) f (PySem.W.fnOf name qual d j scope dV kV U pm an c ct) ps sp:=by
 refine⟨len,λA outer s H args us g Q E hr C htk hb r G=>?_⟩;have hl:=len _ _ _ _ G;have KX:K.In s.heap:=C.mod.kin.keeps λb o e=>(C.bs b o e).1;have lim:s.heap.NoLimit:=C.mod.nolimit.keeps λb o e=>(C.bs b o e).1;have z:∀ y∈ps.zip us,scope.names.lookup y.1=some .local\/(scope.names.lookup y.1=some .cell/\((KW (s.heap.objs.size+1) scope.names []).lookup y.1).isSome=true):=λ⟨n,v⟩ hy=>by
  rcases S.par n (Ay hy).1 with q | q
  ·exact .inl q
  ·exact .inr ⟨q,PySem.W.cellsFrom_some _ _ _ (.inl q)⟩
 refine codeAny_call_function hr.depth (KX _ _ lk) rfl S.co S.gen rfl (PySem.W.codeRec_of KX Y) (hb _ _ _ _ ?_);refine e8 S.kind z λenv he s1 x L=>?_;subst he;refine⟨lim.keeps x.toInCall.keep,codeAny_func ?_⟩;obtain⟨t,ht,hq⟩:=m A outer s H g Q E (hr.deeper _) G;have I:Inv (Ze CX P w K mg base N qual scope f c A outer s H E) [] (start N g) H s1:=EL S hr.hd C hl r x (L (htk.imp id λ⟨p,hp,hpl⟩=>by
  obtain⟨i,hi,e⟩:=List.mem_iff_getElem.mp hp;have hu:i < us.length:=by rw[<- r.length,hl];exact hi
  exact⟨(p,us[i]),List.mem_iff_getElem.mpr ⟨i,by rw[List.length_zip];lia,by rw[List.getElem_zip,e]⟩,hpl⟩))
 refine wpAny_mono (ht [] s1 (start N g) H _ I hq) (λfl s' B=>?_) λe s' B=>B;have fin:∀ {h:St}{l:Hp}{v:V}{u:zB},Inv (Ze CX P w K mg base N qual scope f c A outer s H E) [] h l s'->zX v u->Q v l->CE outer P w H s Q u s' :=
  λ{h l v u} J rv q=>⟨v,l,J.os,J.bare,J.base,J.hok,rv,q⟩
 cases fl with
 | ret u =>
  obtain⟨v,h,l,J,rv,q⟩:=B;exact fin J rv q
 | next =>
  obtain⟨h,l,J,q⟩:=B;exact fin (v:=V.non) (u:=ZH) J rfl q
 | brk =>
  obtain⟨_,_,_,q⟩:=B;exact jH q
 | cont =>
  obtain⟨_,_,_,q⟩:=B;exact jH q
end L2
namespace L2
open PySem PySem.Spec PyProof.Rows
section
variable {X:Cx}{x:Str}{p pos:Pos}{e:zQ}{es:List zQ}{t:TA}{id T:String}{r:List V->Hp->VK->Prop}
def tCB (r:List V->Hp->VK->Prop) (t:TA):TE:=λσ H Q=>t σ H λc d=>r c d Q
theorem Fp (g:qX X (.builtin id) r) (i:Gl X x) (hm:X.mg x=none) (j:j1 x=some (.builtin id)) (ha:PA X (e::es) t) (l:x ≠ "__name__" := by decide) (d:(x == ("__debug__" : Str))=false:=by decide)
  (m:jd (e::es) X.env=(false,zu e X.env)::jd es X.env:=by rfl) (f:(yO pos (jd es X.env)).any (·.1)=false:=by rfl):PE X (.Call (.Name x p) (e::es) [] pos) (tCB r t):=by
 intro c s σ H Q I h;refine x9 (JB I i hm j ?_ l d);exact G9 (thn (ha pos c s σ H _ I h) λus s1 ⟨n,o,q,u,v⟩=>g c s1 σ o n us Q q u v) m f
theorem dq (g:qX X (.type T) r) (i:Gl X x) (hm:X.mg x=none) (j:j1 x=some (.type T)) (ha:PA X (e::es) t) (l:x ≠ "__name__" := by decide) (d:(x == ("__debug__" : Str))=false:=by decide)
  (m:jd (e::es) X.env=(false,zu e X.env)::jd es X.env:=by rfl) (f:(yO pos (jd es X.env)).any (·.1)=false:=by rfl):PE X (.Call (.Name x p) (e::es) [] pos) (tCB r t):=by
 intro c s σ H Q I h;refine x9 (JB I i hm j ?_ l d);exact Vq (thn (ha pos c s σ H _ I h) λus s1 ⟨n,o,q,u,v⟩=>g c s1 σ o n us Q q u v) m f
end
end L2
namespace HT
open PySem PyProof.Rows
section
variable {prog:zi}{w:zy}{A:jh}{E:zB->zG->Prop}{s:zG}
theorem Gm {b:zC}{f c:List zB}{Q:zB->zG->Prop} (u:IsTup s.heap t f.toArray) (v:IsTup s.heap b c.toArray) (m:f≠[])
  (x:c=[]->Q (.ref t) s) (y:c≠[]->Q (.ref s.heap.objs.size) { s with heap:=s.heap.push { cls:=.type "tuple",data:=.seq (f++c).toArray } })
  (hsz:f.length+c.length <= zc):wpAny (zI prog w) A (yD .Add (.ref t) (.ref b)) Q E s:=by
 obtain⟨⟨cls,o,data,p⟩,l,q,n,hd⟩:=id u;obtain⟨⟨r,g,data2,h⟩,d,i,n2,j⟩:=id v;simp only at q hd i j;subst q hd i j;have e:f.toArray++c.toArray=(f++c).toArray:=by simp
 by_cases hw:c=[]
 ·exact concat_meets ⟨_,l,rfl⟩ ⟨_,d,rfl⟩ Cj seq_tuple_add PySem.F.slot_tuple_add PySem.F.entry_tuple_add (PySem.F.args_tuple_add_2 _ _)
   (tuple_addW1 t b f.toArray c.toArray n n2 o g p h (by simpa using m) (by simp[hw])) ⟨l,d,x hw⟩
 ·refine concat_meets ⟨_,l,rfl⟩ ⟨_,d,rfl⟩ Cj seq_tuple_add PySem.F.slot_tuple_add PySem.F.entry_tuple_add (PySem.F.args_tuple_add_2 _ _)
   (tuple_addW2 t b f.toArray c.toArray n n2 o g p h (by simpa using m) (by simpa using hw) (by rw[jw,jw];exact hsz)) ⟨l,d,?_⟩
  rw[e];exact y hw
noncomputable def sIx (n d:Nat):Option Int->Nat
 | none=>d
 | some v=>if v < 0 then (v+(n:Int)).toNat else min v.toNat n
theorem ug (n d:Nat) (hd:d <= n) (o:Option Int):sIx n d o <= n:=by
 cases o with
 | none=>exact hd
 | some v =>
  show (if v < 0 then (v+(n:Int)).toNat else min v.toNat n) <= n;by_cases c:v < 0
  ·rw[if_pos c];lia
  ·rw[if_neg c];exact Nat.min_le_right _ _
theorem YO (v:Int) (n d:Nat):(if v < 0 then max (v+(n:Int)) 0 else min v (n:Int))=((sIx n d (some v):Nat):Int):=by
 show (if v < 0 then max (v+(n:Int)) 0 else min v (n:Int))=(((if v < 0 then (v+(n:Int)).toNat else min v.toNat n):Nat):Int)
 by_cases c:v < 0
 ·simp only[if_pos c];lia
 ·simp only[if_neg c];lia
theorem fP (lo hi:Option Int) (n:Nat):W5 lo hi 1 (n:Int)=(((sIx n 0 lo:Nat):Int),((sIx n n hi:Nat):Int)):=by
 have c:¬ ((1:Int) < 0):=by lia
 unfold W5;simp only[c,if_false];refine Prod.ext ?_ ?_
 ·cases lo with
  | none=>rfl
  | some v=>exact YO v n 0
 ·cases hi with
  | none=>rfl
  | some v=>exact YO v n n
theorem E9 (i j:Nat):uQ (i:Int) (j:Int) 1=j - i:=by
 unfold uQ;have c:(1:Int) > 0:=by lia
 simp only[c,if_true,dQ];split<;>lia
theorem aU {Q:Option Int->zG->Prop} (p:Jn v o) (h:Q o s):wpAny (zI prog w) A (iC v) Q E s:=by
 cases p with
 | none=>exact dN h
 | int i t=>exact slicePart_int h
theorem bw {g:zC}{e f:zB}{lo:Option Int}{Q:Int×Int×Nat->zG->Prop} (i:s.heap.IsSliceOf g e f .none) (j:Jn e lo) (l:Jn f hi)
  (h:Q (((sIx n 0 lo:Nat):Int),1,sIx n n hi - sIx n 0 lo) s):wpAny (zI prog w) A (Fb (.ref g) (pure (n:Int))) Q E s:=by
 obtain⟨os,c,m,d⟩:=id i;unfold Fb Ho;refine wpAny_bind (wpAny_bind (VF c d (x:=e) rfl (wpAny_bind (VF c d (x:=f) rfl (wpAny_bind (VF c d (x:=.none) rfl (wpAny_pure ?_)))))));refine wpAny_bind (dN ?_);show wpAny _ _ (if ((1:Int) == 0)=true then _ else _) _ _ s;rw[if_neg (by decide)];refine wpAny_bind (aU j (wpAny_bind (aU l (wpAny_bind (wpAny_pure ?_)))));show wpAny _ _ (match W5 lo hi 1 (n:Int) with | (lo,hi)=>pure (lo,(1:Int),uQ lo hi 1)) _ _ s;rw[fP lo hi n];show wpAny _ _ (pure (((sIx n 0 lo:Nat):Int),(1:Int),uQ ((sIx n 0 lo:Nat):Int) ((sIx n n hi:Nat):Int) 1)) _ _ s;rw[E9];exact wpAny_pure h
theorem fR (xs:Array zB) (i k:Nat):((qQ k).filterMap λ(m:Nat)=>xs[((i:Int)+(m:Int) * 1).toNat]?).toArray=((xs.toList.drop i).take k).toArray:=by
 have e:(λ(m:Nat)=>xs[((i:Int)+(m:Int) * 1).toNat]?)=λm=>xs[i+m]? := by
  funext m
  have:((i:Int)+(m:Int) * 1).toNat=i+m:=by lia
  rw[this]
 rw[e];have:=pick_run xs i k;rw[CZ] at this;have c:((λx=>xs[x]?) ∘ λx=>i+x)=λm=>xs[i+m]? := rfl;rw[c] at this;rw[this]
theorem bU {f:zC}{n o:zB}{lo:Option Int}{Q:zB->zG->Prop} (e:IsTup s.heap t c) (p:s.heap.IsSliceOf f n o .none) (r:Jn n lo) (u:Jn o hi)
  (hw:¬ (sIx c.size 0 lo=0/\sIx c.size c.size hi=c.size))
  (h:Q (.ref s.heap.objs.size) { s with heap:=s.heap.push { cls:=.type "tuple",data:=.seq ((c.toList.drop (sIx c.size 0 lo)).take (sIx c.size c.size hi - sIx c.size 0 lo)).toArray } })
  (hsz:c.size <= zc):wpAny (zI prog w) A (KN (.ref t) (.ref f)) Q E s:=by
 have d:sizeOk (.seq ((c.toList.drop (sIx c.size 0 lo)).take (sIx c.size c.size hi - sIx c.size 0 lo)).toArray):=by
  show ((c.toList.drop (sIx c.size 0 lo)).take (sIx c.size c.size hi - sIx c.size 0 lo)).toArray.size <= zc;rw[jw,qx,Z6,jf]
  lia
 have x:sIx c.size c.size hi <= c.size:=ug _ _ (zd _) hi;obtain⟨os,g,i,v⟩:=id p;have j:s.TypeIs (.ref f) "slice" := ⟨os,g,i⟩
 unfold KN
 try with_reducible refine y4 ?_
 first | refine wpAny_bind (wpAny_pure ?_) | skip
 refine wpAny_bind (wpAny_sequenceKey e.typeIs (by decide) ?_);refine wpAny_bind (Wp (name:=vh "__getitem__") e.typeIs B5
  (VH B5 e.typeIs entry_tuple_getitem ?_ (args_tuple_getitem _ _)))
 show wpAny _ _ (Hl (.ref t) >>= _) _ _ s;refine wpAny_bind (tupleItemsOf_ e ?_);refine wpAny_bind (vM j ?_);rw[if_pos (by decide)];refine wpAny_bind (bw p r u ?_);have l:¬ ((((sIx c.size 0 lo:Nat):Int) == 0 && (1:Int) == 1 && (sIx c.size c.size hi - sIx c.size 0 lo) == c.size)=true):=by
  intro q;rw[jl,jl] at q;have y:((sIx c.size 0 lo:Nat):Int)=0:=eq_of_beq q.1.1;have z:sIx c.size c.size hi - sIx c.size 0 lo=c.size:=eq_of_beq q.2;exact hw ⟨by lia,by lia⟩
 show wpAny _ _ (if (((sIx c.size 0 lo:Nat):Int) == 0 && (1:Int) == 1 && (sIx c.size c.size hi - sIx c.size 0 lo) == c.size)=true then _ else _) _ _ s;rw[if_neg l,fR]
 first
  | exact wpAny_bind (m:=uC _) (kf (wpAny_pure ⟨_,rfl,wpAny_pure h⟩) d)
  | exact wpAny_bind (m:=uC _) (kf (wpAny_bind (wpAny_pure (wpAny_pure ⟨_,rfl,wpAny_pure h⟩))) d)
  | exact wpAny_bind (wpAny_bind (m:=uC _) (kf (wpAny_pure (wpAny_pure ⟨_,rfl,wpAny_pure h⟩)) d))
  | exact wpAny_bind (wpAny_bind (m:=uC _) (kf (wpAny_pure ⟨_,rfl,wpAny_pure h⟩) d))
end
end HT
namespace L2
open PySem PySem.Spec PyProof.Rows
abbrev TO:=St->Hp->(Option Int->Hp->Prop)->Prop
def PO (X:Cx) (e:Option zQ) (t:TO):Prop :=
 ∀ (c:List (zC×Obj)) (s:zG) (σ:St) (H:Hp) (Q:Option Int->Hp->Prop),Inv X c σ H s->t σ H Q ->
  wpAny (zI X.prog X.w) X.A (evalPart e X.env) (λu f=>∃ o d,Inv X c σ d f/\Jn u o/\Q o d) X.xe s
def De:TO:=λ_ H Q=>Q none H
def EU (t:TE):TO:=λσ H Q=>t σ H λx c=>∃ i,x=.int i/\Q (some i) c
section
variable {X:Cx}{e:zQ}{te:TE}{lo hi:Option zQ}{tl th:TO}{pos p2:Pos}
theorem bV:PO X none De:=by
 intro c s σ H Q I h;rw[evalPart_none];exact wpAny_pure ⟨none,H,I,.none,h⟩
theorem EC (h:PE X e te):PO X (some e) (EU te):=by
 intro c s σ H Q I hw;rw[evalPart_some];refine thn (h c s σ H _ I hw) λu s1 ⟨x,d,f,g,j⟩=>?_;obtain⟨i,rfl,q⟩:=j;obtain⟨t,rfl⟩:=g;exact⟨some i,d,f,.int i t,q⟩
def SlR (X:Cx) (r:V->Option Int->Option Int->Hp->VK->Prop):Prop :=
 ∀ (c:List (zC×Obj)) (s:zG) (σ:St) (H:Hp) (x:V) (v d f:zB) (lo hi:Option Int) (g:zC) (Q:VK),Inv X c σ H s->zX x v->s.heap.IsSliceOf g d f .none->Jn d lo->Jn f hi->r x lo hi H Q ->
  ∃ T id,A8 (.type T) "__getitem__" = pure (some (.builtin id))/\s.TypeIs v T/\wpAny (zI X.prog X.w) X.A (KN v (.ref g)) (EP X c σ Q) X.xe s
def tSl (r:V->Option Int->Option Int->Hp->VK->Prop) (te:TE) (tl th:TO):TE:=λσ H Q=>te σ H λx c=>tl σ c λl d=>th σ d λu f=>r x l u f Q
theorem D7 (j:SlR X r) (m:PE X e te) (n:PO X lo tl) (o:PO X hi th):PE X (.Subscript e (.Slice lo hi none p2) pos) (tSl r te tl th):=by
 intro c s σ H Q I h;refine Subscript_ (thn (m c s σ H _ I h) λv s1 ⟨x,p,t,y,z⟩=>?_);refine wpAny_Slice (thn (n c s1 σ p _ t z) λf B ⟨l,C,E,G,J⟩=>thn (o c B σ C _ E J) λg d ⟨u,i,L,M,N⟩=>?_);rw[evalPart_none];refine wpAny_pure ?_;have U:Inv X c σ i { d with heap:=d.heap.push { cls:=.type "slice",data:=.fields #[f,g,.none] } }:=L.kept (t':=d.toks) λb ob q=>jK _ q;obtain⟨T,id,Y,ht,hg⟩:=j c { d with heap:=d.heap.push { cls:=.type "slice",data:=.fields #[f,g,.none] } } σ i x v f g l u d.heap.objs.size Q U y (HY ..) G M N;show wpAny (zI X.prog X.w) X.A (subscriptTail e (.Slice lo hi none p2) v (.ref d.heap.objs.size)) (EP X c σ Q) X.xe { d with heap:=d.heap.push { cls:=.type "slice",data:=.fields #[f,g,.none] } };exact tail_any (ops:=[.ref d.heap.objs.size,v]) ht Y hg (by with_unfolding_all rfl)
noncomputable def QA (xs:List V) (lo hi:Option Int):List V:=(xs.drop (HT.sIx xs.length 0 lo)).take (HT.sIx xs.length xs.length hi - HT.sIx xs.length 0 lo)
theorem UI (xs:List V) (lo hi:Option Int):(QA xs lo hi).length <= xs.length:=by
 unfold QA;rw[qx,Z6]
 lia
noncomputable def gd (K:PySem.W.Frag):V->Option Int->Option Int->Hp->VK->Prop:=λx lo hi H Q=>∃ a xs,x=.ref a/\SqT K H a xs /\
 ¬ (HT.sIx xs.length 0 lo=0/\HT.sIx xs.length xs.length hi=xs.length)/\∀ p,H p=none->Q (.ref p) (upd H p (.tup (QA xs lo hi)))
theorem B9:SlR X (gd X.K):=by
 intro d s σ H x v m n lo hi p Q I rx g i j h;obtain⟨a,xs,rfl,l,hw,q⟩:=h;cases rx;obtain⟨its,r,f,hz⟩:=I.tuple l;have c:its.toArray.size=xs.length:=by rw[jw];exact r.length.symm
 refine⟨"tuple",_,PyProof.Rows.slot_tuple_getitem.lookup,f.typeIs,?_⟩;refine HT.bU f g i j (by rw[c];exact hw) ?_ (by rw[c];exact hz);rw[c];refine⟨.ref s.heap.objs.size,_,I.laid (t':=s.toks) (o:=.tup (QA xs lo hi)) (λb ob q=>jK _ q) (zd _) ?_,rfl,q _ (I.hok.fresh (zd _))⟩;exact⟨qD (UI xs lo hi) hz,_,(r.drop (HT.sIx xs.length 0 lo)).take (HT.sIx xs.length xs.length hi - HT.sIx xs.length 0 lo),dA _ _⟩
def Um (K:PySem.W.Frag):R2:=λx y H Q=>∃ a b xs ys,x=.ref a/\y=.ref b/\SqT K H a xs/\SqT K H b ys/\xs≠[]/\xs.length+ys.length <= zc /\
 (ys=[]->Q (.ref a) H)/\(ys≠[]->∀ p,H p=none->Q (.ref p) (upd H p (.tup (xs++ys))))
theorem za.nil_iff (r:za xs us):us=[]↔xs=[]:=by
 cases r with
 | nil=>simp
 | cons _ _=>simp
theorem qj:OpR X (yD .Add) (Um X.K):=by
 intro f s σ H x y v u Q I rx ry h;obtain⟨a,b,xs,ys,rfl,rfl,ha,i,j,hz,l,m⟩:=h;cases rx;cases ry;obtain⟨its,d,n,_⟩:=I.tuple ha;obtain⟨g,c,p2,_⟩:=I.tuple i;refine HT.Gm n p2 (λz=>j (d.nil_iff.mp z)) (λz=>⟨.ref a,H,I,rfl,l (c.nil_iff.mp z)⟩) (λz=>?_) (by rw[<- d.length,<- c.length];exact hz);refine⟨.ref s.heap.objs.size,_,I.laid (t':=s.toks) (o:=.tup (xs++ys)) (λb ob q=>jK _ q) (zd _) ?_,rfl,m (λw=>z (c.nil_iff.mpr w)) _ (I.hok.fresh (zd _))⟩;exact⟨by rw[jy];exact hz,_,d.append c,dA _ _⟩
end
end L2
namespace L2
open PySem PySem.Spec PyProof.Rows
noncomputable def ixN (n:Nat) (i:Int):Option Nat:=if 0 <= i then (if i < n then some i.toNat else none) else if -(n:Int) <= i then some (i+n).toNat else none
noncomputable def atI {c:Type} (xs:List c) (i:Int):Option c:=(ixN xs.length i).bind λj=>xs[j]?
theorem Ws {j:Nat} (h:ixN n i=some j):seqIndex? i n=some j/\j < n /\ -(n:Int) <= i/\i < n:=by
 unfold ixN at h;by_cases d:0 <= i
 ·rw[if_pos d] at h;by_cases c:i < n
  ·rw[if_pos c] at h;have e:i.toNat=j:=Z2 h;exact⟨by rw[bH d c,e],by lia,by lia,c⟩
  ·rw[if_neg c] at h;cases h
 ·rw[if_neg d] at h;by_cases c:-(n:Int) <= i
  ·rw[if_pos c] at h;have e:(i+n).toNat=j:=Z2 h;exact⟨by rw[wb (by lia) c,e],by lia,c,by lia⟩
  ·rw[if_neg c] at h;cases h
theorem uL {c:Type}{xs:List c}{i:Int}{v:c} (h:atI xs i=some v):∃ j,seqIndex? i xs.length=some j/\xs[j]? = some v/\j < xs.length /\ -(xs.length:Int) <= i/\i < xs.length:=by
 unfold atI at h;cases e:ixN xs.length i with
 | none=>rw[e] at h;cases h
 | some j =>
  rw[e] at h;obtain⟨d,f,g,l⟩:=Ws e;exact⟨j,d,h,f,g,l⟩
def Ut (b:zQ):Prop:=∀ o i,subscripted b false o i=operate [o,i] (KN o i)
def IxR (X:Cx) (r:R2):Prop :=
 ∀ (e c:zQ) (d:List (zC×Obj)) (s:zG) (σ:St) (H:Hp) (x y:V) (v u:zB) (Q:VK),Inv X d σ H s->zX x v->zX y u->r x y H Q ->
  subscripted c false v u=operate [v,u] (KN v u)->wpAny (zI X.prog X.w) X.A (subscriptTail e c v u) (EP X d σ Q) X.xe s
def MtR (X:Cx) (id:String) (r:V->List V->Hp->VK->Prop):Prop :=
 ∀ (c:List (zC×Obj)) (s:zG) (σ:St) (H:Hp) (x:V) (xs:List V) (v:zB) (us:List zB) (Q:VK),Inv X c σ H s->zX x v->za xs us->r x xs H Q ->
  wpAny (zI X.prog X.w) X.A (call (.builtin id) (v::us)) (EP X c σ Q) X.xe s
section
variable {X:Cx}{a b:zQ}{ta tb:TE}{pos:Pos}
theorem IxR.or (h:IxR X r) (h':IxR X g):IxR X (λx y H Q=>r x y H Q\/g x y H Q):=by
 intro c d e s σ H x y v u Q I rx ry q f;rcases q with q | q
 ·exact h c d e s σ H x y v u Q I rx ry q f
 ·exact h' c d e s σ H x y v u Q I rx ry q f
theorem D6 (d:IxR X r) (ha:PE X a ta) (e:PE X b tb) (f:Ut b):PE X (.Subscript a b pos) (tOp r ta tb):=by
 intro c s σ H Q I h;exact Subscript_ (V5 ha e I h λv u g x y i j rx ry q=>d a b c g σ i x y v u Q j rx ry q (f _ _))
def Bg (K:PySem.W.Frag):R2:=λx y H Q=>∃ p xs i v,x=.ref p/\y=.int i/\SqL K H p xs/\atI xs i=some v/\Q v H
def Fy (K:PySem.W.Frag):R2:=λx y H Q=>∃ p xs i v,x=.ref p/\y=.int i/\SqT K H p xs/\atI xs i=some v/\Q v H
def bP:R2:=λx y H Q=>∃ z i c,x=.str z/\y=.int i/\z.length <= zc/\atI z.cps.toList i=some c/\Q (.str ⟨#[c]⟩) H
theorem e9:IxR X (Bg X.K):=by
 intro e f c s σ H x y v u Q I rx ry h n;obtain⟨p,xs,i,z,rfl,rfl,B,C,q⟩:=h;cases rx;obtain⟨t,rfl⟩:=ry;obtain⟨its,r,g,hz⟩:=I.list B;obtain⟨j,d,E,N,G,J⟩:=uL C;obtain⟨w,o,l⟩:=r.get E;have L:=r.length;have U:=Jc;have fin:EP X c σ Q w s:=⟨z,H,I,l,q⟩
 by_cases A:0 <= i
 ·have m:i.toNat=j:=by
   rw[bH A J] at d;exact Z2 d
  exact item_listR g.isList A (by lia) (by rw[m];simpa using o) fin n
 ·have m:(i+(its.toArray.size:Int)).toNat=j:=by
   rw[wb (by lia) G] at d;rw[jw,<- L];exact Z2 d
  exact et (x:=w) g.isList.typeIs slot_list_getitem.lookup
   (wpAny_getItem_list_neg (Q:=λr M=>r=w/\EP X c σ Q r M) g.isList (by lia) (by rw[jw]<;>lia) (by lia) (by rw[m];simpa using o) ⟨rfl,fin⟩) n
theorem F1:IxR X (Fy X.K):=by
 intro d e c s σ H x y v u Q I rx ry h l;obtain⟨p,xs,i,z,rfl,rfl,m,n,q⟩:=h;cases rx;obtain⟨t,rfl⟩:=ry;obtain⟨its,r,g,hz⟩:=I.tuple m;obtain⟨j,o,A,G,J,L⟩:=uL n;obtain⟨w,B,f⟩:=r.get A;have C:=r.length;have M:=Jc;have fin:EP X c σ Q w s:=⟨z,H,I,f,q⟩
 exact et (x:=w) g.typeIs slot_tuple_getitem.lookup
  (getItem_tuple (j:=j) (Q:=λr E=>r=w/\EP X c σ Q r E) g (by lia) (by lia) (by rw[jw,<- C];exact o) (by simpa using B) ⟨rfl,fin⟩) l
theorem GW:IxR X bP:=by
 intro d e f s σ H x y v u Q I rx ry h l;obtain⟨z,i,c,rfl,rfl,hz,m,q⟩:=h;obtain⟨t,rfl⟩:=rx;obtain⟨t',rfl⟩:=ry;obtain⟨j,g,n,B,o,p⟩:=uL m;have r:z.cps.toList.length=z.length:=by simp[uZ]
 rw[r] at g o p;have C:=Jc;exact tail_any (Ax s z t) slot_str_getitem.lookup (getItem_str (c:=c) (by
  have w:decide (i < -(2 ^ 63:Int))=false:=decide_eq_false (by lia);have A:decide (i ≥ 2 ^ 63)=false:=decide_eq_false (by lia);rw[w,A,DS]) (by rw[g];simpa using n) ⟨.str ⟨#[c]⟩,H,I.tok _,⟨_,rfl⟩,q⟩) l
theorem eG (its:List zB) (n j:Nat) (u:zB):yK (·.setIfInBounds j u) { cls:=.type "list",data:=.seq its.toArray n }={ cls:=.type "list",data:=.seq (its.set j u).toArray n }:=by
 simp[yK]
theorem Inv.lst {c:List (zC×Obj)}{σ:St}{H:Hp}{s:zG}{p:zC}{xs:List V} (I:Inv X c σ H s) (h:H p=some (.lst xs)) :
  ∃ (its:List zB) (n:Nat),za xs its/\s.heap.get? p=some { cls:=.type "list",data:=.seq its.toArray n }/\xs.length <= zc:=by
 obtain⟨z,its,n,r,e⟩:=I.hok p _ h;exact⟨its,n,r,e,z⟩
theorem Inv.lstUpd {p:zC}{xs:List V}{its its':List zB}{n d:Nat}{f:Obj->Obj} (I:Inv X c σ H s) (h:H p=some (.lst xs))
  (i:s.heap.get? p=some { cls:=.type "list",data:=.seq its.toArray n }) (g:f { cls:=.type "list",data:=.seq its.toArray n }={ cls:=.type "list",data:=.seq its'.toArray d }) (r:za ys its') (hz:ys.length <= zc) (t:Nat) (l:0 < t:=by first | exact yf _ | assumption | exact Inv.tk (by assumption) | lia) :
  Inv X c σ (upd H p (.lst ys)) { s with heap:=s.heap.update p f,toks:=t }:=by
 have e:(s.heap.update p f).get? p=some { cls:=.type "list",data:=.seq its'.toArray d }:=by
  rw[xa f i (by rw[g]<;>rfl),g]
 refine I.write (x:=p) (e:=p) (by rw[h];trivial) (.inl rfl) (λb u j q=>(Xe _ _ (jr j)).trans q) ⟨_,e⟩ ?_;exact⟨hz,its',d,r,e⟩
noncomputable def gX:V->V->V->Hp->(Hp->Prop)->Prop:=λo i v H Q=>∃ p xs k j,o=.ref p/\i=.int k/\H p=some (.lst xs)/\ixN xs.length k=some j/\Q (upd H p (.lst (xs.set j v)))
theorem EE:Wb X gX:=by
 intro c s σ H o i v C E u Q I ro z A h;obtain⟨p,xs,k,j,rfl,rfl,l,B,q⟩:=h;cases ro;obtain⟨t,rfl⟩:=z;obtain⟨its,n,r,e,hz⟩:=I.lst l;obtain⟨d,G,m,w⟩:=Ws B;have f:=r.length;have J:=Jc;have x:Inv X c σ (upd H p (.lst (xs.set j v))) { s with heap:=s.heap.update p (yK (·.setIfInBounds j u)) } :=
  I.lstUpd l e (eG its n j u) (r.set A j) (by rw[qE];exact hz) s.toks
 by_cases y:0 <= k
 ·have g:k.toNat=j:=by
   rw[bH y w] at d;exact Z2 d
  exact PySem.W.ki_setAt e y (by lia) (by rw[jw,<- f];exact w) (by rw[g];exact⟨_,x,q⟩)
 ·have g:(k+(its.toArray.size:Int)).toNat=j:=by
   rw[wb (by lia) m] at d;rw[jw,<- f];exact Z2 d
  exact PySem.W.ki_setBack e (by lia) (by rw[jw,<- f];exact m) (by lia) (by rw[g];exact⟨_,x,q⟩)
theorem bh (lo hi:Option Int) (n:Nat):(x5 lo hi none n).1=((HT.sIx n 0 lo:Nat):Int)/\(x5 lo hi none n).2.1=((HT.sIx n n hi:Nat):Int)/\(x5 lo hi none n).2.2=1:=by
 refine⟨?_,?_,rfl⟩
 ·cases lo with
  | none=>simp[x5,HT.sIx]
  | some i =>
   simp only[x5,HT.sIx,F4,show (1:Int) > 0 by decide,if_true];by_cases h:i < 0
   ·simp only[h,if_true]<;>lia
   ·simp only[h,if_false]<;>lia
 ·cases hi with
  | none=>simp[x5,HT.sIx]
  | some i =>
   simp only[x5,HT.sIx,F4,show (1:Int) > 0 by decide,if_true];by_cases h:i < 0
   ·simp only[h,if_true]<;>lia
   ·simp only[h,if_false]<;>lia
theorem fg (its:List zB) (lo hi:Option Int):slicePick its.toArray lo hi none=((its.drop (HT.sIx its.length 0 lo)).take (HT.sIx its.length its.length hi - HT.sIx its.length 0 lo)).toArray:=by
 obtain⟨c,d,e⟩:=bh lo hi its.toArray.size;unfold slicePick;rw[c,d,e];simp only[sliceRange_one,pick_run,jw]<;>rfl
noncomputable def Bh (K:PySem.W.Frag):V->Option Int->Option Int->Hp->VK->Prop:=λx lo hi H Q=>∃ a xs,x=.ref a/\SqL K H a xs/\∀ p,H p=none->Q (.ref p) (upd H p (.lst (QA xs lo hi)))
theorem E8:SlR X (Bh X.K):=by
 intro d s σ H x v l m lo hi n Q I rx f g i h;obtain⟨a,xs,rfl,j,q⟩:=h;cases rx;obtain⟨its,r,e,hz⟩:=I.list j;have c:=r.length;refine⟨"list",_,slot_list_getitem.lookup,e.isList.typeIs,?_⟩;refine wpAny_getItem_list_slice e.isList f g i .none (by simp) ?_ (by rw[jw]<;>lia);rw[fg,<- c];refine⟨.ref s.heap.objs.size,_,I.laid (t':=s.toks) (o:=.lst (QA xs lo hi)) (λb ob q=>jK _ q) (zd _) ?_,rfl,q _ (I.hok.fresh (zd _))⟩;exact⟨qD (UI xs lo hi) hz,_,0,(r.drop (HT.sIx xs.length 0 lo)).take (HT.sIx xs.length xs.length hi - HT.sIx xs.length 0 lo),qU _ rfl⟩
noncomputable def yI:V->Bool
 | .non=>true
 | .bl _=>true
 | .int _=>true
 | .str _=>true
 | _=>false
noncomputable def eqV:V->V->Bool
 | .non,.non=>true
 | .bl a,.bl b=>a == b
 | .bl a,.int b=>(if a then 1 else 0) == b
 | .int a,.bl b=>a == (if b then 1 else 0)
 | .int a,.int b=>a == b
 | .str a,.str b=>a == b
 | _,_=>false
theorem c5 {y:V} (ry:zX y u) (rx:zX x v) (d:yI y=true) (c:yI x=true):Cf A s u v (eqV y x):=by
 cases y with
 | non =>
  cases ry;cases x with
  | non=>cases rx;exact iI _
  | bl b=>cases rx;exact Hy b
  | int b=>obtain⟨t,rfl⟩:=rx;exact iJ b t
  | str b=>obtain⟨t,rfl⟩:=rx;exact Hq b t
  | _=>exact absurd (show false=true from c) jt
 | bl a =>
  cases ry;cases x with
  | non=>cases rx;exact iK a
  | bl b=>cases rx;exact iG a b
  | int b=>obtain⟨t,rfl⟩:=rx;exact Hf a b t
  | str b=>obtain⟨t,rfl⟩:=rx;exact H8 a b t
  | _=>exact absurd (show false=true from c) jt
 | int a =>
  obtain⟨t',rfl⟩:=ry;cases x with
  | non=>cases rx;exact Hx a t'
  | bl b=>cases rx;exact H9 a t' b
  | int b=>obtain⟨t,rfl⟩:=rx;exact Hs a t' b t
  | str b=>obtain⟨t,rfl⟩:=rx;exact cu a t' b t
  | _=>exact absurd (show false=true from c) jt
 | str a =>
  obtain⟨t',rfl⟩:=ry;cases x with
  | non=>cases rx;exact Hr a t'
  | bl b=>cases rx;exact Hw a t' b
  | int b=>obtain⟨t,rfl⟩:=rx;exact fW a t' b t
  | str b=>obtain⟨t,rfl⟩:=rx;exact Hu a t' b t
  | _=>exact absurd (show false=true from c) jt
 | _=>exact absurd (show false=true from d) jt
noncomputable def eqU (x:V) (u:zB):Bool:=match u with
 | .none=>eqV .non x
 | .bool b=>eqV (.bl b) x
 | .int i _=>eqV (.int i) x
 | .str z _=>eqV (.str z) x
 | _=>false
theorem wI {y:V} (r:zX y u) (f:yI y=true):eqU x u=eqV y x:=by
 cases y with
 | non=>cases r;rfl
 | bl b=>cases r;rfl
 | int i=>obtain⟨t,rfl⟩:=r;rfl
 | str z=>obtain⟨t,rfl⟩:=r;rfl
 | _=>exact absurd (show false=true from f) jt
theorem KO:∀ {xs:List V}{us:List zB},za xs us->xs.all yI=true->us.any (eqU x)=xs.any λy=>eqV y x
 | _,_,.nil,_=>rfl
 | y::xs,u::us,.cons r t,f=>by
  rw[Zd,jl] at f;rw[yp,yp,wI r f.1,KO t f.2]
theorem Xm (rx:zX x v) (d:yI x=true):∀ {xs:List V}{us:List zB},za xs us->xs.all yI=true->∀ u∈us,Cf A s u v (eqU x u)
 | _,_,.nil,_=>λu c=>by cases c
 | y::xs,u::us,.cons r t,f=>λe c=>by
  rw[Zd,jl] at f;rcases List.mem_cons.mp c with rfl | c
  ·rw[wI r f.1];exact c5 r rx f.1 d
  ·exact Xm rx d t f.2 e c
noncomputable def inV (x:V) (xs:List V):Bool:=xs.any λy=>eqV y x
def rIn (K:PySem.W.Frag) (neg:Bool):R2:=λx y H Q=>∃ p xs,y=.ref p/\(SqL K H p xs\/SqT K H p xs)/\yI x=true/\xs.all yI=true/\Q (.bl (if neg then !inV x xs else inV x xs)) H
theorem FN:OpR X (jv .In) (rIn X.K false):=by
 intro e s σ H x y v u Q I rx ry h;obtain⟨p,xs,rfl,c,f,fs,q⟩:=h;cases ry;rcases c with c | c
 ·obtain⟨its,r,d,hz⟩:=I.list c;refine SeqAt.in_listAt (eqU x) d.isList (λw hw=>Xm rx f r fs w (by simpa using hw)) ⟨.bl _,H,I,rfl,?_⟩;rw[show its.toArray.any (eqU x)=its.any (eqU x) by simp,KO r fs];exact q
 ·obtain⟨its,r,d,hz⟩:=I.tuple c;refine SeqAt.in_tupleAt (eqU x) d (λw hw=>Xm rx f r fs w (by simpa using hw)) ⟨.bl _,H,I,rfl,?_⟩;rw[show its.toArray.any (eqU x)=its.any (eqU x) by simp,KO r fs];exact q
theorem Et:OpR X (jv .NotIn) (rIn X.K true):=by
 intro e s σ H x y v u Q I rx ry h;obtain⟨p,xs,rfl,c,f,fs,q⟩:=h;cases ry;rcases c with c | c
 ·obtain⟨its,r,d,hz⟩:=I.list c;refine SeqAt.notIn_listAt (eqU x) d.isList (λw hw=>Xm rx f r fs w (by simpa using hw)) ⟨.bl _,H,I,rfl,?_⟩;rw[show its.toArray.any (eqU x)=its.any (eqU x) by simp,KO r fs];exact q
 ·obtain⟨its,r,d,hz⟩:=I.tuple c;refine SeqAt.notIn_tupleAt (eqU x) d (λw hw=>Xm rx f r fs w (by simpa using hw)) ⟨.bl _,H,I,rfl,?_⟩;rw[show its.toArray.any (eqU x)=its.any (eqU x) by simp,KO r fs];exact q
theorem c0:qX X (.builtin "len") (λxs H Q=>∃ p ys,xs=[.ref p]/\(SqL X.K H p ys\/SqT X.K H p ys)/\Q (.int ys.length) H):=by
 intro g s σ H xs us Q I r h;obtain⟨p,ys,rfl,d,q⟩:=h;obtain⟨u,rfl,rx⟩:=y6 r;cases rx;have i:=Jc;rcases d with d | d
 ·obtain⟨its,e,f,hz⟩:=I.list d;have c:=e.length;exact Calls.call_len_list f.isList (by simp only[jw]<;>lia) ⟨.int ys.length,H,I.tok _,⟨s.toks+1,by rw[jw,c]⟩,q⟩
 ·obtain⟨its,e,f,hz⟩:=I.tuple d;have c:=e.length;exact len_tuple f (by simp only[jw]<;>lia) ⟨.int ys.length,H,I.tok _,⟨s.toks+1,by rw[jw,c]⟩,q⟩
theorem Fn:qX X (.builtin "len") (λxs H Q=>∃ z,xs=[.str z]/\z.length <= zc/\Q (.int z.length) H):=by
 intro c s σ H xs us Q I r h;obtain⟨z,rfl,hz,q⟩:=h;obtain⟨u,rfl,t,rfl⟩:=y6 r;have d:=Jc;exact len_str (by lia) ⟨.int z.length,H,I.tok _,⟨_,rfl⟩,q⟩
theorem qX.or (h:qX X f r) (h':qX X f e):qX X f (λxs H Q=>r xs H Q\/e xs H Q):=by
 intro c s σ H xs us Q I d q;rcases q with q | q
 ·exact h c s σ H xs us Q I d q
 ·exact h' c s σ H xs us Q I d q
theorem G6:qX X (.type "list") (λxs H Q=>∃ p ys,xs=[.ref p]/\(SqL X.K H p ys\/SqT X.K H p ys)/\∀ l,H l=none->Q (.ref l) (upd H l (.lst ys))):=by
 intro f s σ H xs us Q I r h;obtain⟨p,ys,rfl,g,q⟩:=h;obtain⟨u,rfl,rx⟩:=y6 r;cases rx;have fin:∀ (its:List zB),za ys its->ys.length <= zc->∀ (h':zT) (c:Nat),(∀ b o',s.heap.get? b=some o'->h'.get? b=some o') ->
   h'.get? s.heap.objs.size=some { cls:=.type "list",dict:=none,data:=.seq its.toArray c,slots:=#[] }->EP X f σ Q (.ref s.heap.objs.size) { s with heap:=h' }:=λits d hz h' c kp e =>
  ⟨.ref s.heap.objs.size,_,I.laid (t':=s.toks) kp (zd _) (show jQ X.prog X.w _ h' _ (.lst ys) from ⟨hz,its,c,d,e⟩),rfl,q _ (I.hok.fresh (zd _))⟩
 rcases g with g | g
 ·obtain⟨its,d,j,hz⟩:=I.list g;have i:=d.length;obtain⟨o,m,t,n,hd⟩:=j.isList;exact call_list_seq p (.inl rfl) m t hd (λh' c kp e=>fin its d hz h' c kp e) (by simp only[jw]<;>lia)
 ·obtain⟨its,d,j,hz⟩:=I.tuple g;have i:=d.length;obtain⟨o,m,t,n,hd⟩:=j;exact call_list_seq p (.inr rfl) m t hd (λh' c kp e=>fin its d hz h' c kp e) (by simp only[jw]<;>lia)
def tyV (K:PySem.W.Frag) (T:String) (x:V) (H:Hp):Prop:=match x with
 | .str _=>T = "str"
 | .int _=>T = "int"
 | .ref p=>(T = "list" /\ ∃ xs,SqL K H p xs)\/(T = "tuple" /\ ∃ o,K.lookup p=some o/\o.cls=.type "tuple" /\ o.dict=none) \/
   (T = "dict" /\ ((∃ kvs,H p=some (.dK kvs))\/(∃ kvs,H p=some (.dT kvs))\/∃ c:zT->Prop,H p=some (.ext c)/\∀ h,c h->∃ o,h.get? p=some o/\o.ExactDict))\/(T = "set" /\ ∃ S n,H p=some (.set S n))
 | _=>False
theorem Ke {T:String} (I:Inv X g σ H s) (r:zX x v) (ty:tyV X.K T x H) :
  s.TypeIs v T/\∀ a,v=.ref a->∃ ob,s.heap.get? a=some ob/\ob.dict=none:=by
 cases x with
 | str z =>
  obtain⟨t,rfl⟩:=r;cases (show T = "str" from ty);exact⟨Ax s z t,λ_ e=>nomatch e⟩
 | int i =>
  obtain⟨t,rfl⟩:=r;cases (show T = "int" from ty);exact⟨typeIs_int s i t,λ_ e=>nomatch e⟩
 | ref p =>
  cases r;rcases ty with ⟨rfl,xs,j⟩ | ⟨rfl,o,d,l,hd⟩ | ⟨rfl,d⟩ | ⟨rfl,S,n,d⟩
  ·obtain⟨its,_,h,_⟩:=I.list j;refine⟨h.isList.typeIs,λa e=>?_⟩;cases e;obtain⟨o,n,e,c,hd,_⟩:=h;exact⟨o,e,hd⟩
  ·refine⟨⟨o,I.kIn p o d,l⟩,λa e=>?_⟩;cases e;exact⟨o,I.kIn _ o d,hd⟩
  ·have z:∃ o,s.heap.get? p=some o/\o.ExactDict:=by
    rcases d with ⟨kvs,d⟩ | ⟨kvs,d⟩ | ⟨m,d,hz⟩
    ·obtain⟨_,_,_,_,o,_,_,e,ex,_⟩:=I.hok p _ d;exact⟨o,e,ex⟩
    ·obtain⟨_,_,_,_,o,_,_,e,ex,_⟩:=I.hok p _ d;exact⟨o,e,ex⟩
    ·exact hz _ (I.hok p _ d).1
   obtain⟨o,e,ex⟩:=z;refine⟨⟨o,e,ex.1⟩,λa f=>?_⟩;cases f;exact⟨o,e,ex.2.1⟩
  ·obtain⟨o,_,_,_,e,ex,_⟩:=I.hok p _ d;refine⟨⟨o,e,ex.1⟩,λa f=>?_⟩;cases f;exact⟨o,e,ex.2.1⟩
 | _=>exact jH ty
def g0 (K:PySem.W.Frag) (T:String) (r:V->List V->Hp->VK->Prop) (to:TE):TE:=λσ H Q=>to σ H λx c=>tyV K T x c/\r x [] c Q
def tBM (K:PySem.W.Frag) (T:String) (r:V->List V->Hp->VK->Prop) (to:TE) (t:TA):TE:=λσ H Q=>to σ H λx c=>tyV K T x c/\t σ c λxs d=>r x xs d Q
variable {o e:zQ}{es:List zQ}{to:TE}{t:TA}{name:Str}{apos yB:Pos}{T id:String}{r:V->List V->Hp->VK->Prop}
theorem h8 (l:uv T) (slot:Slot T name id) (g:typeOf (.builtin id)=pure (.type "method_descriptor")) (hm:MtR X id r) (m:PE X o to)
  (d:Qg o name X.env (zu o X.env)=zu o X.env:=by rfl) (f:(apos.endLine == yB.line)=true:=by rfl):PE X (.Call (.Attribute o name apos) [] [] yB) (g0 X.K T r to):=by
 intro c s σ H Q I h;refine We d f (thn (m c s σ H _ I h) λv s1 ⟨x,n,i,j,ty,p⟩=>?_);obtain⟨q,u⟩:=Ke i j ty;exact⟨T,id,l,slot,g,q,u,u3 rfl (PySem.evalArgs_none (hm c s1 σ n x [] v [] Q i j .nil p))⟩
theorem AC (p:uv T) (slot:Slot T name id) (j:typeOf (.builtin id)=pure (.type "method_descriptor")) (hm:MtR X id r) (q:PE X o to) (ha:PA X (e::es) t)
  (f:Qg o name X.env (zu o X.env)=zu o X.env:=by rfl)
  (i:((yO yB (jd (e::es) X.env)).all (λx=>!x.1) && (KQ yB (KS [] X.env)).all (λx=>x.1.isSome)
   && decide ((e::es).length+([]:List Qv).length+(if ([]:List Qv).isEmpty then 0 else 1) < 30))=true:=by rfl)
  (g:(apos.endLine == yB.line)=true:=by rfl) (u:jd (e::es) X.env=(false,zu e X.env)::jd es X.env:=by rfl) (d:(yO yB (jd es X.env)).any (·.1)=false:=by rfl) :
  PE X (.Call (.Attribute o name apos) (e::es) [] yB) (tBM X.K T r to t):=by
 intro c s σ H Q I h;refine wpAny_Call_method_late f i g rfl (thn (q c s σ H _ I h) λv s1 ⟨x,w,l,m,ty,y⟩=>?_);obtain⟨z,A⟩:=Ke l m ty;refine⟨T,id,p,slot,j,z,A,?_⟩;have n:=ha yB c s1 σ w _ l y;rw[u] at n ⊢;refine u3 (by show (false || (yO yB (jd es X.env)).any (·.1))=false;rw[d]<;>rfl) (Calls.evalArgs_plain ?_);exact thn n λus B ⟨C,E,G,J,L⟩=>hm c B σ E x C v us Q G m J L
end
end L2
namespace L2
open PySem PySem.Spec PyProof.Rows
def MtM (X:Cx) (id:String) (r:V->List V->Hp->VK->Prop):Prop :=
 ∀ (c:List (zC×Obj)) (s:zG) (σ:St) (H:Hp) (x:V) (xs:List V) (v:zB) (us:List zB) (Q:VK),Inv X c σ H s->zX x v->za xs us->r x xs H Q ->
  wpAny (zI X.prog X.w) X.A (call (.builtin id) (v::us)) (EP X c σ Q) X.xe s
theorem za.one:∀ {x:V}{us:List zB},za [x] us->∃ u,us=[u]/\zX x u
 | _,_,.cons r .nil=>⟨_,rfl,r⟩
theorem za.zero:∀ {us:List zB},za [] us->us=[]
 | _,.nil=>rfl
theorem za.rep (h:za xs us):∀ k:Nat,za (zq k xs).flatten (zq k us).flatten
 | 0=>.nil
 | k+1=>by
  rw[JQ,JQ,Jo,Jo];exact za.append h (za.rep h k)
theorem UQ (its:List zB):∀ (k:Nat) (acc:List zB),
  Wu (λc d=>c++d) acc.toArray (zq k its.toArray)=(acc++(zq k its).flatten).toArray
 | 0,acc=>by simp
 | k+1,acc=>by
  have e:acc.toArray++its.toArray=(acc++its).toArray:=by simp
  have f:(acc++its)++(zq k its).flatten=acc++(zq (k+1) its).flatten:=by
   rw[JQ,Jo,jg]
  rw[<- f,<- UQ its k (acc++its),<- e,JQ,Qi]
section
variable {X:Cx}{pins:List (zC×Obj)}{σ:St}{H:Hp}{s:zG}{l b:zC}{xs ys zs:List V}
theorem Inv.lset {its its':List zB}{n:Nat}{f:Array zB->Array zB}{t':Nat} (I:Inv X pins σ H s) (c:H l=some (.lst xs))
  (e:s.heap.get? l=some { cls:=.type "list",data:=.seq its.toArray n }) (d:f its.toArray=its'.toArray) (g:za ys its') (hz:ys.length <= zc) (j:0 < t':=by first | exact yf _ | assumption | exact Inv.tk (by assumption) | lia) :
  Inv X pins σ (upd H l (.lst ys)) { s with heap:=s.heap.update l (yK f),toks:=t' }:=by
 have q:=PySem.IsL.update e f;rw[d] at q;refine I.write (x:=l) (e:=l) (by rw[c];exact trivial) (.inl rfl) (λm u h i=>(Xe s.heap (yK f) (jr h)).trans i) ⟨_,q⟩ ?_;exact⟨hz,its',_,g,q⟩
theorem Inv.lnew {its:List zB}{t':Nat} (I:Inv X pins σ H s) (c:za ys its) (hz:ys.length <= zc) (d:0 < t':=by first | exact yf _ | assumption | exact Inv.tk (by assumption) | lia) :
  Inv X pins σ (upd H s.heap.objs.size (.lst ys)) { s with heap:=s.heap.push { cls:=.type "list",data:=.seq its.toArray },toks:=t' } :=
 I.laid (λ_ _ q=>jK _ q) (zd _) ⟨hz,its,0,c,qU _ rfl⟩
theorem Inv.fresh (I:Inv X pins σ H s):H s.heap.objs.size=none:=I.hok.fresh (zd _)
theorem Inv.lstM (I:Inv X pins σ H s) (c:H l=some (.lst xs)):xs.length <= zc/\∃ (its:List zB) (n:Nat),za xs its/\xs.length=its.length/\s.heap.get? l=some { cls:=.type "list",data:=.seq its.toArray n }:=by
 obtain⟨z,its,n,r,e⟩:=I.hok l _ c;exact⟨z,its,n,r,r.length,e⟩
theorem BC {n:Nat} (h:n <= zc):aR n=false:=by
 unfold aR;exact decide_eq_false (by lia)
end
section
variable {X:Cx}
noncomputable def Uq:V->List V->Hp->VK->Prop:=λx c H Q=>∃ l xs y,x=.ref l/\c=[y]/\H l=some (.lst xs)/\xs.length < zc/\Q .non (upd H l (.lst (xs++[y])))
theorem A5:MtM X "list.append" Uq:=by
 intro c s σ H x i v us Q I rx f h;obtain⟨l,xs,y,rfl,rfl,d,hz,q⟩:=h;cases rx;obtain⟨u,rfl,g⟩:=f.one;obtain⟨z,its,n,r,j,e⟩:=I.lstM d;refine ud F.slot_list_append ⟨_,e,rfl⟩ F.entry_list_append (F.args_list_append_2 _ _) (PySem.list_append l its.toArray n u (by rw[jw];lia)) ⟨e,?_⟩;refine⟨.non,_,I.lset (its':=its++[u]) d e (by simp) (r.append (.cons g .nil)) ?_,rfl,q⟩;rw[jy,List.length_singleton]
 lia
def d0:R2:=λx y H Q=>∃ l b xs c,x=.ref l/\y=.ref b/\H l=some (.lst xs)/\H b=some (.lst c)/\xs.length+c.length <= zc/\∀ p,H p=none->Q (.ref p) (upd H p (.lst (xs++c)))
theorem cQ:OpR X (yD .Add) d0:=by
 intro d s σ H x y v u Q I rx ry h;obtain⟨l,b,xs,p,rfl,rfl,f,g,hz,q⟩:=h;cases rx;cases ry;obtain⟨z,its,n,r,t,e⟩:=I.lstM f;obtain⟨w,c,n2,i,j,m⟩:=I.lstM g;refine PySem.P.add_list e m ?_ (by rw[jw,jw];lia);have o:its.toArray++c.toArray=(its++c).toArray:=by simp
 rw[o];exact⟨.ref _,_,I.lnew (t':=s.toks) (r.append i) (by rw[jy];lia),rfl,q _ I.fresh⟩
def w5:R2:=λx y H Q=>∃ l k xs,x=.ref l/\y=.int k/\H l=some (.lst xs) /\ -(2 ^ 63) <= k/\k < 2 ^ 63/\xs.length * k.toNat <= zc /\
 ∀ p,H p=none->Q (.ref p) (upd H p (.lst (zq k.toNat xs).flatten))
theorem HL {c:Type} (xs:List c) (k:Nat):(zq k xs).flatten.length=k * xs.length:=by
 induction k with
 | zero=>simp
 | succ k d=>rw[JQ,Jo,jy,d,Nat.succ_mul,Nat.add_comm]
theorem EW:OpR X (yD .Mult) w5:=by
 intro p s σ H x y v u Q I rx ry h;obtain⟨l,k,xs,rfl,rfl,w,A,B,hz,q⟩:=h;cases rx;obtain⟨t,rfl⟩:=ry;obtain⟨z,its,n,r,C,e⟩:=I.lstM w;have d:its.toArray.size * k.toNat <= zc:=by rw[jw,<- C];exact hz
 have f:¬ its.toArray.size * k.toNat > (2 ^ 63 - 1) / 8:=by
  have:(zc:Nat) <= (2 ^ 63 - 1) / 8:=by decide
  lia
 have g:¬ (!Hd k)=true:=by
  rw[fitsIndex_both A B];exact jt
 have c:¬ aR (its.toArray.size * k.toNat)=true:=by
  rw[BC d];exact jt
 have i:Wu (λj o=>j++o) #[] (zq (if its.toArray.isEmpty=true then 0 else k.toNat) its.toArray)=(zq k.toNat its).flatten.toArray:=by
  have E:∀ m:Nat,Wu (λj o=>j++o) #[] (zq m its.toArray)=(zq m its).flatten.toArray:=λm=>by
   have:=UQ its m [];rw[yQ] at this;exact this
  rw[E];cases its with
  | nil=>simp
  | cons a J=>rw[if_neg (by simp)]
 refine wpAny_binaryOp_repeat_ref (T := "list") (U := "int") (by decide) ⟨_,e,rfl⟩ (λG=>typeIs_int G k t) noFill_list_mul F.fills_int_mul F.slot_int_rmul repeat_list F.slot_int_index.lookup
  (ud F.slot_int_rmul (typeIs_int s k t) F.entry_int_rmul (F.args_int_rmul_2 _ _) (int___rmul___int_list k t l its.toArray n)
   ⟨e,rfl,⟨_,e,rfl⟩,ud F.slot_list_mul ⟨_,e,rfl⟩ F.entry_list_mul (F.args_list_mul_2 _ _) (AutoListH.list___mul___list_int_3 l its.toArray n k t g f c) ⟨e,?_⟩⟩)
 rw[i];exact⟨.ref _,_,I.lnew (t':=s.toks) (r.rep k.toNat) (by rw[HL,Nat.mul_comm];exact hz),rfl,q _ I.fresh⟩
end
section
variable {prog:zi}{w:zy}{A:jh}{E:zB->zG->Prop}{s:zG}
set_option maxRecDepth 100000 in
end
end L2
namespace L2
open PySem PySem.Spec PyProof.Rows
section
variable {κ:Type} [DecidableEq κ]
noncomputable def qN (kvs:List (κ×V)) (k:κ):Option V:=(kvs.find? λkv=>decide (kv.1=k)).map (·.2)
noncomputable def j4 (kvs:List (κ×V)) (k:κ) (v:V):List (κ×V) :=
 if (kvs.any λkv=>decide (kv.1=k))=true then kvs.map (λkv=>if kv.1=k then (kv.1,v) else kv) else kvs++[(k,v)]
theorem vw {p:κ×V}{r:List (κ×V)}{k:κ} (e:p.1=k):qN (p::r) k=some p.2:=by simp[qN,XJ,e]
theorem vy {p:κ×V}{r:List (κ×V)}{k:κ} (e:¬ p.1=k):qN (p::r) k=qN r k:=by simp[qN,XJ,e]
theorem Ag (k:κ):∀ kvs:List (κ×V),(kvs.any λkv=>decide (kv.1=k))=(qN kvs k).isSome
 | []=>rfl
 | p::r=>by
  rw[yp];by_cases e:p.1=k
  ·simp only[vw e,decide_eq_true e,Bool.true_or,Option.isSome_some]
  ·rw[vy e,decide_eq_false e,Bool.false_or];exact Ag k r
theorem YR (kvs:List (κ×V)) (k:κ) (v:V):(j4 kvs k v).length <= kvs.length+1:=by
 unfold j4;split
 ·rw[z9];lia
 ·rw[jy,jU,yy];lia
theorem y8.isSome_eq (r:y8 o u):o.isSome=u.isSome:=by
 cases o with
 | none=>cases u with
  | none=>rfl
  | some _=>exact (show False from r).elim
 | some _=>cases u with
  | none=>exact (show False from r).elim
  | some _=>rfl
theorem y8.getD (r:y8 o u) (c:zX d d'):zX (o.getD d) (u.getD d'):=by
 cases o with
 | none=>cases u with
  | none=>exact c
  | some _=>exact (show False from r).elim
 | some _=>cases u with
  | none=>exact (show False from r).elim
  | some _=>exact r
theorem KV.val {kvs:List (κ×V)}{f:List (κ×zB)} (r:KV kvs f) (k:κ):y8 (qN kvs k) (JT f k):=by
 unfold KV at r
 induction r with
 | nil=>exact Zf
 | @cons p q ps c h t i =>
  obtain⟨g,j⟩:=h;by_cases e:p.1=k
  ·have d:q.1=k:=g.symm.trans e;have b:JT (q::c) k=some q.2:=by simp[JT,XJ,d]
   rw[vw e,b];exact j
  ·have d:¬ q.1=k:=λz=>e (g.trans z);have b:JT (q::c) k=JT c k:=by simp[JT,XJ,d]
   rw[vy e,b];exact i
theorem KV.any {kvs:List (κ×V)}{c:List (κ×zB)} (r:KV kvs c) (k:κ):(kvs.any λkv=>decide (kv.1=k))=c.any λkv=>decide (kv.1=k):=by
 unfold KV at r
 induction r with
 | nil=>rfl
 | cons h t d=>rw[yp,yp,d,h.1]
theorem KV.repl {kvs:List (κ×V)}{d:List (κ×zB)} (r:KV kvs d) (k:κ) {y:V} (ry:zX y u) :
  KV (kvs.map λkv=>if kv.1=k then (kv.1,y) else kv) (d.map λkv=>if kv.1=k then (kv.1,u) else kv):=by
 unfold KV at r ⊢
 induction r with
 | nil=>exact .nil
 | @cons p q ps i h t f =>
  rw[jF,jF];refine .cons ?_ f;obtain⟨c,g⟩:=h;by_cases e:p.1=k
  ·rw[if_pos e,if_pos (c.symm.trans e)];exact⟨c,ry⟩
  ·rw[if_neg e,if_neg (λz=>e (c.trans z))];exact⟨c,g⟩
theorem KV.put {kvs:List (κ×V)}{c:List (κ×zB)} (r:KV kvs c) (k:κ) {y:V} (ry:zX y u):KV (j4 kvs k y) (stored c k u):=by
 unfold j4 stored;rw[r.any k];by_cases e:(c.any λkv=>decide (kv.1=k))=true
 ·rw[if_pos e,if_pos e];exact r.repl k ry
 ·rw[if_neg e,if_neg e];exact Paired.snoc r ⟨rfl,ry⟩
theorem KV.keys {kvs:List (κ×V)}{c:List (κ×zB)} (r:KV kvs c):kvs.map (·.1)=c.map (·.1):=by
 unfold KV at r
 induction r with
 | nil=>rfl
 | cons h t d=>rw[jF,jF,d,h.1]
theorem KV.length {kvs:List (κ×V)}{c:List (κ×zB)} (r:KV kvs c):kvs.length=c.length:=Paired.length r
end
theorem Qd {P:zi}{k:Key} (r:zX (kV k) u):(jJ P w).is k u=true:=by
 cases k with
 | inl i=>obtain⟨t,e⟩:=(show ∃ t,u=uR i t from r);subst e;exact GQ P w i t
 | inr x=>obtain⟨t,e⟩:=(show ∃ t,u=k8 x t from r);subst e;exact B6 P w x t
theorem Aj {P:zi}:∀ {ks:List Key}{us:List zB},za (ks.map kV) us->ItemsAre (jJ P w) ks us
 | [],_,r=>by rw[Qz] at r;cases r;exact .nil
 | k::ks,_,r=>by
  rw[jF] at r;cases r with
  | cons h t=>exact .cons (Qd h) (Aj t)
noncomputable abbrev KT (H:Hp):List (List Key×V)->List (List Key×zC×zB)->Prop:=Paired λp q=>p.1=q.1/\H q.2.1=some (.tup (p.1.map kV))/\zX p.2 q.2.2
theorem KT.val (r:KT H kvs xs) (k:List Key):y8 (qN kvs k) ((JA xs k).map (·.2)):=by
 induction r with
 | nil=>exact Zf
 | @cons p q ps c h t g =>
  obtain⟨f,_,i⟩:=h;by_cases e:p.1=k
  ·have d:q.1=k:=f.symm.trans e;have b:JA (q::c) k=some q.2:=by simp[JA,XJ,d]
   rw[vw e,b];exact i
  ·have d:¬ q.1=k:=λz=>e (f.trans z);have b:JA (q::c) k=JA c k:=by simp[JA,XJ,d]
   rw[vy e,b];exact g
theorem KT.repl (r:KT H kvs xs) (k:List Key) {y:V} (ry:zX y u) :
  KT H (kvs.map λkv=>if kv.1=k then (kv.1,y) else kv) (xs.map (putAt k u)):=by
 induction r with
 | nil=>exact .nil
 | @cons p q ps i h t f =>
  rw[jF,jF];refine .cons ?_ f;obtain⟨c,d,g⟩:=h;unfold putAt;by_cases e:p.1=k
  ·rw[if_pos e,if_pos (c.symm.trans e)];exact⟨c,d,ry⟩
  ·rw[if_neg e,if_neg (λz=>e (c.trans z))];exact⟨c,d,g⟩
theorem KT.put (r:KT H kvs xs) (k:List Key) {b:zC}{y:V} (c:H b=some (.tup (k.map kV))) (ry:zX y u) :
  KT H (j4 kvs k y) (storedH xs k b u):=by
 have e:(kvs.any λkv=>decide (kv.1=k))=(JA xs k).isSome:=by
  rw[Ag,(r.val k).isSome_eq,bK]
 unfold j4 storedH;rw[e];by_cases q:(JA xs k).isSome=true
 ·rw[if_pos q,if_pos q];exact r.repl k ry
 ·rw[if_neg q,if_neg q];exact Paired.snoc r ⟨rfl,c,ry⟩
theorem KT.keeps {c:Hp} (r:KT H kvs xs) (d:∀ b ys,H b=some (.tup ys)->c b=some (.tup ys)):KT c kvs xs :=
 Paired.mapP r λ_ _ z=>⟨z.1,d _ _ z.2.1,z.2.2⟩
section
variable {P:zi}{w:zy}{H:Hp}{h:zT}{a:zC}
theorem bA (ok:HOk P w H h) (e:Rd H a u):jQ P w H h a u:=e.ok ok
theorem Q5 {kvs:List (Key×V)} (ok:HOk P w H h) (e:Rd H a (.dK kvs)):kvs.length <= zc/\(a == y7)=false/\∃ c,KV kvs c/\h.DictOf (jJ P w) a c :=
 show jQ P w H h a (.dK kvs) from bA ok e
theorem Qb {kvs:List (Key×V)} (ok:HOk P w H h) (e:H a=some (.dK kvs)):kvs.length <= zc/\(a == y7)=false/\∃ c,KV kvs c/\h.DictOf (jJ P w) a c:=Q5 ok (.inl e)
theorem xC {ks:List Key} (ok:HOk P w H h) (e:H a=some (.tup (ks.map kV))):(xw (jJ P w)).is h ks a:=by
 obtain⟨_,its,r,o,c,d,n,f⟩:=(show jQ P w H h a (.tup (ks.map kV)) from ok a _ e)
 exact⟨o,its.toArray,n,c,d,f,by simpa using Aj r⟩
theorem Jj {kvs:List (List Key×V)} (ok:HOk P w H h) (e:Rd H a (.dT kvs)):kvs.length <= zc/\(a == y7)=false /\
  ∃ xs,KT H kvs xs/\h.DictOfH (xw (jJ P w)) a xs:=by
 obtain⟨z,y,xs,r,o,es,ep,f,g,i,j,n⟩:=(show jQ P w H h a (.dT kvs) from bA ok e)
 refine⟨z,y,xs,r,o,es,ep,f,g,i,j,λx c=>?_,n⟩;have all:∀ {l:List (List Key×V)}{m:List (List Key×zC×zB)},KT H l m->∀ x∈m,(xw (jJ P w)).is h x.1 x.2.1:=by
  intro l m q
  induction q with
  | nil=>intro x c;exact nomatch c
  | @cons p q ps u d t s =>
   intro x c;rcases List.mem_cons.mp c with e | c
   ·subst e;exact xC ok (by rw[<- d.1];exact d.2.1)
   ·exact s x c
 exact all r x c
theorem Bd {kvs:List (List Key×V)} (ok:HOk P w H h) (e:H a=some (.dT kvs)):kvs.length <= zc/\(a == y7)=false /\
  ∃ xs,KT H kvs xs/\h.DictOfH (xw (jJ P w)) a xs:=Jj ok (.inl e)
end
def yT (H:Hp) (a:zC) (y:V) (r:Option V):Prop :=
 (∃ kvs k,Rd H a (.dK kvs)/\y=kV k/\r=qN kvs k)\/∃ kvs k b,Rd H a (.dT kvs)/\y=.ref b/\H b=some (.tup (k.map kV))/\r=qN kvs k
def xN (H:Hp) (a:zC) (y v:V) (c:Hp):Prop :=
 (∃ kvs k,H a=some (.dK kvs)/\y=kV k/\kvs.length < zc/\c=upd H a (.dK (j4 kvs k v))) \/
 ∃ kvs k b,H a=some (.dT kvs)/\y=.ref b/\H b=some (.tup (k.map kV))/\kvs.length < zc/\c=upd H a (.dT (j4 kvs k v))
theorem yT.k {H:Hp}{a:zC}{kvs:List (Key×V)}{k:Key} (e:H a=some (.dK kvs)):yT H a (kV k) (qN kvs k):=.inl ⟨kvs,k,.inl e,rfl,rfl⟩
theorem xN.k {H:Hp}{a:zC}{kvs:List (Key×V)}{k:Key} (e:H a=some (.dK kvs)) (c:kvs.length < zc):xN H a (kV k) v (upd H a (.dK (j4 kvs k v))):=.inl ⟨kvs,k,e,rfl,c,rfl⟩
section
variable {X:Cx}{pins:List (zC×Obj)}{σ:St}{H:Hp}{s:zG}{a:zC}{y v:V}{u r:zB}{o:Option V}{A:jh}{E:zB->zG->Prop}
theorem Inv.big (I:Inv X pins σ H s):y7 < s.heap.objs.size:=by
 have h:jx < s.heap.objs.size:=(I.mod.glob.keeps I.bk).lt;exact Xc (by decide) h
theorem wZ {Q:zB->zG->Prop} (n:A.units+1 < Za) (I:Inv X pins σ H s) (g:yT H a y (some v)) (ry:zX y u) (h:∀ d m,Inv X pins σ H m->zX v d->Q d m) :
  wpAny (zI X.prog X.w) A (KN (.ref a) u) Q E s:=by
 rcases g with ⟨kvs,k,e,f,l⟩ | ⟨kvs,k,b,e,f,q,l⟩
 ·subst f;obtain⟨z,hd,t,rel,i⟩:=Q5 I.hok e;obtain⟨d,hw,c⟩:=y8.some_of (v:=v) (o:=JT t k) (by rw[l];exact rel.val k);exact wpAny_getItem_of (Qd ry) i.mapOf hw (h d _ (I.tok _) c)
 ·subst f;cases (show u=jY b from ry);obtain⟨z,hd,xs,rel,i⟩:=Jj I.hok e;obtain⟨d,hw,c⟩:=y8.some_of (v:=v) (o:=(JA xs k).map (·.2)) (by rw[l];exact rel.val k);obtain⟨p,x,j⟩:=Option.map_eq_some_iff.mp hw;refine wpAny_getItem_heap (Xk n) (xC I.hok q) i x ?_;rw[j];exact h d _ (I.tok _) c
theorem DM {Q:zB->zG->Prop} (i:A.units+1 < Za) (I:Inv X pins σ H s) (g:yT H a y o) (ry:zX y u) (h:∀ f,Inv X pins σ H f->Q (.bool o.isSome) f) :
  wpAny (zI X.prog X.w) A (jv .In u (.ref a)) Q E s:=by
 rcases g with ⟨kvs,k,e,c,l⟩ | ⟨kvs,k,b,e,c,j,l⟩
 ·subst c;obtain⟨z,hd,m,rel,d⟩:=Q5 I.hok e;refine wpAny_in_of (Qd ry) hd d.mapOf ?_;rw[<- (rel.val k).isSome_eq,<- l];exact h _ (I.tok _)
 ·subst c;cases (show u=jY b from ry);obtain⟨z,hd,xs,rel,d⟩:=Jj I.hok e;refine wpAny_in_heap (Xk i) (xC I.hok j) hd d ?_;have q:=(rel.val k).isSome_eq;rw[bK] at q;rw[<- q,<- l];exact h _ (I.tok _)
theorem hU {Q:zB->zG->Prop} (i:A.units+1 < Za) (I:Inv X pins σ H s) (g:yT H a y o) (ry:zX y u) (h:∀ f,Inv X pins σ H f->Q (.bool (!o.isSome)) f) :
  wpAny (zI X.prog X.w) A (jv .NotIn u (.ref a)) Q E s:=by
 rcases g with ⟨kvs,k,e,c,l⟩ | ⟨kvs,k,b,e,c,j,l⟩
 ·subst c;obtain⟨z,hd,m,rel,d⟩:=Q5 I.hok e;refine wpAny_notIn_of (Qd ry) hd d.mapOf ?_;rw[<- (rel.val k).isSome_eq,<- l];exact h _ (I.tok _)
 ·subst c;cases (show u=jY b from ry);obtain⟨z,hd,xs,rel,d⟩:=Jj I.hok e;refine wpAny_notIn_heap (Xk i) (xC I.hok j) hd d ?_;have q:=(rel.val k).isSome_eq;rw[bK] at q;rw[<- q,<- l];exact h _ (I.tok _)
theorem vS {t':Nat}{ob:HO} (I:Inv X pins σ H s) (c:Mut (H a)) (d:kh a s.heap h') (f:∃ q,h'.get? a=some q) (new:jQ X.prog X.w (upd H a ob) h' a ob) (h:0 < t':=by first | exact yf _ | assumption | exact Inv.tk (by assumption) | lia) :
  Inv X pins σ (upd H a ob) { s with heap:=h',toks:=t' } :=
 I.write (x:=a) (e:=a) c (.inl rfl) (λb q g z=>(d.2 b g).trans z) f new
theorem K5 {P:zi}{h':zT}{kvs:List (Key×V)}{c:List (Key×zB)} (z:kvs.length <= zc) (hd:(a == y7)=false) (rel:KV kvs c) (d:h'.DictOf (jJ P w) a c) :
  jQ P w e h' a (.dK kvs):=⟨z,hd,c,rel,d⟩
theorem wc {Q:Unit->zG->Prop} (G:A.units+1 < Za) (I:Inv X pins σ H s) (g:xN H a y v J) (ry:zX y u) (t:zX v r) (h:∀ x,Inv X pins σ J x->Q () x) :
  wpAny (zI X.prog X.w) A (kJ (.ref a) u r) Q E s:=by
 rcases g with ⟨kvs,k,e,i,l,j⟩ | ⟨kvs,k,b,e,i,B,l,j⟩
 ·subst i j;obtain⟨z,hd,L,rel,m⟩:=Qb I.hok e;have hz:L.length <= zc:=by rw[<- rel.length];exact z
  have n:(j4 kvs k v).length <= zc:=by have:=YR kvs k v;lia
  refine wpAny_setItem_pairs (hsz:=hz) (Qd ry) m λh' d p=>h _ ?_;have M:∃ q,h'.get? a=some q:=let ⟨q,_,_,f,_⟩:=d;⟨q,f⟩;exact vS I (by rw[e];exact Zf) p M (K5 n hd (rel.put k t) d)
 ·subst i j;cases (show u=jY b from ry);obtain⟨z,hd,xs,rel,m⟩:=Bd I.hok e;have hz:xs.length <= zc:=by rw[<- Paired.length rel];exact z
  have n:(j4 kvs k v).length <= zc:=by have:=YR kvs k v;lia
  refine wpAny_setItem_heap (hsz:=hz) (Xk G) (xC I.hok B) m λh' d p=>h _ ?_;obtain⟨q,es,ep,f,N,U,Y,_,h5⟩:=d;refine vS I (by rw[e];exact Zf) p ⟨q,f⟩ ⟨n,hd,_,(rel.put k B t).keeps λc ys C=>?_,q,es,ep,f,N,U,Y,h5⟩;rw[zl (cj C e (λz=>nomatch z))];exact C
end
section
variable {X:Cx}{pins:List (zC×Obj)}{σ:St}{H:Hp}{s:zG}{a:zC}{kvs:List (Key×V)}{k:Key}{u:zB}{A:jh}{E:zB->zG->Prop}
theorem BI {Q:zB->zG->Prop} (I:Inv X pins σ H s) (e:H a=some (.dK kvs)) (h:∀ d,Inv X pins σ (upd H a (.dK [])) d->Q .none d):wpAny (zI X.prog X.w) A (call (.builtin "dict.clear") [.ref a]) Q E s:=by
 obtain⟨z,hd,g,rel,f⟩:=Qb I.hok e;refine kZ PySem.F.slot_dict_clear f.typeIs PySem.F.entry_dict_clear (PySem.F.args_dict_clear_1 _) (meets_dict_clear (jJ X.prog X.w) a) ⟨g,f,by rw[<- rel.length];exact z,λh' c i=>h _ ?_⟩;have j:∃ q,h'.get? a=some q:=let ⟨q,_,_,l,_⟩:=c;⟨q,l⟩;exact vS (t':=s.toks) I (by rw[e];exact Zf) i j (K5 (ZJ _) hd .nil c)
theorem C9 {Q:zB->zG->Prop} (I:Inv X pins σ H s) (e:Rd H a (.dK kvs)) (h:∀ t c,Inv X pins σ H c->Q (.int kvs.length t) c):wpAny (zI X.prog X.w) A (call (.builtin "len") [.ref a]) Q E s:=by
 obtain⟨z,hd,f,rel,d⟩:=Q5 I.hok e;refine call_len_dict hd d (by rw[<- rel.length];rw[ZG] at z;lia) ?_;rw[<- rel.length];exact h _ _ (I.tok _)
end
theorem dC {X:Cx}{a:zC}{y:V} (I:Inv X d σ H s) (g:yT H a y o):s.TypeIs (.ref a) "dict" := by
 rcases g with ⟨kvs,k,e,_,_⟩ | ⟨kvs,k,b,e,_,_,_⟩
 ·obtain⟨_,_,f,_,c⟩:=Q5 I.hok e;exact c.typeIs
 ·obtain⟨_,_,xs,_,c⟩:=Jj I.hok e;exact c.typeIs
def CO (d ty e:TE):TS:=λD σ H=>e σ H λv f=>d σ f λx g=>ty σ g λy h=>∃ a c,x=.ref a/\xN h a y v c/\D.nx σ c
def JO (d ty e:TE) (f:V->V->Hp->VK->Prop):TS:=λD σ H=>d σ H λx g=>ty σ g λy c=>∃ a v,x=.ref a/\yT c a y (some v) /\
 e σ c λh i=>f v h i λz j=>∃ H5,xN j a y z H5/\D.nx σ H5
section
variable {X:Cx}{o i e value:zQ}{pos pos' tpos:Pos}{td ty tv:TE}
theorem D3 (d:X.A.units+1 < Za) (f:PE X o td) (hi:PE X i ty) (j:PE X value tv) (l:Q3 value (some (.Subscript o i pos')) pos.line X.env=pure false) :
  PS X (.Assign [.Subscript o i pos'] value pos) (CO td ty tv):=by
 intro c s σ H D I h;refine wpAny_Assign_Subscript (thn (j c s σ H _ I h) λr s1 ⟨v,m,n,p,q⟩=>thn (f c s1 σ m _ n q) λu t ⟨x,w,z,rx,B⟩=>thn (hi c t σ w _ z B) λL M ⟨y,N,C,ry,a,E,ex,g,G⟩=>?_) l;subst ex;obtain rfl:u=jY a:=rx;exact wc d C g ry p λQ J=>⟨σ,E,J,G⟩
theorem g8 (n:X.A.units+1 < Za) (p:PE X o td) (hi:PE X i ty) (q:PE X value tv) (j:Ck X r t)
  (ha:∀ f d new,augStore i f d new=(do holding [new,f,d] (kJ f d new);release [new,f,d] [];pure .next)):PS X (.AugAssign (.Subscript o i tpos) r value pos) (JO td ty tv t):=by
 intro c s σ H D I h;refine wpAny_AugAssign_SubscriptAny (thn (p c s σ H _ I h) λu s1 ⟨x,w,B,rx,C⟩=>thn (hi c s1 σ w _ B C) λd s2 ⟨y,E,G,ry,a,v,ex,g,J⟩=>?_) ha;subst ex;obtain rfl:u=jY a:=rx;refine wZ n G g ry λL M N l=>thn (q c M σ E _ N J) λQ U ⟨Y,H3,I4,m,q3⟩=>thn (j c U σ H3 v Y L Q _ I4 l m q3) λw3 s5 ⟨z,H4,I5,rz,H5,g5,q4⟩=>?_;exact wc n I5 g5 ry rz λs6 I6=>⟨σ,H5,I6,q4⟩
end
theorem wW {P:zi} (h:zT) (c:y7 < h.objs.size):jQ P w H (h.push { cls:=.type "dict",data:=.dict #[] }) h.objs.size (.dK []) :=
 ⟨ZJ _,beq_eq_false_iff_ne.mpr (jr (z4 c)),[],.nil,FE h⟩
def DB:TE:=λ_ H Q=>∀ p,H p=none->Q (.ref p) (upd H p (.dK []))
section
variable {X:Cx}{pos:Pos}
theorem eZ:PE X (.Dict [] [] pos) DB:=λc s σ H Q I h =>
 wpAny_Dict_empty ⟨.ref s.heap.objs.size,_,I.laid (a:=s.heap.objs.size) (o:=.dK []) (t':=s.toks) (λ_ _ q=>jK _ q) (zd _) (wW s.heap I.big),rfl,h _ (I.hok.fresh (zd _))⟩
end
noncomputable def vG:List (TE×TE)->St->Hp->(List (V×V)->Hp->Prop)->Prop
 | [],_,H,Q=>Q [] H
 | (tk,c)::r,σ,H,Q=>tk σ H λx d=>c σ d λy e=>vG r σ e λps f=>Q ((x,y)::ps) f
noncomputable abbrev VV:List (V×V)->List (zB×zB)->Prop:=Paired λp q=>zX p.1 q.1/\zX p.2 q.2
def PPs (X:Cx) (pos:Pos) (keys:List (Option zQ)) (c:List zQ) (e:List (TE×TE)):Prop :=
 ∀ (d:List (zC×Obj)) (s:zG) (σ:St) (H:Hp) (Q:List (V×V)->Hp->Prop),Inv X d σ H s->vG e σ H Q ->
  wpAny (zI X.prog X.w) X.A (evalPairs (pairTrees keys c X.env pos)) (λg h=>∃ ps f,Inv X d σ f h/\VV ps g/\Q ps f) X.xe s
theorem DU {X:Cx}:PPs X pos [] [] []:=λc s σ H Q I h=>pairTrees_nil_walk ⟨[],H,I,.nil,h⟩
theorem Ga {X:Cx}{k:zQ}{ks:List (Option zQ)}{tk:TE} (e:PE X k tk) (f:PE X v g) (i:PPs X pos ks j d) :
  PPs X pos (some k::ks) (v::j) ((tk,g)::d):=λc s σ H Q I h =>
 pairTrees_cons_walk (thn (e c s σ H _ I h) λu s1 ⟨x,l,m,rx,n⟩=>thn (f c s1 σ l _ m n) λA o ⟨y,p,q,ry,r⟩ =>
  thn (i c o σ p _ q r) λB C ⟨ps,t,w,rel,z⟩=>⟨(x,y)::ps,t,w,.cons ⟨rx,ry⟩ rel,z⟩)
noncomputable def xI (kvs more:List (Key×V)):List (Key×V):=more.foldl (λacc kv=>j4 acc kv.1 kv.2) kvs
theorem KV.merge:∀ {more:List (Key×V)}{d:List (Key×zB)}{kvs:List (Key×V)}{c:List (Key×zB)},KV more d->KV kvs c->KV (xI kvs more) (merged c d):=by
 intro more d kvs c r;unfold KV at r
 induction r generalizing kvs c with
 | nil=>intro q;exact q
 | @cons p q ps i h t f =>
  intro g;have e:KV (j4 kvs p.1 p.2) (stored c q.1 q.2):=by
   have:=g.put p.1 h.2;rw[<- h.1];exact this
  exact f e
theorem aY:∀ (more kvs:List (Key×V)),(xI kvs more).length <= kvs.length+more.length
 | [],kvs=>by show kvs.length <= kvs.length+0;lia
 | p::r,kvs=>by
  have c:=aY r (j4 kvs p.1 p.2);have d:=YR kvs p.1 p.2;show (xI (j4 kvs p.1 p.2) r).length <= _;rw[jU];lia
theorem ag {P:zi}:∀ {kvs:List (Key×V)}{e:List (zB×zB)},VV (kvs.map λkv=>(kV kv.1,kv.2)) e->∃ d,Carries (jJ P w) e d/\KV kvs d
 | [],_,r=>by rw[Qz] at r;cases r;exact⟨[],Zf,.nil⟩
 | p::kvs,_,r=>by
  rw[jF] at r;cases r with
  | @cons a b as bs h t =>
   obtain⟨d,c,q⟩:=ag (P:=P) (w:=w) t;obtain⟨g,f⟩:=b;exact⟨(p.1,f)::d,⟨Qd h.1,rfl,c⟩,.cons ⟨rfl,h.2⟩ q⟩
def Cy (c:List (TE×TE)):TE:=λσ H Q=>∀ p,H p=none->vG c σ (upd H p (.dK [])) λps d=>d p=some (.dK [])/\∃ kvs:List (Key×V),ps=kvs.map (λkv=>(kV kv.1,kv.2))/\kvs.length <= 15/\Q (.ref p) (upd d p (.dK (xI [] kvs)))
theorem Bi {X:Cx}{keys:List (Option zQ)} (h:PPs X pos keys d j) (f:keys.all (·.isSome)=true) (n:keys.length=d.length) (p:keys≠[])
  (l:keys.length <= 15):PE X (.Dict keys d pos) (Cy j):=by
 intro g s σ H Q I q;have r:=I.hok.fresh (zd s.heap.objs.size);have t:=I.laid (a:=s.heap.objs.size) (o:=.dK []) (h':=s.heap.push { cls:=.type "dict",data:=.dict #[] }) (t':=s.toks) (λ_ _ q=>jK _ q) (zd _) (wW s.heap I.big);refine wpAny_Dict_walk (knd:=jJ X.prog X.w) f n p l (thn (h g _ σ _ _ t (q _ r)) λL M ⟨ps,N,m,rel,e,kvs,ep,U,u⟩=>?_);subst ep;obtain⟨v,c,x⟩:=ag (P:=X.prog) (w:=X.w) rel;obtain⟨z,hd,y,A,B⟩:=Qb m.hok e;cases A;refine⟨v,c,B,λh' i C=>⟨.ref s.heap.objs.size,_,?_,rfl,u⟩⟩;have hz:(xI [] kvs).length <= zc:=by
  have E:=aY kvs [];rw[yy] at E;rw[ZG];lia
 have G:∃ q,h'.get? s.heap.objs.size=some q:=let ⟨q,_,_,J,_⟩:=i;⟨q,J⟩;exact vS m (by rw[e];exact Zf) C G (K5 hz hd (x.merge .nil) i) (by have z:=m.tk;(try dsimp only at z);(try dsimp only);lia)
structure M1 (X:Cx) (o:zQ) (m:Str) (apos:Pos) (e:zQ) (yB:Pos):Prop where
 base:Qg o m X.env (zu o X.env)=zu o X.env
 few:((yO yB (jd [e] X.env)).all (λx=>!x.1) && (KQ yB (KS [] X.env)).all (λx=>x.1.isSome)
  && decide (([e]:List zQ).length+([]:List Qv).length+(if ([]:List Qv).isEmpty then 0 else 1) < 30))=true
 line:(apos.endLine == yB.line)=true
 trees:yO yB (jd [e] X.env)=[(false,zu e X.env)]
structure M2 (X:Cx) (o:zQ) (m:Str) (apos:Pos) (e f:zQ) (yB:Pos):Prop where
 base:Qg o m X.env (zu o X.env)=zu o X.env
 few:((yO yB (jd [e,f] X.env)).all (λx=>!x.1) && (KQ yB (KS [] X.env)).all (λx=>x.1.isSome)
  && decide (([e,f]:List zQ).length+([]:List Qv).length+(if ([]:List Qv).isEmpty then 0 else 1) < 30))=true
 line:(apos.endLine == yB.line)=true
 trees:yO yB (jd [e,f] X.env)=[(false,zu e X.env),(false,zu f X.env)]
section
variable {X:Cx}{pins:List (zC×Obj)}{σ:St}{H:Hp}{s:zG}{a:zC}{y d:V}{u r:zB}{o:Option V}{A:jh}{E:zB->zG->Prop}
theorem GH {Q:zB->zG->Prop} (m:A.units+1 < Za) (I:Inv X pins σ H s) (g:yT H a y o) (ry:zX y u) (h:∀ i j,Inv X pins σ H j->zX (o.getD .non) i->Q i j) :
  wpAny (zI X.prog X.w) A (call (.builtin "dict.get") [.ref a,u]) Q E s:=by
 rcases g with ⟨kvs,k,e,f,l⟩ | ⟨kvs,k,b,e,f,n,l⟩
 ·subst f;obtain⟨z,hd,p,rel,c⟩:=Q5 I.hok e;refine kZ PySem.F.slot_dict_get c.typeIs PySem.F.entry_dict_get (PySem.F.args_dict_get_2 _ _) (meets_dict_get (jJ X.prog X.w) a (Qd ry) hd) ⟨_,c.mapOf,h _ _ (I.tok _) ?_⟩;rw[l];exact (rel.val k).getD rfl
 ·subst f;cases (show u=jY b from ry);obtain⟨z,hd,xs,rel,c⟩:=Jj I.hok e;refine kZ PySem.F.slot_dict_get c.typeIs PySem.F.entry_dict_get (PySem.F.args_dict_get_2 _ _) (meetsH_dict_get (xw (jJ X.prog X.w)) a b hd) ⟨Xk m,k,xs,xC I.hok n,c,h _ _ (I.tok _) ?_⟩;rw[l];exact (rel.val k).getD rfl
theorem Fm {Q:zB->zG->Prop} (n:A.units+1 < Za) (I:Inv X pins σ H s) (g:yT H a y o) (ry:zX y u) (i:zX d r) (h:∀ j m,Inv X pins σ H m->zX (o.getD d) j->Q j m) :
  wpAny (zI X.prog X.w) A (call (.builtin "dict.get") [.ref a,u,r]) Q E s:=by
 rcases g with ⟨kvs,k,e,f,l⟩ | ⟨kvs,k,b,e,f,p,l⟩
 ·subst f;obtain⟨z,hd,q,rel,c⟩:=Q5 I.hok e;refine kZ PySem.F.slot_dict_get c.typeIs PySem.F.entry_dict_get (PySem.F.args_dict_get_3 _ _ _) (meets_dict_get_default (jJ X.prog X.w) a (Qd ry) hd r) ⟨_,c.mapOf,h _ _ (I.tok _) ?_⟩;rw[l];exact (rel.val k).getD i
 ·subst f;cases (show u=jY b from ry);obtain⟨z,hd,xs,rel,c⟩:=Jj I.hok e;refine kZ PySem.F.slot_dict_get c.typeIs PySem.F.entry_dict_get (PySem.F.args_dict_get_3 _ _ _) (meetsH_dict_get_default (xw (jJ X.prog X.w)) a b hd r) ⟨Xk n,k,xs,xC I.hok p,c,h _ _ (I.tok _) ?_⟩;rw[l];exact (rel.val k).getD i
end
end L2
namespace Att
open PySem PySem.W PySem.Calls PyProof.Rows
theorem cJ {P:Params}:∀ (ns:List Int) (c:List zB),WellAll P h c (ns.map dW)->ve c ns:=by
 intro ns
 induction ns with
 | nil =>
  intro c w;rw[Qz] at w;cases w;exact .nil
 | cons n ns d =>
  intro c w;rw[jF] at w;cases w with
  | cons a b =>
   cases a;exact .cons _ _ (d _ b)
theorem bj {l:OpenLaw}{n:Nat} (t:l.most=some n) {P:Params}{args:List WData}
  (c:l.row.toRowW.claim.pre args=true) (m:WellAll P h e args) :
  ∃ a p ns,e=[jY a]/\args=[WData.list (ns.map dW)]/\h.get? a=some { cls:=.type "list",data:=.seq p.toArray }/\ve p ns/\ns.length <= n:=by
 have o:WShape.hasAll [] args [.list .int]=true:=(pre_splitW c).1;have s:l.pre.holds [] { args:=args }=true:=(pre_splitW c).2;obtain⟨d,r,rfl,u,v⟩:=hasAllW_cons o;obtain rfl:=hasAllW_nil v;obtain⟨xs,rfl,w⟩:=hasW_list u;obtain⟨ns,rfl⟩:=items_int w;have f:ns.length <= n:=by
  unfold OpenLaw.pre at s;have i:(WTm.not (.lt (.lit (.int (n:Int))) (.len (.arg 0)))).holds [] { args:=[.list (ns.map .int)] }=true:=by
   have i:=(holds_andW s).1;rw[t] at i;exact i
  have j:=condW_of i (w_not (w_lt w_lit (w_len_list (w_arg rfl))));rw[z9] at j;refine Nat.le_of_not_lt λq=>?_;have x:(n:Int) < ((ns.length:Nat):Int):=by lia
  first
   | (rw[decide_eq_true x] at j;exact absurd j (by decide))
   | (simp at j;lia)
 cases m with
 | cons y z =>
  cases z;cases y with
  | list A g=>exact⟨_,_,ns,rfl,rfl,A,cJ ns _ g,f⟩
theorem CU (l:OpenLaw) (args:List WData):l.row.toRowW.claim.post args (.bool true) args=true :=
 postW_of (r:=l.row.toRowW) (X:=(true == true))
  (show cK [] (.bool true) .bool=true by first | rfl | decide | simp[cK,WShape.arms,WShape.armsAll])
  (show (WTm.eq .res (.lit (.bool true))).value [] { args:=args,res:=some (.bool true),after:=args }=some (.bool (true == true)) from w_eq_bool (w_res rfl) w_lit) rfl
theorem Bv {l:OpenLaw}{n:Nat}{B:zy->zT->Prop}{d:DefRec}
  (I:l.most=some n) (v:d.params.defaults=[])
  (call:∀ (w:zy) (s₀ c:zG) (mg x:Str->Option zB) (j:zC) (o:Obj) (pm t e:zB) (a:zC) (i:List zB) (ns:List Int),
   Ground q g [] J w s₀ mg x c.heap->B w c.heap ->
   c.heap.get? j=some o->o.data=.func (docDef d.name d.params d.body d.scope pm t e)->c.heap.CodeRec t d.name->mg d.name=some (.ref j) ->
   c.heap.get? a=some { cls:=.type "list",data:=.seq i.toArray }->ve i ns->ns.length <= n->c.gens = #[] ->
   codeAny (zI l.prog w) xq (.call (.ref j) ⟨[.ref a],[]⟩) (λr u=>r=.ok (.ret (.bool true))/\OldK c.heap u.heap/\u.os=c.os/\Q4 u.gens) c) :
  WalkO q g J B l.row.toRowW d [] (λf i=>PySem.call f i):=by
 intro w s₀ c mg x G Y j o pm t e L kV M hd y C z N args E as m H Q A U;obtain rfl:L=.none:=Dflts.none C v;obtain rfl:kV=.none:=Dflts.noKw C;obtain⟨a,i,ns,rfl,rfl,p,h,s⟩:=bj I m A;refine enter_call (vJ (call w s₀ c mg x j o pm t e a i ns G Y M (fd_plain hd) y z p h s N) λr u hq=>?_);obtain⟨rfl,h2,h3,h4⟩:=hq;exact⟨.inl ⟨.bool true,.bool true,[],rfl,λ_=>rfl,.bool true,CU l _,λ_=>⟨Yo,λ_ hm=>(nomatch hm)⟩⟩,h2,h3,h4⟩
end Att
namespace L2
open PySem PySem.Spec PyProof.Rows
theorem Ul:∀ {c:List zB}{ns:List Int},ve c ns->za (ns.map V.int) c
 | _,_,.nil=>.nil
 | _,_,.cons n t h=>.cons ⟨t,rfl⟩ (Ul h)
def Kw (H:Hp):Prop:=∀ b,H b=none\/∃ o xs,H b=some (.frz o (.lst xs))
theorem gZ {P:zi}{K:PySem.W.Frag}{mg G:Str->Option zB}{k:Nat}{a:zC}{x:Str}{sp:Sp}{c:zG}{l:List zB}
  (U:K.In c.heap) (t:c.heap.Ns jx mg) (f:c.heap.Ns Aq G) (I:∀ x:Str,x ≠ "__name__" -> G x=j1 x) (y:c.heap.NoLimit) (hg:c.gens = #[])
  (ha:c.heap.get? a=some { cls:=.type "list",data:=.seq l.toArray }) (hi:ve l ns) (Y:ns.length <= zc) (hr:zx k xq)
  (F:∀ base:zT,K.In base->base.Ns jx mg->jc P w K mg base CX k fa fd [x] sp) (hT:fd.scope.names.lookup x=some .local) (p:∀ (s:zG) (u:zB),ko s fd ⟨[u],[]⟩ [(x,u)])
  (J:∀ H:Hp,Kw H->SqL K H a (ns.map V.int)->sp [.ref a] H (λv _=>v=.bl true) λ_ _ _=>False)
  (L:∀ H e g,CX [] H c (λ_ _ _=>False) e g->False) :
  codeAny (zI P w) xq (.call (.ref fa) ⟨[.ref a],[]⟩) (λr g=>r=.ok (.ret (.bool true))/\OldK c.heap g.heap/\g.os=c.os/\Q4 g.gens) c:=by
 have rv:=Ul hi;have A:=hi.length;have j:∀ H:Hp,Kw H->SqL K H a (ns.map V.int)->HOk P w H c.heap->(∀ b,H b≠none->b=a)->(H a≠none->K.lookup a=none) ->
   codeAny (zI P w) xq (.call (.ref fa) ⟨[.ref a],[]⟩) (λr g=>r=.ok (.ret (.bool true))/\OldK c.heap g.heap/\g.os=c.os/\Q4 g.gens) c:=by
  intro H hO hS hok hA hK;have base_of:∀ {b:zC}{o:Obj},c.heap.get? b=some o->H b=none->(Qj c.heap H).get? b=some o:=λe n=>CS e n;have M:∀ {b:zC}{o:Obj}{es:Array U6}{ep:Nat},c.heap.get? b=some o->o.data=.dict es ep->H b=none:=λ{b o es ep} e d=>by
   cases q:H b with
   | none=>rfl
   | some u =>
    have N:b=a:=hA b (by rw[q];simp);subst N;rw[ha] at e;cases e;have d':Data.seq l.toArray _=Data.dict es ep:=d;cases d'
  have i:∀ {b:zC}{m:Str->Option zB},c.heap.Ns b m->(Qj c.heap H).Ns b m:=λ{b m} ⟨o,es,ep,e,d,r⟩=>⟨o,es,ep,base_of e (M e d),d,r⟩
  have B:K.In (Qj c.heap H):=λb o e=>base_of (U b o e) (by
   cases q:H b with
   | none=>rfl
   | some u =>
    have N:b=a:=hA b (by rw[q];simp);subst N;rw[hK (by rw[q];simp)] at e;cases e)
  have hM:Mod K mg (Qj c.heap H):=⟨B,i t,⟨G,i f,I⟩,let ⟨mc,h1,h2⟩:=y;⟨mc,i h1,h2⟩⟩
  have e0:K1 P w K mg (Qj c.heap H) xq [] c H:=⟨rfl,hM,λb o e=>g9 e,XX (Bb _ _),trivial,λb f=>absurd (show b∈([]:List zC) from f) (by simp),hok,.of_eq hg⟩
  refine vJ ((F _ B (i t)).run xq [] c H ⟨[.ref a],[]⟩ [.ref a] [.ref a] _ _ hr e0 (.inr ⟨x,List.mem_singleton.mpr rfl,hT⟩) (p c (.ref a)) (.cons rfl .nil) (J H hO hS)) λr g h=>?_;cases r with
  | error e=>exact (L H e g h).elim
  | ok fl =>
   cases fl with
   | next=>exact jH h
   | brk=>exact jH h
   | cont=>exact jH h
   | ret u =>
    obtain⟨v,H',os,bare,un,C,r',q⟩:=h;have q':v=.bl true:=q;subst q';obtain rfl:u=AF true:=r';refine⟨rfl,OldK.of_keep λb o e=>?_,os,bare⟩;cases q:H b with
    | none=>exact un.keep b o e q (by intro z;exact absurd (show b∈([]:List zC) from z) (by simp)) (by simp)
    | some u =>
     rcases hO b with z | ⟨ob,xs,z⟩
     ·rw[q] at z;cases z
     ·have z2:=un.frzs b ob _ z;obtain⟨e1,_⟩:=hok b _ z;obtain⟨e2,_⟩:=C b _ z2;rw[e] at e1;cases e1;exact e2
 cases Q:K.lookup a with
 | some o =>
  have e:=U a o Q;rw[ha] at e;cases e;refine j (λ_=>none) (λ_=>.inl rfl) (.inr ⟨_,l.toArray,_,Q,rfl,rfl,rfl,by rw[jw,A];exact Y,by simpa using rv⟩) (λb u z=>by have E:(none:Option HO)=some u:=z;cases E) (λb z=>absurd rfl z) λz=>absurd rfl z
 | none =>
  refine j (λb=>if b=a then some (.frz { cls:=.type "list",data:=.seq l.toArray } (.lst (ns.map V.int))) else none) (λb=>?_) (.inl (.inr ⟨{ cls:=.type "list",data:=.seq l.toArray },if_pos rfl⟩)) (λb u z=>?_) (λb z=>?_) λ_=>Q
  ·by_cases f:b=a
   ·exact .inr ⟨_,_,if_pos f⟩
   ·exact .inl (if_neg f)
  ·by_cases f:b=a
   ·have E:=(if_pos f).symm.trans z;cases E;subst f;exact⟨ha,by rw[z9];exact Y,l,_,rv,ha⟩
   ·have E:=(if_neg f).symm.trans z;cases E
  ·by_cases f:b=a
   ·exact f
   ·exact absurd (if_neg f) z
end L2
namespace L2
open PySem PySem.Spec PyProof.Rows
theorem FH {l:PySem.W.OpenLaw}{n k:Nat}{E:zy->zT->Prop}{d:DefRec}{K:Params->PySem.W.Frag}{CX:zy->CXT}{sp:zy->Sp}{x:Str}
  (L:l.most=some n) (r:n <= zc) (t:d.params.defaults=[]) (M:zx k xq)
  (N:∀ (w:zy) (h:zT),E w h->(K w.params).In h)
  (F:∀ (w:zy) (mg:Str->Option zB) (p:zC) (h:zT),(K w.params).In h->h.Ns jx mg->mg d.name=some (.ref p) ->
   ∃ fd:Qw,(∀ (s:zG) (u:zB),ko s fd ⟨[u],[]⟩ [(x,u)])/\fd.scope.names.lookup x=some .local /\
    ∀ base:zT,(K w.params).In base->base.Ns jx mg->jc l.prog w (K w.params) mg base (CX w) k p fd [x] (sp w))
  (y:∀ (w:zy) (H:Hp) (a:zC) (ns:List Int),ns.length <= n->Kw H->SqL (K w.params) H a (ns.map V.int)->sp w [.ref a] H (λv _=>v=.bl true) λ_ _ _=>False)
  (z:∀ (w:zy) (H:Hp) (s:zG) (e:zB) (A:zG),CX w [] H s (λ_ _ _=>False) e A->False) :
  PySem.W.WalkO q B XP E l.row.toRowW d [] (λf I=>PySem.call f I):=by
 refine Att.Bv L t λw s₀ j mg mb p o pm cd Q a I ns G Y ho hd U C m i c hg=>?_;have J:=N w _ Y;obtain⟨fd,hb,hT,hF⟩:=F w mg p _ J G.T.g C;exact gZ J G.T.g G.T.b G.T.builtins G.T.nolimit hg m i (qD c r) M hF hT hb (λH hO hS=>y w H a ns c hO hS) λH e A=>z w H j e A
end L2
namespace L2
open PySem PySem.Spec PyProof.Rows
noncomputable def ym (s:zh):Arguments:=match s with
 | .FunctionDef _ a _ _ _ _ _ _ _ _=>a
 | _=>{ posonlyargs:=[],args:=[],vararg:=none,kwonlyargs:=[],kw_defaults:=[],kwarg:=none,defaults:=[] }
noncomputable def qm (s:zh):List zh:=match s with
 | .FunctionDef _ _ b _ _ _ _ _ _ _=>b
 | _=>[]
noncomputable def z3 (s:zh):ZZ:=match s with
 | .FunctionDef _ _ _ _ _ _ c _ _ _=>c
 | _=>{ kind:=.function,names:=[],isGenerator:=false,isCoroutine:=false }
abbrev CX0:CXT:=λ_ _ _ _ _ _=>False
abbrev E0:XK:=λ_ _ _=>False
theorem UW {X:Cx}:X0 CX0 X E0:=λ_ _ _ _ _ _ _ h=>h.elim
structure Fun (K:PySem.W.Frag) (x qual:Str) (st:zh) (f:zC) (fd:Qw):Prop where
 ex:∃ (oc:zB) (od:Option zC) (kV doc pm:zB) (an:Option zC) (cdv ct:zB) (osl:Array (Option zB)),
  fd=PySem.W.fnOf x qual (ym st) (qm st) (z3 st) .none kV doc pm an cdv ct/\K.lookup f=some ⟨oc,od,.func fd,osl⟩/\PySem.W.codeIn K cdv qual=true
 kp:PySem.W.keepIn K (.ref f)=true
section
variable {P:zi}{w:zy}{K:PySem.W.Frag}{mg:Str->Option zB}{base:zT}
theorem Fun.ok {st:zh}{k:Nat}{sp:Sp} (F:Fun K x qual st f fd) (S:qO N ps (z3 st)) (len:∀ d H Q E,sp d H Q E->d.length=ps.length)
  (e:∀ (c:zB) (A:jh) (outer:List Env) (s:zG) (H:Hp) (d:List V) (Q:VK) (E:XK),zx k (A.deeper (ZM qual (z3 st) s.heap.objs.size f c))->sp d H Q E ->
   ∃ t,PSs (Ze CX0 P w K mg base N qual (z3 st) f c A outer s H E).nox (qm st) t/\t { nx:=λ_ j=>Q .non j,rt:=Q } (start N d) H):jc P w K mg base CX0 (k+1) f fd ps sp:=by
 obtain⟨p,r,kV,l,pm,u,c,ct,m,rfl,n,g⟩:=F.ex;refine Fs n g S len λA outer s H d Q E o i=>?_;obtain⟨t,h,q⟩:=e c A outer s H d Q E o i;exact⟨t,h.nox,q⟩
theorem Fun.binds {st:zh}{ps:List Str} (F:Fun K x qual st f fd)
  (h:∀ (kV c pm:zB) (e:Option zC) (d ct:zB) (us:List zB),us.length=ps.length->Ja (PySem.W.fnOf x qual (ym st) (qm st) (z3 st) .none kV c pm e d ct) ⟨us,[]⟩=pure (ps.zip us)):QJ K fd ps []:=by
 obtain⟨j,l,kV,c,pm,e,d,ct,g,rfl,m,i⟩:=F.ex;exact .all (h kV c pm e d ct)
theorem YE {st:zh}{f:zC}{h:zB}{i:Option zC}{e:Array (Option zB)}{kV pm:zB} (l:K.lookup f=some ⟨h,i,.func (PySem.W.fnOf x qual (ym st) (qm st) (z3 st) .none kV g pm j d ct),e⟩)
  (c:PySem.W.codeIn K d qual=true) (k:PySem.W.keepIn K (.ref f)=true):Fun K x qual st f (PySem.W.fnOf x qual (ym st) (qm st) (z3 st) .none kV g pm j d ct):=⟨⟨h,i,kV,g,pm,j,d,ct,e,rfl,l,c⟩,k⟩
end
theorem KE {k:Nat} (c:zx k A):A.units+1 < Za:=fz (Nat.add_le_add_left (by decide:1 <= 64) _) c.units
section
variable {X:Cx}
theorem pv (i:Nat) {x:Str}{pos:Pos} (d:X.N[i]? = some x:=by rfl) (e:Vis X.env.scope x:=by first | exact zb rfl | exact ZN (zb rfl) | exact ZN (ZN rfl)) (hd:(x == ("__debug__" : Str))=false:=by decide)
  (c:(x == ("__classdict__" : Str))=false:=by decide):PE X (.Name x pos) (Up i):=Ap d e hd c
end
theorem kM {A B:Prop} (h:B):if false=true then A else B:=by
 rw[if_neg jt];exact h
theorem kz {A B:Prop} (h:A):if true=true then A else B:=by
 rw[if_pos rfl];exact h
end L2
namespace L2
open PySem PySem.Spec PyProof.Rows
section
variable {X:Cx}
theorem Bm:qX X (.builtin "len") (λxs H Q=>∃ a kvs,xs=[V.ref a]/\H a=some (.dK kvs)/\Q (.int kvs.length) H):=by
 intro c s σ H xs us Q I r h;obtain⟨a,kvs,rfl,ha,q⟩:=h;obtain⟨u,rfl,d⟩:=y6 r;cases d;exact C9 I (.inl ha) λt f e=>⟨.int kvs.length,H,e,⟨t,rfl⟩,q⟩
end
end L2
set_option maxHeartbeats 4000000
namespace L2
open PySem PySem.Spec PyProof.Rows
noncomputable abbrev jT (X:Cx) (vars:List Str) (scope:ZZ) (cl:List (Str×zC)) (C:zC) (e:List zC) (c:zG) (d:Hp):Cx where
 prog:=X.prog
 w:=X.w
 K:=X.K
 mg:=X.mg
 base:=X.base
 A:=X.A
 N:=X.N++vars
 s₀:=c
 H₀:=d
 env:=Zu scope cl C X.env
 outer:=X.stack
 stack:=X.stack
 ex:=e
 fn:=λ_=>false
 calm:=X.calm
 pn:=[]
 xe:=λ_ _=>False
noncomputable def KL (cells:List (Str×zC)):List (Str×zC)->Prop
 | []=>True
 | p::r=>cells.lookup p.1=some p.2/\KL cells r
theorem KL.get {cells:List (Str×zC)}:∀ {cl:List (Str×zC)}{x:Str}{c:zC},KL cells cl->cl.lookup x=some c->cells.lookup x=some c
 | [],_,_,_,e=>by simp at e
 | (y,d)::r,x,c,h,e=>by
  cases f:x == y with
  | true =>
   simp only[yz,f] at e;have g:x=y:=eq_of_beq f;subst g;rw[<- e];exact h.1
  | false =>
   simp only[yz,f] at e;exact KL.get h.2 e
noncomputable def okK (on:List (Str×xT)) (vars:List Str) (cl:List (Str×zC)) (x:Str):xT->Bool
 | .local=>x == (".0" : Str) || vars.contains x
 | .cell=>false
 | .free=>(cl.lookup x).isSome && (on.lookup x == some .cell || on.lookup x == some .free)
 | _=>true
structure yd (X:Cx) (vars:List Str) (scope:ZZ) (cl:List (Str×zC)):Prop where
 kind:scope.kind=.function
 clos:closureFor scope X.env=pure cl
 dis:(vars.all λx=>!X.N.contains x)=true
 zero:X.N.contains (".0" : Str)=false
 names:∀ y∈scope.names,y.2=.local->scope.names.lookup y.1=some .local
 cells:KL X.env.cells cl
 ok:(scope.names.all λp=>okK X.env.scope.names vars cl p.1 p.2)=true
theorem u1 {env:Env}{x:Str}:∀ {names:List (Str×xT)},
  (names.map λ(n,k)=>if (k == xH && env.scope.kind == .function && env.kindOf n == some .cell) then (n,XN) else (n,k)).lookup x =
   (names.lookup x).map λk=>if (k == xH && env.scope.kind == .function && env.kindOf x == some .cell) then XN else k
 | []=>rfl
 | (n,k)::r=>by
  have f:=@u1 env x r;show List.lookup x ((if (k == xH && env.scope.kind == .function && env.kindOf n == some .cell)=true then (n,XN) else (n,k))::_)=_;cases d:x == n with
  | true =>
   have e:x=n:=eq_of_beq d;subst e;by_cases c:(k == xH && env.scope.kind == .function && env.kindOf x == some .cell)=true
   ·rw[if_pos c];simp only[yz,d,xp,if_pos c]
   ·rw[if_neg c];simp only[yz,d,xp,if_neg c]
  | false =>
   by_cases c:(k == xH && env.scope.kind == .function && env.kindOf n == some .cell)=true
   ·rw[if_pos c];simp only[yz,d];exact f
   ·rw[if_neg c];simp only[yz,d];exact f
section
variable {X:Cx}{vars:List Str}{scope:ZZ}{cl:List (Str×zC)}{C D:zC}{fp:List zC}{j6:zG}{H:Hp}{pins:List (zC×Obj)}{σ:St}
theorem yd.okAt (S:yd X vars scope cl) {x:Str}{k:xT} (h:scope.names.lookup x=some k):okK X.env.scope.names vars cl x k=true:=by
 have:=List.all_eq_true.mp S.ok (x,k) (PySem.mem_of_lookup h);exact this
theorem yd.noCell (S:yd X vars scope cl):∀ y∈scope.names,y.2≠.cell:=λy c e=>by
 have h:=List.all_eq_true.mp S.ok y c;rw[e] at h;exact absurd (show false=true from h) jt
theorem yd.freeOf (S:yd X vars scope cl) {x:Str} (h:(Zu scope cl C X.env).kindOf x=some .cell\/(Zu scope cl C X.env).kindOf x=some .free):scope.names.lookup x=some .free:=by
 have e:(Zu scope cl C X.env).kindOf x=(scope.names.lookup x).map λk=>if (k == xH && X.env.scope.kind == .function && X.env.kindOf x == some .cell) then XN else k:=u1
 rw[e] at h;cases q:scope.names.lookup x with
 | none=>rw[q] at h;simp at h
 | some k =>
  rw[q] at h;by_cases c:k=.free
  ·rw[c]
  ·have d:(k == xH)=false:=by simpa using c
   simp only[xp,d,Eh,jW,if_false,fX] at h;rcases h with h | h
   ·subst h;exact absurd rfl (S.noCell (x,.cell) (PySem.mem_of_lookup q))
   ·exact absurd h c
theorem yd.localOf (S:yd X vars scope cl) {x:Str} (h:(Zu scope cl C X.env).kindOf x=some .local):scope.names.lookup x=some .local:=by
 have e:(Zu scope cl C X.env).kindOf x=(scope.names.lookup x).map λk=>if (k == xH && X.env.scope.kind == .function && X.env.kindOf x == some .cell) then XN else k:=u1
 rw[e] at h;cases q:scope.names.lookup x with
 | none=>rw[q] at h;simp at h
 | some k =>
  rw[q] at h;simp only[xp,fX] at h;split at h
  ·cases h
  ·rw[h]
theorem CB (I:Inv X pins σ H j6) (S:yd X vars scope cl) (B:∀ b∈fp,Z3 X pins H b) (G:∀ b∈fp,∃ o,j6.heap.get? b=some o)
  {f:zT}{tk:Nat} (J:j6.heap.objs.size <= D) (L:j6.heap.objs.size <= C) (M:D≠C) {E:Obj} (eD:f.get? D=some E) (cD:∀ v,E.data≠.cell v) {m:Str->Option zB} (hn:f.Ns C m)
  (old:∀ b o,j6.heap.get? b=some o->f.get? b=some o) (ht:0 < tk:=by first | exact yf _ | assumption | exact Inv.tk (by assumption) | lia) :
  Inv (jT X vars scope cl C fp j6 H) [(D,E)] (σ++zq vars.length none) H { j6 with heap:=f,toks:=tk }:=by
 have w:∀ b∈fp,b∉frs X.stack:=λb j z=>by
  rcases List.mem_cons.mp (I.stkSub b z) with e | e
  ·exact (B b j).2.1 e
  ·exact (B b j).2.2.1 e
 have d:∀ x c,cl.lookup x=some c->X.env.cells.lookup x=some c:=λx c e=>S.cells.get e;have Q:∀ b∈fp,b < j6.heap.objs.size:=λb j=>by
  obtain⟨o,e⟩:=G b j;exact zm e
 have ok:(jT X vars scope cl C fp j6 H).Ok:=by
  refine⟨I.ok.mod,S.kind,I.ok.glob,I.ok.blt,L,λx y c U n=>I.ok.inj x y c (d x c U) (d y c n),λx hx=>?_,λx c h _=>absurd (show false=true from h) jt,I.ok.hd,I.ok.frames,.inl rfl,
   λb j=>⟨z4 (jR (Q b j) L),λx c e z=>(B b j).2.2.2.2.1 x c (d x c e) z⟩,I.bs,qD I.ok.bsz I.sz,λb o e j=>?_,w,I.stack,I.stkFree⟩
  ·have q:=S.okAt (S.freeOf (C:=C) hx);have g:((cl.lookup x).isSome && (X.env.scope.names.lookup x == some .cell || X.env.scope.names.lookup x == some .free))=true:=q;rw[jl] at g;exact Option.isSome_iff_exists.mp g.1
  ·rcases (B b j).2.2.2.1 with z | z
   ·exact I.ok.noex b o e z
   ·exact absurd (jR (zm e) (qD I.ok.bsz z)) (Zy _)
 have Y:D∉frs X.stack:=λz=>by
  rcases List.mem_cons.mp (I.stkSub D z) with e | e
  ·exact absurd (jR (e ▸ I.lt) J) (Zy _)
  ·exact I.nofs J e
 refine⟨ok,rfl,I.bare,Un.kept old,⟨m,hn,λi x v U n A=>?_⟩,λx c e=>?_,I.hok.fresh L,λx c e=>I.freeC x c (d x c e),λp hp=>?_,I.hok.kept old,?_,ht⟩
 ·have hlen:=I.len;have s:(X.N++vars)[i]? = some x:=U;by_cases hi:i < σ.length
  ·rw[qF (by lia)] at s;rw[qF hi] at n;have t:X.N.contains x=true:=by
    rw[List.contains_iff_exists_mem_beq];exact⟨x,yn s,by simp⟩
   have hk:(Zu scope cl C X.env).kindOf x=some .cell\/(Zu scope cl C X.env).kindOf x=some .free:=by
    rcases A with A | A
    ·have q:=S.okAt (S.localOf (C:=C) A);have g:(x == (".0" : Str) || vars.contains x)=true:=q;rw[vx] at g;rcases g with g | g
     ·have e0:x=(".0" : Str):=eq_of_beq g;rw[e0,S.zero] at t;cases t
     ·have q2:=List.all_eq_true.mp S.dis x (by simpa using g);rw[t] at q2;cases q2
    ·exact A
   have q:=S.okAt (S.freeOf (C:=C) hk);have g:((cl.lookup x).isSome && (X.env.scope.names.lookup x == some .cell || X.env.scope.names.lookup x == some .free))=true:=q;rw[jl,vx] at g;obtain⟨c,hc⟩:=Option.isSome_iff_exists.mp g.1;have ho:X.env.scope.names.lookup x=some .cell\/X.env.scope.names.lookup x=some .free:=by
    rcases g.2 with z | z
    ·exact .inl (eq_of_beq z)
    ·exact .inr (eq_of_beq z)
   obtain⟨m0,_,hl⟩:=I.loc;obtain⟨u,r,l⟩:=hl i x v s n (.inr ho);refine⟨u,r,.inr ⟨hk,c,hc,?_⟩⟩;rcases l with ⟨l1,_⟩ | ⟨_,c',e',o,eo,ed⟩
   ·have l2:X.env.scope.names.lookup x=some .local:=l1;rcases ho with z | z
    ·rw[l2] at z;cases z
    ·rw[l2] at z;cases z
   ·rw[d x c hc] at e';cases e';exact⟨o,old _ _ eo,ed⟩
  ·rw[jP (by lia),Ky] at n;split at n<;>cases n
 ·obtain⟨v,o,eo,ed⟩:=I.cell x c (d x c e);exact⟨v,o,old _ _ eo,ed⟩
 ·have e:p=(D,E):=by simpa using hp
  subst e;exact⟨eD,I.hok.fresh J,M,Y,cD⟩
 ·show (σ++zq vars.length none).length=(X.N++vars).length;rw[jy,jy,gD,I.len]
end
def Zp (X:Cx) (e:List zQ) (t:TT):Prop :=
 ∀ (d:List (zC×Obj)) (s:zG) (σ:St) (H:Hp) (Q:Bool->Hp->Prop),Inv X d σ H s->t σ H Q ->
  wpAny (zI X.prog X.w) X.A (forIn e true λc r=>if r=true then do let ok <- isTrue c X.env (zu c X.env);pure (kn ok) else pure (kn r)) (TP X d σ Q) X.xe s
def je:TT:=λ_ H Q=>Q true H
theorem Dz {X:Cx}:Zp X [] je:=λ_ _ _ H _ I h=>wpAny_tests_nil ⟨H,I,h⟩
theorem gG {X:Cx} (h:PT X c t):Zp X [c] t:=λd s σ H Q I hw=>wpAny_tests_one (h d s σ H Q I hw)
def Wk (σ c:St):Prop:=σ.length=c.length/\∀ (i:Nat) v,σ[i]? = some (some v)->c[i]? = some (some v)
def Ye (n:Nat) (h:TI) (g:TG) (ti:TT) (te:TE):TE:=λσ H Q=>h σ H λJ j=>∃ W:Nat->Nat->List V->Hp->Prop,(∃ m,W 0 m [] j)/\∀ i m ys d,W i m ys d->ys.length <= zc /\
 ((J.stop i d/\∀ D,d D=none->Q (.ref D) (upd d D (.lst ys))) \/
  (J.go i d/\∀ x f,J.yld i d x f->g x (σ++zq n none) f λc l=>Wk (σ++zq n none) c/\ti c l λb H5 =>
   if b=true then te c H5 λy H6=>∃ e,e < m/\W (i+1) e (ys++[y]) H6 else ∃ e,e < m/\W (i+1) e ys H5))
theorem Inv.track {X:Cx}{D:zC} (I:Inv X d σ H s) (i:X.s₀.heap.objs.size <= D) (j:H D=none) (l:D≠X.env.locals)
  (g:∀ x c,X.env.cells.lookup x=some c->c≠D) (m:∀ p∈X.pn++d,p.1≠D) (new:jQ X.prog X.w (upd H D o) s.heap D o):Inv X d σ (upd H D o) s:=by
 have ne:∀ {b u},H b=some u->b≠D:=λe z=>by rw[z,j] at e;cases e
 refine⟨I.ok,I.os,I.bare,⟨I.base.keep,I.base.slot,λb ob e n r=>?_,I.base.there,λb xs e=>?_,λb ob u e=>?_,λb ps e=>?_⟩,I.loc,I.cell,?_,λx c e=>?_,λp f=>?_,λb u e=>?_,I.len,I.tk⟩
 ·rw[zl (z4 (jR (zm e) i))];exact I.base.free b ob e n r
 ·have q:=I.base.tups b xs e;rw[zl (ne q)];exact q
 ·have q:=I.base.frzs b ob u e;rw[zl (ne q)];exact q
 ·obtain⟨mo,q⟩:=I.base.tbls b ps e;exact⟨mo,by rw[zl (ne q)];exact q⟩
 ·rw[zl (jr l)];exact I.free
 ·rw[zl (g x c e)];exact I.freeC x c e
 ·obtain⟨t,v,y,A,B⟩:=I.pin p f;exact⟨t,by rw[zl (m p f)];exact v,y,A,B⟩
 ·by_cases h:b=D
  ·subst h;rw[ju] at e;cases e;exact new
  ·rw[zl h] at e;exact (I.hok b u e).stay (λ_ _ _ q=>q) (λc q=>by rw[zl (ne q)];exact q) λc xs q=>by rw[zl (ne q)];exact q
noncomputable abbrev QR (us:List zB) (n:Nat):Obj:={ cls:=.type "list",data:=.seq us.toArray n }
section
variable {X:Cx}{vars:List Str}{scope:ZZ}{cl:List (Str×zC)}{C D it:zC}{fp:List zC}{j6:zG}{yu:Hp}{tg elt iter:zQ}{ifs:List zQ}{pos:Pos}{J:It}{tn:Nat->zT->Prop}
 {g:TG}{ti:TT}{te:TE}{R:xU->zG->Prop}
theorem b8 (hc:X.calm=true) (T:Qn X.prog X.w X.K tg J fp it tn) (hg:PG (jT X vars scope cl C fp j6 yu) tg g) (hi:Zp (jT X vars scope cl C fp j6 yu) ifs ti) (he:PE (jT X vars scope cl C fp j6 yu) elt te)
  {h:St} (W:Nat->Nat->List V->Hp->Prop) {F:List V->Hp->Prop} (hD0:j6.heap.objs.size <= D) (hDC:D≠C) (hDs:D∉frs X.stack) (hDc:∀ x c,cl.lookup x=some c->c≠D)
  (hS:∀ b∈fp,b≠C/\b∉frs X.stack/\(∀ x c,cl.lookup x=some c->c≠b)/\D≠b)
  (turn:∀ i m ys H,W i m ys H->ys.length <= zc/\((J.stop i H/\F ys H) \/
   (J.go i H/\∀ x H3,J.yld i H x H3->g x h H3 λN H4=>Wk h N/\ti N H4 λb H5 =>
    if b=true then te N H5 λy H6=>∃ G,G < m/\W (i+1) G (ys++[y]) H6 else ∃ G,G < m/\W (i+1) G ys H5)))
  (hR:∀ s' ys us n H,Inv (jT X vars scope cl C fp j6 yu) [(D,QR us n)] h H s'->za ys us->ys.length <= zc->F ys H->R (.ok .next) s')
  {n0:Nat} (I0:Inv (jT X vars scope cl C fp j6 yu) [(D,QR [] n0)] h H0 s) (st0:tn 0 s.heap) (f0:∀ b∈fp,H0 b=none) (w0:W 0 m0 [] H0) :
  codeAny (zI X.prog X.w) X.A (.compLoop (.ListComp elt [⟨tg,iter,ifs,0⟩] scope pos) 0 (.ref it) (.ref D) (Zu scope cl C X.env)) R s:=by
 have E:∀ {B:Hp}{o:Obj},(∀ b∈fp,B b=none)->∀ b∈fp,Z3 (jT X vars scope cl C fp j6 yu) [(D,o)] B b:=λ{B o} hn b l =>
  ⟨hn b l,(hS b l).1,(hS b l).2.1,.inl l,(hS b l).2.2.1,λp j=>by
   have e:p=(D,o):=by simpa using j
   subst e;exact (hS b l).2.2.2⟩
 refine codeAny_loop rfl (λn s=>∃ i ys us Y B,Inv (jT X vars scope cl C fp j6 yu) [(D,QR us Y)] h B s/\za ys us/\tn i s.heap/\(∀ b∈fp,B b=none)/\W i n ys B) (λn s hI=>?_) m0 ⟨0,[],[],n0,H0,I0,.nil,st0,f0,w0⟩;show wpAny _ X.A ((compTurn (.ListComp elt [⟨tg,iter,ifs,0⟩] scope pos) 0 (.ref it) (.ref D) (Zu scope cl C X.env)).onRaise (λx=>do noteFrame x (Zu scope cl C X.env);theTreesLotGoes x)) _ _ s;refine wpAny_noted ?_;rw[compTurn_list];obtain⟨i,ys,us,Y,B,I,rv,st,fr,w⟩:=hI;obtain⟨hz,tt⟩:=turn i n ys B w;refine wpAny_bind (Vt (wpAny_bind ?_));rcases tt with ⟨stop,q⟩ | ⟨go,q⟩
 ·refine wpAny_mono (T.done (jT X vars scope cl C fp j6 yu) rfl rfl rfl hc i _ s h B _ I (E fr) st stop) (λr s1 ⟨hr,I1⟩=>?_) (λ_ _ e=>e);subst hr;exact wpAny_pure (hR s1 ys us Y B I1 rv hz q)
 ·refine wpAny_mono (T.item (jT X vars scope cl C fp j6 yu) rfl rfl rfl hc i _ s h B _ I (E fr) st go) (λr s1 ⟨u,hr,h1⟩=>?_) (λ_ _ e=>e);subst hr;refine wpAny_bind (wpAny_mono h1 (λ_ Q ⟨x,H3,I3,r3,y3,st3,fr3⟩=>?_) (λ_ _ e=>e));have I3':=I3.pinned (E fr3) (T.obj _ _ st3);refine wpAny_bind (wpAny_mono (hg _ Q h H3 x u _ I3' r3 (q x H3 y3)) (λ_ s3 ⟨t,H4,I4,wk,q4⟩=>?_) (λ_ _ f=>jH f));refine wpAny_bind (wpAny_mono (hi _ s3 t H4 _ I4 q4) (λb s4 ⟨H5,I5,q5⟩=>?_) (λ_ _ f=>jH f));have L:∀ {U:zG}{H7:Hp}{o:Obj},Inv (jT X vars scope cl C fp j6 yu) ((D,o)::QH fp Q.heap) t H7 U->tn (i+1) U.heap/\∀ b∈fp,H7 b=none:=λ{U H7 o} M=>by
   refine⟨T.keep _ _ _ st3 λb l ob e=>(M.pin (b,ob) (qw _ (jV _ (K8 l e)))).1,λb l=>?_⟩;obtain⟨ob,e,d⟩:=T.obj _ _ st3 b l;exact (M.pin (b,ob) (qw _ (jV _ (K8 l e)))).2.1
  have one:∀ {U:zG}{H7:Hp}{o:Obj},Inv (jT X vars scope cl C fp j6 yu) ((D,o)::QH fp Q.heap) t H7 U->Inv (jT X vars scope cl C fp j6 yu) [(D,o)] h H7 U:=λ{U H7 o} M =>
   (M.pins_of (pins':=[(D,o)]) λp j=>by
    have e:p=(D,o):=by simpa using j
    subst e;exact M.pin (D,o) (qw _ jI)).weak wk.1 wk.2
  cases b with
  | false =>
   obtain⟨G,hm,w'⟩:=q5;obtain⟨b1,b2⟩:=L I5;exact wpAny_pure ⟨rfl,G,hm,i+1,ys,us,Y,H5,one I5,rv,b1,b2,w'⟩
  | true =>
   refine wpAny_bind (wpAny_bind (wpAny_mono (he _ s4 t H5 _ I5 q5) (λv s5 ⟨y,H6,I6,r6,q6⟩=>?_) (λ_ _ f=>jH f)));obtain⟨G,hm,w'⟩:=q6;obtain⟨eD,nD,_,_,_⟩:=I6.pin (D,QR us Y) (qw _ jI);have hul:us.toArray.size <= zc:=by rw[jw,<- rv.length];exact hz
   refine wpAny_bind (wpAny_list_append_plain (hsz:=hul) ⟨Y,eD⟩ λh' j hs=>wpAny_pure (wpAny_pure ⟨rfl,?_⟩));obtain⟨n',j⟩:=j;have hp':h'.get? D=some (QR (us++[v]) n'):=by rw[j];simp
   have M:Inv (jT X vars scope cl C fp j6 yu) (QH fp Q.heap) t H6 { s5 with heap:=h',toks:=s5.toks }:=by
    refine Inv.turned (it:=D) (I6.pins_of (pins':=QH fp Q.heap) λp j=>I6.pin p (qw _ (jV _ j))) (λb o l e=>(hs.2 b l).trans e) nD hDC (.inr hD0) (λx c e=>hDc x c e) λp j=>?_;have hp2:p∈QH fp Q.heap:=by simpa using j
    exact jr (hS p.1 (AG hp2).1).2.2.2
   have I8:Inv (jT X vars scope cl C fp j6 yu) ((D,QR (us++[v]) n')::QH fp Q.heap) t H6 { s5 with heap:=h',toks:=s5.toks }:=M.pins_of λp j=>by
    rcases List.mem_cons.mp j with rfl | j
    ·exact⟨hp',nD,hDC,hDs,λv z=>by cases z⟩
    ·exact M.pin p (qw _ j)
   obtain⟨b1,b2⟩:=L I8;exact⟨G,hm,i+1,ys++[y],us++[v],n',H6,one I8,rv.append (.cons r6 .nil),b1,b2,w'⟩
end
section
variable {X:Cx}{vars:List Str}{scope:ZZ}{cl:List (Str×zC)}{tg elt iter:zQ}{ifs:List zQ}{pos:Pos}{wi:TI}{g:TG}{ti:TT}{te:TE}
theorem Uy (hc:X.calm=true) (S:yd X vars scope cl) (hg:∀ C U s t,PG (jT X vars scope cl C U s t) tg g) (ht:∀ C U s t,Zp (jT X vars scope cl C U s t) ifs ti)
  (he:∀ C U s t,PE (jT X vars scope cl C U s t) elt te) {F:zC->Hp->Prop}{RR:zB->zC->xU->zG->Prop}
  (h2:PIE X d σ tg (λJ H1=>∃ W:Nat->Nat->List V->Hp->Prop,(∃ m,W 0 m [] H1)/\∀ i m ys Y,W i m ys Y->ys.length <= zc /\
   ((J.stop i Y/\∀ D,Y D=none->F D (upd Y D (.lst ys))) \/
    (J.go i Y/\∀ x H3,J.yld i Y x H3->g x (σ++zq vars.length none) H3 λσ2 H4=>Wk (σ++zq vars.length none) σ2/\ti σ2 H4 λb H5 =>
     if b=true then te σ2 H5 λy H6=>∃ m',m' < m/\W (i+1) m' (ys++[y]) H6 else ∃ m',m' < m/\W (i+1) m' ys H5))) itv f)
  (hRR:∀ D C M L,(∃ m,M.heap.Ns C m)->C≠X.env.locals->(∀ x c,X.env.cells.lookup x=some c->c≠C)->Inv X d σ L M->(∀ (h':zT),kh C M.heap h'->∀ (s'':zG),s''={ M with heap:=h' }->Inv X d σ L s'') ->
   (∀ (σ':St) (s3:zG),Inv X d σ' L s3->(∃ a,kh a M.heap s3.heap/\(a=X.env.locals\/∃ x,X.env.cells.lookup x=some a))->∀ (h':zT),kh C s3.heap h'->Inv X d σ' L { s3 with heap:=h' }) ->
   F D L->RR (.ref D) C (.ok .next) M) :
  wpAny (zI X.prog X.w) X.A (newList []) (λacc u=>wpAny (zI X.prog X.w) X.A (Wv scope X.env.globals cl [] X.env.qual none .none (some X.env)) (λcenv s₄ =>
   codeAny (zI X.prog X.w) X.A (.compStart (.ListComp elt [⟨tg,iter,ifs,0⟩] scope pos) 0 itv acc { cenv with scope:=relabel scope X.env }) (RR acc cenv.locals) s₄) E u) E f:=by
 obtain⟨it,U,tn,J,Y,e,H,T,st2,f2,W,⟨m0,w0⟩,turn⟩:=h2;subst e;refine kf (wpAny_newFunctionEnv S.noCell (by intro y hy;simp at hy) (λB r j=>?_) S.kind);dsimp only at r j ⊢;generalize hH2:f.heap.push { cls:=.type "list",dict:=none,data:=.seq ([]:List zB).toArray }=I at r j ⊢;have hC:I.objs.size=f.heap.objs.size+1:=by rw[<- hH2,QT]
 have hDC:f.heap.objs.size≠I.objs.size:=by rw[hC];exact z4 (xS _)
 have l:f.heap.objs.size <= I.objs.size:=by rw[hC];exact kU _
 have N:∀ b,b < f.heap.objs.size->b≠I.objs.size/\b≠f.heap.objs.size:=λb h=>⟨by rw[hC];exact z4 (xK h),z4 h⟩
 have old:∀ b o,f.heap.get? b=some o->B.get? b=some o:=λb o e=>j.extBut b o (N b (zm e)).1 (jK _ (hH2 ▸ jK _ e));have hacc:B.get? f.heap.objs.size=some (QR [] 0):=j.extBut _ _ hDC (jK _ (hH2 ▸ qU _ rfl));have G:tn 0 B:=T.keep _ _ _ st2 λb _ o e=>old b o e;have hob:∀ b∈U,∃ o,f.heap.get? b=some o:=λb h=>by
  obtain⟨o,e,_⟩:=T.obj _ _ st2 b h;exact⟨o,e⟩
 have fpl:∀ b∈U,b < f.heap.objs.size:=λb h=>by
  obtain⟨o,e⟩:=hob b h;exact zm e
 have cget:∀ x c,cl.lookup x=some c->X.env.cells.lookup x=some c:=λx c e=>S.cells.get e;have Q:∀ x c,X.env.cells.lookup x=some c->c < f.heap.objs.size:=λx c e=>by
  obtain⟨v,q⟩:=H.cell x c e;exact q.lt
 have pint:∀ p∈X.pn++d,p.1 < f.heap.objs.size:=λp hp=>zm (H.pin p hp).1;have fpst:∀ b∈U,b∉frs X.stack:=λb h z=>by
  rcases List.mem_cons.mp (H.stkSub b z) with e | e
  ·exact (f2 b h).2.1 e
  ·exact (f2 b h).2.2.1 e
 have nst:f.heap.objs.size∉frs X.stack:=λz=>by
  rcases List.mem_cons.mp (H.stkSub _ z) with e | e
  ·exact absurd (e ▸ H.lt) (Zy _)
  ·exact H.nofs (zd _) e
 have CL:I.objs.size≠X.env.locals:=λz=>absurd (jR (z ▸ H.lt) l) (Zy _);have CC:∀ x c,X.env.cells.lookup x=some c->c≠I.objs.size:=λx c e=>z4 (jR (Q x c e) l);have CP:∀ p∈X.pn++d,p.1≠I.objs.size:=λp hp=>z4 (jR (pint p hp) l);have loop:∀ u:zG,u={ f with heap:=B,toks:=f.toks+([]:List (Str×zB)).length } ->
   codeAny (zI X.prog X.w) X.A (.compLoop (.ListComp elt [⟨tg,iter,ifs,0⟩] scope pos) 0 (.ref it) (.ref f.heap.objs.size) (Zu scope cl I.objs.size X.env)) (RR (.ref f.heap.objs.size) I.objs.size) u:=by
  rintro u rfl
  have I0:Inv (jT X vars scope cl I.objs.size U f Y) [(f.heap.objs.size,QR [] 0)] (σ++zq vars.length none) Y { f with heap:=B,toks:=f.toks+([]:List (Str×zB)).length } :=
   CB H S f2 hob (zd _) l hDC hacc (λv z=>by cases z) r old
  refine b8 hc T (hg _ _ _ _) (ht _ _ _ _) (he _ _ _ _) (D:=f.heap.objs.size) W (F:=λys L=>∀ D,L D=none->F D (upd L D (.lst ys))) (zd _) hDC nst (λx c e=>z4 (Q x c (cget x c e)))
   (λb h=>⟨(N b (fpl b h)).1,fpst b h,λx c e z=>(f2 b h).2.2.2.2.1 x c (cget x c e) z,qd (fpl b h)⟩) turn ?_ I0 G (λb h=>(f2 b h).1) w0
  intro M ys us n L I' rv hz q;obtain⟨eD,nD,_,_,_⟩:=I'.pin (f.heap.objs.size,QR us n) (qw _ jI);have J1:Inv X d σ L M:=H.call' I'.os I'.base I'.hok I'.bare (λb h=>⟨(f2 b h).2.2.2.1,(f2 b h).2.1,(f2 b h).2.2.2.2.1,(f2 b h).2.2.2.2.2⟩) I'.tk;have J2:Inv X d σ (upd L f.heap.objs.size (.lst ys)) M:=J1.track H.sz nD (λz=>absurd (z ▸ H.lt) (Zy _)) (λx c e=>z4 (Q x c e)) (λp hp=>z4 (pint p hp)) ⟨hz,us,n,rv,eD⟩;have nC:upd L f.heap.objs.size (.lst ys) I.objs.size=none:=by
   rw[zl (jr hDC)];exact I'.free
  refine hRR _ _ M _ ?_ CL CC J2 (λh' hs s'' e=>?_) (λσ' s3 I3 _ h' hs=>?_) (q _ nD)
  ·obtain⟨m,hn,_⟩:=I'.loc;exact⟨m,hn⟩
  ·subst e;exact J2.turned (t':=M.toks) (it:=I.objs.size) (λb o h e=>(hs.2 b h).trans e) nC CL (.inr (qD H.sz l)) CC CP
  ·exact I3.turned (t':=s3.toks) (it:=I.objs.size) (λb o h e=>(hs.2 b h).trans e) nC CL (.inr (qD H.sz l)) CC CP
 exact codeAny_compStart_list (loop _ rfl) (T.self _ 0 _ _ _ G (loop _ rfl))
theorem ae (n:X.calm=true) (S:yd X vars scope cl) (hi:PI X tg iter wi) (o:∀ C e c d,PG (jT X vars scope cl C e c d) tg g) (p:∀ C e c d,Zp (jT X vars scope cl C e c d) ifs ti)
  (r:∀ C e c d,PE (jT X vars scope cl C e c d) elt te) (t:∀ x,JG iter X.env x=pure x:=by intro _;rfl):PE X (.ListComp elt [⟨tg,iter,ifs,0⟩] scope pos) (Ye vars.length wi g ti te):=by
 intro f s σ H Q I h;rw[eval_ListComp];refine eu (use:=none) rfl t S.clos S.kind S.names (thn (hi f s σ H _ I h) λv s1 u=>thn u λw E y=>?_);refine Uy n S o p r (F:=λD i=>Q (.ref D) i) y λD C G i j z A J B _ q=>?_;obtain⟨m,j⟩:=j;exact⟨m,j,λh' l=>⟨.ref D,i,B h' l _ rfl,rfl,q⟩⟩
theorem ET {i:Nat}{y:Str}{l f:Pos} (L:X.calm=true) (S:yd X vars scope cl) (M:X.N.Nodup) (p:X.N[i]? = some y) (U:Loc X.env.scope y) (hi:PI X tg iter wi)
  (Y:∀ C n c d,PG (jT X vars scope cl C n c d) tg g) (ht:∀ C n c d,Zp (jT X vars scope cl C n c d) ifs ti)
  (he:∀ C n c d,PE (jT X vars scope cl C n c d) elt te) (hs:∀ x,JG iter X.env x=pure x:=by intro _;rfl)
  (r:Q3 (.ListComp elt [⟨tg,iter,ifs,0⟩] scope pos) (some (.Name y l)) f.line X.env=pure true:=by rfl)
  (hf:X.fn y=true\/X.env.scope.names.lookup y=some .local:=by first | exact .inl rfl | exact .inr rfl | assumption) :
  PS X (.Assign [.Name y l] (.ListComp elt [⟨tg,iter,ifs,0⟩] scope pos) f) (YI (Ye vars.length wi g ti te) (zY i)):=by
 intro j s σ H J I h;rw[exec_Assign_Name_used _ _ _ _ r];refine wpAny_bind (Vt (wpAny_bind ?_));show wpAny _ X.A (do let _ <- comprehension (.ListComp elt [⟨tg,iter,ifs,0⟩] scope pos) scope X.env _ (newList []) false (zu iter X.env) (some (QL (.Name y l) X.env))) _ _ s;refine wpAny_bind (wpAny_mono (eu (use:=some (QL (.Name y l) X.env)) (Q:=λ_ t=>SP X j J .next t) rfl hs S.clos S.kind S.names
  (thn (hi j s σ H _ I h) λv s1 h1=>thn h1 λitv s2 h2=>?_)) (λ_ t hq=>wpAny_pure (wpAny_pure hq)) λ_ _ e=>e)
 refine Uy L S Y ht he (F:=λD u=>J.nx (σ.set i (some (.ref D))) u) h2 λD C t u w z B J2 _ J4 q=>?_;obtain⟨m,w⟩:=w;show wpAny _ X.A (QL (.Name y l) X.env (.ref D)) _ _ _;refine fO (Wh J2 M p U (v:=.ref D) rfl (λs3 I3 ⟨a,o,ha⟩=>?_) hf);have E:C≠a:=by
  rcases ha with rfl | ha
  ·exact z
  ·exact jr (B y a ha)
 refine⟨m,w.sameBut o E,λh' G=>⟨σ.set i (some (.ref D)),u,J4 _ s3 I3 ⟨a,o,?_⟩ h' G,q⟩⟩;rcases ha with rfl | ha
 ·exact .inl rfl
 ·exact .inr ⟨y,ha⟩
end
end L2
namespace L2
open PySem PySem.Spec PyProof.Rows
noncomputable def Its (z:Str):It:=⟨λi _=>i < z.length,λi H x d=>d=H/\∃ c,z.cps[i]? = some c/\x=.str ⟨#[c]⟩,λi _=>z.length <= i⟩
theorem dj {P:zi}{K:PySem.W.Frag} (it:zC) (z:Str) (t:Tok):Qn P w K tg (Its z) [it] it (λi h=>h.IsStrIter it "str_ascii_iterator" z t i) where
 mem:=by simp
 obj:=λi h st b g=>by
  have e:b=it:=by simpa using g
  subst e;obtain⟨o,e,c,d⟩:=st;exact⟨o,e,λv z=>by rw[d] at z;cases z⟩
 keep:=λi h h' st k=>let ⟨o,J,r⟩:=st;⟨o,k it (by simp) o J,r⟩
 item:=by
  intro X n hw p G i f s σ H E I m st q;subst n hw p;obtain⟨u,x,L,y,A,B⟩:=m it (by simp);have j:i < z.cps.size:=q;refine wpAny_pyNext_ascii_item st (c:=z.cps[i]) (by simp[j]) λh' l sb=>?_;have M:Inv X f σ H { s with heap:=h',toks:=s.toks+1 }:=I.turned (λb o g e=>(sb.2 b g).trans e) u x y A B;obtain⟨o,e,c,d⟩:=id l;exact⟨_,rfl,x1 (s:={ s with heap:=h',toks:=s.toks+1 }) e c d (by decide) ⟨.str ⟨#[z.cps[i]]⟩,H,M,⟨_,rfl⟩,⟨rfl,z.cps[i],by simp[j],rfl⟩,l,λb g=>(m b g).1⟩⟩
 done:=by
  intro X n hw p G i f s σ H E I m st q;subst n hw p;obtain⟨u,x,L,y,A,B⟩:=m it (by simp);have C:z.cps.size <= i:=q;exact wpAny_pyNext_ascii_end (I.ok.hd G) st (by simp[C]) λh' N=>⟨rfl,I.turned (t':=s.toks) (λb o g e=>N b o g e) u x y A B⟩
 self:=λ_ _ _ _ _ st h=>wpAny_pyIter_striter_ascii st h
theorem fk {P:zi}{K:PySem.W.Frag} (it:zC) (z:Str) (t:Tok):Qn P w K tg (Its z) [it] it (λi h=>h.IsStrIter it "str_iterator" z t i) where
 mem:=by simp
 obj:=λi h st b g=>by
  have e:b=it:=by simpa using g
  subst e;obtain⟨o,e,c,d⟩:=st;exact⟨o,e,λv z=>by rw[d] at z;cases z⟩
 keep:=λi h h' st k=>let ⟨o,J,r⟩:=st;⟨o,k it (by simp) o J,r⟩
 item:=by
  intro X n hw p G i f s σ H E I m st q;subst n hw p;obtain⟨u,x,L,y,A,B⟩:=m it (by simp);have j:i < z.cps.size:=q;refine wpAny_pyNext_wide_item st (c:=z.cps[i]) (by simp[j]) λh' l sb=>?_;have M:Inv X f σ H { s with heap:=h',toks:=s.toks+1 }:=I.turned (λb o g e=>(sb.2 b g).trans e) u x y A B;obtain⟨o,e,c,d⟩:=id l;exact⟨_,rfl,x1 (s:={ s with heap:=h',toks:=s.toks+1 }) e c d (by decide) ⟨.str ⟨#[z.cps[i]]⟩,H,M,⟨_,rfl⟩,⟨rfl,z.cps[i],by simp[j],rfl⟩,l,λb g=>(m b g).1⟩⟩
 done:=by
  intro X n hw p G i f s σ H E I m st q;subst n hw p;obtain⟨u,x,L,y,A,B⟩:=m it (by simp);have C:z.cps.size <= i:=q;exact wpAny_pyNext_wide_end (I.ok.hd G) st (by simp[C]) λh' N=>⟨rfl,I.turned (t':=s.toks) (λb o g e=>N b o g e) u x y A B⟩
 self:=λ_ _ _ _ _ st h=>wpAny_pyIter_striter_wide st h
def HK (c:TE):TI:=λσ H R=>c σ H λx d=>∃ z,x=.str z/\R (Its z) d
theorem c6 {X:Cx} (g:PE X l i):PI X tg l (HK i):=by
 intro c s σ H R I h;refine thn (g c s σ H _ I h) λv s1 ⟨x,f,d,j,m⟩=>?_;obtain⟨z,e,q⟩:=m;subst e;obtain⟨t,rfl⟩:=j;have fin:∀ b∈[s1.heap.objs.size],Z3 X c f b:=λb n=>by
  have e:b=s1.heap.objs.size:=by simpa using n
  subst e;exact d.fpOk (zd _) (d.hok.fresh (zd _))
 cases ha:z.cps.all (· < 128)
 ·refine wpAny_pyIter_wide ha ?_;exact⟨s1.heap.objs.size,[s1.heap.objs.size],_,Its z,f,rfl,d.kept (t':=s1.toks) λb o e=>jK _ e,fk _ z t,⟨_,qU _ rfl,rfl,rfl⟩,fin,q⟩
 ·refine wpAny_pyIter_ascii ha ?_;exact⟨s1.heap.objs.size,[s1.heap.objs.size],_,Its z,f,rfl,d.kept (t':=s1.toks) λb o e=>jK _ e,dj _ z t,⟨_,qU _ rfl,rfl,rfl⟩,fin,q⟩
section
variable {X:Cx}
noncomputable def xo (z:Str) (lo hi:Option Int):Str:=⟨((z.cps.toList.drop (HT.sIx z.length 0 lo)).take (HT.sIx z.length z.length hi - HT.sIx z.length 0 lo)).toArray⟩
theorem dX (lo hi:Option Int) (n:Nat):FY lo hi 1 n=(qQ (HT.sIx n n hi - HT.sIx n 0 lo)).map λk=>HT.sIx n 0 lo+k:=by
 have c:∀ v:Int,max 0 (min (if v < 0 then v+(n:Int) else v) (n:Int))=((HT.sIx n 0 (some v):Nat):Int)/\max 0 (min (if v < 0 then v+(n:Int) else v) (n:Int))=((HT.sIx n n (some v):Nat):Int):=λv=>by
  unfold HT.sIx;by_cases e:v < 0
  ·simp only[if_pos e];lia
  ·simp only[if_neg e];lia
 have d:∀ a b:Nat,sliceRange (a:Int) (b:Int) 1=(qQ (b - a)).map λk=>a+k:=λa b=>by
  unfold sliceRange;have f:(if (1:Int) > 0 then (if (a:Int) < (b:Int) then ((b:Int) - a+1 - 1) / 1 else 0) else (if (a:Int) > (b:Int) then ((a:Int) - b - 1 - 1) / (-1) else 0)).toNat=b - a:=by
   rw[if_pos (by decide)];by_cases h:(a:Int) < (b:Int)
   ·rw[if_pos h,dQ];lia
   ·rw[if_neg h];lia
  dsimp only;rw[f];refine Zv λk _=>?_
  lia
 unfold FY;cases lo with
 | none =>
  cases hi with
  | none=>exact d 0 n
  | some v =>
   simp only[show (1:Int) > 0 by decide,if_true];rw[(c v).2];exact d 0 _
 | some u =>
  cases hi with
  | none =>
   simp only[show (1:Int) > 0 by decide,if_true];rw[(c u).1];exact d _ n
  | some v =>
   simp only[show (1:Int) > 0 by decide,if_true];rw[(c u).1,(c v).2];exact d _ _
theorem hL {c:Type} (xs:Array c) (a m:Nat):((qQ m).map λk=>a+k).filterMap (xs[·]?)=(xs.toList.drop a).take m:=by
 rw[CZ]
 induction m generalizing a with
 | zero=>simp
 | succ m d =>
  rw[List.range_succ,List.filterMap_append,d,JI]
  congr 1
  simp only[V1,List.filterMap_nil,VJ];rw[BO,Xt];cases xs[a+m]?<;>rfl
theorem BN (z:Str) (lo hi:Option Int):vT z lo hi=xo z lo hi:=by
 have e:=HT.ug z.length 0 (ZJ _) lo;have f:=HT.ug z.length z.length (zd _) hi;unfold vT xo;rw[dX,hL];split
 ·rename_i h;rw[z9,XA] at h;have c:HT.sIx z.length z.length hi - HT.sIx z.length 0 lo=z.length:=by
   have h':=(Bool.and_eq_true_iff.mp h).2;exact eq_of_beq h'
  have d:HT.sIx z.length 0 lo=0:=by lia
  rw[c,d,vK];have g:z.cps.toList.length=z.length:=by simp[uZ]
  rw[k9 (by lia)]
 ·rfl
noncomputable def BS:V->Option Int->Option Int->Hp->VK->Prop:=λx lo hi H Q=>∃ z,x=.str z/\z.length <= zc/\Q (.str (xo z lo hi)) H
theorem EO:SlR X BS:=by
 intro c s σ H x v y A lo hi B Q I rx p r g h;obtain⟨z,rfl,hz,q⟩:=h;obtain⟨t,rfl⟩:=rx;refine⟨"str",_,F.slot_str_getitem.lookup,Ax _ _ _,ye (n:=1) I.tk ?_⟩;obtain⟨o,d,e,hd⟩:=p;have fin:(vT z lo hi).length <= zc/\∀ t' k,1 <= ({ s with toks:=k }:zG).toks->EP X c σ Q (.str (vT z lo hi) t') { s with toks:=k } :=
  ⟨qD (Txt.slice_le z lo hi) hz,λt' k w=>⟨.str (vT z lo hi),H,I.tok k w,⟨_,rfl⟩,by rw[BN];exact q⟩⟩
 cases r with
 | none =>
  cases g with
  | none=>exact Vv (l:=none) (u:=none) (st:=none) ⟨o,d,e,hd⟩ rfl (uq fin)
  | int j f=>exact Vv (l:=none) (u:=some (j,f)) (st:=none) ⟨o,d,e,hd⟩ rfl (uq fin)
 | int i m =>
  cases g with
  | none=>exact Vv (l:=some (i,m)) (u:=none) (st:=none) ⟨o,d,e,hd⟩ rfl (uq fin)
  | int j f=>exact Vv (l:=some (i,m)) (u:=some (j,f)) (st:=none) ⟨o,d,e,hd⟩ rfl (uq fin)
theorem Wo {ys:List Str}:∀ {us:List zB},za (ys.map V.str) us->XM us ys:=by
 induction ys with
 | nil=>intro us r;rw[Qz] at r;cases r;exact .nil
 | cons y ys c =>
  intro us r;rw[jF] at r;cases r with
  | cons d f =>
   obtain⟨t,e⟩:=d;subst e;exact .cons y t (c f)
noncomputable def Vj (K:PySem.W.Frag):V->List V->Hp->VK->Prop:=λx c H Q=>∃ z p ys,x=.str z/\c=[.ref p]/\(SqL K H p (ys.map V.str)\/SqT K H p (ys.map V.str))/\(ys.map (·.length)).sum+ys.length * z.length <= 16777216/\Q (.str (Y3 z ys)) H
theorem fu:MtR X "str.join" (Vj X.K):=by
 intro f s σ H x j v us Q I rx g h;obtain⟨z,p,ys,rfl,rfl,c,hz,q⟩:=h;obtain⟨t,rfl⟩:=rx;obtain⟨u,rfl,i⟩:=y6 g;cases i;rcases c with c | c
 ·obtain⟨its,r,d,_⟩:=I.list c;exact ye (n:=1) I.tk (join_list d.isList (by simpa using Wo r) hz λt' k e=>⟨.str (Y3 z ys),H,I.tok k e,⟨_,rfl⟩,q⟩)
 ·obtain⟨its,r,d,_⟩:=I.tuple c;exact ye (n:=1) I.tk (join_tuple d (by simpa using Wo r) hz λt' k e=>⟨.str (Y3 z ys),H,I.tok k e,⟨_,rfl⟩,q⟩)
end
end L2
namespace L2
open PySem PySem.Spec PyProof.Rows PySem.Builtin.Str
section
variable {X:Cx}
theorem d9:OpR X (yD .Mult) (λx y H Q=>∃ z n,x=.str z/\y=.int n/\MulOk z n/\Q (.str (vA z n)) H):=by
 intro c s σ H x y v u Q I rx ry h;obtain⟨z,n,rfl,rfl,hm,q⟩:=h;obtain⟨t,rfl⟩:=rx;obtain⟨t',rfl⟩:=ry;exact ye (n:=1) I.tk (SB.mul hm λt' k d=>⟨.str _,H,I.tok k d,⟨_,rfl⟩,q⟩)
end
mutual
inductive qL (K:PySem.W.Frag) (H:Hp):V->QC->Prop
 | non:qL K H .non .none
 | bl (b:Bool):qL K H (.bl b) (.bool b)
 | int (i:Int):qL K H (.int i) (.int i)
 | str (x:Str):qL K H (.str x) (.str x)
 | lst {p:zC}{xs:List V}{ds:List QC}:SqL K H p xs->Zw K H xs ds->qL K H (.ref p) (.list ds)
 | tup {p:zC}{xs:List V}{ds:List QC}:SqT K H p xs->Zw K H xs ds->qL K H (.ref p) (.tuple ds)
inductive Zw (K:PySem.W.Frag) (H:Hp):List V->List QC->Prop
 | nil:Zw K H [] []
 | cons {v:V}{d:QC}{vs:List V}{ds:List QC}:qL K H v d->Zw K H vs ds->Zw K H (v::vs) (d::ds)
end
section
variable {X:Cx}{pins:List (zC×Obj)}{σ:St}{H:Hp}{s:zG}
mutual
theorem qL.reads (I:Inv X pins σ H s):∀ {v:V}{d:QC}{u:zB},qL X.K H v d->zX v u->∃ as,Reads s.heap u d as
 | _,_,_,.non,r=>by cases r;exact⟨_,.none⟩
 | _,_,_,.bl b,r=>by cases r;exact⟨_,.bool b⟩
 | _,_,_,.int i,r=>by obtain⟨t,rfl⟩:=r;exact⟨_,.int i t⟩
 | _,_,_,.str x,r=>by obtain⟨t,rfl⟩:=r;exact⟨_,.str x t⟩
 | _,_,_,.lst c ha,r=>by
  cases r;obtain⟨its,f,⟨o,n,e,g,hd,h⟩,_⟩:=I.list c;obtain⟨as,j⟩:=Zw.reads I ha f;exact⟨_,.list e g h (by simpa using j)⟩
 | _,_,_,.tup c ha,r=>by
  cases r;obtain⟨its,f,⟨o,e,g,n,h⟩,_⟩:=I.tuple c;obtain⟨as,j⟩:=Zw.reads I ha f;exact⟨_,.tuple e g h (by simpa using j)⟩
theorem Zw.reads (I:Inv X pins σ H s):∀ {c:List V}{d:List QC}{us:List zB},Zw X.K H c d->za c us->∃ as,ReadsAll s.heap us d as
 | _,_,_,.nil,r=>by cases r;exact⟨_,.nil⟩
 | _,_,_,.cons h t,r=>by
  cases r with
  | cons e f =>
   obtain⟨as,g⟩:=qL.reads I h e;obtain⟨bs,i⟩:=Zw.reads I t f;exact⟨_,.cons g i⟩
end
end
section
variable {X:Cx}
def V3 (K:PySem.W.Frag) (neg:Bool):R2:=λx y H Q=>∃ d e,qL K H x d/\qL K H y e/\ZC d=true/\ZC e=true/\Q (.bl (if neg then !xG d e else xG d e)) H
theorem DE {k:Nat} (f:zx k X.A):OpR X (jv .Eq) (V3 X.K false):=by
 intro c s σ H x y v u Q I rx ry h;obtain⟨d,e,hd,g,i,j,q⟩:=h;obtain⟨as,l⟩:=hd.reads I rx;obtain⟨bs,m⟩:=g.reads I ry;exact eq_dataH l m i j f.units ⟨.bl _,H,I,rfl,q⟩
theorem HF {k:Nat} (i:zx k X.A):OpR X (jv .NotEq) (V3 X.K true):=by
 intro f s σ H x y v u Q I rx ry h;obtain⟨d,e,hd,j,l,m,q⟩:=h;obtain⟨as,o⟩:=hd.reads I rx;obtain⟨bs,p⟩:=j.reads I ry;exact ne_dataH o p l m i.units ⟨.bl _,H,I,rfl,q⟩
where RelC:V->zB->Prop:=λc g=>(∃ n,c=.ty n/\g=.type n)\/∃ a,c=.ref a/\g=.ref a
end
end L2
namespace L2
open PySem PySem.Spec PyProof.Rows
section
variable {X:Cx}
def US:R2:=λx y H Q=>match x,y with
 | .int i,.int j=>Q (.int (i+j)) H
 | .str a,.str b=>a.length+b.length <= zc/\Q (.str (a++b)) H
 | .ref l,.ref b=>∃ xs c,H l=some (.lst xs)/\H b=some (.lst c)/\xs.length+c.length <= zc/\∀ p,H p=none->Q (.ref p) (upd H p (.lst (xs++c)))
 | _,_=>False
theorem qc:OpR X (yD .Add) US:=by
 intro c s σ H x y v u Q I rx ry h;cases x with
 | int i =>
  cases y with
  | int j=>exact ba c s σ H _ _ v u Q I rx ry ⟨i,j,rfl,rfl,h⟩
  | _=>exact jH h
 | str a =>
  cases y with
  | str b=>exact C1 c s σ H _ _ v u Q I rx ry ⟨a,b,rfl,rfl,h⟩
  | _=>exact jH h
 | ref l =>
  cases y with
  | ref b =>
   obtain⟨xs,d,e,f,g,m⟩:=h;exact cQ c s σ H _ _ v u Q I rx ry ⟨l,b,xs,d,rfl,rfl,e,f,g,m⟩
  | _=>exact jH h
 | _=>exact jH h
def AL:R2:=λx y H Q=>match x,y with
 | .int i,.int j=>Q (.int (i - j)) H
 | _,_=>False
theorem uw:OpR X (yD .Sub) AL:=by
 intro c s σ H x y v u Q I rx ry h;cases x with
 | int i =>
  cases y with
  | int j=>exact Fz c s σ H _ _ v u Q I rx ry ⟨i,j,rfl,rfl,h⟩
  | _=>exact jH h
 | _=>exact jH h
def Wc:R2:=λx y H Q=>match x,y with
 | .int i,.int j=>vp i j/\Q (.int (i * j)) H
 | .str z,.int n=>MulOk z n/\Q (.str (vA z n)) H
 | _,_=>False
theorem bS:OpR X (yD .Mult) Wc:=by
 intro c s σ H x y v u Q I rx ry h;cases x with
 | int i =>
  cases y with
  | int j=>exact Fc c s σ H _ _ v u Q I rx ry ⟨i,j,rfl,rfl,h⟩
  | _=>exact jH h
 | str z =>
  cases y with
  | int n=>exact d9 c s σ H _ _ v u Q I rx ry ⟨z,n,rfl,rfl,h⟩
  | _=>exact jH h
 | _=>exact jH h
def A0:R2:=λx y H Q=>match x,y with
 | .int i,.int j=>0 < j/\Q (.int (i % j)) H
 | _,_=>False
theorem j0:OpR X (yD .Mod) A0:=by
 intro c s σ H x y v u Q I rx ry h;cases x with
 | int i =>
  cases y with
  | int j=>exact Ec c s σ H _ _ v u Q I rx ry ⟨i,j,rfl,rfl,h⟩
  | _=>exact jH h
 | _=>exact jH h
def Wl:R2:=λx y H Q=>match x,y with
 | .int i,.int j=>(0 < j/\j < 1073741824)/\Q (.int (i / j)) H
 | _,_=>False
theorem JC:OpR X (yD .FloorDiv) Wl:=by
 intro c s σ H x y v u Q I rx ry h;cases x with
 | int i =>
  cases y with
  | int j=>exact b9 c s σ H _ _ v u Q I rx ry ⟨i,j,rfl,rfl,h⟩
  | _=>exact jH h
 | _=>exact jH h
def uLt:R2:=λx y H Q=>match x,y with
 | .int i,.int j=>Q (.bl (decide (i < j))) H
 | .str i,.str j=>Q (.bl (decide (i.cps.toList < j.cps.toList))) H
 | _,_=>False
theorem Bx:OpR X (jv .Lt) uLt:=by
 intro c s σ H x y v u Q I rx ry h;cases x with
 | int i =>
  cases y with
  | int j=>exact FC c s σ H _ _ v u Q I rx ry ⟨i,j,rfl,rfl,h⟩
  | _=>exact jH h
 | str i =>
  cases y with
  | str j=>exact gO c s σ H _ _ v u Q I rx ry ⟨i,j,rfl,rfl,h⟩
  | _=>exact jH h
 | _=>exact jH h
def uGt:R2:=λx y H Q=>match x,y with
 | .int i,.int j=>Q (.bl (decide (j < i))) H
 | _,_=>False
theorem vo:OpR X (jv .Gt) uGt:=by
 intro c s σ H x y v u Q I rx ry h;cases x with
 | int i =>
  cases y with
  | int j=>exact cf c s σ H _ _ v u Q I rx ry ⟨i,j,rfl,rfl,h⟩
  | _=>exact jH h
 | _=>exact jH h
def uIn (K:PySem.W.Frag) (neg:Bool):R2:=λx y H Q=>match x,y with
 | .str i,.str j=>Q (.bl (xor neg (!(xb j i 0 j.length 1).isEmpty))) H
 | x,.ref p=>∃ xs,(SqL K H p xs\/SqT K H p xs)/\yI x=true/\xs.all yI=true/\Q (.bl (xor neg (inV x xs))) H
 | _,_=>False
theorem GC:OpR X (jv .In) (uIn X.K false):=by
 intro c s σ H x y v u Q I rx ry h;cases y with
 | str j =>
  cases x with
  | str i =>
   have h':Q (.bl (xor false (!(xb j i 0 j.length 1).isEmpty))) H:=h;rw[YH] at h';exact eO c s σ H _ _ v u Q I rx ry ⟨i,j,rfl,rfl,h'⟩
  | _=>exact jH h
 | ref p =>
  have h':∃ xs,(SqL X.K H p xs\/SqT X.K H p xs)/\yI x=true/\xs.all yI=true/\Q (.bl (xor false (inV x xs))) H:=by cases x<;>exact h
  obtain⟨xs,e,f,g,d⟩:=h';rw[YH] at d;exact FN c s σ H _ _ v u Q I rx ry ⟨p,xs,rfl,e,f,g,d⟩
 | _=>cases x<;>exact jH h
theorem B1:OpR X (jv .NotIn) (uIn X.K true):=by
 intro c s σ H x y v u Q I rx ry h;cases y with
 | str j =>
  cases x with
  | str i =>
   have h':Q (.bl (xor true (!(xb j i 0 j.length 1).isEmpty))) H:=h;rw[YL] at h';exact Er c s σ H _ _ v u Q I rx ry ⟨i,j,rfl,rfl,h'⟩
  | _=>exact jH h
 | ref p =>
  have h':∃ xs,(SqL X.K H p xs\/SqT X.K H p xs)/\yI x=true/\xs.all yI=true/\Q (.bl (xor true (inV x xs))) H:=by cases x<;>exact h
  obtain⟨xs,e,f,g,d⟩:=h';rw[YL] at d;exact Et c s σ H _ _ v u Q I rx ry ⟨p,xs,rfl,e,f,g,d⟩
 | _=>cases x<;>exact jH h
def uIx (K:PySem.W.Frag):R2:=λx y H Q=>match x,y with
 | .str z,.int i=>∃ c,z.length <= zc/\atI z.cps.toList i=some c/\Q (.str ⟨#[c]⟩) H
 | .ref p,.int i=>∃ xs v,(SqL K H p xs\/SqT K H p xs)/\atI xs i=some v/\Q v H
 | _,_=>False
theorem GD:IxR X (uIx X.K):=by
 intro d e f s σ H x y v u Q I rx ry h m;cases x with
 | str z =>
  cases y with
  | int i =>
   obtain⟨c,g,j,l⟩:=h;exact GW d e f s σ H _ _ v u Q I rx ry ⟨z,i,c,rfl,rfl,g,j,l⟩ m
  | _=>exact jH h
 | ref p =>
  cases y with
  | int i =>
   obtain⟨xs,c,g | g,j,l⟩:=h
   ·exact e9 d e f s σ H _ _ v u Q I rx ry ⟨p,xs,i,c,rfl,rfl,g,j,l⟩ m
   ·exact F1 d e f s σ H _ _ v u Q I rx ry ⟨p,xs,i,c,rfl,rfl,g,j,l⟩ m
  | _=>exact jH h
 | _=>exact jH h
noncomputable def uSl (K:PySem.W.Frag):V->Option Int->Option Int->Hp->VK->Prop:=λx lo hi H Q=>match x with
 | .str z=>z.length <= zc/\Q (.str (xo z lo hi)) H
 | .ref a=>(∃ xs,SqL K H a xs/\∀ p,H p=none->Q (.ref p) (upd H p (.lst (QA xs lo hi)))) \/
   (∃ xs,SqT K H a xs /\ ¬ (HT.sIx xs.length 0 lo=0/\HT.sIx xs.length xs.length hi=xs.length)/\∀ p,H p=none->Q (.ref p) (upd H p (.tup (QA xs lo hi))))
 | _=>False
theorem xj:SlR X (uSl X.K):=by
 intro c s σ H x v d e lo hi f Q I rx g i j h;cases x with
 | str z=>exact EO c s σ H _ v d e lo hi f Q I rx g i j ⟨z,rfl,h⟩
 | ref a =>
  rcases h with ⟨xs,l,m⟩ | ⟨xs,l,m,n⟩
  ·exact E8 c s σ H _ v d e lo hi f Q I rx g i j ⟨a,xs,rfl,l,m⟩
  ·exact B9 c s σ H _ v d e lo hi f Q I rx g i j ⟨a,xs,rfl,l,m,n⟩
 | _=>exact jH h
noncomputable def wL (K:PySem.W.Frag):List V->Hp->VK->Prop:=λxs H Q=>match xs with
 | [.str z]=>z.length <= zc/\Q (.int z.length) H
 | [.ref p]=>∃ ys,(SqL K H p ys\/SqT K H p ys)/\Q (.int ys.length) H
 | _=>False
theorem gw:qX X (.builtin "len") (wL X.K):=by
 intro c s σ H xs us Q I r h
 match xs,h with
 | [.str z],h=>exact Fn c s σ H _ us Q I r ⟨z,rfl,h⟩
 | [.ref p],h =>
  obtain⟨ys,d,e⟩:=h;exact c0 c s σ H _ us Q I r ⟨p,ys,rfl,d,e⟩
theorem Cc:PIp X .Add (λx y H Q=>match x,y with | .int i,.int j=>Q (.int (i+j)) H | .str a,.str b=>a.length+b.length <= zc/\Q (.str (a++b)) H | _,_=>False):=by
 intro c s σ H x y v u Q I rx ry h;cases x with
 | int i =>
  cases y with
  | int j=>exact gb c s σ H _ _ v u Q I rx ry ⟨i,j,rfl,rfl,h⟩
  | _=>exact jH h
 | str a =>
  cases y with
  | str b=>exact Ef c s σ H _ _ v u Q I rx ry ⟨a,b,rfl,rfl,h⟩
  | _=>exact jH h
 | _=>exact jH h
end
theorem Zk:j1 "len" = some (.builtin "len"):=by decide +kernel
theorem uT:j1 "isinstance" = some (.builtin "isinstance"):=by decide +kernel
theorem Do:j1 "str" = some (.type "str"):=by decide +kernel
theorem WN:j1 "int" = some (.type "int"):=by decide +kernel
theorem dO:j1 "bool" = some (.type "bool"):=by decide +kernel
theorem xu:j1 "list" = some (.type "list"):=by decide +kernel
theorem Kt:j1 "dict" = some (.type "dict"):=by decide +kernel
structure Has (P:zi) (w:zy) (K:PySem.W.Frag) (mg:Str->Option zB) (base:zT) (x:Str) (k:Nat) (ps:List Str) (sp:Sp):Prop where
 ex:∃ f fd,jc P w K mg base CX0 k f fd ps sp/\QJ K fd ps []/\PySem.W.keepIn K (.ref f)=true/\mg x=some (.ref f)
section
variable {X:Cx}{k kk:Nat}{x:Str}{ps:List Str}{sp:Sp}{e:zQ}{es:List zQ}{t:TA}{p pos:Pos}
theorem d7 (h:Has X.prog X.w X.K X.mg X.base x k ps sp) (g:zx kk X.A) (i:k <= kk) (j:Gl X x) (ha:PA X (e::es) t) (l:X0 CX0 X E0:=by exact UW) (c:(x == ("__debug__" : Str))=false:=by decide)
  (n:jd (e::es) X.env=(false,zu e X.env)::jd es X.env:=by rfl) (d:(yO pos (jd es X.env)).any (·.1)=false:=by rfl) :
  PE X (.Call (.Name x p) (e::es) [] pos) (wK sp [] E0 t):=by
 obtain⟨f,fd,F,b,kp,m⟩:=h.ex;exact G4 F (g.mono i) j m kp b .nil l ha c n d
structure Hh (mg:Str->Option zB) (x:Str) (v:V):Prop where
 ex:∃ u,mg x=some u/\zX v u
end
theorem xR {K:PySem.W.Frag}{b:Bool} (h:(if (Qr A == Qr B)=true then some true else if PySem.W.kitMeta B=true then (PySem.fastBuiltinMro A).map (·.contains (Qr B)) else none)=some b):PySem.W.kitOne K (.type A) (.type B)=some b:=h
end L2
namespace TX
open PySem
noncomputable def sp (y:Nat):Nat:=if y=10 then 32 else y
end TX
namespace TS
open PySem PyProof.Rows
variable {prog:zi}{w:zy}{A:jh}{E:zB->zG->Prop}{s:zG}{zN:Array zH}{κ:KeyKind}
structure SG (zN:Array zH) (st:zO):Prop where
 pm:(zJ st).Perm zN
 kd:kindOf st=qK
 fl:Qe st=none
theorem SG.sz {st:zO} (h:SG zN st):(zJ st).size=zN.size:=h.pm.size_eq
theorem SG.arr {st:zO} (h:SG zN st) {xs:Array zH} (p:xs.Perm (zJ st)):SG zN (setArr st xs):=⟨p.trans h.pm,h.kd,h.fl⟩
theorem SG.item {st:zO} (h:SG zN st) (d:KeysOf κ zN) {i:Nat} (hi:i < zN.size):∃ x p a,(zJ st)[i]? = some (x,p)/\κ.keyOf x=some a/\KK κ (zJ st) i=a:=by
 have c:i < (zJ st).size:=by rw[h.sz];exact hi
 have hm:(zJ st)[i]∈zN.toList:=(Array.perm_iff_toList_perm.mp h.pm).mem_iff.mp (by simp);obtain⟨a,ha⟩:=d _ hm;have e:(zJ st)[i]? = some ((zJ st)[i].1,(zJ st)[i].2):=getElem?_pos _ i c;exact⟨_,_,a,e,ha,by unfold KK;rw[e];show (κ.keyOf (zJ st)[i].1).getD κ.dflt=a;rw[ha];rfl⟩
theorem Xh {st:zO}{i j:Nat}{Q:Option Bool->zO->Prop} (d:κ.OneLt) (c:KeysOf κ zN) (g:SG zN st) (hi:i < zN.size) (e:j < zN.size) (h:Q (some (κ.blt (KK κ (zJ st) i) (KK κ (zJ st) j))) st):wpS (zI prog w) A E s (ltAt' i j) Q st:=by
 obtain⟨x,p,a,f,l,m⟩:=g.item c hi;obtain⟨y,q,b,n,o,r⟩:=g.item c e;rw[m,r] at h;exact wpS_ltAtK d g.kd f n l o h
def Ri (κ:KeyKind) (xs:Array zH) (lo k:Nat):Prop:=∀ i j,i <= j->j < k->κ.kle (KK κ xs (lo+i)) (KK κ xs (lo+j))
structure jk (zN:Array zH) (lo hi:Nat) (st st':zO):Prop where
 ok:SG zN st'
 out:∀ k,k < lo\/hi <= k->(zJ st')[k]? = (zJ st)[k]?
 pd:jG st'=jG st
theorem jk.refl {lo hi:Nat}{st:zO} (g:SG zN st):jk zN lo hi st st:=⟨g,λ_ _=>rfl,rfl⟩
theorem jk.trans {lo hi:Nat}{st d c:zO} (h:jk zN lo hi st d) (k:jk zN lo hi d c):jk zN lo hi st c:=⟨k.ok,λi hi=>(k.out i hi).trans (h.out i hi),k.pd.trans h.pd⟩
theorem GY {st:zO}{lo n ok:Nat}{Q:Bool->zO->Prop} (G:κ.OneLt) (H:KeysOf κ zN) (hn:lo+n <= zN.size) (hok:ok <= n) (g:SG zN st) (J:Ri κ (zJ st) lo ok)
  (h:∀ f,jk zN lo (lo+n) st f->Ri κ (zJ f) lo n->Q true f):wpS (zI prog w) A E s (binarySort' lo n ok) Q st:=by
 rw[binarySort'_eq];refine zR (yE (yX (I:=λk c t=>c=(none,())/\jk zN lo (lo+n) st t/\Ri κ (zJ t) lo (min k n))
  (Q:=λc t=>c=(none,())/\jk zN lo (lo+n) st t/\Ri κ (zJ t) lo n) (λk c t L M ⟨d,kp,e⟩=>?step) (λc t ⟨d,kp,e⟩=>⟨d,kp,?fin⟩) ⟨rfl,jk.refl g,λi j o N=>?ini⟩) λc t ⟨d,kp,e⟩=>?post)
 case step =>
  subst d;rw[show min k n=k by lia] at e;have kl:lo+k < zN.size:=by lia
  refine zR (yE (yX (I:=λx c u=>u=t/\∃ l r,c=(none,l,r)/\l <= r/\r <= k/\r - l <= k - x/\(∀ i,i < l->κ.kle (KK κ (zJ t) (lo+i)) (KK κ (zJ t) (lo+k)))/\(∀ i,r <= i->i < k->κ.klt (KK κ (zJ t) (lo+k)) (KK κ (zJ t) (lo+i))))
   (Q:=λc u=>u=t/\∃ l r,c=(none,l,r)/\l <= k/\(∀ i,i < l->κ.kle (KK κ (zJ t) (lo+i)) (KK κ (zJ t) (lo+k)))/\(∀ i,l <= i->i < k->κ.klt (KK κ (zJ t) (lo+k)) (KK κ (zJ t) (lo+i))))
   (λx c u _ hx ⟨p,l,r,d,v,m,B,y,z⟩=>?st2) (λc u ⟨p,l,r,d,v,m,B,y,z⟩=>?fi2) ⟨rfl,0,k,rfl,by lia,by lia,by lia,λi hi=>by lia,λi v m=>by lia⟩) λc u ⟨p,l,r,d,v,m,B⟩=>?po2)
  case st2 =>
   subst p d;dsimp only;by_cases q:l ≥ r
   ·rw[if_pos q];obtain rfl:l=r:=by lia
    exact wpS_pure ⟨rfl,l,l,rfl,m,y,z⟩
   ·rw[if_neg q];refine zR (Xh G H kp.ok kl (by lia) ?_);cases C:κ.blt (KK κ (zJ u) (lo+k)) (KK κ (zJ u) (lo+(l+r) / 2)) with
    | true =>
     simp only[if_true];exact wpS_pure ⟨rfl,l,(l+r) / 2,rfl,by lia,by lia,by lia,y,λi a b=>KeyOrd.klt_of_klt_of_kle C (e _ _ a b)⟩
    | false =>
     simp only[jW,if_false];exact wpS_pure ⟨rfl,(l+r) / 2+1,r,rfl,by lia,by lia,by lia,λi a=>yJ (e i ((l+r) / 2) (by lia) (by lia)) (show κ.kle _ _ from C),z⟩
  case fi2 =>
   subst p d;obtain rfl:l=r:=by lia
   exact⟨rfl,l,l,rfl,m,y,z⟩
  case po2 =>
   subst p d;show wpS _ _ _ _ (do moveDown' (lo+k) (lo+l);pure (kn (none,()))) _ _;rw[moveDown'_eq];have ks:lo+k < (zJ u).size:=by rw[kp.ok.sz];exact kl
   refine zR (JU (wpS_pure ⟨rfl,kp.trans ⟨kp.ok.arr (bubble_perm _ _ _),λi hi=>?_,rfl⟩,?_⟩))
   ·show (bubble (zJ u) (lo+k) (lo+k - (lo+l)))[i]? = _;rw[getElem?_bubble ks _ (by lia),if_neg (by lia),if_neg (by lia)]
   ·rw[show min (k+1) n=k+1 by lia];intro i j o N;show κ.kle (KK κ (bubble (zJ u) (lo+k) (lo+k - (lo+l))) (lo+i)) (KK κ (bubble (zJ u) (lo+k) (lo+k - (lo+l))) (lo+j));rw[KK_bubble ks (by lia),KK_bubble ks (by lia),show lo+k - (lo+k - (lo+l))=lo+l by lia];by_cases U:lo+i=lo+l<;>by_cases Y:lo+l < lo+i/\lo+i <= lo+k<;>by_cases c3:lo+j=lo+l<;>by_cases c4:lo+l < lo+j/\lo+j <= lo+k<;>simp only[U,Y,c3,c4,if_true,if_false]<;>try lia
    ·exact Q8 _
    ·exact Zn (by have:=B (j - 1) (by lia) (by lia);rwa [show lo+(j - 1)=lo+j - 1 by lia] at this)
    ·have:=e (i - 1) (j - 1) (by lia) (by lia);rwa [show lo+(i - 1)=lo+i - 1 by lia,show lo+(j - 1)=lo+j - 1 by lia] at this
    ·exact m _ (by lia)
    ·have:=e i (j - 1) (by lia) (by lia);rwa [show lo+(j - 1)=lo+j - 1 by lia] at this
    ·exact e _ _ (by lia) (by lia)
 case fin=>rwa [show min (max (max ok 1) n) n=n by lia] at e
 case ini =>
  by_cases v:ok=0
  ·obtain rfl:i=j:=by lia
   exact Q8 _
  ·exact J i j o (by lia)
 case post =>
  subst d;exact wpS_pure (h t kp e)
noncomputable def X8 (lo a d:Nat):StateT zO Sem AscSt :=
 forIn [a:d] ((none,a):AscSt) λ_ c=>do
  match <- ltAt' (lo+c.2) (lo+c.2 - 1) with
  | some b=>if b=true then pure (Ki (none,c.2)) else pure (kn (none,c.2+1))
  | _=>pure (Ki (some none,c.2))
noncomputable def tl3 (lo n d:Nat):StateT zO Sem (Option Nat):=do
 VT lo (lo+n)
 let c <- X8 lo n d
 match c.1 with
 | some r=>pure r
 | none=>pure (some c.2)
noncomputable def Kx (lo n d:Nat):StateT zO Sem DescSt :=
 forIn [n:d] ((none,n,0):DescSt) λ_ c=>do
  match <- ltAt' (lo+c.2.1) (lo+c.2.1 - 1) with
  | some b =>
   if b=true then
    if c.2.2 > 0 then do
     VT (lo+c.2.1 - (c.2.2+1)) (lo+c.2.1)
     pure (kn (none,c.2.1+1,0))
    else pure (kn (none,c.2.1+1,0))
   else do
    match <- ltAt' (lo+c.2.1 - 1) (lo+c.2.1) with
    | some b=>if b=true then pure (Ki (none,c.2.1,c.2.2)) else pure (kn (none,c.2.1+1,c.2.2+1))
    | _=>pure (Ki (some none,c.2.1,c.2.2))
  | _=>pure (Ki (some none,c.2.1,c.2.2))
noncomputable def KP (lo n d:Nat):StateT zO Sem (Option Nat):=do
 liftM (ZP "list.sort.descending-run")
 let c <- Kx lo (n+1) d
 match c.1 with
 | some r=>pure r
 | none =>
  if c.2.2 > 0 then do
   VT (lo+c.2.1 - (c.2.2+1)) (lo+c.2.1)
   tl3 lo c.2.1 d
  else tl3 lo c.2.1 d
theorem gQ (lo d:Nat):countRun' lo d=(do
  let c <- X8 lo 1 d
  match c.1 with
  | some r=>pure r
  | none =>
   if (c.2 == d)=true then pure (some c.2)
   else if c.2 > 1 then do
    match <- ltAt' lo (lo+c.2 - 1) with
    | some b=>if b=true then pure (some c.2) else do
      VT lo (lo+c.2)
      KP lo c.2 d
    | _=>pure none
   else KP lo c.2 d):=by
 rw[countRun'_eq];unfold KP tl3 Kx X8;refine congrArg (bind _) ?_
 funext c
 obtain⟨r,n⟩:=c;cases r with
 | some r=>rfl
 | none =>
  dsimp only;split
  ·rfl
  ·split
   ·congr 1;funext x
    cases x with
    | none=>rfl
    | some b =>
     dsimp only;split
     ·rfl
     ·congr 1;funext _r
      congr 1;funext _u;congr 1;congr 1;funext h;obtain⟨g,n2,j⟩:=h
      cases g with
      | some g=>rfl
      | none =>
       dsimp only;split
       ·congr 1;funext _v;congr 1;funext _w;congr 1;funext e;obtain⟨f,i⟩:=e;cases f<;>rfl
       ·congr 1;funext _w;congr 1;funext e;obtain⟨f,i⟩:=e;cases f<;>rfl
   ·congr 1;funext _u;congr 1;congr 1;funext h;obtain⟨g,n2,j⟩:=h
    cases g with
    | some g=>rfl
    | none =>
     dsimp only;split
     ·congr 1;funext _v;congr 1;funext _w;congr 1;funext e;obtain⟨f,i⟩:=e;cases f<;>rfl
     ·congr 1;funext _w;congr 1;funext e;obtain⟨f,i⟩:=e;cases f<;>rfl
def Fa (κ:KeyKind) (xs:Array zH) (lo k:Nat):Prop:=∀ i j,i <= j->j < k->κ.kle (KK κ xs (lo+j)) (KK κ xs (lo+i))
theorem Ri.more {lo:Nat} (h:Ri κ xs lo x) (g:1 <= x) (e:κ.kle (KK κ xs (lo+x - 1)) (KK κ xs (lo+x))):Ri κ xs lo (x+1):=by
 intro i j f l;by_cases c:j < x
 ·exact h i j f c
 obtain rfl:j=x:=by lia
 by_cases d:i=j
 ·subst d;exact Q8 _
 ·exact yJ (h i (j - 1) (by lia) (by lia)) (by rwa [show lo+(j - 1)=lo+j - 1 by lia])
theorem Fa.more {lo:Nat} (h:Fa κ xs lo x) (g:1 <= x) (e:κ.kle (KK κ xs (lo+x)) (KK κ xs (lo+x - 1))):Fa κ xs lo (x+1):=by
 intro i j f l;by_cases c:j < x
 ·exact h i j f c
 obtain rfl:j=x:=by lia
 by_cases d:i=j
 ·subst d;exact Q8 _
 ·exact yJ (by rwa [show lo+(j - 1)=lo+j - 1 by lia]) (h i (j - 1) (by lia) (by lia))
theorem Ri.one {lo:Nat}:Ri κ xs lo 1:=λi j a b=>by obtain rfl:i=j:=(by lia);exact Q8 _
theorem Fa.one {lo:Nat}:Fa κ xs lo 1:=λi j a b=>by obtain rfl:i=j:=(by lia);exact Q8 _
theorem Au {st:zO}{lo a d:Nat}{Q:AscSt->zO->Prop} (o:κ.OneLt) (p:KeysOf κ zN) (t:lo+d <= zN.size) (ha:1 <= a) (f:a <= d) (g:SG zN st) (q:Ri κ (zJ st) lo a)
  (h:∀ n,a <= n->n <= d->Ri κ (zJ st) lo n->(n=d\/κ.klt (KK κ (zJ st) (lo+n)) (KK κ (zJ st) (lo+n - 1)))->Q (none,n) st):wpS (zI prog w) A E s (X8 lo a d) Q st:=by
 unfold X8;refine yX (I:=λx c u=>u=st/\c=(none,x)/\Ri κ (zJ st) lo x) (λx c u i r ⟨j,l,e⟩=>?step) (λc u ⟨j,l,e⟩=>?fin) ⟨rfl,rfl,q⟩
 case fin =>
  subst j l;rw[show max a d=d by lia] at e ⊢;exact h d f (zd _) e (.inl rfl)
 case step =>
  subst j l;dsimp only;refine zR (Xh o p g (by lia) (by lia) ?_);cases m:κ.blt (KK κ (zJ u) (lo+x)) (KK κ (zJ u) (lo+x - 1)) with
  | true=>simp only[if_true];exact wpS_pure (h x i (by lia) e (.inr m))
  | false=>simp only[jW,if_false];exact wpS_pure ⟨rfl,rfl,e.more (by lia) m⟩
theorem jk.mir {lo n i j:Nat}{st:zO} (g:SG zN st) (hi:lo <= i) (c:j <= lo+n) (d:lo+n <= zN.size):jk zN lo (lo+n) st (setArr st (mirror (zJ st) i j ((j - i) / 2))) :=
 ⟨g.arr (mirror_perm _ _ _ _),λk e=>by show (mirror (zJ st) i j ((j - i) / 2))[k]? = _;rw[getElem?_mirror_all (by rw[g.sz];lia),if_neg (by lia)],rfl⟩
theorem bC {st e:zO}{lo n d:Nat}{Q:Option Nat->zO->Prop} (p:κ.OneLt) (q:KeysOf κ zN) (l:lo+d <= zN.size) (r:1 <= n) (g:n <= d) (kp:jk zN lo (lo+d) e st) (t:Fa κ (zJ st) lo n)
  (h:∀ m f,jk zN lo (lo+d) e f->1 <= m->m <= d->Ri κ (zJ f) lo m->Q (some m) f):wpS (zI prog w) A E s (tl3 lo n d) Q st:=by
 unfold tl3;have hz:lo+n <= (zJ st).size:=by rw[kp.ok.sz];lia
 refine zR (uu ?_);have o:=kp.trans (jk.mir (i:=lo) (j:=lo+n) (lo:=lo) (n:=d) kp.ok (zd _) (by lia) l);refine zR (Au p q l r g o.ok ?_ λm a b c _=>wpS_pure (h m _ o (by lia) b c));intro i j u v;show κ.kle (KK κ (mirror (zJ st) lo (lo+n) ((lo+n - lo) / 2)) (lo+i)) (KK κ (mirror (zJ st) lo (lo+n) ((lo+n - lo) / 2)) (lo+j));rw[KK_mirror hz,KK_mirror hz,if_pos (by lia),if_pos (by lia)];have:=t (n - 1 - j) (n - 1 - i) (by lia) (by lia)
 rwa [show lo+(n - 1 - i)=lo+(lo+n) - 1 - (lo+i) by lia,show lo+(n - 1 - j)=lo+(lo+n) - 1 - (lo+j) by lia] at this
theorem Fa.same {lo:Nat} (h:Fa κ xs lo n) (e:∀ k,KK κ ys k=KK κ xs k):Fa κ ys lo n:=λi j a b=>by rw[e,e];exact h i j a b
theorem dS {st f:zO}{lo n e:Nat}{Q:DescSt->zO->Prop} (y:κ.OneLt) (z:KeysOf κ zN) (H:lo+e <= zN.size) (M:1 <= n) (r:n <= e) (kp:jk zN lo (lo+e) f st) (J:Fa κ (zJ st) lo n)
  (h:∀ m q g,jk zN lo (lo+e) f g->n <= m->m <= e->Fa κ (zJ g) lo m->q+1 <= m->(∀ i,lo+m - (q+1) <= i->i < lo+m->KK κ (zJ g) i=KK κ (zJ g) (lo+m - 1))->Q (none,m,q) g) :
  wpS (zI prog w) A E s (Kx lo n e) Q st:=by
 unfold Kx;refine yX (I:=λx c u=>∃ q,c=(none,x,q)/\jk zN lo (lo+e) f u/\Fa κ (zJ u) lo x/\q+1 <= x/\(∀ i,lo+x - (q+1) <= i->i < lo+x->KK κ (zJ u) i=KK κ (zJ u) (lo+x - 1)))
  (λx c u t L ⟨q,v,j,l,p,o⟩=>?step) (λc u ⟨q,v,j,l,p,o⟩=>?fin) ⟨0,rfl,kp,J,by lia,λi a b=>by congr 1;lia⟩
 case fin =>
  subst v;rw[show max n e=e by lia] at l p o ⊢;exact h e q u j r (zd _) l p o
 case step =>
  subst v;dsimp only;have hz:lo+x <= (zJ u).size:=by rw[j.ok.sz];lia
  refine zR (Xh y z j.ok (by lia) (by lia) ?_);cases B:κ.blt (KK κ (zJ u) (lo+x)) (KK κ (zJ u) (lo+x - 1)) with
  | true =>
   simp only[if_true];have C:=l.more (by lia) (Zn B);by_cases c:q > 0
   ·rw[if_pos c];exact zR (uu (wpS_pure ⟨0,rfl,j.trans (jk.mir j.ok (by lia) (by lia) H),C.same (UH hz o),by lia,λi a b=>by congr 1;lia⟩))
   ·rw[if_neg c];exact wpS_pure ⟨0,rfl,j,C,by lia,λi a b=>by congr 1;lia⟩
  | false =>
   simp only[jW,if_false];refine zR (Xh y z j.ok (by lia) (by lia) ?_);cases G:κ.blt (KK κ (zJ u) (lo+x - 1)) (KK κ (zJ u) (lo+x)) with
   | true=>simp only[if_true];exact wpS_pure (h x q u j t (by lia) l p o)
   | false =>
    simp only[jW,if_false];have eq:=c8 (show κ.kle (KK κ (zJ u) (lo+x)) (KK κ (zJ u) (lo+x - 1)) from G) B;refine wpS_pure ⟨q+1,rfl,j,l.more (by lia) G,by lia,λi a b=>?_⟩;rw[show lo+(x+1) - 1=lo+x by lia];by_cases d:i=lo+x
    ·rw[d]
    ·rw[eq];exact o i (by lia) (by lia)
theorem wa {st e:zO}{lo n d:Nat}{Q:Option Nat->zO->Prop} (j:κ.OneLt) (l:KeysOf κ zN) (g:lo+d <= zN.size) (o:n+1 <= d) (kp:jk zN lo (lo+d) e st) (r:Fa κ (zJ st) lo (n+1))
  (h:∀ m f,jk zN lo (lo+d) e f->1 <= m->m <= d->Ri κ (zJ f) lo m->Q (some m) f):wpS (zI prog w) A E s (KP lo n d) Q st:=by
 unfold KP;refine zR (xW (Q0 ⟨rfl,?_⟩));refine zR (dS j l g (by lia) o kp r λm q u i a b p v t=>?_);dsimp only;have hz:lo+m <= (zJ u).size:=by rw[i.ok.sz];lia
 by_cases c:q > 0
 ·rw[if_pos c];exact zR (uu (bC j l g (by lia) b (i.trans (jk.mir i.ok (by lia) (by lia) g)) (p.same (UH hz t)) h))
 ·rw[if_neg c];exact bC j l g (by lia) b i p h
theorem cT {st:zO}{lo d:Nat}{Q:Option Nat->zO->Prop} (r:κ.OneLt) (t:KeysOf κ zN) (u:lo+d <= zN.size) (B:1 <= d) (g:SG zN st)
  (h:∀ m l,jk zN lo (lo+d) st l->1 <= m->m <= d->Ri κ (zJ l) lo m->Q (some m) l):wpS (zI prog w) A E s (countRun' lo d) Q st:=by
 rw[gQ];refine zR (Au r t u (zd 1) B g Ri.one λn a b v x=>?_);dsimp only;by_cases e:n=d
 ·rw[if_pos (by simpa using e)];exact wpS_pure (h n st (jk.refl g) a b v)
 rw[if_neg (by simpa using e)];have o:=x.resolve_left e;by_cases c:n > 1
 ·rw[if_pos c];refine zR (Xh r t g (by lia) (by lia) ?_);cases C:κ.blt (KK κ (zJ st) lo) (KK κ (zJ st) (lo+n - 1)) with
  | true=>simp only[if_true];exact wpS_pure (h n st (jk.refl g) a b v)
  | false =>
   simp only[jW,if_false];have hz:lo+n <= (zJ st).size:=by rw[g.sz];lia
   have f:∀ k,lo <= k->k < lo+n->KK κ (zJ st) k=KK κ (zJ st) (lo+n - 1):=by
    intro k G H;have z:=v 0 (k - lo) (by lia) (by lia);have y:=v (k - lo) (n - 1) (by lia) (by lia);rw[show lo+(k - lo)=k by lia] at z y;rw[show lo+(n - 1)=lo+n - 1 by lia] at y;exact c8 y (yJ C z)
   refine zR (uu (wa r t u (by lia) (jk.mir g (zd _) (by lia) u) (Fa.same (xs:=zJ st) (Fa.more (λi j p q=>?_) (by lia) (Zn o)) (UH hz f)) h));rw[f (lo+i) (by lia) (by lia),f (lo+j) (by lia) (by lia)];exact Q8 _
 ·rw[if_neg c];obtain rfl:n=1:=by lia
  exact wa r t u (by lia) (jk.refl g) (Fa.one.more (zd _) (Zn o)) h
noncomputable def kyo (κ:KeyKind) (p:zH):κ.α:=(κ.keyOf p.1).getD κ.dflt
def yF (κ:KeyKind) (p:zH):Prop:=∃ a,κ.keyOf p.1=some a
theorem Kf {st:zO}{p q:zH}{Q:Option Bool->zO->Prop} (d:κ.OneLt) (kd:kindOf st=qK) (e:yF κ p) (f:yF κ q) (h:Q (some (κ.blt (kyo κ p) (kyo κ q))) st):wpS (zI prog w) A E s (lt' p q) Q st:=by
 obtain⟨a,ha⟩:=e;obtain⟨b,c⟩:=f;rw[show kyo κ p=a by unfold kyo;rw[ha];rfl,show kyo κ q=b by unfold kyo;rw[c];rfl] at h;rw[lt'_eq];refine zR (Zx ?_);rw[kd,keyLt'_oneType];exact zR (xW (Wz (d prog w A _ s p.1 q.1 a b ha c ⟨rfl,wpS_pure h⟩)))
theorem ql {st:zO}{arr:Array zH}{i:Nat}{p:zH}{Q:zH->zO->Prop} (e:arr[i]? = some p) (h:Q p st):wpS (zI prog w) A E s (qb arr i) Q st:=by
 rw[elem'_eq,e];exact wpS_pure h
noncomputable def JD:Bool->zH->Array zH->Nat->Nat->Nat->StateT zO Sem (Option Nat):=sortPriv% PySem.Builtin.gallop
noncomputable def byd (left:Bool) (c:zH) (arr:Array zH) (base i:Nat):StateT zO Sem (Option Bool):=do
 let x <- qb arr (base+i)
 if left then lt' x c else return (<- lt' c x).map (!·)
noncomputable def gl3 (left:Bool) (c:zH) (arr:Array zH) (base n lo hi:Nat):StateT zO Sem (Option Nat):=do
 let mut lo:=lo
 let mut hi:=hi
 for _ in [0:n] do
  if lo ≥ hi then break
  let m:=lo+(hi - lo) / 2
  let some more <- byd left c arr base m | return none
  if more then lo:=m+1 else hi:=m
 return some hi
noncomputable def gl1 (left:Bool) (d:zH) (arr:Array zH) (base n c:Nat):StateT zO Sem (Option Nat):=do
 let mut lastofs:=0
 let mut ofs:=1
 for _ in [0:n] do
  if ofs ≥ n - c then break
  let some more <- byd left d arr base (c+ofs) | return none
  if !more then break
  lastofs:=ofs
  ofs:=2 * ofs+1
 gl3 left d arr base n (c+lastofs+1) (c+min ofs (n - c))
noncomputable def gl2 (left:Bool) (e:zH) (arr:Array zH) (base n c:Nat):StateT zO Sem (Option Nat):=do
 let mut lastofs:=0
 let mut ofs:=1
 for _ in [0:n] do
  if ofs ≥ c+1 then break
  let some d <- byd left e arr base (c - ofs) | return none
  if d then break
  lastofs:=ofs
  ofs:=2 * ofs+1
 gl3 left e arr base n (c+1 - min ofs (c+1)) (c - lastofs)
theorem eX (left:Bool) (d:zH) (arr:Array zH) (base n c:Nat):JD left d arr base n c=(do
  match <- byd left d arr base c with
  | some r=>if r=true then gl1 left d arr base n c else gl2 left d arr base n c
  | _=>pure none):=by
 show (sortPriv% PySem.Builtin.gallop) left d arr base n c=_;unfold gl1 gl2 gl3;rfl
noncomputable def By (κ:KeyKind) (left:Bool) (c:zH) (arr:Array zH) (i:Nat):Bool:=if left then κ.blt (KK κ arr i) (kyo κ c) else !κ.blt (kyo κ c) (KK κ arr i)
theorem qZ {arr:Array zH}{i:Nat}{p:zH} (e:arr[i]? = some p):KK κ arr i=kyo κ p:=by unfold KK;rw[e];rfl
theorem vD {st:zO}{left:Bool}{c:zH}{arr:Array zH}{base i:Nat}{Q:Option Bool->zO->Prop} (d:κ.OneLt) (kd:kindOf st=qK) (ha:∀ p,p∈arr.toList->yF κ p) (f:yF κ c) (hi:base+i < arr.size)
  (h:Q (some (By κ left c arr (base+i))) st):wpS (zI prog w) A E s (byd left c arr base i) Q st:=by
 unfold byd;have e:arr[base+i]? = some arr[base+i]:=getElem?_pos arr (base+i) hi;have g:yF κ arr[base+i]:=ha _ (by simp);refine zR (ql e ?_);unfold By at h;rw[qZ e] at h;cases left with
 | true=>simp only[if_true] at h ⊢;exact Kf d kd g f h
 | false=>simp only[jW,if_false] at h ⊢;exact zR (Kf d kd f g (wpS_pure h))
def GK (κ:KeyKind) (left:Bool) (c:zH) (arr:Array zH) (base n k:Nat):Prop:=k <= n/\(∀ i,i < k->By κ left c arr (base+i)=true)/\(∀ i,k <= i->i < n->By κ left c arr (base+i)=false)
theorem By.down {arr:Array zH}{base:Nat} (so:Ri κ arr base n) {i j:Nat} (c:i <= j) (e:j < n) (h:By κ left d arr (base+j)=true):By κ left d arr (base+i)=true:=by
 unfold By at *;cases left with
 | true=>simp only[if_true] at h ⊢;exact KeyOrd.klt_of_kle_of_klt (so i j c e) h
 | false =>
  simp only[jW,if_false,K0] at h ⊢;exact yJ (so i j c e) h
theorem By.up {arr:Array zH}{base:Nat} (so:Ri κ arr base n) {i j:Nat} (d:i <= j) (f:j < n) (h:By κ left c arr (base+i)=false):By κ left c arr (base+j)=false:=by
 cases e:By κ left c arr (base+j) with
 | false=>rfl
 | true=>rw[By.down so d f e] at h;cases h
theorem UB {st:zO}{left:Bool}{d:zH}{arr:Array zH}{base n lo hi:Nat}{Q:Option Nat->zO->Prop} (v:κ.OneLt) (kd:kindOf st=qK) (ha:∀ p,p∈arr.toList->yF κ p) (y:yF κ d) (J:base+n <= arr.size) (so:Ri κ arr base n)
  (t:lo <= hi) (z:hi <= n) (B:∀ i,i < lo->By κ left d arr (base+i)=true) (C:∀ i,hi <= i->i < n->By κ left d arr (base+i)=false) (h:∀ k,GK κ left d arr base n k->Q (some k) st):wpS (zI prog w) A E s (gl3 left d arr base n lo hi) Q st:=by
 unfold gl3;refine zR (yE (yX (I:=λx c u=>u=st/\∃ r l,c=(none,l,r)/\l <= r/\r <= n/\r - l <= n - x/\(∀ i,i < l->By κ left d arr (base+i)=true)/\(∀ i,r <= i->i < n->By κ left d arr (base+i)=false))
  (Q:=λc u=>u=st/\∃ r l,c=(none,l,r)/\GK κ left d arr base n r) (λx c u _ L ⟨e,r,l,f,G,m,H,o,q⟩=>?step) (λc u ⟨e,r,l,f,G,m,H,o,q⟩=>?fin) ⟨rfl,hi,lo,rfl,t,z,by lia,B,C⟩) λc u ⟨e,r,l,f,g⟩=>?post)
 case step =>
  subst e f;dsimp only;by_cases j:l ≥ r
  ·rw[if_pos j];obtain rfl:l=r:=by lia
   exact wpS_pure ⟨rfl,l,l,rfl,m,o,q⟩
  rw[if_neg j];refine zR (vD v kd ha y (by lia) ?_);cases hm:By κ left d arr (base+(l+(r - l) / 2)) with
  | true =>
   simp only[if_true];exact wpS_pure ⟨rfl,r,l+(r - l) / 2+1,rfl,by lia,m,by lia,λi hi=>By.down so (by lia) (by lia) hm,q⟩
  | false =>
   simp only[jW,if_false];exact wpS_pure ⟨rfl,l+(r - l) / 2,l,rfl,by lia,by lia,by lia,o,λi b c=>By.up so b c hm⟩
 case fin =>
  obtain rfl:l=r:=by lia
  exact⟨e,l,l,f,m,o,q⟩
 case post =>
  subst e f;exact wpS_pure (h r g)
theorem GU {st:zO}{left:Bool}{e:zH}{arr:Array zH}{base n d:Nat}{Q:Option Nat->zO->Prop} (v:κ.OneLt) (kd:kindOf st=qK) (ha:∀ p,p∈arr.toList->yF κ p) (y:yF κ e) (B:base+n <= arr.size) (so:Ri κ arr base n)
  (G:d < n) (C:By κ left e arr (base+d)=true) (h:∀ k,GK κ left e arr base n k->Q (some k) st):wpS (zI prog w) A E s (gl1 left e arr base n d) Q st:=by
 unfold gl1;refine zR (yE (yX (I:=λx c u=>u=st/\∃ l o,c=(none,l,o)/\l < o/\x+1 <= o/\d+l < n/\By κ left e arr (base+(d+l))=true)
  (Q:=λc u=>u=st/\∃ l o,c=(none,l,o)/\l < o/\d+l < n/\By κ left e arr (base+(d+l))=true/\(n - d <= o\/By κ left e arr (base+(d+o))=false)) (λx c u _ H ⟨q,l,o,r,t,z,m,f⟩=>?step) (λc u ⟨q,l,o,r,t,z,m,f⟩=>⟨q,l,o,r,t,m,f,.inl (by lia)⟩)
   ⟨rfl,0,1,rfl,by lia,by lia,by lia,C⟩) λc u ⟨q,l,o,r,t,z,m,f⟩=>?post)
 case step =>
  subst q r;dsimp only;by_cases g:o ≥ n - d
  ·rw[if_pos g];exact wpS_pure ⟨rfl,l,o,rfl,t,m,f,.inl g⟩
  rw[if_neg g];refine zR (vD v kd ha y (by lia) ?_);cases hm:By κ left e arr (base+(d+o)) with
  | true =>
   simp only[Ji,jW,if_false];exact wpS_pure ⟨rfl,o,2 * o+1,rfl,by lia,by lia,by lia,hm⟩
  | false =>
   simp only[Ey,if_true];exact wpS_pure ⟨rfl,l,o,rfl,t,m,f,.inr hm⟩
 case post =>
  subst q r;dsimp only;refine UB v kd ha y B so (by lia) (by lia) (λi hi=>By.down so (j:=d+l) (by lia) (by lia) m) (λi b c=>?_) h;rcases f with f | f
  ·lia
  ·by_cases g:o ≥ n - d
   ·lia
   ·exact By.up so (by lia) c f
theorem cw {st:zO}{left:Bool}{e:zH}{arr:Array zH}{base n d:Nat}{Q:Option Nat->zO->Prop} (v:κ.OneLt) (kd:kindOf st=qK) (ha:∀ p,p∈arr.toList->yF κ p) (y:yF κ e) (B:base+n <= arr.size) (so:Ri κ arr base n)
  (G:d < n) (C:By κ left e arr (base+d)=false) (h:∀ k,GK κ left e arr base n k->Q (some k) st):wpS (zI prog w) A E s (gl2 left e arr base n d) Q st:=by
 unfold gl2;refine zR (yE (yX (I:=λx c u=>u=st/\∃ l o,c=(none,l,o)/\l < o/\x+1 <= o/\l <= d/\By κ left e arr (base+(d - l))=false)
  (Q:=λc u=>u=st/\∃ l o,c=(none,l,o)/\l < o/\l <= d/\By κ left e arr (base+(d - l))=false/\(d+1 <= o\/By κ left e arr (base+(d - o))=true)) (λx c u _ H ⟨q,l,o,r,t,z,m,f⟩=>?step) (λc u ⟨q,l,o,r,t,z,m,f⟩=>⟨q,l,o,r,t,m,f,.inl (by lia)⟩)
   ⟨rfl,0,1,rfl,by lia,by lia,by lia,C⟩) λc u ⟨q,l,o,r,t,z,m,f⟩=>?post)
 case step =>
  subst q r;dsimp only;by_cases g:o ≥ d+1
  ·rw[if_pos g];exact wpS_pure ⟨rfl,l,o,rfl,t,m,f,.inl g⟩
  rw[if_neg g];refine zR (vD v kd ha y (by lia) ?_);cases hm:By κ left e arr (base+(d - o)) with
  | false =>
   simp only[jW,if_false];exact wpS_pure ⟨rfl,o,2 * o+1,rfl,by lia,by lia,by lia,hm⟩
  | true =>
   simp only[if_true];exact wpS_pure ⟨rfl,l,o,rfl,t,m,f,.inr hm⟩
 case post =>
  subst q r;dsimp only;refine UB v kd ha y B so (by lia) (by lia) (λi hi=>?_) (λi b c=>By.up so (i:=d - l) (by lia) c m) h;rcases f with f | f
  ·lia
  ·by_cases g:o ≥ d+1
   ·lia
   ·exact By.down so (j:=d - o) (by lia) (by lia) f
theorem xi {st:zO}{left:Bool}{d:zH}{arr:Array zH}{base n c:Nat}{Q:Option Nat->zO->Prop} (e:κ.OneLt) (kd:kindOf st=qK) (ha:∀ p,p∈arr.toList->yF κ p) (f:yF κ d) (g:base+n <= arr.size) (so:Ri κ arr base n)
  (i:c < n) (h:∀ k,GK κ left d arr base n k->Q (some k) st):wpS (zI prog w) A E s (JD left d arr base n c) Q st:=by
 rw[eX];refine zR (vD e kd ha f (by lia) ?_);cases hm:By κ left d arr (base+c) with
 | true=>simp only[if_true];exact GU e kd ha f g so i hm h
 | false=>simp only[jW,if_false];exact cw e kd ha f g so i hm h
structure MI (R:zH->zH->Prop) (l ra rb out:List zH):Prop where
 pm:(out++ra++rb).Perm l
 so:out.Pairwise R
 oa:∀ x,x∈out->∀ y,y∈ra->R x y
 ob:∀ x,x∈out->∀ y,y∈rb->R x y
 sa:ra.Pairwise R
 sb:rb.Pairwise R
theorem MI.swap {R:zH->zH->Prop}{out:List zH} (h:MI R l c d out):MI R l d c out :=
 ⟨List.Perm.trans (l₂:=out++c++d) (by rw[jg,jg];exact List.perm_append_comm.append_left out) h.pm,h.so,h.ob,h.oa,h.sb,h.sa⟩
theorem MI.run {R:zH->zH->Prop}{xs f out:List zH} (h:MI R l (xs++f) g out) (c:∀ x,x∈xs->∀ y,y∈g->R x y):MI R l f g (out++xs):=by
 obtain⟨pm,so,oa,ob,sa,sb⟩:=h;rw[List.pairwise_append] at sa;refine⟨by simpa [jg] using pm,List.pairwise_append.mpr ⟨so,sa.1,λx d y e=>oa x d y (Zg _ e)⟩,λx d y e=>?_,λx d y e=>?_,sa.2.1,sb⟩
 ·rcases List.mem_append.mp d with d | d
  ·exact oa x d y (qw _ e)
  ·exact sa.2.2 x d y e
 ·rcases List.mem_append.mp d with d | d
  ·exact ob x d y e
  ·exact c x d y e
theorem MI.fin {R:zH->zH->Prop}{out:List zH} (h:MI R l e f out) (c:∀ x,x∈e->∀ y,y∈f->R x y):(out++e++f).Pairwise R:=by
 obtain⟨pm,so,oa,ob,sa,sb⟩:=h;refine List.pairwise_append.mpr ⟨List.pairwise_append.mpr ⟨so,sa,oa⟩,sb,λx d y g=>?_⟩;rcases List.mem_append.mp d with d | d
 ·exact ob x d y g
 ·exact c x d y g
theorem JJ {a:Array zH}{i:Nat}{y:zH} (h:y∈a.toList.drop i):∃ j,i <= j/\j < a.size/\a[j]? = some y:=by
 obtain⟨j,c,e⟩:=List.mem_iff_getElem.mp h;rw[List.getElem_drop] at e;rw[Z6] at c;have:i+j < a.size:=by rw[<- jf];lia
 exact⟨i+j,by lia,this,by rw[getElem?_pos a (i+j) this,<- e];simp⟩
theorem we {a:Array zH}{i:Nat}{p:zH} (e:a[i]? = some p):a.toList.drop i=p::a.toList.drop (i+1):=by
 obtain⟨hi,e⟩:=Array.getElem?_eq_some_iff.mp e;rw[X7 (by rw[jf];exact hi),vF,e]
theorem Kp {a:Array zH}{i k:Nat}:a.toList.drop i=(a.extract i (i+k)).toList++a.toList.drop (i+k):=by
 rw[Vz,KD,<- List.drop_drop,aB,vk]
theorem Xu {a:Array zH}{i k:Nat}{y:zH} (h:y∈(a.extract i k).toList):∃ j,i <= j/\j < k/\j < a.size/\a[j]? = some y:=by
 obtain⟨j,c,e⟩:=List.mem_iff_getElem.mp h;rw[vF,ef] at e;rw[jf,kr] at c;have:i+j < a.size:=by lia
 exact⟨i+j,by lia,by lia,this,by rw[getElem?_pos a (i+j) this,e]⟩
theorem Uj {a:Array zH}{n:Nat}{p:zH} (e:a[n]? = some p):(a.toList.take (n+1)).reverse=p::(a.toList.take n).reverse:=by
 obtain⟨hi,e⟩:=Array.getElem?_eq_some_iff.mp e;rw[cV (by rw[jf];exact hi),Ea,vF,e];rfl
theorem A2 {a:Array zH}{m n:Nat} (h:m <= n):(a.toList.take n).reverse=(a.extract m n).reverse.toList++(a.toList.take m).reverse:=by
 rw[KZ,<- Ea,Vz,KD]
 congr 1
 obtain⟨d,rfl⟩:∃ d,n=m+d:=⟨n - m,by lia⟩
 rw[aB,List.take_add]
theorem JK {a:Array zH}{n:Nat}{y:zH} (h:y∈(a.toList.take n).reverse):∃ j,j < n/\j < a.size/\a[j]? = some y:=by
 rw[aP] at h;obtain⟨j,c,e⟩:=List.mem_iff_getElem.mp h;rw[List.getElem_take] at e;rw[qx,jf] at c;exact⟨j,by lia,by lia,by rw[getElem?_pos a j (by lia),<- e];simp⟩
structure jS (st st':zO):Prop where
 kd:kindOf st'=kindOf st
 ar:zJ st'=zJ st
 pd:jG st'=jG st
 fl:Qe st'=Qe st
theorem jS.refl (st:zO):jS st st:=⟨rfl,rfl,rfl,rfl⟩
noncomputable def Xz:Nat->StateT zO Sem Unit:=sortPriv% PySem.Builtin.setMinGallop
theorem K7 {c st:zO}{n:Nat}{Q:Unit->zO->Prop} (g:jS c st) (h:∀ d,jS c d->Q () d):wpS (zI prog w) A E s (Xz n) Q st:=by
 show wpS _ _ _ _ (modify λz:zO=>aD (kindOf z) (zJ z) (jG z) n (Qe z)) _ _;exact JU (h _ ⟨g.kd,g.ar,g.pd,g.fl⟩)
noncomputable def Vr:Array zH->Array zH->StateT zO Sem (Array zH):=sortPriv% PySem.Builtin.mergeLo
noncomputable def YC:Array zH->Array zH->StateT zO Sem (Array zH):=sortPriv% PySem.Builtin.mergeHi
noncomputable def dnL (x y out:Array zH) (i j:Nat):=out++x.extract i x.size++y.extract j y.size
noncomputable def lsL (x y out:Array zH) (i j:Nat):=out++y.extract j y.size++x.extract i x.size
noncomputable def dnH (x y out:Array zH) (i j:Nat):=x.extract 0 i++y.extract 0 j++out.reverse
noncomputable def fsH (x y out:Array zH) (i j:Nat):=y.extract 0 j++x.extract 0 i++out.reverse
abbrev C7:=Option (Array zH)×Array zH×Nat×Nat×Nat×Nat×Nat
abbrev C6:=Option (Array zH)×Array zH×Nat×Nat×Nat×Nat
noncomputable def loD (x y out:Array zH) (i j mg c d:Nat):StateT zO Sem (ForInStep C7):=do
 let p <- qb x i
 if (i+1+1 == x.size)=true then pure (.done (some (lsL x y (out.push p) (i+1) j),out.push p,i+1,j,mg,c,d))
 else if (decide (c < 7) && decide (d < 7))=true then pure (.done (none,out.push p,i+1,j,mg,c,d))
 else pure (.yield (none,out.push p,i+1,j,mg,c,d))
noncomputable def loC (x y out:Array zH) (i j mg c d:Nat):StateT zO Sem (ForInStep C7):=do
 let p <- qb x i
 match <- JD true p y j (y.size - j) 0 with
 | some k =>
  if k > 0 then
   if (j+k == y.size)=true then pure (.done (some (dnL x y (out++y.extract j (j+k)) i (j+k)),out++y.extract j (j+k),i,j+k,mg,c,k))
   else loD x y (out++y.extract j (j+k)) i (j+k) mg c k
  else loD x y out i j mg c k
 | _=>pure (.done (some (dnL x y out i j),out,i,j,mg,c,d))
noncomputable def loB (x y out:Array zH) (i j mg c d:Nat):StateT zO Sem (ForInStep C7):=do
 let p <- qb y j
 if (j+1 == y.size)=true then pure (.done (some (dnL x y (out.push p) i (j+1)),out.push p,i,j+1,mg,c,d))
 else loC x y (out.push p) i (j+1) mg c d
noncomputable def loA (x y out:Array zH) (i j mg d c:Nat):StateT zO Sem (ForInStep C7):=do
 Xz mg
 let p <- qb y j
 match <- JD false p x i (x.size - i) 0 with
 | some k =>
  if k > 0 then
   if (i+k+1 == x.size)=true then pure (.done (some (lsL x y (out++x.extract i (i+k)) (i+k) j),out++x.extract i (i+k),i+k,j,mg,k,c))
   else if (i+k == x.size)=true then pure (.done (some (dnL x y (out++x.extract i (i+k)) (i+k) j),out++x.extract i (i+k),i+k,j,mg,k,c))
   else loB x y (out++x.extract i (i+k)) (i+k) j mg k c
  else loB x y out i j mg k c
 | _=>pure (.done (some (dnL x y out i j),out,i,j,mg,d,c))
noncomputable def lo1 (x y:Array zH) (mg:Nat) (c:C6):StateT zO Sem (ForInStep C6):=do
 let p <- qb y c.2.2.2.1
 let q <- qb x c.2.2.1
 match <- lt' p q with
 | some r =>
  if r=true then do
   let p <- qb y c.2.2.2.1
   if (c.2.2.2.1+1 == y.size)=true then pure (.done (some (dnL x y (c.2.1.push p) c.2.2.1 (c.2.2.2.1+1)),c.2.1.push p,c.2.2.1,c.2.2.2.1+1,0,c.2.2.2.2.2+1))
   else if c.2.2.2.2.2+1 ≥ mg then pure (.done (none,c.2.1.push p,c.2.2.1,c.2.2.2.1+1,0,c.2.2.2.2.2+1))
   else pure (.yield (none,c.2.1.push p,c.2.2.1,c.2.2.2.1+1,0,c.2.2.2.2.2+1))
  else do
   let q <- qb x c.2.2.1
   if (c.2.2.1+1+1 == x.size)=true then pure (.done (some (lsL x y (c.2.1.push q) (c.2.2.1+1) c.2.2.2.1),c.2.1.push q,c.2.2.1+1,c.2.2.2.1,c.2.2.2.2.1+1,0))
   else if c.2.2.2.2.1+1 ≥ mg then pure (.done (none,c.2.1.push q,c.2.2.1+1,c.2.2.2.1,c.2.2.2.2.1+1,0))
   else pure (.yield (none,c.2.1.push q,c.2.2.1+1,c.2.2.2.1,c.2.2.2.2.1+1,0))
 | _=>pure (.done (some (dnL x y c.2.1 c.2.2.1 c.2.2.2.1),c.2.1,c.2.2.1,c.2.2.2.1,c.2.2.2.2.1,c.2.2.2.2.2))
abbrev C5:=Option (Array zH)×Array zH×Nat×Nat×Nat
noncomputable def loO (x y:Array zH) (c:C5):StateT zO Sem (ForInStep C5):=do
 let d <- forIn [0:x.size+y.size] ((none,c.2.1,c.2.2.1,c.2.2.2.1,0,0):C6) λ_ d=>lo1 x y c.2.2.2.2 d
 match d.1 with
 | some r=>pure (.done (some r,d.2.1,d.2.2.1,d.2.2.2.1,c.2.2.2.2))
 | none=>do
  liftM (ZP "list.sort.gallop")
  let e <- forIn [0:x.size+y.size] ((none,d.2.1,d.2.2.1,d.2.2.2.1,c.2.2.2.2+1,d.2.2.2.2.1,d.2.2.2.2.2):C7) λ_ e =>
   if e.2.2.2.2.1 > 1 then loA x y e.2.1 e.2.2.1 e.2.2.2.1 (e.2.2.2.2.1 - 1) e.2.2.2.2.2.1 e.2.2.2.2.2.2 else loA x y e.2.1 e.2.2.1 e.2.2.2.1 e.2.2.2.2.1 e.2.2.2.2.2.1 e.2.2.2.2.2.2
  match e.1 with
  | some r=>pure (.done (some r,e.2.1,e.2.2.1,e.2.2.2.1,e.2.2.2.2.1))
  | none=>do
   Xz (e.2.2.2.2.1+1)
   pure (.yield (none,e.2.1,e.2.2.1,e.2.2.2.1,e.2.2.2.2.1+1))
theorem E3 (x y:Array zH):Vr x y=(do
 liftM (ZP "list.sort.merge-lo")
 let p <- qb y 0
 if (1 == y.size)=true then pure (dnL x y #[p] 0 1)
 else if (0+1 == x.size)=true then pure (lsL x y #[p] 0 1)
 else do
  let z <- get
  let c <- forIn [0:x.size+y.size] ((none,#[p],0,1,gallopOf z):C5) λ_ c=>loO x y c
  match c.1 with
  | some r=>pure r
  | none=>liftM (unsupported "internal:list.sort.merge-bound" : Sem (Array zH))):=by
 show (sortPriv% PySem.Builtin.mergeLo) x y=_;refine congrArg (bind _) (funext λ_=>congrArg (bind _) (funext λp=>ite_congr rfl (λ_=>rfl) λ_=>ite_congr rfl (λ_=>rfl) λ_=>congrArg (bind _) (funext λz=>?_)));refine congr (congrArg bind (congrArg _ (funext λ_=>funext λc=>congrArg (bind _) (funext λd=>?_)))) (funext λc=>?_)
 ·obtain⟨f,d⟩:=d;cases f with
  | some r=>rfl
  | none=>exact congrArg (bind _) (funext λ_=>congrArg (bind _) (funext λe=>by obtain⟨g,e⟩:=e;cases g<;>rfl))
 ·obtain⟨h,c⟩:=c;cases h<;>rfl
def kl (κ:KeyKind) (p q:zH):Prop:=κ.kle (kyo κ p) (kyo κ q)
structure MG (κ:KeyKind) (x y:Array zH):Prop where
 kx:∀ p,p∈x.toList->yF κ p
 ky:∀ p,p∈y.toList->yF κ p
 rx:Ri κ x 0 x.size
 ry:Ri κ y 0 y.size
 nx:1 <= x.size
 ny:1 <= y.size
 fst:∀ p q,y[0]? = some p->x[0]? = some q->kl κ p q
 lst:∀ p q,y[y.size - 1]? = some p->x[x.size - 1]? = some q->kl κ p q
def Rs (κ:KeyKind) (x y r:Array zH):Prop:=r.toList.Perm (x.toList++y.toList)/\r.toList.Pairwise (kl κ)
theorem Ri.at (r:Ri κ x 0 x.size) {i j:Nat}{p q:zH} (c:i <= j) (e:x[i]? = some p) (d:x[j]? = some q):kl κ p q:=by
 have f:j < x.size:=(Array.getElem?_eq_some_iff.mp d).1;have:=r i j c f
 rwa [ja,ja,qZ e,qZ d] at this
theorem Ri.tail (r:Ri κ x 0 x.size) (i n:Nat) (h:i+n <= x.size):Ri κ x i n:=λa b c d=>by
 have:=r (i+a) (i+b) (by lia) (by lia)
 rwa [ja,ja] at this
theorem Ri.pair (r:Ri κ x 0 x.size):x.toList.Pairwise (kl κ):=by
 rw[List.pairwise_iff_getElem];intro i j hi d c;rw[jf] at hi d;exact r.at (kL c) (by rw[getElem?_pos x i hi];simp) (by rw[getElem?_pos x j d];simp)
theorem Z9 {x:Array zH} (h:∀ p,p∈x.toList->yF κ p) {i:Nat}{p:zH} (e:x[i]? = some p):yF κ p:=by
 obtain⟨hi,rfl⟩:=Array.getElem?_eq_some_iff.mp e;exact h _ (by simp)
theorem qk (x:Array zH) {i:Nat} (h:i < x.size):∃ p,x[i]? = some p:=⟨_,getElem?_pos x i h⟩
def ML (κ:KeyKind) (x y:Array zH) (i j:Nat) (out:Array zH):Prop:=MI (kl κ) (x.toList++y.toList) (x.toList.drop i) (y.toList.drop j) out.toList
section
variable {x y out:Array zH}{i j:Nat}{p:zH}
theorem ML.a (h:ML κ x y i j out) (e:x[i]? = some p) (c:∀ m q,j <= m->y[m]? = some q->kl κ p q):ML κ x y (i+1) j (out.push p):=by
 unfold ML at *;rw[we e] at h;have:=MI.run (xs:=[p]) h λz hz q d=>by
  obtain⟨m,a,_,b⟩:=JJ d;rw[List.mem_singleton.mp hz];exact c m q a b
 rwa [vY]
theorem ML.b (h:ML κ x y i j out) (e:y[j]? = some p) (c:∀ m q,i <= m->x[m]? = some q->kl κ p q):ML κ x y i (j+1) (out.push p):=by
 unfold ML at *;rw[we e] at h;have:=MI.run (xs:=[p]) h.swap λz hz q d=>by
  obtain⟨m,a,_,b⟩:=JJ d;rw[List.mem_singleton.mp hz];exact c m q a b
 rw[vY];exact this.swap
theorem ML.as {k:Nat} (h:ML κ x y i j out) (c:∀ m q,i <= m->m < i+k->x[m]? = some q->∀ d e,j <= d->y[d]? = some e->kl κ q e):ML κ x y (i+k) j (out++x.extract i (i+k)):=by
 unfold ML at *;rw[Kp (k:=k)] at h;have:=MI.run h λz hz q f=>by
  obtain⟨m,a,_,b⟩:=JJ f;obtain⟨d,g,l,_,n⟩:=Xu hz;exact c d z g l n m q a b
 rwa [Zj]
theorem ML.bs {k:Nat} (h:ML κ x y i j out) (c:∀ m q,j <= m->m < j+k->y[m]? = some q->∀ d e,i <= d->x[d]? = some e->kl κ q e):ML κ x y i (j+k) (out++y.extract j (j+k)):=by
 unfold ML at *;have h:=h.swap;rw[Kp (k:=k)] at h;have:=MI.run h λz hz q f=>by
  obtain⟨m,a,_,b⟩:=JJ f;obtain⟨d,g,l,_,n⟩:=Xu hz;exact c d z g l n m q a b
 rw[Zj];exact this.swap
theorem vP (z:Array zH) (i:Nat):(z.extract i z.size).toList=z.toList.drop i:=by
 rw[Vz,KD,k9 (by rw[Z6,jf];lia)]
theorem ML.dn (h:ML κ x y i j out) (c:i=x.size\/j=y.size):Rs κ x y (dnL x y out i j):=by
 unfold Rs dnL;rw[Zj,Zj,vP,vP];refine⟨h.pm,h.fin λa ha b d=>?_⟩;obtain⟨m,e,f,g⟩:=JJ ha;obtain⟨l,n,o,q⟩:=JJ d
 lia
theorem ML.ls (g:MG κ x y) (h:ML κ x y i j out) (c:i+1=x.size):Rs κ x y (lsL x y out i j):=by
 unfold Rs lsL;rw[Zj,Zj,vP,vP];refine⟨h.swap.pm,h.swap.fin λa ha b e=>?_⟩;obtain⟨m,q,r,f⟩:=JJ ha;obtain⟨n,t,u,o⟩:=JJ e;obtain rfl:n=x.size - 1:=by lia
 obtain⟨l,d⟩:=qk y (i:=y.size - 1) (by lia);exact yJ (g.ry.at (show m <= y.size - 1 by lia) f d) (g.lst l b d o)
end
def Lo7 (κ:KeyKind) (d:zO) (x y:Array zH) (b:Nat) (c:C7) (u:zO):Prop :=
 jS d u/\match c.1 with
  | some r=>Rs κ x y r
  | none=>ML κ x y c.2.2.1 c.2.2.2.1 c.2.1/\c.2.2.1+1 < x.size/\c.2.2.2.1 < y.size/\b <= c.2.2.1+c.2.2.2.1
def St7 (κ:KeyKind) (d:zO) (x y:Array zH) (b:Nat) (r:ForInStep C7) (u:zO):Prop :=
 match r with
 | .done c=>Lo7 κ d x y b c u
 | .yield c=>c.1=none/\Lo7 κ d x y b c u
section
variable {zj st:zO}{x y out:Array zH}{i j mg ac bc b:Nat}
theorem UL (g:MG κ x y) (sg:jS zj st) (h:ML κ x y i j out) (hi:i+1 < x.size) (l:j < y.size) (n:b <= i+j) (c:∀ p,x[i]? = some p->∀ m q,j <= m->y[m]? = some q->kl κ p q) :
  wpS (zI prog w) A E s (loD x y out i j mg ac bc) (St7 κ zj x y b) st:=by
 unfold loD;obtain⟨p,e⟩:=qk x (show i < x.size by lia);have d:=h.a e (c p e);refine zR (ql e ?_);by_cases f:i+1+1=x.size
 ·rw[if_pos (by simpa using f)];exact wpS_pure ⟨sg,d.ls g f⟩
 rw[if_neg (by simpa using f)];split
 ·exact wpS_pure ⟨sg,d,by show i+1+1 < _;lia,l,by show b <= i+1+j;lia⟩
 ·exact wpS_pure ⟨rfl,sg,d,by show i+1+1 < _;lia,l,by show b <= i+1+j;lia⟩
theorem fx (u:κ.OneLt) (kd:kindOf st=qK) (g:MG κ x y) (sg:jS zj st) (h:ML κ x y i j out) (hi:i+1 < x.size) (v:j < y.size) (z:b <= i+j) :
  wpS (zI prog w) A E s (loC x y out i j mg ac bc) (St7 κ zj x y b) st:=by
 unfold loC;obtain⟨p,e⟩:=qk x (show i < x.size by lia);refine zR (ql e (zR (xi u kd g.ky (Z9 g.kx e) (by lia) (g.ry.tail j _ (by lia)) (by lia) λk ⟨L,B,C⟩=>?_)));have G:∀ m q,j <= m->m < j+k->y[m]? = some q->∀ f l,i <= f->x[f]? = some l->kl κ q l:=λm q a b c f l H I=>by
  have:=B (m - j) (by lia);unfold By at this;rw[if_pos rfl,show j+(m - j)=m by lia,qZ c] at this;exact yJ (Zn this) (g.rx.at H e I)
 have o:∀ m q,j+k <= m->y[m]? = some q->kl κ p q:=λm q a b=>by
  have hm:m < y.size:=(Array.getElem?_eq_some_iff.mp b).1;have:=C (m - j) (by lia) (by lia);unfold By at this;rw[if_pos rfl,show j+(m - j)=m by lia,qZ b] at this;exact this
 dsimp only;by_cases r:k > 0
 ·rw[if_pos r];have t:=h.bs G;by_cases n:j+k=y.size
  ·rw[if_pos (by simpa using n)];exact wpS_pure ⟨sg,t.dn (.inr n)⟩
  rw[if_neg (by simpa using n)];exact UL g sg t hi (by lia) (by lia) λJ d m q a b=>by rw[e] at d;cases d;exact o m q a b
 ·rw[if_neg r];obtain rfl:k=0:=by lia
  exact UL g sg h hi v z λJ d m q a b=>by rw[e] at d;cases d;exact o m q (by lia) b
theorem Wi (l:κ.OneLt) (kd:kindOf st=qK) (g:MG κ x y) (sg:jS zj st) (h:ML κ x y i j out) (hi:i+1 < x.size) (n:j < y.size) (o:b <= i+j) (c:∀ p,y[j]? = some p->∀ m q,i <= m->x[m]? = some q->kl κ p q) :
  wpS (zI prog w) A E s (loB x y out i j mg ac bc) (St7 κ zj x y b) st:=by
 unfold loB;obtain⟨p,e⟩:=qk y n;have f:=h.b e (c p e);refine zR (ql e ?_);by_cases d:j+1=y.size
 ·rw[if_pos (by simpa using d)];exact wpS_pure ⟨sg,f.dn (.inr d)⟩
 rw[if_neg (by simpa using d)];exact fx l kd g sg f hi (by lia) (by lia)
theorem gM (f:κ.OneLt) (kd:kindOf zj=qK) (g:MG κ x y) (sg:jS zj st) (h:ML κ x y i j out) (hi:i+1 < x.size) (l:j < y.size) (C:b <= i+j) :
  wpS (zI prog w) A E s (loA x y out i j mg ac bc) (St7 κ zj x y b) st:=by
 unfold loA;obtain⟨p,e⟩:=qk y l;refine zR (K7 sg λu sg=>?_);have kd:kindOf u=qK:=sg.kd.trans kd;refine zR (ql e (zR (xi f kd g.kx (Z9 g.ky e) (by lia) (g.rx.tail i _ (by lia)) (by lia) λk ⟨N,G,H⟩=>?_)));have I:∀ m q,i <= m->m < i+k->x[m]? = some q->∀ n o,j <= n->y[n]? = some o->kl κ q o:=λm q a b c n o J L=>by
  have:=G (m - i) (by lia);unfold By at this;rw[if_neg (by decide),show i+(m - i)=m by lia,qZ c,K0] at this;exact yJ (show κ.kle (kyo κ q) (kyo κ p) from this) (g.ry.at J e L)
 have z:∀ m q,i+k <= m->x[m]? = some q->kl κ p q:=λm q a b=>by
  have hm:m < x.size:=(Array.getElem?_eq_some_iff.mp b).1;have:=H (m - i) (by lia) (by lia);unfold By at this;rw[if_neg (by decide),show i+(m - i)=m by lia,qZ b,wR] at this;exact Zn this
 dsimp only;by_cases B:k > 0
 ·rw[if_pos B];have r:=h.as I;by_cases t:i+k+1=x.size
  ·rw[if_pos (by simpa using t)];exact wpS_pure ⟨sg,r.ls g t⟩
  rw[if_neg (by simpa using t)];by_cases v:i+k=x.size
  ·rw[if_pos (by simpa using v)];exact wpS_pure ⟨sg,r.dn (.inl v)⟩
  rw[if_neg (by simpa using v)];exact Wi f kd g sg r (by lia) l (by lia) λM d m q a b=>by rw[e] at d;cases d;exact z m q a b
 ·rw[if_neg B];obtain rfl:k=0:=by lia
  exact Wi f kd g sg h hi l C λM d m q a b=>by rw[e] at d;cases d;exact z m q (by lia) b
def Lo6 (κ:KeyKind) (zj:zO) (x y:Array zH) (b:Nat) (c:C6) (u:zO):Prop :=
 jS zj u/\match c.1 with
  | some r=>Rs κ x y r
  | none=>ML κ x y c.2.2.1 c.2.2.2.1 c.2.1/\c.2.2.1+1 < x.size/\c.2.2.2.1 < y.size/\b <= c.2.2.1+c.2.2.2.1
def St6 (κ:KeyKind) (zj:zO) (x y:Array zH) (b:Nat) (r:ForInStep C6) (u:zO):Prop :=
 match r with
 | .done c=>Lo6 κ zj x y b c u
 | .yield c=>c.1=none/\Lo6 κ zj x y b c u
theorem D9 {c:C6} (r:κ.OneLt) (kd:kindOf zj=qK) (g:MG κ x y) (sg:jS zj st) (h:ML κ x y c.2.2.1 c.2.2.2.1 c.2.1) (hi:c.2.2.1+1 < x.size) (n:c.2.2.2.1 < y.size) (o:b <= c.2.2.1+c.2.2.2.1+1) :
  wpS (zI prog w) A E s (lo1 x y mg c) (St6 κ zj x y b) st:=by
 unfold lo1;obtain⟨p,e⟩:=qk y n;obtain⟨q,l⟩:=qk x (show c.2.2.1 < x.size by lia);have kd:kindOf st=qK:=sg.kd.trans kd;refine zR (ql e (zR (ql l (zR (Kf r kd (Z9 g.ky e) (Z9 g.kx l) ?_)))));cases o:κ.blt (kyo κ p) (kyo κ q) with
 | true =>
  dsimp only;rw[if_pos rfl];have d:=h.b e λm z a b=>yJ (Zn o) (g.rx.at a l b);refine zR (ql e ?_);by_cases f:c.2.2.2.1+1=y.size
  ·rw[if_pos (by simpa using f)];exact wpS_pure ⟨sg,d.dn (.inr f)⟩
  rw[if_neg (by simpa using f)];split
  ·exact wpS_pure ⟨sg,d,hi,by show c.2.2.2.1+1 < _;lia,by show b <= c.2.2.1+(c.2.2.2.1+1);lia⟩
  ·exact wpS_pure ⟨rfl,sg,d,hi,by show c.2.2.2.1+1 < _;lia,by show b <= c.2.2.1+(c.2.2.2.1+1);lia⟩
 | false =>
  dsimp only;rw[if_neg (by decide)];have d:=h.a l λm z a b=>yJ o (g.ry.at a e b);refine zR (ql l ?_);by_cases f:c.2.2.1+1+1=x.size
  ·rw[if_pos (by simpa using f)];exact wpS_pure ⟨sg,d.ls g f⟩
  rw[if_neg (by simpa using f)];split
  ·exact wpS_pure ⟨sg,d,by show c.2.2.1+1+1 < _;lia,n,by show b <= c.2.2.1+1+c.2.2.2.1;lia⟩
  ·exact wpS_pure ⟨rfl,sg,d,by show c.2.2.1+1+1 < _;lia,n,by show b <= c.2.2.1+1+c.2.2.2.1;lia⟩
def Lo5 (κ:KeyKind) (zj:zO) (x y:Array zH) (b:Nat) (c:C5) (u:zO):Prop :=
 jS zj u/\match c.1 with
  | some r=>Rs κ x y r
  | none=>ML κ x y c.2.2.1 c.2.2.2.1 c.2.1/\c.2.2.1+1 < x.size/\c.2.2.2.1 < y.size/\b <= c.2.2.1+c.2.2.2.1
theorem cv {c:C5}{R:ForInStep C5->zO->Prop} (p:κ.OneLt) (kd:kindOf zj=qK) (g:MG κ x y) (sg:jS zj st) (h:ML κ x y c.2.2.1 c.2.2.2.1 c.2.1) (hi:c.2.2.1+1 < x.size) (q:c.2.2.2.1 < y.size) (t:b <= c.2.2.1+c.2.2.2.1)
  (hd:∀ r d u,jS zj u->Rs κ x y r->R (.done (some r,d)) u) (v:∀ d u,Lo5 κ zj x y (b+1) (none,d) u->R (.yield (none,d)) u) :
  wpS (zI prog w) A E s (loO x y c) R st:=by
 unfold loO;refine zR (yE (yX (I:=λk d u=>d.1=none/\Lo6 κ zj x y (b+min k 1) d u) (Q:=Lo6 κ zj x y (b+1)) (λk d u _ z ⟨n,sg,l⟩=>?step) (λd u ⟨n,m⟩=>?fin) ⟨rfl,sg,h,hi,q,t⟩) λd u m=>?post)
 case step =>
  rw[n] at l;refine yE (D9 (b:=b+1) p kd g sg l.1 l.2.1 l.2.2.1 (by have:=l.2.2.2;lia)) λr u h=>?_;rw[show min (k+1) 1=1 by lia];cases r<;>exact h
 case fin=>rwa [show min (max 0 (x.size+y.size)) 1=1 by have:=g.nx;lia] at m
 case post =>
  obtain⟨B,d⟩:=d;cases B with
  | some r=>exact wpS_pure (hd r _ u m.1 m.2)
  | none =>
   refine zR (xW (Q0 ⟨rfl,?_⟩));refine zR (yE (yX (I:=λk e u=>e.1=none/\Lo7 κ zj x y (b+1) e u) (Q:=Lo7 κ zj x y (b+1)) (λk e u _ z ⟨n,sg,o⟩=>?step2) (λe u ⟨n,f⟩=>f) ⟨rfl,m⟩) λe u f=>?post2)
   case step2 =>
    rw[n] at o;split<;>exact yE (gM p kd g sg o.1 o.2.1 o.2.2.1 o.2.2.2) λr u h=>by cases r<;>exact h
   case post2 =>
    obtain⟨C,e⟩:=e;cases C with
    | some r=>exact wpS_pure (hd r _ u f.1 f.2)
    | none=>exact zR (K7 f.1 λu sg=>wpS_pure (v _ u ⟨sg,f.2⟩))
theorem DY {Q:Array zH->zO->Prop} (C:κ.OneLt) (kd:kindOf st=qK) (g:MG κ x y) (h:∀ r u,jS st u->Rs κ x y r->Q r u):wpS (zI prog w) A E s (Vr x y) Q st:=by
 rw[E3];refine zR (xW (Q0 ⟨rfl,?_⟩));obtain⟨p,e⟩:=qk y (show 0 < y.size from g.ny);have J:=g.nx;have L:=g.ny;refine zR (ql e ?_);have o:ML κ x y 0 1 #[p]:=by
  have G:ML κ x y 0 0 #[]:=⟨by simp,Yo,λ_ h=>by simp at h,λ_ h=>by simp at h,by rw[vK];exact g.rx.pair,by rw[vK];exact g.ry.pair⟩
  obtain⟨q,B⟩:=qk x (show 0 < x.size from g.nx);exact G.b e λm z a b=>yJ (g.fst p q e B) (g.rx.at a B b)
 by_cases t:1=y.size
 ·rw[if_pos (by simpa using t)];exact wpS_pure (h _ _ (jS.refl _) (o.dn (.inr t)))
 rw[if_neg (by simpa using t)];by_cases f:0+1=x.size
 ·rw[if_pos (by simpa using f)];exact wpS_pure (h _ _ (jS.refl _) (o.ls g f))
 rw[if_neg (by simpa using f)];refine zR (Zx ?_);refine zR (yE (yX (I:=λk c u=>c.1=none/\Lo5 κ st x y (k+1) c u) (Q:=λc u=>∃ r d,c=(some r,d)/\jS st u/\Rs κ x y r) (λk c u _ M ⟨n,sg,f⟩=>?step) (λc u ⟨n,sg,f⟩=>?fin) ⟨rfl,jS.refl _,o,by show 0+1 < _;lia,by show 1 < _;lia,by show 0+1 <= 0+1;lia⟩) λc u ⟨r,d,H,sg,v⟩=>?post)
 case step =>
  rw[n] at f;exact cv (b:=k+1) C kd g sg f.1 f.2.1 f.2.2.1 f.2.2.2 (λr d u sg v=>⟨r,d,rfl,sg,v⟩) λd u l=>⟨rfl,l⟩
 case fin=>rw[n] at f;have:=f.2;lia
 case post=>subst H;exact wpS_pure (h r u sg v)
end
abbrev H7:=Option (Array zH)×Nat×Nat×Array zH×Nat×Nat×Nat
abbrev H6:=Option (Array zH)×Nat×Nat×Array zH×Nat×Nat
abbrev H5:=Option (Array zH)×Nat×Nat×Array zH×Nat
noncomputable def hiD (x y out:Array zH) (i j mg c d:Nat):StateT zO Sem (ForInStep H7):=do
 let p <- qb x (i - 1)
 if (i - 1 == 0)=true then pure (.done (some (dnH x y (out.push p) (i - 1) j),i - 1,j,out.push p,mg,c,d))
 else if (decide (c < 7) && decide (d < 7))=true then pure (.done (none,i - 1,j,out.push p,mg,c,d))
 else pure (.yield (none,i - 1,j,out.push p,mg,c,d))
noncomputable def hiC (x y out:Array zH) (i j mg c d:Nat):StateT zO Sem (ForInStep H7):=do
 let p <- qb x (i - 1)
 match <- JD true p y 0 j (j - 1) with
 | some t =>
  if j - t > 0 then
   if (t == 1)=true then pure (.done (some (fsH x y (out++(y.extract t j).reverse) i t),i,t,out++(y.extract t j).reverse,mg,c,j - t))
   else if (t == 0)=true then pure (.done (some (dnH x y (out++(y.extract t j).reverse) i t),i,t,out++(y.extract t j).reverse,mg,c,j - t))
   else hiD x y (out++(y.extract t j).reverse) i t mg c (j - t)
  else hiD x y out i j mg c (j - t)
 | _=>pure (.done (some (dnH x y out i j),i,j,out,mg,c,d))
noncomputable def hiB (x y out:Array zH) (i j mg c d:Nat):StateT zO Sem (ForInStep H7):=do
 let p <- qb y (j - 1)
 if (j - 1 == 1)=true then pure (.done (some (fsH x y (out.push p) i (j - 1)),i,j - 1,out.push p,mg,c,d))
 else hiC x y (out.push p) i (j - 1) mg c d
noncomputable def hiA (x y out:Array zH) (i j mg d c:Nat):StateT zO Sem (ForInStep H7):=do
 Xz mg
 let p <- qb y (j - 1)
 match <- JD false p x 0 i (i - 1) with
 | some t =>
  if i - t > 0 then
   if (t == 0)=true then pure (.done (some (dnH x y (out++(x.extract t i).reverse) t j),t,j,out++(x.extract t i).reverse,mg,i - t,c))
   else hiB x y (out++(x.extract t i).reverse) t j mg (i - t) c
  else hiB x y out i j mg (i - t) c
 | _=>pure (.done (some (dnH x y out i j),i,j,out,mg,d,c))
noncomputable def hi1 (x y:Array zH) (mg:Nat) (c:H6):StateT zO Sem (ForInStep H6):=do
 let p <- qb y (c.2.2.1 - 1)
 let q <- qb x (c.2.1 - 1)
 match <- lt' p q with
 | some r =>
  if r=true then do
   let q <- qb x (c.2.1 - 1)
   if (c.2.1 - 1 == 0)=true then pure (.done (some (dnH x y (c.2.2.2.1.push q) (c.2.1 - 1) c.2.2.1),c.2.1 - 1,c.2.2.1,c.2.2.2.1.push q,c.2.2.2.2.1+1,0))
   else if c.2.2.2.2.1+1 ≥ mg then pure (.done (none,c.2.1 - 1,c.2.2.1,c.2.2.2.1.push q,c.2.2.2.2.1+1,0))
   else pure (.yield (none,c.2.1 - 1,c.2.2.1,c.2.2.2.1.push q,c.2.2.2.2.1+1,0))
  else do
   let p <- qb y (c.2.2.1 - 1)
   if (c.2.2.1 - 1 == 1)=true then pure (.done (some (fsH x y (c.2.2.2.1.push p) c.2.1 (c.2.2.1 - 1)),c.2.1,c.2.2.1 - 1,c.2.2.2.1.push p,0,c.2.2.2.2.2+1))
   else if c.2.2.2.2.2+1 ≥ mg then pure (.done (none,c.2.1,c.2.2.1 - 1,c.2.2.2.1.push p,0,c.2.2.2.2.2+1))
   else pure (.yield (none,c.2.1,c.2.2.1 - 1,c.2.2.2.1.push p,0,c.2.2.2.2.2+1))
 | _=>pure (.done (some (dnH x y c.2.2.2.1 c.2.1 c.2.2.1),c.2.1,c.2.2.1,c.2.2.2.1,c.2.2.2.2.1,c.2.2.2.2.2))
noncomputable def hiO (x y:Array zH) (c:H5):StateT zO Sem (ForInStep H5):=do
 let d <- forIn [0:x.size+y.size] ((none,c.2.1,c.2.2.1,c.2.2.2.1,0,0):H6) λ_ d=>hi1 x y c.2.2.2.2 d
 match d.1 with
 | some r=>pure (.done (some r,d.2.1,d.2.2.1,d.2.2.2.1,c.2.2.2.2))
 | none=>do
  liftM (ZP "list.sort.gallop")
  let e <- forIn [0:x.size+y.size] ((none,d.2.1,d.2.2.1,d.2.2.2.1,c.2.2.2.2+1,d.2.2.2.2.1,d.2.2.2.2.2):H7) λ_ e =>
   if e.2.2.2.2.1 > 1 then hiA x y e.2.2.2.1 e.2.1 e.2.2.1 (e.2.2.2.2.1 - 1) e.2.2.2.2.2.1 e.2.2.2.2.2.2 else hiA x y e.2.2.2.1 e.2.1 e.2.2.1 e.2.2.2.2.1 e.2.2.2.2.2.1 e.2.2.2.2.2.2
  match e.1 with
  | some r=>pure (.done (some r,e.2.1,e.2.2.1,e.2.2.2.1,e.2.2.2.2.1))
  | none=>do
   Xz (e.2.2.2.2.1+1)
   pure (.yield (none,e.2.1,e.2.2.1,e.2.2.2.1,e.2.2.2.2.1+1))
theorem Gp (x y:Array zH):YC x y=(do
 liftM (ZP "list.sort.merge-hi")
 let p <- qb x (x.size - 1)
 if (x.size - 1 == 0)=true then pure (dnH x y #[p] (x.size - 1) y.size)
 else if (y.size == 1)=true then pure (fsH x y #[p] (x.size - 1) y.size)
 else do
  let z <- get
  let c <- forIn [0:x.size+y.size] ((none,x.size - 1,y.size,#[p],gallopOf z):H5) λ_ c=>hiO x y c
  match c.1 with
  | some r=>pure r
  | none=>liftM (unsupported "internal:list.sort.merge-bound" : Sem (Array zH))):=by
 show (sortPriv% PySem.Builtin.mergeHi) x y=_;refine congrArg (bind _) (funext λ_=>congrArg (bind _) (funext λp=>ite_congr rfl (λ_=>rfl) λ_=>ite_congr rfl (λ_=>rfl) λ_=>congrArg (bind _) (funext λz=>?_)));refine congr (congrArg bind (congrArg _ (funext λ_=>funext λc=>congrArg (bind _) (funext λd=>?_)))) (funext λc=>?_)
 ·obtain⟨f,d⟩:=d;cases f with
  | some r=>rfl
  | none=>exact congrArg (bind _) (funext λ_=>congrArg (bind _) (funext λe=>by obtain⟨g,e⟩:=e;cases g<;>rfl))
 ·obtain⟨h,c⟩:=c;cases h<;>rfl
def MH (κ:KeyKind) (x y:Array zH) (i j:Nat) (out:Array zH):Prop:=MI (λp q=>kl κ q p) (x.toList++y.toList) (x.toList.take i).reverse (y.toList.take j).reverse out.toList
section
variable {x y out:Array zH}{i j:Nat}{p:zH}
theorem MH.a (h:MH κ x y (i+1) j out) (e:x[i]? = some p) (c:∀ m q,m < j->y[m]? = some q->kl κ q p):MH κ x y i j (out.push p):=by
 unfold MH at *;rw[Uj e] at h;have:=MI.run (xs:=[p]) h λz hz q d=>by
  obtain⟨m,a,_,b⟩:=JK d;rw[List.mem_singleton.mp hz];exact c m q a b
 rwa [vY]
theorem MH.b (h:MH κ x y i (j+1) out) (e:y[j]? = some p) (c:∀ m q,m < i->x[m]? = some q->kl κ q p):MH κ x y i j (out.push p):=by
 unfold MH at *;rw[Uj e] at h;have:=MI.run (xs:=[p]) h.swap λz hz q d=>by
  obtain⟨m,a,_,b⟩:=JK d;rw[List.mem_singleton.mp hz];exact c m q a b
 rw[vY];exact this.swap
theorem MH.as {k:Nat} (f:k <= i) (h:MH κ x y i j out) (c:∀ m q,k <= m->m < i->x[m]? = some q->∀ d e,d < j->y[d]? = some e->kl κ e q):MH κ x y k j (out++(x.extract k i).reverse):=by
 unfold MH at *;rw[A2 f] at h;have:=MI.run h λz hz q g=>by
  obtain⟨m,a,_,b⟩:=JK g;rw[KZ,aP] at hz;obtain⟨d,l,n,_,o⟩:=Xu hz;exact c d z l n o m q a b
 rwa [Zj]
theorem MH.bs {k:Nat} (f:k <= j) (h:MH κ x y i j out) (c:∀ m q,k <= m->m < j->y[m]? = some q->∀ d e,d < i->x[d]? = some e->kl κ e q):MH κ x y i k (out++(y.extract k j).reverse):=by
 unfold MH at *;have h:=h.swap;rw[A2 f] at h;have:=MI.run h λz hz q g=>by
  obtain⟨m,a,_,b⟩:=JK g;rw[KZ,aP] at hz;obtain⟨d,l,n,_,o⟩:=Xu hz;exact c d z l n o m q a b
 rw[Zj];exact this.swap
theorem VM (z:Array zH) (i:Nat):(z.extract 0 i).toList=z.toList.take i:=by
 rw[Vz,KD];rfl
theorem aH (a b c:List zH):a++b++c.reverse=(c++b.reverse++a.reverse).reverse:=by simp
theorem MH.dn (h:MH κ x y i j out) (c:i=0\/j=0):Rs κ x y (dnH x y out i j):=by
 unfold Rs dnH;rw[Zj,Zj,VM,VM,KZ,aH];refine⟨(YK _).trans h.swap.pm,List.pairwise_reverse.mpr (h.swap.fin λa ha b d=>?_)⟩;obtain⟨m,e,f,g⟩:=JK ha;obtain⟨l,n,o,q⟩:=JK d
 lia
theorem MH.fs (g:MG κ x y) (h:MH κ x y i j out) (c:j=1):Rs κ x y (fsH x y out i j):=by
 unfold Rs fsH;rw[Zj,Zj,VM,VM,KZ,aH];refine⟨(YK _).trans h.pm,List.pairwise_reverse.mpr (h.fin λa ha b e=>?_)⟩;obtain⟨m,q,r,f⟩:=JK ha;obtain⟨n,t,u,o⟩:=JK e;obtain rfl:n=0:=by lia
 obtain⟨l,d⟩:=qk x (i:=0) (by lia);exact yJ (g.fst b l o d) (g.rx.at (ZJ m) d f)
end
def Hi7 (κ:KeyKind) (d:zO) (x y:Array zH) (b:Nat) (c:H7) (u:zO):Prop :=
 jS d u/\match c.1 with
  | some r=>Rs κ x y r
  | none=>MH κ x y c.2.1 c.2.2.1 c.2.2.2.1/\1 <= c.2.1/\2 <= c.2.2.1/\c.2.1 <= x.size/\c.2.2.1 <= y.size/\c.2.1+c.2.2.1+b <= x.size+y.size
def Th7 (κ:KeyKind) (d:zO) (x y:Array zH) (b:Nat) (r:ForInStep H7) (u:zO):Prop :=
 match r with
 | .done c=>Hi7 κ d x y b c u
 | .yield c=>c.1=none/\Hi7 κ d x y b c u
section
variable {zj st:zO}{x y out:Array zH}{i j mg ac bc b:Nat}
theorem Al (g:MG κ x y) (sg:jS zj st) (h:MH κ x y i j out) (hi:1 <= i) (o:2 <= j) (r:i <= x.size) (d:j <= y.size) (t:i+j+b <= x.size+y.size) (c:∀ p,x[i - 1]? = some p->∀ m q,m < j->y[m]? = some q->kl κ q p) :
  wpS (zI prog w) A E s (hiD x y out i j mg ac bc) (Th7 κ zj x y b) st:=by
 unfold hiD;obtain⟨p,e⟩:=qk x (show i - 1 < x.size by lia);obtain⟨n,rfl⟩:∃ n,i=n+1:=⟨i - 1,by lia⟩
 rw[ui] at e c ⊢;have f:=h.a e (c p e);refine zR (ql e ?_);by_cases l:n=0
 ·rw[if_pos (by simpa using l)];exact wpS_pure ⟨sg,f.dn (.inl l)⟩
 rw[if_neg (by simpa using l)];split
 ·exact wpS_pure ⟨sg,f,by show 1 <= n;lia,o,by show n <= _;lia,d,by show n+j+b <= _;lia⟩
 ·exact wpS_pure ⟨rfl,sg,f,by show 1 <= n;lia,o,by show n <= _;lia,d,by show n+j+b <= _;lia⟩
theorem Bz (B:κ.OneLt) (kd:kindOf st=qK) (g:MG κ x y) (sg:jS zj st) (h:MH κ x y i j out) (hi:1 <= i) (C:2 <= j) (d:i <= x.size) (n:j <= y.size) (G:i+j+b <= x.size+y.size) :
  wpS (zI prog w) A E s (hiC x y out i j mg ac bc) (Th7 κ zj x y b) st:=by
 unfold hiC;obtain⟨p,e⟩:=qk x (show i - 1 < x.size by lia);refine zR (ql e (zR (xi B kd g.ky (Z9 g.kx e) (by lia) (g.ry.tail 0 _ (by lia)) (by lia) λk ⟨H,I,J⟩=>?_)));have v:∀ m q,m < k->y[m]? = some q->kl κ q p:=λm q a c=>by
  have:=I m a;unfold By at this;rw[if_pos rfl,ja,qZ c] at this;exact Zn this
 have L:∀ m q,k <= m->m < j->y[m]? = some q->∀ l o,l < i->x[l]? = some o->kl κ o q:=λm q a b c l o Q M=>by
  have:=J m a b;unfold By at this;rw[if_pos rfl,ja,qZ c] at this;exact yJ (g.rx.at (show l <= i - 1 by lia) M e) this
 dsimp only;by_cases z:j - k > 0
 ·rw[if_pos z];have r:=h.bs H L;by_cases t:k=1
  ·rw[if_pos (by simpa using t)];exact wpS_pure ⟨sg,r.fs g t⟩
  rw[if_neg (by simpa using t)];by_cases u:k=0
  ·rw[if_pos (by simpa using u)];exact wpS_pure ⟨sg,r.dn (.inr u)⟩
  rw[if_neg (by simpa using u)];exact Al g sg r hi (by lia) d (by lia) (by lia) λN f m q a b=>by rw[e] at f;cases f;exact v m q a b
 ·rw[if_neg z];obtain rfl:k=j:=by lia
  exact Al g sg h hi C d n G λN f m q a b=>by rw[e] at f;cases f;exact v m q a b
theorem Ar (o:κ.OneLt) (kd:kindOf st=qK) (g:MG κ x y) (sg:jS zj st) (h:MH κ x y i j out) (hi:1 <= i) (t:2 <= j) (d:i <= x.size) (r:j <= y.size) (u:i+j+b <= x.size+y.size) (c:∀ p,y[j - 1]? = some p->∀ m q,m < i->x[m]? = some q->kl κ q p) :
  wpS (zI prog w) A E s (hiB x y out i j mg ac bc) (Th7 κ zj x y b) st:=by
 unfold hiB;obtain⟨p,e⟩:=qk y (show j - 1 < y.size by lia);obtain⟨n,rfl⟩:∃ n,j=n+1:=⟨j - 1,by lia⟩
 rw[ui] at e c ⊢;have l:=h.b e (c p e);refine zR (ql e ?_);by_cases f:n=1
 ·rw[if_pos (by simpa using f)];exact wpS_pure ⟨sg,l.fs g f⟩
 rw[if_neg (by simpa using f)];exact Bz o kd g sg l hi (by lia) d (by lia) (by lia)
theorem HM (n:κ.OneLt) (kd:kindOf zj=qK) (g:MG κ x y) (sg:jS zj st) (h:MH κ x y i j out) (hi:1 <= i) (v:2 <= j) (o:i <= x.size) (d:j <= y.size) (G:i+j+b <= x.size+y.size) :
  wpS (zI prog w) A E s (hiA x y out i j mg ac bc) (Th7 κ zj x y b) st:=by
 unfold hiA;obtain⟨p,e⟩:=qk y (show j - 1 < y.size by lia);refine zR (K7 sg λu sg=>?_);have kd:kindOf u=qK:=sg.kd.trans kd;refine zR (ql e (zR (xi n kd g.kx (Z9 g.ky e) (by lia) (g.rx.tail 0 _ (by lia)) (by lia) λk ⟨H,I,J⟩=>?_)));have z:∀ m q,m < k->x[m]? = some q->kl κ q p:=λm q a c=>by
  have:=I m a;unfold By at this;rw[if_neg (by decide),ja,qZ c,K0] at this;exact this
 have L:∀ m q,k <= m->m < i->x[m]? = some q->∀ l r,l < j->y[l]? = some r->kl κ r q:=λm q a b c l r Q M=>by
  have:=J m a b;unfold By at this;rw[if_neg (by decide),ja,qZ c,wR] at this;exact yJ (g.ry.at (show l <= j - 1 by lia) M e) (Zn this)
 dsimp only;by_cases B:i - k > 0
 ·rw[if_pos B];have C:=h.as H L;by_cases t:k=0
  ·rw[if_pos (by simpa using t)];exact wpS_pure ⟨sg,C.dn (.inl t)⟩
  rw[if_neg (by simpa using t)];exact Ar n kd g sg C (by lia) v (by lia) d (by lia) λN f m q a b=>by rw[e] at f;cases f;exact z m q a b
 ·rw[if_neg B];obtain rfl:k=i:=by lia
  exact Ar n kd g sg h hi v o d G λN f m q a b=>by rw[e] at f;cases f;exact z m q a b
def Hi6 (κ:KeyKind) (zj:zO) (x y:Array zH) (b:Nat) (c:H6) (u:zO):Prop :=
 jS zj u/\match c.1 with
  | some r=>Rs κ x y r
  | none=>MH κ x y c.2.1 c.2.2.1 c.2.2.2.1/\1 <= c.2.1/\2 <= c.2.2.1/\c.2.1 <= x.size/\c.2.2.1 <= y.size/\c.2.1+c.2.2.1+b <= x.size+y.size
def Th6 (κ:KeyKind) (zj:zO) (x y:Array zH) (b:Nat) (r:ForInStep H6) (u:zO):Prop :=
 match r with
 | .done c=>Hi6 κ zj x y b c u
 | .yield c=>c.1=none/\Hi6 κ zj x y b c u
theorem DO {c:H6} (v:κ.OneLt) (kd:kindOf zj=qK) (g:MG κ x y) (sg:jS zj st) (h:MH κ x y c.2.1 c.2.2.1 c.2.2.2.1) (hi:1 <= c.2.1) (t:2 <= c.2.2.1) (o:c.2.1 <= x.size) (r:c.2.2.1 <= y.size) (B:c.2.1+c.2.2.1+b <= x.size+y.size+1) :
  wpS (zI prog w) A E s (hi1 x y mg c) (Th6 κ zj x y b) st:=by
 unfold hi1;obtain⟨d,i,j,out,ac,bc⟩:=c;dsimp only at *;obtain⟨p,e⟩:=qk y (show j - 1 < y.size by lia);obtain⟨q,l⟩:=qk x (show i - 1 < x.size by lia);have kd:kindOf st=qK:=sg.kd.trans kd;refine zR (ql e (zR (ql l (zR (Kf v kd (Z9 g.ky e) (Z9 g.kx l) ?_)))));cases u:κ.blt (kyo κ p) (kyo κ q) with
 | true =>
  dsimp only;rw[if_pos rfl];obtain⟨n,rfl⟩:∃ n,i=n+1:=⟨i - 1,by lia⟩
  rw[ui] at l ⊢;have f:=h.a l λm z a b=>yJ (g.ry.at (show m <= j - 1 by lia) b e) (Zn u);refine zR (ql l ?_);by_cases d:n=0
  ·rw[if_pos (by simpa using d)];exact wpS_pure ⟨sg,f.dn (.inl d)⟩
  rw[if_neg (by simpa using d)];split
  ·exact wpS_pure ⟨sg,f,by show 1 <= n;lia,t,by show n <= _;lia,r,by show n+j+b <= _;lia⟩
  ·exact wpS_pure ⟨rfl,sg,f,by show 1 <= n;lia,t,by show n <= _;lia,r,by show n+j+b <= _;lia⟩
 | false =>
  dsimp only;rw[if_neg (by decide)];obtain⟨n,rfl⟩:∃ n,j=n+1:=⟨j - 1,by lia⟩
  rw[ui] at e ⊢;have f:=h.b e λm z a b=>yJ (g.rx.at (show m <= i - 1 by lia) b l) u;refine zR (ql e ?_);by_cases d:n=1
  ·rw[if_pos (by simpa using d)];exact wpS_pure ⟨sg,f.fs g d⟩
  rw[if_neg (by simpa using d)];split
  ·exact wpS_pure ⟨sg,f,hi,by show 2 <= n;lia,o,by show n <= _;lia,by show i+n+b <= _;lia⟩
  ·exact wpS_pure ⟨rfl,sg,f,hi,by show 2 <= n;lia,o,by show n <= _;lia,by show i+n+b <= _;lia⟩
def Hi5 (κ:KeyKind) (zj:zO) (x y:Array zH) (b:Nat) (c:H5) (u:zO):Prop :=
 jS zj u/\match c.1 with
  | some r=>Rs κ x y r
  | none=>MH κ x y c.2.1 c.2.2.1 c.2.2.2.1/\1 <= c.2.1/\2 <= c.2.2.1/\c.2.1 <= x.size/\c.2.2.1 <= y.size/\c.2.1+c.2.2.1+b <= x.size+y.size
theorem eN {c:H5}{R:ForInStep H5->zO->Prop} (v:κ.OneLt) (kd:kindOf zj=qK) (g:MG κ x y) (G:c.1=none) (H:Hi5 κ zj x y b c st)
  (hd:∀ r d u,jS zj u->Rs κ x y r->R (.done (some r,d)) u) (J:∀ d u,Hi5 κ zj x y (b+1) (none,d) u->R (.yield (none,d)) u) :
  wpS (zI prog w) A E s (hiO x y c) R st:=by
 unfold hiO;obtain⟨sg,h⟩:=H;rw[G] at h;refine zR (yE (yX (I:=λk d u=>d.1=none/\Hi6 κ zj x y (b+min k 1) d u) (Q:=Hi6 κ zj x y (b+1)) (λk d u _ L ⟨n,sg,z⟩=>?step) (λd u ⟨n,l⟩=>?fin) ⟨rfl,sg,h⟩) λd u l=>?post)
 case step =>
  rw[n] at z;obtain⟨m,o,p,q,t,B⟩:=z;refine yE (DO (b:=b+1) v kd g sg m o p q t (by lia)) λr u h=>?_;rw[show min (k+1) 1=1 by lia];cases r<;>exact h
 case fin=>rwa [show min (max 0 (x.size+y.size)) 1=1 by have:=g.nx;lia] at l
 case post =>
  obtain⟨M,d⟩:=d;cases M with
  | some r=>exact wpS_pure (hd r _ u l.1 l.2)
  | none =>
   refine zR (xW (Q0 ⟨rfl,?_⟩));refine zR (yE (yX (I:=λk e u=>e.1=none/\Hi7 κ zj x y (b+1) e u) (Q:=Hi7 κ zj x y (b+1)) (λk e u _ L ⟨n,sg,C⟩=>?step2) (λe u ⟨n,f⟩=>f) ⟨rfl,l⟩) λe u f=>?post2)
   case step2 =>
    rw[n] at C;obtain⟨m,o,p,q,t,B⟩:=C;split<;>exact yE (HM v kd g sg m o p q t B) λr u h=>by cases r<;>exact h
   case post2 =>
    obtain⟨N,e⟩:=e;cases N with
    | some r=>exact wpS_pure (hd r _ u f.1 f.2)
    | none=>exact zR (K7 f.1 λu sg=>wpS_pure (J _ u ⟨sg,f.2⟩))
theorem DG {Q:Array zH->zO->Prop} (C:κ.OneLt) (kd:kindOf st=qK) (g:MG κ x y) (h:∀ r u,jS st u->Rs κ x y r->Q r u):wpS (zI prog w) A E s (YC x y) Q st:=by
 rw[Gp];refine zR (xW (Q0 ⟨rfl,?_⟩));have G:=g.nx;have M:=g.ny;obtain⟨p,e⟩:=qk x (show x.size - 1 < x.size by lia);refine zR (ql e ?_);have o:MH κ x y (x.size - 1) y.size #[p]:=by
  have H:MH κ x y (x.size - 1+1) y.size #[]:=by
   unfold MH;rw[Nat.sub_add_cancel G,k9 (by simp),k9 (by simp)];exact⟨by simpa using (YK _).append (YK _),Yo,λ_ h=>by simp at h,λ_ h=>by simp at h,List.pairwise_reverse.mpr g.rx.pair,List.pairwise_reverse.mpr g.ry.pair⟩
  obtain⟨q,B⟩:=qk y (show y.size - 1 < y.size by lia);exact H.a e λm z a b=>yJ (g.ry.at (show m <= y.size - 1 by lia) b B) (g.lst q p B e)
 by_cases t:x.size - 1=0
 ·rw[if_pos (by simpa using t)];exact wpS_pure (h _ _ (jS.refl _) (o.dn (.inl t)))
 rw[if_neg (by simpa using t)];by_cases f:y.size=1
 ·rw[if_pos (by simpa using f)];exact wpS_pure (h _ _ (jS.refl _) (o.fs g f))
 rw[if_neg (by simpa using f)];refine zR (Zx ?_);refine zR (yE (yX (I:=λk c u=>c.1=none/\Hi5 κ st x y (k+1) c u) (Q:=λc u=>∃ r d,c=(some r,d)/\jS st u/\Rs κ x y r) (λk c u _ N ⟨n,J⟩=>?step) (λc u ⟨n,sg,f⟩=>?fin) ⟨rfl,jS.refl _,o,by show 1 <= x.size - 1;lia,by show 2 <= y.size;lia,by show x.size - 1 <= _;lia,zd _,by show x.size - 1+y.size+(0+1) <= _;lia⟩) λc u ⟨r,d,L,sg,v⟩=>?post)
 case step=>exact eN (b:=k+1) C kd g n J (λr d u sg v=>⟨r,d,rfl,sg,v⟩) λd u l=>⟨rfl,l⟩
 case fin=>rw[n] at f;have:=f.2;lia
 case post=>subst L;exact wpS_pure (h r u sg v)
end
noncomputable def yw (a:Array zH) (o:Nat) (l:List (zH×Nat)):Array zH:=l.foldl (λa (p,j)=>a.setIfInBounds (o+j) p) a
theorem w4:∀ (l:List zH) (a:Array zH) (o n:Nat),o+n+l.length <= a.size->(yw a o (l.zipIdx n)).toList=a.toList.take (o+n)++l++a.toList.drop (o+n+l.length)
 | [],a,o,n,h=>by show a.toList=_;simp
 | p::l,a,o,n,h=>by
  rw[List.zipIdx_cons];show (yw (a.setIfInBounds (o+n) p) o (l.zipIdx (n+1))).toList=_;rw[jU] at h ⊢;rw[w4 l _ o (n+1) (by rw[Array.size_setIfInBounds];lia),Fg,show o+(n+1)=(o+n)+1 by lia];have c:o+n < a.toList.length:=by rw[jf];lia
  rw[List.take_set,List.drop_set_of_lt (by lia),cV c,Vy _ _ (by rw[qx];lia),qx,show o+n - min (o+n) a.toList.length=0 by lia,show o+n+1+l.length=o+n+(l.length+1) by lia];simp
theorem fB {M:kK}{σ:Type}{z:σ}{Q:PUnit->σ->Prop}{st:σ} (h:Q ⟨⟩ z):wpS M A E s (set z:StateT σ Sem PUnit) Q st:=by
 unfold wpS;rw[StateT.run_set];exact wpAny_pure ⟨rfl,h⟩
noncomputable def mgE (a:Array zH) (sa c sb nb:Nat):StateT zO Sem Bool :=
 if (nb == 0)=true then pure true else
 if c <= nb then do
  let r <- Vr (a.extract sa sb) (a.extract sb (sb+nb))
  modify λz=>setArr z (yw (zJ z) sa r.toList.zipIdx)
  let z <- get
  pure (Qe z).isNone
 else do
  let r <- YC (a.extract sa sb) (a.extract sb (sb+nb))
  modify λz=>setArr z (yw (zJ z) sa r.toList.zipIdx)
  let z <- get
  pure (Qe z).isNone
noncomputable def mgB (a:Array zH) (sa c sb nb:Nat):StateT zO Sem Bool:=do
 let p <- qb a sb
 match <- JD false p a sa c 0 with
 | some k =>
  if (c - k == 0)=true then pure true else do
   let q <- qb a (sa+k+(c - k) - 1)
   match <- JD true q a sb nb (nb - 1) with
   | some nb=>mgE a (sa+k) (c - k) sb nb
   | _=>pure false
 | _=>pure false
theorem Es {st:zO}{i sa c d sb nb e:Nat}{Q:Bool->zO->Prop} (f:(jG st)[i]? = some (sa,c,d)) (g:(jG st)[i+1]? = some (sb,nb,e))
  (h:wpS (zI prog w) A E s (mgB (zJ st) sa c sb nb) Q (u9 st (((jG st).setIfInBounds i (sa,c+nb,d)).eraseIdxIfInBounds (i+1)))):wpS (zI prog w) A E s (mergeAt' i) Q st:=by
 show wpS (zI prog w) A E s ((sortPriv% PySem.Builtin.mergeAt) i) Q st;refine zR (Zx ?_);rw[f,g];exact zR (fB h)
theorem Rs.mem {y:Array zH} (h:Rs κ x y r) {p:zH}{m:Nat} (e:r[m]? = some p):(∃ k:Nat,x[k]? = some p)\/∃ k:Nat,y[k]? = some p:=by
 obtain⟨hm,rfl⟩:=Array.getElem?_eq_some_iff.mp e;have:=h.1.mem_iff.mp (show r[m]∈r.toList by simp);rcases List.mem_append.mp this with a | a
 ·obtain⟨k,c,d⟩:=List.mem_iff_getElem.mp a;exact .inl ⟨k,by rw[<- d];simpa using c⟩
 ·obtain⟨k,c,d⟩:=List.mem_iff_getElem.mp a;exact .inr ⟨k,by rw[<- d];simpa using c⟩
theorem Rs.le {y:Array zH} (h:Rs κ x y r) {i j:Nat}{p q:zH} (c:i < j) (d:r[i]? = some p) (e:r[j]? = some q):kl κ p q:=by
 obtain⟨hi,rfl⟩:=Array.getElem?_eq_some_iff.mp d;obtain⟨f,rfl⟩:=Array.getElem?_eq_some_iff.mp e;have:=List.pairwise_iff_getElem.mp h.2 i j (by rw[jf];exact hi) (by rw[jf];exact f) c;simpa using this
theorem xx {a:Array zH}{lo hi k:Nat}{p:zH} (e:(a.extract lo hi)[k]? = some p):lo+k < hi/\a[lo+k]? = some p:=by
 obtain⟨d,rfl⟩:=Array.getElem?_eq_some_iff.mp e;have c:=d;rw[kr] at c;exact⟨by lia,by rw[ef,getElem?_pos a (lo+k) (by lia)]⟩
theorem Ri.ext {a:Array zH}{lo n:Nat} (g:lo+n <= a.size) (r:Ri κ a lo n):Ri κ (a.extract lo (lo+n)) 0 (a.extract lo (lo+n)).size:=by
 intro i j c d;have f:(a.extract lo (lo+n)).size=n:=by rw[kr];lia
 rw[f] at d;have e:∀ k,k < n->KK κ (a.extract lo (lo+n)) (0+k)=KK κ a (lo+k):=λk h=>KY (by rw[ja,Array.getElem?_extract,if_pos (by lia)]);rw[e i (by lia),e j d];exact r i j c d
theorem Ri.sub {a:Array zH}{lo:Nat} (r:Ri κ a lo n) (k m:Nat) (h:k+m <= n):Ri κ a (lo+k) m:=λi j p q=>by
 have:=r (k+i) (k+j) (by lia) (by lia)
 rwa [<- XU,<- XU] at this
def Mrg (κ:KeyKind) (zN:Array zH) (sa n:Nat) (st c:zO):Prop:=jk zN sa (sa+n) st c/\Ri κ (zJ c) sa n
theorem c9 {st h:zO}{sa k nb f d:Nat}{r:Array zH} (g:SG zN st) (sg:jS st h) (hn:sa+d+nb <= zN.size) (hk:k <= d) (hb:f <= nb) (I:Ri κ (zJ st) sa d) (J:Ri κ (zJ st) (sa+d) nb)
  (L:∀ i j,i < k->j < nb->κ.kle (KK κ (zJ st) (sa+i)) (KK κ (zJ st) (sa+d+j))) (M:∀ i j,i < d->f <= j->j < nb->κ.kle (KK κ (zJ st) (sa+i)) (KK κ (zJ st) (sa+d+j)))
  (B:Rs κ ((zJ st).extract (sa+k) (sa+d)) ((zJ st).extract (sa+d) (sa+d+f)) r):Mrg κ zN sa (d+nb) st (setArr h (yw (zJ h) (sa+k) r.toList.zipIdx)):=by
 have hz:=g.sz;have N:r.size=d - k+f:=by
  have:=B.1.length_eq;rw[jy,jf,jf,jf,kr,kr] at this
  lia
 have C:=w4 r.toList (zJ h) (sa+k) 0 (by rw[jf,sg.ar];lia);rw[sg.ar,wH,jf,N] at C;rw[sg.ar];have at_:∀ m:Nat,(yw (zJ st) (sa+k) r.toList.zipIdx)[m]? = if sa+k <= m/\m < sa+d+f then r[m - (sa+k)]? else (zJ st)[m]? := by
  intro m;rw[<- Xt,C,jg];by_cases n:m < sa+k
  ·rw[qF (by rw[qx,jf];lia),aq n,if_neg (by lia),Xt]
  rw[jP (by rw[qx,jf];lia),qx,jf,Nat.min_eq_left (by lia)];by_cases y:m < sa+d+f
  ·rw[qF (by rw[jf];lia),if_pos (by lia),Xt]
  ·rw[jP (by rw[jf];lia),if_neg (by lia),BO,jf,Xt]
   congr 1;lia
 refine⟨⟨⟨?_,sg.kd.trans g.kd,sg.fl.trans g.fl⟩,λm hm=>?_,sg.pd⟩,?_⟩
 ·refine Ha (Array.perm_iff_toList_perm.mpr ?_) g.pm;show (yw (zJ st) (sa+k) r.toList.zipIdx).toList.Perm _;rw[C];have e:(zJ st).toList=(zJ st).toList.take (sa+k)++(((zJ st).extract (sa+k) (sa+d)).toList++((zJ st).extract (sa+d) (sa+d+f)).toList)++(zJ st).toList.drop (sa+k+(d - k+f)):=by
   have Q:=Kp (a:=zJ st) (i:=sa+d) (k:=f);have H:=Kp (a:=zJ st) (i:=sa+k) (k:=d - k);rw[show sa+k+(d - k)=sa+d by lia] at H;rw[show sa+k+(d - k+f)=sa+d+f by lia,jg,jg,<- Q,<- H,vk]
  conv=>rhs;rw[e]
  exact (B.1.append_left _).append_right _
 ·show (yw (zJ st) (sa+k) r.toList.zipIdx)[m]? = _;rw[at_,if_neg (by lia)]
 ·show Ri κ (yw (zJ st) (sa+k) r.toList.zipIdx) sa (d+nb);have low:∀ i,i < k->KK κ (yw (zJ st) (sa+k) r.toList.zipIdx) (sa+i)=KK κ (zJ st) (sa+i):=λi hi=>KY (by rw[at_,if_neg (by lia)]);have l:∀ i,d+f <= i->KK κ (yw (zJ st) (sa+k) r.toList.zipIdx) (sa+i)=KK κ (zJ st) (sa+i):=λi hi=>KY (by rw[at_,if_neg (by lia)]);have t:∀ i,k <= i->i < d+f->∃ p,r[i - k]? = some p/\KK κ (yw (zJ st) (sa+k) r.toList.zipIdx) (sa+i)=kyo κ p/\∃ m,k <= m/\m < d+f/\kyo κ p=KK κ (zJ st) (sa+m):=λi hi o=>by
   obtain⟨p,e⟩:=qk r (show i - k < r.size by lia);refine⟨p,e,qZ (by rw[at_,if_pos (by lia),show sa+i - (sa+k)=i - k by lia];exact e),?_⟩;rcases Rs.mem B e with ⟨m,u⟩ | ⟨m,u⟩
   ·obtain⟨n,y⟩:=xx u;exact⟨k+m,by lia,by lia,by rw[<- XU];exact (qZ y).symm⟩
   ·obtain⟨n,y⟩:=xx u;exact⟨d+m,by lia,by lia,by rw[<- XU];exact (qZ y).symm⟩
  have v:∀ i m,i < k->m < d+nb->i <= m->κ.kle (KK κ (zJ st) (sa+i)) (KK κ (zJ st) (sa+m)):=λi m hi hm o=>by
   by_cases c:m < d
   ·exact I i m o c
   ·have:=L i (m - d) hi (by lia)
    rwa [show sa+d+(m - d)=sa+m by lia] at this
  have z:∀ m j,d+f <= j->j < d+nb->m <= j->κ.kle (KK κ (zJ st) (sa+m)) (KK κ (zJ st) (sa+j)):=λm j hi hm o=>by
   by_cases c:m < d
   ·have:=M m (j - d) c (by lia) (by lia)
    rwa [show sa+d+(j - d)=sa+j by lia] at this
   ·have:=J (m - d) (j - d) (by lia) (by lia)
    rwa [show sa+d+(j - d)=sa+j by lia,show sa+d+(m - d)=sa+m by lia] at this
  intro i j x o;by_cases n:i < k
  ·rw[low i n];by_cases U:j < k
   ·rw[low j U];exact v i j n o x
   by_cases G:j < d+f
   ·obtain⟨p,_,e,m,Y,m2,u⟩:=t j (by lia) G;rw[e,u];exact v i m n (by lia) (by lia)
   ·rw[l j (by lia)];exact v i j n o x
  by_cases y:i < d+f
  ·obtain⟨p,ep,e,m,Y,m2,u⟩:=t i (by lia) y;by_cases G:j < d+f
   ·obtain⟨q,eq,e',_⟩:=t j (by lia) G;rw[e,e'];by_cases c:i=j
    ·subst c;rw[ep] at eq;cases eq;exact Q8 _
    ·exact Rs.le B (show i - k < j - k by lia) ep eq
   ·rw[e,u,l j (by lia)];exact z m j (by lia) o (by lia)
  ·rw[l i (by lia),l j (by lia)];exact z i j (by lia) o x
theorem SG.has {st:zO} (h:SG zN st) (c:KeysOf κ zN) {p:zH} (d:p∈(zJ st).toList):yF κ p:=c p ((Array.perm_iff_toList_perm.mp h.pm).mem_iff.mp d)
theorem WK {a:Array zH}{i k:Nat}{y:zH} (h:y∈(a.extract i k).toList):y∈a.toList:=by
 obtain⟨j,_,_,c,e⟩:=Xu h;obtain⟨c,rfl⟩:=Array.getElem?_eq_some_iff.mp e;simp
theorem Ri.join {a:Array zH}{sa nb:Nat} (h:Ri κ a sa e) (l:Ri κ a (sa+e) nb) (f:∀ i j,i < e->j < nb->κ.kle (KK κ a (sa+i)) (KK κ a (sa+e+j))):Ri κ a sa (e+nb):=λi j g m=>by
 by_cases c:j < e
 ·exact h i j g c
 by_cases d:i < e
 ·have:=f i (j - e) d (by lia)
  rwa [show sa+e+(j - e)=sa+j by lia] at this
 ·have:=l (i - e) (j - e) (by lia) (by lia)
  rwa [show sa+e+(j - e)=sa+j by lia,show sa+e+(i - e)=sa+i by lia] at this
theorem fV {st:zO}{sa k d nb e:Nat}{Q:Bool->zO->Prop} (C:κ.OneLt) (G:KeysOf κ zN) (g:SG zN st) (I:sa+d+nb <= zN.size) (hk:k < d) (J:e <= nb) (x:Ri κ (zJ st) sa d) (y:Ri κ (zJ st) (sa+d) nb)
  (L:∀ i j,i < k->j < nb->κ.kle (KK κ (zJ st) (sa+i)) (KK κ (zJ st) (sa+d+j))) (H:∀ i j,i < d->e <= j->j < nb->κ.kle (KK κ (zJ st) (sa+i)) (KK κ (zJ st) (sa+d+j)))
  (M:e≠0->κ.kle (KK κ (zJ st) (sa+d)) (KK κ (zJ st) (sa+k))) (N:e≠0->κ.kle (KK κ (zJ st) (sa+d+(e - 1))) (KK κ (zJ st) (sa+d - 1)))
  (h:∀ f,Mrg κ zN sa (d+nb) st f->Q true f):wpS (zI prog w) A E s (mgE (zJ st) (sa+k) (d - k) (sa+d) e) Q st:=by
 unfold mgE;by_cases c:e=0
 ·rw[if_pos (by simpa using c)];exact wpS_pure (h _ ⟨jk.refl g,x.join y λi j a b=>H i j a (by lia) b⟩)
 rw[if_neg (by simpa using c)];have hz:=g.sz;have s1:((zJ st).extract (sa+k) (sa+d)).size=d - k:=by rw[kr];lia
 have U:((zJ st).extract (sa+d) (sa+d+e)).size=e:=by rw[kr];lia
 have mg:MG κ ((zJ st).extract (sa+k) (sa+d)) ((zJ st).extract (sa+d) (sa+d+e)):=by
  refine⟨λp B=>g.has G (WK B),λp B=>g.has G (WK B),?_,Ri.ext (by lia) (y.sub 0 e (by lia)),by lia,by lia,λp q o t=>?_,λp q o t=>?_⟩
  ·have:=Ri.ext (lo:=sa+k) (n:=d - k) (by lia) (x.sub k (d - k) (by lia))
   rwa [show sa+k+(d - k)=sa+d by lia] at this
  ·have v:=(xx o).2;have l:=(xx t).2;have:=M c;rw[wH] at v l
   rwa [qZ v,qZ l] at this
  ·rw[U] at o;rw[s1] at t;have v:=(xx o).2;have l:=(xx t).2;rw[show sa+k+(d - k - 1)=sa+d - 1 by lia] at l;have:=N c
   rwa [qZ v,qZ l] at this
 have fin:∀ r u,jS st u->Rs κ ((zJ st).extract (sa+k) (sa+d)) ((zJ st).extract (sa+d) (sa+d+e)) r->wpS (zI prog w) A E s (do modify λz=>setArr z (yw (zJ z) (sa+k) r.toList.zipIdx);let z <- get;pure (Qe z).isNone) Q u:=λr u sg Y=>by
  refine zR (JU (zR (Zx (wpS_pure ?_))));have m:=c9 g sg I (by lia) J x y L H Y;have:=h _ m;rw[show (Qe (setArr u (yw (zJ u) (sa+k) r.toList.zipIdx))).isNone=true by rw[m.1.ok.fl];rfl];exact this
 split
 ·exact zR (DY C g.kd mg fin)
 ·exact zR (DG C g.kd mg fin)
theorem dB {st:zO}{sa f nb:Nat}{Q:Bool->zO->Prop} (x:κ.OneLt) (m:KeysOf κ zN) (g:SG zN st) (z:sa+f+nb <= zN.size) (I:1 <= f) (J:1 <= nb) (r:Ri κ (zJ st) sa f) (u:Ri κ (zJ st) (sa+f) nb)
  (h:∀ o,Mrg κ zN sa (f+nb) st o->Q true o):wpS (zI prog w) A E s (mgB (zJ st) sa f (sa+f) nb) Q st:=by
 unfold mgB;have hz:=g.sz;obtain⟨p,e⟩:=qk (zJ st) (show sa+f < (zJ st).size by lia);refine zR (ql e (zR (xi x g.kd (λp l=>g.has m l) (Z9 (λp l=>g.has m l) e) (by lia) r (by lia) λk ⟨L,B,C⟩=>?_)));have y:∀ i j,i < k->j < nb->κ.kle (KK κ (zJ st) (sa+i)) (KK κ (zJ st) (sa+f+j)):=λi j hi G=>by
  have:=B i hi;unfold By at this;rw[if_neg (by decide),K0] at this;have a:=u 0 j (by lia) G;rw[wH,qZ e] at a;exact yJ this a
 dsimp only;by_cases c:f - k=0
 ·rw[if_pos (by simpa using c)];exact wpS_pure (h _ ⟨jk.refl g,r.join u λi j a b=>y i j (by lia) b⟩)
 rw[if_neg (by simpa using c),show sa+k+(f - k) - 1=sa+f - 1 by lia];obtain⟨q,v⟩:=qk (zJ st) (show sa+f - 1 < (zJ st).size by lia);refine zR (ql v (zR (xi x g.kd (λp l=>g.has m l) (Z9 (λp l=>g.has m l) v) (by lia) u (by lia) λt ⟨t1,t2,H⟩=>?_)));refine fV x m g z (by lia) t1 r u y (λi j a b d=>?_) (λn=>?_) (λn=>?_) h
 ·have:=H j b d;unfold By at this;rw[if_pos rfl] at this;have a:=r i (f - 1) (by lia) (by lia);rw[show sa+(f - 1)=sa+f - 1 by lia,qZ v] at a;exact yJ a this
 ·have:=C k (zd _) (by lia);unfold By at this;rw[if_neg (by decide),wR] at this;rw[qZ e];exact Zn this
 ·have:=t2 (t - 1) (by lia);unfold By at this;rw[if_pos rfl] at this;rw[qZ v];exact Zn this
noncomputable def qq (κ:KeyKind) (xs:Array zH):List (Nat×Nat×Nat)->Nat->Nat->Prop
 | [],lo,hi=>lo=hi
 | r::t,lo,hi=>r.1=lo/\1 <= r.2.1/\Ri κ xs lo r.2.1/\qq κ xs t (lo+r.2.1) hi
theorem qq.app:∀ {a b:List (Nat×Nat×Nat)}{lo hi:Nat},qq κ xs (a++b) lo hi ↔ ∃ m,qq κ xs a lo m/\qq κ xs b m hi
 | [],b,lo,hi=>⟨λh=>⟨lo,rfl,h⟩,λ⟨m,e,h⟩=>by cases e;exact h⟩
 | r::a,b,lo,hi=>⟨λ⟨c,d,f,g⟩=>by obtain⟨m,i,j⟩:=qq.app.mp g;exact⟨m,⟨c,d,f,i⟩,j⟩,λ⟨m,⟨c,d,f,g⟩,i⟩=>⟨c,d,f,qq.app.mpr ⟨m,g,i⟩⟩⟩
theorem qq.len:∀ {a:List (Nat×Nat×Nat)}{lo hi:Nat},qq κ xs a lo hi->lo+a.length <= hi
 | [],lo,hi,h=>by cases h;exact zd _
 | r::a,lo,hi,⟨d,e,f,c⟩=>by have:=c.len;rw[jU];lia
theorem Ri.same {ys:Array zH}{lo:Nat} (h:Ri κ xs lo n) (e:∀ k,lo <= k->k < lo+n->ys[k]? = xs[k]?):Ri κ ys lo n:=λi j a b=>by
 rw[KY (e (lo+i) (by lia) (by lia)),KY (e (lo+j) (by lia) (by lia))];exact h i j a b
theorem qq.same {ys:Array zH}:∀ {a:List (Nat×Nat×Nat)}{lo hi:Nat},qq κ xs a lo hi->(∀ k,lo <= k->k < hi->ys[k]? = xs[k]?)->qq κ ys a lo hi
 | [],lo,hi,h,_=>h
 | r::a,lo,hi,⟨d,f,g,c⟩,e=>by
  have:=c.len;exact⟨d,f,g.same λk a b=>e k a (by lia),c.same λk a b=>e k (by lia) b⟩
theorem qq.mod {c:Nat}:∀ {a:List (Nat×Nat×Nat)}{lo hi:Nat} (k:Nat),qq κ xs a lo hi->qq κ xs (a.modify k λr=>(r.1,r.2.1,c)) lo hi
 | [],lo,hi,k,h=>by rw[List.modify_nil];exact h
 | r::a,lo,hi,0,h=>by rw[List.modify_zero_cons];exact h
 | r::a,lo,hi,k+1,⟨d,e,f,g⟩=>by rw[List.modify_succ_cons];exact⟨d,e,f,g.mod k⟩
structure PR (κ:KeyKind) (zN:Array zH) (lo:Nat) (st:zO):Prop where
 ok:SG zN st
 rn:qq κ (zJ st) (jG st).toList 0 lo
theorem uP {st:zO}{i lo:Nat}{Q:Bool->zO->Prop} (C:κ.OneLt) (G:KeysOf κ zN) (H:PR κ zN lo st) (hl:lo <= zN.size) (hi:i+1 < (jG st).size)
  (h:∀ c,PR κ zN lo c->(jG c).size+1=(jG st).size->(∀ k,lo <= k->(zJ c)[k]? = (zJ st)[k]?)->Q true c):wpS (zI prog w) A E s (mergeAt' i) Q st:=by
 obtain⟨g,rn⟩:=H;obtain⟨⟨sa,e,n⟩,q⟩:∃ r,(jG st)[i]? = some r:=⟨_,getElem?_pos (jG st) i (by lia)⟩
 obtain⟨⟨sb,nb,I⟩,t⟩:∃ r,(jG st)[i+1]? = some r:=⟨_,getElem?_pos (jG st) (i+1) hi⟩
 have d:(jG st).toList=(jG st).toList.take i++(sa,e,n)::(sb,nb,I)::(jG st).toList.drop (i+2):=by
  obtain⟨J,M⟩:=Array.getElem?_eq_some_iff.mp q;obtain⟨N,U⟩:=Array.getElem?_eq_some_iff.mp t;have u:=X7 (l:=(jG st).toList) (i:=i) (by rw[jf];exact J);have v:=X7 (l:=(jG st).toList) (i:=i+1) (by rw[jf];exact N);rw[vF,M] at u;rw[vF,U] at v;rw[<- v,<- u,vk]
 generalize Y:(jG st).toList.take i=L at d;generalize hR:(jG st).toList.drop (i+2)=R at d;have o:L.length=i:=by rw[<- Y,qx,jf];lia
 rw[d] at rn;obtain⟨m,x,f,n1,y,j,n2,z,p⟩:=qq.app.mp rn;dsimp only at f n1 y j n2 z p;subst f j;have len:=p.len;refine Es q t (dB (st:=u9 st (((jG st).setIfInBounds i (sa,e+nb,n)).eraseIdxIfInBounds (i+1))) C G ⟨g.pm,g.kd,g.fl⟩ (by lia) n1 n2 y z λc ⟨kp,ri⟩=>?_);have B:(jG c).toList=L++(sa,e+nb,n)::R:=by
  rw[kp.pd];show (((jG st).setIfInBounds i (sa,e+nb,n)).eraseIdxIfInBounds (i+1)).toList=_;rw[Array.toList_eraseIdxIfInBounds,Fg,d];subst o;rw[Vy _ _ (zd _),List.eraseIdx_append_of_length_le (by lia),JN,aB];rfl
 have ll:=x.len;refine h c ⟨kp.ok,?_⟩ ?_ λk hk=>kp.out k (.inr (by lia))
 ·rw[B];exact qq.app.mpr ⟨sa,x.same λk _ b=>kp.out k (.inl b),rfl,by show 1 <= e+nb;lia,ri,by rw[<- XU];exact p.same λk a _=>kp.out k (.inr (by lia))⟩
 ·rw[<- jf,<- jf,B,d];simp;lia
theorem PR.push {lo n:Nat}{st:zO} (h:PR κ zN lo st) (c:1 <= n) (r:Ri κ (zJ st) lo n):PR κ zN (lo+n) (u9 st ((jG st).push (lo,n,0))) :=
 ⟨⟨h.ok.pm,h.ok.kd,h.ok.fl⟩,by
  show qq κ (zJ st) ((jG st).push (lo,n,0)).toList 0 (lo+n);rw[vY];exact qq.app.mpr ⟨lo,h.rn,rfl,c,r,rfl⟩⟩
theorem PR.modi {lo k c:Nat}{st:zO} (h:PR κ zN lo st):PR κ zN lo (u9 st ((jG st).modify k λ(a,b,_)=>(a,b,c))) :=
 ⟨⟨h.ok.pm,h.ok.kd,h.ok.fl⟩,by
  show qq κ (zJ st) ((jG st).modify k λ(a,b,_)=>(a,b,c)).toList 0 lo;rw[Array.toList_modify];exact h.rn.mod k⟩
theorem eA {st:zO}{Q:Unit->zO->Prop} (H:κ.OneLt) (J:KeysOf κ zN) (L:SBase zN st) (h2:2 <= zN.size)
  (h:∀ v,(zJ v).Perm zN->Qe v=none->Wj κ (zJ v) zN.size->Q () v):wpS (zI prog w) A E s sortRuns' Q st:=by
 rw[sortRuns'_eq];refine zR (Zx ?_);dsimp only;simp only[L.size];refine zR (yE (yX (I:=λx c u=>∃ lo,c=(none,lo)/\x <= lo/\lo <= zN.size/\PR κ zN lo u) (Q:=λc u=>c=(none,zN.size)/\PR κ zN zN.size u)
  (λx c u _ hx ⟨lo,g,h1,h2,l⟩=>?step) (λc u ⟨lo,g,h1,h2,l⟩=>?fin) ⟨0,rfl,zd _,ZJ _,⟨L.perm,L.kind,L.failed⟩,by rw[L.pend];rfl⟩) λc u ⟨g,l⟩=>?post)
 case fin =>
  obtain rfl:lo=zN.size:=by lia
  exact⟨g,l⟩
 case step =>
  subst g;dsimp only;by_cases c:lo ≥ zN.size
  ·rw[if_pos c];obtain rfl:lo=zN.size:=by lia
   exact wpS_pure ⟨rfl,l⟩
  rw[if_neg c];refine zR (cT H J (by lia) (by lia) l.ok λm z kp m1 m2 G=>?_);have o:PR κ zN lo z:=⟨kp.ok,by rw[kp.pd];exact l.rn.same λk _ b=>kp.out k (.inl b)⟩
  dsimp only;by_cases d:m < Vc zN.size zN.size 0
  ·rw[if_pos d];refine zR (xW (Q0 ⟨rfl,?_⟩));refine zR (GY H J (by lia) (by lia) kp.ok G λz C N=>?_);simp only[Ji,jW,if_false];have o:PR κ zN lo z:=⟨C.ok,by rw[C.pd];exact o.rn.same λk _ b=>C.out k (.inl b)⟩
   have p:1 <= min (zN.size - lo) (Vc zN.size zN.size 0):=by lia
   have q:lo+min (zN.size - lo) (Vc zN.size zN.size 0) <= zN.size:=by lia
   generalize min (zN.size - lo) (Vc zN.size zN.size 0)=n at *;have G:=N;refine zR (Zx ?_);rcases hb:(jG z).back? with _ | ⟨s1,n1,q1⟩
   ·dsimp only;exact zR (JU (wpS_pure ⟨_,rfl,by lia,q,o.push p G⟩))
   ·dsimp only;refine zR (yE (yX (I:=λ_ c u=>c=(none,())/\PR κ zN lo u/\Ri κ (zJ u) lo n) (Q:=λc u=>c=(none,())/\PR κ zN lo u/\Ri κ (zJ u) lo n)
     (λy c u _ hy ⟨g,e,f⟩=>?st2) (λc u U=>U) ⟨rfl,o,G⟩) λc u ⟨g,e,f⟩=>?po2)
    case st2 =>
     subst g;refine zR (Zx ?_);by_cases B:(jG u).size > 1
     ·rw[if_pos B];rcases hq:(jG u)[(jG u).size - 2]? with _ | ⟨s2,n2,q2⟩
      ·exact wpS_pure ⟨rfl,e,f⟩
      ·dsimp only;split
       ·exact wpS_pure ⟨rfl,e,f⟩
       ·refine zR (uP H J e (by lia) (by lia) λz t _ Y=>?_);simp only[Ji,jW,if_false];exact wpS_pure ⟨rfl,t,f.same λk a _=>Y k a⟩
     ·rw[if_neg B];exact wpS_pure ⟨rfl,e,f⟩
    case po2 =>
     subst g;exact zR (JU (zR (JU (wpS_pure ⟨_,rfl,by lia,q,e.modi.push p f⟩))))
  ·rw[if_neg d];have q:lo+m <= zN.size:=by lia
   have p:=m1;generalize m=n at *;refine zR (Zx ?_);rcases hb:(jG z).back? with _ | ⟨s1,n1,q1⟩
   ·dsimp only;exact zR (JU (wpS_pure ⟨_,rfl,by lia,q,o.push p G⟩))
   ·dsimp only;refine zR (yE (yX (I:=λ_ c u=>c=(none,())/\PR κ zN lo u/\Ri κ (zJ u) lo n) (Q:=λc u=>c=(none,())/\PR κ zN lo u/\Ri κ (zJ u) lo n)
     (λy c u _ hy ⟨g,e,f⟩=>?st2) (λc u U=>U) ⟨rfl,o,G⟩) λc u ⟨g,e,f⟩=>?po2)
    case st2 =>
     subst g;refine zR (Zx ?_);by_cases B:(jG u).size > 1
     ·rw[if_pos B];rcases hq:(jG u)[(jG u).size - 2]? with _ | ⟨s2,n2,q2⟩
      ·exact wpS_pure ⟨rfl,e,f⟩
      ·dsimp only;split
       ·exact wpS_pure ⟨rfl,e,f⟩
       ·refine zR (uP H J e (by lia) (by lia) λz t _ Y=>?_);simp only[Ji,jW,if_false];exact wpS_pure ⟨rfl,t,f.same λk a _=>Y k a⟩
     ·rw[if_neg B];exact wpS_pure ⟨rfl,e,f⟩
    case po2 =>
     subst g;exact zR (JU (zR (JU (wpS_pure ⟨_,rfl,by lia,q,e.modi.push p f⟩))))
 case post =>
  subst g;dsimp only;have pl:=l.rn.len;rw[ja,jf] at pl;refine zR (yE (yX (I:=λk c u=>c=(none,())/\PR κ zN zN.size u/\(jG u).size <= max 1 (zN.size - k)) (Q:=λc u=>c=(none,())/\PR κ zN zN.size u/\(jG u).size <= 1)
   (λk c u _ hk ⟨g,l,M⟩=>?st3) (λc u ⟨g,l,M⟩=>⟨g,l,by lia⟩) ⟨rfl,l,by lia⟩) λc u ⟨g,l,M⟩=>?po3)
  case st3 =>
   subst g;refine zR (Zx ?_);by_cases B:(jG u).size <= 1
   ·rw[if_pos B];exact wpS_pure ⟨rfl,l,B⟩
   rw[if_neg B];split
   all_goals
    refine zR (uP H J l (zd _) (by split<;>lia) λz t e4 _=>?_);simp only[Ji,jW,if_false];exact wpS_pure ⟨rfl,t,by lia⟩
  case po3 =>
   subst g;refine wpS_pure (h u l.ok.pm l.ok.fl ?_);have rn:=l.rn
   match hp:(jG u).toList,rn with
   | [],rn=>have:0=zN.size:=rn;lia
   | [r],⟨r1,r2,r3,r4⟩ =>
    have:0+r.2.1=zN.size:=r4;intro i j hij hj;have:=r3 i j hij (by lia)
    rwa [ja,ja] at this
   | _::_::_,_=>rw[<- jf,hp] at M;simp at M
theorem gn {a:zC}{c:List zB}{n:Nat}{P:Fin->zG->Prop} (q:κ.OneLt) (f:s.heap.get? a=some (Zi "list" c.toArray n)) (t:KeysOf κ (kT c))
  (l:∀ x y r,c=x::y::r->keyKind' (x::y::r).toArray=pure qK) (J:c.length <= 16777216)
  (h:∀ u:zO,(zJ u).Perm (kT c)->Wj κ (zJ u) (kT c).size->P (.done (.ret .none)) { s with heap:=sortedHeap s.heap a c ((zJ u).map (·.2)) }) :
  wpAny (zI prog w) A (Builtin.«list.sort» ⟨[.ref a],[]⟩) P E s:=by
 rw[list_sort_plain];have la:a < s.heap.objs.size:=zm f;refine wpAny_bind (listItems_at f rfl (wpAny_bind (ai f rfl ?_)));obtain⟨m,o⟩:∃ m,(s.heap.update a (yK λ_=>#[])).get? a=some (Zi "list" #[] m):=⟨_,get?_update_seq f (λ_=>#[])⟩
 refine wpAny_bind (WY o rfl (wpAny_bind (FQ (wpAny_bind (wj (y4 ?_))))));have g:(((s.heap.update a (yK λ_=>#[])).push (Zi "tuple" c.toArray 0)).push (Zi "list" #[] 0)).get? a=some (Zi "list" #[] m):=by
  rw[fS _ _ _ (by rw[size_push',Xg];exact z4 (xK la)),fS _ _ _ (by rw[Xg];exact z4 la)];exact o
 show wpAny (zI prog w) A _ P E { s with heap:=((s.heap.update a (yK λ_=>#[])).push (Zi "tuple" c.toArray 0)).push (Zi "list" #[] 0) };dsimp only;have hz:c.toArray.size=c.length:=by simp
 by_cases d:c.toArray.size < 2
 ·rw[if_pos d,if_pos d];refine wpAny_bind (wpAny_pure ?_);rw[StateT.run_pure];refine wpAny_bind (wpAny_pure ?_);dsimp only;refine wpAny_bind (WY g rfl (wpAny_bind (ai g rfl ?_ (hsz2:=by rw[ft];show (kT c).size <= _;rw[uS,ZG];lia))));simp only[bne_self_eq_false,jW,if_false];refine wpAny_pure (h (aD general' (c.toArray.zip c.toArray) #[] 7 none) (fo _) λi j v z=>?_);rw[uS] at z;obtain rfl:i=j:=by lia
  exact Q8 _
 ·rw[if_neg d,if_neg d]
  match c,hz,d with
  | [],_,d=>simp at d
  | [_],_,d=>simp at d
  | x::y::r,_,_ =>
  rw[l _ _ _ rfl];refine wpAny_bind (wpAny_pure (wpAny_bind (wpAny_mono (eA q (zN:=kT (x::y::r)) (st:=aD qK ((x::y::r).toArray.zip (x::y::r).toArray) #[] 7 none)
   (Q:=λ_ u=>(zJ u).Perm (kT (x::y::r))/\Qe u=none/\Wj κ (zJ u) (kT (x::y::r)).size) t ⟨fo _,rfl,rfl,rfl⟩ (by rw[uS];simp) λu B C G=>⟨B,C,G⟩) ?_ λ_ _ e=>e)))
  rintro ⟨⟨⟩,u⟩ _ ⟨rfl,p,H,I⟩
  dsimp only;refine wpAny_bind (WY g rfl (wpAny_bind (ai g rfl ?_ (hsz2:=qD (XX ((ft ..).trans (p.size_eq.trans (uS _)))) (by rw[ZG];lia)))));rw[H];simp only[bne_self_eq_false,jW,if_false];exact wpAny_pure (h u p I)
end TS
namespace M
abbrev T:=List Nat
inductive Kd where
 | str | int | bool | list | tuple | dict
 deriving DecidableEq
inductive D where
 | non | bl (b:Bool) | int (i:Int) | str (x:T) | tup (ds:List D) | ro (ds:List D) | ref (i:Nat) | ty (n:Kd)
mutual
noncomputable def D.decEq:(a b:D)->Decidable (a=b)
 | .non,.non=>isTrue rfl
 | .bl a,.bl b=>if h:a=b then isTrue (by rw[h]) else isFalse (λe=>h (D.bl.inj e))
 | .int a,.int b=>if h:a=b then isTrue (by rw[h]) else isFalse (λe=>h (D.int.inj e))
 | .str a,.str b=>if h:a=b then isTrue (by rw[h]) else isFalse (λe=>h (D.str.inj e))
 | .ref a,.ref b=>if h:a=b then isTrue (by rw[h]) else isFalse (λe=>h (D.ref.inj e))
 | .ty a,.ty b=>if h:a=b then isTrue (by rw[h]) else isFalse (λe=>h (D.ty.inj e))
 | .tup a,.tup b=>match D.decEqs a b with
  | isTrue h=>isTrue (by rw[h])
  | isFalse h=>isFalse (λe=>h (D.tup.inj e))
 | .ro a,.ro b=>match D.decEqs a b with
  | isTrue h=>isTrue (by rw[h])
  | isFalse h=>isFalse (λe=>h (D.ro.inj e))
 | .non,.bl _ | .non,.int _ | .non,.str _ | .non,.tup _ | .non,.ro _ | .non,.ref _ | .non,.ty _=>isFalse (λe=>nomatch e)
 | .bl _,.non | .bl _,.int _ | .bl _,.str _ | .bl _,.tup _ | .bl _,.ro _ | .bl _,.ref _ | .bl _,.ty _=>isFalse (λe=>nomatch e)
 | .int _,.non | .int _,.bl _ | .int _,.str _ | .int _,.tup _ | .int _,.ro _ | .int _,.ref _ | .int _,.ty _=>isFalse (λe=>nomatch e)
 | .str _,.non | .str _,.bl _ | .str _,.int _ | .str _,.tup _ | .str _,.ro _ | .str _,.ref _ | .str _,.ty _=>isFalse (λe=>nomatch e)
 | .tup _,.non | .tup _,.bl _ | .tup _,.int _ | .tup _,.str _ | .tup _,.ro _ | .tup _,.ref _ | .tup _,.ty _=>isFalse (λe=>nomatch e)
 | .ro _,.non | .ro _,.bl _ | .ro _,.int _ | .ro _,.str _ | .ro _,.tup _ | .ro _,.ref _ | .ro _,.ty _=>isFalse (λe=>nomatch e)
 | .ref _,.non | .ref _,.bl _ | .ref _,.int _ | .ref _,.str _ | .ref _,.tup _ | .ref _,.ro _ | .ref _,.ty _=>isFalse (λe=>nomatch e)
 | .ty _,.non | .ty _,.bl _ | .ty _,.int _ | .ty _,.str _ | .ty _,.tup _ | .ty _,.ro _ | .ty _,.ref _=>isFalse (λe=>nomatch e)
noncomputable def D.decEqs:(a b:List D)->Decidable (a=b)
 | [],[]=>isTrue rfl
 | [],_::_=>isFalse (λe=>nomatch e)
 | _::_,[]=>isFalse (λe=>nomatch e)
 | a::r,b::t=>match D.decEq a b,D.decEqs r t with
  | isTrue h,isTrue k=>isTrue (by rw[h,k])
  | isFalse h,_=>isFalse (λe=>h (bt e).1)
  | _,isFalse k=>isFalse (λe=>k (bt e).2)
end
instance:DecidableEq D:=D.decEq
inductive O where
 | lst (xs:List D) | dct (kvs:List (D×D)) | fdc (kvs:List (D×D)) | dtt (kvs:List (D×D)) | ftt (kvs:List (D×D)) | ins (c:Nat) (fs:List (Option D))
 deriving DecidableEq
abbrev S:=List O
abbrev St:=List (Option D)
inductive R (α:Type) where
 | ok (a:α) (s:S) | exc (e:D) (s:S) | no
noncomputable def R.bind {c d:Type}:R c->(c->S->R d)->R d
 | .ok a s,f=>f a s
 | .exc e s,_=>.exc e s
 | .no,_=>.no
@[simp] theorem R.bind_ok {c d:Type} (a:c) (s:S) (f:c->S->R d):(R.ok a s).bind f=f a s:=rfl
@[simp] theorem R.bind_no {c d:Type} (f:c->S->R d):(R.no:R c).bind f=.no:=rfl
@[simp] theorem R.bind_exc {c d:Type} (e:D) (s:S) (f:c->S->R d):(R.exc e s:R c).bind f=.exc e s:=rfl
section
variable {α β:Type}{c:Prop} [Decidable c]
@[simp] theorem R.bind_ite (a b:R α) (f:α->S->R β):(if c then a else b).bind f=if c then a.bind f else b.bind f:=by split<;>rfl
@[simp] theorem R.ite_ok (a b:α) (s:S):(if c then R.ok a s else R.ok b s)=R.ok (if c then a else b) s:=by split<;>rfl
@[simp] theorem D.ite_bl (a b:Bool):(if c then D.bl a else D.bl b)=D.bl (if c then a else b):=by split<;>rfl
@[simp] theorem D.ite_int (a b:Int):(if c then D.int a else D.int b)=D.int (if c then a else b):=by split<;>rfl
@[simp] theorem D.ite_str (a b:T):(if c then D.str a else D.str b)=D.str (if c then a else b):=by split<;>rfl
@[simp] theorem D.ite_tup (a b:List D):(if c then D.tup a else D.tup b)=D.tup (if c then a else b):=by split<;>rfl
@[simp] theorem St.ite_some (a b:D):(if c then some a else some b)=some (if c then a else b):=by split<;>rfl
@[simp] theorem St.ite_cons (a b:Option D) (r t:St):(if c then a::r else b::t)=(if c then a else b)::(if c then r else t):=by split<;>rfl
end
abbrev EM:=St->S->R D
abbrev TM:=St->S->R Bool
abbrev AM:=St->S->R (List D)
noncomputable def SZ:Nat:=16777216
@[simp] noncomputable def zA (i:Nat):EM:=λσ s=>match σ[i]? with
 | some (some d)=>.ok d s
 | _=>.no
@[simp] noncomputable def eC (d:D):EM:=λ_ s=>.ok d s
@[simp] noncomputable def eOp (f:D->D->S->R D) (a b:EM):EM:=λσ s=>(a σ s).bind λx s=>(b σ s).bind λy s=>f x y s
@[simp] noncomputable def eUn (f:D->S->R D) (a:EM):EM:=λσ s=>(a σ s).bind λx s=>f x s
@[simp] noncomputable def zF:AM:=λ_ s=>.ok [] s
@[simp] noncomputable def zD (a:EM) (r:AM):AM:=λσ s=>(a σ s).bind λx s=>(r σ s).bind λxs s=>.ok (x::xs) s
@[simp] noncomputable def ZU (a:AM):EM:=λσ s=>(a σ s).bind λxs s=>if xs.length <= SZ then .ok (.tup xs) s else .no
@[simp] noncomputable def alloc (o:O) (s:S):R D:=.ok (.ref s.length) (s++[o])
@[simp] noncomputable def j8 (a:AM):EM:=λσ s=>(a σ s).bind λxs s=>if xs.length <= SZ then alloc (.lst xs) s else .no
@[simp] noncomputable def z7 (s:S) (i:Nat):Option (List D):=match s[i]? with
 | some (.lst xs)=>some xs
 | _=>none
@[simp] noncomputable def z8:D->D->S->R D
 | .int i,.int j,s=>.ok (.int (i+j)) s
 | .str a,.str b,s=>if a.length+b.length <= SZ then .ok (.str (a++b)) s else .no
 | .tup a,.tup b,s=>if a≠[]/\a.length+b.length <= SZ then .ok (.tup (a++b)) s else .no
 | .ref i,.ref j,s=>match s[i]?,s[j]? with
  | some (.lst xs),some (.lst ys)=>if xs.length+ys.length <= SZ then alloc (.lst (xs++ys)) s else .no
  | _,_=>.no
 | _,_,_=>.no
@[simp] noncomputable def k5:D->D->S->R D
 | .int i,.int j,s=>.ok (.int (i - j)) s
 | _,_,_=>.no
noncomputable def qg (i:Int):Bool:=decide (i.natAbs < 18446744073709551616)
@[simp] noncomputable def ZO:D->D->S->R D
 | .int i,.int j,s=>if qg i || qg j then .ok (.int (i * j)) s else .no
 | .str a,.int n,s=>if 0 <= n/\n.natAbs <= 1000000/\a.length * n.natAbs <= 1000000 then .ok (.str (zq n.toNat a).flatten) s else .no
 | .ref p,.int n,s=>match z7 s p with
  | some xs=>if n.natAbs <= 1000/\xs.length * n.natAbs <= 1000000 then alloc (.lst (zq n.toNat xs).flatten) s else .no
  | none=>.no
 | _,_,_=>.no
@[simp] noncomputable def yU:D->D->S->R D
 | .int i,.int j,s=>if 0 < j/\j.natAbs < 1073741824 then .ok (.int (i / j)) s else .no
 | _,_,_=>.no
@[simp] noncomputable def z5:D->D->S->R D
 | .int i,.int j,s=>if 0 < j then .ok (.int (i % j)) s else .no
 | _,_,_=>.no
@[simp] noncomputable def vI:D->S->R D
 | .int i,s=>.ok (.int (-i)) s
 | _,_=>.no
abbrev CM:=D->D->S->R Bool
@[simp] noncomputable def cLt:CM
 | .int i,.int j,s=>.ok (decide (i < j)) s
 | .str a,.str b,s=>.ok (decide (a < b)) s
 | _,_,_=>.no
@[simp] noncomputable def cGt:CM
 | .int i,.int j,s=>.ok (decide (j < i)) s
 | _,_,_=>.no
inductive P where
 | non | bl (b:Bool) | int (i:Int) | str (x:T) | tup (ps:List P) | lst (ps:List P)
mutual
noncomputable def P.eqv:P->P->Bool
 | .non,.non=>true
 | .bl a,.bl b=>a == b
 | .int a,.int b=>a == b
 | .bl a,.int b=>(if a then 1 else 0) == b
 | .int a,.bl b=>a == (if b then 1 else 0)
 | .str a,.str b=>a == b
 | .tup a,.tup b=>P.eqvs a b
 | .lst a,.lst b=>P.eqvs a b
 | _,_=>false
noncomputable def P.eqvs:List P->List P->Bool
 | [],[]=>true
 | a::r,b::t=>P.eqv a b && P.eqvs r t
 | _,_=>false
end
mutual
noncomputable def P.dep:P->Nat
 | .tup ps=>P.deps ps+1
 | .lst ps=>P.deps ps+1
 | _=>0
noncomputable def P.deps:List P->Nat
 | []=>0
 | p::ps=>max (P.dep p) (P.deps ps)
end
noncomputable def jZ (g:Nat->Option P):D->Option P
 | .non=>some .non
 | .bl b=>some (.bl b)
 | .int i=>some (.int i)
 | .str x=>some (.str x)
 | .tup c=>(all c).map .tup
 | .ro c=>(all c).map .lst
 | .ref i=>g i
 | .ty _=>none
where all:List D->Option (List P)
 | []=>some []
 | d::c=>match jZ g d,all c with
  | some p,some ps=>some (p::ps)
  | _,_=>none
noncomputable def toP:Nat->S->D->Option P
 | 0,_=>jZ λ_=>none
 | n+1,s=>jZ λi=>match z7 s i with
  | some xs=>(jZ.all (λj=>toP n s (.ref j)) xs).map .lst
  | none=>none
noncomputable def Zm:Nat:=9
noncomputable def jD (k:D) (kvs:List (D×D)):Option D:=kvs.lookup k
noncomputable def dEq (s:S) (c:List (D×D)):List (D×D)->Option Bool
 | []=>some true
 | (k,v)::r=>match jD k c with
  | none=>some false
  | some w=>match toP 8 s v,toP 8 s w,dEq s c r with
   | some p,some q,some b=>if P.dep p <= 64/\P.dep q <= 64 then some (P.eqv p q && b) else none
   | _,_,_=>none
noncomputable def X2 (x y:D) (s:S):R Bool:=match x,y with
 | .ref i,.ref j=>match s[i]?,s[j]? with
  | some (.dct ks),some (.dct c)=>if ks.length=c.length then (match dEq s c ks with | some b=>.ok b s | none=>.no) else .ok false s
  | _,_=>.no
 | _,_=>.no
@[simp] noncomputable def eqD (x y:D) (s:S):R Bool:=match x,y with
 | .str a,.str b=>.ok (decide (a=b)) s
 | .int a,.int b=>.ok (decide (a=b)) s
 | .bl a,.bl b=>.ok (decide (a=b)) s
 | .non,.non=>.ok true s
 | x,y=>match toP Zm s x,toP Zm s y with
  | some p,some q=>if P.dep p <= 64/\P.dep q <= 64 then .ok (P.eqv p q) s else .no
  | _,_=>X2 x y s
@[simp] noncomputable def cEq:CM:=λx y s=>eqD x y s
@[simp] noncomputable def cNe:CM:=λx y s=>(eqD x y s).bind λb s=>.ok (!b) s
noncomputable def Q2 (a:T):T->Bool
 | []=>a.isEmpty
 | c::r=>a.isPrefixOf (c::r) || Q2 a r
noncomputable def flat:D->Bool
 | .non=>true
 | .bl _=>true
 | .int _=>true
 | .str _=>true
 | _=>false
noncomputable def eqF:D->D->Bool
 | .non,.non=>true
 | .bl a,.bl b=>a == b
 | .int a,.int b=>a == b
 | .bl a,.int b=>(if a then 1 else 0) == b
 | .int a,.bl b=>a == (if b then 1 else 0)
 | .str a,.str b=>a == b
 | _,_=>false
noncomputable def Zl (x:D) (xs:List D):Bool:=xs.any λy=>eqF y x
noncomputable def z6:D->Bool
 | .int _=>true
 | .str _=>true
 | _=>false
@[simp] noncomputable def inD (x y:D) (s:S):R Bool:=match y with
 | .str b=>match x with
  | .str a=>.ok (Q2 a b) s
  | _=>.no
 | .tup ys=>if flat x && ys.all flat then .ok (Zl x ys) s else .no
 | .ro ys=>if flat x && ys.all flat then .ok (Zl x ys) s else .no
 | .ref i=>match s[i]? with
  | some (.lst ys)=>if flat x && ys.all flat then .ok (Zl x ys) s else .no
  | some (.dct kvs)=>if z6 x then .ok (jD x kvs).isSome s else .no
  | some (.fdc kvs)=>if z6 x then .ok (jD x kvs).isSome s else .no
  | _=>.no
 | _=>.no
@[simp] noncomputable def cIn:CM:=λx y s=>inD x y s
@[simp] noncomputable def JV:CM:=λx y s=>(inD x y s).bind λb s=>.ok (!b) s
@[simp] noncomputable def Zz (c:CM) (a b:EM):EM:=λσ s=>(a σ s).bind λx s=>(b σ s).bind λy s=>(c x y s).bind λk s=>.ok (.bl k) s
@[simp] noncomputable def zo (c:CM) (a b:EM):TM:=λσ s=>(a σ s).bind λx s=>(b σ s).bind λy s=>c x y s
noncomputable def gAt (t:T):List (T×Int)->Option Int
 | []=>none
 | (k,v)::r=>if k=t then some v else gAt t r
@[simp] noncomputable def iA (ks:List (T×Int)) (a:EM):EM:=λσ s=>(a σ s).bind λx s=>match x with
 | .str t=>(match gAt t ks with | some v=>.ok (.int v) s | none=>.no)
 | _=>.no
@[simp] noncomputable def Ku:D->Bool
 | .non=>true
 | _=>false
@[simp] noncomputable def xf (a:EM):TM:=λσ s=>(a σ s).bind λx s=>.ok (Ku x) s
@[simp] noncomputable def ZI:D->S->R Bool
 | .non,s=>.ok false s
 | .bl b,s=>.ok b s
 | .int i,s=>.ok (decide (i≠0)) s
 | .str x,s=>if x.length <= SZ then .ok (!x.isEmpty) s else .no
 | .tup c,s=>.ok (!c.isEmpty) s
 | .ro c,s=>.ok (!c.isEmpty) s
 | .ref i,s=>match s[i]? with
  | some (.lst xs)=>.ok (!xs.isEmpty) s
  | some (.dct kvs)=>.ok (!kvs.isEmpty) s
  | _=>.no
 | .ty _,_=>.no
@[simp] noncomputable def ZK (a:EM):TM:=λσ s=>(a σ s).bind ZI
@[simp] noncomputable def yt (a:TM):TM:=λσ s=>(a σ s).bind λb s=>.ok (!b) s
@[simp] noncomputable def K3 (a b:TM):TM:=λσ s=>(a σ s).bind λk s=>if k then b σ s else .ok false s
@[simp] noncomputable def tOr (a b:TM):TM:=λσ s=>(a σ s).bind λk s=>if k then .ok true s else b σ s
@[simp] noncomputable def asB:D->S->R Bool
 | .bl b,s=>.ok b s
 | _,_=>.no
@[simp] noncomputable def Wy (a:EM):EM:=λσ s=>(a σ s).bind λx s=>(asB x s).bind λk s=>.ok (.bl (!k)) s
@[simp] noncomputable def vO (a b:EM):EM:=λσ s=>(a σ s).bind λx s=>(asB x s).bind λk s=>if k then b σ s else .ok (.bl false) s
noncomputable def ixN (n:Nat) (i:Int):Option Nat:=if 0 <= i then (if i < n then some i.toNat else none) else if -(n:Int) <= i then some (i+n).toNat else none
noncomputable def atI {c:Type} (xs:List c) (i:Int):Option c:=(ixN xs.length i).bind λj=>xs[j]?
@[simp] noncomputable def ze:D->D->S->R D
 | .str x,.int i,s=>if x.length <= SZ then (match atI x i with | some c=>.ok (.str [c]) s | none=>.no) else .no
 | .tup xs,.int i,s=>match atI xs i with | some d=>.ok d s | none=>.no
 | .ro xs,.int i,s=>match atI xs i with | some d=>.ok d s | none=>.no
 | .ref p,k,s=>match s[p]? with
  | some (.lst xs)=>(match k with | .int i=>(match atI xs i with | some d=>.ok d s | none=>.no) | _=>.no)
  | some (.dct kvs)=>if z6 k then (match jD k kvs with | some d=>.ok d s | none=>.no) else .no
  | some (.fdc kvs)=>if z6 k then (match jD k kvs with | some d=>.ok d s | none=>.no) else .no
  | _=>.no
 | _,_,_=>.no
noncomputable def sIx (n d:Nat):Option Int->Nat
 | none=>d
 | some v=>(if v < 0 then max (v+(n:Int)) 0 else min v (n:Int)).toNat
noncomputable def cut {c:Type} (xs:List c) (lo hi:Option Int):List c:=(xs.drop (sIx xs.length 0 lo)).take (sIx xs.length xs.length hi - sIx xs.length 0 lo)
abbrev OM:=St->S->R (Option Int)
@[simp] noncomputable def J0:OM:=λ_ s=>.ok none s
@[simp] noncomputable def yr (a:EM):OM:=λσ s=>(a σ s).bind λx s=>match x with | .int i=>.ok (some i) s | _=>.no
@[simp] noncomputable def slD (x:D) (lo hi:Option Int) (s:S):R D:=match x with
 | .str z=>if z.length <= SZ then .ok (.str (cut z lo hi)) s else .no
 | .tup xs=>if sIx xs.length 0 lo=0/\sIx xs.length xs.length hi=xs.length then .no else .ok (.tup (cut xs lo hi)) s
 | .ro xs=>alloc (.lst (cut xs lo hi)) s
 | .ref p=>match z7 s p with
  | some xs=>alloc (.lst (cut xs lo hi)) s
  | none=>.no
 | _=>.no
@[simp] noncomputable def eSl (a:EM) (lo hi:OM):EM:=λσ s=>(a σ s).bind λx s=>(lo σ s).bind λl s=>(hi σ s).bind λh s=>slD x l h s
abbrev F:=List D->S->R D
@[simp] noncomputable def zM (f:F) (a:AM):EM:=λσ s=>(a σ s).bind λxs s=>f xs s
@[simp] noncomputable def yM (k:Kd) (x:D) (s:S):Bool:=match x with
 | .str _=>(match k with | .str=>true | _=>false)
 | .ro _=>(match k with | .list=>true | _=>false)
 | .ref p=>match s[p]? with
  | some (.lst _)=>(match k with | .list=>true | _=>false)
  | some (.dct _)=>(match k with | .dict=>true | _=>false)
  | some (.dtt _)=>(match k with | .dict=>true | _=>false)
  | _=>false
 | _=>false
@[simp] noncomputable def eM (k:Kd) (f:D->F) (o:EM) (a:AM):EM:=λσ s=>(o σ s).bind λx s=>if yM k x s then (a σ s).bind λxs s=>f x xs s else .no
@[simp] noncomputable def iH (c:Nat) (f:F) (o:EM) (a:AM):EM:=λσ s=>(o σ s).bind λx s=>match x with
 | .ref p=>(match s[p]? with
  | some (.ins d _)=>if d=c then (a σ s).bind λxs s=>f (x::xs) s else .no
  | _=>.no)
 | _=>.no
@[simp] noncomputable def qJ:F
 | [.str x],s=>if x.length <= SZ then .ok (.int x.length) s else .no
 | [.tup xs],s=>.ok (.int xs.length) s
 | [.ro xs],s=>.ok (.int xs.length) s
 | [.ref p],s=>match s[p]? with
  | some (.lst xs)=>.ok (.int xs.length) s
  | some (.dct kvs)=>.ok (.int kvs.length) s
  | _=>.no
 | _,_=>.no
@[simp] noncomputable def Zb (n:Kd) (x:D) (s:S):R Bool:=match x with
 | .non=>.ok false s
 | .bl _=>.ok (match n with | .bool=>true | .int=>true | _=>false) s
 | .int _=>.ok (match n with | .int=>true | _=>false) s
 | .str _=>.ok (match n with | .str=>true | _=>false) s
 | .tup _=>.ok (match n with | .tuple=>true | _=>false) s
 | .ro _=>.ok (match n with | .list=>true | _=>false) s
 | .ty _=>.no
 | .ref p=>match s[p]? with
  | some (.lst _)=>.ok (match n with | .list=>true | _=>false) s
  | some (.dct _)=>.ok (match n with | .dict=>true | _=>false) s
  | _=>.no
@[simp] noncomputable def Zt:F
 | [x,.ty n],s=>(Zb n x s).bind λb s=>.ok (.bl b) s
 | _,_=>.no
noncomputable def j2:List D->Option (List T)
 | []=>some []
 | .str x::r=>(j2 r).map (x :: ·)
 | _::_=>none
noncomputable def qa:List D->Option (List Int)
 | []=>some []
 | .int x::r=>(qa r).map (x :: ·)
 | _::_=>none
@[simp] noncomputable def Hj (k:List D->S->R D):F
 | [.tup xs],s=>k xs s
 | [.ro xs],s=>k xs s
 | [.ref p],s=>match z7 s p with
  | some xs=>k xs s
  | none=>.no
 | _,_=>.no
noncomputable def QK (x:T):List T->T
 | []=>[]
 | [y]=>y
 | y::r=>y++x++QK x r
noncomputable def Qm (x:T) (xs:List D) (s:S):R D:=match j2 xs with
 | some ys=>if (ys.map xX).sum+ys.length * x.length <= SZ then .ok (.str (QK x ys)) s else .no
 | none=>.no
noncomputable def WV (c:Nat):T->List T
 | []=>[[]]
 | d::r=>if d=c then []::WV c r else match WV c r with
  | []=>[[d]]
  | p::ps=>(d::p)::ps
noncomputable def x8 (i:Int):T:=(toString i).toList.map Char.toNat
@[simp] noncomputable def XE:F
 | [.int i],s=>if qg i then .ok (.str (x8 i)) s else .no
 | _,_=>.no
@[simp] noncomputable def Kk:F
 | [.int i],s=>.ok (.int i) s
 | [.bl b],s=>.ok (.int (if b then 1 else 0)) s
 | _,_=>.no
@[simp] noncomputable def y1:F
 | [.tup xs],s=>alloc (.lst xs) s
 | [.ro xs],s=>alloc (.lst xs) s
 | [.ref p],s=>match s[p]? with
  | some (.lst xs)=>alloc (.lst xs) s
  | some (.dct kvs)=>alloc (.lst (kvs.map (·.1))) s
  | _=>.no
 | _,_=>.no
@[simp] noncomputable def HX:F
 | [.ref p],s=>match s[p]? with
  | some (.dct kvs)=>alloc (.dct kvs) s
  | _=>.no
 | _,_=>.no
@[simp] noncomputable def JF:D->F
 | .ref p,[y],s=>match s[p]? with
  | some (.lst xs)=>if xs.length < SZ then .ok .non (s.set p (.lst (xs++[y]))) else .no
  | _=>.no
 | _,_,_=>.no
noncomputable def jA (k v:D) (kvs:List (D×D)):List (D×D):=if (kvs.any λp=>decide (p.1=k))=true then kvs.map λp=>if p.1=k then (p.1,v) else p else kvs++[(k,v)]
noncomputable def QY:List D->Option (List (D×D))
 | []=>some []
 | .tup [k,v]::r=>if z6 k then (QY r).map ((k,v) :: ·) else none
 | _::_=>none
noncomputable def vu (ps:List (D×D)):List (D×D):=ps.foldl (λa p=>jA p.1 p.2 a) []
@[simp] noncomputable def QN:F
 | [.ref p],s=>match s[p]? with
  | some (.lst xs)=>(match QY xs with | some ps=>if ps.length <= 1000 then alloc (.dct (vu ps)) s else .no | none=>.no)
  | _=>.no
 | _,_=>.no
@[simp] noncomputable def qY:EM:=λ_ s=>alloc (.dct []) s
noncomputable def kW:List D->List (D×D)->Option (List (D×D))
 | [],acc=>some acc
 | k::v::r,acc=>if z6 k then kW r (jA k v acc) else none
 | _,_=>none
@[simp] noncomputable def Q9 (a:AM):EM:=λσ s=>(a σ (s++[.dct []])).bind λxs c=>match c[s.length]? with
 | some (.dct [])=>(match kW xs [] with
  | some kvs=>if kvs.length <= 15/\xs.length <= 30 then .ok (.ref s.length) (c.set s.length (.dct kvs)) else .no
  | none=>.no)
 | _=>.no
@[simp] noncomputable def yh:D->F
 | .ref p,[k],s=>match s[p]? with
  | some (.dct kvs)=>if z6 k then .ok ((jD k kvs).getD .non) s else .no
  | _=>.no
 | .ref p,[k,d],s=>match s[p]? with
  | some (.dct kvs)=>if z6 k then .ok ((jD k kvs).getD d) s else .no
  | _=>.no
 | _,_,_=>.no
noncomputable def u2:List Int->Option Int
 | []=>none
 | x::r=>some (r.foldl (λb y=>if b < y then y else b) x)
noncomputable def VL (xs:List D) (s:S):R D:=match qa xs with
 | some ys=>(match u2 ys with | some y=>.ok (.int y) s | none=>.no)
 | none=>.no
@[simp] noncomputable def Hi:F
 | [.int i,.int j],s=>.ok (.int (if j < i then j else i)) s
 | _,_=>.no
@[simp] noncomputable def xn:F
 | [.int i,.int j],s=>.ok (.int (if j > i then j else i)) s
 | _,_=>.no
noncomputable def qI:List T->List T
 | []=>[]
 | x::r=>insT' x (qI r)
where insT' (x:T):List T->List T
 | []=>[x]
 | y::r=>if y < x then y::insT' x r else x::y::r
noncomputable def K4 (xs:List D) (s:S):R D:=match j2 xs with
 | some ys=>if ys.length <= 16777216 then alloc (.lst ((qI ys).map .str)) s else .no
 | none=>.no
@[simp] noncomputable def kc:F
 | [.ref p],s=>match s[p]? with
  | some (.dct kvs)=>K4 (kvs.map (·.1)) s
  | _=>.no
 | _,_=>.no
noncomputable def yA:List T->List T->List T
 | acc,[]=>acc
 | acc,x::r=>yA (if acc.contains x then acc else acc++[x]) r
@[simp] noncomputable def xF:F
 | [.ref p],s=>match z7 s p with
  | some xs=>(match j2 xs with | some ys=>if ys.length <= 1000 then .ok (.int (yA [] ys).length) s else .no | none=>.no)
  | none=>.no
 | _,_=>.no
abbrev Gd:=List (Nat×O)
noncomputable def zW (g:Gd) (s:S):Bool:=g.all λp=>decide (s[p.1]? = some p.2)
abbrev IM:=St->S->R (List D×Gd)
@[simp] noncomputable def itD:D->S->R (List D×Gd)
 | .str x,s=>if x.length <= SZ then .ok (x.map λc=>.str [c],[]) s else .no
 | .tup d,s=>.ok (d,[]) s
 | .ro d,s=>.ok (d,[]) s
 | .ref i,s=>match s[i]? with
  | some (.lst xs)=>.ok (xs,[(i,.lst xs)]) s
  | _=>.no
 | _,_=>.no
@[simp] noncomputable def iE (a:EM):IM:=λσ s=>(a σ s).bind itD
noncomputable def j5 (lo hi:Int):List D:=(qQ (hi - lo).toNat).map λ(k:Nat)=>.int (lo+k)
@[simp] noncomputable def q7 (a:EM):IM:=λσ s=>(a σ s).bind λx s=>match x with
 | .int j=>if j.natAbs < 4611686018427387904 then .ok (j5 0 j,[]) s else .no
 | _=>.no
@[simp] noncomputable def HZ (a:EM):IM:=λσ s=>(a σ s).bind λx s=>match x with
 | .tup c=>.ok (c.reverse,[]) s
 | _=>.no
@[simp] noncomputable def ZF (a:EM):IM:=λσ s=>(a σ s).bind λx s=>match x with
 | .ref i=>(match s[i]? with | some (.fdc kvs)=>.ok (kvs.map (·.1),[]) s | _=>.no)
 | _=>.no
abbrev GM:=D->St->Option St
@[simp] noncomputable def zY (i:Nat):GM:=λd σ=>some (σ.set i (some d))
abbrev GMs:=List D->St->Option St
@[simp] noncomputable def Qx:GMs:=λc σ=>match c with | []=>some σ | _=>none
@[simp] noncomputable def yV (g:GM) (r:GMs):GMs:=λc σ=>match c with
 | []=>none
 | d::c=>match g d σ with
  | some e=>r c e
  | none=>none
@[simp] noncomputable def Qh (g:GMs):GM:=λd σ=>match d with
 | .tup c=>g c σ
 | _=>none
noncomputable def q8 (g:Gd) (f:D->S->R (Option D)):List D->S->R (List D)
 | [],s=>.ok [] s
 | x::xs,s=>(f x s).bind λo s=>if zW g s then (q8 g f xs s).bind λys s=>.ok (match o with | some y=>y::ys | none=>ys) s else .no
@[simp] noncomputable def je:TM:=λ_ s=>.ok true s
@[simp] noncomputable def qB (n:Nat) (tg:GM) (c:TM) (e:EM) (σ:St):D->S->R (Option D):=λx s=>match tg x (σ++zq n none) with
 | none=>.no
 | some f=>(c f s).bind λb s=>if b then (e f s).bind λd s=>.ok (some d) s else .ok none s
noncomputable def qT (n:Nat) (it:IM) (tg:GM) (c:TM) (e:EM):AM:=λσ s=>(it σ s).bind λp s=>if p.1.length <= SZ/\zW p.2 s=true then q8 p.2 (qB n tg c e σ) p.1 s else .no
@[simp] noncomputable def qi (n:Nat) (it:IM) (tg:GM) (c:TM) (e:EM):EM:=λσ s=>(qT n it tg c e σ s).bind λys s=>alloc (.lst ys) s
@[simp] noncomputable def aS (k:List D->S->R D) (n:Nat) (it:IM) (tg:GM) (c:TM) (e:EM):EM:=λσ s=>(qT n it tg c e σ s).bind k
inductive RS where
 | nx (σ:St) (s:S) | rt (d:D) (s:S) | bk (σ:St) (s:S) | ct (σ:St) (s:S) | exc (e:D) (σ:St) (s:S) | no
abbrev SM:=St->S->RS
noncomputable def R.stm {c:Type} (r:R c) (σ:St) (f:c->S->RS):RS:=match r with
 | .ok a s=>f a s
 | .exc e s=>.exc e σ s
 | .no=>.no
@[simp] theorem R.stm_ok {c:Type} (a:c) (s:S) (σ:St) (f:c->S->RS):(R.ok a s).stm σ f=f a s:=rfl
@[simp] theorem R.stm_no {c:Type} (σ:St) (f:c->S->RS):(R.no:R c).stm σ f=.no:=rfl
noncomputable def RS.then (r:RS) (f:SM):RS:=match r with
 | .nx σ s=>f σ s
 | r=>r
@[simp] theorem RS.then_nx (σ:St) (s:S) (f:SM):(RS.nx σ s).then f=f σ s:=rfl
@[simp] theorem RS.then_rt (d:D) (s:S) (f:SM):(RS.rt d s).then f=.rt d s:=rfl
@[simp] theorem RS.then_no (f:SM):RS.no.then f=.no:=rfl
@[simp] theorem RS.then_bk (σ:St) (s:S) (f:SM):(RS.bk σ s).then f=.bk σ s:=rfl
section
variable {α:Type}{c:Prop} [Decidable c]
@[simp] theorem R.stm_ite (a b:R α) (σ:St) (f:α->S->RS):(if c then a else b).stm σ f=if c then a.stm σ f else b.stm σ f:=by split<;>rfl
@[simp] theorem RS.ite_nx (a b:St) (s:S):(if c then RS.nx a s else RS.nx b s)=RS.nx (if c then a else b) s:=by split<;>rfl
@[simp] theorem RS.ite_rt (a b:D) (s:S):(if c then RS.rt a s else RS.rt b s)=RS.rt (if c then a else b) s:=by split<;>rfl
@[simp] theorem RS.then_ite (a b:RS) (f:SM):(if c then a else b).then f=if c then a.then f else b.then f:=by split<;>rfl
end
@[simp] theorem RS.then_exc (e:D) (σ:St) (s:S) (f:SM):(RS.exc e σ s).then f=.exc e σ s:=rfl
@[simp] theorem R.stm_exc {c:Type} (e:D) (s:S) (σ:St) (f:c->S->RS):(R.exc e s:R c).stm σ f=.exc e σ s:=rfl
@[simp] theorem RS.then_ct (σ:St) (s:S) (f:SM):(RS.ct σ s).then f=.ct σ s:=rfl
@[simp] noncomputable def jL:SM:=λσ s=>.nx σ s
@[simp] noncomputable def zK (a b:SM):SM:=λσ s=>(a σ s).then b
@[simp] noncomputable def Z4 (e:EM):SM:=λσ s=>(e σ s).stm σ λ_ s=>.nx σ s
@[simp] noncomputable def jM (e:EM):SM:=λσ s=>(e σ s).stm σ λd s=>.rt d s
@[simp] noncomputable def zU (i:Nat) (e:EM):SM:=λσ s=>(e σ s).stm σ λd s=>.nx (σ.set i (some d)) s
@[simp] noncomputable def vH (f:D->D->S->R D) (i:Nat) (e:EM):SM:=λσ s=>match σ[i]? with
 | some (some x)=>(e σ s).stm σ λy s=>(f x y s).stm σ λz s=>.nx (σ.set i (some z)) s
 | _=>.no
@[simp] noncomputable def Yj:D->D->S->R D
 | .int i,.int j,s=>.ok (.int (i+j)) s
 | .str a,.str b,s=>if a.length+b.length <= SZ then .ok (.str (a++b)) s else .no
 | _,_,_=>.no
@[simp] noncomputable def kF:D->D->S->R D
 | .int i,.int j,s=>.ok (.int (i - j)) s
 | _,_,_=>.no
@[simp] noncomputable def qu (x k y:D) (s:S):R Unit:=match x with
 | .ref p=>(match s[p]? with
  | some (.lst xs)=>(match k with
   | .int i=>(match ixN xs.length i with | some j=>.ok () (s.set p (.lst (xs.set j y))) | none=>.no)
   | _=>.no)
  | some (.dct kvs)=>if z6 k && decide (kvs.length < SZ) then .ok () (s.set p (.dct (jA k y kvs))) else .no
  | _=>.no)
 | _=>.no
@[simp] noncomputable def jE (o k e:EM):SM:=λσ s=>(e σ s).stm σ λy s=>(o σ s).stm σ λx s=>(k σ s).stm σ λk s=>(qu x k y s).stm σ λ_ s=>.nx σ s
@[simp] noncomputable def Q6 (x k:D) (s:S):R D:=match x with
 | .ref p=>(match s[p]? with
  | some (.dct kvs)=>if z6 k then (match jD k kvs with | some v=>.ok v s | none=>.no) else .no
  | _=>.no)
 | _=>.no
@[simp] noncomputable def JR (x k y:D) (s:S):R Unit:=match x with
 | .ref p=>(match s[p]? with
  | some (.dct kvs)=>if z6 k && decide (kvs.length < SZ) then .ok () (s.set p (.dct (jA k y kvs))) else .no
  | _=>.no)
 | _=>.no
@[simp] noncomputable def JO (f:D->D->S->R D) (o k e:EM):SM:=λσ s=>(o σ s).stm σ λx s=>(k σ s).stm σ λk s=>(Q6 x k s).stm σ λv s=>(e σ s).stm σ λy s=>(f v y s).stm σ λz s=>(JR x k z s).stm σ λ_ s=>.nx σ s
@[simp] noncomputable def sIf (c:TM) (a b:SM):SM:=λσ s=>(c σ s).stm σ λk s=>if k then a σ s else b σ s
noncomputable def jb (g:Gd) (f:D->SM):List D->SM
 | [],σ,s=>.nx σ s
 | x::xs,σ,s=>match f x σ s with
  | .nx σ s=>if zW g s then jb g f xs σ s else .no
  | .ct σ s=>if zW g s then jb g f xs σ s else .no
  | .bk σ s=>.nx σ s
  | r=>r
@[simp] noncomputable def jO (tg:GM) (b:SM):D->SM:=λx σ s=>match tg x σ with
 | some c=>b c s
 | none=>.no
@[simp] noncomputable def jo (it:IM) (tg:GM) (b:SM):SM:=λσ s=>(it σ s).stm σ λp s=>if zW p.2 s=true then jb p.2 (jO tg b) p.1 σ s else .no
@[simp] noncomputable def VQ (i:Nat) (f t:O):RS->RS
 | .nx σ s=>if s[i]? = some f then .nx σ (s.set i t) else .no
 | .bk σ s=>if s[i]? = some f then .bk σ (s.set i t) else .no
 | .ct σ s=>if s[i]? = some f then .ct σ (s.set i t) else .no
 | .rt d s=>if s[i]? = some f then .rt d (s.set i t) else .no
 | _=>.no
@[simp] noncomputable def thaw (i:Nat) (kvs:List (D×D)) (r:RS):RS:=VQ i (.fdc kvs) (.dct kvs) r
@[simp] noncomputable def Qc (m:EM) (tg:GM) (b:SM):SM:=λσ s=>(m σ s).stm σ λx s=>match x with
 | .ref i=>(match s[i]? with
  | some (.dct kvs)=>thaw i kvs (jb [] (jO tg b) (kvs.map λp=>.tup [p.1,p.2]) σ (s.set i (.fdc kvs)))
  | _=>.no)
 | _=>.no
@[simp] noncomputable def y9 (m:EM) (tg:GM) (b:SM):SM:=λσ s=>(m σ s).stm σ λx s=>match x with
 | .ref i=>(match s[i]? with
  | some (.dct kvs)=>thaw i kvs (jb [] (jO tg b) (kvs.map (·.1)) σ (s.set i (.fdc kvs)))
  | _=>.no)
 | _=>.no
@[simp] noncomputable def JH (i:Nat) (b:SM):SM:=λσ s=>match σ[i]? with
 | some (some (.ref p))=>(match s[p]? with
  | some (.dct kvs)=>thaw p kvs (b σ (s.set p (.fdc kvs)))
  | _=>.no)
 | _=>.no
@[simp] noncomputable def J3 (i:Nat):RS->RS
 | .nx σ s=>.nx (σ.set i none) s
 | .bk σ s=>.bk (σ.set i none) s
 | .ct σ s=>.ct (σ.set i none) s
 | .rt d s=>.rt d s
 | _=>.no
@[simp] noncomputable def ZE (i:Nat) (b:SM):SM:=λσ s=>J3 i (b (σ.set i none) s)
noncomputable def yR:Nat->TM->SM->SM
 | 0,_,_,_,_=>.no
 | n+1,c,b,σ,s=>(c σ s).stm σ λk s=>if k then (match b σ s with
  | .nx σ s=>yR n c b σ s
  | .ct σ s=>yR n c b σ s
  | .bk σ s=>.nx σ s
  | r=>r) else .nx σ s
noncomputable def J5:Nat:=1000000000000
@[simp] noncomputable def Kg (c:TM) (b:SM):SM:=λσ s=>yR J5 c b σ s
noncomputable def RS.out (r:RS):R D:=match r with
 | .rt d s=>.ok d s
 | .nx _ s=>.ok .non s
 | .exc e _ s=>.exc e s
 | _=>.no
@[simp] theorem RS.out_rt (d:D) (s:S):(RS.rt d s).out=.ok d s:=rfl
@[simp] theorem RS.out_nx (σ:St) (s:S):(RS.nx σ s).out=.ok .non s:=rfl
@[simp] theorem RS.out_no:RS.no.out=.no:=rfl
@[simp] theorem RS.out_exc (e:D) (σ:St) (s:S):(RS.exc e σ s).out=.exc e s:=rfl
@[simp] theorem RS.out_ite [Decidable c] (a b:RS):(if c then a else b).out=if c then a.out else b.out:=by split<;>rfl
@[simp] noncomputable def fn (n:Nat) (b:SM):F:=λxs s=>(b (xs.map some++zq (n - xs.length) none) s).out
noncomputable def D.cl (n:Nat):D->Bool
 | .ref i=>decide (i < n)
 | .tup c=>all c
 | .ro c=>all c
 | _=>true
where all:List D->Bool
 | []=>true
 | d::c=>D.cl n d && all c
noncomputable def kyD:Nat->D->Bool
 | _,.non=>true
 | _,.int _=>true
 | _,.str _=>true
 | n+1,.tup c=>c.all (kyD n)
 | _,_=>false
noncomputable def O.cl (n:Nat):O->Bool
 | .lst xs=>D.cl.all n xs
 | .dct kvs=>kvs.all λp=>D.cl n p.1 && D.cl n p.2
 | .fdc kvs=>kvs.all λp=>D.cl n p.1 && D.cl n p.2
 | .dtt kvs=>kvs.all λp=>D.cl n p.1 && D.cl n p.2
 | .ftt kvs=>kvs.all λp=>D.cl n p.1 && D.cl n p.2
 | .ins _ fs=>fs.all λo=>match o with | some d=>D.cl n d | none=>true
noncomputable def clS (n:Nat) (s:S):Bool:=s.all (O.cl n)
noncomputable def D.ren (e:List Nat):D->D
 | .ref i=>.ref (e.getD i i)
 | .tup c=>.tup (all c)
 | .ro c=>.ro (all c)
 | d=>d
where all:List D->List D
 | []=>[]
 | d::c=>D.ren e d::all c
noncomputable def O.ren (e:List Nat):O->O
 | .lst xs=>.lst (D.ren.all e xs)
 | .dct kvs=>.dct (kvs.map λp=>(D.ren e p.1,D.ren e p.2))
 | .fdc kvs=>.fdc (kvs.map λp=>(D.ren e p.1,D.ren e p.2))
 | .dtt kvs=>.dtt (kvs.map λp=>(D.ren e p.1,D.ren e p.2))
 | .ftt kvs=>.ftt (kvs.map λp=>(D.ren e p.1,D.ren e p.2))
 | .ins c fs=>.ins c (fs.map (Vm (D.ren e)))
end M
namespace M
structure Emb (n:Nat) (e:List Nat) (S' S1:S):Prop where
 len:e.length=S'.length
 nd:e.Nodup
 le:n <= S'.length
 old:∀ i,i < n->e[i]? = some i
 obj:∀ (i:Nat) o,S'[i]? = some o->∃ j,e[i]? = some j/\S1[j]? = some (O.ren e o)/\O.cl S'.length o=true
def j3 (n:Nat) (f q:F):Prop:=∀ c S,c.length=n->clS S.length S=true->D.cl.all S.length c=true ->
 q c S=.no\/∃ d S' S1 e,q c S=.ok d S'/\f c S=.ok (D.ren e d) S1/\Emb S.length e S' S1/\D.cl S'.length d=true
section
variable {e:List Nat}
mutual
theorem D.ren_id (h:∀ i,e.getD i i=i):∀ d:D,D.ren e d=d
 | .non=>rfl
 | .bl _=>rfl
 | .int _=>rfl
 | .str _=>rfl
 | .ty _=>rfl
 | .ref i=>by show D.ref (e.getD i i)=_;rw[h]
 | .tup c=>by show D.tup (D.ren.all e c)=_;rw[D.rens_id h]
 | .ro c=>by show D.ro (D.ren.all e c)=_;rw[D.rens_id h]
theorem D.rens_id (h:∀ i,e.getD i i=i):∀ c:List D,D.ren.all e c=c
 | []=>rfl
 | d::c=>by show D.ren e d::D.ren.all e c=_;rw[D.ren_id h,D.rens_id h]
end
theorem O.ren_id (h:∀ i,e.getD i i=i) (o:O):O.ren e o=o:=by
 cases o with
 | lst xs=>show O.lst _=_;rw[D.rens_id h]
 | dct kvs =>
  show O.dct (kvs.map λp=>(D.ren e p.1,D.ren e p.2))=_;have:(λp:D×D=>(D.ren e p.1,D.ren e p.2))=id:=by funext p;rw[D.ren_id h,D.ren_id h];rfl
  rw[this,QE]
 | fdc kvs =>
  show O.fdc (kvs.map λp=>(D.ren e p.1,D.ren e p.2))=_;have:(λp:D×D=>(D.ren e p.1,D.ren e p.2))=id:=by funext p;rw[D.ren_id h,D.ren_id h];rfl
  rw[this,QE]
 | dtt kvs =>
  show O.dtt (kvs.map λp=>(D.ren e p.1,D.ren e p.2))=_;have:(λp:D×D=>(D.ren e p.1,D.ren e p.2))=id:=by funext p;rw[D.ren_id h,D.ren_id h];rfl
  rw[this,QE]
 | ftt kvs =>
  show O.ftt (kvs.map λp=>(D.ren e p.1,D.ren e p.2))=_;have:(λp:D×D=>(D.ren e p.1,D.ren e p.2))=id:=by funext p;rw[D.ren_id h,D.ren_id h];rfl
  rw[this,QE]
 | ins c fs =>
  show O.ins c (fs.map (Vm (D.ren e)))=_;have:Vm (D.ren e)=id:=by funext o;cases o with | none=>rfl | some d=>show some _=_;rw[D.ren_id h];rfl
  rw[this,QE]
theorem wt (n i:Nat):(qQ n).getD i i=i:=by
 rw[yC];by_cases h:i < n
 ·rw[XQ h];rfl
 ·rw[QQ (by simp;lia)];rfl
end
section
variable {e:List Nat}{n:Nat}
mutual
theorem D.ren_old (h:∀ i,i < n->e[i]? = some i):∀ d:D,D.cl n d=true->D.ren e d=d
 | .non,_=>rfl
 | .bl _,_=>rfl
 | .int _,_=>rfl
 | .str _,_=>rfl
 | .ty _,_=>rfl
 | .ref i,c=>by
  have hi:i < n:=of_decide_eq_true c;show D.ref (e.getD i i)=_;rw[yC,h i hi];rfl
 | .tup f,c=>by show D.tup (D.ren.all e f)=_;rw[D.rens_old h f c]
 | .ro f,c=>by show D.ro (D.ren.all e f)=_;rw[D.rens_old h f c]
theorem D.rens_old (h:∀ i,i < n->e[i]? = some i):∀ f:List D,D.cl.all n f=true->D.ren.all e f=f
 | [],_=>rfl
 | d::f,c=>by
  have g:(D.cl n d && D.cl.all n f)=true:=c;rw[jl] at g;show D.ren e d::D.ren.all e f=_;rw[D.ren_old h d g.1,D.rens_old h f g.2]
end
theorem O.ren_old (h:∀ i,i < n->e[i]? = some i) (o:O) (c:O.cl n o=true):O.ren e o=o:=by
 cases o with
 | lst xs=>show O.lst _=_;rw[D.rens_old h xs c]
 | dct kvs =>
  show O.dct (kvs.map λp=>(D.ren e p.1,D.ren e p.2))=_
  congr 1
  conv=>rhs;rw[<- QE kvs]
  refine Zv λp g=>?_;have f:=List.all_eq_true.mp c p g;rw[jl] at f;rw[D.ren_old h _ f.1,D.ren_old h _ f.2];rfl
 | fdc kvs =>
  show O.fdc (kvs.map λp=>(D.ren e p.1,D.ren e p.2))=_
  congr 1
  conv=>rhs;rw[<- QE kvs]
  refine Zv λp g=>?_;have f:=List.all_eq_true.mp c p g;rw[jl] at f;rw[D.ren_old h _ f.1,D.ren_old h _ f.2];rfl
 | dtt kvs =>
  show O.dtt (kvs.map λp=>(D.ren e p.1,D.ren e p.2))=_
  congr 1
  conv=>rhs;rw[<- QE kvs]
  refine Zv λp g=>?_;have f:=List.all_eq_true.mp c p g;rw[jl] at f;rw[D.ren_old h _ f.1,D.ren_old h _ f.2];rfl
 | ftt kvs =>
  show O.ftt (kvs.map λp=>(D.ren e p.1,D.ren e p.2))=_
  congr 1
  conv=>rhs;rw[<- QE kvs]
  refine Zv λp g=>?_;have f:=List.all_eq_true.mp c p g;rw[jl] at f;rw[D.ren_old h _ f.1,D.ren_old h _ f.2];rfl
 | ins j fs =>
  show O.ins j (fs.map (Vm (D.ren e)))=_
  congr 1
  conv=>rhs;rw[<- QE fs]
  refine Zv λp g=>?_;cases p with
  | none=>rfl
  | some d =>
   have f:=List.all_eq_true.mp c (some d) g;show some _=some _;rw[D.ren_old h d f]
mutual
theorem D.cl_mono {m:Nat} (h:n <= m):∀ d:D,D.cl n d=true->D.cl m d=true
 | .non,_=>rfl
 | .bl _,_=>rfl
 | .int _,_=>rfl
 | .str _,_=>rfl
 | .ty _,_=>rfl
 | .ref i,c=>decide_eq_true (jR (of_decide_eq_true c) h)
 | .tup e,c=>D.cls_mono h e c
 | .ro e,c=>D.cls_mono h e c
theorem D.cls_mono {m:Nat} (h:n <= m):∀ e:List D,D.cl.all n e=true->D.cl.all m e=true
 | [],_=>rfl
 | d::e,c=>by
  have f:(D.cl n d && D.cl.all n e)=true:=c;rw[jl] at f;show (D.cl m d && D.cl.all m e)=true;rw[D.cl_mono h d f.1,D.cls_mono h e f.2];rfl
end
theorem O.cl_mono {m:Nat} (h:n <= m) (o:O) (c:O.cl n o=true):O.cl m o=true:=by
 cases o with
 | lst xs=>exact D.cls_mono h xs c
 | dct kvs =>
  refine List.all_eq_true.mpr λp f=>?_;have e:=List.all_eq_true.mp c p f;rw[jl] at e ⊢;exact⟨D.cl_mono h _ e.1,D.cl_mono h _ e.2⟩
 | fdc kvs =>
  refine List.all_eq_true.mpr λp f=>?_;have e:=List.all_eq_true.mp c p f;rw[jl] at e ⊢;exact⟨D.cl_mono h _ e.1,D.cl_mono h _ e.2⟩
 | dtt kvs =>
  refine List.all_eq_true.mpr λp f=>?_;have e:=List.all_eq_true.mp c p f;rw[jl] at e ⊢;exact⟨D.cl_mono h _ e.1,D.cl_mono h _ e.2⟩
 | ftt kvs =>
  refine List.all_eq_true.mpr λp f=>?_;have e:=List.all_eq_true.mp c p f;rw[jl] at e ⊢;exact⟨D.cl_mono h _ e.1,D.cl_mono h _ e.2⟩
 | ins g fs =>
  refine List.all_eq_true.mpr λp f=>?_;have e:=List.all_eq_true.mp c p f;cases p with
  | none=>rfl
  | some d=>exact D.cl_mono h d e
theorem aa {S:M.S} (h:clS n S=true) {i:Nat}{o:O} (e:S[i]? = some o):O.cl n o=true:=List.all_eq_true.mp h o (yn e)
end
theorem CQ {S S' g:M.S} (d:S.length <= S'.length) (c:clS S'.length S'=true):Emb S.length (qQ S'.length) S' (S'++g) :=
 ⟨by simp,gE,d,λi hi=>by rw[XQ (by lia)],λi o q=>by
  have hi:i < S'.length:=(List.getElem?_eq_some_iff.mp q).1;exact⟨i,by rw[XQ hi],by rw[qF hi,O.ren_id (wt _),q],aa c q⟩⟩
theorem f9 {S g:M.S}{j:Nat} (c:clS S.length S=true) (co:O.cl S.length o=true) (e:(S++g)[j]? = some o) (f:S.length <= j):Emb S.length (qQ S.length++[j]) (S++[o]) (S++g):=by
 have old:∀ i,i < S.length->(qQ S.length++[j])[i]? = some i:=λi hi=>by
  rw[qF (by simpa using hi),XQ hi]
 refine⟨by simp,?_,by simp,old,λi ob q=>?_⟩
 ·rw[xP];refine⟨gE,by simp,λa ha b h=>?_⟩;have l:=List.mem_range.mp ha;have m:b=j:=by simpa using h
  lia
 ·by_cases hi:i < S.length
  ·rw[qF hi] at q;have d:=aa c q;exact⟨i,old i hi,by rw[qF hi,O.ren_old old ob d,q],O.cl_mono (by simp) ob d⟩
  ·rw[jP (by lia)] at q;have hz:i - S.length=0:=by
    cases hz:i - S.length with
    | zero=>rfl
    | succ k=>rw[hz] at q;simp at q
   rw[hz] at q;simp at q;subst q;refine⟨j,?_,by rw[O.ren_old old o co,e],O.cl_mono (by simp) o co⟩;rw[jP (by simp;lia)];simp[hz]
theorem j3.pure {n:Nat}{f q:F} (h:∀ i S,i.length=n->clS S.length S=true->D.cl.all S.length i=true->q i S=.no\/∃ d g,q i S=.ok d S/\f i S=.ok d (S++g)/\D.cl S.length d=true):j3 n f q:=λi S j c l=>by
 rcases h i S j c l with e | ⟨d,g,m,o,p⟩
 ·exact .inl e
 ·exact .inr ⟨d,S,S++g,qQ S.length,m,by rw[D.ren_id (wt _)];exact o,CQ (zd _) c,p⟩
theorem j3.new {n:Nat}{f q:F} (h:∀ d S,d.length=n->clS S.length S=true->D.cl.all S.length d=true->q d S=.no\/∃ o j g,q d S=alloc o S/\f d S=.ok (.ref j) (S++g)/\(S++g)[j]? = some o/\S.length <= j/\O.cl S.length o=true):j3 n f q:=λd S i c l=>by
 rcases h d S i c l with e | ⟨o,j,g,m,p,r,s,t⟩
 ·exact .inl e
 ·refine .inr ⟨.ref S.length,S++[o],S++g,qQ S.length++[j],m,?_,f9 c t r s,?_⟩
  ·rw[p];show R.ok (D.ref j) _=R.ok (D.ref ((qQ S.length++[j]).getD S.length S.length)) _;rw[yC,jP (by simp)];simp
  ·show decide (S.length < (S++[o]).length)=true;simp
noncomputable def chS (m:F):F:=λc s=>@dite (R D) (∃ d g,m c s=.ok d (s++g)/\D.cl s.length d=true) (DL _) (λh=>.ok h.choose s) (λ_=>.no)
theorem Vd (m:F):j3 n m (chS m):=j3.pure λf S i c j=>by
 unfold chS;by_cases h:∃ d g,m f S=.ok d (S++g)/\D.cl S.length d=true
 ·obtain⟨g,e,k⟩:=h.choose_spec;exact .inr ⟨h.choose,g,by rw[dif_pos h],e,k⟩
 ·exact .inl (by rw[dif_neg h])
theorem uB {m:F}{c:List D}{s g:S}{d:D} (e:m c s=.ok d (s++g)) (k:D.cl s.length d=true):chS m c s=.ok d s:=by
 have h:∃ d g,m c s=.ok d (s++g)/\D.cl s.length d=true:=⟨d,g,e,k⟩
 obtain⟨g',f,_⟩:=h.choose_spec;have i:d=h.choose:=by
  have j:=e.symm.trans f;injection j
 unfold chS;rw[dif_pos h,<- i]
noncomputable def chN (m:F):F:=λc s=>@dite (R D) (∃ o j g,m c s=.ok (.ref j) (s++g)/\(s++g)[j]? = some o/\s.length <= j/\O.cl s.length o=true) (DL _) (λh=>alloc h.choose s) (λ_=>.no)
theorem Kb (m:F):j3 n m (chN m):=j3.new λd S f c i=>by
 unfold chN;by_cases h:∃ o j g,m d S=.ok (.ref j) (S++g)/\(S++g)[j]? = some o/\S.length <= j/\O.cl S.length o=true
 ·obtain⟨j,g,e,k⟩:=h.choose_spec;exact .inr ⟨h.choose,j,g,by rw[dif_pos h],e,k⟩
 ·exact .inl (by rw[dif_neg h])
theorem Kh {m:F}{c:List D}{s g:S}{j:Nat}{o:O} (e:m c s=.ok (.ref j) (s++g)) (q:(s++g)[j]? = some o) (l:s.length <= j) (k:O.cl s.length o=true):chN m c s=alloc o s:=by
 have h:∃ o j g,m c s=.ok (.ref j) (s++g)/\(s++g)[j]? = some o/\s.length <= j/\O.cl s.length o=true:=⟨o,j,g,e,q,l,k⟩
 obtain⟨u,g',i,n,_⟩:=h.choose_spec;have p:=e.symm.trans i;injection p with d r;injection d with d;have t:o=h.choose:=by
  have f:=q;rw[r,d] at f;exact Z2 (f.symm.trans n)
 unfold chN;rw[dif_pos h,<- t]
end M
namespace M
theorem VZ {f:D->S->R (Option D)}{h:D->D} (c:zW g s=true):∀ {xs:List D},(∀ x∈xs,f x s=.ok (some (h x)) s)->q8 g f xs s=.ok (xs.map h) s
 | [],_=>rfl
 | x::xs,e=>by
  show (f x s).bind _=_;rw[e x jI,R.bind_ok,if_pos c,VZ c λy d=>e y (jV _ d)];rfl
theorem Ub {f:D->S->R (Option D)}{p:D->Bool}{h:D->D} (c:zW g s=true):∀ {xs:List D},(∀ x∈xs,f x s=.ok (if p x then some (h x) else none) s)->q8 g f xs s=.ok ((xs.filter p).map h) s
 | [],_=>rfl
 | x::xs,e=>by
  show (f x s).bind _=_;rw[e x jI,R.bind_ok,if_pos c,Ub c λy d=>e y (jV _ d),R.bind_ok];cases i:p x<;>simp[i]
theorem WZ {it:IM}{σ:St}{s:S}{xs:List D}{g:Gd} (h:D->D) (hi:it σ s=.ok (xs,g) s) (d:xs.length <= SZ) (c:zW g s=true) (f:∀ x∈xs,qB n tg je e σ x s=.ok (some (h x)) s):qT n it tg je e σ s=.ok (xs.map h) s:=by
 unfold qT;rw[hi,R.bind_ok,if_pos ⟨d,c⟩];exact VZ c f
theorem VN {it:IM}{σ:St}{s:S}{lo:Int} (h:Nat->D) (hit:it σ s=.ok (j5 lo hi,[]) s) (c:(hi - lo).toNat <= SZ) (f:∀ k:Nat,k < (hi - lo).toNat->qB n tg je e σ (.int (lo+k)) s=.ok (some (h k)) s) :
  qT n it tg je e σ s=.ok ((qQ (hi - lo).toNat).map h) s:=by
 have:=WZ (n:=n) (tg:=tg) (e:=e) (λd=>match d with | .int i=>h (i - lo).toNat | d=>d) hit (by simpa [j5] using c) rfl λx g=>by
  obtain⟨k,j,rfl⟩:=List.mem_map.mp g;have e:(lo+(k:Int) - lo).toNat=k:=by lia
  rw[f k (List.mem_range.mp j)];show R.ok (some (h k)) s=R.ok (some (h (lo+(k:Int) - lo).toNat)) s;rw[e]
 rw[this];unfold j5;rw[yj];have l:∀ k:Nat,(lo+(k:Int) - lo).toNat=k:=λk=>by lia
 have m:((λd=>match d with | .int i=>h (i - lo).toNat | d=>d) ∘ λ(k:Nat)=>D.int (lo+k))=h:=by
  funext k
  show h (lo+(k:Int) - lo).toNat=h k;rw[l]
 rw[m]
theorem ej {c:Type} (xs:List c) {k:Int} (h:0 <= k):cut xs none (some k)=xs.take k.toNat:=by
 unfold cut sIx;have:¬ k < 0:=by lia
 simp only[vK,if_neg this,Nat.sub_zero];by_cases d:k <= xs.length
 ·rw[show (min k (xs.length:Int)).toNat=k.toNat by lia]
 ·rw[k9 (by lia),k9 (by lia)]
theorem Wa {c:Type} (xs:List c) {k:Int} (h:0 <= k):cut xs (some k) none=xs.drop k.toNat:=by
 unfold cut sIx;have:¬ k < 0:=by lia
 simp only[if_neg this];by_cases d:k <= xs.length
 ·rw[show (min k (xs.length:Int)).toNat=k.toNat by lia,k9 (by rw[Z6];lia)]
 ·rw[Gh (by lia),Gh (by lia)];simp
theorem wN {c:Type} (f:c->T) (xs:List c):j2 (xs.map λx=>.str (f x))=some (xs.map f):=by
 induction xs with
 | nil=>rfl
 | cons x xs d=>show (j2 (xs.map λx=>D.str (f x))).map _=_;rw[d];rfl
theorem YJ (xs:List T):j2 (xs.map .str)=some xs:=by
 have:=wN (λx:T=>x) xs
 rwa [List.map_id'] at this
theorem gY (xs:List T):QK [] xs=xs.flatten:=by
 induction xs with
 | nil=>rfl
 | cons x xs c =>
  cases xs with
  | nil=>simp[QK]
  | cons y ys=>show x++[]++QK [] (y::ys)=_;rw[c];simp
theorem B2 {c d:Type} (f:c->d) (xs:List c):(xs.map λx=>[f x]).flatten=xs.map f:=by
 induction xs with
 | nil=>rfl
 | cons x xs e=>rw[jF,Jo,e];rfl
theorem Gv {c:Type} (f:c->Nat) (xs:List c):((xs.map λx=>[f x]).map xX).sum=xs.length:=by
 induction xs with
 | nil=>rfl
 | cons x xs d=>rw[jF,jF,List.sum_cons,d,jU];show 1+xs.length=xs.length+1;lia
theorem hX {c:Type} (f:c->Nat) (xs:List c) (s:S) (h:xs.length <= SZ):Qm [] (xs.map λx=>.str [f x]) s=.ok (.str (xs.map f)) s:=by
 unfold Qm;rw[wN];dsimp only;rw[if_pos,gY,B2];rw[Gv];simpa using h
theorem KJ (n:Nat):∀ ts:List T,D.cl.all n (ts.map .str)=true
 | []=>rfl
 | _::ts=>by
  show (D.cl n (.str _) && D.cl.all n (ts.map .str))=true;rw[KJ n ts];rfl
theorem W2 (x:T):∀ ts:List T,Zl (.str x) (ts.map .str)=ts.contains x
 | []=>rfl
 | t::ts=>by
  have:=W2 x ts;unfold Zl at this ⊢;rw[jF,yp,this,List.contains_cons];simp[eqF,BEq.comm (a:=t)]
theorem EB (ts:List T):(ts.map D.str).all flat=true:=by
 rw[WU];exact List.all_eq_true.mpr λ_ _=>rfl
theorem VC {c:Type}{xs:List c}{k:Int} (e:0 <= k) (h:k < xs.length) (d:c):atI xs k=some (xs.getD k.toNat d):=by
 unfold atI ixN;rw[if_pos e,if_pos h];have f:k.toNat < xs.length:=by lia
 simp[yC,f]
theorem jB {S:M.S}{p:Nat}{o:O} (e:S[p]? = some o) (g:M.S):(S++g)[p]? = some o:=by
 rw[qF (List.getElem?_eq_some_iff.mp e).1];exact e
theorem dk {it:IM}{σ:St}{s s1:S}{xs:List D}{g:Gd} (h:D->D) (hi:it σ s=.ok (xs,g) s1) (d:xs.length <= SZ) (c:zW g s1=true) (f:∀ x∈xs,qB n tg je e σ x s1=.ok (some (h x)) s1):qT n it tg je e σ s=.ok (xs.map h) s1:=by
 unfold qT;rw[hi,R.bind_ok,if_pos ⟨d,c⟩];exact VZ c f
theorem dz {it:IM}{σ:St}{s s1:S}{xs:List D}{g:Gd} (p:D->Bool) (h:D->D) (hi:it σ s=.ok (xs,g) s1) (f:xs.length <= SZ) (d:zW g s1=true) (i:∀ x∈xs,qB n tg c e σ x s1=.ok (if p x then some (h x) else none) s1):qT n it tg c e σ s=.ok ((xs.filter p).map h) s1:=by
 unfold qT;rw[hi,R.bind_ok,if_pos ⟨f,d⟩];exact Ub d i
theorem fH {it:IM}{σ:St}{s s1:S}{ts:List T}{g:Gd} (p:T->Bool) (hi:it σ s=.ok (ts.map .str,g) s1) (f:ts.length <= SZ) (h:zW g s1=true) (i:∀ x∈ts,qB n tg c e σ (.str x) s1=.ok (if p x then some (.str x) else none) s1):qT n it tg c e σ s=.ok ((ts.filter p).map .str) s1:=by
 rw[dz (λd=>match d with | .str y=>p y | _=>false) id hi (by simpa using f) h λd hd=>by
  obtain⟨y,j,rfl⟩:=List.mem_map.mp hd;exact i y j]
 rw[QE,List.filter_map];rfl
theorem Uh {f:D->SM} (j:zW g s=true) (I:St->Prop):∀ (xs:List D) (σ:St),I σ->(∀ x∈xs,∀ σ,I σ->∃ c,f x σ s=.nx c s/\I c)->∃ c,jb g f xs σ s=.nx c s/\I c
 | [],σ,h,_=>⟨σ,rfl,h⟩
 | x::xs,σ,h,e=>by
  obtain⟨d,l,m⟩:=e x jI σ h;obtain⟨i,n,o⟩:=Uh j I xs d m λy p=>e y (jV _ p);refine⟨i,?_,o⟩;show (match f x σ s with | .nx σ s=>if zW g s then jb g f xs σ s else .no | .ct σ s=>if zW g s then jb g f xs σ s else .no | .bk σ s=>.nx σ s | r=>r)=_;rw[l];dsimp only;rw[if_pos j,n]
theorem QS {f:D->SM} (I:Nat->St->S->Prop):∀ (xs:List D) (i:Nat) (σ:St) (s:S),I i σ s->(∀ (j:Nat) x,xs[j]? = some x->∀ σ s,I (i+j) σ s->∃ c d,f x σ s=.nx c d/\zW g d=true/\I (i+j+1) c d)->∃ c d,jb g f xs σ s=.nx c d/\I (i+xs.length) c d
 | [],i,σ,s,h,_=>⟨σ,s,rfl,h⟩
 | x::xs,i,σ,s,h,e=>by
  obtain⟨l,s1,n,o,p⟩:=e 0 x rfl σ s h;obtain⟨m,q,t,u⟩:=QS I xs (i+1) l s1 p λj y v σ s w=>by
   have:=e (j+1) y (by simpa using v) σ s (by rw[show i+(j+1)=i+1+j by lia];exact w)
   rwa [show i+(j+1)+1=i+1+j+1 by lia] at this
  refine⟨m,q,?_,by rw[jU,show i+(xs.length+1)=i+1+xs.length by lia];exact u⟩;show (match f x σ s with | .nx σ s=>if zW g s then jb g f xs σ s else .no | .ct σ s=>if zW g s then jb g f xs σ s else .no | .bk σ s=>.nx σ s | r=>r)=_;rw[n];dsimp only;rw[if_pos o,t]
theorem Bw {t:S} (h:zW g s=true):zW g (s++t)=true:=by
 unfold zW at h ⊢;rw[List.all_eq_true] at h ⊢;intro p c;exact decide_eq_true (jB (of_decide_eq_true (h p c)) t)
theorem wd {f:D->S->R (Option D)}{h:D->D} (d:zW g c=true):∀ {xs:List D} (t:S),(∀ x∈xs,∀ t,∃ t',f x (c++t)=.ok (some (h x)) (c++t'))->∃ t',q8 g f xs (c++t)=.ok (xs.map h) (c++t')
 | [],t,_=>⟨t,rfl⟩
 | x::xs,t,e=>by
  obtain⟨t1,i⟩:=e x jI t;obtain⟨t2,j⟩:=wd d (xs:=xs) t1 λy l=>e y (jV _ l);refine⟨t2,?_⟩;show (f x (c++t)).bind _=_;rw[i,R.bind_ok,if_pos (Bw d),j];rfl
theorem fN {it:IM}{σ:St}{s:S}{xs:List D}{g:Gd} (h:D->D) (hi:it σ s=.ok (xs,g) s) (d:xs.length <= SZ) (c:zW g s=true) (f:∀ x∈xs,∀ t,∃ t',qB n tg je e σ x (s++t)=.ok (some (h x)) (s++t')):∃ t',qT n it tg je e σ s=.ok (xs.map h) (s++t'):=by
 unfold qT;rw[hi,R.bind_ok,if_pos ⟨d,c⟩];have:=wd (t:=[]) c f
 rwa [ZS] at this
theorem u4 (g:Nat->Option P):∀ ts:List T,jZ.all g (ts.map .str)=some (ts.map P.str)
 | []=>rfl
 | t::ts=>by
  show (match jZ g (.str t),jZ.all g (ts.map .str) with | some p,some ps=>some (p::ps) | _,_=>none)=_;rw[u4 g ts];rfl
theorem Yz:∀ ts:List T,P.deps (ts.map P.str)=0
 | []=>by simp[P.deps]
 | t::ts=>by simp[P.deps,P.dep,Yz ts]
theorem Vh:∀ ts us:List T,P.eqvs (ts.map P.str) (us.map P.str)=decide (ts=us)
 | [],[]=>by simp[P.eqvs]
 | [],u::us=>by simp[P.eqvs]
 | t::ts,[]=>by simp[P.eqvs]
 | t::ts,u::us=>by
  simp only[jF,P.eqvs,P.eqv,Vh ts us];by_cases h:t=u<;>by_cases c:ts=us<;>simp[h,c]
theorem aX {s:S}{p q:Nat}{ts us:List T} (d:s[p]? = some (.lst (ts.map .str))) (f:s[q]? = some (.lst (us.map .str))):eqD (.ref p) (.ref q) s=.ok (decide (ts=us)) s:=by
 have h:∀ (r:Nat) (c:List T),s[r]? = some (.lst (c.map .str))->toP Zm s (.ref r)=some (.lst (c.map P.str)):=λr c e=>by
  show (match z7 s r with | some xs=>(jZ.all (λj=>toP 8 s (.ref j)) xs).map P.lst | none=>none)=_;have:z7 s r=some (c.map .str):=by simp[z7,e]
  rw[this];show (jZ.all _ (c.map .str)).map P.lst=_;rw[u4];rfl
 simp only[eqD,h p ts d,h q us f];simp only[P.dep,Yz,P.eqv,Vh];rfl
@[simp] noncomputable def He:D->D->S->R D
 | .tup [],.tup b,s=>.ok (.tup b) s
 | x,y,s=>z8 x y s
@[simp] noncomputable def KA:D->F
 | .ref p,[],s=>match s[p]? with
  | some (.dct _)=>.ok .non (s.set p (.dct []))
  | _=>.no
 | _,_,_=>.no
end M
namespace M
@[simp] noncomputable def ke:F
 | [.ref p],s=>match z7 s p with
  | some []=>.ok (.int 0) s
  | some xs=>VL xs s
  | none=>.no
 | _,_=>.no
@[simp] noncomputable def Zh:F
 | [.ref p],s=>match s[p]? with
  | some (.dct kvs)=>alloc (.lst (kvs.map λq=>.tup [q.1,q.2])) s
  | _=>.no
 | _,_=>.no
end M
namespace M
noncomputable def kyT:D->Bool
 | .tup c=>kyD 7 (.tup c)
 | _=>false
end M
namespace L2
open PySem PySem.Spec PyProof.Rows
noncomputable def ofT (x:M.T):Str:=⟨x.toArray⟩
theorem qy (x:M.T):(ofT x).length=x.length:=by simp[ofT,uZ]
theorem J6 (x:M.T):(ofT x).cps.toList=x:=by simp[ofT]
theorem Kc {y:M.T} (h:ofT x=ofT y):x=y:=by rw[<- J6 x,h,J6]
theorem Uz (x y:M.T):ofT x++ofT y=ofT (x++y):=by
 show (⟨x.toArray++y.toArray⟩:Str)=_;simp[ofT]
abbrev okT (x:M.T):Prop:=x.all (λc=>decide (c < 1114112))=true
theorem VB {y:M.T} (h:okT x) (k:okT y):okT (x++y):=by show (x++y).all _=true;rw[List.all_append,h,k];rfl
theorem Km {y:M.T} (h:okT x) (k:∀ c∈y,c∈x):okT y:=List.all_eq_true.mpr λc d=>List.all_eq_true.mp h c (k c d)
theorem yo:M.SZ=zc:=by rw[ZG];rfl
def ZT (K:PySem.W.Frag) (H:Hp) (a:zC) (xs:List V):Prop :=
 (∃ o,H a=some (.frz o (.lst xs))) \/
  ∃ (o:Obj) (its:Array zB) (n:Nat),K.lookup a=some o/\o.cls=.type "list" /\ o.dict=none/\o.data=.seq its n/\its.size <= zc/\za xs its.toList
theorem ZT.sq {K:PySem.W.Frag}{a:zC} (h:ZT K H a xs):SqL K H a xs:=by
 rcases h with ⟨o,h⟩ | h
 ·exact .inl (.inr ⟨o,h⟩)
 ·exact .inr h
structure Le (H H':Hp):Prop where
 tups:∀ b xs,H b=some (.tup xs)->H' b=some (.tup xs)
 frzs:∀ b o u,H b=some (.frz o u)->H' b=some (.frz o u)
theorem Le.refl (H:Hp):Le H H:=⟨λ_ _ h=>h,λ_ _ _ h=>h⟩
theorem Le.trans (a:Le H d) (b:Le d e):Le H e:=⟨λc xs h=>b.tups c xs (a.tups c xs h),λc o u h=>b.frzs c o u (a.frzs c o u h)⟩
theorem Le.new {H:Hp}{p:zC} (h:H p=none) (o:HO):Le H (upd H p o) :=
 ⟨λb xs q=>by rw[zl (Jv q h)];exact q,λb o u q=>by rw[zl (Jv q h)];exact q⟩
theorem Le.put {H:Hp}{p:zC} (h:Mut (H p)) (o:HO):Le H (upd H p o) :=
 ⟨λb xs q=>by rw[zl (λz=>by subst z;rw[q] at h;exact h)];exact q,λb o u q=>by rw[zl (λz=>by subst z;rw[q] at h;exact h)];exact q⟩
theorem Le.rol {K:PySem.W.Frag}{a:zC} (e:Le H c) (h:ZT K H a xs):ZT K c a xs:=by
 rcases h with ⟨o,h⟩ | h
 ·exact .inl ⟨o,e.frzs _ _ _ h⟩
 ·exact .inr h
theorem Le.sqT {K:PySem.W.Frag}{a:zC} (e:Le H c) (h:SqT K H a xs):SqT K c a xs:=by
 rcases h with (h | ⟨o,h⟩) | h
 ·exact .inl (.inl (e.tups _ _ h))
 ·exact .inl (.inr ⟨o,e.frzs _ _ _ h⟩)
 ·exact .inr h
noncomputable def yS:M.Kd->String
 | .str => "str" | .int => "int" | .bool => "bool" | .list => "list" | .tuple => "tuple" | .dict => "dict"
noncomputable def zL (K:PySem.W.Frag) (e:List zC) (H:Hp):M.D->V->Prop
 | .non,v=>v=.non
 | .bl b,v=>v=.bl b
 | .int i,v=>v=.int i
 | .str x,v=>v=.str (ofT x)/\okT x
 | .ty n,v=>v=.ty (yS n)
 | .ref i,v=>∃ a,v=.ref a/\e[i]? = some a
 | .tup c,v=>∃ a xs,v=.ref a/\SqT K H a xs/\all c xs
 | .ro c,v=>∃ a xs,v=.ref a/\ZT K H a xs/\all c xs
where all:List M.D->List V->Prop
 | [],xs=>xs=[]
 | d::c,xs=>∃ y ys,xs=y::ys/\zL K e H d y/\all c ys
noncomputable abbrev zP (K:PySem.W.Frag) (c:List zC) (H:Hp):List M.D->List V->Prop:=zL.all K c H
theorem xV {d c:List zC} (h:d <+: c) {i:Nat}{a:zC} (e:d[i]? = some a):c[i]? = some a:=by
 obtain⟨t,rfl⟩:=h;rw[qF (List.getElem?_eq_some_iff.mp e).1];exact e
section
variable {K:PySem.W.Frag}{ρ ρ':List zC}{H H':Hp}
mutual
theorem zL.mono (c:ρ <+: ρ') (le:Le H H'):∀ {d:M.D}{v:V},zL K ρ H d v->zL K ρ' H' d v
 | .non,_,h=>h
 | .bl _,_,h=>h
 | .int _,_,h=>h
 | .str _,_,h=>h
 | .ty _,_,h=>h
 | .ref _,_,⟨a,e,h⟩=>⟨a,e,xV c h⟩
 | .tup _,_,⟨a,xs,e,h,r⟩=>⟨a,xs,e,le.sqT h,zP.mono c le r⟩
 | .ro _,_,⟨a,xs,e,h,r⟩=>⟨a,xs,e,le.rol h,zP.mono c le r⟩
theorem zP.mono (c:ρ <+: ρ') (le:Le H H'):∀ {d:List M.D}{xs:List V},zP K ρ H d xs->zP K ρ' H' d xs
 | [],_,h=>h
 | _::_,_,⟨y,ys,e,h,r⟩=>⟨y,ys,e,zL.mono c le h,zP.mono c le r⟩
end
theorem zP.length:∀ {c:List M.D}{xs:List V},zP K d H c xs->c.length=xs.length
 | [],_,h=>by cases h;rfl
 | _::_,_,⟨_,_,e,_,r⟩=>by subst e;rw[jU,jU,zP.length r]
theorem zP.get:∀ {f:List M.D}{xs:List V}{i:Nat}{d:M.D},zP K g H f xs->f[i]? = some d->∃ v,xs[i]? = some v/\zL K g H d v
 | [],_,_,_,_,e=>by simp at e
 | _::_,_,0,_,⟨y,_,c,h,_⟩,e=>by subst c;simp at e;subst e;exact⟨y,rfl,h⟩
 | _::_,_,i+1,d,⟨_,ys,c,_,r⟩,e=>by
  subst c;obtain⟨v,j,l⟩:=zP.get (i:=i) (d:=d) r (by simpa using e);exact⟨v,by simpa using j,l⟩
theorem zP.app:∀ {c es:List M.D}{xs ys:List V},zP K d H c xs->zP K d H es ys->zP K d H (c++es) (xs++ys)
 | [],_,_,_,h,k=>by cases h;exact k
 | _::_,_,_,_,⟨y,ys,e,h,r⟩,k=>by subst e;exact⟨y,_,rfl,h,zP.app r k⟩
theorem zP.take:∀ {c:List M.D}{xs:List V} (n:Nat),zP K d H c xs->zP K d H (c.take n) (xs.take n)
 | _,_,0,_=>rfl
 | [],_,_+1,h=>by cases h;rfl
 | _::_,_,n+1,⟨y,ys,e,h,r⟩=>by subst e;exact⟨y,_,rfl,h,zP.take n r⟩
theorem zP.drop:∀ {c:List M.D}{xs:List V} (n:Nat),zP K d H c xs->zP K d H (c.drop n) (xs.drop n)
 | _,_,0,h=>h
 | [],_,_+1,h=>by cases h;rfl
 | _::_,_,n+1,⟨y,ys,e,h,r⟩=>by subst e;exact zP.drop n r
theorem zP.set (hd:zL K c H d v):∀ {f:List M.D}{xs:List V} (n:Nat),zP K c H f xs->zP K c H (f.set n d) (xs.set n v)
 | [],_,_,h=>by cases h;rfl
 | _::_,_,0,⟨y,ys,e,h,r⟩=>by subst e;exact⟨v,ys,rfl,hd,r⟩
 | _::_,_,n+1,⟨y,ys,e,h,r⟩=>by subst e;exact⟨y,_,rfl,h,zP.set hd n r⟩
end
section
variable {K:PySem.W.Frag}{ρ ρ':List zC}{H H':Hp}{ds es:List M.D}{xs ys:List V}
theorem zL.all.mono (h:zL.all K ρ H ds xs) (c:ρ <+: ρ') (le:Le H H'):zL.all K ρ' H' ds xs:=zP.mono c le h
theorem zL.all.length (h:zL.all K ρ H ds xs):ds.length=xs.length:=zP.length h
theorem zL.all.app (h:zL.all K ρ H ds xs) (k:zL.all K ρ H es ys):zL.all K ρ H (ds++es) (xs++ys):=zP.app h k
end
noncomputable def qW:M.D->Key->Prop
 | .int i,k=>k=.inl i
 | .str x,k=>k=.inr (ofT x)/\okT x
 | _,_=>False
structure Tab where
 tab:Nat->Option (zC×List Str)
 ha:M.D->Int:=λ_=>0
 x:XK:=λ_ _ _=>False
instance:CoeFun Tab λ_=>Nat->Option (zC×List Str):=⟨Tab.tab⟩
def TD (ha:M.D->Int) (a:zC) (xs:List (M.D×zC×zB)) (h:zT):Prop:=xs.length <= zc/\(a == y7)=false/\(xs.map (·.1)).Nodup /\
 ∃ o es ep,h.get? a=some o/\o.ExactDict/\o.data=.dict es ep/\es.toList=xs.map λx=>⟨ha x.1,.ref x.2.1,x.2.2⟩
def TDr (K:PySem.W.Frag) (c:List zC) (H:Hp) (p:M.D×M.D) (q:M.D×zC×zB):Prop:=q.1=p.1/\M.kyD 7 p.1=true/\zL K c H p.1 (.ref q.2.1)/\∃ v,zL K c H p.2 v/\zX v q.2.2
theorem TDr.mono {K:PySem.W.Frag}{e c:List zC} (d:e <+: c) (le:Le H f) (h:TDr K e H p q):TDr K c f p q :=
 ⟨h.1,h.2.1,h.2.2.1.mono d le,let ⟨v,a,b⟩:=h.2.2.2;⟨v,a.mono d le,b⟩⟩
structure eL (K:PySem.W.Frag) (ρ:List zC) (H:Hp) (N:List Str) (fs:List (Option M.D)) (gs:List (Str×V)):Prop where
 len:fs.length=N.length
 nd:(gs.map (·.1)).Nodup
 within:∀ f∈gs.map (·.1),f∈N
 get:∀ (i:Nat) (f:Str) (d:M.D),N[i]? = some f->fs[i]? = some (some d)->∃ v,gs.lookup f=some v/\zL K ρ H d v
noncomputable def ObR (K:PySem.W.Frag) (e:Tab) (d:List zC) (H:Hp) (a:zC):M.O->Prop
 | .lst g=>∃ xs,H a=some (.lst xs)/\zP K d H g xs
 | .dct kvs=>∃ ks,H a=some (.dK ks)/\Paired (λ(p:M.D×M.D) (q:Key×V)=>qW p.1 q.1/\zL K d H p.2 q.2) kvs ks
 | .fdc kvs=>∃ o ks,H a=some (.frz o (.dK ks))/\Paired (λ(p:M.D×M.D) (q:Key×V)=>qW p.1 q.1/\zL K d H p.2 q.2) kvs ks
 | .dtt kvs=>∃ xs,H a=some (.ext (TD e.ha a xs))/\Paired (TDr K d H) kvs xs
 | .ftt kvs=>∃ o xs,H a=some (.frz o (.ext (TD e.ha a xs)))/\Paired (TDr K d H) kvs xs
 | .ins c fs=>∃ C h f N,H a=some (.ins C h f)/\e c=some (C,N)/\eL K d H N fs f
structure zS (K:PySem.W.Frag) (Θ:Tab) (ρ:List zC) (S:M.S) (H:Hp):Prop where
 len:ρ.length=S.length
 nd:ρ.Nodup
 obj:∀ (i:Nat) (o:M.O),S[i]? = some o->∃ a,ρ[i]? = some a/\ObR K Θ ρ H a o
structure zt (K:PySem.W.Frag) (ρ:List zC) (H:Hp) (σ':M.St) (σ:St):Prop where
 len:σ'.length=σ.length
 get:∀ (i:Nat) (d:M.D),σ'[i]? = some (some d)->∃ v,σ[i]? = some (some v)/\zL K ρ H d v
section
variable {K:PySem.W.Frag}{Θ:Tab}{ρ ρ':List zC}{H H':Hp}{S:M.S}
theorem zt.mono (h:zt K ρ H c σ) (f:ρ <+: ρ') (le:Le H H'):zt K ρ' H' c σ :=
 ⟨h.len,λi d e=>let ⟨v,g,j⟩:=h.get i d e;⟨v,g,j.mono f le⟩⟩
theorem zt.set (h:zt K ρ H c σ) (hd:zL K ρ H d v) (i:Nat):zt K ρ H (c.set i (some d)) (σ.set i (some v)):=by
 refine⟨by rw[qE,qE,h.len],λj e q=>?_⟩;by_cases f:i=j
 ·subst f;by_cases g:i < c.length
  ·rw[Qq g] at q;cases q;exact⟨v,by rw[Qq (h.len ▸ g)],hd⟩
  ·rw[QQ (by rw[qE];lia)] at q;cases q
 ·rw[yY f] at q;rw[yY f];exact h.get j e q
theorem zt.more (h:zt K ρ H c σ) (n:Nat):zt K ρ H (c++zq n none) (σ++zq n none):=by
 refine⟨by simp[h.len],λi d q=>?_⟩;by_cases e:i < c.length
 ·rw[qF e] at q;rw[qF (h.len ▸ e)];exact h.get i d q
 ·rw[jP (by lia),Ky] at q;split at q<;>cases q
theorem zS.tracked (h:zS K Θ ρ S H) {a:zC} (m:a∈ρ):∃ o,H a=some o:=by
 obtain⟨i,hi,e⟩:=List.mem_iff_getElem.mp m;have g:i < S.length:=h.len ▸ hi;obtain⟨j,f,r⟩:=h.obj i S[i] (by simp[g]);rw[ZL hi,e] at f;cases f;cases q:S[i] with
 | lst l=>rw[q] at r;obtain⟨xs,d,_⟩:=r;exact⟨_,d⟩
 | dct kvs=>rw[q] at r;obtain⟨xs,d,_⟩:=r;exact⟨_,d⟩
 | fdc kvs=>rw[q] at r;obtain⟨o,xs,d,_⟩:=r;exact⟨_,d⟩
 | dtt kvs=>rw[q] at r;obtain⟨xs,d,_⟩:=r;exact⟨_,d⟩
 | ftt kvs=>rw[q] at r;obtain⟨o,xs,d,_⟩:=r;exact⟨_,d⟩
 | ins c fs=>rw[q] at r;obtain⟨_,_,_,_,d,_⟩:=r;exact⟨_,d⟩
theorem zS.fresh (h:zS K Θ ρ S H) {p:zC} (c:H p=none):p∉ρ:=λm=>by
 obtain⟨o,e⟩:=h.tracked m;rw[c] at e;cases e
theorem ObR.stay {a:zC} (h:ObR K Θ ρ H a o) (g:ρ <+: ρ') (le:Le H H') (e:H' a=H a):ObR K Θ ρ' H' a o:=by
 cases o with
 | lst x=>obtain⟨xs,j,r⟩:=h;exact⟨xs,e.trans j,r.mono g le⟩
 | dct kvs=>obtain⟨ks,j,r⟩:=h;exact⟨ks,e.trans j,Paired.mapP r λp q z=>⟨z.1,z.2.mono g le⟩⟩
 | fdc kvs=>obtain⟨o,ks,j,r⟩:=h;exact⟨o,ks,e.trans j,Paired.mapP r λp q z=>⟨z.1,z.2.mono g le⟩⟩
 | dtt kvs=>obtain⟨xs,j,r⟩:=h;exact⟨xs,e.trans j,Paired.mapP r λp q z=>z.mono g le⟩
 | ftt kvs=>obtain⟨o,xs,j,r⟩:=h;exact⟨o,xs,e.trans j,Paired.mapP r λp q z=>z.mono g le⟩
 | ins c fs =>
  obtain⟨C,l,m,N,j,n,r⟩:=h;exact⟨C,l,m,N,e.trans j,n,r.len,r.nd,r.within,λi f d s t=>let ⟨v,u,w⟩:=r.get i f d s t;⟨v,u,w.mono g le⟩⟩
theorem zS.stay (h:zS K Θ ρ S H) (le:Le H H') (e:∀ a∈ρ,H' a=H a):zS K Θ ρ S H' :=
 ⟨h.len,h.nd,λi o q=>let ⟨a,c,d⟩:=h.obj i o q;⟨a,c,d.stay (jN _) le (e a (yn c))⟩⟩
theorem zS.aside (h:zS K Θ ρ S H) {p:zC} (c:H p=none) (o:HO):zS K Θ ρ S (upd H p o) :=
 h.stay (Le.new c o) λa m=>zl (λz=>h.fresh c (z ▸ m))
theorem zS.alloc (h:zS K Θ ρ S H) {p:zC} (c:H p=none) (r:ObR K Θ (ρ++[p]) (upd H p u) p o):zS K Θ (ρ++[p]) (S++[o]) (upd H p u):=by
 refine⟨by simp[h.len],?_,λi ob q=>?_⟩
 ·rw[xP];refine⟨h.nd,by simp,λa ha b f=>?_⟩;have d:b=p:=by simpa using f
  rw[d];exact λz=>h.fresh c (z ▸ ha)
 ·by_cases g:i < S.length
  ·rw[qF g] at q;obtain⟨a,e,j⟩:=h.obj i ob q;refine⟨a,xV (Zc _ _) e,j.stay (Zc _ _) (Le.new c u) (zl λz=>h.fresh c (z ▸ yn e))⟩
  ·rw[jP (by lia)] at q;have hi:i - S.length=0:=by
    cases hz:i - S.length with
    | zero=>rfl
    | succ k=>rw[hz] at q;simp at q
   rw[hi] at q;simp at q;subst q;refine⟨p,?_,r⟩;rw[jP (by rw[h.len];lia),h.len,hi];rfl
theorem Ks {d:Type}{ρ:List d} (c:ρ.Nodup) {i j:Nat}{x:d} (a:ρ[i]? = some x) (b:ρ[j]? = some x):i=j:=by
 induction ρ generalizing i j with
 | nil=>simp at a
 | cons y r e =>
  rw[Jt] at c;cases i with
  | zero =>
   cases j with
   | zero=>rfl
   | succ j =>
    simp at a b;subst a;exact absurd (yn b) c.1
  | succ i =>
   cases j with
   | zero =>
    simp at a b;subst b;exact absurd (yn a) c.1
   | succ j =>
    simp at a b;rw[e c.2 a b]
theorem Dg {c:Type}{l:List c} (h:∀ (i j:Nat) x,l[i]? = some x->l[j]? = some x->i=j):l.Nodup:=by
 induction l with
 | nil=>exact Z1
 | cons y r d =>
  refine List.nodup_cons.mpr ⟨λm=>?_,d λi j x a b=>?_⟩
  ·obtain⟨j,f,e⟩:=List.mem_iff_getElem.mp m;have:=h 0 (j+1) y (by simp) (by simp[e,f])
   lia
  ·have:=h (i+1) (j+1) x (by simpa using a) (by simpa using b)
   lia
theorem eR {c:Type}{l:List c} (d:l.Nodup) {i j:Nat} (hi:i < l.length) (f:j < l.length) (e:l[i]=l[j]):i=j :=
 Ks d (x:=l[i]) (by simp[hi]) (by rw[e];simp[f])
theorem zS.put (h:zS K Θ ρ S H) {i:Nat}{a:zC} (ha:ρ[i]? = some a) (e:Mut (H a)) (r:ObR K Θ ρ (upd H a u) a o):zS K Θ ρ (S.set i o) (upd H a u):=by
 refine⟨by simp[h.len],h.nd,λj ob q=>?_⟩;by_cases c:i=j
 ·subst c;by_cases f:i < S.length
  ·rw[Qq f] at q;cases q;exact⟨a,ha,r⟩
  ·rw[QQ (by rw[qE];lia)] at q;cases q
 ·rw[yY c] at q;obtain⟨b,d,g⟩:=h.obj j ob q;refine⟨b,d,g.stay (jN _) (Le.put e u) (zl λz=>?_)⟩;subst z;exact c (Ks h.nd ha d)
end
def XR (K:PySem.W.Frag) (i:Tab) (j:List zC) (H:Hp) (d:M.D) (C:zC) (g:Option zC):Prop:=∃ (c:Nat) (e:List M.D) (N:List Str),d=.tup (.int c::e)/\i c=some (C,N)/\((e=[]/\N=[]/\g=none)\/∃ h f,g=some h/\H h=some (.xd (N.zip f))/\N.length=f.length/\zP K j H e f)
def yl (K:PySem.W.Frag) (f:Tab) (h:List zC) (H:Hp) (d:M.D) (S:M.S):Prop:=∀ c e C g,h <+: c->Le H e->zS K f c S e->XR K f c e d C g->f.x (.ref C) g e
theorem yl.weak {K:PySem.W.Frag}{c:List zC}{S:M.S} (h:yl K g i H d S) (e:i <+: c) (le:Le H j):yl K g c j d S:=λf m C n p l=>h f m C n (e.trans p) (le.trans l)
noncomputable def zE {f g:Type} (K:PySem.W.Frag) (h:Tab) (j:List zC->Hp->f->g->Prop) (i:List zC) (H:Hp):M.R f->(g->Hp->Prop)->Prop
 | .ok a S',Q=>∀ c e b,i <+: c->Le H e->zS K h c S' e->j c e a b->Q b e
 | .exc d S',_=>yl K h i H d S'
 | .no,_=>False
noncomputable abbrev rB:List zC->Hp->Bool->Bool->Prop:=λ_ _ a b=>a=b
noncomputable abbrev rO:List zC->Hp->Option Int->Option Int->Prop:=λ_ _ a b=>a=b
section
variable {K:PySem.W.Frag}{Θ:Tab}{ρ ρ':List zC}{H H':Hp}{S:M.S}{α β γ δ:Type}{Rl:List zC->Hp->α->β->Prop}{Rk:List zC->Hp->γ->δ->Prop}{Q:β->Hp->Prop}{Q':δ->Hp->Prop}
theorem zE.weak {r:M.R α} (h:zE K Θ Rl ρ H r Q) (c:ρ <+: ρ') (le:Le H H'):zE K Θ Rl ρ' H' r Q:=by
 cases r with
 | ok a s=>exact λd f b p l=>h d f b (c.trans p) (le.trans l)
 | exc e s=>exact yl.weak h c le
 | no=>exact h
theorem zE.bind {r:M.R α}{f:α->M.S->M.R γ} (h:zE K Θ Rk ρ H (r.bind f) Q')
  (k:∀ ρ' H' a b S',ρ <+: ρ'->Le H H'->zS K Θ ρ' S' H'->Rl ρ' H' a b->zE K Θ Rk ρ' H' (f a S') Q'->Q b H'):zE K Θ Rl ρ H r Q:=by
 cases r with
 | ok a s=>exact λc d b p l g i=>k c d a b s p l g i (zE.weak h p l)
 | exc e s=>exact h
 | no=>exact h
theorem zE.here {a:α}{b:β} (h:zE K Θ Rl ρ H (.ok a S) Q) (c:zS K Θ ρ S H) (d:Rl ρ H a b):Q b H:=h ρ H b (jN _) (Le.refl _) c d
end
def RdE (K:PySem.W.Frag) (e:Tab) (m:M.EM):TE:=λσ H Q=>∃ d c S,zt K d H c σ/\zS K e d S H/\zE K e (zL K) d H (m c S) Q
def RdT (K:PySem.W.Frag) (e:Tab) (m:M.TM):TT:=λσ H Q=>∃ d c S,zt K d H c σ/\zS K e d S H/\zE K e rB d H (m c S) Q
def RdA (K:PySem.W.Frag) (e:Tab) (m:M.AM):TA:=λσ H Q=>∃ d c S,zt K d H c σ/\zS K e d S H/\zE K e (zP K) d H (m c S) Q
def RdO (K:PySem.W.Frag) (e:Tab) (m:M.OM):TO:=λσ H Q=>∃ d c S,zt K d H c σ/\zS K e d S H/\zE K e rO d H (m c S) Q
abbrev ME (X:Cx) (c:Tab) (e:zQ) (m:M.EM):Prop:=PE X e (RdE X.K c m)
@[irreducible] def WE (X:Cx) (c:Tab) (e:zQ) (m:M.EM):Prop:=ME X c e m
abbrev MT (X:Cx) (c:Tab) (e:zQ) (m:M.TM):Prop:=PT X e (RdT X.K c m)
@[irreducible] def WT (X:Cx) (c:Tab) (e:zQ) (m:M.TM):Prop:=MT X c e m
abbrev MW (X:Cx) (c:Tab) (e:zQ) (m:M.TM):Prop:=PW X e (RdT X.K c m)
@[irreducible] def WW (X:Cx) (c:Tab) (e:zQ) (m:M.TM):Prop:=MW X c e m
abbrev MA (X:Cx) (c:Tab) (es:List zQ) (m:M.AM):Prop:=PA X es (RdA X.K c m)
@[irreducible] def WA (X:Cx) (c:Tab) (es:List zQ) (m:M.AM):Prop:=MA X c es m
abbrev MO (X:Cx) (c:Tab) (e:Option zQ) (m:M.OM):Prop:=PO X e (RdO X.K c m)
@[irreducible] def WO (X:Cx) (c:Tab) (e:Option zQ) (m:M.OM):Prop:=MO X c e m
theorem PE.imp {X:Cx}{t':TE} (h:PE X e t) (i:∀ σ H Q,t' σ H Q->t σ H Q):PE X e t':=λc s σ H Q I q=>h c s σ H Q I (i σ H Q q)
theorem PT.imp {X:Cx}{t':TT} (h:PT X e t) (i:∀ σ H Q,t' σ H Q->t σ H Q):PT X e t':=λc s σ H Q I q=>h c s σ H Q I (i σ H Q q)
theorem PW.imp {X:Cx}{t':TT} (h:PW X e t) (i:∀ σ H Q,t' σ H Q->t σ H Q):PW X e t':=λd c s σ H Q I q=>h d c s σ H Q I (i σ H Q q)
theorem PA.imp {X:Cx}{t':TA} (h:PA X es t) (i:∀ σ H Q,t' σ H Q->t σ H Q):PA X es t':=λpos c s σ H Q I q=>h pos c s σ H Q I (i σ H Q q)
theorem PO.imp {X:Cx}{t':TO} (h:PO X e t) (i:∀ σ H Q,t' σ H Q->t σ H Q):PO X e t':=λc s σ H Q I q=>h c s σ H Q I (i σ H Q q)
theorem PE.up {X:Cx}{m:M.EM} (h:PE X e t) (i:∀ σ H Q f d S,zt X.K f H d σ->zS X.K g f S H->zE X.K g (zL X.K) f H (m d S) Q->t σ H Q):PE X e (RdE X.K g m):=h.imp λσ H Q ⟨f,d,S,a,b,c⟩=>i σ H Q f d S a b c
theorem PT.up {X:Cx}{m:M.TM} (h:PT X e t) (i:∀ σ H Q f d S,zt X.K f H d σ->zS X.K g f S H->zE X.K g rB f H (m d S) Q->t σ H Q):PT X e (RdT X.K g m):=h.imp λσ H Q ⟨f,d,S,a,b,c⟩=>i σ H Q f d S a b c
theorem PW.up {X:Cx}{m:M.TM} (h:PW X e t) (i:∀ σ H Q f d S,zt X.K f H d σ->zS X.K g f S H->zE X.K g rB f H (m d S) Q->t σ H Q):PW X e (RdT X.K g m):=h.imp λσ H Q ⟨f,d,S,a,b,c⟩=>i σ H Q f d S a b c
theorem PA.up {X:Cx}{m:M.AM} (h:PA X es t) (i:∀ σ H Q e d S,zt X.K e H d σ->zS X.K f e S H->zE X.K f (zP X.K) e H (m d S) Q->t σ H Q):PA X es (RdA X.K f m):=h.imp λσ H Q ⟨e,d,S,a,b,c⟩=>i σ H Q e d S a b c
theorem PO.up {X:Cx}{m:M.OM} (h:PO X e t) (i:∀ σ H Q f d S,zt X.K f H d σ->zS X.K g f S H->zE X.K g rO f H (m d S) Q->t σ H Q):PO X e (RdO X.K g m):=h.imp λσ H Q ⟨f,d,S,a,b,c⟩=>i σ H Q f d S a b c
noncomputable def q9:zQ->Bool
 | .Starred _ _=>false
 | _=>true
theorem yL {es:List zQ} (h:q9 e=true):jd (e::es) env=(false,zu e env)::jd es env:=by
 cases e<;>first | rfl | cases h
theorem kj:∀ {es:List zQ},es.all q9=true->(yO pos (jd es env)).any (·.1)=false
 | [],_=>rfl
 | e::es,h=>by
  rw[Zd,jl] at h;rw[yL h.1];show (false || (yO pos (jd es env)).any (·.1))=false;rw[kj h.2];rfl
theorem AN:∀ {es:List zQ},es.all q9=true->(yO pos (jd es env)).all (λx=>!x.1)=true
 | [],_=>rfl
 | e::es,h=>by
  rw[Zd,jl] at h;rw[yL h.1];show (true && (yO pos (jd es env)).all (λx=>!x.1))=true;rw[AN h.2];rfl
theorem aO {es:List zQ} (h:es.all q9=true) (c:es.length < 30):((yO pos (jd es env)).all (λx=>!x.1) && (KQ pos (KS [] env)).all (λx=>x.1.isSome)
  && decide (es.length+([]:List Qv).length+(if ([]:List Qv).isEmpty then 0 else 1) < 30))=true:=by
 rw[AN h,KR,jl];exact⟨rfl,decide_eq_true (by simpa using c)⟩
section
variable {X:Cx}{Θ:Tab}{a b c:zQ}{pos:Pos}{ma mb mc:M.EM}{ta tb:M.TM}{jn:List zQ}
theorem w_me_var (i:Nat) {x:Str} (g:X.N[i]? = some x:=by rfl) (j:Vis X.env.scope x:=by first | exact zb rfl | exact ZN (zb rfl) | exact ZN (ZN rfl)) (hd:(x == ("__debug__" : Str))=false:=by decide)
  (f:(x == ("__classdict__" : Str))=false:=by decide):WE X Θ (.Name x pos) (M.zA i):=by
 delta WE at ⊢
 exact (Ap g j hd f).up λσ H Q o l S st m h=>by
  unfold M.zA at h;split at h
  ·rename_i d e;obtain⟨v,n,r⟩:=st.get i d e;exact⟨v,n,h.here m r⟩
  ·exact h.elim
theorem Xx (h:PE X e (tC v)) (r:∀ f H,zL X.K f H d v):ME X Θ e (M.eC d):=h.up λσ H Q f g S st i h=>h.here i (r f H)
theorem w_me_int {i:Int}{j:Nat}:WE X Θ (.Constant (.int i) j pos) (M.eC (.int i)):=by
 delta WE at ⊢
 exact Xx Uu λ_ _=>rfl
theorem w_me_bl {k:Bool}{j:Nat}:WE X Θ (.Constant (.bool k) j pos) (M.eC (.bl k)):=by
 delta WE at ⊢
 exact Xx BF λ_ _=>rfl
theorem w_me_non {j:Nat}:WE X Θ (.Constant .none j pos) (M.eC .non):=by
 delta WE at ⊢
 exact Xx cS λ_ _=>rfl
theorem w_me_str {y:M.T}{x:Str}{j:Nat} (h:x=ofT y) (ok:okT y):WE X Θ (.Constant (.str x) j pos) (M.eC (.str y)):=by
 delta WE at ⊢
 exact Xx U8 λ_ _=>by rw[h];exact⟨rfl,ok⟩
theorem w_me_ty (n:M.Kd) (d:Gl X x) (hm:X.mg x=none) (e:j1 x=some (.type (yS n))) (f:x ≠ "__name__" := by decide) (hd:(x == ("__debug__" : Str))=false:=by decide):WE X Θ (.Name x pos) (M.eC (.ty n)):=by
 delta WE at ⊢
 exact Xx (dF (v:=.ty (yS n)) d hm e rfl f hd) λ_ _=>rfl
def Ad2 (K:PySem.W.Frag) (Θ:Tab) (f:M.D->M.D->M.S->M.R M.D) (r:R2):Prop:=∀ d H S x y X Y Q,zS K Θ d S H->zL K d H x X->zL K d H y Y->zE K Θ (zL K) d H (f x y S) Q->r X Y H Q
def AdC (K:PySem.W.Frag) (Θ:Tab) (f:M.CM) (r:R2):Prop:=∀ d H S x y X Y (Q:VK),zS K Θ d S H->zL K d H x X->zL K d H y Y->zE K Θ rB d H (f x y S) (λb e=>Q (.bl b) e)->r X Y H Q
def Ad1 (K:PySem.W.Frag) (Θ:Tab) (f:M.D->M.S->M.R M.D) (r:V->Hp->VK->Prop):Prop:=∀ d H S x X Q,zS K Θ d S H->zL K d H x X->zE K Θ (zL K) d H (f x S) Q->r X H Q
def AdN (K:PySem.W.Frag) (Θ:Tab) (f:M.F) (r:List V->Hp->VK->Prop):Prop:=∀ d H S xs e Q,zS K Θ d S H->zP K d H xs e->zE K Θ (zL K) d H (f xs S) Q->r e H Q
def AdM (K:PySem.W.Frag) (Θ:Tab) (f:M.D->M.F) (r:V->List V->Hp->VK->Prop):Prop :=
 ∀ d H S x xs X e Q,zS K Θ d S H->zL K d H x X->zP K d H xs e->zE K Θ (zL K) d H (f x xs S) Q->r X e H Q
theorem w_me_op (m:OpR X (yD n) r) (ad:Ad2 X.K Θ f r) (ha:WE X Θ a ma) (l:WE X Θ b mb):WE X Θ (.BinOp a n b pos) (M.eOp f ma mb):=by
 delta WE at ha l ⊢
 exact (Gj m ha l).up λσ H Q o d S st p h=>⟨o,d,S,st,p,zE.bind h λe B x q S1 s l1 g rx t=>⟨e,d,S1,st.mono s l1,g,
   zE.bind t λi u y Y v w z j ry A=>ad i u v x y q Y Q j (rx.mono w z) ry A⟩⟩
noncomputable def aW:zQ->Bool
 | .Slice _ _ _ _=>false
 | .Tuple _ _ _=>false
 | _=>true
theorem eY {b:zQ} (h:aW b=true):Ut b:=λo i=>by
 cases b<;>first | rfl | cases h
theorem w_me_ix (m:IxR X r) (ad:Ad2 X.K Θ f r) (ha:WE X Θ a ma) (l:WE X Θ b mb) (n:aW b=true:=by rfl):WE X Θ (.Subscript a b pos) (M.eOp f ma mb):=by
 delta WE at ha l ⊢
 exact (D6 m ha l (eY n)).up λσ H Q o d S st p h=>⟨o,d,S,st,p,zE.bind h λe B x q S1 s l1 g rx t=>⟨e,d,S1,st.mono s l1,g,
   zE.bind t λi u y Y v w z j ry A=>ad i u v x y q Y Q j (rx.mono w z) ry A⟩⟩
theorem w_me_un (i:UnR X (unaryOp j) r) (ad:Ad1 X.K Θ f r) (ha:WE X Θ a ma):WE X Θ (.UnaryOp j a pos) (M.eUn f ma):=by
 delta WE at ha ⊢
 exact (d3 i ha).up λσ H Q l d S st m h=>⟨l,d,S,st,m,zE.bind h λe n x o S1 q l1 g rx p=>ad e n S1 x o Q g rx p⟩
theorem w_me_cmp (p:OpR X (jv n) r) (ad:AdC X.K Θ f r) (ha:WE X Θ a ma) (o:WE X Θ b mb) (hm:Q1 n b=false):WE X Θ (.Compare a [n] [b] pos) (M.Zz f ma mb):=by
 delta WE at ha o ⊢
 exact (dI p ha o hm).up λσ H Q q d S st s h=>⟨q,d,S,st,s,zE.bind h λg I x t S1 u l1 i rx v=>⟨g,d,S1,st.mono u l1,i,
   zE.bind v λj w y Y z A B l ry C=>ad j w z x y t Y Q l (rx.mono A B) ry (zE.bind C λE J k L N U l3 m e G=>by cases e;exact G.here m rfl)⟩⟩
theorem w_mt_cmp (v:OpR X (jv p) r) (ad:AdC X.K Θ f r) (ha:WE X Θ a ma) (q:WE X Θ b mb) (hm:Q1 p b=false):WT X Θ (.Compare a [p] [b] pos) (M.zo f ma mb):=by
 delta WE WT at ha q ⊢
 exact (Co v ha q hm).up λσ H Q w g S st z h=>⟨w,g,S,st,z,zE.bind h λi U x A S1 B l1 j rx C=>⟨i,g,S1,st.mono B l1,j,
   zE.bind C λl E y Y t G I m ry d=>ad l E t x y A Y _ m (rx.mono G I) ry (by
    revert d;cases f x y t with
    | ok k s=>exact λd n J u L N o e=>⟨u,rfl,d n J u L N o e⟩
    | exc e s=>exact λd=>d
    | no=>exact λd=>d)⟩⟩
theorem fb {K:PySem.W.Frag} (r:zL K d H x v):decide (v=.non)=M.Ku x:=by
 cases x with
 | non=>cases r;rfl
 | bl b=>cases r;rfl
 | int b=>cases r;rfl
 | str b=>obtain⟨rfl,_⟩:=r;rfl
 | ty b=>cases r;rfl
 | ref i=>obtain⟨_,rfl,_⟩:=r;rfl
 | tup i=>obtain⟨_,_,rfl,_⟩:=r;rfl
 | ro i=>obtain⟨_,_,rfl,_⟩:=r;rfl
theorem w_mt_isN {j pos'} (ha:WE X Θ a ma):WT X Θ (.Compare a [.Is] [.Constant .none j pos'] pos) (M.xf ma):=by
 delta WE WT at ha ⊢
 exact (Be (be ha)).up λσ H Q f d S st g h=>⟨f,d,S,st,g,zE.bind h λi m x n S1 o l1 e rx l=>⟨_,rfl,by
  rw[fb rx];exact l.here e rfl⟩⟩
theorem w_mw_one_and (ha:WT X Θ a ta):WW X Θ (.BoolOp .And [a] pos) ta:=by
 delta WT WW at ha ⊢
 exact fA ha
theorem w_mw_one_or (ha:WT X Θ a ta):WW X Θ (.BoolOp .Or [a] pos) ta:=by
 delta WT WW at ha ⊢
 exact FO ha
theorem w_mw_and (ha:WT X Θ a ta) (i:WW X Θ (.BoolOp .And (b::jn) pos) tb):WW X Θ (.BoolOp .And (a::b::jn) pos) (M.K3 ta tb):=by
 delta WT WW at ha i ⊢
 exact (D4 ha i).up λσ H Q l d S st m h=>⟨l,d,S,st,m,zE.bind h λg o k p S1 n l1 f e j=>by
   cases e;cases k with
   | true=>exact kz ⟨g,d,S1,st.mono n l1,f,j⟩
   | false=>exact kM (zE.here (b:=false) j f rfl)⟩
theorem w_mw_or (ha:WT X Θ a ta) (i:WW X Θ (.BoolOp .Or (b::jn) pos) tb):WW X Θ (.BoolOp .Or (a::b::jn) pos) (M.tOr ta tb):=by
 delta WT WW at ha i ⊢
 exact (d6 ha i).up λσ H Q l d S st m h=>⟨l,d,S,st,m,zE.bind h λg o k p S1 n l1 f e j=>by
   cases e;cases k with
   | true=>exact kz (zE.here (b:=true) j f rfl)
   | false=>exact kM ⟨g,d,S1,st.mono n l1,f,j⟩⟩
theorem w_mt_not (ha:WT X Θ a ta):WT X Θ (.UnaryOp .Not a pos) (M.yt ta):=by
 delta WT at ha ⊢
 exact (eJ ha).up λσ H Q g d S st i h=>⟨g,d,S,st,i,zE.bind h λj m k n S1 o l1 f e l=>by
  cases e;exact zE.here (b:=!k) l f rfl⟩
theorem w_me_one {d} (ha:WE X Θ a ma):WE X Θ (.BoolOp d [a] pos) ma:=by
 delta WE at ha ⊢
 exact FG ha
theorem AK {K:PySem.W.Frag}{e g:Type}{i:List zC->Hp->e->g->Prop}{d:List zC}{H:Hp}{x:M.D}{v:V}{S:M.S}{f:Bool->M.S->M.R e}{Q:g->Hp->Prop} (r:zL K d H x v) (h:zE K Θ i d H ((M.asB x S).bind f) Q):∃ k,v=.bl k/\zE K Θ i d H (f k S) Q:=by
 cases x with
 | bl b=>cases r;exact⟨b,rfl,h⟩
 | _=>exact h.elim
theorem w_me_and (ha:WE X Θ a ma) (i:WE X Θ (.BoolOp .And (b::jn) pos) mb):WE X Θ (.BoolOp .And (a::b::jn) pos) (M.vO ma mb):=by
 delta WE at ha i ⊢
 exact (cI ha i).up λσ H Q l d S st m h=>⟨l,d,S,st,m,zE.bind h λg p x q S1 n l1 f rx o=>by
   obtain⟨k,e,j⟩:=AK rx o;refine⟨k,e,?_⟩;cases k with
   | true=>exact kz ⟨g,d,S1,st.mono n l1,f,j⟩
   | false=>exact kM (zE.here (b:=V.bl false) j f rfl)⟩
theorem w_me_not (ha:WE X Θ a ma):WE X Θ (.UnaryOp .Not a pos) (M.Wy ma):=by
 delta WE at ha ⊢
 exact (HB ha).up λσ H Q g d S st i h=>⟨g,d,S,st,i,zE.bind h λj n x o S1 p l1 f rx l=>by
  obtain⟨k,e,m⟩:=AK rx l;exact⟨k,e,zE.here (b:=V.bl !k) m f rfl⟩⟩
theorem AZ:MA X Θ [] M.zF:=UP.up λσ H Q f d S st e h=>zE.here (b:=[]) h e rfl
theorem w_ma_nil:WA X Θ [] M.zF:=by with_unfolding_all exact AZ
theorem bJ (ha:ME X Θ e ma) (j:MA X Θ es r) (l:q9 e=true:=by rfl):MA X Θ (e::es) (M.zD ma r) :=
 (wC ha j (yL l)).up λσ H Q m d S st n h=>⟨m,d,S,st,n,zE.bind h λf y x o S1 p l1 g rx q=>⟨f,d,S1,st.mono p l1,g,
  zE.bind q λs z ys t A u v i ry w=>w.here i ⟨o,t,rfl,rx.mono u v,ry⟩⟩⟩
theorem w_ma_cons (ha:WE X Θ e ma) (d:WA X Θ es r) (f:q9 e=true:=by rfl):WA X Θ (e::es) (M.zD ma r):=by with_unfolding_all exact bJ (e:=e) (es:=es) (r:=r) ha d f
theorem w_me_tup {m} (l:WA X Θ es r):WE X Θ (.Tuple es m pos) (M.ZU r):=by
 delta WA WE at l ⊢
 exact (DI l).up λσ H Q n f S st o h=>⟨n,f,S,st,o,zE.bind h λg s xs q S1 t l1 i rx d=>by
  by_cases e:xs.length <= M.SZ
  ·rw[if_pos e] at d;rw[yo,rx.length] at e;exact⟨e,λp j=>d g _ _ (jN _) (Le.new j _) (i.aside j _) ⟨p,q,rfl,SqT.of ju,rx.mono (jN _) (Le.new j _)⟩⟩
  ·rw[if_neg e] at d;exact d.elim⟩
theorem zE.alloc {K:PySem.W.Frag}{d:List zC}{H:Hp}{S:M.S}{f:List M.D}{Q:VK} (h:zE K Θ (zL K) d H (M.alloc (.lst f) S) Q) (g:zS K Θ d S H) (r:zP K d H f xs) {p:zC} (e:H p=none):Q (.ref p) (upd H p (.lst xs)) :=
 h (d++[p]) _ _ (Zc _ _) (Le.new e _) (g.alloc e ⟨xs,ju,r.mono (Zc _ _) (Le.new e _)⟩) ⟨p,rfl,by rw[<- g.len];simp⟩
theorem w_me_lst (i:WA X Θ es r):WE X Θ (.List es pos) (M.j8 r):=by
 delta WA WE at i ⊢
 exact (bz i).up λσ H Q j f S st l h=>⟨j,f,S,st,l,zE.bind h λm o xs q S1 s l1 g rx d=>by
  by_cases e:xs.length <= M.SZ
  ·rw[if_pos e] at d;rw[yo,rx.length] at e;exact⟨e,λp n=>d.alloc g rx n⟩
  ·rw[if_neg e] at d;exact d.elim⟩
theorem w_mo_none:WO X Θ none M.J0:=by
 delta WO at ⊢
 exact bV.up λσ H Q f d S st e h=>zE.here (b:=none) h e rfl
theorem w_mo_some (ha:WE X Θ a ma):WO X Θ (some a) (M.yr ma):=by
 delta WE WO at ha ⊢
 exact (EC ha).up λσ H Q g d S st j h=>⟨g,d,S,st,j,zE.bind h λl m x n S1 o l1 e rx f=>by
  cases x with
  | int i=>cases rx;exact⟨i,rfl,zE.here (b:=some i) f e rfl⟩
  | _=>exact f.elim⟩
theorem w_me_sl {lo:Option zQ}{f:Pos} (w:SlR X r) (ad:∀ e H S x g l u Q,zS X.K Θ e S H->zL X.K e H x g->zE X.K Θ (zL X.K) e H (M.slD x l u S) Q->r g l u H Q) (ha:WE X Θ a ma) (q:WO X Θ lo y) (s:WO X Θ hi z) :
  WE X Θ (.Subscript a (.Slice lo hi none f) pos) (M.eSl ma y z):=by
 delta WE WO at ha q s ⊢
 exact (D7 w ha q s).up λσ H Q e d S st A h=>⟨e,d,S,st,A,zE.bind h λi H1 x g S1 t l1 j rx B=>⟨i,d,S1,st.mono t l1,j,
   zE.bind B λm H2 l l' C f v n E G=>by
    cases E;exact⟨m,d,C,st.mono (t.trans f) (l1.trans v),n,zE.bind G λo I u u' J L N p U Y=>by
     cases U;exact ad o I J x g l u Q p (rx.mono (f.trans L) (v.trans N)) Y⟩⟩⟩
theorem w_me_callB {p:Pos}{id:String}{e:zQ}{es:List zQ} (n:qX X (.builtin id) r) (ad:AdN X.K Θ f r) (o:Gl X x) (hm:X.mg x=none) (q:j1 x=some (.builtin id)) (ha:WA X Θ (e::es) m)
  (s:x ≠ "__name__" := by decide) (d:(x == ("__debug__" : Str))=false:=by decide) (t:q9 e=true:=by rfl) (g:es.all q9=true:=by rfl) :
  WE X Θ (.Call (.Name x p) (e::es) [] pos) (M.zM f m):=by
 delta WA WE at ha ⊢
 exact (Fp n o hm q ha s d (yL t) (kj g)).up λσ H Q u i S st v h=>⟨u,i,S,st,v,zE.bind h λj w xs y S1 A l1 l rx z=>ad j w S1 xs y Q l rx z⟩
theorem w_me_callTy {p:Pos}{T:String}{e:zQ}{es:List zQ} (n:qX X (.type T) r) (ad:AdN X.K Θ f r) (o:Gl X x) (hm:X.mg x=none) (q:j1 x=some (.type T)) (ha:WA X Θ (e::es) m)
  (s:x ≠ "__name__" := by decide) (d:(x == ("__debug__" : Str))=false:=by decide) (t:q9 e=true:=by rfl) (g:es.all q9=true:=by rfl) :
  WE X Θ (.Call (.Name x p) (e::es) [] pos) (M.zM f m):=by
 delta WA WE at ha ⊢
 exact (dq n o hm q ha s d (yL t) (kj g)).up λσ H Q u i S st v h=>⟨u,i,S,st,v,zE.bind h λj w xs y S1 A l1 l rx z=>ad j w S1 xs y Q l rx z⟩
theorem Wq {K:PySem.W.Frag}{S:M.S}{k:M.Kd} (j:zS K Θ l S H) (r:zL K l H x v) (h:M.yM k x S=true):tyV K (yS k) v H:=by
 cases x with
 | str z=>obtain⟨rfl,_⟩:=r;cases k<;>first | rfl | cases h
 | ro p =>
  obtain⟨a,xs,rfl,q,_⟩:=r;cases k<;>first | exact .inl ⟨rfl,xs,q.sq⟩ | cases h
 | ref i =>
  obtain⟨a,rfl,e⟩:=r;cases q:S[i]? with
  | none=>simp[M.yM,q] at h
  | some o =>
   cases o with
   | lst xs =>
    obtain⟨b,d,g,f,_⟩:=j.obj _ _ q;rw[e] at d;cases d;cases k<;>first | exact .inl ⟨rfl,g,SqL.of f⟩ | simp[M.yM,q] at h
   | dct xs =>
    obtain⟨b,d,g,f,_⟩:=j.obj _ _ q;rw[e] at d;cases d;cases k<;>first | exact .inr (.inr (.inl ⟨rfl,.inl ⟨g,f⟩⟩)) | simp[M.yM,q] at h
   | fdc _=>simp[M.yM,q] at h
   | ftt _=>simp[M.yM,q] at h
   | dtt xs =>
    obtain⟨b,d,g,f,_⟩:=j.obj _ _ q;rw[e] at d;cases d;cases k<;>first | exact .inr (.inr (.inl ⟨rfl,.inr (.inr ⟨_,f,λh z=>let ⟨_,_,_,o,_,_,m,n,_⟩:=z;⟨o,m,n⟩⟩)⟩)) | simp[M.yM,q] at h
   | ins c fs=>simp[M.yM,q] at h
 | _=>cases h
theorem w_me_m {k:M.Kd}{T:String}{e:zQ}{es:List zQ}{g i:Pos}{id:String} (C:uv T) (slot:Slot T name id) (t:typeOf (.builtin id)=pure (.type "method_descriptor")) (hm:MtR X id r) (ad:AdM X.K Θ f r) (E:T=yS k) (A:WE X Θ o mo) (ha:WA X Θ (e::es) m)
  (j:Qg o name X.env (zu o X.env)=zu o X.env:=by rfl)
  (n:(e::es).length < 30:=by exact Nat.le_of_ble_eq_true rfl) (l:(g.endLine == i.line)=true:=by rfl) (B:q9 e=true:=by rfl) (d:es.all q9=true:=by rfl) :
  WE X Θ (.Call (.Attribute o name g) (e::es) [] i) (M.eM k f mo m):=by
 delta WA WE at A ha ⊢
 exact (AC C slot t hm A ha j (aO (by rw[Zd,B,d];rfl) n) l (yL B) (kj d)).up λσ H Q G p S st I h=>⟨G,p,S,st,I,zE.bind h λu H1 x J S1 L l1 q rx s=>by
  cases v:M.yM k x S1 with
  | false=>rw[v] at s;exact s.elim
  | true =>
   rw[v] at s;exact⟨E ▸ Wq q rx v,u,p,S1,st.mono L l1,q,zE.bind s λw N xs U Y p2 l2 y z h2=>ad w N Y x xs J U Q y (rx.mono p2 l2) z h2⟩⟩
theorem w_me_m0 {k:M.Kd}{T:String}{d e:Pos}{id:String} (t:uv T) (slot:Slot T name id) (m:typeOf (.builtin id)=pure (.type "method_descriptor")) (hm:MtR X id r) (ad:AdM X.K Θ f r) (u:T=yS k) (s:WE X Θ o mo)
  (g:Qg o name X.env (zu o X.env)=zu o X.env:=by rfl) (i:(d.endLine == e.line)=true:=by rfl) :
  WE X Θ (.Call (.Attribute o name d) [] [] e) (M.eM k f mo M.zF):=by
 delta WE at s ⊢
 exact (h8 t slot m hm s g i).up λσ H Q v n S st w h=>⟨v,n,S,st,w,zE.bind h λp y x z S1 A l1 j rx l=>by
  cases q:M.yM k x S1 with
  | false=>rw[q] at l;exact l.elim
  | true =>
   rw[q] at l;exact⟨u ▸ Wq j rx q,ad p y S1 x [] z [] Q j rx rfl l⟩⟩
end
end L2
namespace L2
open PySem PySem.Spec PyProof.Rows
noncomputable def zf (K:PySem.W.Frag) (g:Tab) (h:List zC) (H:Hp):M.RS->yv->Prop
 | .nx f S1,D=>∀ c e σ,h <+: c->Le H e->zS K g c S1 e->zt K c e f σ->D.nx σ e
 | .rt d S1,D=>∀ c e v,h <+: c->Le H e->zS K g c S1 e->zL K c e d v->D.rt v e
 | .bk f S1,D=>∀ c e σ,h <+: c->Le H e->zS K g c S1 e->zt K c e f σ->D.bk σ e
 | .ct f S1,D=>∀ c e σ,h <+: c->Le H e->zS K g c S1 e->zt K c e f σ->D.ct σ e
 | .exc d _ S',_=>yl K g h H d S'
 | .no,_=>False
def RdS (K:PySem.W.Frag) (e:Tab) (m:M.SM):TS:=λD σ H=>∃ d c S,zt K d H c σ/\zS K e d S H/\zf K e d H (m c S) D
abbrev MS (X:Cx) (c:Tab) (st:zh) (m:M.SM):Prop:=PS X st (RdS X.K c m)
@[irreducible] def WS (X:Cx) (c:Tab) (st:zh) (m:M.SM):Prop:=MS X c st m
abbrev MSs (X:Cx) (c:Tab) (st:List zh) (m:M.SM):Prop:=PSs X st (RdS X.K c m)
@[irreducible] def WSs (X:Cx) (c:Tab) (st:List zh) (m:M.SM):Prop:=MSs X c st m
theorem PS.imp {X:Cx}{t':TS} (h:PS X e t) (i:∀ D σ H,t' D σ H->t D σ H):PS X e t':=λc s σ H D I q=>h c s σ H D I (i D σ H q)
theorem PSs.imp {X:Cx}{t':TS} (h:PSs X e t) (i:∀ D σ H,t' D σ H->t D σ H):PSs X e t':=λc s σ H D I q=>h c s σ H D I (i D σ H q)
theorem PS.up {X:Cx}{m:M.SM} (h:PS X e t) (i:∀ D σ H f d S,zt X.K f H d σ->zS X.K g f S H->zf X.K g f H (m d S) D->t D σ H):PS X e (RdS X.K g m):=h.imp λD σ H ⟨f,d,S,a,b,c⟩=>i D σ H f d S a b c
theorem PSs.up {X:Cx}{m:M.SM} (h:PSs X e t) (i:∀ D σ H f d S,zt X.K f H d σ->zS X.K g f S H->zf X.K g f H (m d S) D->t D σ H):PSs X e (RdS X.K g m):=h.imp λD σ H ⟨f,d,S,a,b,c⟩=>i D σ H f d S a b c
section
variable {K:PySem.W.Frag}{Θ:Tab}{ρ ρ':List zC}{H H':Hp}{S:M.S}{α β:Type}{Rl:List zC->Hp->α->β->Prop}{Q:β->Hp->Prop}{D D':yv}
theorem zf.weak (h:zf K Θ ρ H r D) (d:ρ <+: ρ') (le:Le H H'):zf K Θ ρ' H' r D:=by
 cases r with
 | nx a s=>exact λc f b p l=>h c f b (d.trans p) (le.trans l)
 | rt a s=>exact λc f b p l=>h c f b (d.trans p) (le.trans l)
 | bk a s=>exact λc f b p l=>h c f b (d.trans p) (le.trans l)
 | ct a s=>exact λc f b p l=>h c f b (d.trans p) (le.trans l)
 | exc e a s=>exact yl.weak h d le
 | no=>exact h
theorem zf.stm {r:M.R α}{σ:M.St}{f:α->M.S->M.RS} (h:zf K Θ ρ H (r.stm σ f) D)
  (k:∀ ρ' H' a b S',ρ <+: ρ'->Le H H'->zS K Θ ρ' S' H'->Rl ρ' H' a b->zf K Θ ρ' H' (f a S') D->Q b H'):zE K Θ Rl ρ H r Q:=by
 cases r with
 | ok a s=>exact λc d b p l g i=>k c d a b s p l g i (zf.weak h p l)
 | exc e s=>exact h
 | no=>exact h
theorem zf.nx {c:M.St} (h:zf K Θ ρ H (.nx c S) D) (d:zS K Θ ρ S H) (st:zt K ρ H c σ):D.nx σ H:=h ρ H σ (jN _) (Le.refl _) d st
theorem zf.rt {d:M.D} (h:zf K Θ ρ H (.rt d S) D) (c:zS K Θ ρ S H) (r:zL K ρ H d v):D.rt v H:=h ρ H v (jN _) (Le.refl _) c r
end
section
variable {X:Cx}{Θ:Tab}{e:zQ}{pos:Pos}{m:M.EM}{st:zh}{jn:List zh}{ms mr:M.SM}
theorem w_mss_nil:WSs X Θ [] M.jL:=by
 delta WSs at ⊢
 exact fJ.up λD σ H f c S st d h=>h.nx d st
theorem w_mss_one (h:WS X Θ st ms):WSs X Θ [st] ms:=by
 delta WS WSs at h ⊢
 exact DN h
theorem w_mss_cons (g:WS X Θ st ms) (i:WSs X Θ jn mr):WSs X Θ (st::jn) (M.zK ms mr):=by
 delta WS WSs at g i ⊢
 exact (DJ g i).up λD σ H j c S st n h=>⟨j,c,S,st,n,by
  have h':zf X.K Θ j H ((ms c S).then mr) D:=h;revert h';cases ms c S with
  | nx a s=>exact λh' d q o p l f st2=>⟨d,a,s,st2,f,zf.weak h' p l⟩
  | rt a s=>exact λh'=>h'
  | bk a s=>exact λh'=>h'
  | ct a s=>exact λh'=>h'
  | exc e a s=>exact λh'=>h'
  | no=>exact λh'=>h'⟩
theorem w_ms_expr (f:WE X Θ e m) (g:Q3 e none pos.line X.env=pure false:=by rfl):WS X Θ (.Expr e pos) (M.Z4 m):=by
 delta WE WS at f ⊢
 exact (BY f g).up λD σ H i c S st j h=>⟨i,c,S,st,j,zf.stm h λl p x q S1 n l1 d rx o=>o.nx d (st.mono n l1)⟩
theorem w_ms_ret (f:WE X Θ e m):WS X Θ (.Return (some e) pos) (M.jM m):=by
 delta WE WS at f ⊢
 exact (Dr f).up λD σ H g c S st i h=>⟨g,c,S,st,i,zf.stm h λj n x o S1 p l1 d rx l=>l.rt d rx⟩
theorem w_ms_set {i:Nat}{x:Str}{pos':Pos} (g:X.N.Nodup) (hi:X.N[i]? = some x) (j:Loc X.env.scope x) (f:WE X Θ e m) (l:Q3 e (some (.Name x pos')) pos.line X.env=pure false:=by kernel_rfl) (n:X.fn x=true\/X.env.scope.names.lookup x=some .local:=by first | exact .inl rfl | exact .inr rfl | assumption) :
  WS X Θ (.Assign [.Name x pos'] e pos) (M.zU i m):=by
 delta WE WS at f ⊢
 exact (B3 g hi j f l n).up λD σ H o c S st p h=>⟨o,c,S,st,p,zf.stm h λq t x u S1 r l1 d rx s=>s.nx d ((st.mono r l1).set rx i)⟩
theorem w_ms_if {a b:List zh} (i:WT X Θ c o) (ha:WSs X Θ a p) (j:WSs X Θ b q):WS X Θ (.If c a b pos) (M.sIf o p q):=by
 delta WS WSs WT at i ha j ⊢
 exact (gU i ha j).up λD σ H r d S st s h=>⟨r,d,S,st,s,zf.stm h λf u k v S1 l l1 g t n=>by
  cases t;cases k with
  | true=>exact kz ⟨f,d,S1,st.mono l l1,g,n⟩
  | false=>exact kM ⟨f,d,S1,st.mono l l1,g,n⟩⟩
theorem w_ms_aug {i:Nat}{x:Str}{pos':Pos} (q:X.N.Nodup) (hi:X.N[i]? = some x) (s:Loc X.env.scope x) (o:WE X Θ e m) (c:PIp X t r) (ad:Ad2 X.K Θ f r)
  (u:X.fn x=true\/X.env.scope.names.lookup x=some .local:=by first | exact .inl rfl | exact .inr rfl | assumption):WS X Θ (.AugAssign (.Name x pos') t e pos) (M.vH f i m):=by
 delta WE WS at o ⊢
 exact (fK q hi s o c u).up λD σ H w g S st A h=>by
  unfold M.vH at h;split at h
  ·rename_i d e;obtain⟨v,B,C⟩:=st.get i d e;exact⟨v,B,w,g,S,st,A,zf.stm h λj E y Y S1 p l1 l ry G=>ad j E S1 d y v Y _ l (C.mono p l1) ry (zf.stm G λI H2 z Z S2 J L n Q U=>U.nx n ((st.mono (p.trans J) (l1.trans L)).set Q i))⟩
  ·exact h.elim
end
def RdG (K:PySem.W.Frag) (l:Tab) (m:List Nat) (g:M.GM):TG:=λv σ H Q=>∃ e f S d,zt K e H f σ/\zS K l e S H/\zL K e H d v/\∃ h,g d f=some h /\
 ∀ i c,Le H i->zS K l e S i->zt K e i h c->c.length=σ.length->(∀ j,j∉m->c[j]? = σ[j]?)->Q c i
abbrev MG (X:Cx) (c:Tab) (d:List Nat) (tg:zQ) (g:M.GM):Prop:=PG X tg (RdG X.K c d g)
@[irreducible] def WG (X:Cx) (c:Tab) (d:List Nat) (tg:zQ) (g:M.GM):Prop:=MG X c d tg g
theorem PG.imp {X:Cx}{t':TG} (h:PG X e t) (i:∀ v σ H Q,t' v σ H Q->t v σ H Q):PG X e t':=λc s σ H v u Q I r q=>h c s σ H v u Q I r (i v σ H Q q)
theorem w_mg_name {X:Cx}{pos:Pos}{i:Nat}{x:Str} (c:X.N.Nodup) (hi:X.N[i]? = some x) (f:Loc X.env.scope x) (g:X.fn x=true\/X.env.scope.names.lookup x=some .local:=by first | exact .inl rfl | exact .inr rfl | assumption) :
  WG X q [i] (.Name x pos) (M.zY i):=by
 delta WG at ⊢
 exact (dM c hi f g).imp λv σ H Q ⟨r,l,S,d,st,m,n,o,e,h⟩=>by
  cases e;exact h H _ (Le.refl _) m (st.set n i) (by rw[qE]) λj p=>yY (λz=>p (by rw[z];simp))
noncomputable def U1 (K:PySem.W.Frag) (i:Tab) (m:List Nat) (g:M.GMs):TGs:=λn σ H Q=>∃ d e S l,zt K d H e σ/\zS K i d S H/\zP K d H l n/\∃ f,g l e=some f /\
 ∀ h c,Le H h->zS K i d S h->zt K d h f c->c.length=σ.length->(∀ j,j∉m->c[j]? = σ[j]?)->Q c h
abbrev MGs (X:Cx) (c:Tab) (d:List Nat) (ts:List zQ) (g:M.GMs):Prop:=PGs X ts (U1 X.K c d g)
@[irreducible] def WGs (X:Cx) (c:Tab) (d:List Nat) (ts:List zQ) (g:M.GMs):Prop:=MGs X c d ts g
theorem PGs.imp {X:Cx}{t':TGs} (h:PGs X e t) (i:∀ v σ H Q,t' v σ H Q->t v σ H Q):PGs X e t':=λc s σ H v u Q I r q=>h c s σ H v u Q I r (i v σ H Q q)
theorem w_mgs_nil {X:Cx}:WGs X l [] [] M.Qx:=by
 delta WGs at ⊢
 exact HR.imp λm σ H Q ⟨n,f,S,c,st,g,i,j,e,h⟩=>by
  cases c with
  | nil=>cases i;cases e;exact⟨rfl,h H σ (Le.refl _) g st rfl λ_ _=>rfl⟩
  | cons d c=>cases e
theorem w_mgs_cons {X:Cx}{ks:List Nat} (A:WG X B I e g) (C:WGs X B ks es E) (J:∀ {t:TG}{u:TGs},PG X e t->PGs X es u->PGs X (e::es) (yV t u)):WGs X B (I++ks) (e::es) (M.yV g E):=by
 delta WG WGs at A C ⊢
 exact (J A C).imp λvs σ H Q ⟨G,c,S,n,st,L,N,l,eq,h⟩=>by
   cases n with
   | nil=>cases eq
   | cons d n =>
    obtain⟨y,ys,rfl,U,Y⟩:=N;have f:(match g d c with | some c=>E n c | none=>none)=some l:=eq;cases q:g d c with
    | none=>rw[q] at f;cases f
    | some m =>
     rw[q] at f;refine⟨y,ys,rfl,G,c,S,d,st,L,U,m,q,λH' σ2 le o st2 hl hj=>⟨G,m,S,n,st2,o,Y.mono (jN _) le,l,f,λp r s v st3 w x=>h p r (le.trans s) v st3 (w.trans hl) λj i=>?_⟩⟩;rw[Uc] at i;rw[x j λz=>i (.inr z),hj j λz=>i (.inl z)]
theorem BJ {X:Cx}{es:List zQ} (h:PG X tg (Qh X.K n (U1 X.K i j g))) (l:∀ e σ c,g e σ=some c->e.length=n):MG X i j tg (M.Qh g):=h.imp λv σ H Q ⟨m,f,S,d,st,o,p,c,eq,h⟩=>by
 cases d with
 | tup e =>
  obtain⟨a,xs,rfl,q,r⟩:=p;exact⟨a,xs,rfl,q,by rw[<- r.length];exact l e f c eq,m,f,S,e,st,o,r,c,eq,h⟩
 | _=>cases eq
structure ItR (K:PySem.W.Frag) (Θ:Tab) (ρ:List zC) (H:Hp) (J:It) (xs:List M.D) (g:M.Gd):Prop where
 go:∀ (i:Nat) ρ' S' H',ρ <+: ρ'->Le H H'->zS K Θ ρ' S' H'->M.zW g S'=true->i < xs.length->J.go i H'
 yld:∀ (i:Nat) ρ' S' H' v H2,ρ <+: ρ'->Le H H'->zS K Θ ρ' S' H'->M.zW g S'=true->i < xs.length->J.yld i H' v H2->∃ d,xs[i]? = some d/\zL K ρ' H2 d v/\Le H' H2/\zS K Θ ρ' S' H2
 stop:∀ ρ' S' H',ρ <+: ρ'->Le H H'->zS K Θ ρ' S' H'->M.zW g S'=true->J.stop xs.length H'
def RdI (K:PySem.W.Frag) (d:Tab) (m:M.IM):TI:=λσ H R=>∃ e c S,zt K e H c σ/\zS K d e S H /\
 zE K d (λf g (p:List M.D×M.Gd) (J:It)=>ItR K d f g J p.1 p.2) e H ((m c S).bind λp s=>if M.zW p.2 s then .ok p s else .no) R
abbrev MI (X:Cx) (d:Tab) (tg c:zQ) (m:M.IM):Prop:=PI X tg c (RdI X.K d m)
@[irreducible] def WI (X:Cx) (d:Tab) (tg c:zQ) (m:M.IM):Prop:=MI X d tg c m
theorem PI.imp {X:Cx}{t':TI} (h:PI X tg e t) (i:∀ σ H R,t' σ H R->t σ H R):PI X tg e t':=λc s σ H R I q=>h c s σ H R I (i σ H R q)
theorem PI.or {X:Cx} (h:PI X tg e t) (h':PI X tg e t'):PI X tg e (λσ H R=>t σ H R\/t' σ H R):=λc s σ H R I q=>by
 rcases q with q | q
 ·exact h c s σ H R I q
 ·exact h' c s σ H R I q
section
variable {X:Cx}{Θ:Tab}{tg e:zQ}{m:M.EM}
theorem bZ {K:PySem.W.Frag}{u:List zC}{i:Nat}{a:zC} (ha:u[i]? = some a):ItR K Θ u H (Itl K a) n [(i,.lst n)]:=by
 have o:∀ {c:List zC}{S':M.S}{q:Hp},u <+: c->zS K Θ c S' q->M.zW [(i,.lst n)] S'=true->∃ f,q a=some (.lst f)/\zP K c q n f:=λ{c S' q} p h g=>by
  have g':S'[i]? = some (M.O.lst n):=by simpa [M.zW] using g
  obtain⟨b,s,f,x,r⟩:=h.obj i _ g';rw[xV p ha] at s;cases s;exact⟨f,x,r⟩
 refine⟨λj c S' q p l h g t=>?_,λj c S' q v B p l h g t y=>?_,λc S' q p l h g=>?_⟩
 ·obtain⟨f,e,r⟩:=o p h g;obtain⟨v,s,_⟩:=r.get (i:=j) (d:=n[j]) (by simp[t]);exact⟨f,v,SqL.of e,s⟩
 ·obtain⟨f,e,r⟩:=o p h g;obtain⟨C,s,z⟩:=r.get (i:=j) (d:=n[j]) (by simp[t]);obtain⟨rfl,A⟩:=y;have w:=A f (SqL.of e);rw[s] at w;cases w;exact⟨n[j],by simp[t],z,Le.refl _,h⟩
 ·obtain⟨f,e,r⟩:=o p h g;exact⟨f,SqL.of e,XX r.length.symm⟩
theorem Cm {K:PySem.W.Frag}{a:zC} (n:ZT K H a xs) (r:zP K u H f xs):ItR K Θ u H (Itl K a) f []:=by
 refine⟨λj c S' s p l o g h=>?_,λj c S' s v z p l o g h y=>?_,λc S' s p l o g=>?_⟩
 ·obtain⟨v,q,_⟩:=r.get (i:=j) (d:=f[j]) (by simp[h]);exact⟨xs,v,(l.rol n).sq,q⟩
 ·obtain⟨A,q,w⟩:=(r.mono p l).get (i:=j) (d:=f[j]) (by simp[h]);obtain⟨rfl,x⟩:=y;have t:=x xs (l.rol n).sq;rw[q] at t;cases t;exact⟨f[j],by simp[h],w,Le.refl _,o⟩
 ·exact⟨xs,(l.rol n).sq,XX r.length.symm⟩
theorem DT {K:PySem.W.Frag}{a:zC} (n:SqT K H a xs) (r:zP K u H f xs):ItR K Θ u H (Itt K a) f []:=by
 refine⟨λj c S' s p l o g h=>?_,λj c S' s v z p l o g h y=>?_,λc S' s p l o g=>?_⟩
 ·obtain⟨v,q,_⟩:=r.get (i:=j) (d:=f[j]) (by simp[h]);exact⟨xs,v,l.sqT n,q⟩
 ·obtain⟨A,q,w⟩:=(r.mono p l).get (i:=j) (d:=f[j]) (by simp[h]);obtain⟨rfl,x⟩:=y;have t:=x xs (l.sqT n);rw[q] at t;cases t;exact⟨f[j],by simp[h],w,Le.refl _,o⟩
 ·exact⟨xs,l.sqT n,XX r.length.symm⟩
theorem fM {K:PySem.W.Frag} (ok:okT x):ItR K Θ r H (Its (ofT x)) (x.map λc=>.str [c]) []:=by
 refine⟨λj f S' o p l i g n=>?_,λj f S' o v s p l i g n y=>?_,λf S' o p l i g=>?_⟩
 ·rw[z9] at n;show j < (ofT x).length;rw[qy];exact n
 ·obtain⟨rfl,c,q,rfl⟩:=y;have h:x[j]? = some c:=by simpa [ofT] using q
  exact⟨.str [c],by rw[qG,h];rfl,⟨rfl,Km ok λd hd=>by rw[List.mem_singleton.mp hd];exact yn h⟩,Le.refl _,i⟩
 ·show (ofT x).length <= _;rw[qy,z9];exact zd _
theorem cZ {K:PySem.W.Frag}{lo hi:Int}:ItR K Θ n H (Itr lo (hi - lo).toNat) (M.j5 lo hi) []:=by
 refine⟨λj c S' i p l d g f=>?_,λj c S' i v o p l d g f y=>?_,λc S' i p l d g=>?_⟩
 ·show j < _;simpa [M.j5] using f
 ·obtain⟨rfl,rfl⟩:=y;have h:j < (hi - lo).toNat:=by simpa [M.j5] using f
  exact⟨.int (lo+j),by unfold M.j5;rw[qG,XQ h];rfl,rfl,Le.refl _,d⟩
 ·show _ <= _;simp[M.j5]
theorem w_mi_e (z:WE X Θ e m):WI X Θ tg e (M.iE m):=by
 delta WE WI at z ⊢
 exact (PI.or (Cd z) (PI.or (Eb z) (c6 z))).imp λσ H R ⟨w,t,S,st,A,h⟩=>by
  have h':zE X.K Θ _ w H (((m t S).bind M.itD).bind λp s=>if M.zW p.2 s then .ok p s else .no) R:=h;clear h;cases hm:m t S with
  | no=>rw[hm] at h';exact h'.elim
  | exc a s=>rw[hm] at h';exact .inl ⟨w,t,S,st,A,by rw[hm];exact h'⟩
  | ok d S1 =>
   rw[hm] at h';have go:∀ {Q:VK},(∀ f n v,w <+: f->Le H n->zS X.K Θ f S1 n->zL X.K f n d v->Q v n)->RdE X.K Θ m σ H Q:=λq=>⟨w,t,S,st,A,by rw[hm];exact q⟩
   cases d with
   | str x =>
    refine .inr (.inr (go λf n v p l g u=>?_));have j:zE X.K Θ _ w H ((if x.length <= M.SZ then .ok (x.map λc=>M.D.str [c],[]) S1 else M.R.no).bind λp s=>if M.zW p.2 s then .ok p s else .no) R:=h';by_cases B:x.length <= M.SZ
    ·rw[if_pos B] at j;exact⟨ofT x,u.1,j f n _ p l g (fM u.2)⟩
    ·rw[if_neg B] at j;exact j.elim
   | tup I =>
    refine .inr (.inl (go λf n v p l g u=>?_));obtain⟨a,xs,rfl,y,r⟩:=u;exact⟨a,rfl,⟨xs,y⟩,h' f n _ p l g (DT y r)⟩
   | ro I =>
    refine .inl (go λf n v p l g u=>?_);obtain⟨a,xs,rfl,y,r⟩:=u;exact⟨a,rfl,⟨xs,y.sq⟩,h' f n _ p l g (Cm y r)⟩
   | ref i =>
    have j:zE X.K Θ _ w H ((match S1[i]? with
     | some (.lst xs)=>M.R.ok (xs,[(i,M.O.lst xs)]) S1
     | _=>.no).bind λp s=>if M.zW p.2 s then .ok p s else .no) R:=h'
    cases q:S1[i]? with
    | none=>rw[q] at j;exact j.elim
    | some o =>
     rw[q] at j;cases o with
     | lst xs =>
      refine .inl (go λf n v p l g u=>?_);obtain⟨a,rfl,C⟩:=u;obtain⟨b,E,J,L,r⟩:=g.obj i _ q;rw[C] at E;cases E;have N:M.zW [(i,M.O.lst xs)] S1=true:=by simp[M.zW,q]
      have G:zE X.K Θ _ w H (if M.zW [(i,M.O.lst xs)] S1 then M.R.ok (xs,[(i,M.O.lst xs)]) S1 else .no) R:=j;rw[if_pos N] at G;exact⟨a,rfl,⟨J,SqL.of L⟩,G f n _ p l g (bZ C)⟩
     | dct kvs=>exact j.elim
     | fdc _=>exact j.elim
     | dtt _=>exact j.elim
     | ftt _=>exact j.elim
     | ins c fs=>exact j.elim
   | non=>exact h'.elim
   | bl b=>exact h'.elim
   | int b=>exact h'.elim
   | ty b=>exact h'.elim
theorem w_mi_range1 {p pos:Pos} (u:Gl X "range") (hm:X.mg "range" = none) (q:WE X Θ e m) (r:q9 e=true:=by rfl):WI X Θ tg (.Call (.Name "range" p) [e] [] pos) (M.q7 m):=by
 delta WE WI at q ⊢
 exact (Ex u hm (bJ q AZ r) (yL r)).imp λσ H R ⟨f,c,S,st,w,h⟩=>⟨f,c,S,st,w,by
   have h':zE X.K Θ _ f H (((m c S).bind λx s=>match x with
    | .int j=>if j.natAbs < 4611686018427387904 then M.R.ok (M.j5 0 j,([]:M.Gd)) s else .no
    | _=>.no).bind λp s=>if M.zW p.2 s then .ok p s else .no) R:=h
   show zE X.K Θ _ f H ((m c S).bind λx s=>(M.R.ok [] s).bind λxs s=>.ok (x::xs) s) _;cases hm:m c S with
   | no=>rw[hm] at h';exact h'.elim
   | exc a s=>rw[hm] at h';exact h'
   | ok d S1 =>
    rw[hm] at h';intro i y A p l n o;obtain⟨v,ys,rfl,o,z⟩:=o;cases z;cases d with
    | int j =>
     cases o;have g:zE X.K Θ _ f H ((if j.natAbs < 4611686018427387904 then M.R.ok (M.j5 0 j,([]:M.Gd)) S1 else .no).bind λp s=>if M.zW p.2 s then .ok p s else .no) R:=h';by_cases t:j.natAbs < 4611686018427387904
     ·rw[if_pos t] at g;refine⟨j,rfl,by lia,by lia,?_⟩;have:=g i y _ p l n (cZ (lo:=0) (hi:=j));rw[Int.sub_zero] at this;exact this
     ·rw[if_neg t] at g;exact g.elim
    | _=>exact h'.elim⟩
end
section
variable {X:Cx}{Θ:Tab}{pos:Pos}
theorem w_ms_while (hp:Xr (zI X.prog X.w) X.A X.env X.xe) (L:WT X Θ c u) (N:WSs X Θ v m):WS X Θ (.While c v [] pos) (M.Kg u m):=by
 delta WS WSs WT at L N ⊢
 exact (B7 hp L N).up λD σ H ρ C S st rp h=>by
   refine⟨λk n z=>∃ i d B,zt X.K i z d n/\zS X.K Θ i B z/\zf X.K Θ i z (M.yR k u m d B) D,⟨M.J5,ρ,C,S,st,rp,h⟩,?_⟩
   rintro k n z ⟨i,d,B,st2,E,Q⟩
   cases k with
   | zero=>exact Q.elim
   | succ k =>
    refine⟨i,d,B,st2,E,zf.stm Q λx H3 b b' G U Y y eb h3=>?_⟩;cases eb;cases b with
    | false=>exact kM (zf.nx (σ:=n) h3 y (st2.mono U Y))
    | true =>
     refine kz ⟨λj t=>∃ f l S4,zt X.K f t l j/\zS X.K Θ f S4 t/\zf X.K Θ f t (M.yR k u m l S4) D,λj t q=>⟨k,xS k,q⟩,x,d,G,st2.mono U Y,y,?_⟩;have g:zf X.K Θ x H3 (match m d G with
      | .nx σ s=>M.yR k u m σ s
      | .ct σ s=>M.yR k u m σ s
      | .bk σ s=>.nx σ s
      | r=>r) D:=h3
     revert g;cases m d G with
     | nx a s=>exact λg f t j I J o p=>⟨f,a,s,p,o,zf.weak g I J⟩
     | ct a s=>exact λg f t j I J o p=>⟨f,a,s,p,o,zf.weak g I J⟩
     | bk a s=>exact λg=>g
     | rt a s=>exact λg=>g
     | exc e a s=>exact λg=>g
     | no=>exact λg=>g
theorem YU {K:PySem.W.Frag}{D:yv} (G:ItR K Θ n I J xs l) (st:zt K n I o σ) (rp1:zS K Θ n S1 I) (hgd:M.zW l S1=true) (h2:zf K Θ n I (M.jb l (M.jO g q) xs o S1) D) :
  ∃ W:Nat->Nat->St->Hp->Prop,(∃ m,W 0 m σ I)/\∀ i m σ H,W i m σ H ->
   (J.stop i H/\D.nx σ H)\/(J.go i H/\∃ N:St->Hp->Prop,(∀ o L,N o L->∃ m',m' < m/\W (i+1) m' o L)/\∀ x L,J.yld i H x L->RdG K Θ js g x σ L λu v=>RdS K Θ q { D with nx:=N,ct:=N,bk:=D.nx } u v):=by
 refine⟨λi k u v=>∃ c j t,n <+: c/\Le I v/\zt K c v j u/\zS K Θ c t v/\M.zW l t=true/\k=xs.length - i/\i <= xs.length/\zf K Θ c v (M.jb l (M.jO g q) (xs.drop i) j t) D,
  ⟨xs.length,n,o,S1,jN _,Le.refl _,st,rp1,hgd,rfl,ZJ _,h2⟩,?_⟩
 rintro i k u v ⟨c,j,t,p2,l2,st2,z,g2,rfl,hi2,h3⟩
 by_cases A:i < xs.length
 ·refine .inr ⟨G.go i c t v p2 l2 z g2 A,λQ H3=>∃ f h B,n <+: f/\Le I H3/\zt K f H3 h Q/\zS K Θ f B H3/\M.zW l B=true/\zf K Θ f H3 (M.jb l (M.jO g q) (xs.drop (i+1)) h B) D,
   λQ H3 ⟨f,h,B,a1,a2,a3,a4,a5,a6⟩=>⟨xs.length - (i+1),by lia,f,h,B,a1,a2,a3,a4,a5,rfl,A,a6⟩,λx L y=>?_⟩
  obtain⟨d,ed,rd,ld,rpd⟩:=G.yld i c t v x L p2 l2 z g2 A y;have edr:xs.drop i=d::xs.drop (i+1):=by
   obtain⟨_,e⟩:=List.getElem?_eq_some_iff.mp ed;rw[X7 A,e]
  rw[edr] at h3;have h4:zf K Θ c v (match (match g d j with | some o=>q o t | none=>M.RS.no) with
   | .nx σ s=>if M.zW l s then M.jb l (M.jO g q) (xs.drop (i+1)) σ s else .no
   | .ct σ s=>if M.zW l s then M.jb l (M.jO g q) (xs.drop (i+1)) σ s else .no
   | .bk σ s=>.nx σ s
   | r=>r) D:=h3
  cases U:g d j with
  | none=>rw[U] at h4;exact h4.elim
  | some C =>
   rw[U] at h4;refine⟨c,j,t,d,st2.mono (jN _) ld,rpd,rd,C,U,λY Q le3 rp3 st3 _ _=>⟨c,C,t,st3,rp3,?_⟩⟩;have h5:=zf.weak h4 (jN _) (ld.trans le3);have p:zf K Θ c Y (match q C t with
    | .nx σ s=>if M.zW l s then M.jb l (M.jO g q) (xs.drop (i+1)) σ s else .no
    | .ct σ s=>if M.zW l s then M.jb l (M.jO g q) (xs.drop (i+1)) σ s else .no
    | .bk σ s=>.nx σ s
    | r=>r) D:=h5
   have more:∀ (a:M.St) (s:M.S),zf K Θ c Y (if M.zW l s then M.jb l (M.jO g q) (xs.drop (i+1)) a s else .no) D->∀ w E σ4,c <+: w->Le Y E->zS K Θ w s E->zt K w E a σ4 ->
     ∃ f h B,n <+: f/\Le I E/\zt K f E h σ4/\zS K Θ f B E/\M.zW l B=true/\zf K Θ f E (M.jb l (M.jO g q) (xs.drop (i+1)) h B) D:=λa s h7 w E σ4 p4 l4 rp4 st4=>by
    by_cases hs:M.zW l s=true
    ·rw[if_pos hs] at h7;exact⟨w,a,s,p2.trans p4,l2.trans (ld.trans (le3.trans l4)),st4,rp4,hs,zf.weak h7 p4 l4⟩
    ·rw[if_neg hs] at h7;exact h7.elim
   revert p;cases q C t with
   | nx a s=>exact λp=>more a s p
   | ct a s=>exact λp=>more a s p
   | bk a s=>exact λp=>p
   | rt a s=>exact λp=>p
   | exc e a s=>exact λp=>p
   | no=>exact λp=>p
 ·have e:i=xs.length:=by lia
  subst e;rw[B8] at h3;exact .inl ⟨G.stop c t v p2 l2 z g2,zf.nx (σ:=u) h3 z st2⟩
theorem w_ms_for (v:Xr (zI X.prog X.w) X.A X.env X.xe) (y:X.calm=true) (hi:WI X Θ tg e it) (r:WG X Θ E tg g) (t:WSs X Θ i m)
  (z:∀ x,JG e X.env x=pure x:=by intro _;rfl):WS X Θ (.For tg e i [] pos) (M.jo it g m):=by
 delta WG WI WS WSs at hi r t ⊢
 exact (YT v y hi r t z).up λD σ H j c S st B h=>⟨j,c,S,st,B,by
   have h':zf X.K Θ j H ((it c S).stm c λp s=>if M.zW p.2 s=true then M.jb p.2 (M.jO g m) p.1 c s else .no) D:=h;cases hit:it c S with
   | no=>rw[hit] at h';exact h'.elim
   | exc a s=>rw[hit] at h';exact h'
   | ok p S1 =>
    rw[hit] at h';obtain⟨xs,f⟩:=p;show zE X.K Θ _ j H (if M.zW f S1 then M.R.ok (xs,f) S1 else .no) _;have l:zf X.K Θ j H (if M.zW f S1=true then M.jb f (M.jO g m) xs c S1 else .no) D:=h';by_cases d:M.zW f S1=true
    case neg=>rw[if_neg d] at l;exact l.elim
    rw[if_pos d] at l;rw[if_pos d];intro n C J u l1 o (q:ItR X.K Θ n C J xs f);exact YU q (st.mono u l1) o d (zf.weak l u l1)⟩
theorem Gi {K:PySem.W.Frag}{js:List Nat}{S:M.S}{R:List V->Hp->Prop} (st:zt K ρ H c σ) (rp:zS K Θ ρ S H) (hj:∀ j∈js,σ.length <= j)
  (h:zE K Θ (zP K) ρ H (M.qT n it g w me c S) R) :
  RdI K Θ it σ H λJ H1=>∃ W:Nat->Nat->List V->Hp->Prop,(∃ m,W 0 m [] H1)/\∀ i m ys t,W i m ys t->ys.length <= zc /\
   ((J.stop i t/\R ys t) \/
    (J.go i t/\∀ x H3,J.yld i t x H3->RdG K Θ js g x (σ++zq n none) H3 λG H4=>Wk (σ++zq n none) G/\RdT K Θ w G H4 λb H5 =>
     if b=true then RdE K Θ me G H5 λy H6=>∃ Y,Y < m/\W (i+1) Y (ys++[y]) H6 else ∃ Y,Y < m/\W (i+1) Y ys H5)):=by
 refine⟨ρ,c,S,st,rp,?_⟩;have h':zE K Θ (zP K) ρ H ((it c S).bind λp s=>if p.1.length <= M.SZ/\M.zW p.2 s=true then M.q8 p.2 (M.qB n g w me c) p.1 s else .no) R:=h;cases hit:it c S with
 | no=>rw[hit] at h';exact h'.elim
 | exc a s=>rw[hit] at h';exact h'
 | ok p S1 =>
  rw[hit] at h';obtain⟨xs,l⟩:=p;show zE K Θ _ ρ H (if M.zW l S1 then M.R.ok (xs,l) S1 else .no) _;have h2:zE K Θ (zP K) ρ H (if xs.length <= M.SZ/\M.zW l S1=true then M.q8 l (M.qB n g w me c) xs S1 else .no) R:=h';by_cases I:xs.length <= M.SZ/\M.zW l S1=true
  case neg=>rw[if_neg I] at h2;exact h2.elim
  rw[if_pos I] at h2;rw[if_pos I.2];intro C H1 J p1 l1 rp1 (itr:ItR K Θ C H1 J xs l);refine⟨λi k ys t=>∃ f u A,C <+: f/\Le H1 t/\zS K Θ f u t/\M.zW l u=true/\zP K f t A ys/\A.length <= i/\k=xs.length - i/\i <= xs.length/\zE K Θ (zP K) f t ((M.q8 l (M.qB n g w me c) (xs.drop i) u).bind λes s=>.ok (A++es) s) R,
   ⟨xs.length,C,S1,[],jN _,Le.refl _,rp1,I.2,rfl,zd _,rfl,ZJ _,?_⟩,?_⟩
  ·have B:=zE.weak h2 p1 l1;revert B;show zE K Θ (zP K) C H1 (M.q8 l (M.qB n g w me c) xs S1) R->_;rw[vK];cases M.q8 l (M.qB n g w me c) xs S1 with
   | ok a s=>exact λB=>B
   | exc e s=>exact λB=>B
   | no=>exact λB=>B
  rintro i k ys t ⟨f,u,A,p2,l2,L,g2,N,hdl,rfl,hi2,B⟩
  refine⟨by rw[<- N.length,<- yo];lia,?_⟩;by_cases Q:i < xs.length
  ·refine .inr ⟨itr.go i f u t p2 l2 L g2 Q,λx H3 y=>?_⟩;obtain⟨d,ed,rd,ld,rpd⟩:=itr.yld i f u t x H3 p2 l2 L g2 Q y;have edr:xs.drop i=d::xs.drop (i+1):=by
    obtain⟨_,e⟩:=List.getElem?_eq_some_iff.mp ed;rw[X7 Q,e]
   rw[edr] at B;have h4:zE K Θ (zP K) f t (((match g d (c++zq n none) with
     | none=>M.R.no
     | some q=>(w q u).bind λb s=>if b then (me q s).bind λd s=>.ok (some d) s else .ok none s).bind λo s =>
      if M.zW l s then (M.q8 l (M.qB n g w me c) (xs.drop (i+1)) s).bind λys s=>.ok (match o with | some y=>y::ys | none=>ys) s else .no).bind λes s=>.ok (A++es) s) R:=B
   cases hgq:g d (c++zq n none) with
   | none=>rw[hgq] at h4;exact h4.elim
   | some q =>
    rw[hgq] at h4;refine⟨f,c++zq n none,u,d,((st.mono (p1.trans p2) (l1.trans (l2.trans ld))).more n),rpd,rd,q,hgq,λH4 G U rp4 st4 hl4 hj4=>⟨⟨hl4.symm,λj v e=>?_⟩,f,q,u,st4,rp4,?_⟩⟩
    ·by_cases hjj:j∈js
     ·rw[jP (hj j hjj),Ky] at e;split at e<;>cases e
     ·rw[hj4 j hjj];exact e
    ·have h5:=zE.weak h4 (jN _) (ld.trans U);dsimp only at h5;cases htc:w q u with
     | no=>rw[htc] at h5;exact h5.elim
     | exc a s=>rw[htc] at h5;exact h5
     | ok b S3 =>
      rw[htc] at h5;intro E H5 b' p5 l5 rp5 eb;cases eb;have next:∀ (o:Option M.D) (s:M.S) (r:List zC) (H6:Hp) (zs:List V),f <+: r->Le H4 H6->zS K Θ r s H6->zP K r H6 (match o with | some y=>A++[y] | none=>A) zs ->
        zE K Θ (zP K) r H6 ((if M.zW l s then (M.q8 l (M.qB n g w me c) (xs.drop (i+1)) s).bind λys s=>.ok (match o with | some y=>y::ys | none=>ys) s else .no).bind λes s=>.ok (A++es) s) R ->
        ∃ Y,Y < xs.length - i/\∃ f u es,C <+: f/\Le H1 H6/\zS K Θ f u H6/\M.zW l u=true/\zP K f H6 es zs/\es.length <= i+1/\Y=xs.length - (i+1)/\i+1 <= xs.length /\
         zE K Θ (zP K) f H6 ((M.q8 l (M.qB n g w me c) (xs.drop (i+1)) u).bind λfs s=>.ok (es++fs) s) R:=λo s r H6 zs p6 l6 rp6 rz z=>by
       by_cases hs:M.zW l s=true
       case neg=>rw[if_neg hs] at z;exact z.elim
       rw[if_pos hs] at z;refine⟨xs.length - (i+1),by lia,r,s,_,p2.trans p6,l2.trans (ld.trans (U.trans l6)),rp6,hs,rz,?_,rfl,Q,?_⟩
       ·cases o<;>simp<;>lia
       ·revert z;cases M.q8 l (M.qB n g w me c) (xs.drop (i+1)) s with
        | ok a s2 =>
         intro z;cases o with
         | none=>exact z
         | some y =>
          show zE K Θ (zP K) r H6 (.ok (A++[y]++a) s2) R;rw[jg];exact z
        | exc e s=>exact λz=>z
        | no=>exact λz=>z
      cases b with
      | false=>exact kM (next none S3 E H5 ys p5 l5 rp5 (N.mono p5 (ld.trans (U.trans l5))) (zE.weak h5 p5 l5))
      | true =>
       refine kz ⟨E,q,S3,st4.mono p5 l5,rp5,?_⟩;have z:=zE.weak h5 p5 l5;cases hme:me q S3 with
       | no =>
        have h7:zE K Θ (zP K) E H5 ((((me q S3).bind λd s=>M.R.ok (some d) s).bind λo s=>if M.zW l s then (M.q8 l (M.qB n g w me c) (xs.drop (i+1)) s).bind λys s=>.ok (match o with | some y=>y::ys | none=>ys) s else .no).bind λes s=>.ok (A++es) s) R:=z;rw[hme] at h7;exact h7.elim
       | exc a s =>
        have h7:zE K Θ (zP K) E H5 ((((me q S3).bind λd s=>M.R.ok (some d) s).bind λo s=>if M.zW l s then (M.q8 l (M.qB n g w me c) (xs.drop (i+1)) s).bind λys s=>.ok (match o with | some y=>y::ys | none=>ys) s else .no).bind λes s=>.ok (A++es) s) R:=z;rw[hme] at h7;exact h7
       | ok y S6 =>
        have h7:zE K Θ (zP K) E H5 ((((me q S3).bind λd s=>M.R.ok (some d) s).bind λo s=>if M.zW l s then (M.q8 l (M.qB n g w me c) (xs.drop (i+1)) s).bind λys s=>.ok (match o with | some y=>y::ys | none=>ys) s else .no).bind λes s=>.ok (A++es) s) R:=z;rw[hme] at h7;intro r H6 v p6 l6 rp6 rv;exact next (some y) S6 r H6 (ys++[v]) (p5.trans p6) (l5.trans l6) rp6 ((N.mono (p5.trans p6) (ld.trans (U.trans (l5.trans l6)))).app ⟨v,[],rfl,rv,rfl⟩) (zE.weak h7 p6 l6)
  ·have e:i=xs.length:=by lia
   subst e;rw[B8] at B;refine .inl ⟨itr.stop f u t p2 l2 L g2,?_⟩;have h4:zE K Θ (zP K) f t (.ok (A++[]) u) R:=B;rw[ZS] at h4;exact h4.here L N
end
end L2
namespace L2
open PySem PySem.Spec PyProof.Rows
section
variable {X:Cx}{Θ:Tab}{pos:Pos}{vars:List Str}{scope:ZZ}{cl:List (Str×zC)}{tg elt iter:zQ}{ifs:List zQ}{it:M.IM}{g:M.GM}{js:List Nat}{tc:M.TM}{me:M.EM}
theorem Y0 (I:Inv X e σ H s) (l:∀ j∈js,X.N.length <= j) {S:M.S} (st:zt X.K f H c σ) (m:zS X.K Θ f S H) {Q:VK}
  (h:zE X.K Θ (zP X.K) f H (M.qT n it g tc me c S) λys i=>∀ D,i D=none->Q (.ref D) (upd i D (.lst ys))) :
  Ye n (RdI X.K Θ it) (RdG X.K Θ js g) (RdT X.K Θ tc) (RdE X.K Θ me) σ H Q:=Gi st m (λj d=>by rw[I.len];exact l j d) h
theorem w_me_comp (p:X.calm=true) (C:yd X vars scope cl) (hi:WI X Θ tg iter it) (n:∀ C e c d,WG (jT X vars scope cl C e c d) Θ js tg g) (q:∀ C e c d,Zp (jT X vars scope cl C e c d) ifs (RdT X.K Θ tc))
  (o:∀ C e c d,WE (jT X vars scope cl C e c d) Θ elt me) (i:(js.all λj=>decide (X.N.length <= j))=true) (r:∀ x,JG iter X.env x=pure x:=by intro _;rfl):WE X Θ (.ListComp elt [⟨tg,iter,ifs,0⟩] scope pos) (M.qi vars.length it g tc me):=by
 delta WE WG WI at hi n o ⊢
 intro f s σ H Q I ⟨B,t,S,st,u,h⟩;have v:∀ j∈js,X.N.length <= j:=λj l=>of_decide_eq_true (List.all_eq_true.mp i j l);exact ae p C hi n q o r f s σ H Q I (Y0 I v st u (zE.bind h λw E G ys S1 J l1 m y z D A=>z.alloc m y A))
theorem w_ms_setcomp {i:Nat}{y:Str}{A l:Pos} (U:X.calm=true) (C:yd X vars scope cl) (Y:X.N.Nodup) (r:X.N[i]? = some y) (hy:Loc X.env.scope y) (hi:WI X Θ tg iter it) (B:∀ C n c e,WG (jT X vars scope cl C n c e) Θ js tg g) (ht:∀ C n c e,Zp (jT X vars scope cl C n c e) ifs (RdT X.K Θ tc))
  (G:∀ C n c e,WE (jT X vars scope cl C n c e) Θ elt me) (t:(js.all λj=>decide (X.N.length <= j))=true) (hs:∀ x,JG iter X.env x=pure x:=by intro _;rfl)
  (u:Q3 (.ListComp elt [⟨tg,iter,ifs,0⟩] scope pos) (some (.Name y A)) l.line X.env=pure true:=by rfl)
  (hf:X.fn y=true\/X.env.scope.names.lookup y=some .local:=by first | exact .inl rfl | exact .inr rfl | assumption) :
  WS X Θ (.Assign [.Name y A] (.ListComp elt [⟨tg,iter,ifs,0⟩] scope pos) l) (M.zU i (M.qi vars.length it g tc me)):=by
 delta WE WG WI WS at hi B G ⊢
 intro o s σ H D I ⟨v,f,S,st,rp,h⟩;have hj:∀ j∈js,X.N.length <= j:=λj w=>of_decide_eq_true (List.all_eq_true.mp t j w);refine ET U C Y r hy hi B ht G hs u hf o s σ H D I (Y0 I hj st rp ?_);have h':zf X.K Θ v H (((M.qT vars.length it g tc me f S).bind λys s=>M.alloc (.lst ys) s).stm f λd s=>.nx (f.set i (some d)) s) D:=h;cases hm:M.qT vars.length it g tc me f S with
 | no=>rw[hm] at h';exact h'.elim
 | exc a s=>rw[hm] at h';exact (show yl X.K Θ v H a s from h')
 | ok J S1 =>
  rw[hm] at h';intro m L ys Q l1 p r1 E q;have h2:zf X.K Θ v H (.nx (f.set i (some (.ref S1.length))) (S1++[.lst J])) D:=h';have z:zS X.K Θ (m++[E]) (S1++[.lst J]) (upd L E (.lst ys)):=p.alloc q ⟨ys,ju,r1.mono (Zc _ _) (Le.new q _)⟩;exact h2 (m++[E]) _ _ (Q.trans (Zc _ _)) (l1.trans (Le.new q _)) z (((st.mono Q l1).mono (Zc _ _) (Le.new q _)).set (show zL X.K (m++[E]) (upd L E (.lst ys)) (.ref S1.length) (.ref E) from ⟨E,rfl,by rw[<- p.len];simp⟩) i)
theorem w_me_joinC {y:M.T}{z:Str}{j:Nat}{p e f:Pos} (hz:z=ofT y) (B:X.calm=true) (C:yd X vars scope cl) (hi:WI X Θ tg iter it) (w:∀ C l c d,WG (jT X vars scope cl C l c d) Θ js tg g) (E:∀ C l c d,Zp (jT X vars scope cl C l c d) ifs (RdT X.K Θ tc))
  (A:∀ C l c d,WE (jT X vars scope cl C l c d) Θ elt me) (q:(js.all λj=>decide (X.N.length <= j))=true) (ad:∀ n H S o ys p Q,zS X.K Θ n S H->zP X.K n H o ys->SqL X.K H p ys->zE X.K Θ (zL X.K) n H (M.Qm y o S) Q->Vj X.K (.str (ofT y)) [.ref p] H Q) (G:∀ x,JG iter X.env x=pure x:=by intro _;rfl)
  (i:(e.endLine == f.line)=true:=by rfl)
  :
  WE X Θ (.Call (.Attribute (.Constant (.str z) j p) "join" e) [.ListComp elt [⟨tg,iter,ifs,0⟩] scope pos] [] f) (M.aS (M.Qm y) vars.length it g tc me):=by
 delta WE WG WI at hi w A ⊢
 intro m s σ H Q I ⟨n,J,S,st,L,h⟩;have U:∀ j∈js,X.N.length <= j:=λj r=>of_decide_eq_true (List.all_eq_true.mp q j r);subst hz;refine AC PySem.F.plainAttrs_str PySem.F.slot_str_join PySem.F.type_str_join fu U8 (wC (ae (g:=RdG X.K Θ js g) (ti:=RdT X.K Θ tc) (te:=RdE X.K Θ me) B C hi w E A G) UP (yL rfl)) rfl (aO rfl (show 1 < 30 by decide)) i (yL rfl) rfl m s σ H Q I ?_;refine⟨rfl,Y0 I U st L (zE.bind h λt H1 o ys S1 p1 l1 u Y h1 D v=>?_)⟩;exact ad t _ S1 o ys D Q (u.aside v _) (Y.mono (jN _) (Le.new v _)) (SqL.of ju) (zE.weak h1 (jN _) (Le.new v _))
end
def SpM (K:PySem.W.Frag) (e:Tab) (n:Nat) (f:M.F):Sp:=λg H Q _=>∃ c d S,d.length=n/\zP K c H d g/\zS K e c S H/\zE K e (zL K) c H (f d S) Q
def Ka (m:M.AM) (n:Nat):Prop:=∀ σ s xs c,m σ s=.ok xs c->xs.length=n
theorem jq:Ka M.zF 0:=λσ s xs c h=>by cases h;rfl
theorem zr {a:M.EM} (h:Ka r n):Ka (M.zD a r) (n+1):=λσ s xs i e=>by
 have c:((a σ s).bind λx s=>(r σ s).bind λxs s=>M.R.ok (x::xs) s)=.ok xs i:=e;cases ha:a σ s with
 | no=>rw[ha] at c;cases c
 | exc a s=>rw[ha] at c;cases c
 | ok d S1 =>
  rw[ha] at c;have f:((r σ S1).bind λxs s=>M.R.ok (d::xs) s)=.ok xs i:=c;cases g:r σ S1 with
  | no=>rw[g] at f;cases f
  | exc a s=>rw[g] at f;cases f
  | ok j l =>
   rw[g] at f;cases f;rw[jU,h _ _ _ _ g]
section
variable {X:Cx}{Θ:Tab}{pos p:Pos}{x:Str}{ps:List Str}{e:zQ}{es:List zQ}{f:M.F}{m:M.AM}{k kk n:Nat}
theorem w_me_call (h:Has X.prog X.w X.K X.mg X.base x k ps (SpM X.K Θ n f)) (o:zx kk X.A) (q:k <= kk) (r:Gl X x) (ha:WA X Θ (e::es) m) (ar:Ka m n) (t:X0 CX0 X E0:=by exact UW) (d:(x == ("__debug__" : Str))=false:=by decide)
  (u:q9 e=true:=by rfl) (g:es.all q9=true:=by rfl):WE X Θ (.Call (.Name x p) (e::es) [] pos) (M.zM f m):=by
 delta WA WE at ha ⊢
 exact (d7 h o q r ha t d (yL u) (kj g)).up λσ H Q l c S st v h=>⟨l,c,S,st,v,by
   have h':zE X.K Θ (zL X.K) l H ((m c S).bind λxs s=>f xs s) Q:=h;cases hm:m c S with
   | no=>rw[hm] at h';exact h'.elim
   | exc a s=>rw[hm] at h';exact h'
   | ok y S1 =>
    rw[hm] at h';intro i C E z l1 j B;rw[ZS];exact⟨i,y,S1,ar _ _ _ _ hm,B,j,zE.weak h' z l1⟩⟩
end
theorem UD:∀ {n:Nat}{d:M.D},M.kyD n (M.D.ren e d)=true->M.D.ren e d=d:=by
 intro n
 induction n with
 | zero=>intro d h;cases d<;>first | rfl | cases h
 | succ n i =>
  intro d h;cases d with
  | tup c =>
   show M.D.tup (M.D.ren.all e c)=_;have h':(M.D.ren.all e c).all (M.kyD n)=true:=h;have:∀ c:List M.D,(M.D.ren.all e c).all (M.kyD n)=true->M.D.ren.all e c=c:=by
    intro c
    induction c with
    | nil=>intro _;rfl
    | cons d c f =>
     intro h;have g:(M.kyD n (M.D.ren e d) && (M.D.ren.all e c).all (M.kyD n))=true:=h;rw[jl] at g;show M.D.ren e d::M.D.ren.all e c=_;rw[i g.1,f g.2]
   rw[this c h']
  | _=>first | rfl | cases h
section
variable {K:PySem.W.Frag}{Θ:Tab}{ρ ρ':List zC}{H:Hp}{e:List Nat}
mutual
theorem zL.unren (f:∀ (i j:Nat) a,e[i]? = some j->ρ[j]? = some a->ρ'[i]? = some a):∀ {d:M.D}{v:V},M.D.cl e.length d=true->zL K ρ H (M.D.ren e d) v->zL K ρ' H d v
 | .non,_,_,h=>h
 | .bl _,_,_,h=>h
 | .int _,_,_,h=>h
 | .str _,_,_,h=>h
 | .ty _,_,_,h=>h
 | .ref i,_,c,⟨a,g,l⟩=>by
  have hi:i < e.length:=of_decide_eq_true c;refine⟨a,g,f i (e.getD i i) a ?_ l⟩;rw[yC,ZL hi];rfl
 | .tup _,_,c,⟨a,xs,g,l,m⟩=>⟨a,xs,g,l,zP.unren f c m⟩
 | .ro _,_,c,⟨a,xs,g,l,m⟩=>⟨a,xs,g,l,zP.unren f c m⟩
theorem zP.unren (f:∀ (i j:Nat) a,e[i]? = some j->ρ[j]? = some a->ρ'[i]? = some a):∀ {g:List M.D}{xs:List V},M.D.cl.all e.length g=true->zP K ρ H (M.D.ren.all e g) xs->zP K ρ' H g xs
 | [],_,_,h=>h
 | d::g,_,c,⟨y,ys,m,n,o⟩=>by
  have l:(M.D.cl e.length d && M.D.cl.all e.length g)=true:=c;rw[jl] at l;exact⟨y,ys,m,zL.unren f l.1 n,zP.unren f l.2 o⟩
end
theorem ObR.unren (m:∀ (i j:Nat) a,e[i]? = some j->Q[j]? = some a->B[i]? = some a) {a:zC} (c:M.O.cl e.length o=true) (h:ObR K U Q H a (M.O.ren e o)):ObR K U B H a o:=by
 cases o with
 | lst ds=>obtain⟨xs,n,g⟩:=h;exact⟨xs,n,zP.unren m c g⟩
 | dct kvs =>
  obtain⟨ks,n,g⟩:=h;refine⟨ks,n,?_⟩;have l:∀ p∈kvs,(M.D.cl e.length p.1 && M.D.cl e.length p.2)=true:=List.all_eq_true.mp c;clear n;revert g l;clear c
  induction kvs generalizing ks with
  | nil=>intro g l;cases g;exact .nil
  | cons p kvs t =>
   intro g l;rw[jF] at g;cases g with
   | cons s u =>
    have r:=l p jI;rw[jl] at r;refine .cons ⟨?_,zL.unren m r.2 s.2⟩ (t _ u (λq w=>l q (jV _ w)));have x:=s.1;revert x;cases p.1<;>exact λx=>x
 | fdc kvs =>
  obtain⟨o,ks,n,g⟩:=h;refine⟨o,ks,n,?_⟩;have l:∀ p∈kvs,(M.D.cl e.length p.1 && M.D.cl e.length p.2)=true:=List.all_eq_true.mp c;clear n;revert g l;clear c
  induction kvs generalizing ks with
  | nil=>intro g l;cases g;exact .nil
  | cons p kvs t =>
   intro g l;rw[jF] at g;cases g with
   | cons s u =>
    have r:=l p jI;rw[jl] at r;refine .cons ⟨?_,zL.unren m r.2 s.2⟩ (t _ u (λq w=>l q (jV _ w)));have x:=s.1;revert x;cases p.1<;>exact λx=>x
 | dtt kvs =>
  obtain⟨xs,n,g⟩:=h;refine⟨xs,n,?_⟩;have l:∀ p∈kvs,(M.D.cl e.length p.1 && M.D.cl e.length p.2)=true:=List.all_eq_true.mp c;clear n;revert g l;clear c
  induction kvs generalizing xs with
  | nil=>intro g l;cases g;exact .nil
  | cons p kvs t =>
   intro g l;rw[jF] at g;cases g with
   | cons s u =>
    have r:=l p jI;rw[jl] at r;obtain⟨z,y,E,v,G,I⟩:=s;have J:=UD y;rw[J] at z y;exact .cons ⟨z,y,zL.unren m r.1 E,v,zL.unren m r.2 G,I⟩ (t _ u (λq w=>l q (jV _ w)))
 | ftt kvs =>
  obtain⟨o,xs,n,g⟩:=h;refine⟨o,xs,n,?_⟩;have l:∀ p∈kvs,(M.D.cl e.length p.1 && M.D.cl e.length p.2)=true:=List.all_eq_true.mp c;clear n;revert g l;clear c
  induction kvs generalizing xs with
  | nil=>intro g l;cases g;exact .nil
  | cons p kvs t =>
   intro g l;rw[jF] at g;cases g with
   | cons s u =>
    have r:=l p jI;rw[jl] at r;obtain⟨z,y,E,v,G,I⟩:=s;have J:=UD y;rw[J] at z y;exact .cons ⟨z,y,zL.unren m r.1 E,v,zL.unren m r.2 G,I⟩ (t _ u (λq w=>l q (jV _ w)))
 | ins cc fs =>
  obtain⟨C,Y,gs,N,n,g,A⟩:=h;refine⟨C,Y,gs,N,n,g,by rw[<- A.len];simp,A.nd,A.within,λi f d q1 L=>?_⟩;obtain⟨v,k1,k2⟩:=A.get i f (M.D.ren e d) q1 (by rw[qG,L];rfl);refine⟨v,k1,zL.unren m ?_ k2⟩;have:=List.all_eq_true.mp c (some d) (yn L);exact this
theorem zE.gc {S:M.S}{Q:VK} (m:M.Emb S.length e S' S1) (z:M.D.cl S'.length d=true) (A:zS K w y S H) (h:zE K w (zL K) y H (.ok d S') Q):zE K w (zL K) y H (.ok (M.D.ren e d) S1) Q:=by
 intro c B v C l1 n E;have f:∀ {i j:Nat},e[i]? = some j->j < c.length:=λ{i j} q=>by
  have hi:i < S'.length:=by rw[<- m.len];exact (List.getElem?_eq_some_iff.mp q).1
  obtain⟨Y,p,t,_⟩:=m.obj i S'[i] (by simp[hi]);rw[q] at p;cases p;rw[n.len];exact (List.getElem?_eq_some_iff.mp t).1
 have g:∀ (i j:Nat) a,e[i]? = some j->c[j]? = some a->(e.map λj=>c.getD j 0)[i]? = some a:=λi j a p t=>by
  rw[qG,p,xp,yC,t];rfl
 refine h (e.map λj=>c.getD j 0) B v ?_ l1 ⟨by rw[z9,m.len],?_,λi o q=>?_⟩ (zL.unren g (by rw[m.len];exact z) E)
 ·refine List.prefix_iff_getElem?.mpr λi hi=>?_;have u:i < S.length:=A.len ▸ hi;exact g i i _ (m.old i u) (xV C (ZL hi))
 ·refine Dg λi j x a b=>?_;rw[qG] at a b;cases r:e[i]? with
  | none=>rw[r] at a;cases a
  | some k =>
   cases s:e[j]? with
   | none=>rw[s] at b;cases b
   | some l =>
    rw[r,xp,yC,ZL (f r)] at a;rw[s,xp,yC,ZL (f s)] at b;have G:c[k]'(f r)=x:=by simpa using a
    have I:c[l]'(f s)=x:=by simpa using b
    have J:=eR n.nd (f r) (f s) (G.trans I.symm);subst J;exact Ks m.nd r s
 ·obtain⟨j,p,t,L⟩:=m.obj i o q;obtain⟨a,N,U⟩:=n.obj j _ t;exact⟨a,g i j a p N,ObR.unren g (by rw[m.len];exact L) U⟩
end
section
variable {K:PySem.W.Frag}{Θ:Tab}{ρ:List zC}{H:Hp}
mutual
theorem zL.cl:∀ {d:M.D}{v:V},zL K ρ H d v->M.D.cl ρ.length d=true
 | .non,_,_=>rfl
 | .bl _,_,_=>rfl
 | .int _,_,_=>rfl
 | .str _,_,_=>rfl
 | .ty _,_,_=>rfl
 | .ref _,_,⟨a,_,c⟩=>decide_eq_true (List.getElem?_eq_some_iff.mp c).1
 | .tup _,_,⟨_,_,_,_,h⟩=>zP.cl h
 | .ro _,_,⟨_,_,_,_,h⟩=>zP.cl h
theorem zP.cl:∀ {c:List M.D}{xs:List V},zP K ρ H c xs->M.D.cl.all ρ.length c=true
 | [],_,_=>rfl
 | d::c,_,⟨_,_,_,e,f⟩=>by
  show (M.D.cl ρ.length d && M.D.cl.all ρ.length c)=true;rw[zL.cl e,zP.cl f];rfl
end
theorem zS.cl {S:M.S} (u:zS K G f S H):M.clS S.length S=true:=by
 refine List.all_eq_true.mpr λo x=>?_;obtain⟨i,hi,rfl⟩:=List.mem_iff_getElem.mp x;obtain⟨a,I,y⟩:=u.obj i S[i] (by simp[hi]);rw[<- u.len];revert y;cases S[i] with
 | lst J=>exact λ⟨xs,_,r⟩=>r.cl
 | dct kvs =>
  intro ⟨ks,_,r⟩;refine List.all_eq_true.mpr λp e=>?_;have:∀ {kvs:List (M.D×M.D)}{ks:List (Key×V)},Paired (λ(p:M.D×M.D) (q:Key×V)=>qW p.1 q.1/\zL K f H p.2 q.2) kvs ks->p∈kvs->(M.D.cl f.length p.1 && M.D.cl f.length p.2)=true:=by
   intro kvs ks r e
   induction r with
   | nil=>cases e
   | cons g m h =>
    rcases List.mem_cons.mp e with rfl | e
    ·rw[g.2.cl,Yn];have l:=g.1;revert l;cases p.1<;>first | exact λ_=>rfl | exact λl=>l.elim
    ·exact h e
  exact this r e
 | fdc kvs =>
  intro ⟨_,ks,_,r⟩;refine List.all_eq_true.mpr λp e=>?_;have:∀ {kvs:List (M.D×M.D)}{ks:List (Key×V)},Paired (λ(p:M.D×M.D) (q:Key×V)=>qW p.1 q.1/\zL K f H p.2 q.2) kvs ks->p∈kvs->(M.D.cl f.length p.1 && M.D.cl f.length p.2)=true:=by
   intro kvs ks r e
   induction r with
   | nil=>cases e
   | cons g m h =>
    rcases List.mem_cons.mp e with rfl | e
    ·rw[g.2.cl,Yn];have l:=g.1;revert l;cases p.1<;>first | exact λ_=>rfl | exact λl=>l.elim
    ·exact h e
  exact this r e
 | dtt kvs =>
  intro ⟨xs,_,r⟩;refine List.all_eq_true.mpr λp e=>?_;have:∀ {kvs:List (M.D×M.D)}{xs:List (M.D×zC×zB)},Paired (TDr K f H) kvs xs->p∈kvs->(M.D.cl f.length p.1 && M.D.cl f.length p.2)=true:=by
   intro kvs xs r e
   induction r with
   | nil=>cases e
   | cons g m h =>
    rcases List.mem_cons.mp e with rfl | e
    ·obtain⟨_,_,n,v,s,_⟩:=g;rw[n.cl,s.cl];rfl
    ·exact h e
  exact this r e
 | ftt kvs =>
  intro ⟨o,xs,_,r⟩;refine List.all_eq_true.mpr λp e=>?_;have:∀ {kvs:List (M.D×M.D)}{xs:List (M.D×zC×zB)},Paired (TDr K f H) kvs xs->p∈kvs->(M.D.cl f.length p.1 && M.D.cl f.length p.2)=true:=by
   intro kvs xs r e
   induction r with
   | nil=>cases e
   | cons g m h =>
    rcases List.mem_cons.mp e with rfl | e
    ·obtain⟨_,_,n,v,s,_⟩:=g;rw[n.cl,s.cl];rfl
    ·exact h e
  exact this r e
 | ins c fs =>
  intro ⟨C,L,Q,N,_,_,r⟩;refine List.all_eq_true.mpr λz t=>?_;cases z with
  | none=>rfl
  | some d =>
   obtain⟨j,w,A⟩:=List.mem_iff_getElem.mp t;have B:j < N.length:=r.len ▸ w;obtain⟨v,_,E⟩:=r.get j N[j] d (by simp[B]) (by rw[ZL w,A]);exact E.cl
end
section
variable {P:zi}{w:zy}{K:PySem.W.Frag}{mg:Str->Option zB}{base:zT}{Θ:Tab}
theorem WM (r:zP K f H c g) (N:List Str):zt K f H (c.map some++zq (N.length - c.length) none) (start N g):=by
 have h:=r.length;refine⟨by simp[start,h],λi d q=>?_⟩;unfold start;by_cases hi:i < c.length
 ·rw[qF (by simpa using hi),qG] at q;cases e:c[i]? with
  | none=>rw[e] at q;cases q
  | some d' =>
   rw[e] at q;cases q;obtain⟨v,j,l⟩:=r.get e;refine⟨v,?_,l⟩;rw[qF (by simp;lia),qG,j];rfl
 ·rw[jP (by simp;lia),Ky] at q;split at q<;>cases q
theorem Fl {st:zh}{k:Nat}{b:M.SM} (F:Fun K x qual st f fd) (y:qO N ps (z3 st)) (z:M.j3 ps.length (M.fn N.length b) q)
  (j:∀ (g:zB) (A:jh) (outer:List Env) (s:zG) (H:Hp) (E:XK),zx k (A.deeper (ZM qual (z3 st) s.heap.objs.size f g)) ->
   MSs (Ze CX0 P w K mg base N qual (z3 st) f g A outer s H E).nox Θ (qm st) b):jc P w K mg base CX0 (k+1) f fd ps (SpM K Θ ps.length q):=by
 refine F.ok (k:=k) y (λB H Q E h=>?_) (λg A outer s H B Q E C h=>?_)
 ·obtain⟨m,i,S,n,r,_⟩:=h;rw[<- r.length,n]
 ·obtain⟨m,i,S,n,r,l,h⟩:=h;refine⟨_,j g A outer s H E C,m,_,S,WM r N,l,?_⟩;rcases z i S n l.cl (l.len ▸ r.cl) with e | ⟨d,S',S1,v,G,I,o,J⟩
  ·rw[e] at h;exact h.elim
  ·rw[G] at h;have p:=zE.gc o J l h;have c:(b (i.map some++zq (N.length - i.length) none) S).out=.ok (M.D.ren v d) S1:=I;show zf K Θ m H (b (i.map some++zq (N.length - i.length) none) S) _;revert c;cases b (i.map some++zq (N.length - i.length) none) S with
   | rt a s=>intro c;cases c;exact p
   | nx a s =>
    intro c;have L:M.R.ok M.D.non s=.ok (M.D.ren v d) S1:=c;injection L with U Y;subst Y;rw[<- U] at p;exact λt H1 σ1 p1 l1 u _=>p t H1 .non p1 l1 u rfl
   | bk a s=>intro c;cases c
   | ct a s=>intro c;cases c
   | exc e a s=>intro c;cases c
   | no=>intro c;cases c
theorem w_fun_M {st:zh}{k:Nat}{b:M.SM} (F:Fun K x qual st f fd) (e:qO N ps (z3 st)) (g:M.j3 ps.length (M.fn N.length b) q)
  (c:∀ (d:zB) (A:jh) (outer:List Env) (s:zG) (H:Hp) (E:XK),zx k (A.deeper (ZM qual (z3 st) s.heap.objs.size f d)) ->
   WSs (Ze CX0 P w K mg base N qual (z3 st) f d A outer s H E).nox Θ (qm st) b):jc P w K mg base CX0 (k+1) f fd ps (SpM K Θ ps.length q):=by with_unfolding_all exact Fl (x:=x) (qual:=qual) (st:=st) (f:=f) (fd:=fd) (N:=N) (ps:=ps) (k:=k) (b:=b) (q:=q) F e g c
end
end L2
namespace L2
open PySem PySem.Spec PyProof.Rows
section
variable {K:PySem.W.Frag}{Θ:Tab}
theorem YP:Ad2 K Θ M.k5 AL:=by
 intro d H S x y X Y Q c rx ry h;cases x with
 | int i =>
  cases y with
  | int j=>cases rx;cases ry;exact zE.here (b:=V.int (i - j)) h c rfl
  | _=>exact h.elim
 | _=>exact h.elim
theorem bI (h:M.qg i=true):-(2 ^ 64) < i/\i < 2 ^ 64:=by
 have h':i.natAbs < 18446744073709551616:=of_decide_eq_true h;exact⟨by lia,by lia⟩
theorem Qy:Ad2 K Θ M.yU Wl:=by
 intro d H S x y X Y Q e rx ry h;cases x with
 | int i =>
  cases y with
  | int j =>
   cases rx;cases ry;have h':zE K Θ (zL K) d H (if 0 < j/\j.natAbs < 1073741824 then M.R.ok (M.D.int (i / j)) S else .no) Q:=h;by_cases c:0 < j/\j.natAbs < 1073741824
   ·rw[if_pos c] at h';exact⟨⟨c.1,by lia⟩,zE.here (b:=V.int (i / j)) h' e rfl⟩
   ·rw[if_neg c] at h';exact h'.elim
  | _=>exact h.elim
 | _=>exact h.elim
theorem jz:Ad2 K Θ M.z5 A0:=by
 intro d H S x y X Y Q e rx ry h;cases x with
 | int i =>
  cases y with
  | int j =>
   cases rx;cases ry;have h':zE K Θ (zL K) d H (if 0 < j then M.R.ok (M.D.int (i % j)) S else .no) Q:=h;by_cases c:0 < j
   ·rw[if_pos c] at h';exact⟨c,zE.here (b:=V.int (i % j)) h' e rfl⟩
   ·rw[if_neg c] at h';exact h'.elim
  | _=>exact h.elim
 | _=>exact h.elim
theorem Z8 {S:M.S} (f:zS K Θ d S H) {i:Nat}{a:zC} (ha:d[i]? = some a) {xs:List M.D} (q:S[i]? = some (.lst xs)):∃ c,H a=some (.lst c)/\zP K d H xs c:=by
 obtain⟨b,e,c,g,r⟩:=f.obj i _ q;rw[ha] at e;cases e;exact⟨c,g,r⟩
theorem qe:Ad2 K Θ M.z8 (λx y H Q=>US x y H Q\/Um K x y H Q):=by
 intro f H S x y X Y Q d rx ry h;cases x with
 | int i =>
  cases y with
  | int j=>cases rx;cases ry;exact .inl (zE.here (b:=V.int (i+j)) h d rfl)
  | _=>exact h.elim
 | str a =>
  cases y with
  | str b =>
   obtain⟨rfl,g⟩:=rx;obtain⟨rfl,m⟩:=ry;have h':zE K Θ (zL K) f H (if a.length+b.length <= M.SZ then M.R.ok (M.D.str (a++b)) S else .no) Q:=h;by_cases c:a.length+b.length <= M.SZ
   ·rw[if_pos c] at h';refine .inl ⟨by rw[qy,qy,<- yo];exact c,?_⟩;rw[Uz];exact zE.here (b:=V.str (ofT (a++b))) h' d ⟨rfl,VB g m⟩
   ·rw[if_neg c] at h';exact h'.elim
  | _=>exact h.elim
 | tup a =>
  cases y with
  | tup b =>
   obtain⟨l,xs,rfl,q,r⟩:=rx;obtain⟨v,ys,rfl,n,o⟩:=ry;have h':zE K Θ (zL K) f H (if a≠[]/\a.length+b.length <= M.SZ then M.R.ok (M.D.tup (a++b)) S else .no) Q:=h;by_cases c:a≠[]/\a.length+b.length <= M.SZ
   ·rw[if_pos c] at h';refine .inr ⟨l,v,xs,ys,rfl,rfl,q,n,λz=>c.1 ?_,by rw[<- r.length,<- o.length,<- yo];exact c.2,λs=>?_,λs p e=>?_⟩
    ·subst z;have:=r.length;exact List.length_eq_zero_iff.mp this
    ·subst s;have w:b=[]:=List.length_eq_zero_iff.mp o.length;subst w;rw[ZS] at h';exact zE.here h' d ⟨l,xs,rfl,q,r⟩
    ·exact h' f _ _ (jN _) (Le.new e _) (d.aside e _) ⟨p,_,rfl,SqT.of ju,(r.app o).mono (jN _) (Le.new e _)⟩
   ·rw[if_neg c] at h';exact h'.elim
  | _=>exact h.elim
 | ref i =>
  cases y with
  | ref j =>
   obtain⟨a,rfl,A⟩:=rx;obtain⟨b,rfl,B⟩:=ry;have h':zE K Θ (zL K) f H (match S[i]?,S[j]? with
    | some (.lst xs),some (.lst ys)=>if xs.length+ys.length <= M.SZ then M.alloc (.lst (xs++ys)) S else .no
    | _,_=>.no) Q:=h
   split at h'
   ·rename_i xs ys C E;obtain⟨G,I,t⟩:=Z8 d A C;obtain⟨J,L,u⟩:=Z8 d B E;by_cases c:xs.length+ys.length <= M.SZ
    ·rw[if_pos c] at h';exact .inl ⟨G,J,I,L,by rw[<- t.length,<- u.length,<- yo];exact c,λp e=>h'.alloc d (t.app u) e⟩
    ·rw[if_neg c] at h';exact h'.elim
   ·exact h'.elim
  | _=>exact h.elim
 | _=>exact h.elim
theorem BH:Ad1 K Θ M.vI (rU λi=>.int (-i)):=by
 intro d H S x X Q c rx h;cases x with
 | int i=>cases rx;exact⟨i,rfl,zE.here (b:=V.int (-i)) h c rfl⟩
 | _=>exact h.elim
theorem GJ:AdC K Θ M.cLt uLt:=by
 intro d H S x y X Y Q c rx ry h;cases x with
 | int i =>
  cases y with
  | int j=>cases rx;cases ry;exact zE.here (b:=decide (i < j)) h c rfl
  | _=>exact h.elim
 | str a =>
  cases y with
  | str b =>
   obtain⟨rfl,_⟩:=rx;obtain⟨rfl,_⟩:=ry;show Q (.bl (decide ((ofT a).cps.toList < (ofT b).cps.toList))) H;rw[J6,J6];exact zE.here (b:=decide (a < b)) h c rfl
  | _=>exact h.elim
 | _=>exact h.elim
theorem vf:AdC K Θ M.cGt uGt:=by
 intro d H S x y X Y Q c rx ry h;cases x with
 | int i =>
  cases y with
  | int j=>cases rx;cases ry;exact zE.here (b:=decide (j < i)) h c rfl
  | _=>exact h.elim
 | _=>exact h.elim
theorem Yd {d:M.D} (r:zP K f H c xs) (e:M.atI c i=some d):∃ v,atI xs i=some v/\zL K f H d v:=by
 unfold M.atI at e;cases q:M.ixN c.length i with
 | none=>rw[q] at e;cases e
 | some j =>
  rw[q] at e;obtain⟨v,g,h⟩:=r.get (i:=j) e;have l:ixN xs.length i=some j:=by rw[<- r.length];exact q
  exact⟨v,by unfold atI;rw[l];exact g,h⟩
end
end L2
namespace L2
open PySem PySem.Spec PyProof.Rows
section
variable {K:PySem.W.Frag}{Θ:Tab}
theorem w_mt_tru {X:Cx}{a:zQ} (ha:WE X Θ a w) (y:∀ f,isTrue a X.env f=(do let v <- f;standAt a.pos;holding [v] (truthy v)):=by intro _;rfl):WT X Θ a (M.ZK w):=by
 delta WE WT at ha ⊢
 exact (Bl ha y).up λσ H Q A s S st B h=>⟨A,s,S,st,B,zE.bind h λC G x I S1 J l1 e rx d=>by
   cases x with
   | non=>cases rx;exact⟨false,rfl,zE.here (b:=false) d e rfl⟩
   | bl b=>cases rx;exact⟨b,rfl,zE.here (b:=b) d e rfl⟩
   | int i=>cases rx;exact⟨_,rfl,zE.here (b:=(i != 0)) d e (by show decide (i≠0)=(i != 0);by_cases hi:i=0<;>simp[hi])⟩
   | str z =>
    obtain⟨rfl,_⟩:=rx;by_cases hz:z.length <= M.SZ
    ·simp only[M.ZI,if_pos hz] at d;refine⟨_,⟨by rw[qy,<- yo];exact hz,rfl⟩,zE.here (b:=(((ofT z).length:Int) != 0)) d e ?_⟩;show (!z.isEmpty)=_;rw[qy];cases z<;>simp<;>lia
    ·simp only[M.ZI,if_neg hz] at d;exact d.elim
   | tup j =>
    obtain⟨l,xs,rfl,t,r⟩:=rx;refine⟨_,.inr (.inl ⟨xs,t,rfl⟩),zE.here (b:=!xs.isEmpty) d e ?_⟩;show (!j.isEmpty)=_;have:=r.length;cases j<;>cases xs<;>first | rfl | cases this
   | ro j =>
    obtain⟨l,xs,rfl,t,r⟩:=rx;refine⟨_,.inl ⟨xs,t.sq,rfl⟩,zE.here (b:=!xs.isEmpty) d e ?_⟩;show (!j.isEmpty)=_;have:=r.length;cases j<;>cases xs<;>first | rfl | cases this
   | ref p =>
    obtain⟨a,rfl,u⟩:=rx;cases q:S1[p]? with
    | none=>simp[M.ZI,q] at d;exact d.elim
    | some o =>
     cases o with
     | lst xs =>
      simp only[M.ZI,q] at d;obtain⟨g,m,r⟩:=Z8 e u q;refine⟨_,.inl ⟨g,SqL.of m,rfl⟩,zE.here (b:=!g.isEmpty) d e ?_⟩;show (!xs.isEmpty)=_;have:=r.length;cases xs<;>cases g<;>first | rfl | cases this
     | dct kvs =>
      simp only[M.ZI,q] at d;obtain⟨b,m,g,E,r⟩:=e.obj _ _ q;rw[u] at m;cases m;refine⟨_,.inr (.inr ⟨g,E,rfl⟩),zE.here (b:=!g.isEmpty) d e ?_⟩;cases r<;>rfl
     | fdc _=>simp[M.ZI,q] at d;exact d.elim
     | dtt _=>simp[M.ZI,q] at d;exact d.elim
     | ftt _=>simp[M.ZI,q] at d;exact d.elim
     | ins c fs=>simp[M.ZI,q] at d;exact d.elim
   | ty n=>exact d.elim⟩
inductive TyM (K:PySem.W.Frag) (H:Hp):V->String->Prop where
 | of {x:V}{A:String} (h:ZA K H x (.type A)):TyM K H x A
 | sqT {a:zC}{xs:List V} (h:SqT K H a xs):TyM K H (.ref a) "tuple"
 | sqL {a:zC}{xs:List V} (h:SqL K H a xs):TyM K H (.ref a) "list"
noncomputable def YW (K:PySem.W.Frag):List V->Hp->VK->Prop:=λxs H Q=>∃ x n A b,xs=[x,.ty n]/\TyM K H x A/\PySem.W.kitOne K (.type A) (.type n)=some b/\Q (.bl b) H
theorem Yv {X:Cx}:qX X (.builtin "isinstance") (YW X.K):=by
 intro i s σ H xs us Q I r h;obtain⟨x,n,A,b,rfl,ty,e,q⟩:=h;obtain⟨u,l,rfl,d,j⟩:=WQ r;cases j;cases ty with
 | of h=>exact ye (n:=1) I.tk (G3 I d h e λtk c=>⟨.bl b,H,I.tok tk c,rfl,q⟩)
 | sqT h =>
  cases d;obtain⟨its,_,⟨o,f,g,_⟩,_⟩:=I.tuple h;exact ye (n:=1) I.tk (PySem.W.kia_one PySem.W.kitx_tuple I.kIn ⟨o,f,g⟩ e (λz=>nomatch z) λtk c=>⟨.bl b,H,I.tok tk c,rfl,q⟩)
 | sqL h =>
  cases d;obtain⟨its,_,⟨o,n,f,g,_⟩,_⟩:=I.list h;exact ye (n:=1) I.tk (PySem.W.kia_one PySem.W.kitx_list I.kIn ⟨o,f,g⟩ e (λz=>nomatch z) λtk c=>⟨.bl b,H,I.tok tk c,rfl,q⟩)
theorem eI (n:M.Kd):PySem.W.kitOne K (.type "NoneType") (.type (yS n))=some false/\PySem.W.kitOne K (.type "bool") (.type (yS n))=some (match n with | .bool=>true | .int=>true | _=>false) /\
  PySem.W.kitOne K (.type "int") (.type (yS n))=some (match n with | .int=>true | _=>false)/\PySem.W.kitOne K (.type "str") (.type (yS n))=some (match n with | .str=>true | _=>false) /\
  PySem.W.kitOne K (.type "tuple") (.type (yS n))=some (match n with | .tuple=>true | _=>false)/\PySem.W.kitOne K (.type "list") (.type (yS n))=some (match n with | .list=>true | _=>false) /\
  PySem.W.kitOne K (.type "dict") (.type (yS n))=some (match n with | .dict=>true | _=>false):=by
 cases n<;>exact⟨xR (by decide +kernel),xR (by decide +kernel),xR (by decide +kernel),xR (by decide +kernel),xR (by decide +kernel),xR (by decide +kernel),xR (by decide +kernel)⟩
theorem Yb:AdN K Θ M.Zt (YW K):=by
 intro w H S xs U Q g rx h
 match xs,rx,h with
 | [x,.ty n],rx,h =>
  obtain⟨v,_,rfl,d,_,_,rfl,rfl,rfl⟩:=rx;obtain⟨y,B,C,E,G,t,I⟩:=eI (K:=K) n;have fin:∀ {A:String}{b:Bool},M.Zb n x S=.ok b S->TyM K H v A->PySem.W.kitOne K (.type A) (.type (yS n))=some b->YW K [v,.ty (yS n)] H Q:=λ{A b} e ty k=>by
   have h':zE K Θ (zL K) w H ((M.Zb n x S).bind λb s=>.ok (.bl b) s) Q:=h;rw[e] at h';exact⟨v,yS n,A,b,rfl,ty,k,zE.here (b:=V.bl b) h' g rfl⟩
  cases x with
  | non=>cases d;exact fin rfl (.of .non) y
  | bl b=>cases d;exact fin rfl (.of (.bl b)) B
  | int i=>cases d;exact fin rfl (.of (.int i)) C
  | str z=>obtain⟨rfl,_⟩:=d;exact fin rfl (.of (.str _)) E
  | tup J=>obtain⟨l,ys,rfl,j,r⟩:=d;exact fin rfl (.sqT j) G
  | ro J=>obtain⟨l,ys,rfl,j,r⟩:=d;exact fin rfl (.sqL j.sq) t
  | ty m=>exact h.elim
  | ref p =>
   obtain⟨a,rfl,u⟩:=d;cases q:S[p]? with
   | none=>simp[M.Zt,M.Zb,q] at h;exact h.elim
   | some o =>
    cases o with
    | lst xs =>
     obtain⟨L,f,r⟩:=Z8 g u q;refine fin ?_ (.sqL (SqL.of f)) t;simp only[M.Zb,q]<;>(cases n<;>rfl)
    | dct kvs =>
     obtain⟨b,f,L,N,r⟩:=g.obj _ _ q;rw[u] at f;cases f;refine fin ?_ (.of (.dK N)) I;simp only[M.Zb,q]<;>(cases n<;>rfl)
    | fdc _=>simp[M.Zt,M.Zb,q] at h;exact h.elim
    | dtt _=>simp[M.Zt,M.Zb,q] at h;exact h.elim
    | ftt _=>simp[M.Zt,M.Zb,q] at h;exact h.elim
    | ins c fs=>simp[M.Zt,M.Zb,q] at h;exact h.elim
 | [_,.non],_,h=>exact h.elim
 | [_,.bl _],_,h=>exact h.elim
 | [_,.int _],_,h=>exact h.elim
 | [_,.str _],_,h=>exact h.elim
 | [_,.tup _],_,h=>exact h.elim
 | [_,.ro _],_,h=>exact h.elim
 | [_,.ref _],_,h=>exact h.elim
 | [],_,h=>exact h.elim
 | [_],_,h=>exact h.elim
 | _::b::_::_,_,h=>cases b<;>exact h.elim
noncomputable def ofP:M.P->QC
 | .non=>.none
 | .bl b=>.bool b
 | .int i=>.int i
 | .str x=>.str (ofT x)
 | .tup ps=>.tuple (all ps)
 | .lst ps=>.list (all ps)
where all:List M.P->List QC
 | []=>[]
 | p::ps=>ofP p::all ps
theorem bF (x y:M.T):(ofT x == ofT y)=(x == y):=by
 by_cases h:x=y
 ·subst h;simp
 ·rw[beq_eq_false_iff_ne.mpr h,beq_eq_false_iff_ne.mpr λe=>h (Kc e)]
mutual
theorem VW:∀ p q:M.P,xG (ofP p) (ofP q)=M.P.eqv p q
 | .non,.non=>rfl
 | .non,.bl _=>rfl
 | .non,.int _=>rfl
 | .non,.str _=>rfl
 | .non,.tup _=>rfl
 | .non,.lst _=>rfl
 | .bl _,.non=>rfl
 | .bl _,.bl _=>rfl
 | .bl _,.int _=>rfl
 | .bl _,.str _=>rfl
 | .bl _,.tup _=>rfl
 | .bl _,.lst _=>rfl
 | .int _,.non=>rfl
 | .int _,.bl _=>rfl
 | .int _,.int _=>rfl
 | .int _,.str _=>rfl
 | .int _,.tup _=>rfl
 | .int _,.lst _=>rfl
 | .str _,.non=>rfl
 | .str _,.bl _=>rfl
 | .str _,.int _=>rfl
 | .str x,.str y=>bF x y
 | .str _,.tup _=>rfl
 | .str _,.lst _=>rfl
 | .tup _,.non=>rfl
 | .tup _,.bl _=>rfl
 | .tup _,.int _=>rfl
 | .tup _,.str _=>rfl
 | .tup ps,.tup c=>uI ps c
 | .tup _,.lst _=>rfl
 | .lst _,.non=>rfl
 | .lst _,.bl _=>rfl
 | .lst _,.int _=>rfl
 | .lst _,.str _=>rfl
 | .lst _,.tup _=>rfl
 | .lst ps,.lst c=>uI ps c
theorem uI:∀ ps c:List M.P,Df (ofP.all ps) (ofP.all c)=M.P.eqvs ps c
 | [],[]=>rfl
 | [],_::_=>rfl
 | _::_,[]=>rfl
 | p::ps,q::c=>by
  show (xG (ofP p) (ofP q) && Df (ofP.all ps) (ofP.all c))=(M.P.eqv p q && M.P.eqvs ps c)
  rw[VW p q,uI ps c]
end
mutual
theorem XG:∀ p:M.P,gP (ofP p)=M.P.dep p
 | .non=>rfl
 | .bl _=>rfl
 | .int _=>rfl
 | .str _=>rfl
 | .tup ps=>by show Y4 (ofP.all ps)+1=M.P.deps ps+1;rw[uc ps]
 | .lst ps=>by show Y4 (ofP.all ps)+1=M.P.deps ps+1;rw[uc ps]
theorem uc:∀ ps:List M.P,Y4 (ofP.all ps)=M.P.deps ps
 | []=>rfl
 | p::ps=>by show max (gP (ofP p)) (Y4 (ofP.all ps))=max (M.P.dep p) (M.P.deps ps);rw[XG p,uc ps]
end
section
variable {ρ:List zC}{H:Hp}
mutual
theorem Yw {g:Nat->Option M.P} (j:∀ i p v,g i=some p->zL K ρ H (.ref i) v->qL K H v (ofP p)/\(ofP p).canLay0=true):∀ {d:M.D}{p:M.P}{v:V},M.jZ g d=some p->zL K ρ H d v->qL K H v (ofP p)/\(ofP p).canLay0=true
 | .non,_,_,e,r=>by cases e;cases r;exact⟨.non,rfl⟩
 | .bl _,_,_,e,r=>by cases e;cases r;exact⟨.bl _,rfl⟩
 | .int _,_,_,e,r=>by cases e;cases r;exact⟨.int _,rfl⟩
 | .str x,_,_,e,r=>by
  cases e;obtain⟨rfl,ok⟩:=r;refine⟨.str _,?_⟩;show cN (ofT x)=true;unfold cN ofT;have m:x.all (λc=>decide (c < 1114112))=true:=ok;simpa using m
 | .tup h,_,_,e,r=>by
  obtain⟨l,xs,rfl,n,o⟩:=r;have f:(M.jZ.all g h).map M.P.tup=some _:=e;cases q:M.jZ.all g h with
  | none=>rw[q] at f;cases f
  | some ps =>
   rw[q] at f;cases f;obtain⟨s,t⟩:=vV j q o;exact⟨.tup n s,t⟩
 | .ro h,_,_,e,r=>by
  obtain⟨l,xs,rfl,n,o⟩:=r;have f:(M.jZ.all g h).map M.P.lst=some _:=e;cases q:M.jZ.all g h with
  | none=>rw[q] at f;cases f
  | some ps =>
   rw[q] at f;cases f;obtain⟨s,t⟩:=vV j q o;exact⟨.lst n.sq s,t⟩
 | .ref i,_,_,e,r=>j i _ _ e r
 | .ty _,_,_,e,_=>by cases e
theorem vV {g:Nat->Option M.P} (l:∀ i p v,g i=some p->zL K ρ H (.ref i) v->qL K H v (ofP p)/\(ofP p).canLay0=true):∀ {f:List M.D}{ps:List M.P}{xs:List V},M.jZ.all g f=some ps->zP K ρ H f xs->Zw K H xs (ofP.all ps)/\Fh (ofP.all ps)=true
 | [],_,_,e,r=>by cases e;cases r;exact⟨.nil,rfl⟩
 | d::f,_,_,e,r=>by
  obtain⟨y,ys,rfl,m,n⟩:=r;have c:(match M.jZ g d,M.jZ.all g f with | some p,some ps=>some (p::ps) | _,_=>none)=some _:=e;cases h:M.jZ g d with
  | none=>rw[h] at c;cases c
  | some p =>
   cases j:M.jZ.all g f with
   | none=>rw[h,j] at c;cases c
   | some ps =>
    rw[h,j] at c;cases c;obtain⟨o,q⟩:=Yw l h m;obtain⟨s,t⟩:=vV l j n;refine⟨.cons o s,?_⟩;show (PyData.canLay0 (ofP p) && Fh (ofP.all ps))=true;rw[q,t];rfl
end
theorem Xb {S:M.S} (h:zS K x l S H):∀ (n:Nat) {d:M.D}{p:M.P}{v:V},M.toP n S d=some p->zL K l H d v->qL K H v (ofP p)/\(ofP p).canLay0=true
 | 0,_,_,_,e,r=>Yw (λi p v e _=>by cases e) e r
 | n+1,_,_,_,e,r=>Yw (λi p v e r=>by
   obtain⟨a,rfl,m⟩:=r;have f:(match M.z7 S i with | some xs=>(M.jZ.all (λj=>M.toP n S (.ref j)) xs).map M.P.lst | none=>none)=some p:=e;cases q:S[i]? with
   | none=>simp[M.z7,q] at f
   | some o =>
    cases o with
    | lst xs =>
     simp only[M.z7,q] at f;obtain⟨y,s,t⟩:=Z8 h m q;cases g:M.jZ.all (λj=>M.toP n S (.ref j)) xs with
     | none=>rw[g] at f;cases f
     | some ps =>
      rw[g] at f;cases f;obtain⟨u,w⟩:=vV (λj p v e r=>Xb h n e r) g t;exact⟨.lst (SqL.of s) u,w⟩
    | dct kvs=>simp[M.z7,q] at f
    | fdc _=>simp[M.z7,q] at f
    | dtt _=>simp[M.z7,q] at f
    | ftt _=>simp[M.z7,q] at f
    | ins c fs=>simp[M.z7,q] at f) e r
end
noncomputable abbrev DR (K:PySem.W.Frag) (c:List zC) (H:Hp):List (M.D×M.D)->List (Key×V)->Prop:=Paired λp q=>qW p.1 q.1/\zL K c H p.2 q.2
theorem YQ {a b:Key} (ha:qW d a) (c:qW e b):(a=b)=(d=e):=by
 cases d with
 | int i =>
  cases ha;cases e with
  | int j=>cases c;exact propext ⟨λz=>by cases z;rfl,λz=>by cases z;rfl⟩
  | str y=>obtain⟨rfl,_⟩:=c;exact propext ⟨λz=>(nomatch z),λz=>(nomatch z)⟩
  | _=>exact c.elim
 | str x =>
  obtain⟨rfl,_⟩:=ha;cases e with
  | int j=>cases c;exact propext ⟨λz=>(nomatch z),λz=>(nomatch z)⟩
  | str y=>obtain⟨rfl,_⟩:=c;exact propext ⟨λz=>by rw[Kc (gR z)],λz=>by cases z;rfl⟩
  | _=>exact c.elim
 | _=>exact ha.elim
theorem Z0 (h:M.z6 d=true) (r:zL K c H d v):∃ k,qW d k/\v=kV k:=by
 cases d with
 | int i=>cases r;exact⟨.inl i,rfl,rfl⟩
 | str x=>obtain⟨rfl,ok⟩:=r;exact⟨.inr (ofT x),⟨rfl,ok⟩,rfl⟩
 | _=>cases h
section
variable {ρ:List zC}{H:Hp}{kvs:List (M.D×M.D)}{ks:List (Key×V)}{d:M.D}{k:Key}
theorem DR.val (r:DR K ρ H kvs ks) (f:qW d k):match M.jD d kvs with | some e=>∃ v,qN ks k=some v/\zL K ρ H e v | none=>qN ks k=none:=by
 induction r with
 | nil=>exact rfl
 | @cons p q ps i h t g =>
  have e:=YQ h.1 f;by_cases hd:p.1=d
  ·have c:q.1=k:=e.mpr hd;rw[vw c,M.jD,yz,beq_iff_eq.mpr hd.symm];exact⟨_,rfl,h.2⟩
  ·have c:¬ q.1=k:=λz=>hd (e.mp z);rw[vy c,M.jD,yz,beq_eq_false_iff_ne.mpr (jr hd)];exact g
theorem DR.any (r:DR K ρ H kvs ks) (c:qW d k):(ks.any λkv=>decide (kv.1=k))=kvs.any λkv=>decide (kv.1=d):=by
 induction r with
 | nil=>rfl
 | @cons p q ps f h t e =>
  rw[yp,yp,e]
  congr 1
  exact decide_eq_decide.mpr (YQ h.1 c ▸ Iff.rfl)
theorem DR.put (r:DR K ρ H kvs ks) (c:qW d k) (f:zL K ρ H e v):DR K ρ H (M.jA d e kvs) (j4 ks k v):=by
 unfold M.jA j4;rw[r.any c];by_cases ha:(kvs.any λkv=>decide (kv.1=d))=true
 ·rw[if_pos ha,if_pos ha];clear ha
  induction r with
  | nil=>exact .nil
  | @cons p q ps i h t g =>
   rw[jF,jF];refine .cons ?_ g;have eq:=YQ h.1 c;by_cases hd:p.1=d
   ·rw[if_pos hd,if_pos (eq.mpr hd)];exact⟨h.1,f⟩
   ·rw[if_neg hd,if_neg λz=>hd (eq.mp z)];exact h
 ·rw[if_neg ha,if_neg ha];exact Paired.snoc r ⟨c,f⟩
end
theorem ZR {S:M.S} (e:zS K h c S H) {i:Nat}{a:zC} (ha:c[i]? = some a) {kvs:List (M.D×M.D)} (q:S[i]? = some (.dct kvs)):∃ ks,H a=some (.dK ks)/\DR K c H kvs ks:=by
 obtain⟨b,d,f,g,r⟩:=e.obj i _ q;rw[ha] at d;cases d;exact⟨f,g,r⟩
theorem Ai {S:M.S} (e:zS K h c S H) {i:Nat}{a:zC} (ha:c[i]? = some a) {kvs:List (M.D×M.D)} (q:S[i]? = some (.fdc kvs)):∃ o ks,H a=some (.frz o (.dK ks))/\DR K c H kvs ks:=by
 obtain⟨b,d,o,f,g,r⟩:=e.obj i _ q;rw[ha] at d;cases d;exact⟨o,f,g,r⟩
inductive QM (K:PySem.W.Frag) (H:Hp) (kb:List (Key×V)):List (Key×V)->Bool->Prop where
 | nil:QM K H kb [] true
 | miss {k:Key}{v:V}{r:List (Key×V)} (h:qN kb k=none):QM K H kb ((k,v)::r) false
 | hit {k:Key}{v y:V}{r:List (Key×V)}{d e:QC}{b:Bool} (h:qN kb k=some y) (hd:qL K H v d) (he:qL K H y e) (sd:ZC d=true) (se:ZC e=true) (t:QM K H kb r b):QM K H kb ((k,v)::r) (xG d e && b)
def VU (neg:Bool) (K:PySem.W.Frag):R2:=λx y H Q=>∃ a b c d r,x=.ref a/\y=.ref b/\H a=some (.dK c)/\H b=some (.dK d)/\(c.length=d.length->QM K H d c r)/\Q (.bl (if neg then !(c.length == d.length && r) else (c.length == d.length && r))) H
theorem YZ {X:Cx}{A:jh} (I:Inv X l σ H s) (m:A.units+64 < Za) {n:List (Key×V)}{g:List (Key×zB)} (j:KV n g):∀ {o:List (Key×V)}{u:List (Key×zB)}{r:Bool},KV o u->QM X.K H n o r->PySem.W.KeqHits A s g u r
 | _,_,_,e,.nil=>by cases e;exact .nil
 | _,_,_,e,.miss h=>by
  cases e with
  | @cons p q ps y i t =>
   obtain⟨k,v⟩:=q;have d:_=k:=i.1;have c:=j.val k;rw[<- d,h] at c;refine .miss ?_;rw[<- d];cases f:JT g _ with
   | none=>rfl
   | some w=>rw[f] at c;exact c.elim
 | _,_,_,e,.hit h hd z x B t=>by
  cases e with
  | @cons p q ps y i t1 =>
   obtain⟨k,v⟩:=q;have d:_=k:=i.1;have c:=j.val k;rw[<- d,h] at c;cases f:JT g k with
   | none=>rw[d,f] at c;exact c.elim
   | some w =>
    rw[d,f] at c;obtain⟨as,C⟩:=hd.reads I i.2;obtain⟨bs,E⟩:=z.reads I c;exact .hit f (SeqAt.eqAt_reads _ _ A s _ _ as bs C E (du x) (du B) (SeqAt.room_of_shaped x m)) (YZ I m j t1 t)
theorem Cu {X:Cx}{k:Nat} (f:zx k X.A):OpR X (jv .Eq) (VU false X.K):=by
 intro g s σ H x y v u Q I rx ry h;obtain⟨a,b,o,p,r,rfl,rfl,ha,i,j,q⟩:=h;cases rx;cases ry;obtain⟨t,la,w,c,l⟩:=Qb I.hok ha;obtain⟨z,m,B,d,n⟩:=Qb I.hok i;refine PySem.W.keq_eq la m l n f.units0 (λe=>YZ I (by show X.A.units+1+64 < _;have:=f.un;lia) d c (j (by rw[c.length,d.length];exact e))) ⟨.bl _,H,I,rfl,?_⟩;rw[<- c.length,<- d.length];exact q
theorem bQ {X:Cx}{k:Nat} (f:zx k X.A):OpR X (jv .NotEq) (VU true X.K):=by
 intro g s σ H x y v u Q I rx ry h;obtain⟨a,b,o,p,r,rfl,rfl,ha,i,j,q⟩:=h;cases rx;cases ry;obtain⟨t,la,w,c,l⟩:=Qb I.hok ha;obtain⟨z,m,B,d,n⟩:=Qb I.hok i;refine PySem.W.keq_ne la m l n f.units0 (λe=>YZ I (by show X.A.units+1+64 < _;have:=f.un;lia) d c (j (by rw[c.length,d.length];exact e))) ⟨.bl _,H,I,rfl,?_⟩;rw[<- c.length,<- d.length];exact q
theorem aM {S:M.S} (i:zS K C n S H) (o:DR K n H j p):∀ {ks:List (M.D×M.D)}{l:List (Key×V)}{b:Bool},DR K n H ks l->M.dEq S j ks=some b->QM K H p l b
 | _,_,_,.nil,e=>by cases e;exact .nil
 | (k,v)::ks,(E,vv)::l,b,.cons h t,e=>by
  have d:=DR.val o h.1;unfold M.dEq at e;cases q:M.jD k j with
  | none =>
   rw[q] at e d;cases e;exact .miss d
  | some w =>
   rw[q] at e d;obtain⟨y,r,ry⟩:=d;dsimp only at e;cases c:M.toP 8 S v with
   | none=>rw[c] at e;cases e
   | some s =>
    cases f:M.toP 8 S w with
    | none=>rw[c,f] at e;cases e
    | some u =>
     cases m:M.dEq S j ks with
     | none=>rw[c,f,m] at e;cases e
     | some G =>
      rw[c,f,m] at e;dsimp only at e;by_cases g:M.P.dep s <= 64/\M.P.dep u <= 64
      ·rw[if_pos g] at e;cases e;obtain⟨x,z⟩:=Xb i _ c h.2;obtain⟨A,B⟩:=Xb i _ f ry;rw[<- VW];refine .hit r x A ?_ ?_ (aM i o t m)
       ·unfold ZC;rw[z,KR,XG];exact decide_eq_true g.1
       ·unfold ZC;rw[B,KR,XG];exact decide_eq_true g.2
      ·rw[if_neg g] at e;cases e
theorem ax {S:M.S}{y:M.D}{l:Bool->Hp->Prop} (f:zS K u g S H) (rx:zL K g H x v) (ry:zL K g H y Y) (h:zE K u rB g H (M.X2 x y S) l) :
  ∃ a b c d r,v=.ref a/\Y=.ref b/\H a=some (.dK c)/\H b=some (.dK d)/\(c.length=d.length->QM K H d c r)/\l (c.length == d.length && r) H:=by
 unfold M.X2 at h;split at h
 ·rename_i i j;split at h
  ·rename_i ks B w z;obtain⟨a,rfl,ha⟩:=rx;obtain⟨b,rfl,A⟩:=ry;obtain⟨c,m,n⟩:=ZR f ha w;obtain⟨d,o,p⟩:=ZR f A z;have l1:=Paired.length n;have C:=Paired.length p;split at h
   ·rename_i s;split at h
    ·rename_i t q;refine⟨a,b,c,d,t,rfl,rfl,m,o,λ_=>aM f p n q,?_⟩;rw[show (c.length == d.length)=true by rw[beq_iff_eq];lia,KR];exact zE.here (b:=t) h f rfl
    ·exact h.elim
   ·rename_i s;refine⟨a,b,c,d,false,rfl,rfl,m,o,λe=>absurd (by lia) s,?_⟩;rw[Bool.and_false];exact zE.here (b:=false) h f rfl
  ·exact h.elim
 ·exact h.elim
def vL (K:PySem.W.Frag) (neg:Bool):R2:=λx y H Q=>(x6 x y=true/\Q (.bl (if neg then !decide (x=y) else decide (x=y))) H)\/V3 K neg x y H Q\/VU neg K x y H Q
theorem ZV {X:Cx}{k:Nat} (d:zx k X.A):OpR X (jv .Eq) (vL X.K false):=by
 intro c s σ H x y v u Q I rx ry h;rcases h with h | h | h
 ·exact Ed c s σ H x y v u Q I rx ry h
 ·exact DE d c s σ H x y v u Q I rx ry h
 ·exact Cu d c s σ H x y v u Q I rx ry h
theorem Yc {X:Cx}{k:Nat} (d:zx k X.A):OpR X (jv .NotEq) (vL X.K true):=by
 intro c s σ H x y v u Q I rx ry h;rcases h with h | h | h
 ·exact Bu c s σ H x y v u Q I rx ry h
 ·exact HF d c s σ H x y v u Q I rx ry h
 ·exact bQ d c s σ H x y v u Q I rx ry h
theorem U2 {S:M.S}{y:M.D}{g:Bool->Hp->Prop} (l:zS K u o S H) (rx:zL K o H x f) (ry:zL K o H y Y) (h:zE K u rB o H (M.eqD x y S) g) :
  (x6 f Y=true/\g (decide (f=Y)) H)\/(∃ d e,qL K H f d/\qL K H Y e/\ZC d=true/\ZC e=true/\g (xG d e) H)\/∃ a b i j r,f=.ref a/\Y=.ref b/\H a=some (.dK i)/\H b=some (.dK j)/\(i.length=j.length->QM K H j i r)/\g (i.length == j.length && r) H:=by
 have gen:∀ {p q:M.P},M.toP M.Zm S x=some p->M.toP M.Zm S y=some q->M.P.dep p <= 64/\M.P.dep q <= 64->g (M.P.eqv p q) H->∃ d e,qL K H f d/\qL K H Y e/\ZC d=true/\ZC e=true/\g (xG d e) H:=λ{p q} m n hd v=>by
  obtain⟨w,z⟩:=Xb l _ m rx;obtain⟨A,B⟩:=Xb l _ n ry;refine⟨_,_,w,A,?_,?_,by rw[VW];exact v⟩
  ·unfold ZC;rw[z,KR,XG];exact decide_eq_true hd.1
  ·unfold ZC;rw[B,KR,XG];exact decide_eq_true hd.2
 have jn:zE K u rB o H (match M.toP M.Zm S x,M.toP M.Zm S y with
   | some p,some q=>if M.P.dep p <= 64/\M.P.dep q <= 64 then M.R.ok (M.P.eqv p q) S else .no
   | _,_=>M.X2 x y S) g->(∃ d e,qL K H f d/\qL K H Y e/\ZC d=true/\ZC e=true/\g (xG d e) H)\/∃ a b i j r,f=.ref a/\Y=.ref b/\H a=some (.dK i)/\H b=some (.dK j)/\(i.length=j.length->QM K H j i r)/\g (i.length == j.length && r) H:=λh'=>by
  cases m:M.toP M.Zm S x with
  | none=>rw[m] at h';exact .inr (ax l rx ry h')
  | some p =>
   cases n:M.toP M.Zm S y with
   | none=>rw[m,n] at h';exact .inr (ax l rx ry h')
   | some q =>
    rw[m,n] at h';dsimp only at h';by_cases t:M.P.dep p <= 64/\M.P.dep q <= 64
    ·rw[if_pos t] at h';exact .inl <| gen m n t (zE.here (b:=M.P.eqv p q) h' l rfl)
    ·rw[if_neg t] at h';exact h'.elim
 have s:∀ {b:Bool},x6 f Y=true->decide (f=Y)=b->M.eqD x y S=.ok b S->(x6 f Y=true/\g (decide (f=Y)) H):=λ{b} C E G=>by
  rw[G] at h;rw[E];exact⟨C,zE.here (b:=b) h l rfl⟩
 cases x with
 | str a =>
  cases y with
  | str b =>
   obtain⟨rfl,_⟩:=rx;obtain⟨rfl,_⟩:=ry;refine .inl (s rfl ?_ rfl);by_cases c:a=b
   ·subst c;simp
   ·rw[decide_eq_false c,decide_eq_false λe=>c (Kc (V.str.inj e))]
  | _=>exact .inr (jn h)
 | int a =>
  cases y with
  | int b =>
   cases rx;cases ry;refine .inl (s rfl ?_ rfl);by_cases c:a=b
   ·subst c;simp
   ·rw[decide_eq_false c,decide_eq_false λe=>c (V.int.inj e)]
  | _=>exact .inr (jn h)
 | bl a =>
  cases y with
  | bl b =>
   cases rx;cases ry;refine .inl (s rfl ?_ rfl);by_cases c:a=b
   ·subst c;simp
   ·rw[decide_eq_false c,decide_eq_false λe=>c (V.bl.inj e)]
  | _=>exact .inr (jn h)
 | non =>
  cases y with
  | non=>cases rx;cases ry;exact .inl (s rfl rfl rfl)
  | _=>exact .inr (jn h)
 | _=>exact .inr (jn h)
theorem ZX:AdC K o M.cEq (vL K false):=by
 intro p H S x y q Y Q c rx ry h;rcases U2 c rx ry h with h | ⟨d,e,f,g,i,j,l⟩ | ⟨a,b,m,n,r,h⟩
 ·exact .inl h
 ·exact .inr (.inl ⟨d,e,f,g,i,j,l⟩)
 ·exact .inr (.inr ⟨a,b,m,n,r,h⟩)
theorem uh:AdC K g M.cNe (vL K true):=by
 intro i H S x y u Y Q j rx ry h;have h':zE K g rB i H (M.eqD x y S) (λb l=>Q (.bl (!b)) l):=zE.bind h λm v b w S1 z l1 c e f=>by cases e;exact zE.here (b:=!b) f c rfl
 rcases U2 j rx ry h' with h | ⟨d,e,f,n,o,p,q⟩ | ⟨a,b,s,t,r,h⟩
 ·exact .inl h
 ·exact .inr (.inl ⟨d,e,f,n,o,p,q⟩)
 ·exact .inr (.inr ⟨a,b,s,t,r,h⟩)
end
end L2
namespace L2
open PySem PySem.Spec PyProof.Rows
section
variable {K:PySem.W.Frag}{Θ:Tab}
theorem x2 (n d:Nat) (o:Option Int):M.sIx n d o=HT.sIx n d o:=by
 cases o with
 | none=>rfl
 | some v =>
  have:=HT.YO v n d;show (if v < 0 then max (v+(n:Int)) 0 else min v (n:Int)).toNat=_;rw[this];simp
theorem X5 {lo:Option Int}:∀ c∈M.cut x lo hi,c∈x:=λc d=>cO (uM d)
theorem Yx (r:zP K c H d xs) (lo hi:Option Int):zP K c H (M.cut d lo hi) (QA xs lo hi):=by
 unfold M.cut QA;rw[x2,x2,r.length];exact (r.drop _).take _
theorem xY:∀ f H S x m l u Q,zS K Θ f S H->zL K f H x m->zE K Θ (zL K) f H (M.slD x l u S) Q->uSl K m l u H Q:=by
 intro f H S x m l u Q g rx h;cases x with
 | str z =>
  obtain⟨rfl,ok⟩:=rx;by_cases hz:z.length <= M.SZ
  ·simp only[M.slD,if_pos hz] at h;refine⟨by rw[qy,<- yo];exact hz,zE.here h g ⟨?_,Km ok X5⟩⟩;show V.str (xo (ofT z) l u)=V.str (ofT (M.cut z l u));unfold xo M.cut ofT;have e:(⟨z.toArray⟩:Str).length=z.length:=by simp[uZ]
   rw[e,x2,x2]
  ·simp only[M.slD,if_neg hz] at h;exact h.elim
 | tup i =>
  obtain⟨a,xs,rfl,n,r⟩:=rx;by_cases j:M.sIx i.length 0 l=0/\M.sIx i.length i.length u=i.length
  ·simp only[M.slD,if_pos j] at h;exact h.elim
  ·simp only[M.slD,if_neg j] at h;refine .inr ⟨xs,n,?_,λp d=>h f _ _ (jN _) (Le.new d _) (g.aside d _) ⟨p,_,rfl,SqT.of ju,(Yx r l u).mono (jN _) (Le.new d _)⟩⟩;rw[x2,x2,r.length] at j;exact j
 | ro i =>
  obtain⟨a,xs,rfl,n,r⟩:=rx;exact .inl ⟨xs,n.sq,λp d=>zE.alloc h g (Yx r l u) d⟩
 | ref p =>
  obtain⟨a,rfl,s⟩:=rx;cases q:S[p]? with
  | none=>simp[M.slD,M.z7,q] at h;exact h.elim
  | some o =>
   cases o with
   | lst xs =>
    simp only[M.slD,M.z7,q] at h;obtain⟨t,v,r⟩:=Z8 g s q;exact .inl ⟨t,SqL.of v,λp d=>zE.alloc h g (Yx r l u) d⟩
   | dct kvs=>simp[M.slD,M.z7,q] at h;exact h.elim
   | fdc _=>simp[M.slD,M.z7,q] at h;exact h.elim
   | dtt _=>simp[M.slD,M.z7,q] at h;exact h.elim
   | ftt _=>simp[M.slD,M.z7,q] at h;exact h.elim
   | ins c fs=>simp[M.slD,M.z7,q] at h;exact h.elim
 | _=>exact h.elim
theorem Kq:∀ {c:List M.D}{ys:List V}{ts:List M.T},M.j2 c=some ts->zP K m H c ys->ys=(ts.map ofT).map V.str/\∀ t∈ts,okT t
 | [],_,_,e,r=>by cases e;cases r;exact⟨rfl,λt h=>by cases h⟩
 | .str x::c,_,_,e,r=>by
  obtain⟨y,ys,rfl,g,i⟩:=r;obtain⟨rfl,ok⟩:=g;have d:(M.j2 c).map (x :: ·)=some _:=e;cases q:M.j2 c with
  | none=>rw[q] at d;cases d
  | some n =>
   rw[q] at d;cases d;obtain⟨j,l⟩:=Kq q i;refine⟨by rw[j];rfl,λt f=>?_⟩;rcases List.mem_cons.mp f with rfl | f
   ·exact ok
   ·exact l t f
 | .non::_,_,_,e,_=>by cases e
 | .int _::_,_,_,e,_=>by cases e
 | .bl _::_,_,_,e,_=>by cases e
 | .tup _::_,_,_,e,_=>by cases e
 | .ro _::_,_,_,e,_=>by cases e
 | .ref _::_,_,_,e,_=>by cases e
 | .ty _::_,_,_,e,_=>by cases e
theorem AB (x:M.T):∀ (ys:List M.T) (acc:M.T),((ys.map ofT).foldl (λacc p=>acc++(ofT x).cps++p.cps) acc.toArray)=(acc++(ys.map (x ++ ·)).flatten).toArray
 | [],acc=>by simp
 | y::ys,acc=>by
  rw[jF,Qi];have e:acc.toArray++(ofT x).cps++(ofT y).cps=(acc++x++y).toArray:=by simp[ofT]
  rw[e,AB x ys];simp
theorem bG (x y:M.T):∀ ys:List M.T,M.QK x (y::ys)=y++(ys.map (x ++ ·)).flatten
 | []=>by simp[M.QK]
 | z::ys=>by
  show y++x++M.QK x (z::ys)=_;rw[bG x z ys];simp
theorem fY (x:M.T) (ys:List M.T):Y3 (ofT x) (ys.map ofT)=ofT (M.QK x ys):=by
 cases ys with
 | nil=>rfl
 | cons y ys =>
  show (⟨(((y::ys).map ofT).drop 1).foldl (λacc p=>acc++(ofT x).cps++p.cps) (((y::ys).map ofT).headD Str.empty).cps⟩:Str)=_;rw[bG,jF,List.drop_one,List.tail_cons];have:=AB x ys y;show (⟨(ys.map ofT).foldl _ y.toArray⟩:Str)=_;rw[this];rfl
theorem w9 (c:okT x):∀ {ys:List M.T},(∀ t∈ys,okT t)->okT (M.QK x ys)
 | [],_=>rfl
 | [y],h=>h y (by simp)
 | y::z::ys,h=>VB (VB (h y (by simp)) c) (w9 c λt d=>h t (jV _ d))
theorem cq (ts:List M.T):((ts.map ofT).map (·.length)).sum=(ts.map xX).sum:=by
 rw[yj];exact congrArg List.sum (Zv λt _=>qy t)
theorem FA {y:M.T} (f:okT y):∀ c H S d ys p Q,zS K Θ c S H->zP K c H d ys->(SqL K H p ys\/SqT K H p ys)->zE K Θ (zL K) c H (M.Qm y d S) Q->Vj K (.str (ofT y)) [.ref p] H Q:=by
 intro c H S d ys p Q g r i h;cases e:M.j2 d with
 | none=>simp only[M.Qm,e] at h;exact h.elim
 | some ts =>
  obtain⟨rfl,ok⟩:=Kq e r;by_cases hz:(ts.map xX).sum+ts.length * y.length <= M.SZ
  ·simp only[M.Qm,e,if_pos hz] at h;refine⟨ofT y,p,ts.map ofT,rfl,rfl,i,?_,?_⟩
   ·rw[cq,z9,qy];exact hz
   ·rw[fY];exact zE.here h g ⟨rfl,w9 f ok⟩
  ·simp only[M.Qm,e,if_neg hz] at h;exact h.elim
noncomputable def vU:List (V×V)->List V
 | []=>[]
 | (a,b)::r=>a::b::vU r
def MP (X:Cx) (Θ:Tab) (pos:Pos) (keys:List (Option zQ)) (c:List zQ) (m:M.AM):Prop:=∃ d,PPs X pos keys c d /\
 ∀ {σ:St}{H:Hp}{Q:List (V×V)->Hp->Prop}{f:List zC}{e:M.St}{S:M.S},zt X.K f H e σ->zS X.K Θ f S H->zE X.K Θ (zP X.K) f H (m e S) (λxs g=>∀ ps,xs=vU ps->Q ps g)->vG d σ H Q
@[irreducible] def WP (X:Cx) (Θ:Tab) (pos:Pos) (keys:List (Option zQ)) (c:List zQ) (m:M.AM):Prop:=MP X Θ pos keys c m
theorem w_mp_nil {X:Cx}:WP X Θ pos [] [] M.zF:=by
 delta WP at ⊢
 exact⟨[],DU,λst c h=>zE.here (b:=[]) h c rfl [] rfl⟩
theorem w_mp_cons {X:Cx}{k:zQ}{ks:List (Option zQ)}{mk:M.EM} (E:WE X Θ k mk) (G:WE X Θ v g) (I:WP X Θ pos ks L r):WP X Θ pos (some k::ks) (v::L) (M.zD mk (M.zD g r)):=by
 delta WE WP at E G I ⊢
 obtain⟨N,U,Y⟩:=I;refine⟨_,Ga E G U,λ{σ H Q J c S} st rp h=>⟨J,c,S,st,rp,?_⟩⟩;have h':zE X.K Θ (zP X.K) J H ((mk c S).bind λx s=>(((g c s).bind λy s=>(r c s).bind λys s=>.ok (y::ys) s)).bind λxs s=>.ok (x::xs) s) _:=h;cases i:mk c S with
 | no=>rw[i] at h';exact h'.elim
 | exc a s=>rw[i] at h';exact h'
 | ok d S1 =>
  rw[i,M.R.bind_ok] at h';intro j H1 x l l1 m rx;refine⟨j,c,S1,st.mono l l1,m,?_⟩;have e:=zE.weak h' l l1;cases n:g c S1 with
  | no=>rw[n] at e;exact e.elim
  | exc a s=>rw[n] at e;exact e
  | ok d2 S2 =>
   rw[n,M.R.bind_ok] at e;intro ρ2 H2 y o p q ry;refine Y (st.mono (l.trans o) (l1.trans p)) q ?_;have f:=zE.weak e o p;cases t:r c S2 with
   | no=>rw[t] at f;exact f.elim
   | exc a s=>rw[t] at f;exact f
   | ok ds S3 =>
    rw[t] at f;intro u H3 xs w z A B ps C;exact f u H3 (x::y::xs) w z A ⟨x,_,rfl,rx.mono (o.trans w) (p.trans z),y,_,rfl,ry.mono w z,B⟩ ((x,y)::ps) (by rw[C];rfl)
theorem AI:∀ {xs:List M.D}{ps:List (V×V)}{acc kvs:List (M.D×M.D)}{ks:List (Key×V)},M.kW xs acc=some kvs->zP K i H xs (vU ps)->DR K i H acc ks ->
  ∃ c:List (Key×V),ps=c.map (λkv=>(kV kv.1,kv.2))/\DR K i H kvs (xI ks c)/\2 * c.length=xs.length
 | [],ps,acc,kvs,ks,e,r,f=>by
  cases e;cases ps with
  | nil=>exact⟨[],rfl,f,rfl⟩
  | cons p ps=>cases r
 | [_],_,_,_,_,e,_,_=>by cases e
 | k::v::xs,ps,acc,kvs,ks,e,r,f=>by
  cases ps with
  | nil=>obtain⟨_,_,z,_⟩:=r;cases z
  | cons p ps =>
   obtain⟨y,ys,j,l,A,m,n,o,q⟩:=r;have g:p.1::p.2::vU ps=y::ys:=j;cases g;cases n;have d:(if M.z6 k=true then M.kW xs (M.jA k v acc) else none)=some kvs:=e;by_cases h:M.z6 k=true
   case neg=>rw[if_neg h] at d;cases d
   rw[if_pos h] at d;obtain⟨s,t,u⟩:=Z0 h l;obtain⟨c,w,x,B⟩:=AI d q (f.put t o);refine⟨(s,p.2)::c,?_,x,by simp only[jU];lia⟩;rw[jF,<- w,<- u]
theorem w_me_disp {X:Cx}{keys:List (Option zQ)} (h:WP X Θ pos keys c m) (e:keys.all (·.isSome)=true:=by rfl) (E:keys.length=c.length:=by rfl) (G:keys≠[]:=by exact List.cons_ne_nil _ _)
  (n:keys.length <= 15:=by decide):WE X Θ (.Dict keys c pos) (M.Q9 m):=by
 delta WE WP at h ⊢
 obtain⟨I,J,L⟩:=h;refine (Bi J e E G n).imp λσ H Q ⟨o,f,S,st,w,h⟩ p l=>?_;have q:zS X.K Θ (o++[p]) (S++[.dct []]) (upd H p (.dK [])):=w.alloc l ⟨[],ju,.nil⟩;refine L (st.mono (Zc _ _) (Le.new l _)) q ?_;have h':zE X.K Θ (zL X.K) o H ((m f (S++[.dct []])).bind λxs x=>match x[S.length]? with
  | some (.dct [])=>(match M.kW xs [] with
   | some kvs=>if kvs.length <= 15/\xs.length <= 30 then .ok (.ref S.length) (x.set S.length (.dct kvs)) else .no
   | none=>.no)
  | _=>.no) Q:=h
 cases r:m f (S++[.dct []]) with
 | no=>rw[r] at h';exact h'.elim
 | exc a s=>rw[r] at h';exact yl.weak (show yl X.K Θ o H a s from h') (Zc _ _) (Le.new l _)
 | ok xs S1 =>
  rw[r,M.R.bind_ok] at h';intro g y ys A N i t ps u;subst u;have d:g[S.length]? = some p:=xV A (by rw[<- w.len];simp);split at h'
  ·rename_i U;split at h'
   ·rename_i kvs Y;by_cases B:kvs.length <= 15/\xs.length <= 30
    case neg=>rw[if_neg B] at h';exact h'.elim
    rw[if_pos B] at h';obtain⟨ks0,C,r0⟩:=ZR i d U;cases r0;obtain⟨j,g1,g2,g3⟩:=AI Y t .nil;refine⟨C,j,g1,by lia,?_⟩;have v:Mut (y p):=by rw[C];trivial
    have le:Le H (upd y p (.dK (xI [] j))):=((Le.new l _).trans N).trans (Le.put v _);exact h' g _ _ ((Zc _ _).trans A) le (i.put d v ⟨_,ju,Paired.mapP g2 λa b z=>⟨z.1,z.2.mono (jN _) (Le.put v _)⟩⟩) ⟨p,rfl,d⟩
   ·exact h'.elim
  ·exact h'.elim
end
end L2
namespace L2
open PySem PySem.Spec PyProof.Rows
section
variable {K:PySem.W.Frag}{Θ:Tab}
theorem UY (a:M.T):∀ (n:Nat) (acc:Array Nat),(zq n a.toArray).foldl (· ++ ·) acc=acc++((zq n a).flatten).toArray
 | 0,acc=>by simp
 | n+1,acc=>by
  rw[JQ,Qi,UY a n,JQ,Jo];simp
theorem GB (a:M.T) (n:Int) (g:0 <= n):vA (ofT a) n=ofT (zq n.toNat a).flatten:=by
 unfold vA;by_cases d:n < 1
 ·have e:n.toNat=0:=by lia
  rw[if_pos d,e];rfl
 ·rw[if_neg d];by_cases c:(n == 1 || (ofT a).length == 0)=true
  ·rw[if_pos c];rw[vx] at c;rcases c with c | c
   ·have e:n=1:=eq_of_beq c;subst e;simp
   ·have e:a.length=0:=by rw[<- qy];exact eq_of_beq c
    have f:a=[]:=List.length_eq_zero_iff.mp e;subst f;simp[ofT]
  ·rw[if_neg c];have:=UY a n.toNat #[];show (⟨(zq n.toNat a.toArray).foldl (· ++ ·) #[]⟩:Str)=_;rw[this];simp[ofT]
theorem bb (a:M.T) (n:Int) (e:0 <= n) (f:n <= 1000000) (c:a.length * n.toNat <= 1000000):MulOk (ofT a) n:=by
 refine⟨?_,λd _=>?_,λd _=>?_⟩
 ·rw[Bool.or_eq_false_iff];exact⟨decide_eq_false (by lia),decide_eq_false (by lia)⟩
 ·rw[qy];have g:1 <= n.toNat:=by lia
  have ha:a.length <= 1000000:=qD (Nat.le_mul_of_pos_right _ (by lia)) c;have hd:(1000000:Int) <= (2 ^ 63 - 1) / n:=Int.le_ediv_of_mul_le (by lia) (by lia)
  lia
 ·rw[qy];unfold Hz;exact decide_eq_false (by rw[ZG];lia)
def Wn:R2:=λx y H Q=>Wc x y H Q\/w5 x y H Q
theorem Xw {X:Cx}:OpR X (yD .Mult) Wn:=OpR.or bS EW
theorem zP.flat (h:zP K c H d xs):∀ n:Nat,zP K c H (zq n d).flatten (zq n xs).flatten
 | 0=>rfl
 | n+1=>by
  rw[JQ,JQ,Jo,Jo];exact zP.app h (zP.flat h n)
theorem Xs:Ad2 K Θ M.ZO Wn:=by
 intro g H S x y X Y Q f rx ry h;cases x with
 | int i =>
  cases y with
  | int j =>
   cases rx;cases ry;have h':zE K Θ (zL K) g H (if (M.qg i || M.qg j)=true then M.R.ok (M.D.int (i * j)) S else .no) Q:=h;by_cases d:(M.qg i || M.qg j)=true
   ·rw[if_pos d] at h';refine .inl ⟨?_,zE.here (b:=V.int (i * j)) h' f rfl⟩;rw[vx] at d;rcases d with d | d
    ·exact .inl (bI d)
    ·exact .inr (bI d)
   ·rw[if_neg d] at h';exact h'.elim
  | _=>exact h.elim
 | str a =>
  cases y with
  | int n =>
   obtain⟨rfl,m⟩:=rx;cases ry;have h':zE K Θ (zL K) g H (if 0 <= n/\n.natAbs <= 1000000/\a.length * n.natAbs <= 1000000 then M.R.ok (M.D.str (zq n.toNat a).flatten) S else .no) Q:=h;by_cases d:0 <= n/\n.natAbs <= 1000000/\a.length * n.natAbs <= 1000000
   ·rw[if_pos d] at h';have s:n.natAbs=n.toNat:=by lia
    refine .inl ⟨bb a n d.1 (by lia) (by rw[<- s];exact d.2.2),?_⟩;show Q (.str (vA (ofT a) n)) H;rw[GB a n d.1];refine zE.here h' f ⟨rfl,Km m λc d=>?_⟩;obtain⟨l,u,e⟩:=List.mem_flatten.mp d;rw[(List.mem_replicate.mp u).2] at e;exact e
   ·rw[if_neg d] at h';exact h'.elim
  | _=>exact h.elim
 | ref p =>
  cases y with
  | int n =>
   cases ry;have h':zE K Θ (zL K) g H (match M.z7 S p with | some xs=>if n.natAbs <= 1000/\xs.length * n.natAbs <= 1000000 then M.alloc (.lst (zq n.toNat xs).flatten) S else .no | none=>.no) Q:=h;cases q:S[p]? with
   | none=>simp only[M.z7,q] at h';exact h'.elim
   | some o =>
    cases o with
    | lst t =>
     simp only[M.z7,q] at h';obtain⟨a,rfl,v⟩:=rx;obtain⟨w,z,r⟩:=Z8 f v q;by_cases d:n.natAbs <= 1000/\t.length * n.natAbs <= 1000000
     ·rw[if_pos d] at h';have s:n.toNat <= n.natAbs:=by lia
      refine .inr ⟨a,n,w,rfl,rfl,z,by lia,by lia,?_,λp A=>zE.alloc h' f (zP.flat r n.toNat) A⟩;have hm:=Nat.mul_le_mul_left t.length s;rw[<- r.length,ZG]
      lia
     ·rw[if_neg d] at h';exact h'.elim
    | dct _=>simp only[M.z7,q] at h';exact h'.elim
    | fdc _=>simp only[M.z7,q] at h';exact h'.elim
    | dtt _=>simp only[M.z7,q] at h';exact h'.elim
    | ftt _=>simp only[M.z7,q] at h';exact h'.elim
    | ins _ _=>simp only[M.z7,q] at h';exact h'.elim
  | _=>exact h.elim
 | _=>exact h.elim
def UT (K:PySem.W.Frag):R2:=λx y H Q=>uIx K x y H Q\/∃ a v,x=.ref a/\yT H a y (some v)/\Q v H
theorem qR {X:Cx}{k:Nat} (i:zx k X.A):IxR X (UT X.K):=by
 refine IxR.or GD ?_;intro c d f s σ H x y v u Q I rx ry h j;obtain⟨a,l,rfl,g,q⟩:=h;cases rx;exact tail_any (dC I g) PySem.F.slot_dict_getitem.lookup (wZ (KE i) I g ry λn o m e=>⟨l,H,m,e,q⟩) j
noncomputable def Ak (K:PySem.W.Frag):List V->Hp->VK->Prop:=λxs H Q=>wL K xs H Q\/∃ a kvs,xs=[V.ref a]/\H a=some (.dK kvs)/\Q (.int kvs.length) H
theorem QI {X:Cx}:qX X (.builtin "len") (Ak X.K):=qX.or gw Bm
theorem qS:Ad2 K Θ M.ze (UT K):=by
 intro z H S x y X Y Q g rx ry h;cases x with
 | str a =>
  cases y with
  | int i =>
   obtain⟨rfl,A⟩:=rx;cases ry;have h':zE K Θ (zL K) z H (if a.length <= M.SZ then (match M.atI a i with | some c=>M.R.ok (M.D.str [c]) S | none=>.no) else .no) Q:=h;by_cases B:a.length <= M.SZ
   ·rw[if_pos B] at h';cases q:M.atI a i with
    | none=>rw[q] at h';exact h'.elim
    | some c =>
     rw[q] at h';refine .inl ⟨c,by rw[qy,<- yo];exact B,?_,zE.here (b:=V.str (ofT [c])) h' g ⟨rfl,Km A λd hd=>by
      have e:d=c:=by simpa using hd
      rw[e];unfold M.atI at q;cases I:M.ixN a.length i with
      | none=>rw[I] at q;cases q
      | some j=>rw[I] at q;exact yn q⟩⟩
     rw[J6];exact q
   ·rw[if_neg B] at h';exact h'.elim
  | _=>exact h.elim
 | tup t =>
  cases y with
  | int i =>
   obtain⟨l,xs,rfl,C,r⟩:=rx;cases ry;have h':zE K Θ (zL K) z H (match M.atI t i with | some d=>M.R.ok d S | none=>.no) Q:=h;cases q:M.atI t i with
   | none=>rw[q] at h';exact h'.elim
   | some d =>
    rw[q] at h';obtain⟨v,m,n⟩:=Yd r q;exact .inl ⟨xs,v,.inr C,m,zE.here h' g n⟩
  | _=>exact h.elim
 | ro t =>
  cases y with
  | int i =>
   obtain⟨l,xs,rfl,C,r⟩:=rx;cases ry;have h':zE K Θ (zL K) z H (match M.atI t i with | some d=>M.R.ok d S | none=>.no) Q:=h;cases q:M.atI t i with
   | none=>rw[q] at h';exact h'.elim
   | some d =>
    rw[q] at h';obtain⟨v,m,n⟩:=Yd r q;exact .inl ⟨xs,v,.inl C.sq,m,zE.here h' g n⟩
  | _=>exact h.elim
 | ref p =>
  obtain⟨a,rfl,E⟩:=rx;cases q:S[p]? with
  | none=>simp[M.ze,q] at h;exact h.elim
  | some o =>
   cases o with
   | lst xs =>
    cases y with
    | int i =>
     cases ry;obtain⟨J,m,r⟩:=Z8 g E q;cases f:M.atI xs i with
     | none=>simp[M.ze,q,f] at h;exact h.elim
     | some d =>
      simp[M.ze,q,f] at h;obtain⟨v,u,n⟩:=Yd r f;exact .inl ⟨J,v,.inl (SqL.of m),u,zE.here h g n⟩
    | _=>simp[M.ze,q] at h;exact h.elim
   | dct kvs =>
    by_cases s:M.z6 y=true
    case neg=>simp[M.ze,q,s] at h;exact h.elim
    obtain⟨ks,m,r⟩:=ZR g E q;obtain⟨k,G,rfl⟩:=Z0 s ry;have w:=r.val G;cases f:M.jD y kvs with
    | none=>simp[M.ze,q,s,f] at h;exact h.elim
    | some d =>
     simp[M.ze,q,s,f] at h;rw[f] at w;obtain⟨v,u,n⟩:=w;refine .inr ⟨a,v,rfl,?_,zE.here h g n⟩;rw[<- u];exact yT.k m
   | dtt _=>simp[M.ze,q] at h;exact h.elim
   | ftt _=>simp[M.ze,q] at h;exact h.elim
   | fdc kvs =>
    by_cases s:M.z6 y=true
    case neg=>simp[M.ze,q,s] at h;exact h.elim
    obtain⟨L,ks,m,r⟩:=Ai g E q;obtain⟨k,G,rfl⟩:=Z0 s ry;have w:=r.val G;cases f:M.jD y kvs with
    | none=>simp[M.ze,q,s,f] at h;exact h.elim
    | some d =>
     simp[M.ze,q,s,f] at h;rw[f] at w;obtain⟨v,u,n⟩:=w;refine .inr ⟨a,v,rfl,?_,zE.here h g n⟩;rw[<- u];exact (.inl ⟨ks,k,.inr ⟨L,m⟩,rfl,rfl⟩)
   | ins c fs=>simp[M.ze,q] at h;exact h.elim
 | _=>exact h.elim
theorem QF:AdN K Θ M.qJ (Ak K):=by
 intro m H S xs s Q d rx h
 match xs,rx,h with
 | [.str a],rx,h =>
  obtain⟨_,_,rfl,⟨rfl,_⟩,rfl⟩:=rx;have h':zE K Θ (zL K) m H (if a.length <= M.SZ then M.R.ok (M.D.int a.length) S else .no) Q:=h;by_cases e:a.length <= M.SZ
  ·rw[if_pos e] at h';refine .inl ⟨by rw[qy,<- yo];exact e,?_⟩;rw[qy];exact zE.here (b:=V.int a.length) h' d rfl
  ·rw[if_neg e] at h';exact h'.elim
 | [.tup f],rx,h =>
  obtain⟨_,_,rfl,⟨l,ys,rfl,g,r⟩,rfl⟩:=rx;exact .inl ⟨ys,.inr g,by rw[<- r.length];exact zE.here (b:=V.int f.length) h d rfl⟩
 | [.ro f],rx,h =>
  obtain⟨_,_,rfl,⟨l,ys,rfl,g,r⟩,rfl⟩:=rx;exact .inl ⟨ys,.inl g.sq,by rw[<- r.length];exact zE.here (b:=V.int f.length) h d rfl⟩
 | [.ref p],rx,h =>
  obtain⟨_,_,rfl,⟨a,rfl,j⟩,rfl⟩:=rx;cases q:S[p]? with
  | none=>simp[M.qJ,q] at h;exact h.elim
  | some o =>
   cases o with
   | lst xs =>
    simp[M.qJ,q] at h;obtain⟨n,i,r⟩:=Z8 d j q;exact .inl ⟨n,.inl (SqL.of i),by rw[<- r.length];exact zE.here (b:=V.int xs.length) h d rfl⟩
   | dct kvs =>
    simp[M.qJ,q] at h;obtain⟨ks,i,r⟩:=ZR d j q;exact .inr ⟨a,ks,rfl,i,by rw[<- Paired.length r];exact zE.here (b:=V.int kvs.length) h d rfl⟩
   | fdc _=>simp[M.qJ,q] at h;exact h.elim
   | dtt _=>simp[M.qJ,q] at h;exact h.elim
   | ftt _=>simp[M.qJ,q] at h;exact h.elim
   | ins c fs=>simp[M.qJ,q] at h;exact h.elim
 | [.non],_,h=>exact h.elim
 | [.bl _],_,h=>exact h.elim
 | [.int _],_,h=>exact h.elim
 | [.ty _],_,h=>exact h.elim
 | [],_,h=>exact h.elim
 | a::_::_,_,h=>cases a<;>exact h.elim
def XF (K:PySem.W.Frag) (neg:Bool):R2:=λx y H Q=>uIn K neg x y H Q\/∃ a o,y=.ref a/\yT H a x o/\Q (.bl (xor neg o.isSome)) H
theorem uJ {X:Cx}{k:Nat} (d:zx k X.A):OpR X (jv .In) (XF X.K false):=by
 refine OpR.or GC ?_;intro c s σ H x y v u Q I rx ry h;obtain⟨a,o,rfl,g,q⟩:=h;cases ry;exact DM (KE d) I g rx λf e=>⟨.bl o.isSome,H,e,rfl,by rw[YH] at q;exact q⟩
theorem gH {X:Cx}{k:Nat} (d:zx k X.A):OpR X (jv .NotIn) (XF X.K true):=by
 refine OpR.or B1 ?_;intro c s σ H x y v u Q I rx ry h;obtain⟨a,o,rfl,g,q⟩:=h;cases ry;exact hU (KE d) I g rx λf e=>⟨.bl (!o.isSome),H,e,rfl,by rw[YL] at q;exact q⟩
theorem Wm (r:zL K c H d v):yI v=M.flat d:=by
 cases d with
 | non=>cases r;rfl
 | bl _=>cases r;rfl
 | int _=>cases r;rfl
 | str _=>obtain⟨rfl,_⟩:=r;rfl
 | ty _=>cases r;rfl
 | ref _=>obtain⟨_,rfl,_⟩:=r;rfl
 | tup _=>obtain⟨_,_,rfl,_⟩:=r;rfl
 | ro _=>obtain⟨_,_,rfl,_⟩:=r;rfl
theorem f6 (r:zL K c H d v) (q:zL K c H e u):eqV v u=M.eqF d e:=by
 cases d with
 | non =>
  cases r;cases e with
  | str _=>obtain⟨rfl,_⟩:=q;rfl
  | ref _=>obtain⟨_,rfl,_⟩:=q;rfl
  | tup _=>obtain⟨_,_,rfl,_⟩:=q;rfl
  | ro _=>obtain⟨_,_,rfl,_⟩:=q;rfl
  | _=>cases q;rfl
 | bl _ =>
  cases r;cases e with
  | str _=>obtain⟨rfl,_⟩:=q;rfl
  | ref _=>obtain⟨_,rfl,_⟩:=q;rfl
  | tup _=>obtain⟨_,_,rfl,_⟩:=q;rfl
  | ro _=>obtain⟨_,_,rfl,_⟩:=q;rfl
  | _=>cases q;rfl
 | int _ =>
  cases r;cases e with
  | str _=>obtain⟨rfl,_⟩:=q;rfl
  | ref _=>obtain⟨_,rfl,_⟩:=q;rfl
  | tup _=>obtain⟨_,_,rfl,_⟩:=q;rfl
  | ro _=>obtain⟨_,_,rfl,_⟩:=q;rfl
  | _=>cases q;rfl
 | str x =>
  obtain⟨rfl,_⟩:=r;cases e with
  | str y=>obtain⟨rfl,_⟩:=q;exact bF x y
  | ref _=>obtain⟨_,rfl,_⟩:=q;rfl
  | tup _=>obtain⟨_,_,rfl,_⟩:=q;rfl
  | ro _=>obtain⟨_,_,rfl,_⟩:=q;rfl
  | _=>cases q;rfl
 | ty _=>cases r;rfl
 | ref _=>obtain⟨_,rfl,_⟩:=r;rfl
 | tup _=>obtain⟨_,_,rfl,_⟩:=r;rfl
 | ro _=>obtain⟨_,_,rfl,_⟩:=r;rfl
theorem w6:∀ {c:List M.D}{xs:List V},zP K g H c xs->xs.all yI=c.all M.flat
 | [],_,r=>by cases r;rfl
 | _::_,_,⟨y,ys,e,d,f⟩=>by subst e;rw[Zd,Zd,Wm d,w6 f]
theorem aw (rx:zL K d H x v):∀ {c:List M.D}{xs:List V},zP K d H c xs->inV v xs=M.Zl x c
 | [],_,r=>by cases r;rfl
 | _::_,_,⟨y,ys,e,f,g⟩=>by
  subst e;unfold inV M.Zl;rw[yp,yp,f6 f rx];have:=aw rx g;unfold inV M.Zl at this;rw[this]
theorem Y6 (a:M.T):∀ b:M.T,M.Q2 a b=true ↔ ∃ i,i+a.length <= b.length/\(b.drop i).take a.length=a
 | []=>by
  simp only[M.Q2,List.isEmpty_iff];constructor
  ·rintro rfl;exact⟨0,by simp,by simp⟩
  ·rintro ⟨i,h,e⟩
   simp at h;exact h.2
 | c::r=>by
  simp only[M.Q2,vx,Y6 a r];constructor
  ·rintro (h | ⟨i,h,e⟩)
   ·have:=List.isPrefixOf_iff_prefix.mp h;exact⟨0,by simpa using this.length_le,by simpa using (List.prefix_iff_eq_take.mp this).symm⟩
   ·exact⟨i+1,by simp;lia,by simpa using e⟩
  ·rintro ⟨i,h,e⟩
   cases i with
   | zero=>left;exact List.isPrefixOf_iff_prefix.mpr (List.prefix_iff_eq_take.mpr (by simpa using e.symm))
   | succ i=>right;exact⟨i,by simp at h;lia,by simpa using e⟩
theorem AQ (a b:M.T) (i:Nat):BD (ofT b) (ofT a) (ofT b).length i↔(i+a.length <= b.length/\(b.drop i).take a.length=a):=by
 unfold BD Hn;rw[qy,qy];refine and_congr_right λ_=>?_;rw[beq_iff_eq];constructor
 ·intro h;have:=congrArg AU h;simpa [ofT,KD] using this
 ·intro h;apply Array.ext';simpa [ofT,KD] using h
theorem Du (a b:M.T):(!(xb (ofT b) (ofT a) 0 (ofT b).length 1).isEmpty)=M.Q2 a b:=by
 rcases StrLaws.occ_head (ofT b) (ofT a) 1 (by decide) with ⟨e,h⟩ | ⟨i,r,e,h,_⟩
 ·rw[e];have:¬ M.Q2 a b=true:=λq=>by
   obtain⟨i,q⟩:=(Y6 a b).mp q;exact h i ((AQ a b i).mpr q)
  simpa using this
 ·rw[e];have:=(Y6 a b).mpr ⟨i,(AQ a b i).mp h⟩;simp[this]
theorem ay {neg:Bool}{S:M.S}{y:M.D}{Q:VK} (i:zS K Θ n S H) (rx:zL K n H x s) (ry:zL K n H y Y) (h:zE K Θ rB n H (M.inD x y S) (λb A=>Q (.bl (xor neg b)) A)):XF K neg s Y H Q:=by
 have seq:∀ {e:List M.D}{xs:List V}{a:zC},(SqL K H a xs\/SqT K H a xs)->zP K n H e xs->zE K Θ rB n H (if (M.flat x && e.all M.flat)=true then M.R.ok (M.Zl x e) S else .no) (λb A=>Q (.bl (xor neg b)) A)->uIn K neg s (.ref a) H Q:=λ{e xs a} t r h'=>by
  by_cases u:(M.flat x && e.all M.flat)=true
  ·rw[if_pos u] at h';rw[jl,<- Wm rx,<- w6 r] at u;have:=zE.here (b:=M.Zl x e) h' i rfl;rw[<- aw rx r] at this;have g:∃ xs,(SqL K H a xs\/SqT K H a xs)/\yI s=true/\xs.all yI=true/\Q (.bl (xor neg (inV s xs))) H:=⟨xs,t,u.1,u.2,this⟩
   cases s<;>exact g
  ·rw[if_neg u] at h';exact h'.elim
 cases y with
 | str b =>
  cases x with
  | str a =>
   obtain⟨rfl,_⟩:=rx;obtain⟨rfl,_⟩:=ry;refine .inl ?_;show Q (.bl (xor neg (!(xb (ofT b) (ofT a) 0 (ofT b).length 1).isEmpty))) H;rw[Du];exact zE.here (b:=M.Q2 a b) h i rfl
  | _=>exact h.elim
 | tup e =>
  obtain⟨l,xs,rfl,t,r⟩:=ry;exact .inl (seq (.inr t) r h)
 | ro e =>
  obtain⟨l,xs,rfl,t,r⟩:=ry;exact .inl (seq (.inl t.sq) r h)
 | ref p =>
  obtain⟨a,rfl,B⟩:=ry;cases q:S[p]? with
  | none=>simp[M.inD,q] at h;exact h.elim
  | some o =>
   cases o with
   | lst e =>
    obtain⟨G,w,r⟩:=Z8 i B q;refine .inl (seq (.inl (SqL.of w)) r ?_);simp only[M.inD,q] at h;exact h
   | dct kvs =>
    by_cases j:M.z6 x=true
    case neg=>simp[M.inD,q,j] at h;exact h.elim
    simp only[M.inD,q,if_pos j] at h;obtain⟨ks,w,r⟩:=ZR i B q;obtain⟨k,C,rfl⟩:=Z0 j rx;have f:=r.val C;refine .inr ⟨a,qN ks k,rfl,yT.k w,?_⟩;have m:(qN ks k).isSome=(M.jD x kvs).isSome:=by
     cases z:M.jD x kvs with
     | none=>rw[z] at f;rw[f];rfl
     | some d=>rw[z] at f;obtain⟨v,m,_⟩:=f;rw[m];rfl
    rw[m];exact zE.here (b:=(M.jD x kvs).isSome) h i rfl
   | dtt _=>simp[M.inD,q] at h;exact h.elim
   | ftt _=>simp[M.inD,q] at h;exact h.elim
   | fdc kvs =>
    by_cases j:M.z6 x=true
    case neg=>simp[M.inD,q,j] at h;exact h.elim
    simp only[M.inD,q,if_pos j] at h;obtain⟨E,ks,w,r⟩:=Ai i B q;obtain⟨k,C,rfl⟩:=Z0 j rx;have f:=r.val C;refine .inr ⟨a,qN ks k,rfl,(.inl ⟨ks,k,.inr ⟨E,w⟩,rfl,rfl⟩),?_⟩;have m:(qN ks k).isSome=(M.jD x kvs).isSome:=by
     cases z:M.jD x kvs with
     | none=>rw[z] at f;rw[f];rfl
     | some d=>rw[z] at f;obtain⟨v,m,_⟩:=f;rw[m];rfl
    rw[m];exact zE.here (b:=(M.jD x kvs).isSome) h i rfl
   | ins c fs=>simp[M.inD,q] at h;exact h.elim
 | _=>exact h.elim
theorem Yt:AdC K Θ M.cIn (XF K false):=by
 intro f H S x y m Y Q g rx ry h;refine ay g rx ry ?_;have h':zE K Θ rB f H (M.inD x y S) (λb i=>Q (.bl b) i):=h;revert h';cases M.inD x y S with
 | ok b s=>exact λh' c j n p l d e=>by cases e;rw[YH];exact h' c j b p l d rfl
 | exc e s=>exact λh'=>h'
 | no=>exact λh'=>h'
theorem E2:AdC K Θ M.JV (XF K true):=by
 intro i H S x y j Y Q d rx ry h;exact ay d rx ry (zE.bind h λf l b m S1 n l1 c e g=>by cases e;rw[YL];exact zE.here (b:=!b) g c rfl)
theorem w_mt_ofw {X:Cx} (h:WW X Θ e m):WT X Θ e m:=by
 delta WT WW at h ⊢
 exact PW.pt h
theorem Qt {X:Cx}:Zp X [] (RdT X.K Θ M.je):=λc s σ H Q I ⟨f,d,S,st,e,h⟩=>Dz c s σ H Q I (zE.here (b:=true) h e rfl)
theorem d4 {X:Cx} (h:WT X Θ c t):Zp X [c] (RdT X.K Θ t):=gG (by with_unfolding_all exact h)
theorem UF:∀ f σ d,(M.yV g (M.yV h M.Qx)) f σ=some d->f.length=2:=λf σ d e=>by
 match f,e with
 | [],e=>cases e
 | [a],e =>
  simp[M.yV] at e;split at e<;>cases e
 | [a,b],_=>rfl
 | a::b::c::r,e =>
  simp[M.yV,M.Qx] at e;split at e
  ·split at e<;>cases e
  ·cases e
theorem ao:∀ ns:List Int,zP K c H (ns.map .int) (ns.map V.int)
 | []=>rfl
 | n::ns=>⟨_,_,rfl,rfl,ao ns⟩
theorem HE {f:M.F} (c:∀ ns:List Int,ns.length <= 63->∃ s,f [.ro (ns.map .int)] []=.ok (.bl true) s) {a:zC}{ns:List Int} (d:ns.length <= 63) (g:Kw H) (j:SqL K H a (ns.map V.int)):SpM K Θ 1 f [.ref a] H (λv _=>v=.bl true) E:=by
 obtain⟨s,e⟩:=c ns d;refine⟨[],[.ro (ns.map .int)],[],rfl,⟨_,_,rfl,⟨a,ns.map V.int,rfl,?_,ao ns⟩,rfl⟩,⟨rfl,Z1,λi o q=>by simp at q⟩,?_⟩
 ·rcases j with (h | h) | h
  ·rcases g a with z | ⟨o,xs,z⟩
   ·rw[h] at z;cases z
   ·rw[h] at z;cases z
  ·exact .inl h
  ·exact .inr h
 ·rw[e];exact λl m b _ _ _ r=>r
end
section
variable {P:zi}{w:zy}{K:PySem.W.Frag}{mg:Str->Option zB}{base:zT}{Θ:Tab}
theorem gT {st:zh}{k:Nat}{b:M.SM} (F:Fun K x qual st f fd) (n:qO N ps (z3 st))
  (d:∀ (c:zB) (A:jh) (outer:List Env) (s:zG) (H:Hp) (E:XK),zx k (A.deeper (ZM qual (z3 st) s.heap.objs.size f c)) ->
   MSs (Ze CX0 P w K mg base N qual (z3 st) f c A outer s H E).nox Θ (qm st) b):jc P w K mg base CX0 (k+1) f fd ps (SpM K Θ ps.length (M.fn N.length b)):=by
 refine F.ok (k:=k) n (λo H Q E h=>?_) (λc A outer s H o Q E p h=>?_)
 ·obtain⟨i,g,S,m,r,_⟩:=h;rw[<- r.length,m]
 ·obtain⟨i,g,S,m,r,q,h⟩:=h;refine⟨_,d c A outer s H E p,i,_,S,WM r N,q,?_⟩;have h':zE K Θ (zL K) i H (b (g.map some++zq (N.length - g.length) none) S).out Q:=h;show zf K Θ i H (b (g.map some++zq (N.length - g.length) none) S) _;revert h';cases b (g.map some++zq (N.length - g.length) none) S with
  | rt a s=>exact λh'=>h'
  | nx a s=>exact λh' j t u v l1 l _=>h' j t .non v l1 l rfl
  | bk a s=>exact λh'=>h'.elim
  | ct a s=>exact λh'=>h'.elim
  | exc e a s=>exact λh'=>h'
  | no=>exact λh'=>h'
theorem w_fun_M0 {st:zh}{k:Nat}{b:M.SM} (F:Fun K x qual st f fd) (e:qO N ps (z3 st))
  (c:∀ (d:zB) (A:jh) (outer:List Env) (s:zG) (H:Hp) (E:XK),zx k (A.deeper (ZM qual (z3 st) s.heap.objs.size f d)) ->
   WSs (Ze CX0 P w K mg base N qual (z3 st) f d A outer s H E).nox Θ (qm st) b):jc P w K mg base CX0 (k+1) f fd ps (SpM K Θ ps.length (M.fn N.length b)):=by with_unfolding_all exact gT (x:=x) (qual:=qual) (st:=st) (f:=f) (fd:=fd) (N:=N) (ps:=ps) (k:=k) (b:=b) F e c
end
theorem av:j1 "sorted" = some (.builtin "sorted"):=by decide +kernel
theorem YF:j1 "max" = some (.builtin "max"):=by decide +kernel
end L2
namespace L2
open PySem PySem.Spec PyProof.Rows PySem.Builtin.Str
section
variable {K:PySem.W.Frag}{Θ:Tab}
theorem WR:∀ (ts:List M.T),(∀ t∈ts,okT t)->zP K d H (ts.map .str) ((ts.map ofT).map V.str)
 | [],_=>rfl
 | t::ts,h=>⟨_,_,rfl,⟨rfl,h t jI⟩,WR ts λx c=>h x (jV _ c)⟩
theorem xc {S:M.S}{p:Nat}{X:V}{d:List M.D} (g:zS K Θ c S H) (rx:zL K c H (.ref p) X) (e:S[p]? = some (.lst d)):∃ a xs,X=.ref a/\c[p]? = some a/\H a=some (.lst xs)/\zP K c H d xs:=by
 obtain⟨a,rfl,ha⟩:=rx;obtain⟨b,f,xs,h,r⟩:=g.obj p _ e;rw[ha] at f;cases f;exact⟨a,xs,rfl,ha,h,r⟩
theorem VD {H:Hp}{a:zC}{xs:List V} (h:H a=some (.lst xs)):Mut (H a):=by rw[h];trivial
theorem aC:AdM K Θ M.JF Uq:=by
 intro j H S x xs X m Q f rx c h;unfold M.JF at h;split at h
 ·rename_i p y;obtain⟨Y,r,rfl,ry,rfl⟩:=c;split at h
  ·rename_i n e;obtain⟨a,g,rfl,ha,d,i⟩:=xc f rx e;split at h
   ·rename_i l;have le:=Le.put (VD d) (.lst (g++[Y]));refine⟨a,g,Y,rfl,rfl,d,by rw[<- yo,<- i.length];exact l,?_⟩;exact h j _ _ (jN _) le (f.put ha (VD d) ⟨_,ju,(i.mono (jN _) le).app ⟨_,_,rfl,ry.mono (jN _) le,rfl⟩⟩) rfl
   ·exact h.elim
  ·exact h.elim
 ·exact h.elim
end
end L2
namespace L2
open PySem PySem.Spec PyProof.Rows PySem.Builtin.Str
section
variable {K:PySem.W.Frag}{Θ:Tab}
theorem Gr:AdN K Θ M.Kk (λxs H Q=>(∃ i,xs=[.int i]/\Q (.int i) H)\/∃ k,xs=[.bl k]/\Q (.int (if k then 1 else 0)) H):=by
 intro e H S xs f Q d c h;unfold M.Kk at h;split at h
 ·obtain⟨Y,r,rfl,ry,rfl⟩:=c;cases ry;exact .inl ⟨_,rfl,zE.here h d rfl⟩
 ·obtain⟨Y,r,rfl,ry,rfl⟩:=c;cases ry;exact .inr ⟨_,rfl,zE.here h d rfl⟩
 ·exact h.elim
end
end L2
namespace L2
open PySem PySem.Spec PyProof.Rows
section
variable {Θ:Tab}
theorem PS.or {X:Cx}{st:zh} (h:PS X st t) (h':PS X st t'):PS X st (λD σ H=>t D σ H\/t' D σ H):=λc s σ H D I q=>by
 rcases q with q | q
 ·exact h c s σ H D I q
 ·exact h' c s σ H D I q
theorem w_mg_tupM {X:Cx}{k:Nat}{pos:Pos}{n:Nat} (f:X.calm=true) (h:WGs X Θ i es g) (j:∀ e σ c,g e σ=some c->e.length=n) (l:(Qs es X.env).length=n:=by rfl) (d:(Qs es X.env).findIdx? (·.1)=none:=by rfl):WG X Θ i (.Tuple es k pos) (M.Qh g):=by
 delta WG WGs at h ⊢
 exact BJ (es:=es) (Fx f h l d) j
theorem ZW {H:Hp}{a:zC}{ks:List (Key×V)} (h:H a=some (.dK ks)):Mut (H a):=by rw[h];trivial
theorem Cb {X:Cx}{pos pos':Pos} (hr:zx n X.A) (ho:ME X Θ o mo) (hi:ME X Θ i mi) (he:ME X Θ e me)
  (ha:∀ v,QL (.Subscript o i pos') X.env v=(do
   let ov <- holding [v] (zu o X.env)
   let iv <- holding [v,ov] (zu i X.env)
   standAt pos'
   holding [v,ov,iv] (kJ ov iv v)
   release [v,ov,iv] []):=by intro _;rfl)
  (hs:UK [.Subscript o i pos'] e pos.line X.env=pure false:=by rfl) (hw:az [.Subscript o i pos'] e X.env=pure none:=by rfl) (h1:(Qs [.Subscript o i pos'] X.env).map (·.2)=[QL (.Subscript o i pos') X.env]:=by rfl)
  (hs2:Q3 e (some (.Subscript o i pos')) pos.line X.env=pure false:=by rfl):MS X Θ (.Assign [.Subscript o i pos'] e pos) (M.jE mo mi me) :=
 (PS.or (GN he (BK ho hi EE ha) hs hw h1) (D3 (by have:=hr.units;lia) ho hi he hs2)).up λD σ H E d S st rp h=>by
  have f:zf X.K Θ E H ((me d S).stm d λy s=>(mo d s).stm d λx s=>(mi d s).stm d λk s=>(M.qu x k y s).stm d λ_ s=>.nx d s) D:=h;clear h;cases N:me d S with
  | no=>rw[N] at f;exact f.elim
  | exc a s=>rw[N] at f;exact .inr ⟨E,d,S,st,rp,by rw[N];exact (show yl X.K Θ E H a s from f)⟩
  | ok y S1 =>
   rw[N,M.R.stm_ok] at f;cases Q:mo d S1 with
   | no=>rw[Q] at f;exact f.elim
   | exc a s=>rw[Q] at f;exact .inr ⟨E,d,S,st,rp,by rw[N];exact λg H1 v p l m rv=>⟨g,d,S1,st.mono p l,m,by rw[Q];exact yl.weak (show yl X.K Θ E H a s from f) p l⟩⟩
   | ok x S2 =>
    rw[Q,M.R.stm_ok] at f;cases U:mi d S2 with
    | no=>rw[U] at f;exact f.elim
    | exc a s=>rw[U] at f;exact .inr ⟨E,d,S,st,rp,by rw[N];exact λg H1 v p l m rv=>⟨g,d,S1,st.mono p l,m,by rw[Q];exact λw H2 v2 t u B rv2=>⟨w,d,S2,st.mono (p.trans t) (l.trans u),B,by rw[U];exact yl.weak (show yl X.K Θ E H a s from f) (p.trans t) (l.trans u)⟩⟩⟩
    | ok k S3 =>
     rw[U,M.R.stm_ok] at f;cases x with
     | ref p =>
      cases q:S3[p]? with
      | none=>simp only[M.qu,q] at f;exact f.elim
      | some ob =>
       cases ob with
       | lst xs =>
        cases k with
        | int j =>
         cases hj:M.ixN xs.length j with
         | none=>simp only[M.qu,q,hj] at f;exact f.elim
         | some j' =>
          simp only[M.qu,q,hj,M.R.stm_ok] at f;refine .inl ⟨E,d,S,st,rp,?_⟩;rw[N];intro g H1 Y G l1 m ry;refine⟨g,d,S1,st.mono G l1,m,?_⟩;rw[Q];intro w H2 Xv t u B rx;refine⟨w,d,S2,st.mono (G.trans t) (l1.trans u),B,?_⟩;rw[U];intro I H3 Kv J L C rk;obtain⟨a,zs,rfl,ha,hx,rz⟩:=xc C (rx.mono J L) q;cases rk;have le:=Le.put (VD hx) (.lst (zs.set j' Y));refine⟨a,zs,j,j',rfl,rfl,hx,by rw[<- rz.length];exact hj,?_⟩;exact f I _ σ (G.trans (t.trans J)) (l1.trans (u.trans (L.trans le))) (C.put ha (VD hx) ⟨_,ju,zP.set (ry.mono (t.trans J) (u.trans (L.trans le))) j' (rz.mono (jN _) le)⟩) (st.mono (G.trans (t.trans J)) (l1.trans (u.trans (L.trans le))))
        | _=>simp only[M.qu,q] at f;exact f.elim
       | dct kvs =>
        cases hk:(M.z6 k && decide (kvs.length < M.SZ)) with
        | false=>simp only[M.qu,q,hk] at f;exact f.elim
        | true =>
         have hk2:(if (M.z6 k && decide (kvs.length < M.SZ))=true then M.R.ok () (S3.set p (.dct (M.jA k y kvs))) else .no)=M.R.ok () (S3.set p (.dct (M.jA k y kvs))):=if_pos hk;simp only[M.qu,q,hk2,M.R.stm_ok] at f;rw[jl] at hk;refine .inr ⟨E,d,S,st,rp,?_⟩;rw[N];intro g H1 Y G l1 m ry;refine⟨g,d,S1,st.mono G l1,m,?_⟩;rw[Q];intro w H2 Xv t u B rx;refine⟨w,d,S2,st.mono (G.trans t) (l1.trans u),B,?_⟩;rw[U];intro I H3 Kv J L C rk;obtain⟨a,rfl,ea⟩:=rx.mono J L;obtain⟨b,e1,ks,e2,r⟩:=C.obj _ _ q;rw[ea] at e1;cases e1;obtain⟨kk,hkk,rfl⟩:=Z0 hk.1 rk;have le:=Le.put (ZW e2) (.dK (j4 ks kk Y));refine⟨a,_,rfl,xN.k e2 (by rw[<- Paired.length r,<- yo];exact of_decide_eq_true hk.2),?_⟩;have r':DR X.K I (upd H3 a (.dK (j4 ks kk Y))) kvs ks:=Paired.mapP r λa b z=>⟨z.1,z.2.mono (jN _) le⟩
         exact f I _ σ (G.trans (t.trans J)) (l1.trans (u.trans (L.trans le))) (C.put ea (ZW e2) ⟨_,ju,DR.put r' hkk (ry.mono (t.trans J) (u.trans (L.trans le)))⟩) (st.mono (G.trans (t.trans J)) (l1.trans (u.trans (L.trans le))))
       | fdc _=>simp only[M.qu,q] at f;exact f.elim
       | dtt _=>simp only[M.qu,q] at f;exact f.elim
       | ftt _=>simp only[M.qu,q] at f;exact f.elim
       | ins c fs=>simp only[M.qu,q] at f;exact f.elim
     | _=>exact f.elim
theorem w_ms_sub {X:Cx}{pos pos':Pos} (g:zx n X.A) (h:WE X Θ o mo) (hi:WE X Θ i mi) (j:WE X Θ e me)
  (ha:∀ v,QL (.Subscript o i pos') X.env v=(do
   let c <- holding [v] (zu o X.env)
   let d <- holding [v,c] (zu i X.env)
   standAt pos'
   holding [v,c,d] (kJ c d v)
   release [v,c,d] []):=by intro _;rfl)
  (l:UK [.Subscript o i pos'] e pos.line X.env=pure false:=by rfl) (hw:az [.Subscript o i pos'] e X.env=pure none:=by rfl) (m:(Qs [.Subscript o i pos'] X.env).map (·.2)=[QL (.Subscript o i pos') X.env]:=by rfl)
  (f:Q3 e (some (.Subscript o i pos')) pos.line X.env=pure false:=by rfl):WS X Θ (.Assign [.Subscript o i pos'] e pos) (M.jE mo mi me):=by with_unfolding_all exact Cb (X:=X) (o:=o) (i:=i) (e:=e) (mo:=mo) (mi:=mi) (me:=me) (pos:=pos) (pos':=pos') (n:=n) g h hi j ha l hw m f
end
end L2
namespace L2
open PySem PySem.Spec PyProof.Rows
section
variable {K:PySem.W.Frag}{Θ:Tab}
theorem uo:∀ {xs:List V}{us:List zB},xs.length=us.length->(∀ (j:Nat) u,us[j]? = some u->∃ x,xs[j]? = some x/\zX x u)->za xs us
 | [],[],_,_=>.nil
 | [],_::_,h,_=>by simp at h
 | _::_,[],h,_=>by simp at h
 | x::xs,u::us,h,k=>by
  obtain⟨y,e,r⟩:=k 0 u rfl;cases e;exact .cons r (uo (by simpa using h) λj u c=>by
   obtain⟨y,e,r⟩:=k (j+1) u (by simpa using c);exact⟨y,by simpa using e,r⟩)
theorem A6 {P:zi}{k:Key}{v:zB} (h:(jJ P w).is k v=true):zX (kV k) v:=by
 rcases Zr (k:=k) (v:=v) h with ⟨i,t,rfl,rfl⟩ | ⟨x,t,rfl,rfl⟩
 ·exact⟨t,rfl⟩
 ·exact⟨t,rfl⟩
noncomputable def Am (K:PySem.W.Frag):List V->Hp->VK->Prop:=λxs H Q=>(∃ p ys,xs=[.ref p]/\(SqL K H p ys\/SqT K H p ys)/\∀ l,H l=none->Q (.ref l) (upd H l (.lst ys))) \/
 ∃ p ks,xs=[.ref p]/\H p=some (.dK ks)/\∀ l,H l=none->Q (.ref l) (upd H l (.lst (ks.map λkv=>kV kv.1)))
theorem VO {X:Cx}{k:Nat} (l:zx k X.A):qX X (.type "list") (Am X.K):=by
 intro c s σ H xs us Q I r h;rcases h with h | ⟨p,ks,rfl,m,q⟩
 ·exact G6 c s σ H xs us Q I r h
 ·obtain⟨u,rfl,t⟩:=y6 r;cases t;obtain⟨z,lo,G,g,v⟩:=Qb I.hok m;obtain⟨ep,w⟩:=v.dictAt;have J:=g.length;refine ye (n:=1) I.tk (PySem.W.kdl_call (PySem.W.kdl_dict lo) l.hd w (by lia) λh' tk acc y keep B it f=>?_);obtain⟨hsz,hit⟩:=it;refine⟨.ref s.heap.objs.size,_,I.laid (t':=tk) (o:=.lst (ks.map λkv=>kV kv.1)) keep (zd _) ⟨by rw[z9];exact z,acc.toList,y,uo (by simp;lia) λj u C=>?_,by simpa using B⟩ f,rfl,q _ (I.hok.fresh (zd _))⟩;obtain⟨k,x,e,E⟩:=hit j u (by simpa using C);have L:j < ks.length:=by have:=(List.getElem?_eq_some_iff.mp e).1;lia
  have d:(ks.map (·.1))[j]? = some k:=by rw[g.keys,qG,e];rfl
  refine⟨kV k,?_,A6 E⟩;rw[qG] at d ⊢;cases i:ks[j]? with
  | none=>rw[i] at d;cases d
  | some kv=>rw[i] at d;cases d;rfl
theorem Yi:∀ {kvs:List (M.D×M.D)}{ks:List (Key×V)},DR K e H kvs ks->zP K e H (kvs.map (·.1)) (ks.map λkv=>kV kv.1)
 | _,_,.nil=>rfl
 | (d,_)::_,(k,_)::_,.cons h t=>by
  refine⟨_,_,rfl,?_,Yi t⟩;have c:qW d k:=h.1;cases d with
  | int i=>cases c;rfl
  | str x=>obtain⟨rfl,ok⟩:=c;exact⟨rfl,ok⟩
  | _=>exact c.elim
theorem vq:AdN K Θ M.y1 (Am K):=by
 intro n H S xs o Q f c h;unfold M.y1 at h;split at h
 ·obtain⟨Y,r,rfl,⟨a,g,rfl,j,i⟩,rfl⟩:=c;exact .inl ⟨a,g,rfl,.inr j,λp d=>zE.alloc h f i d⟩
 ·obtain⟨Y,r,rfl,⟨a,g,rfl,j,i⟩,rfl⟩:=c;exact .inl ⟨a,g,rfl,.inl j.sq,λp d=>zE.alloc h f i d⟩
 ·rename_i p;obtain⟨Y,r,rfl,ry,rfl⟩:=c;split at h
  ·rename_i q e;obtain⟨a,g,rfl,ha,l,i⟩:=xc f ry e;exact .inl ⟨a,g,rfl,.inl (SqL.of l),λp d=>zE.alloc h f i d⟩
  ·rename_i kvs e;obtain⟨a,rfl,ha⟩:=ry;obtain⟨ks,m,r⟩:=ZR f ha e;exact .inr ⟨a,ks,rfl,m,λp d=>zE.alloc h f (Yi r) d⟩
  ·exact h.elim
 ·exact h.elim
theorem W8 {c:List zC}{H:Hp}{S:M.S}{kvs:List (M.D×M.D)}{ks:List (Key×V)}{Q:VK} (h:zE K Θ (zL K) c H (M.alloc (.dct kvs) S) Q) (e:zS K Θ c S H) (r:DR K c H kvs ks) {p:zC} (d:H p=none):Q (.ref p) (upd H p (.dK ks)) :=
 h (c++[p]) _ _ (Zc _ _) (Le.new d _) (e.alloc d ⟨ks,ju,Paired.mapP r λ_ _ z=>⟨z.1,z.2.mono (Zc _ _) (Le.new d _)⟩⟩) ⟨p,rfl,by rw[<- e.len];simp⟩
theorem w_me_dnew {X:Cx}{pos:Pos}:WE X Θ (.Dict [] [] pos) M.qY:=by
 delta WE at ⊢
 exact eZ.up λσ H Q f c S st d h=>λp e=>W8 (kvs:=[]) h d .nil e
noncomputable def Jk {d:Type} (c:d->d->Bool) (y:d) (ys:List d):d:=ys.foldl (λb z=>if c z b then z else b) y
theorem aE {d:Type} (c:d->d->Bool) (y:d) (ys:List d):∀ k,k <= ys.length->(y::ys).getD (ZD (λi j=>c ((y::ys).getD i y) ((y::ys).getD j y)) k) y=Jk c y (ys.take k)
 | 0,_=>rfl
 | k+1,h=>by
  have g:=aE c y ys k (by lia);have e:ys.take (k+1)=ys.take k++[(y::ys).getD (k+1) y]:=by
   rw[JI,ZL (by lia)];simp[yC,show k < ys.length by lia]
  rw[e];unfold Jk at g ⊢;rw[CA,<- g];show (y::ys).getD (if c ((y::ys).getD (k+1) y) ((y::ys).getD (ZD _ k) y) then k+1 else ZD _ k) y=_;split
  ·rename_i f;simp only[Qi,Gb];rw[if_pos f]
  ·rename_i f;simp only[Qi,Gb];rw[if_neg f]
noncomputable def gtI (x y:Int):Bool:=decide (y < x)
theorem YG {ys:List Int}{its:List zB} (r:za (ys.map V.int) its) {i:Nat}{v:zB} (h:its[i]? = some v) (d:Int):∃ t,v=.int (ys.getD i d) t:=by
 have e:=r.length;have hi:i < its.length:=(List.getElem?_eq_some_iff.mp h).1;rw[z9] at e;obtain⟨u,c,f⟩:=r.get (i:=i) (x:=V.int (ys.getD i d)) (by rw[qG,yC,ZL (by lia)];rfl);rw[h] at c;cases c;exact f
theorem wY:∀ {c:List M.D}{ys:List V}{ns:List Int},M.qa c=some ns->zP K h H c ys->ys=ns.map V.int
 | [],_,_,e,r=>by cases e;cases r;rfl
 | .int x::c,_,_,e,r=>by
  obtain⟨y,ys,rfl,f,g⟩:=r;cases f;have d:(M.qa c).map (x :: ·)=some _:=e;cases q:M.qa c with
  | none=>rw[q] at d;cases d
  | some i =>
   rw[q] at d;cases d;rw[wY q g];rfl
 | .non::_,_,_,e,_=>by cases e
 | .bl _::_,_,_,e,_=>by cases e
 | .str _::_,_,_,e,_=>by cases e
 | .tup _::_,_,_,e,_=>by cases e
 | .ro _::_,_,_,e,_=>by cases e
 | .ref _::_,_,_,e,_=>by cases e
 | .ty _::_,_,_,e,_=>by cases e
theorem wg:∀ (ys:List Int) (y:Int),Jk gtI y ys=ys.foldl (λb y=>if b < y then y else b) y
 | [],_=>rfl
 | z::ys,y=>by
  have c:=wg ys;unfold Jk at c ⊢;rw[Qi,Qi];have e:(if gtI z y=true then z else y)=if y < z then z else y:=by unfold gtI;simp
  rw[e];exact c _
end
end L2
namespace L2
open PySem PySem.Spec PyProof.Rows
section
variable {P:zi}{w:zy}{A:jh}{E:zB->zG->Prop}{s:zG}
def Ew (h:zT) (z TI TO:zC) (c:zB) (b:Bool):Prop:=h.get? z=some { cls:=.type "zip",dict:=none,data:=.fields #[c,.bool b,.bool false,.ref TI,.ref TO],slots:=#[] }
structure ZSt (z TI TO i1 i2 l1 l2:zC) (xs ys:Array zB) (i:Nat) (h:zT):Prop where
 zp:∃ f0 b,Ew h z TI TO f0 b/\((i=0/\f0=.none)\/∃ (T:zC) (o:Obj),f0=Qo T/\h.get? T=some o)
 ti:QW h TI (.ref i1) (.ref i2)
 to:∃ a b,QW h TO a b
 n1:h.IsTupleIter i1 l1 i
 n2:h.IsTupleIter i2 l2 i
 t1:h.IsTuple l1 xs
 t2:h.IsTuple l2 ys
theorem ck {a:zC}{Q:Option Obj->zG->Prop} (h:Q (s.heap.get? a) s):wpAny (zI P w) A (loadIfAlive a) Q E s:=λ_ _ _=>h
structure ZLp (lo z TO i1 i2 S:zC) (xs ys:List zB) (h0 h:zT) (ps:List zC):Prop where
 its:∀ (j:Nat) p,ps[j]? = some p->lo <= p/\∃ x y,xs[j]? = some x/\ys[j]? = some y/\QW h p x y
 keep:∀ b o,b≠S->b≠z->b≠TO->b≠i1->b≠i2->h0.get? b=some o->h.get? b=some o
 nd:ps.Nodup
end
end L2
namespace L2
open PySem PySem.Spec PyProof.Rows
inductive JZ:Hp->List (V×V)->List V->Hp->Prop
 | nil (H:Hp):JZ H [] [] H
 | cons {H H':Hp}{a:zC}{x y:V}{r:List (V×V)}{zs:List V} (h:H a=none) (t:JZ (upd H a (.tup [x,y])) r zs H'):JZ H ((x,y)::r) (.ref a::zs) H'
theorem JZ.le (h:JZ H r e c):Le H c:=by
 induction h with
 | nil=>exact Le.refl _
 | cons h t d=>exact (Le.new h _).trans d
theorem EX {X:Cx}{d:List (zC×Obj)}{lo:Nat} (E:X.s₀.heap.objs.size <= lo) (G:X.env.locals < lo) (m:∀ x c,X.env.cells.lookup x=some c->c < lo) (n:∀ p∈X.pn++d,p.1 < lo) :
  ∀ (r:List (V×V)) (us:List (zB×zB)) (ps:List zC) (H:Hp),Inv X d σ H s->Paired (λ(a:V×V) (b:zB×zB)=>zX a.1 b.1/\zX a.2 b.2) r us->ps.length=us.length->(∀ (j:Nat) p,ps[j]? = some p->lo <= p/\∃ u v,us[j]? = some (u,v)/\QW s.heap p u v)->ps.Nodup->(∀ p∈ps,H p=none) ->
   ∃ f,Inv X d σ f s/\JZ H r (ps.map V.ref) f/\∀ a,a∉ps->f a=H a:=by
 intro r us ps H I J
 induction J generalizing ps H with
 | nil =>
  intro h _ _ _;have:ps=[]:=List.length_eq_zero_iff.mp h;subst this;exact⟨H,I,.nil H,λ_ _=>rfl⟩
 | @cons a b r us B t M =>
  intro h C nd o;cases ps with
  | nil=>simp at h
  | cons p ps =>
   obtain⟨x,y⟩:=a;obtain⟨u,v⟩:=b;rw[Jt] at nd;obtain⟨i,Y,v',e,g⟩:=C 0 p rfl;cases e;have N:jQ X.prog X.w (upd H p (.tup [x,y])) s.heap p (.tup [x,y]):=⟨show 2 <= zc by decide,[u,v],.cons B.1 (.cons B.2 .nil),⟨_,g,rfl,_,rfl⟩⟩
   have Q:Inv X d σ (upd H p (.tup [x,y])) s:=I.track (qD E i) (o p jI) (qd (jR G i)) (λx c e=>z4 (jR (m x c e) i)) (λq l=>z4 (jR (n q l) i)) N;obtain⟨f,U,L,k⟩:=M ps _ Q (by simpa using h) (λj q e=>C (j+1) q (by simpa using e)) nd.2 λq l=>by
    have A:q≠p:=λz=>nd.1 (z ▸ l);rw[zl A];exact o q (jV _ l)
   refine⟨f,U,.cons (o p jI) L,λa ha=>?_⟩;rw[EV,not_or] at ha;rw[k a ha.2,zl ha.1]
noncomputable def wO:List V->Hp->VK->Prop:=λxs H Q=>∃ i,xs=[.int i]/\i.natAbs.log2 < 1920/\Q (.str (toString i)) H
theorem d5 {X:Cx}:qX X (.type "str") wO:=fI
theorem Cr (i:Int):(vh (toString i))=ofT (M.x8 i):=by
 rw[Str.ofString_eq_toList];rfl
theorem En (i:Int):okT (M.x8 i):=List.all_eq_true.mpr λc e=>by
 obtain⟨d,_,rfl⟩:=List.mem_map.mp e;have:=d.valid;rw[decide_eq_true_iff];rcases this with h | h
 ·exact Xc h (by decide)
 ·exact h.2
theorem Bn {K:PySem.W.Frag}:AdN K f M.XE wO:=by
 intro g H S xs j Q e d h;unfold M.XE at h;split at h
 ·rename_i i;obtain⟨Y,r,rfl,ry,rfl⟩:=d;cases ry;by_cases c:M.qg i=true
  ·rw[if_pos c] at h;unfold M.qg at c;rw[decide_eq_true_iff] at c;refine⟨i,rfl,?_,?_⟩
   ·by_cases hz:i.natAbs=0
    ·rw[hz];decide
    ·exact Xc ((Nat.log2_lt hz).mpr (show i.natAbs < 2 ^ 64 from c)) (by decide)
   ·show Q (.str (vh (toString i))) H;rw[Cr];exact zE.here h e ⟨rfl,En i⟩
  ·rw[if_neg c] at h;exact h.elim
 ·exact h.elim
end L2
namespace L2
open PySem PySem.Spec PyProof.Rows
section
variable {K:PySem.W.Frag}{Θ:Tab}
theorem Bq:Ad2 K Θ M.Yj (λx y H Q=>match x,y with | .int i,.int j=>Q (.int (i+j)) H | .str a,.str b=>a.length+b.length <= zc/\Q (.str (a++b)) H | _,_=>False):=by
 intro e H S x y X Y Q d rx ry h;cases x with
 | int i =>
  cases y with
  | int j=>cases rx;cases ry;exact zE.here (b:=V.int (i+j)) h d rfl
  | _=>exact h.elim
 | str a =>
  cases y with
  | str b =>
   obtain⟨rfl,oa⟩:=rx;obtain⟨rfl,ob⟩:=ry;have h':zE K Θ (zL K) e H (if a.length+b.length <= M.SZ then M.R.ok (M.D.str (a++b)) S else .no) Q:=h;by_cases c:a.length+b.length <= M.SZ
   ·rw[if_pos c] at h';refine⟨by rw[qy,qy,<- yo];exact c,?_⟩;rw[Uz];exact zE.here h' d ⟨rfl,VB oa ob⟩
   ·rw[if_neg c] at h';exact h'.elim
  | _=>exact h.elim
 | _=>exact h.elim
theorem AR:AdN K Θ M.xn (λxs H Q=>∃ i j,xs=[.int i,.int j]/\Q (.int (if j > i then j else i)) H):=by
 intro f H S xs g Q d c h;unfold M.xn at h;split at h
 ·rename_i i j;obtain⟨Y,r,rfl,ry,Z,l,rfl,e,rfl⟩:=c;cases ry;cases e;exact⟨i,j,rfl,zE.here h d rfl⟩
 ·exact h.elim
end
end L2
namespace L2
open PySem PySem.Spec PyProof.Rows
structure HW (K:PySem.W.Frag) (Θ:Tab) (c:Nat) (C:zC) (N:List Str):Prop where
 tab:Θ c=some (C,N)
 cl:Cls K C
 no:∀ f∈N,Cs K C f
 few:N.length < 999
 nd:N.Nodup
structure Hv (P:zi) (w:zy) (K:PySem.W.Frag) (mg:Str->Option zB) (base:zT) (C:zC) (m:Str) (k:Nat) (ps:List Str) (sp:Sp):Prop where
 ex:∃ f fd,jc P w K mg base CX0 k f fd ps sp/\QJ K fd ps []/\EF K C m f
structure Hk (P:zi) (w:zy) (K:PySem.W.Frag) (mg:Str->Option zB) (base:zT) (C:zC) (x:Str) (k:Nat) (ps:List Str) (sp:Sp):Prop where
 ex:∃ f fd,jc P w K mg base CX0 k f fd ps sp/\QJ K fd ps []/\Mk K C f/\mg x=some (.ref C)
end L2
namespace L2
open PySem PySem.Spec PyProof.Rows
def SIt (b:Bool) (h:zT) (it a:zC) (i:Nat):Prop:=match b with | true=>h.IsListIter it a i | false=>h.IsTupleIter it a i
section
variable {P:zi}{w:zy}{A:jh}{E:zB->zG->Prop}{s:zG}
structure ZAt (b1 b2:Bool) (z TI TO i1 i2 l1 l2:zC) (i:Nat) (h:zT):Prop where
 zp:IsZip h z TI TO .none
 ti:QW h TI (.ref i1) (.ref i2)
 to:∃ a b,QW h TO a b
 n1:SIt b1 h i1 l1 i
 n2:SIt b2 h i2 l2 i
end
theorem Inv.turnedL {X:Cx}{h':zT}{t':Nat}{ch:List zC} (I:Inv X d σ H s) (f:∀ b∈ch,Z3 X d H b)
  (k:∀ b q,b∉ch->s.heap.get? b=some q->h'.get? b=some q) (j:0 < t'):Inv X d σ H { s with heap:=h',toks:=t' }:=by
 have h:∀ {b:zC}{u:HO},H b=some u->b∉ch:=λq z=>by rw[(f _ z).1] at q;cases q
 refine I.step (g':=s.gens) (d':=s.drawn) (ch:=ch) (λb i=>⟨(f b i).2.2.2.1,(f b i).2.1,(f b i).2.2.2.2.1,(f b i).2.2.2.2.2⟩) (λb q _ _ e g _=>k b q e g) (λb q _ _ e g _=>⟨q.slots,k b q e g⟩)
  (λ_ _ _ _ n=>n) (λb q e g=>⟨q,k b q e g⟩) (λ_ _ g=>g) (λ_ _ _ g=>g) (λb ps g=>⟨#[],by rw[g];simp⟩) (λm hm=>?_) (λb u g=>?_) I.bare j
 ·obtain⟨q,es,ep,l,r⟩:=hm;exact⟨q,es,ep,k _ q (λz=>(f _ z).2.1 rfl) l,r⟩
 ·refine (I.hok b u g).stay (λc v e q=>?_) (λc q=>q) λc xs q=>q;rcases e with z | z
  ·rw[z] at q ⊢;exact k _ _ (h g) q
  ·exact k _ _ (h z) q
section
variable {Θ:Tab}
theorem BP {S:M.S}{c:List M.D} (e:M.z7 S p=some c):S[p]? = some (.lst c):=by
 unfold M.z7 at e;split at e
 ·rename_i d f;cases e;exact f
 ·cases e
end
end L2
namespace L2
open PySem PySem.Spec PyProof.Rows
section
variable {X:Cx}{Θ:Tab}{K:PySem.W.Frag}
noncomputable def WX:V->List V->Hp->VK->Prop:=λx c H Q=>∃ a y o,x=.ref a/\yT H a y o/\((c=[y]/\Q (o.getD .non) H)\/∃ d,c=[y,d]/\Q (o.getD d) H)
theorem vE {k:Nat} (j:zx k X.A):MtM X "dict.get" WX:=by
 intro l s σ H x C v us Q I rx m h;obtain⟨a,y,o,rfl,g,q⟩:=h;cases rx;rcases q with ⟨rfl,q⟩ | ⟨d,rfl,q⟩
 ·obtain⟨u,rfl,n⟩:=m.one;exact GH (KE j) I g n λp r c e=>⟨_,H,c,e,q⟩
 ·obtain⟨f,i,rfl,t,w⟩:∃ f i,us=[f,i]/\zX y f/\zX d i:=by
   cases m with
   | cons z t1 =>
    cases t1 with
    | cons B t2=>cases t2;exact⟨_,_,rfl,z,B⟩
  exact Fm (KE j) I g t w λp r c e=>⟨_,H,c,e,q⟩
theorem vb:AdM K Θ M.yh WX:=by
 intro t H S x xs X u Q e rx f h;unfold M.yh at h;split at h
 ·rename_i p y;obtain⟨Y,r,rfl,ry,rfl⟩:=f;split at h
  ·rename_i kvs q;obtain⟨a,rfl,i⟩:=rx;split at h
   ·rename_i j;obtain⟨ks,l,r⟩:=ZR e i q;obtain⟨k,m,rfl⟩:=Z0 j ry;have c:=r.val m;refine⟨a,_,qN ks k,rfl,yT.k l,.inl ⟨rfl,?_⟩⟩;cases g:M.jD y kvs with
    | none=>rw[g] at c h;rw[show qN ks k=none from c];exact zE.here h e rfl
    | some d =>
     rw[g] at c h;obtain⟨v,n,o⟩:=c;rw[n];exact zE.here h e o
   ·exact h.elim
  ·exact h.elim
 ·rename_i p y d;obtain⟨Y,r,rfl,ry,Z,w,rfl,s,rfl⟩:=f;split at h
  ·rename_i kvs q;obtain⟨a,rfl,i⟩:=rx;split at h
   ·rename_i j;obtain⟨ks,l,r⟩:=ZR e i q;obtain⟨k,m,rfl⟩:=Z0 j ry;have c:=r.val m;refine⟨a,_,qN ks k,rfl,yT.k l,.inr ⟨Z,rfl,?_⟩⟩;cases g:M.jD y kvs with
    | none=>rw[g] at c h;rw[show qN ks k=none from c];exact zE.here h e s
    | some d =>
     rw[g] at c h;obtain⟨v,n,o⟩:=c;rw[n];exact zE.here h e o
   ·exact h.elim
  ·exact h.elim
 ·exact h.elim
end
end L2
namespace L2
open PySem PySem.Spec PyProof.Rows
noncomputable def qV (xs:List Str):Nat->List Str
 | 0=>[]
 | i+1=>match xs[i]? with
  | some x=>if x∈qV xs i then qV xs i else qV xs i++[x]
  | none=>qV xs i
theorem Ae (xs:List Str):∀ i,(qV xs i).length <= i
 | 0=>zd _
 | i+1=>by
  have:=Ae xs i;unfold qV;split
  ·split
   ·lia
   ·simp;lia
  ·lia
theorem Y9 {xs:List Str}{i:Nat}{x:Str} (e:xs[i]? = some x):qV xs (i+1)=if x∈qV xs i then qV xs i else qV xs i++[x]:=by rw[qV,e]
abbrev Z7 (P:zi) (w:zy) (h:zT) (a:zC) (l:List Str):Prop:=h.SetOf (PySem.strKind P w) a (λk=>decide (k∈l)) l.length
theorem Z7.at {P:zi}{h':zT}{a:zC} (x:Z7 P w h a l) (e:∀ o,h.get? a=some o->h'.get? a=some o):Z7 P w h' a l:=by
 obtain⟨o,es,ep,t,c,jn⟩:=x;exact⟨o,es,ep,t,e _ c,jn⟩
section
variable {P:zi}{w:zy}{A:jh}{E:zB->zG->Prop}{s:zG}
theorem FT {R:xU->zG->Prop}{xs:List Str}{Pv:Nat->zB->Prop}{St:Nat->zG->Prop} (W:WalksS P w A.in1 I M l G xs.length Pv St) (D:zC) (C:D∉M) (N:∀ i v,Pv i v->∃ x t,xs[i]? = some x/\v=.str x t) (g:xs.length+1 < vW) :
  ∀ (k i:Nat) (s:zG),xs.length - i=k->i <= xs.length->St i s->Z7 P w s.heap D (qV xs i)->(∀ f,Moved (D::l) G s f->Z7 P w f.heap D (qV xs xs.length)->R (.ok (.ret .none)) f) ->
   codeAny (zI P w) A (.builtin "set.update.loop" ⟨[.ref D,.ref I],[]⟩) R s:=by
 have H:D∉l:=λh=>C (W.sub _ h);have sb:∀ b∈l,b∈D::l:=λb g=>jV _ g;intro k
 induction k with
 | zero =>
  intro i s Q hi st m n;have e:i=xs.length:=by lia
  subst e;refine QG Dc ?_;rw[Xa Wf _];show wpAny (zI P w) A.in1 (QB (.ref I) >>= _) _ _ s;refine wpAny_bind (W.done s _ _ st λf hm=>?_);show wpAny (zI P w) A.in1 (ret ZH) _ _ f;exact wpAny_pure (n f (hm.mono sb) (m.at λo p=>hm.heap D _ H p))
 | succ k U =>
  intro i s Q hi st m n;have lt:i < xs.length:=by lia
  refine QG Dc ?_;rw[Xa Wf _];show wpAny (zI P w) A.in1 (QB (.ref I) >>= _) _ _ s;refine wpAny_bind (W.item i s _ _ lt st λv f Y q hm=>?_);obtain⟨x,t,ex,rfl⟩:=N i v Y;have r:Z7 P w f.heap D (qV xs i):=m.at λo p=>hm.heap D _ H p;have J:(PySem.strKind P w).is x (.str x t)=true:=by simp[PySem.strKind,A7]
  show wpAny (zI P w) A.in1 (holding [k8 x t] (setAdd D (.str x t)) >>= _) _ _ f;refine wpAny_bind (y4 ?_);unfold setAdd;refine y4 ?_;refine wpAny_bind ((PySem.strKind P w).pyHash (k:=x) J ?_);have j:(qV xs i).length+1 < vW:=by have:=Ae xs i;lia
  refine wpAny_setAddHashed_of (knd:=PySem.strKind P w) (s:={ f with toks:=f.toks+1 }) J rfl r j λh' L u=>?_;have y:Z7 P w h' D (qV xs (i+1)):=by
   refine SetOf_congr u (λk'=>?_) ?_
   ·rw[Y9 ex];by_cases c:x∈qV xs i
    ·rw[if_pos c];by_cases d:k'=x
     ·subst d;simp[c]
     ·simp[d]
    ·rw[if_neg c];simp
   ·rw[Y9 ex];by_cases c:x∈qV xs i
    ·rw[if_pos c,if_pos (decide_eq_true c)]
    ·rw[if_neg c,if_neg (by simp[c])];simp
  refine wpAny_pure ⟨Xl Wf _,U (i+1) _ (by lia) lt (W.frame _ f _ _ q (kU _) λb g o e=>?_) y λs2 z B=>?_⟩
  ·rw[L.2 b (λh:b=D=>C (by rw[<- h];exact g))];exact e
  ·refine n s2 (Dl W.gtrans ((hm.mono sb).then_heap (kU _) λb o g e=>?_) z) B;rw[L.2 b (λh:b=D=>g (by rw[h];exact jI))];exact e
set_option maxHeartbeats 4000000 in
theorem Bp {l:zC}{its:List zB}{xs:List Str}{Q:zB->zG->Prop} (I:A.handled=none) (y:s.heap.IsList l its.toArray) (J:its.length=xs.length) (hi:∀ (i:Nat) (v:zB),its[i]? = some v->∃ x t,xs[i]? = some x/\v=.str x t) (L:xs.length+1 < vW)
  (q:∀ (h':zT) (tk:Nat),s.toks <= tk->Z7 P w h' s.heap.objs.size (qV xs xs.length)->(∀ b o,s.heap.get? b=some o->h'.get? b=some o)->Q (.ref s.heap.objs.size) { s with heap:=h',toks:=tk }) :
  wpAny (zI P w) A (call (.type "set") [.ref l]) Q E s:=by
 obtain⟨c,tl,z⟩:=PySem.F.called_set.mro;have m:=PySem.F.called_set.made;have B:=PySem.F.called_set.sub;have h1:=PySem.F.called_set.notType;have h2:=PySem.F.called_set.canCreate;have M:=PySem.F.typeCall_set_1 (.ref l);refine Wr (codeAny_of_tree ?_);show wpAny (zI P w) _ (callAny (.type "set") _) _ _ _;refine wpAny_pure ⟨Code.quiet_builtin _ (by decide +kernel),QG PySem.F.entry_type_call ?_⟩;rw[Around.under_plain (weight_type_call_type "set" [.ref l] []) rfl]
 repeat (any_goals (first | assumption | wp_step))
 refine vJ (code_set_new_1 (.ref l) (E:=E) (Q₁:=λobj s1=>∃ b:Bool,obj=.ref s.heap.objs.size/\s1={ s with heap:=s.heap.push { cls:=.type "set",dict:=none,data:=.set #[] 0 (.fresh 0 0 b) } }) λb=>⟨b,rfl,rfl⟩) λr s1 n=>?_;cases r with
 | error e=>exact n
 | ok fl =>
  cases fl with
  | ret obj =>
   obtain⟨b,rfl,rfl⟩:=n;have C:(s.heap.push { cls:=.type "set",dict:=none,data:=.set #[] 0 (.fresh 0 0 b) }).get? s.heap.objs.size=some { cls:=.type "set",dict:=none,data:=.set #[] 0 (.fresh 0 0 b) }:=qU _ rfl;have N:bE { s with heap:=s.heap.push { cls:=.type "set",dict:=none,data:=.set #[] 0 (.fresh 0 0 b) } } (.ref s.heap.objs.size) "set" := ⟨_,C,rfl⟩
   have U:=PySem.F.called_set.init.lookup;have Y:=PySem.F.called_set.init.bind (.ref s.heap.objs.size)
   repeat (any_goals (first | assumption | wp_step))
   refine vJ (dg (R:=wants (λr G=>r=.none/\∃ h' tk,s.toks <= tk/\G={ s with heap:=h',toks:=tk }/\Z7 P w h' s.heap.objs.size (qV xs xs.length)/\∀ b o,s.heap.get? b=some o->h'.get? b=some o) E) PySem.F.called_set.init.plain PySem.F.entry_set_init (check_set_init_1 N ?_)) λr2 G f=>?_
   ·have lt:l < s.heap.objs.size:=by obtain⟨o,e,_⟩:=y;exact zm e
    obtain⟨⟨oc,od,oda,p⟩,gl,cl,nl,dl⟩:=y;simp only at cl dl;subst cl;subst dl;have gl1:(s.heap.push { cls:=.type "set",dict:=none,data:=.set #[] 0 (.fresh 0 0 b) }).get? l=some { cls:=.type "list",dict:=od,data:=.seq its.toArray nl,slots:=p }:=jK _ gl;have k1:=PySem.F.sub_list_set;have k2:=PySem.F.sub_list_frozenset;have k3:(Qr "list" == Qr "dict")=false:=by decide
    have h:(s.heap.push { cls:=.type "set",dict:=none,data:=.set #[] 0 (.fresh 0 0 b) }).IsList l its.toArray:=⟨_,gl1,rfl,nl,rfl⟩
    unfold Builtin.«set.__init__» noKeywords Ht;generalize u:XC=PI
    wp_walk
    subst u;refine uK h ?_;refine wpAny_bind (wpAny_runValue ?_);have n1:(s.heap.push { cls:=.type "set",dict:=none,data:=.set #[] 0 (.fresh 0 0 b) }).objs.size=s.heap.objs.size+1:=QT ..;have ni:l≠(s.heap.push { cls:=.type "set",dict:=none,data:=.set #[] 0 (.fresh 0 0 b) }).objs.size:=by rw[n1];exact z4 (xK lt)
    have nf:s.heap.objs.size∉[(s.heap.push { cls:=.type "set",dict:=none,data:=.set #[] 0 (.fresh 0 0 b) }).objs.size,l]:=by
     rw[n1];intro hm;rcases List.mem_cons.mp hm with e | hm
     ·exact absurd e (z4 (xS _))
     ·exact absurd (List.mem_singleton.mp hm) (qd lt)
    have W:=(UR (prog:=P) (w:=w) (A:=A.in1.in1.in1) I _ l ni its.toArray).toS;have ez:its.toArray.size=xs.length:=by rw[jw];exact J
    rw[ez] at W;refine FT W s.heap.objs.size nf (λi v hv=>hi i v (by simpa using hv)) L xs.length 0 _ (by lia) (ZJ _) ⟨⟨_,qU _ rfl,rfl,rfl⟩,h.push _⟩ ?_ λs' hm g=>?_
    ·exact SetOf_congr ((setObjOf_fresh (knd:=PySem.strKind P w) b).setOf (jK _ C) (by unfold vW;lia)) (λ_=>rfl) rfl
    ·rw[gq hm];refine wpAny_pure ?_;show wpAny (zI P w) _ (ret ZH) _ _ _;refine wpAny_pure ⟨rfl,_,_,hm.toks,rfl,g,λc o e=>hm.heap c o (λd=>?_) (jK _ (jK _ e))⟩;have H:=zm e;rcases List.mem_cons.mp d with j | d
     ·exact z4 H j
     ·have j:=List.mem_singleton.mp d;rw[n1] at j;exact z4 (xK H) j
   ·cases r2 with
    | error e=>exact f
    | ok f2 =>
     cases f2 with
     | ret r =>
      obtain⟨rfl,h',tk,ht,rfl,g,hk⟩:=f
      repeat (any_goals (first | assumption | wp_step))
      exact q _ _ ht g hk
     | _=>exact f.elim
  | _=>exact n.elim
theorem fj {a:zC}{Q:zB->zG->Prop} (h:Z7 P w s.heap a l) (q:Q (.int l.length (s.toks+1)) { s with toks:=s.toks+1+1 }):wpAny (zI P w) A (call (.builtin "len") [.ref a]) Q E s:=by
 obtain⟨o,es,ep,t,d,c,hd,_,_,e,f,g⟩:=h;have i:es.size < 4096:=e;refine call_len_set d c hd f (by lia) ?_;rw[g];exact q
end
noncomputable def A9 (K:PySem.W.Frag):List V->Hp->VK->Prop:=λc H Q=>∃ a xs,c=[.ref a]/\SqL K H a (xs.map V.str)/\xs.length <= 1000/\Q (.int (qV xs xs.length).length) H
section
variable {X:Cx}{Θ:Tab}{xl xz:Str}{pl pz pos pos2:Pos}{a:zQ}{t:TA}{k:Nat}
theorem An:∀ {xs:List Str}{us:List zB},za (xs.map V.str) us->∀ (i:Nat) (v:zB),us[i]? = some v->∃ x t,xs[i]? = some x/\v=.str x t
 | [],_,.nil,i,v,e=>by simp at e
 | x::xs,_,.cons h r,0,v,e=>by
  obtain⟨t,c⟩:=(show ∃ t,_=k8 x t from h)
  cases e;exact⟨x,t,rfl,c⟩
 | x::xs,_,.cons h r,i+1,v,e=>An r i v e
theorem gv (B:zx k X.A) (d:Gl X xl) (f:X.mg xl=none) (g:j1 xl=some (.builtin "len")) (i:Gl X xz) (j:X.mg xz=none) (l:j1 xz=some (.type "set")) (ha:PA X [a] t)
  (m:xl ≠ "__name__" := by decide) (n:(xl == ("__debug__" : Str))=false:=by decide) (r:xz ≠ "__name__" := by decide) (u:(xz == ("__debug__" : Str))=false:=by decide) (v:q9 a=true:=by rfl) :
  PE X (.Call (.Name xl pl) [.Call (.Name xz pz) [a] [] pos2] [] pos) (tCB (A9 X.K) t):=by
 intro c s σ H Q I h;refine x9 (JB I d f g ?_ m n);refine G9 ?_ (yL rfl) rfl;rw[yL (e:=.Call (.Name xz pz) [a] [] pos2) (es:=[]) rfl];refine Ur ?_;refine x9 (JB I i j l ?_ r u);refine Vq (thn (ha pos2 c s σ H _ I h) λus s1 ⟨vs,y,w,C,E⟩=>?_) (yL v) (kj (by simp));obtain⟨p,xs,rfl,G,hz,q⟩:=E;obtain⟨x,rfl,J⟩:∃ x,us=[x]/\x=.ref p:=by
  cases C with
  | cons L t1=>cases t1;exact⟨_,rfl,L⟩
 subst J;obtain⟨its,z,pl,_⟩:=w.list G;have M:=z.length;rw[z9] at M;refine Bp (A:=X.A) (xs:=xs) B.hd pl.isList (by lia) (An z) (by unfold vW;lia) λh' tk N U Y=>?_;refine Aa ?_;have I2:Inv X c σ y { s1 with heap:=h',toks:=tk }:=w.kept (t':=tk) Y (jR w.tk N);refine fj (s:={ s1 with heap:=h',toks:=tk }) U ⟨.int (qV xs xs.length).length,y,?_,⟨_,rfl⟩,q⟩;exact I2.kept (t':=tk+1+1) λb o e=>e
theorem HQ (ts:List M.T):∀ i,i <= ts.length->qV (ts.map ofT) i=(M.yA [] (ts.take i)).map ofT:=by
 have app:∀ (xs acc:List M.T) (x:M.T),M.yA acc (xs++[x])=if (M.yA acc xs).contains x then M.yA acc xs else M.yA acc xs++[x]:=by
  intro xs
  induction xs with
  | nil=>intro acc x;rfl
  | cons y xs d=>intro acc x;exact d _ x
 intro i
 induction i with
 | zero=>intro _;rfl
 | succ i d =>
  intro hi;have e:ts[i]? = some ts[i]:=ZL (by lia);have f:(ts.map ofT)[i]? = some (ofT ts[i]):=by rw[qG,e];rfl
  rw[Y9 f,d (by lia),JI,e];show _=(M.yA [] (ts.take i++[ts[i]])).map ofT;rw[app];have hm:(ofT ts[i]∈(M.yA [] (ts.take i)).map ofT)↔(M.yA [] (ts.take i)).contains ts[i]=true:=by
   rw[cy];constructor
   ·rintro ⟨y,g,j⟩
    rw[<- Kc j];simpa using g
   ·intro h;exact⟨ts[i],by simpa using h,rfl⟩
  by_cases c:(M.yA [] (ts.take i)).contains ts[i]=true
  ·rw[if_pos (hm.mpr c),if_pos c]
  ·rw[if_neg (λz=>c (hm.mp z)),if_neg c,XS];rfl
theorem dP {K:PySem.W.Frag}:AdN K Θ M.xF (A9 K):=by
 intro l H S xs q Q i d h;unfold M.xF at h;split at h
 ·rename_i p;obtain⟨Y,r,rfl,ry,rfl⟩:=d;cases e:M.z7 S p with
  | none=>rw[e] at h;exact h.elim
  | some m =>
   rw[e] at h;dsimp only at h;obtain⟨a,s,rfl,ha,n,o⟩:=xc i ry (BP e);cases f:M.j2 m with
   | none=>rw[f] at h;exact h.elim
   | some ts =>
    rw[f] at h;obtain⟨rfl,_⟩:=Kq f o;have c:zE K Θ (zL K) l H (if ts.length <= 1000 then M.R.ok (M.D.int (M.yA [] ts).length) S else .no) Q:=h;by_cases g:ts.length <= 1000
    ·rw[if_pos g] at c;refine⟨a,ts.map ofT,rfl,SqL.of n,by rw[z9];exact g,?_⟩;have j:=HQ ts ts.length (zd _);rw[Jq] at j;rw[z9,j,z9];exact zE.here (b:=V.int (M.yA [] ts).length) c i rfl
    ·rw[if_neg g] at c;exact c.elim
 ·exact h.elim
theorem w_me_lenset (u:zx k X.A) (c:Gl X xl) (d:X.mg xl=none) (e:j1 xl=some (.builtin "len")) (f:Gl X xz) (g:X.mg xz=none) (i:j1 xz=some (.type "set")) (ha:WA X Θ [a] m)
  (j:xl ≠ "__name__" := by decide) (l:(xl == ("__debug__" : Str))=false:=by decide) (n:xz ≠ "__name__" := by decide) (o:(xz == ("__debug__" : Str))=false:=by decide) (p:q9 a=true:=by rfl) :
  WE X Θ (.Call (.Name xl pl) [.Call (.Name xz pz) [a] [] pos2] [] pos) (M.zM M.xF m):=by
 delta WA WE at ha ⊢
 exact (gv u c d e f g i ha j l n o p).up λσ H Q v q S st w h=>⟨v,q,S,st,w,zE.bind h λr x xs y S1 B l1 s rx z=>dP r x S1 xs y Q s rx z⟩
theorem CW:j1 "set" = some (.type "set"):=by decide +kernel
end
end L2
namespace L2
open PySem PySem.Spec PyProof.Rows
theorem Inv.swapD {X:Cx}{a:zC}{f:HO} (I:Inv X d σ H s) (e:H a=some f) (n1:∀ xs,f≠.tup xs) (n2:∀ o u,X.H₀ a≠some (.frz o u)) (m:∀ ps,f≠.tbl ps) (r:∀ x,f≠.own x)
  (new:jQ X.prog X.w (upd H a i) s.heap a i):Inv X d σ (upd H a i) s:=by
 have g:∀ {b},H b=none->b≠a:=λz q=>by rw[q,e] at z;cases z
 refine⟨I.ok,I.os,I.bare,⟨I.base.keep,I.base.slot,λb ob q n t=>?_,I.base.there,λb xs q=>?_,λb ob u q=>?_,λb ps q=>?_⟩,I.loc,I.cell,?_,λx c q=>?_,λp h=>?_,λb u q=>?_,I.len,I.tk⟩
 ·have z:=I.base.free b ob q n t;rw[zl (g z)];exact z
 ·have z:=I.base.tups b xs q;rw[zl (λw=>by rw[w,e] at z;cases z;exact n1 xs rfl)];exact z
 ·have z:=I.base.frzs b ob u q;rw[zl (λw=>by rw[w] at q;exact n2 _ _ q)];exact z
 ·obtain⟨mo,z⟩:=I.base.tbls b ps q;exact⟨mo,by rw[zl (λw=>by rw[w,e] at z;cases z;exact m _ rfl)];exact z⟩
 ·rw[zl (g I.free)];exact I.free
 ·rw[zl (g (I.freeC x c q))];exact I.freeC x c q
 ·obtain⟨v,j,y,A,B⟩:=I.pin p h;exact⟨v,by rw[zl (g j)];exact j,y,A,B⟩
 ·by_cases l:b=a
  ·subst l;rw[ju] at q;cases q;exact new
  ·rw[zl l] at q;exact (I.hok b u q).stay (λ_ _ _ q=>q) (λc z=>by rw[zl (λw=>by rw[w,e] at z;cases z;exact r _ rfl)];exact z) λc xs z=>by rw[zl (λw=>by rw[w,e] at z;cases z;exact n1 _ rfl)];exact z
noncomputable def wk:HO->Bool
 | .dK _=>true
 | .ext _=>true
 | _=>false
theorem Inv.dict_base {X:Cx}{a:zC} (d:wk u=true) (I:Inv X c σ H s) (e:H a=some u):∀ o u,X.H₀ a≠some (.frz o u):=λo u q=>by
 have z:=I.base.frzs a o u q;rw[e] at z;cases z;cases d
theorem Inv.freeze {X:Cx}{a:zC}{kvs:List (Key×V)} (I:Inv X c σ H s) (e:H a=some (.dK kvs)) :
  ∃ o d ep,KV kvs d/\(∀ h:zT,h.get? a=some o->h.DictAt (jJ X.prog X.w) a d ep)/\s.heap.get? a=some o/\Inv X c σ (upd H a (.frz o (.dK kvs))) s:=by
 have x:=I.hok a _ e;obtain⟨z,hd,d,rel,o,es,ep,f,r⟩:=id x;refine⟨o,d,ep,rel,λh q=>⟨o,es,q,r⟩,f,I.swapD e (λ_ q=>nomatch q) (I.dict_base rfl e) (λ_ q=>nomatch q) (λ_ q=>nomatch q) ⟨f,z,hd,d,rel,o,es,ep,f,r⟩⟩
theorem Inv.thaw {X:Cx}{a:zC}{o:Obj} (d:wk u=true) (I:Inv X c σ H s) (e:H a=some (.frz o u)) (n2:∀ o u,X.H₀ a≠some (.frz o u)):Inv X c σ (upd H a u) s:=by
 obtain⟨_,z⟩:=(show jQ X.prog X.w H s.heap a (.frz o u) from I.hok a _ e)
 refine I.swapD e (λ_ q=>nomatch q) n2 (λ_ q=>nomatch q) (λ_ q=>nomatch q) ?_;cases u with
 | dK _=>exact z
 | ext _=>exact z
 | _=>cases d
noncomputable def Iti (a:zC) (o:Obj) (kvs:List (Key×V)):It :=
 ⟨λi H=>H a=some (.frz o (.dK kvs))/\∃ p,kvs[i]? = some p,λi H v c=>∃ q p,H q=none/\v=.ref q/\kvs[i]? = some p/\c=upd H q (.tup [kV p.1,p.2]),λi H=>H a=some (.frz o (.dK kvs))/\kvs.length <= i⟩
theorem Yh {P:zi}{k:Key}{u:zB} (h:(jJ P w).is k u=true):zX (kV k) u:=by
 rcases Zr h with ⟨i,t,rfl,rfl⟩ | ⟨x,t,rfl,rfl⟩
 ·exact⟨t,rfl⟩
 ·exact⟨t,rfl⟩
theorem UA {kvs:List (Key×V)}{c:List (Key×zB)}{i:Nat}{p:Key×V} (h:KV kvs c) (e:kvs[i]? = some p):∃ q,c[i]? = some q/\p.1=q.1/\zX p.2 q.2:=by
 unfold KV at h
 induction h generalizing i with
 | nil=>simp at e
 | cons h t d =>
  cases i with
  | zero=>cases e;exact⟨_,rfl,h⟩
  | succ n =>
   obtain⟨q,f,r⟩:=d (by simpa using e);exact⟨q,by simpa using f,r⟩
theorem Cz:entryFor table "dict_itemiterator.__iter__" = some Builtin.«dict_keyiterator.__iter__» :=
 entryFor_alias (id' := "dict_keyiterator.__iter__") (by kernel_rfl) (by first | rfl | decide +kernel | (unfold String.splitOn;simp +decide [String.splitOnAux])) (by decide +kernel) (by kernel_rfl)
theorem E1 {P:zi}{K:PySem.W.Frag}{f:List zQ}{Y:_}{tp:Pos} (a it:zC) (o:Obj) (kvs:List (Key×V)) (n:List (Key×zB)) (ep:Nat) (rel:KV kvs n) (hd:∀ h:zT,h.get? a=some o->h.DictAt (jJ P w) a n ep) :
  Qn P w K (.Tuple f Y tp) (Iti a o kvs) [it] it (λi h=>∃ x y,IsItemIter h it a i n.length ep x y) where
 mem:=by simp
 obj:=λi h ⟨x,y,hi⟩ b j=>by
  have z:b=it:=by simpa using j
  subst z;exact⟨_,hi,λv z=>nomatch z⟩
 keep:=λi h h' ⟨x,y,hi⟩ k=>⟨x,y,k it (by simp) _ hi⟩
 item:=by
  intro X B hw C r i d s σ H E I t ⟨x,y,hi⟩ G;subst B hw C;obtain⟨ha,p,u⟩:=G;obtain⟨go,_⟩:=(show jQ X.prog X.w H s.heap a (.frz o (.dK kvs)) from I.hok a _ ha)
  obtain⟨q,hq,r1,r2⟩:=UA rel u;obtain⟨k,v⟩:=q;obtain⟨f0,f1,f2,f3,f4,f5⟩:=t it (by simp);have hit:it≠s.heap.objs.size:=z4 (zm hi);refine Fv hi (hd _ go) hq λJ h' L ho l hsz kk=>?_;refine⟨_,rfl,wpAny_letOwnedTupleGo_items ho λN M m=>?_⟩;have U:H s.heap.objs.size=none:=I.hok.fresh (zd _);have I1:Inv X d σ H { s with heap:=N,toks:=s.toks }:=I.turnedL (ch:=[it]) t (λb ob j g=>by
   have nb:b≠it:=λz=>j (by simp[z]);exact m.extBut _ _ nb (kk b ob nb g)) I.tk
  have I2:Inv X d σ (upd H s.heap.objs.size (.tup [kV p.1,p.2])) { s with heap:=N }:=I1.track I.sz U (qd I.lt) (λx c e=>by obtain⟨v,hv⟩:=I.cell x c e;exact z4 hv.lt) (λp u=>z4 (zm (I.pin p u).1))
   ⟨show 2 <= zc by decide,[J,v],.cons (by rw[r1];exact Yh L) (.cons r2 .nil),⟨_,m.extBut _ _ (jr hit) l,rfl,_,rfl⟩⟩
  refine⟨.ref s.heap.objs.size,_,I2,rfl,⟨_,p,U,rfl,u,rfl⟩,⟨_,_,M⟩,λc r=>?_⟩;have z:c=it:=by simpa using r
  subst z;rw[zl hit];exact f0
 done:=by
  intro X B hw C r i d s σ H E I t ⟨x,y,hi⟩ G;subst B hw C;obtain⟨ha,hl⟩:=G;obtain⟨go,_⟩:=(show jQ X.prog X.w H s.heap a (.frz o (.dK kvs)) from I.hok a _ ha)
  have el:kvs.length=n.length:=Paired.length rel;exact wpAny_pyNext_items_end (I.ok.hd r) hi (hd _ go) (QQ (by lia)) λh' L=>⟨rfl,I.turnedL (t':=s.toks) (ch:=[it]) t (λb ob j g=>L b ob (λz=>j (by simp[z])) g) I.tk⟩
 self:=λA i s Q E ⟨x,y,hi⟩ h=>by
  have l:s.TypeIs (.ref it) "dict_itemiterator" := ⟨_,hi,rfl⟩
  refine wpAny_pyIter_slot l PySem.F.slot_dict_itemiterator_iter (VH PySem.F.slot_dict_itemiterator_iter l Cz ?_ (PySem.F.args_dict_itemiterator_iter_1 _));show wpAny (zI P w) _ (ret (.ref it)) _ _ s;exact wpAny_pure ⟨_,rfl,"dict_itemiterator",_,l,PySem.F.slot_dict_itemiterator_next.lookup,h⟩
def hD (H₀:Hp) (te:TE):TI:=λσ H R=>te σ H λv c=>∃ a kvs,v=.ref a/\c a=some (.dK kvs)/\∀ o,(∀ o u,H₀ a≠some (.frz o u))->R (Iti a o kvs) (upd c a (.frz o (.dK kvs)))
theorem CN {X:Cx}{c d:Pos}{j:List zQ}{C:_}{E:Pos} (G:PE X e te)
  (f:Qg e "items" X.env (zu e X.env)=zu e X.env:=by rfl) (i:(c.endLine == d.line)=true:=by rfl):PI X (.Tuple j C E) (.Call (.Attribute e "items" c) [] [] d) (hD X.H₀ te):=by
 intro l s σ H R I h;refine We f i (thn (G l s σ H _ I h) λv s1 ⟨x,u,r,y,J⟩=>?_);obtain⟨a,kvs,rfl,ha,q⟩:=J;have ty:tyV X.K "dict" (.ref a) u:=ZN (ZN (zb ⟨rfl,zb ⟨kvs,ha⟩⟩));obtain⟨t1,t2⟩:=Ke (T := "dict") r y ty;obtain rfl:v=jY a:=y;have x:=r.hok a _ ha;obtain⟨z,hd,L,rel,A⟩:=id x;refine⟨"dict","dict.items",PySem.F.plainAttrs_dict,PySem.F.slot_dict_items,PySem.F.type_dict_items,t1,t2,u3 rfl (PySem.evalArgs_none ?_)⟩;refine kZ PySem.F.slot_dict_items A.typeIs PySem.F.entry_dict_items (PySem.F.args_dict_items_1 _) (cn (jJ X.prog X.w) a hd) ⟨⟨L,A⟩,?_⟩;obtain⟨o,m,ep,n,B,go,t⟩:=r.freeze ha;have up:∀ {h:zT}{o p b},h.get? b=some o->(h.push p).get? b=some o:=λe=>jK _ e;refine hY ⟨_,qU _ rfl,rfl,rfl⟩ (B _ (up go)) ?_;have n1:(s1.heap.push { cls:=.type "dict_items",data:=.fields #[.ref a] }).objs.size=s1.heap.objs.size+1:=QT ..;refine⟨s1.heap.objs.size+1,[s1.heap.objs.size+1],_,_,upd u a (.frz o (.dK kvs)),by rw[<- n1],t.kept (t':=s1.toks) (λb ob e=>up (up e)),E1 a _ o kvs m ep n B,⟨ZH,ZH,?_⟩,λb M=>?_,q o (r.dict_base rfl ha)⟩
 ·have g:=qU (h:=s1.heap.push { cls:=.type "dict_items",data:=.fields #[.ref a] }) (o:={ cls:=.type "dict_itemiterator",data:=.fields #[.none,.bool false,.ref a,.int 0 0,.int m.length 0,.int ep 0,.none,.none] }) rfl;rw[n1] at g;exact g
 ·have N:b=s1.heap.objs.size+1:=by simpa using M
  subst N;exact t.fpOk (kU _) (t.hok.fresh (kU _))
section
variable {K:PySem.W.Frag}{Θ:Tab}{ρ:List zC}{H H':Hp}
mutual
theorem zL.move (c:∀ b xs,SqT K H b xs->SqT K H' b xs) (f:∀ b xs,ZT K H b xs->ZT K H' b xs):∀ {d:M.D}{v:V},zL K ρ H d v->zL K ρ H' d v
 | .non,_,h=>h
 | .bl _,_,h=>h
 | .int _,_,h=>h
 | .str _,_,h=>h
 | .ty _,_,h=>h
 | .ref _,_,h=>h
 | .tup _,_,⟨a,xs,e,h,r⟩=>⟨a,xs,e,c a xs h,zP.move c f r⟩
 | .ro _,_,⟨a,xs,e,h,r⟩=>⟨a,xs,e,f a xs h,zP.move c f r⟩
theorem zP.move (c:∀ b xs,SqT K H b xs->SqT K H' b xs) (d:∀ b xs,ZT K H b xs->ZT K H' b xs):∀ {f:List M.D}{xs:List V},zP K ρ H f xs->zP K ρ H' f xs
 | [],_,h=>h
 | _::_,_,⟨y,ys,e,h,r⟩=>⟨y,ys,e,zL.move c d h,zP.move c d r⟩
end
section
variable {a:zC}{o:Obj}{u:HO} (hu:wk u=true) (ha:H a=some (.frz o u))
include hu ha
theorem U0:∀ b xs,SqT K H b xs->SqT K (upd H a u) b xs:=λb xs h=>by
 rcases h with (h | ⟨o',h⟩) | h
 ·exact .inl (.inl (by rw[zl (λz=>by rw[z,ha] at h;cases h)];exact h))
 ·exact .inl (.inr ⟨o',by rw[zl (λz=>by rw[z,ha] at h;cases h;cases hu)];exact h⟩)
 ·exact .inr h
theorem UX:∀ b xs,ZT K H b xs->ZT K (upd H a u) b xs:=λb xs h=>by
 rcases h with ⟨o',h⟩ | h
 ·exact .inl ⟨o',by rw[zl (λz=>by rw[z,ha] at h;cases h;cases hu)];exact h⟩
 ·exact .inr h
theorem zL.thaw (r:zL K c H d v):zL K c (upd H a u) d v:=zL.move (U0 hu ha) (UX hu ha) r
theorem zt.thaw (h:zt K f H c σ):zt K f (upd H a u) c σ :=
 ⟨h.len,λi d e=>let ⟨v,g,j⟩:=h.get i d e;⟨v,g,zL.thaw hu ha j⟩⟩
theorem TDr.thaw (z:TDr K c H p q):TDr K c (upd H a u) p q:=⟨z.1,z.2.1,zL.thaw hu ha z.2.2.1,let ⟨v,d,e⟩:=z.2.2.2;⟨v,zL.thaw hu ha d,e⟩⟩
theorem ObR.thaw {b:zC}{ob:M.O} (nb:b≠a) (h:ObR K l m H b ob):ObR K l m (upd H a u) b ob:=by
 have e:=zl (H:=H) (o:=u) nb;cases ob with
 | lst B=>obtain⟨xs,g,r⟩:=h;exact⟨xs,e.trans g,zP.move (U0 hu ha) (UX hu ha) r⟩
 | dct kvs=>obtain⟨ks,g,r⟩:=h;exact⟨ks,e.trans g,Paired.mapP r λp q z=>⟨z.1,zL.thaw hu ha z.2⟩⟩
 | dtt kvs=>obtain⟨xs,g,r⟩:=h;exact⟨xs,e.trans g,Paired.mapP r λp q z=>TDr.thaw hu ha z⟩
 | ftt kvs=>obtain⟨o',xs,g,r⟩:=h;exact⟨o',xs,e.trans g,Paired.mapP r λp q z=>TDr.thaw hu ha z⟩
 | fdc kvs=>obtain⟨o',j,g,r⟩:=h;exact⟨o',j,e.trans g,Paired.mapP r λp q z=>⟨z.1,zL.thaw hu ha z.2⟩⟩
 | ins c fs =>
  obtain⟨C,n,s,N,g,t,r⟩:=h;exact⟨C,n,s,N,e.trans g,t,r.len,r.nd,r.within,λi f d w x=>let ⟨v,y,A⟩:=r.get i f d w x;⟨v,y,zL.thaw hu ha A⟩⟩
theorem zS.thaw {S:M.S}{i:Nat} (h:zS K e c S H) (hi:c[i]? = some a) (r:ObR K e c (upd H a u) a t):zS K e c (S.set i t) (upd H a u):=by
 refine⟨by simp[h.len],h.nd,λj ob q=>?_⟩;by_cases d:i=j
 ·subst d;by_cases g:i < S.length
  ·rw[Qq g] at q;cases q;exact⟨a,hi,r⟩
  ·rw[QQ (by rw[qE];lia)] at q;cases q
 ·rw[yY d] at q;obtain⟨b,f,l⟩:=h.obj j ob q;exact⟨b,f,ObR.thaw hu ha (λz=>d (Ks h.nd hi (z ▸ f))) l⟩
end
theorem wM {d c:Type}{R:d->c->Prop}{xs:List d}{ys:List c}{i:Nat}{y:c} (h:Paired R xs ys) (e:ys[i]? = some y):∃ x,xs[i]? = some x/\R x y:=by
 induction h generalizing i with
 | nil=>simp at e
 | cons h t f =>
  cases i with
  | zero=>cases e;exact⟨_,rfl,h⟩
  | succ n =>
   obtain⟨q,g,r⟩:=f (by simpa using e);exact⟨q,by simpa using g,r⟩
theorem qW.rel {k:Key} (h:qW d k):zL K c H d (kV k):=by
 cases d with
 | int i=>cases h;rfl
 | str x=>obtain⟨rfl,ok⟩:=h;exact⟨rfl,ok⟩
 | _=>exact h.elim
theorem HP {a:zC}{o:Obj}{ks:List (Key×V)} (ha:H a=some (.frz o (.dK ks))) (r:Paired (λ(p:M.D×M.D) (q:Key×V)=>qW p.1 q.1/\zL K n H p.2 q.2) kvs ks):ItR K z n H (Iti a o ks) (kvs.map λp=>.tup [p.1,p.2]) []:=by
 have f:kvs.length=ks.length:=Paired.length r;refine⟨λj c S' h p l d g e=>?_,λj c S' h v A p l d g e y=>?_,λc S' h p l d g=>?_⟩
 ·rw[z9,f] at e;exact⟨l.frzs _ _ _ ha,ks[j],by simp[e]⟩
 ·obtain⟨q,kv,i,rfl,s,rfl⟩:=y;obtain⟨x,t,u,w⟩:=wM r s;have m:=Le.new i (.tup [kV kv.1,kv.2]);exact⟨.tup [x.1,x.2],by rw[qG,t];rfl,⟨q,_,rfl,SqT.of ju,_,_,rfl,qW.rel u,_,_,rfl,w.mono p (l.trans m),rfl⟩,m,d.aside i _⟩
 ·exact⟨l.frzs _ _ _ ha,by rw[z9,f];exact zd _⟩
end
def vC (H₀:Hp) (H:Hp) (Q:Hp->Prop):Prop:=∃ a o u,wk u=true/\H a=some (.frz o u)/\(∀ o u,H₀ a≠some (.frz o u))/\Q (upd H a u)
noncomputable def Y2 (H₀:Hp) (D:yv):yv where
 nx:=λσ H=>vC H₀ H (D.nx σ)
 rt:=λv H=>vC H₀ H (D.rt v)
 bk:=λσ H=>vC H₀ H (D.bk σ)
 ct:=λσ H=>vC H₀ H (D.ct σ)
theorem uW {X:Cx}{st:zh} (h:PS X st t):PS X st λD σ H=>t (Y2 X.H₀ D) σ H:=λj s σ H D I q=>thn (h j s σ H _ I q) λf s1 z=>by
 cases f with
 | next=>obtain⟨c,l,g,a,o,u,i,e,n,d⟩:=z;exact⟨c,_,g.thaw i e n,d⟩
 | brk=>obtain⟨c,l,g,a,o,u,i,e,n,d⟩:=z;exact⟨c,_,g.thaw i e n,d⟩
 | cont=>obtain⟨c,l,g,a,o,u,i,e,n,d⟩:=z;exact⟨c,_,g.thaw i e n,d⟩
 | ret _=>obtain⟨v,c,l,g,r,a,o,u,i,e,n,d⟩:=z;exact⟨v,c,_,g.thaw i e n,r,d⟩
section
variable {X:Cx}{Θ:Tab}
theorem fL {K:PySem.W.Frag}{H₀:Hp}{w:List zC}{H:Hp}{i:Nat}{a:zC}{o:Obj}{D:yv} (s:wk u=true) (hi:w[i]? = some a) (ha:H a=some u) (n:∀ o u,H₀ a≠some (.frz o u)) (ob:∀ {c:List zC}{g:Hp},w <+: c->Le H g->g a=some u->ObR K Θ c g a t)
  (h:zf K Θ w H (M.VQ i f t r) D):zf K Θ w (upd H a (.frz o u)) r (Y2 H₀ D):=by
 have x:∀ {c:List zC}{g:Hp}{S:M.S},w <+: c->Le (upd H a (.frz o u)) g->zS K Θ c S g->g a=some (.frz o u)/\Le H (upd g a u)/\zS K Θ c (S.set i t) (upd g a u):=λ{c g S} p l y=>by
  have e:=l.frzs a o u ju;have le:Le H (upd g a u):=by
   refine⟨λb xs q=>?_,λb ob A q=>?_⟩
   ·have nb:b≠a:=λz=>by rw[z,ha] at q;cases q;cases s
    rw[zl nb];exact l.tups b xs (by rw[zl nb];exact q)
   ·have nb:b≠a:=λz=>by rw[z,ha] at q;cases q;cases s
    rw[zl nb];exact l.frzs b ob A (by rw[zl nb];exact q)
  exact⟨e,le,y.thaw s e (xV p hi) (ob p le ju)⟩
 cases r with
 | nx m S1 =>
  intro c g σ p l y st;obtain⟨e,le,j⟩:=x p l y;have h':zf K Θ w H (if S1[i]? = some f then .nx m (S1.set i t) else .no) D:=h;split at h'
  ·exact⟨a,o,u,s,e,n,h' c _ σ p le j (zt.thaw s e st)⟩
  ·exact h'.elim
 | bk m S1 =>
  intro c g σ p l y st;obtain⟨e,le,j⟩:=x p l y;have h':zf K Θ w H (if S1[i]? = some f then .bk m (S1.set i t) else .no) D:=h;split at h'
  ·exact⟨a,o,u,s,e,n,h' c _ σ p le j (zt.thaw s e st)⟩
  ·exact h'.elim
 | ct m S1 =>
  intro c g σ p l y st;obtain⟨e,le,j⟩:=x p l y;have h':zf K Θ w H (if S1[i]? = some f then .ct m (S1.set i t) else .no) D:=h;split at h'
  ·exact⟨a,o,u,s,e,n,h' c _ σ p le j (zt.thaw s e st)⟩
  ·exact h'.elim
 | rt d S1 =>
  intro c g v p l y B;obtain⟨e,le,j⟩:=x p l y;have h':zf K Θ w H (if S1[i]? = some f then .rt d (S1.set i t) else .no) D:=h;split at h'
  ·exact⟨a,o,u,s,e,n,h' c _ v p le j (zL.thaw s e B)⟩
  ·exact h'.elim
 | exc e m S1=>exact (show False from h).elim
 | no=>exact h
theorem YD {K:PySem.W.Frag}{H₀:Hp}{c:List zC}{H:Hp}{i:Nat}{a:zC}{o:Obj}{ks:List (Key×V)}{D:yv} (hi:c[i]? = some a) (ha:H a=some (.dK ks)) (n:∀ o u,H₀ a≠some (.frz o u)) (d:Paired (λ(p:M.D×M.D) (q:Key×V)=>qW p.1 q.1/\zL K c H p.2 q.2) kvs ks)
  (h:zf K Θ c H (M.thaw i kvs r) D):zf K Θ c (upd H a (.frz o (.dK ks))) r (Y2 H₀ D):=fL (f:=.fdc kvs) (t:=.dct kvs) rfl hi ha n (λp le e=>⟨ks,e,Paired.mapP d λx y z=>⟨z.1,z.2.mono p le⟩⟩) h
theorem w_ms_forItems {r:List zQ}{L:_}{N pos j l:Pos} (hp:Xr (zI X.prog X.w) X.A X.env X.xe) (hc:X.calm=true) (Q:WE X Θ e m) (U:WG X Θ js (.Tuple r L N) g) (Y:WSs X Θ u mb)
  (s:Qg e "items" X.env (zu e X.env)=zu e X.env:=by rfl) (t:(j.endLine == l.line)=true:=by rfl) (hs:∀ x,JG (.Call (.Attribute e "items" j) [] [] l) X.env x=pure x:=by intro _;rfl):WS X Θ (.For (.Tuple r L N) (.Call (.Attribute e "items" j) [] [] l) u [] pos) (M.Qc m g mb):=by
 delta WE WG WS WSs at Q U Y ⊢
 exact (uW (YT hp hc (CN Q s t) U Y hs)).up λD σ H ρ B S st rp h=>by
   refine⟨ρ,B,S,st,rp,zf.stm h λG I d v S1 p1 l1 C rv h1=>?_⟩;cases d with
   | ref i =>
    obtain⟨a,rfl,hi⟩:=rv;have f:zf X.K Θ G I (match S1[i]? with
     | some (.dct kvs)=>M.thaw i kvs (M.jb [] (M.jO g mb) (kvs.map λp=>.tup [p.1,p.2]) B (S1.set i (.fdc kvs)))
     | _=>.no) D:=h1
    cases q:S1[i]? with
    | none=>rw[q] at f;exact f.elim
    | some ob =>
     rw[q] at f;cases ob with
     | dct kvs =>
      obtain⟨b,E,ks,ha,J⟩:=C.obj i _ q;rw[hi] at E;cases E;refine⟨a,ks,rfl,ha,λo n=>?_⟩;have le:Le I (upd I a (.frz o (.dK ks))):=Le.put (ZW ha) _;exact YU (HP ju (Paired.mapP J λx y z=>⟨z.1,z.2.mono (jN _) le⟩)) (st.mono p1 (l1.trans le)) (C.put (o:=.fdc kvs) hi (ZW ha) ⟨o,ks,ju,Paired.mapP J λx y z=>⟨z.1,z.2.mono (jN _) le⟩⟩) rfl (YD hi ha n J f)
     | lst xs=>exact f.elim
     | fdc _=>exact f.elim
     | dtt _=>exact f.elim
     | ftt _=>exact f.elim
     | ins c fs=>exact f.elim
   | _=>exact h1.elim
end
end L2
namespace L2
open PySem PySem.Spec PyProof.Rows
theorem Uv:∀ {us:List zB}{ys:List Str},XM us ys->za (ys.map V.str) us
 | _,_,.nil=>.nil
 | _,_,.cons x t r=>.cons ⟨t,rfl⟩ (Uv r)
theorem fq (a:M.T):¬ a < a:=λh=>bY a h
theorem wu {a b c:M.T} (d:¬ b < a) (e:¬ c < b):¬ c < a:=by
 rw[UG] at d e ⊢;exact dE d e
theorem cF {a b:M.T} (c:¬ b < a) (d:¬ a < b):a=b:=by
 rw[UG] at c d;exact Ez c d
theorem V0 (x:M.T):∀ ts:List M.T,(M.qI.insT' x ts).Perm (x::ts)
 | []=>.refl _
 | y::r=>by
  unfold M.qI.insT';split
  ·exact ((V0 x r).cons y).trans (.swap x y r)
  ·exact .refl _
theorem uH:∀ ts:List M.T,(M.qI ts).Perm ts
 | []=>.refl _
 | x::r=>(V0 x _).trans ((uH r).cons x)
theorem Ah (x:M.T):∀ ts:List M.T,ts.Pairwise (λa b=>¬ b < a)->(M.qI.insT' x ts).Pairwise (λa b=>¬ b < a)
 | [],_=>by unfold M.qI.insT';simp
 | y::r,h=>by
  rw[xv] at h;unfold M.qI.insT';split
  ·rename_i d;rw[xv];refine⟨λb c=>?_,Ah x r h.2⟩;rcases List.mem_cons.mp ((V0 x r).mem_iff.mp c) with rfl | c
   ·exact λz=>fq _ (gg z d)
   ·exact h.1 b c
  ·rename_i d;rw[xv];refine⟨λb c=>?_,List.pairwise_cons.mpr h⟩;rcases List.mem_cons.mp c with rfl | c
   ·exact d
   ·exact wu d (h.1 b c)
theorem wq:∀ ts:List M.T,(M.qI ts).Pairwise (λa b=>¬ b < a)
 | []=>.nil
 | x::r=>Ah x _ (wq r)
theorem wD:∀ (p:Str) (l:List Str),risingS p l=true->(p::l).Pairwise (λa b=>¬ b.cps.toList < a.cps.toList)
 | p,[],_=>by simp
 | p,x::r,h=>by
  unfold risingS at h;rw[jl,K0,ltCps_eq,decide_eq_false_iff_not] at h;have d:=wD x r h.2;rw[xv];refine⟨λb c=>?_,d⟩;rcases List.mem_cons.mp c with rfl | c
  ·exact h.1
  ·exact wu h.1 ((List.pairwise_cons.mp d).1 b c)
theorem Ci (h:Vi l=true):l.Pairwise (λa b=>¬ b.cps.toList < a.cps.toList):=by
 cases l with
 | nil=>exact .nil
 | cons x r=>exact wD x r h
theorem Yg {ts:List M.T}{ys:List Str} (c:ys.Perm (ts.map ofT)) (d:Vi ys=true):ys=(M.qI ts).map ofT:=by
 refine List.Perm.eq_of_pairwise (le:=λa b=>¬ b.cps.toList < a.cps.toList) (λa b _ i f g=>?_) (Ci d) ?_ (c.trans ((uH ts).map ofT).symm)
 ·have e:=cF f g;cases a with
  | mk j=>cases b with
   | mk l=>exact congrArg Str.mk (Array.toList_inj.mp e)
 ·rw[List.pairwise_map];refine (wq ts).imp λ{a b} h=>?_;rw[J6,J6];exact h
end L2
namespace L2
open PySem PySem.Spec PyProof.Rows
noncomputable def Itk (a:zC) (o:Obj) (kvs:List (Key×V)):It :=
 ⟨λi H=>H a=some (.frz o (.dK kvs))/\∃ p,kvs[i]? = some p,λi H v c=>c=H/\∃ p,kvs[i]? = some p/\v=kV p.1,λi H=>H a=some (.frz o (.dK kvs))/\kvs.length <= i⟩
theorem CH {P:zi}{K:PySem.W.Frag} (a it:zC) (o:Obj) (kvs:List (Key×V)) (l:List (Key×zB)) (ep:Nat) (rel:KV kvs l) (hd:∀ h:zT,h.get? a=some o->h.DictAt (jJ P w) a l ep) :
  Qn P w K tg (Itk a o kvs) [it] it (λi h=>h.IsKeyIter it a i l.length ep) where
 mem:=by simp
 obj:=λi h st b g=>by
  have z:b=it:=by simpa using g
  subst z;obtain⟨o,e,c,d⟩:=st;exact⟨o,e,λv z=>by rw[d] at z;cases z⟩
 keep:=λi h h' st k=>st.at λo e=>k it (by simp) o e
 item:=by
  intro X n hw r G i f s σ H E I m st t;subst n hw r;obtain⟨ha,p,J⟩:=t;obtain⟨go,_⟩:=(show jQ X.prog X.w H s.heap a (.frz o (.dK kvs)) from I.hok a _ ha)
  obtain⟨q,L,M,r2⟩:=UA rel J;obtain⟨k,v⟩:=q;obtain⟨u,x,N,y,A,B⟩:=m it (by simp);refine wpAny_pyNext_dict_item st (hd _ go) L λC h' Q j sb=>?_;have U:Inv X f σ H { s with heap:=h' }:=I.turned (t':=s.toks) (λb o g e=>sb.extBut b o g e) u x y A B;obtain⟨o',e,c,d⟩:=id j;exact⟨C,rfl,x1 (s:={ s with heap:=h' }) e c d (by decide) ⟨kV p.1,H,U,by rw[M];exact Yh Q,⟨rfl,p,J,rfl⟩,j,λb g=>(m b g).1⟩⟩
 done:=by
  intro X n hw r G i f s σ H E I m st t;subst n hw r;obtain⟨ha,hl⟩:=t;obtain⟨go,_⟩:=(show jQ X.prog X.w H s.heap a (.frz o (.dK kvs)) from I.hok a _ ha)
  obtain⟨u,x,N,y,A,B⟩:=m it (by simp);have el:kvs.length=l.length:=Paired.length rel;exact wpAny_pyNext_dict_end (I.ok.hd G) st (hd _ go) (QQ (by lia)) λh' Y=>⟨rfl,I.turned (t':=s.toks) (λb o g e=>Y b o g e) u x y A B⟩
 self:=λ_ _ _ _ _ st h=>wpAny_pyIter_keyiter st h
def Ct (te:TE):TI:=λσ H R=>te σ H λv c=>∃ a o kvs,v=.ref a/\c a=some (.frz o (.dK kvs))/\R (Itk a o kvs) c
theorem ew {X:Cx}{a:zC}{o:Obj}{kvs:List (Key×V)} (I:Inv X d σ H s) (e:H a=some (.frz o (.dK kvs))) :
  (a == y7)=false/\∃ c ep,KV kvs c/\(∀ h:zT,h.get? a=some o->h.DictAt (jJ X.prog X.w) a c ep)/\s.heap.get? a=some o:=by
 obtain⟨go,z,hd,c,rel,o',es,ep,f,r⟩:=(show jQ X.prog X.w H s.heap a (.frz o (.dK kvs)) from I.hok a _ e)
 rw[go] at f;cases f;exact⟨hd,c,ep,rel,λh q=>⟨o,es,q,r⟩,go⟩
theorem A3 {X:Cx}{a:zC}{o:Obj}{kvs:List (Key×V)}{R:It->Hp->Prop} (I:Inv X c σ H s) (e:H a=some (.frz o (.dK kvs))) (q:R (Itk a o kvs) H) :
  wpAny (zI X.prog X.w) X.A (XC (.ref a)) (PIE X c σ tg R) E s:=by
 obtain⟨hd,f,ep,rel,d,go⟩:=ew I e;refine wpAny_pyIter_dict hd (d _ go) ?_;refine⟨s.heap.objs.size,[s.heap.objs.size],_,_,H,rfl,I.kept (t':=s.toks) (λb ob e=>jK _ e),CH a _ o kvs f ep rel d,⟨_,qU _ rfl,rfl,rfl⟩,λb g=>?_,q⟩;have h:b=s.heap.objs.size:=by simpa using g
 subst h;exact I.fpOk (zd _) (I.hok.fresh (zd _))
theorem bo {X:Cx} (d:PE X e te):PI X tg e (Ct te):=by
 intro c s σ H R I h;refine thn (d c s σ H _ I h) λv s1 ⟨x,j,f,g,i⟩=>?_;obtain⟨a,o,kvs,rfl,ha,q⟩:=i;obtain rfl:v=jY a:=g;exact A3 f ha q
def iKy (H₀:Hp) (te:TE):TI:=λσ H R=>te σ H λv c=>∃ a kvs,v=.ref a/\c a=some (.dK kvs)/\∀ o,(∀ o u,H₀ a≠some (.frz o u))->R (Itk a o kvs) (upd c a (.frz o (.dK kvs)))
theorem DP {X:Cx} (g:PE X e te):PI X tg e (iKy X.H₀ te):=by
 intro c s σ H R I h;refine thn (g c s σ H _ I h) λv s1 ⟨x,n,d,i,j⟩=>?_;obtain⟨a,kvs,rfl,ha,q⟩:=j;obtain rfl:v=jY a:=i;obtain⟨o,l,ep,f,p,go,m⟩:=d.freeze ha;exact A3 m ju (q o (d.dict_base rfl ha))
section
variable {K:PySem.W.Frag}{Θ:Tab}{ρ:List zC}{H:Hp}
theorem wm {a:zC}{o:Obj}{ks:List (Key×V)} (ha:H a=some (.frz o (.dK ks))) (r:Paired (λ(p:M.D×M.D) (q:Key×V)=>qW p.1 q.1/\zL K ρ H p.2 q.2) kvs ks):ItR K Θ ρ H (Itk a o ks) (kvs.map (·.1)) []:=by
 have f:kvs.length=ks.length:=Paired.length r;refine⟨λj c S' h p l d g e=>?_,λj c S' h v s p l d g e y=>?_,λc S' h p l d g=>?_⟩
 ·rw[z9,f] at e;exact⟨l.frzs _ _ _ ha,ks[j],by simp[e]⟩
 ·obtain⟨rfl,q,i,rfl⟩:=y;obtain⟨x,m,n,t⟩:=wM r i;exact⟨x.1,by rw[qG,m];rfl,qW.rel n,Le.refl _,d⟩
 ·exact⟨l.frzs _ _ _ ha,by rw[z9,f];exact zd _⟩
end
section
variable {X:Cx}{Θ:Tab}
theorem w_ms_forKeys {pos:Pos} (L:Xr (zI X.prog X.w) X.A X.env X.xe) (N:X.calm=true) (B:WE X Θ e m) (C:WG X Θ js tg g) (E:WSs X Θ j G)
  (Q:∀ x,JG e X.env x=pure x:=by intro _;rfl):WS X Θ (.For tg e j [] pos) (M.y9 m g G):=by
 delta WE WG WS WSs at B C E ⊢
 exact (uW (YT L N (DP B) C E Q)).up λD σ H U l S st Y h=>by
   refine⟨U,l,S,st,Y,zf.stm h λp u d v S1 p1 l1 r rv I=>?_⟩;cases d with
   | ref i =>
    obtain⟨a,rfl,hi⟩:=rv;have f:zf X.K Θ p u (match S1[i]? with
     | some (.dct kvs)=>M.thaw i kvs (M.jb [] (M.jO g G) (kvs.map (·.1)) l (S1.set i (.fdc kvs)))
     | _=>.no) D:=I
    cases q:S1[i]? with
    | none=>rw[q] at f;exact f.elim
    | some ob =>
     rw[q] at f;cases ob with
     | dct kvs =>
      obtain⟨b,s,ks,ha,J⟩:=r.obj i _ q;rw[hi] at s;cases s;refine⟨a,ks,rfl,ha,λo n=>?_⟩;have le:Le u (upd u a (.frz o (.dK ks))):=Le.put (ZW ha) _;have t:=Paired.mapP J λx y z=>(⟨z.1,z.2.mono (jN _) le⟩:qW x.1 y.1/\zL X.K p (upd u a (.frz o (.dK ks))) x.2 y.2)
      exact YU (wm ju t) (st.mono p1 (l1.trans le)) (r.put (o:=.fdc kvs) hi (ZW ha) ⟨o,ks,ju,t⟩) rfl (YD hi ha n J f)
     | lst xs=>exact f.elim
     | fdc _=>exact f.elim
     | dtt _=>exact f.elim
     | ftt _=>exact f.elim
     | ins c fs=>exact f.elim
   | _=>exact I.elim
theorem w_mi_keys (u:WE X Θ e m):WI X Θ tg e (M.ZF m):=by
 delta WE WI at u ⊢
 exact (bo u).imp λσ H R ⟨r,g,S,st,w,h⟩=>⟨r,g,S,st,w,by
  have h':zE X.K Θ _ r H (((m g S).bind λx s=>match x with
   | .ref i=>(match s[i]? with | some (.fdc kvs)=>M.R.ok (kvs.map λp:M.D×M.D=>p.1,([]:M.Gd)) s | _=>.no)
   | _=>.no).bind λp s=>if M.zW p.2 s then .ok p s else .no) R:=h
  clear h;cases hm:m g S with
  | no=>rw[hm] at h';exact h'.elim
  | exc a s=>rw[hm] at h';exact h'
  | ok d S1 =>
   rw[hm] at h';intro t y v p l j z;cases d with
   | ref i =>
    obtain⟨a,rfl,hi⟩:=z;have f:zE X.K Θ _ r H ((match S1[i]? with | some (.fdc kvs)=>M.R.ok (kvs.map λp:M.D×M.D=>p.1,([]:M.Gd)) S1 | _=>.no).bind λp s=>if M.zW p.2 s then .ok p s else .no) R:=h';cases q:S1[i]? with
    | none=>rw[q] at f;exact f.elim
    | some ob =>
     rw[q] at f;cases ob with
     | fdc kvs =>
      obtain⟨b,n,o,ks,ha,A⟩:=j.obj i _ q;rw[hi] at n;cases n;exact⟨a,o,ks,rfl,ha,f t y _ p l j (wm ha A)⟩
     | lst xs=>exact f.elim
     | dct _=>exact f.elim
     | dtt _=>exact f.elim
     | ftt _=>exact f.elim
     | ins c fs=>exact f.elim
   | _=>exact h'.elim⟩
theorem w_ms_frz {stm:zh} (l:WS X Θ stm m):WS X Θ stm (M.JH i m):=by
 delta WS at l ⊢
 intro d s σ H D I ⟨g,c,S,st,r,h⟩;have h':zf X.K Θ g H (match c[i]? with
  | some (some (.ref p))=>(match S[p]? with
   | some (.dct kvs)=>M.thaw p kvs (m c (S.set p (.fdc kvs)))
   | _=>.no)
  | _=>.no) D:=h
 clear h;split at h'
 ·rename_i p e;split at h'
  ·rename_i kvs q;obtain⟨v,B,a,rfl,hi⟩:=st.get i _ e;obtain⟨b,f,ks,ha,t⟩:=r.obj p _ q;rw[hi] at f;cases f;obtain⟨o,w,ep,u,C,go,A⟩:=I.freeze ha;have n:=I.dict_base rfl ha;have le:Le H (upd H a (.frz o (.dK ks))):=Le.put (ZW ha) _;have j:=Paired.mapP t λx y z=>(⟨z.1,z.2.mono (jN _) le⟩:qW x.1 y.1/\zL X.K g (upd H a (.frz o (.dK ks))) x.2 y.2)
   exact uW l d s σ _ D A ⟨g,c,S.set p (.fdc kvs),st.mono (jN _) le,r.put (o:=.fdc kvs) hi (ZW ha) ⟨o,ks,ju,j⟩,YD hi ha n t h'⟩
  ·exact h'.elim
 ·exact h'.elim
end
end L2
namespace L2
open PySem PySem.Spec PyProof.Rows
section
variable {P:zi}{w:zy}{A:jh}{E:zB->zG->Prop}{s:zG}
theorem BA:A8 (.type "list") "keys" = pure none:=by rw[FZ,dH];kernel_rfl
theorem Dh {a:zC}{o:Obj}{xs:Array zB}{k:Nat}{Q:Option zB->zG->Prop} (l:s.heap.get? a=some o) (m:o.cls=.type "list") (f:o.data=.seq xs k) (hd:o.dict=none) (p:A.handled=none)
  (h:∀ h' tk,(∀ b ob,s.heap.get? b=some ob->h'.get? b=some ob)->Q none { s with heap:=h',toks:=tk }):wpAny (zI P w) A (getAttr? (.ref a) "keys") Q E s:=by
 obtain⟨c,dct,q,r⟩:=o;simp only at m f hd;subst m f hd;obtain⟨t,g,d,tk,os⟩:=s;have n:∀ i,(⟨t,g,d,i,os⟩:zG).TypeIs (.ref a) "list" := λ_=>⟨_,l,rfl⟩
 have u:=sub_AttributeError;have v:=PySem.F.slot_list_getattribute.lookup;have x:=PySem.F.slot_list_getattribute.bind (.ref a);have y:=am_list_getattr_none;unfold getAttr? getAttrBy? getAttrBy
 repeat (any_goals (first | assumption | exact n _ | ((with_reducible show wpAny _ _ (call (Value.builtin "list.__getattribute__") _ _) _ _ _);refine ud PySem.F.slot_list_getattribute (n _) am_entry_list_getattribute (PySem.F.args_list_getattribute_2 _ _) (meets_getattribute_miss_list a xs k r "keys" _ BA (by decide +kernel) (by size_fits)) ⟨l,p,λh' i e j=>?_⟩) | wp_step))
 obtain⟨t',z,B⟩:=j.there;show wpAny _ _ (dw _ _ _ _ _ _ _) _ _ _;unfold dw
 repeat (any_goals (first | assumption | wp_step))
 exact h _ _ j.keeps
theorem Ug:entryFor table "dict.update.loop" = some Builtin.«dict.update.loop» := entryFor_of_tree (by kernel_rfl)
theorem vX:plainId "dict.update.loop" = true:=by decide +kernel
def Jd (h:zT) (a:zC) (its:List zB):Prop:=∃ o n,h.get? a=some o/\o.cls=.type "tuple" /\ o.data=.seq its.toArray n
theorem Jd.at {h':zT}{a:zC}{its:List zB} (x:Jd h a its) (e:∀ o,h.get? a=some o->h'.get? a=some o):Jd h' a its:=by
 obtain⟨o,n,c,r⟩:=x;exact⟨o,n,e _ c,r⟩
abbrev Pq:=zC×Key×zB×zB
noncomputable def stL (c:List Pq):List (Key×zB):=c.foldl (λacc q=>stored acc q.2.1 q.2.2.2) []
theorem Bf (c:List Pq) (q:Pq):stL (c++[q])=stored (stL c) q.2.1 q.2.2.2:=by
 unfold stL;rw[CA];rfl
theorem d8 (kvs:List (Key×zB)) (k:Key) (v:zB):(stored kvs k v).length <= kvs.length+1:=by
 unfold stored;split<;>simp
theorem U4 (c:List Pq):(stL c).length <= c.length:=by
 have:∀ (c:List Pq) (acc:List (Key×zB)),(c.foldl (λacc q=>stored acc q.2.1 q.2.2.2) acc).length <= acc.length+c.length:=by
  intro c
  induction c with
  | nil=>intro acc;simp
  | cons q c d =>
   intro acc;have e:=d (stored acc q.2.1 q.2.2.2);have f:=d8 acc q.2.1 q.2.2.2;simp only[Qi,jU]
   lia
 have:=this c [];simpa [stL] using this
theorem FP {R:xU->zG->Prop}{c:List Pq}{Pv:Nat->zB->Prop}{St:Nat->zG->Prop} (W:WalksS P w A.in1 I fp m G c.length Pv St) (D:zC) (Y:D∉fp) (hv:∀ i v,Pv i v->∃ q,c[i]? = some q/\v=.ref q.1)
  (B:∀ q∈c,q.1∉D::m/\(jJ P w).is q.2.1 q.2.2.1=true) (l:c.length <= zc) :
  ∀ (k i:Nat) (s:zG) (j:Tok) (C:Int),c.length - i=k->i <= c.length->St i s->s.heap.DictOf (jJ P w) D (stL (c.take i))->(∀ q∈c,Jd s.heap q.1 [q.2.2.1,q.2.2.2])->(∀ d,Moved (D::m) G s d->d.heap.DictOf (jJ P w) D (stL c)->R (.ok (.ret .none)) d) ->
   codeAny (zI P w) A (.builtin "dict.update.loop" ⟨[.ref D,.ref I,.int C j,.none],[]⟩) R s:=by
 have nw:D∉m:=λh=>Y (W.sub _ h);have sb:∀ b∈m,b∈D::m:=λb l=>jV _ l;intro k
 induction k with
 | zero =>
  intro i s j C hk hi st y ht H;have e:i=c.length:=by lia
  subst e;rw[Jq] at y;refine QG Ug ?_;rw[Xa vX _];show wpAny (zI P w) A.in1 (QB (.ref I) >>= _) _ _ s;refine wpAny_bind (W.done s _ _ st λd hm=>?_);show wpAny (zI P w) A.in1 (Hc D [] >>= _) _ _ d;refine wpAny_bind (wpAny_pure (wpAny_pure (H d (hm.mono sb) ?_)));obtain⟨o,es,ep,f,r⟩:=y;exact⟨o,es,ep,hm.heap D _ nw f,r⟩
 | succ k ih =>
  intro i s j C hk hi st y ht H;have lt:i < c.length:=by lia
  refine QG Ug ?_;rw[Xa vX _];show wpAny (zI P w) A.in1 (QB (.ref I) >>= _) _ _ s;refine wpAny_bind (W.item i s _ _ lt st λv d hP J hm=>?_);obtain⟨q,ex,rfl⟩:=hv i v hP;have g:q∈c:=yn ex;obtain⟨hnq,L⟩:=B q g;have M:d.heap.DictOf (jJ P w) D (stL (c.take i)):=by
   obtain⟨o,es,ep,f,r⟩:=y;exact⟨o,es,ep,hm.heap D _ nw f,r⟩
  have p:∀ q∈c,Jd d.heap q.1 [q.2.2.1,q.2.2.2]:=λt h'=>(ht t h').at λo f=>hm.heap _ _ (λz=>(B t h').1 (sb _ z)) f;obtain⟨o,n,f,hc,hd⟩:=p q g;refine wpAny_bind (y4 ?_);refine wpAny_bind (XO ?_);unfold iD;refine wpAny_bind (vM (T := "tuple") ⟨o,f,hc⟩ ?_);rw[if_pos (by decide)];refine wpAny_bind (Xi f hd ?_);refine wpAny_pure ?_;show wpAny (zI P w) A.in1 (holding [q.2.2.1,q.2.2.2] (dictSet D q.2.2.1 q.2.2.2)) _ _ d;refine y4 ?_;have u:(stL (c.take i)).length <= zc:=by
   have:=U4 (c.take i);rw[qx] at this
   lia
  refine wpAny_dictSet_pairs L M (λh' x N=>?_) u;have e3:stored (stL (c.take i)) q.2.1 q.2.2.2=stL (c.take (i+1)):=by
   rw[JI,ex,Y1,Bf]
  rw[e3] at x;refine wpAny_pure ⟨Xl vX _,ih (i+1) _ _ _ (by lia) lt (W.frame _ d _ _ J (kU _) λb l o e=>?_) x (λt h'=>(p t h').at λo f=>?_) λs2 Q U=>?_⟩
  ·rw[N.2 b (λh:b=D=>Y (by rw[<- h];exact l))];exact e
  ·rw[N.2 _ (λh:_=D=>(B t h').1 (by rw[h];exact jI))];exact f
  ·refine H s2 (Dl W.gtrans ((hm.mono sb).then_heap (kU _) λb o l e=>?_) Q) U;rw[N.2 b (λh:b=D=>l (by rw[h];exact jI))];exact e
end
end L2
namespace L2
open PySem PySem.Spec PyProof.Rows
section
variable {P:zi}{w:zy}{A:jh}{E:zB->zG->Prop}{s:zG}
theorem Gf {l:zC}{its:List zB}{j:List Pq}{Q:zB->zG->Prop} (J:A.handled=none) {m:Obj}{nl:Nat} (B:s.heap.get? l=some m) (cl:m.cls=.type "list") (dl:m.data=.seq its.toArray nl) (M:m.dict=none) (N:its.length=j.length) (hi:∀ (i:Nat) (v:zB),its[i]? = some v->∃ q,j[i]? = some q/\v=.ref q.1)
  (C:∀ q∈j,(jJ P w).is q.2.1 q.2.2.1=true/\Jd s.heap q.1 [q.2.2.1,q.2.2.2]) (U:j.length <= zc)
  (h:∀ (h':zT) (tk:Nat),h'.DictOf (jJ P w) s.heap.objs.size (stL j)->(∀ b o,s.heap.get? b=some o->h'.get? b=some o)->Q (.ref s.heap.objs.size) { s with heap:=h',toks:=tk }) :
  wpAny (zI P w) A (call (.type "dict") [.ref l]) Q E s:=by
 refine Dm (Q₁:=λobj g=>obj=.ref s.heap.objs.size/\g={ s with heap:=s.heap.push { cls:=.type "dict",data:=.dict #[] } }) PySem.F.kt_called_dict (PySem.F.kt_typeCall_dict_1 _) PySem.F.entry_dict_init (PySem.kt_code_dict_new _ ⟨rfl,rfl⟩) ?_
 rintro obj g ⟨rfl,rfl⟩
 have c:(s.heap.push { cls:=.type "dict",data:=.dict #[] }).DictOf (jJ P w) s.heap.objs.size []:=FE s.heap;have gl1:(s.heap.push { cls:=.type "dict",data:=.dict #[] }).get? l=some m:=jK _ B;have lt:l < s.heap.objs.size:=zm B;refine⟨c.typeIs,PySem.F.args_dict_init_2 _ _,?_⟩;unfold Builtin.«dict.__init__»;refine wpAny_bind ?_;unfold Hb;refine wpAny_bind (wpAny_notOrdered_dict c.typeIs ?_);show wpAny _ _ (pure (s.heap.objs.size,[jY l])) _ _ _;refine wpAny_pure ?_;show wpAny _ _ (dD "dict.__init__" s.heap.objs.size (.ref l) [] .none) _ _ _;unfold dD;refine wpAny_bind (vM (T := "list") ⟨m,gl1,cl⟩ ?_);rw[if_pos (by decide)];refine wpAny_bind (Dh gl1 cl dl M J λp G u=>?_);have H:∀ b o,s.heap.get? b=some o->p.get? b=some o:=λb o e=>u _ _ (jK _ e);have x:p.DictOf (jJ P w) s.heap.objs.size []:=by
  obtain⟨o,es,ep,t,r⟩:=c;exact⟨o,es,ep,u _ _ t,r⟩
 have y:p.IsList l its.toArray:=⟨m,H _ _ B,cl,nl,dl⟩
 rw[if_pos (by rfl)];refine wpAny_bind (Q0 ?_);refine wpAny_bind (uK (s:={ s with heap:=p,toks:=G }) y ?_);refine wpAny_pure ⟨Xl vX _,?_⟩;have f:s.heap.objs.size < p.objs.size:=by
  obtain⟨o,es,ep,t,r⟩:=x;exact zm t
 have Y:s.heap.objs.size∉[p.objs.size,l]:=by
  intro hm;rcases List.mem_cons.mp hm with e | hm
  ·exact absurd e (z4 f)
  ·exact absurd (List.mem_singleton.mp hm) (qd lt)
 have W:=(UR (prog:=P) (w:=w) (A:=A.in1.in1) J p.objs.size l (z4 (Xc lt f)) its.toArray).toS;have ez:its.toArray.size=j.length:=by rw[jw];exact N
 rw[ez] at W;refine FP W s.heap.objs.size Y (λi v hv=>hi i v (by simpa using hv)) (λq hm=>⟨λz=>?_,(C q hm).1⟩) U j.length 0 _ _ _ (by lia) (ZJ _) ⟨⟨_,qU _ rfl,rfl,rfl⟩,y.push _⟩ (x.push _) (λq hm=>(C q hm).2.at λo t=>jK _ (H _ _ t)) λs' hm I=>?_
 ·obtain⟨o,n,t,_⟩:=(C q hm).2;have l1:=zm t;rcases List.mem_cons.mp z with e | z
  ·exact absurd e (z4 l1)
  ·exact absurd (List.mem_singleton.mp z) (z4 (Xc l1 f))
 ·rw[gq hm];refine⟨rfl,h _ _ I λb o e=>hm.heap b o (λd=>?_) (jK _ (H _ _ e))⟩;have L:=zm e;rcases List.mem_cons.mp d with e' | d
  ·exact z4 L e'
  ·exact z4 (Xc L f) (List.mem_singleton.mp d)
theorem BG {d:zC}{kvs:List (Key×zB)}{ep:Nat}{Q:zB->zG->Prop} (B:A.handled=none) (lo:(d == y7)=false) (C:s.heap.DictAt (jJ P w) d kvs ep) (G:∀ p:List zB,p.length=kvs.length->(∀ (j:Nat) v,p[j]? = some v->∃ k x,kvs[j]? = some (k,x)/\(jJ P w).is k v=true)->XM p ss) (r:kvs.length <= 16777216)
  (h:∀ (f h':zT) (tk:Nat) (L:zC) (out:List zB) (e:Nat) (c:List Str),f.objs.size <= L->(∀ b o,s.heap.get? b=some o->f.get? b=some o)->(∀ b o,f.get? b=some o->h'.get? b=some o)->h'.get? L=some (Zi "list" out.toArray e)->XM out c->c.Perm ss->Vi c=true->Q (.ref L) { s with heap:=h',toks:=tk }) :
  wpAny (zI P w) A (call (.builtin "sorted") [.ref d]) Q E s:=by
 refine Calls.call_function_entry kind_sorted plain_sorted entry_sorted (args_sorted1 _) ?_;unfold Builtin.«sorted»;refine wpAny_bind (m:=checkCount "sorted" 1 1 _) (wpAny_pure ?_);refine wpAny_bind (PySem.W.kdu_collect (A:=A.in1) (PySem.W.kdl_dict lo) B C (by rw[ZG];lia) λf tk acc H g=>?_);have t:acc.toList.length=kvs.length:=by rw[jf];exact g.1
 refine wpAny_bind (wj ?_ (by rw[t,ZG];lia));have i:XM acc.toList ss:=G _ t λj v e=>by
  obtain⟨k,x,I,J⟩:=g.2 j v (by rw[<- Xt];exact e);exact⟨k,x,I,J⟩
 have l:(f.push (Zi "list" acc.toList.toArray 0)).get? f.objs.size=some (Zi "list" acc.toList.toArray 0):=qU _ rfl;show wpAny _ _ _ _ _ { s with heap:=f.push (Zi "list" acc.toList.toArray 0),toks:=tk };refine wpAny_bind (y4 (VH slot_list_sort ⟨_,l,rfl⟩ entry_list_sort (TS.gn strKind_oneLt l i.keysOf (λu y jn e=>keyKind_strs (by rw[<- e];exact i)) (by rw[t];exact r) λn M N=>⟨_,rfl,?_⟩) (args_list_sort _)));obtain⟨c,U,Y,b3⟩:=sorted_out_str i M N;obtain⟨e,he⟩:=sortedHeap_at (out:=(zJ n).map (·.2)) l;refine wpAny_pure ⟨_,rfl,h f _ tk f.objs.size ((zJ n).map (·.2)).toList e c (zd _) H (λb o q=>?_) (by rw[Array.toArray_toList];exact he) U Y b3⟩;have z:=zm q;rw[sortedHeap_old (z4 z) (by rw[size_push'];exact xK z)];exact jK _ q
end
end L2
namespace L2
open PySem PySem.Spec PyProof.Rows
noncomputable abbrev V8 (K:PySem.W.Frag) (H:Hp):Key×V->V->Prop:=λp y=>∃ t,y=.ref t/\SqT K H t [kV p.1,p.2]
noncomputable def vZ (ps:List (Key×V)):List (Key×V):=ps.foldl (λa p=>j4 a p.1 p.2) []
noncomputable def Ww (K:PySem.W.Frag):List V->Hp->VK->Prop:=λxs H Q=>∃ p ys ps,xs=[.ref p]/\SqL K H p ys/\ys.length <= 1000/\Paired (V8 K H) ps ys/\∀ l,H l=none->Q (.ref l) (upd H l (.dK (vZ ps)))
noncomputable abbrev QP:Key×V->Pq->Prop:=λp q=>p.1=q.2.1/\zX p.2 q.2.2.2
theorem wA {X:Cx} (I:Inv X l σ H s):∀ {ps:List (Key×V)}{ys:List V}{its:List zB},Paired (V8 X.K H) ps ys->za ys its ->
  ∃ f:List Pq,its.length=f.length/\(∀ (i:Nat) (v:zB),its[i]? = some v->∃ q,f[i]? = some q/\v=.ref q.1)/\(∀ q∈f,(jJ X.prog X.w).is q.2.1 q.2.2.1=true/\Jd s.heap q.1 [q.2.2.1,q.2.2.2])/\Paired QP ps f
 | [],_,_,.nil,.nil=>⟨[],rfl,λi v e=>by simp at e,λq h=>absurd h List.not_mem_nil,Paired.nil⟩
 | p::ps,_,_,.cons m r,.cons u x=>by
  obtain⟨f,y,z,A,B⟩:=wA I r x;obtain⟨t,rfl,C⟩:=m;obtain⟨us,E,⟨o,G,J,n,L⟩,_⟩:=I.tuple C;obtain⟨g,j,rfl,M,N⟩:∃ g j,us=[g,j]/\zX (kV p.1) g/\zX p.2 j:=by
   cases E with
   | cons a b=>cases b with
    | cons c d=>cases d;exact⟨_,_,rfl,a,c⟩
  refine⟨(t,p.1,g,j)::f,by simp[y],λi v e=>?_,λq h=>?_,.cons ⟨rfl,N⟩ B⟩
  ·cases i with
   | zero=>cases e;exact⟨_,rfl,u⟩
   | succ i=>exact z i v e
  ·rcases List.mem_cons.mp h with rfl | h
   ·exact⟨Qd M,o,n,G,J,L⟩
   ·exact A q h
theorem Gz (h:Paired QP ps d):∀ {kvs:List (Key×V)}{c:List (Key×zB)},KV kvs c->KV (ps.foldl (λa p=>j4 a p.1 p.2) kvs) (d.foldl (λacc q=>stored acc q.2.1 q.2.2.2) c):=by
 induction h with
 | nil=>exact λr=>r
 | @cons p q _ _ h t f =>
  intro kvs c r;have e:KV (j4 kvs p.1 p.2) (stored c q.2.1 q.2.2.2):=by rw[<- h.1];exact r.put p.1 h.2
  exact f e
theorem um {X:Cx}{k:Nat} (i:zx k X.A):qX X (.type "dict") (Ww X.K):=by
 intro f s σ H xs us Q I r h;obtain⟨p,ys,ps,rfl,j,hz,l,q⟩:=h;obtain⟨u,rfl,m⟩:=y6 r;cases m;obtain⟨its,g,⟨o,n,t,v,w,x⟩,_⟩:=I.list j;obtain⟨y,B,C,E,G⟩:=wA I l g;have J:=g.length;have c:(s.heap.objs.size == y7)=false:=by have:=I.big;exact beq_eq_false_iff_ne.mpr (qd this)
 have kv:=Gz G (.nil:KV ([]:List (Key×V)) []);have z:(vZ ps).length <= zc:=by
  have a:=kv.length;have b:=U4 y;unfold stL at b;unfold vZ;rw[ZG]
  lia
 refine ye (n:=1) I.tk (Gf i.hd t v x w B C E (by rw[ZG];lia) λh' tk d kp e=>?_);exact⟨.ref s.heap.objs.size,_,I.laid (t':=tk) (o:=.dK (vZ ps)) kp (zd _) (K5 z c kv d) e,rfl,q _ (I.hok.fresh (zd _))⟩
noncomputable def wQ:List V->Hp->VK->Prop:=λxs H Q=>∃ p ks ys,xs=[.ref p]/\H p=some (.dK ks)/\ks.map (λkv=>kV kv.1)=ys.map V.str/\ys.length <= 16777216/\∀ q c,H q=none->c.Perm ys->Vi c=true->Q (.ref q) (upd H q (.lst (c.map V.str)))
theorem af:∀ {ys:List Str}{c:List zB},za (ys.map V.str) c->XM c ys
 | [],_,.nil=>.nil
 | y::ys,_,.cons h t=>by
  obtain⟨u,rfl⟩:=(show ∃ t,_=k8 y t from h)
  exact .cons y u (af t)
theorem aI {X:Cx}{k:Nat} (y:zx k X.A):qX X (.builtin "sorted") wQ:=by
 intro c s σ H xs us Q I r h;obtain⟨p,ks,ys,rfl,B,i,C,q⟩:=h;obtain⟨u,rfl,E⟩:=y6 r;cases E;obtain⟨z,lo,vs,m,G⟩:=Qb I.hok B;obtain⟨ep,J⟩:=G.dictAt;have hl:=m.length;have hy:ks.length=ys.length:=by have:=congrArg xX i;simpa using this
 refine ye (n:=1) I.tk (BG (ss:=ys) y.hd lo J (λws hw hit=>?_) (by lia) λM h' tk L out e l l1 N U g Y t a3 d=>?_)
 ·refine af ?_;rw[<- i];refine uo (by simp;lia) λj u hu=>?_;obtain⟨k,x,e,i⟩:=hit j u hu;have f:(ks.map (·.1))[j]? = some k:=by rw[m.keys,qG,e];rfl
  refine⟨kV k,?_,A6 i⟩;rw[qG] at f ⊢;cases v:ks[j]? with
  | none=>rw[v] at f;cases f
  | some kv=>rw[v] at f;cases f;rfl
 ·have w:Inv X c σ H { s with heap:=M,toks:=tk }:=I.kept (t':=tk) N d;have hl':=t.length_eq;exact⟨.ref L,_,w.laid (t':=tk) (o:=.lst (l.map V.str)) U l1 ⟨by rw[z9,ZG];lia,out,e,Uv Y,by simpa [Zi] using g⟩ d,rfl,q _ _ (w.hok.fresh l1) t a3⟩
section
variable {K:PySem.W.Frag}{Θ:Tab}
theorem aL:AdN K Θ M.kc wQ:=by
 intro v H S xs w Q f c h;unfold M.kc at h;split at h
 ·rename_i p;obtain⟨Y,r,rfl,ry,rfl⟩:=c;split at h
  ·rename_i kvs e;obtain⟨a,rfl,ha⟩:=ry;obtain⟨ks,g,r⟩:=ZR f ha e;have i:=Yi r;unfold M.K4 at h;split at h
   ·rename_i ts j;obtain⟨l,hok⟩:=Kq j i;split at h
    ·rename_i d;refine⟨a,ks,ts.map ofT,rfl,g,l,by rw[z9];exact d,λq m n o s=>?_⟩;rw[Yg o s];exact h.alloc f (WR (M.qI ts) λt u=>hok t ((uH ts).mem_iff.mp u)) n
    ·exact h.elim
   ·exact h.elim
  ·exact h.elim
 ·exact h.elim
theorem W6:∀ {c:List M.D}{ys:List V}{kvs:List (M.D×M.D)},M.QY c=some kvs->zP K j H c ys->∃ ps,Paired (V8 K H) ps ys/\DR K j H kvs ps
 | [],_,_,e,r=>by cases e;cases r;exact⟨[],.nil,.nil⟩
 | d::c,_,kvs,e,r=>by
  unfold M.QY at e;split at e
  ·rename_i z;cases z
  ·rename_i k v x z;cases z;obtain⟨Y,y,rfl,ry,l⟩:=r;split at e
   ·rename_i m;cases q:M.QY c with
    | none=>rw[q] at e;cases e
    | some i =>
     rw[q] at e;cases e;obtain⟨ps,n,o⟩:=W6 q l;obtain⟨t,A,rfl,p,s⟩:=ry;obtain⟨B,C,rfl,f,u,E,rfl,g,rfl⟩:=s;obtain⟨w,h,rfl⟩:=Z0 m f;exact⟨(w,u)::ps,.cons ⟨t,rfl,p⟩ n,.cons ⟨h,g⟩ o⟩
   ·cases e
  ·cases e
theorem Fw (h:DR K c H kvs ps):∀ {acc:List (M.D×M.D)}{d:List (Key×V)},DR K c H acc d->DR K c H (kvs.foldl (λa p=>M.jA p.1 p.2 a) acc) (ps.foldl (λa p=>j4 a p.1 p.2) d):=by
 unfold DR at h
 induction h with
 | nil=>exact λr=>r
 | cons e t f=>exact λr=>f (DR.put r e.1 e.2)
theorem Vb:AdN K Θ M.QN (Ww K):=by
 intro o H S xs q Q d c h;unfold M.QN at h;split at h
 ·rename_i p;obtain⟨Y,r,rfl,ry,rfl⟩:=c;split at h
  ·rename_i s e;obtain⟨a,i,rfl,ha,j,l⟩:=xc d ry e;split at h
   ·rename_i kvs m;obtain⟨ps,f,g⟩:=W6 m l;split at h
    ·rename_i t;have l1:=Paired.length f;have u:=Paired.length g;exact⟨a,i,ps,rfl,SqL.of j,by lia,f,λp n=>W8 h d (Fw g .nil) n⟩
    ·exact h.elim
   ·exact h.elim
  ·exact h.elim
 ·exact h.elim
theorem HU:Ad2 K Θ M.kF (ipI λi j=>i - j):=by
 intro d H S x y X Y Q c rx ry h;cases x with
 | int i =>
  cases y with
  | int j=>cases rx;cases ry;exact⟨i,j,rfl,rfl,zE.here (b:=V.int (i - j)) h c rfl⟩
  | _=>exact h.elim
 | _=>exact h.elim
theorem w_ms_daug {X:Cx}{pos w:Pos} (hr:zx n X.A) (ho:WE X Θ o mo) (hi:WE X Θ i mi) (he:WE X Θ e me) (hop:PIp X op r) (ad:Ad2 X.K Θ g r)
  (ha:∀ L N new,augStore i L N new=(do holding [new,L,N] (kJ L N new);release [new,L,N] [];pure .next):=by intro _ _ _;rfl):WS X Θ (.AugAssign (.Subscript o i w) op e pos) (M.JO g mo mi me):=by
 delta WE WS at ho hi he ⊢
 exact (g8 (by have:=hr.units;lia) ho hi he hop ha).up λD σ H ρ c S st rp h=>⟨ρ,c,S,st,rp,zf.stm h λρ1 H1 x X1 S1 p1 l1 rp1 rx h1 =>
   ⟨ρ1,c,S1,st.mono p1 l1,rp1,zf.stm h1 λB H2 k K2 S2 p2 l2 C rk h2=>by
   have f:zf X.K Θ B H2 ((M.Q6 x k S2).stm c λv s=>(me c s).stm c λy s=>(g v y s).stm c λz s=>(M.JR x k z s).stm c λ_ s=>.nx c s) D:=h2;have E:=rx.mono p2 l2;cases x with
   | ref p =>
    obtain⟨a,rfl,hp⟩:=id E;cases q:S2[p]? with
    | none=>simp only[M.Q6,q] at f;exact f.elim
    | some ob =>
     cases ob with
     | dct kvs =>
      obtain⟨ks,e2,r2⟩:=ZR C hp q;cases Q:M.z6 k with
      | false=>simp only[M.Q6,q,Q] at f;exact f.elim
      | true =>
       obtain⟨kk,G,rfl⟩:=Z0 Q rk;have hv:=DR.val r2 G;cases qv:M.jD k kvs with
       | none=>simp only[M.Q6,q,Q,qv,if_true] at f;exact f.elim
       | some d =>
        rw[qv] at hv;obtain⟨v,ev,rv⟩:=hv;simp only[M.Q6,q,Q,qv,if_true,M.R.stm_ok] at f;refine⟨a,v,rfl,.inl ⟨ks,kk,.inl e2,rfl,ev.symm⟩,B,c,S2,st.mono (p1.trans p2) (l1.trans l2),C,zf.stm f λρ3 H3 y Y S3 p3 l3 rp3 ry h5=>ad ρ3 H3 S3 d y v Y _ rp3 (rv.mono p3 l3) ry (zf.stm h5 λt H4 z Z U p4 l4 I rz h6=>?_)⟩;have j:zf X.K Θ t H4 ((M.JR (.ref p) k z U).stm c λ_ s=>.nx c s) D:=h6;cases J:U[p]? with
        | none=>simp only[M.JR,J] at j;exact j.elim
        | some ob4 =>
         cases ob4 with
         | dct l =>
          cases m:(M.z6 k && decide (l.length < M.SZ)) with
          | false=>simp only[M.JR,J,m] at j;exact j.elim
          | true =>
           have hk2:(if (M.z6 k && decide (l.length < M.SZ))=true then M.R.ok () (U.set p (.dct (M.jA k z l))) else .no)=M.R.ok () (U.set p (.dct (M.jA k z l))):=if_pos m;simp only[M.JR,J,hk2,M.R.stm_ok] at j;rw[jl] at m;have hp4:=(E.mono (p3.trans p4) (l3.trans l4))
           obtain⟨b,eb,hb⟩:=hp4;cases eb;obtain⟨u,e4,r4⟩:=ZR I hb J;have le:=Le.put (ZW e4) (.dK (j4 u kk Z));refine⟨_,xN.k e4 (by rw[<- Paired.length r4,<- yo];exact of_decide_eq_true m.2),?_⟩;have r':DR X.K t (upd H4 a (.dK (j4 u kk Z))) l u:=Paired.mapP r4 λa b z=>⟨z.1,z.2.mono (jN _) le⟩
           exact j t _ σ (jN _) le (I.put hb (ZW e4) ⟨_,ju,DR.put r' G (rz.mono (jN _) le)⟩) (st.mono (p1.trans (p2.trans (p3.trans p4))) (l1.trans (l2.trans (l3.trans (l4.trans le)))))
         | _=>simp only[M.JR,J] at j;exact j.elim
     | _=>simp only[M.Q6,q] at f;exact f.elim
   | _=>exact f.elim⟩⟩
end
noncomputable abbrev XT (X:Cx) (N:List Str):Cx:={ X with N:=N }
theorem U3 {c:Type}{σ:List (Option c)}{i j:Nat}{v:c} (h:(σ.set i none)[j]? = some (some v)):j≠i/\σ[j]? = some (some v):=by
 by_cases e:i=j
 ·subst e;by_cases d:i < σ.length
  ·rw[Qq d] at h;cases h
  ·rw[QQ (by rw[qE];lia)] at h;cases h
 ·rw[yY e] at h;exact⟨λz=>e z.symm,h⟩
theorem Inv.renamed {X:Cx}{N:List Str}{i:Nat} (I:Inv X c σ H s) (e:N.length=X.N.length) (f:∀ j,j≠i->N[j]? = X.N[j]?):Inv (XT X N) c (σ.set i none) H s where
 ok:=⟨I.ok.mod,I.ok.kind,I.ok.glob,I.ok.blt,I.ok.above,I.ok.inj,I.ok.has,I.ok.cab,I.ok.hd,I.ok.frames,I.ok.stk,I.ok.exf,I.ok.bs,I.ok.bsz,I.ok.noex,I.ok.exfs,I.ok.funs,I.ok.frf⟩
 os:=I.os
 bare:=I.bare
 base:=I.base
 loc:=by
  obtain⟨m,g,h⟩:=I.loc;refine⟨m,g,λj x v l n=>?_⟩;obtain⟨ne,d⟩:=U3 n;exact h j x v (by rw[<- f j ne];exact l) d
 cell:=I.cell
 free:=I.free
 freeC:=I.freeC
 pin:=I.pin
 hok:=I.hok
 len:=by rw[qE,I.len];exact e.symm
 tk:=I.tk
noncomputable abbrev Dy (i:Nat) (D:yv):yv:=⟨λσ H=>D.nx (σ.set i none) H,D.rt,λσ H=>D.bk (σ.set i none) H,λσ H=>D.ct (σ.set i none) H⟩
theorem Dn {X:Cx}{i:Nat}{st:zh}{N:List Str} (n:N.length=X.N.length) (o:∀ j,j≠i->N[j]? = X.N[j]?) (h:PS (XT X N) st t):PS X st λD σ H=>t (Dy i D) (σ.set i none) H:=λg s σ H D I q=>thn (h g s _ H _ (I.renamed n o) q) λf s1 z=>by
 have c:∀ {e:St}{l:Hp},Inv (XT X N) g e l s1->Inv X g (e.set i none) l s1:=λJ=>Inv.renamed (X:=XT X N) (N:=X.N) (i:=i) J n.symm λj ne=>(o j ne).symm;cases f with
 | next=>obtain⟨e,l,m,d⟩:=z;exact⟨_,l,c m,d⟩
 | brk=>obtain⟨e,l,m,d⟩:=z;exact⟨_,l,c m,d⟩
 | cont=>obtain⟨e,l,m,d⟩:=z;exact⟨_,l,c m,d⟩
 | ret u=>obtain⟨v,e,l,m,r,d⟩:=z;exact⟨v,_,l,c m,r,d⟩
theorem zt.forget {K:PySem.W.Frag} (h:zt K f H c σ) (i:Nat):zt K f H (c.set i none) (σ.set i none):=⟨by rw[qE,qE];exact h.len,λj d e=>by
 obtain⟨ne,g⟩:=U3 e;obtain⟨v,l,m⟩:=h.get j d g;exact⟨v,by rw[yY (jr ne)];exact l,m⟩⟩
theorem Wd {N c:List Str}{i:Nat} (h:c=N.set i ""):c.length=N.length/\∀ j,j≠i->c[j]? = N[j]? := by
 subst h;exact⟨qE,λj ne=>yY (jr ne)⟩
theorem w_ms_hide {X:Cx}{i:Nat}{stm:zh}{N:List Str} (t:N=X.N.set i "") (u:WS (XT X N) v stm r):WS X v stm (M.ZE i r):=by
 delta WS at u ⊢
 exact (Dn (Wd t).1 (Wd t).2 u).up λD σ H w j S st x h=>⟨w,j.set i none,S,st.forget i,x,by
   have h':zf X.K v w H (M.J3 i (r (j.set i none) S)) D:=h;cases q:r (j.set i none) S with
   | nx o S1=>rw[q] at h';exact λc m n p l f g=>h' c m _ p l f (g.forget i)
   | bk o S1=>rw[q] at h';exact λc m n p l f g=>h' c m _ p l f (g.forget i)
   | ct o S1=>rw[q] at h';exact λc m n p l f g=>h' c m _ p l f (g.forget i)
   | rt d S1=>rw[q] at h';exact λc m n p l f g=>h' c m _ p l f g
   | exc e a s=>rw[q] at h';exact (show False from h').elim
   | no=>rw[q] at h';exact h'⟩
end L2
namespace L2
open PySem PySem.Spec PyProof.Rows PySem.Builtin.Str
noncomputable def ah:V->List V->Hp->VK->Prop:=λx c H Q=>∃ a kvs,x=.ref a/\c=[]/\H a=some (.dK kvs)/\Q .non (upd H a (.dK []))
theorem fF {X:Cx}:MtM X "dict.clear" ah:=by
 intro d s σ H x i v us Q I rx e h;obtain⟨a,kvs,rfl,rfl,f,q⟩:=h;cases rx;have c:=e.zero;subst c;exact BI I f λj g=>⟨.non,_,g,rfl,q⟩
theorem HD {K:PySem.W.Frag}:AdM K j M.KA ah:=by
 intro i H S x xs X l Q e rx c h;unfold M.KA at h;split at h
 ·rename_i p;cases c;split at h
  ·rename_i kvs q;obtain⟨a,rfl,f⟩:=rx;obtain⟨b,g,ks,d,r⟩:=e.obj _ _ q;rw[f] at g;cases g;have le:=Le.put (ZW d) (.dK []);exact⟨a,ks,rfl,rfl,d,h i _ _ (jN _) le (e.put f (ZW d) ⟨_,ju,.nil⟩) rfl⟩
  ·exact h.elim
 ·exact h.elim
end L2
namespace L2
open PySem PySem.Spec PyProof.Rows PySem.SeqAt
mutual
inductive IsV (h:zT):Nat->M.D->zB->Prop
 | non {n:Nat}:IsV h n .non .none
 | int {n:Nat}{i:Int}{t:Tok}:IsV h n (.int i) (.int i t)
 | str {n:Nat}{x:M.T}{t:Tok}:IsV h n (.str x) (.str (ofT x) t)
 | tup {n:Nat}{ds:List M.D}{a:zC}{us:List zB}:h.IsTuple a us.toArray->Kl h n ds us->IsV h (n+1) (.tup ds) (.ref a)
inductive Kl (h:zT):Nat->List M.D->List zB->Prop
 | nil {n:Nat}:Kl h n [] []
 | cons {n:Nat}{d:M.D}{ds:List M.D}{u:zB}{us:List zB}:IsV h n d u->Kl h n ds us->Kl h n (d::ds) (u::us)
end
section
variable {X:Cx}{pins:List (zC×Obj)}{σ:St}{H:Hp}{s:zG}
def W4 (K:PySem.W.Frag) (H:Hp) (d:M.D) (x:V):Prop:=M.kyT d=true/\∃ c,zL K c H d x
end
section
variable {X:Cx}{pins:List (zC×Obj)}{σ:St}{H:Hp}{s:zG}{Θ:Tab}{K:PySem.W.Frag}{ρ:List zC}{S:M.S}
structure TDt (K:PySem.W.Frag) (H:Hp) (ha:M.D->Int) (a:zC) (xs:List (M.D×zC×zB)):Prop where
 at':H a=some (.ext (TD ha a xs))
 ks:∀ q∈xs,W4 K H q.1 (.ref q.2.1)
structure TDx (K:PySem.W.Frag) (H:Hp) (ha:M.D->Int) (a:zC) (xs:List (M.D×zC×zB)):Prop where
 at':H a=some (.ext (TD ha a xs))\/∃ o,H a=some (.frz o (.ext (TD ha a xs)))
 ks:∀ q∈xs,W4 K H q.1 (.ref q.2.1)
end
end L2
namespace L2
open PySem PySem.Spec PyProof.Rows
section
variable {pg:zi}{wo:zy}{A:jh}{R:xU->zG->Prop}{I S:zC}{fp wr:List zC}{n:Nat}{P:Nat->zB->Prop}{St:Nat->zT->Prop}{d:zB}
noncomputable abbrev ua (I S:zC) (d:zB):Code:=.builtin "max.loop" { pos:=[.ref I,.none,.ref S],kw:=[("default",d)] }
theorem fZ (W:Walks pg wo A.in1 I fp wr n P St) (f:Nat->Nat->Bool) (G:CmpOf pg wo A.in1 .Gt P f) (C:S∉fp):∀ (k j:Nat) (s:zG) (g:zB) (c:Nat),n - (j+1)=k->j+1 <= n->St (j+1) s.heap->P (ZD f j) g ->
  s.heap.get? S=some { cls:=.type "list",data:=.seq #[g,g] c } ->
  (∀ (v:zB) (h':zT) (tk:Nat),P (ZD f (n - 1)) v->(∀ (b:zC) (o:Obj),b∉wr->b≠S->s.heap.get? b=some o->h'.get? b=some o)->R (.ok (.ret v)) { heap:=h',gens:=s.gens,drawn:=s.drawn,toks:=tk,os:=s.os }) ->
  codeAny (zI pg wo) A (ua I S d) R s:=by
 intro k;have p:S∉wr:=λz=>C (W.sub S z)
 induction k with
 | zero =>
  intro j s g c H J st t q fin;refine QG PySem.F.entry_max_loop ?_;refine wpAny_bind (Xi q rfl ?_);refine wpAny_bind (XO ?_);refine W.done s _ _ (by rwa [show n=j+1 by lia]) λh' tk keep=>?_;refine wpAny_bind (xt (keep S _ p q) rfl (wpAny_bind (VR (wpAny_pure ?_))));refine fin g _ tk (by rwa [show n - 1=j by lia]) λb o l m e=>?_;rw[VI _ _ _ _ m];exact keep b o l e
 | succ k E =>
  intro j s g c H J st t q fin;refine QG PySem.F.entry_max_loop ?_;refine wpAny_bind (Xi q rfl ?_);refine wpAny_bind (XO ?_);refine W.item (j+1) s _ _ (by lia) st λv h' tk pv r keep=>?_;refine wpAny_bind (wpAny_pure ?_);refine wpAny_bind (XO (y4 (wpAny_bind (G (j+1) (ZD f j) v g _ _ _ pv t ?_))));refine wpAny_bind (y4 (X6 ?_));refine wpAny_bind (VR (wpAny_pure ?_));have h:=keep S _ p q;by_cases l:f (j+1) (ZD f j)=true
  ·rw[if_pos l];refine wpAny_bind (xt h rfl (wpAny_bind (VR (wpAny_pure ⟨rfl,?_⟩))));refine E (j+1) _ v _ (by lia) (by lia) (W.frame _ _ _ r λb u o e=>?_) ?_ (xa _ h rfl) λw x i y B=>fin w x i y λb o hw m e=>B b o hw m ?_
   ·show (h'.update _ _).get? b=_;rw[VI _ _ _ _ (λz:b=S=>C (z ▸ u))];exact e
   ·show P (if f (j+1) (ZD f j) then j+1 else ZD f j) v;rw[if_pos l];exact pv
   ·show (h'.update _ _).get? b=_;rw[VI _ _ _ _ m];exact keep b o hw e
  ·rw[if_neg l];refine wpAny_bind (VR (wpAny_pure ⟨rfl,?_⟩));refine E (j+1) _ g c (by lia) (by lia) r ?_ h λw x i y B=>fin w x i y λb o hw m e=>B b o hw m (keep b o hw e);show P (if f (j+1) (ZD f j) then j+1 else ZD f j) g;rw[if_neg l];exact t
theorem dy (W:Walks pg wo A.in1 I fp wr n P St) (h:Nat->Nat->Bool) (q:CmpOf pg wo A.in1 .Gt P h) (i:S∉fp) (g:0 < n) {s:zG}{c:Nat} (st:St 0 s.heap) (p:s.heap.get? S=some { cls:=.type "list",data:=.seq #[] c })
  (fin:∀ (v:zB) (h':zT) (tk:Nat),P (ZD h (n - 1)) v->(∀ (b:zC) (o:Obj),b∉wr->b≠S->s.heap.get? b=some o->h'.get? b=some o)->R (.ok (.ret v)) { heap:=h',gens:=s.gens,drawn:=s.drawn,toks:=tk,os:=s.os }) :
  codeAny (zI pg wo) A (ua I S d) R s:=by
 refine QG PySem.F.entry_max_loop ?_;refine wpAny_bind (Xi p rfl ?_);refine wpAny_bind (XO ?_);refine W.item 0 s _ _ g st λv h' tk pv j keep=>?_;refine wpAny_bind (wpAny_pure ?_);have f:=keep S _ (λz=>i (W.sub S z)) p;refine wpAny_bind (xt f rfl (wpAny_pure ⟨rfl,?_⟩));refine fZ W h q i _ 0 _ v _ rfl (by lia) (W.frame _ _ _ j λb l o e=>?_) pv (xa _ f rfl) λr t m u w=>fin r t m u λb o hw g e=>w b o hw g ?_
 ·show (h'.update _ _).get? b=_;rw[VI _ _ _ _ (λz:b=S=>i (z ▸ l))];exact e
 ·show (h'.update _ _).get? b=_;rw[VI _ _ _ _ g];exact keep b o hw e
theorem Ba (W:Walks pg wo A.in1 I fp wr 0 P St) (g:S∉fp) {s:zG}{c:Nat} (st:St 0 s.heap) (f:s.heap.get? S=some { cls:=.type "list",data:=.seq #[] c })
  (fin:∀ (h':zT) (tk:Nat),(∀ (b:zC) (o:Obj),b∉wr->b≠S->s.heap.get? b=some o->h'.get? b=some o)->R (.ok (.ret d)) { heap:=h',gens:=s.gens,drawn:=s.drawn,toks:=tk,os:=s.os }) :
  codeAny (zI pg wo) A (ua I S d) R s:=by
 refine QG PySem.F.entry_max_loop ?_;refine wpAny_bind (Xi f rfl ?_);refine wpAny_bind (XO ?_);refine W.done s _ _ st λh' tk keep=>?_;exact wpAny_bind (Q0 (wpAny_pure (fin h' tk λb o hw h e=>keep b o hw e)))
theorem FS (a d:zB):checkBuiltinCall "max" { pos:=[a],kw:=[("default",d)] }=pure ():=by
 show (match Manifest.signature? "max" with | some c=>Bind.checkArgs "max" c { pos:=[a],kw:=[("default",d)] } | none=>pure ())=pure ();rfl
theorem C0 {Q:zB->zG->Prop} (h:wpAny (zI pg wo) A.in1 (XC x) (λit c=>∃ I fp wr n P St g,it=.ref I/\Walks pg wo A.in1 I fp wr n P St/\St 0 c.heap/\(∀ b∈fp,b < c.heap.objs.size)/\CmpOf pg wo A.in1 .Gt P g /\
   (∀ (v:zB) (h':zT) (tk:Nat),(n=0/\v=d\/0 < n/\P (ZD g (n - 1)) v)->(∀ (b:zC) (o:Obj),b∉wr->c.heap.get? b=some o->h'.get? b=some o)->Q v { heap:=h',gens:=c.gens,drawn:=c.drawn,toks:=tk,os:=c.os })) E s) :
  wpAny (zI pg wo) A (call (.builtin "max") [x] [("default",d)]) Q E s:=by
 refine Wr (dg PySem.F.plain_max PySem.F.entry_max ?_);refine U5 (FS x d) ?_;refine wpAny_bind (U5 (a:=[none,some d]) rfl ?_);refine wpAny_bind (wpAny_pure ?_);refine wpAny_bind (wpAny_mono h (λit c hit=>?_) λe t l=>l);obtain⟨I,fp,wr,n,P,St,g,rfl,W,st,m,q,fin⟩:=hit;refine wpAny_bind (wj (wpAny_pure ⟨rfl,?_⟩));have i:c.heap.objs.size∉fp:=λz=>Zy _ (m _ z);have f:St 0 (c.heap.push { cls:=.type "list",data:=.seq #[] }):=W.frame 0 _ _ st λb _ o e=>jK _ e;have j:(c.heap.push { cls:=.type "list",data:=.seq #[] }).get? c.heap.objs.size=some { cls:=.type "list",data:=.seq #[] }:=qU _ rfl;by_cases r:n=0
 ·subst r;exact Ba W i f j λh' tk k=>fin d h' tk (.inl ⟨rfl,rfl⟩) λb o hw e=>k b o hw (z4 (zm e)) (jK _ e)
 ·exact dy W g q i (by lia) f j λv h' tk p k=>fin v h' tk (.inr ⟨by lia,p⟩) λb o hw e=>k b o hw (z4 (zm e)) (jK _ e)
end
section
variable {P:zi}{w:zy}{A:jh}{E:zB->zG->Prop}{s:zG}
def IFl (h:zT) (it d:zC) (c:zB) (b:Bool) (i n ep:Nat) (ok e:zB):Prop:=h.get? it=some { cls:=.type "dict_itemiterator",data:=.fields #[c,.bool b,.ref d,.int i 0,.int n 0,.int ep 0,ok,e] }
theorem Yk {K:Type} [DecidableEq K] {knd:KeyKind P w K}:∀ {es:List U6}{kvs:List (K×zB)},Pairs knd es kvs->es.length=kvs.length
 | _,_,.nil=>rfl
 | _,_,.cons _ _ t=>by simp[Yk t]
theorem Uw {K:Type} [DecidableEq K] {knd:KeyKind P w K}:∀ {es:List U6}{kvs:List (K×zB)}{i:Nat}{k:K}{v:zB},Pairs knd es kvs->kvs[i]? = some (k,v)->∃ e,es[i]? = some e/\knd.is k e.key=true/\e.val=v
 | _,_,_,_,_,.nil,h=>by cases h
 | _,_,0,_,_,.cons c d _,h=>by cases h;exact⟨_,rfl,c,d⟩
 | _,_,i+1,_,_,.cons _ _ t,h=>Uw (i:=i) t h
theorem GF {T:zC}{o:Obj}{b:Bool}{ok:zB}{Q:Bool->zG->Prop} (hz:IFl s.heap it d (Qo T) b i n ep ok c) (e:s.heap.get? T=some o) (q:∀ h',IFl h' it d (Qo T) true i n ep ok c->kh it s.heap h'->Q false { s with heap:=h' }) :
  wpAny (zI P w) A (CI (.ref it)) Q E s:=by
 unfold CI;refine wpAny_bind (VF hz rfl (x:=Qo T) rfl ?_);show wpAny (zI P w) _ (loadIfAlive (T:Int).toNat >>= _) _ _ _;rw[Vn];refine wpAny_bind (ck ?_);rw[e];simp only[Option.isNone_some,jW,if_false];refine wpAny_bind (VF hz rfl (x:=.bool b) rfl ?_);cases b with
 | true =>
  rw[if_neg (by decide)];exact wpAny_pure (q _ hz (Hg ..))
 | false =>
  rw[if_pos (by decide)];refine wpAny_bind (UM hz (by simp) λf g h=>wpAny_pure ?_);exact q f g h
theorem F7 {K:Type} [DecidableEq K] {knd:KeyKind P w K}{it d T:zC}{b:Bool}{i ep:Nat}{kvs:List (K×zB)}{k:K}{v ok j:zB}{o:Obj}{Q:Option zB->zG->Prop} (hi:IFl s.heap it d (Qo T) b i kvs.length ep ok j) (hd:A1 knd s.heap d kvs ep) (J:kvs[i]? = some (k,v)) (L:s.heap.get? T=some o) (l:T≠it)
  (q:∀ f h',knd.is k f=true->IFl h' it d (Qo T) true (i+1) kvs.length ep ok j->QW h' s.heap.objs.size f v->(∀ b o,b≠it->s.heap.get? b=some o->h'.get? b=some o)->Q (some (.ref s.heap.objs.size)) { s with heap:=h' }) :
  wpAny (zI P w) A (QB (.ref it)) Q E s:=by
 have g:s.TypeIs (.ref it) "dict_itemiterator" := ⟨_,hi,rfl⟩
 obtain⟨od,es,z,_,B,_,C,_⟩:=hd;obtain⟨e,M,m,n⟩:=Uw C J;have p:es[i]? = some e:=by simpa using M
 have hsz:es.size=kvs.length:=by have:=Yk C;simpa using this
 unfold QB;refine wpAny_bind (Wz (Wp (name:=vh "__next__") g PySem.F.slot_dict_itemiterator_next (VH PySem.F.slot_dict_itemiterator_next g PySem.F.entry_dict_itemiterator_next ?_ (PySem.F.args_dict_itemiterator_next_1 _))));refine wpAny_bind (wpAny_pure ?_);refine wpAny_bind (wpAny_bind (wpAny_bind (YV g (wpAny_pure ?_))));refine wpAny_bind (gA hi rfl ?_);show wpAny (zI P w) _ (if (jY d == ZH)=true then _ else _) _ _ _;rw[if_neg (show ¬ ((jY d == ZH)=true) from jt)];refine wpAny_bind (wpAny_pure ?_);refine wpAny_bind (G0 z B ?_);rw[if_neg (by rw[hsz];simp)];refine wpAny_bind (wpAny_pure ?_);refine wpAny_bind (fE z B ?_);rw[if_neg (by simp)];refine wpAny_pure ?_;show wpAny (zI P w) _ (match (if (i:Int) < 0 then none else es[(i:Int).toNat]?) with | some e=>_ | none=>_) _ _ _;rw[if_neg (by lia),Vn,p];refine wpAny_bind (wpAny_bind (YV g (wpAny_pure ?_)));refine wpAny_bind (Av g ?_);refine wpAny_bind (UM hi (show 3 < 8 by decide) λc G r=>?_);have h:bE { s with heap:=c } (.ref it) "dict_itemiterator" := ⟨_,G,rfl⟩
 refine wpAny_bind (y4 (wpAny_bind (Av h ?_)));rw[if_neg (by decide)];refine wpAny_bind (Av h ?_);rw[if_neg (by decide)];refine wpAny_bind (FQ ?_);have t:IFl c it d (Qo T) b (i+1) kvs.length ep ok j:=G;have N:IFl (c.push { cls:=.type "tuple",data:=.seq #[e.key,e.val] }) it d (Qo T) b (i+1) kvs.length ep ok j:=jK _ t;have t2:(c.push { cls:=.type "tuple",data:=.seq #[e.key,e.val] }).get? T=some o:=jK _ (r.extBut _ _ l L);refine wpAny_bind (GF N t2 λu U H=>?_);simp only[jW,if_false];refine wpAny_pure (wpAny_pure ⟨_,rfl,wpAny_pure ?_⟩);have sz:c.objs.size=s.heap.objs.size:=r.1;refine (show Shared.mk u s.gens s.drawn s.toks s.os={ s with heap:=u } from rfl) ▸ ?_;have Y:(c.push { cls:=.type "tuple",data:=.seq #[e.key,e.val] }).get? s.heap.objs.size=some { cls:=.type "tuple",data:=.seq #[e.key,e.val] }:=by
  rw[<- sz];exact qU _ rfl
 have y:s.heap.objs.size≠it:=qd (zm hi);have:=q e.key u m U (by rw[<- n];exact H.extBut _ _ y Y) λb o I x=>H.extBut _ _ I (jK _ (r.extBut _ _ I x));rw[<- sz] at this;exact this
theorem D2 {K:Type} [DecidableEq K] {knd:KeyKind P w K}{it d:zC}{j:zB}{b:Bool}{ep:Nat}{kvs:List (K×zB)}{ok l:zB}{Q:Option zB->zG->Prop} (g:A.handled=none) (hi:IFl s.heap it d j b kvs.length kvs.length ep ok l) (hd:A1 knd s.heap d kvs ep)
  (q:∀ h',(∀ b o,b≠it->s.heap.get? b=some o->h'.get? b=some o)->Q none { s with heap:=h' }) :
  wpAny (zI P w) A (QB (.ref it)) Q E s:=by
 have c:s.TypeIs (.ref it) "dict_itemiterator" := ⟨_,hi,rfl⟩
 obtain⟨t,es,h,_,i,_,n,_⟩:=hd;have hsz:es.size=kvs.length:=by have:=Yk n;simpa using this
 have f:es[kvs.length]? = none:=by rw[<- hsz];simp
 unfold QB;refine wpAny_bind (Wz (Wp (name:=vh "__next__") c PySem.F.slot_dict_itemiterator_next (VH PySem.F.slot_dict_itemiterator_next c PySem.F.entry_dict_itemiterator_next ?_ (PySem.F.args_dict_itemiterator_next_1 _))));refine wpAny_bind (wpAny_pure ?_);refine wpAny_bind (wpAny_bind (wpAny_bind (YV c (wpAny_pure ?_))));refine wpAny_bind (gA hi rfl ?_);show wpAny (zI P w) _ (if (jY d == ZH)=true then _ else _) _ _ _;rw[if_neg (show ¬ ((jY d == ZH)=true) from jt)];refine wpAny_bind (wpAny_pure ?_);refine wpAny_bind (G0 h i ?_);rw[if_neg (by rw[hsz];simp)];refine wpAny_bind (wpAny_pure ?_);refine wpAny_bind (fE h i ?_);rw[if_neg (by simp)];refine wpAny_pure ?_;show wpAny (zI P w) _ (match (if (kvs.length:Int) < 0 then none else es[(kvs.length:Int).toNat]?) with | some e=>_ | none=>_) _ _ _;rw[if_neg (by lia),Vn,f];refine wpAny_bind (wpAny_bind (YV c (wpAny_pure ?_)));refine wpAny_bind (UM hi (show 2 < 8 by decide) λu v p=>?_);refine wpAny_bind ?_;simp only[newExc,newTuple];refine wpAny_bind (kf ?_ (by size_fits));refine wpAny_bind (m:=EJ _ _) (U5 (a:=ZH) (by first | rfl | (simp only[EJ];rfl)) ?_);refine kf ?_ (by size_fits);simp only[raiseNew];refine wpAny_bind (wpAny_handled ?_)
 first | rw[show A.in1.handled=none from g] | rw[g]
 refine wpAny_bind (wpAny_pure (wpAny_throw ?_));exact wpAny_bind (fc (T := "StopIteration") (b:=true) ⟨_,qU _ rfl,rfl⟩ isSubtype_stop (wpAny_pure (q _ λb o r x=>((p.extBut.push _).push _) _ _ r x)))
theorem dY:A8 (.type "dict_items") "__len__" = pure (some (.builtin "dict_items.__len__")):=by rw[FZ,dH];kernel_rfl
theorem C8 {v d:zC}{R:Bool->zG->Prop} (h:s.heap.IsItemsView v d) (q:R false s):wpAny (zI P w) A (FD (.ref v)) R E s:=by
 unfold FD;have i:s.TypeIs (.ref v) "dict_items" := by obtain⟨o,g,c,_⟩:=h;exact⟨o,g,c⟩
 refine wpAny_bind (wpAny_specialOf i dY ?_);generalize f:("dict_items.__len__" : String)=j
 wp_delta
 rw[show splitId j=some ("dict_items","__len__") from by subst f;decide +kernel];subst f;refine wpAny_bind (fc (T := "dict_items") (b:=true) i (by rw[isSubtype_type];kernel_rfl) ?_);refine Ua (λe=>absurd e (by decide)) (λ_=>?_);refine Ua (λ_=>?_) (λe=>absurd (by decide +kernel) e);exact wpAny_bind (vM i (wpAny_pure q))
def ISt (h:zT) (it d:zC) (i n ep:Nat):Prop:=∃ c b ok e,IFl h it d c b i n ep ok e/\(c=.none/\b=false\/∃ (T:zC) (o:Obj),c=Qo T/\T≠it/\h.get? T=some o)
theorem G2 {K:Type} [DecidableEq K] {knd:KeyKind P w K}{it d:zC}{i ep:Nat}{kvs:List (K×zB)}{k:K}{v:zB}{Q:Option zB->zG->Prop} (st:ISt s.heap it d i kvs.length ep) (hd:A1 knd s.heap d kvs ep) (l:kvs[i]? = some (k,v))
  (q:∀ c h',knd.is k c=true->ISt h' it d (i+1) kvs.length ep->QW h' s.heap.objs.size c v->(∀ b o,b≠it->s.heap.get? b=some o->h'.get? b=some o)->Q (some (.ref s.heap.objs.size)) { s with heap:=h' }) :
  wpAny (zI P w) A (QB (.ref it)) Q E s:=by
 obtain⟨r,b,ok,t,hi,⟨rfl,rfl⟩ | ⟨T,o,rfl,f,m⟩⟩:=st
 ·have g:s.heap.objs.size≠it:=qd (zm hi);exact Fv hi hd l λc h' h j e _ p=>q c h' h ⟨_,_,_,_,j,.inr ⟨_,_,rfl,g,e⟩⟩ e p
 ·exact F7 hi hd l m f λc h' h j e n=>q c h' h ⟨_,_,_,_,j,.inr ⟨T,o,rfl,f,n _ _ f m⟩⟩ e n
theorem FI {c d:Type}{R:c->d->Prop}{a:List c}{b:List d}{x:c}{y:d} (h:Paired R a b) (r:R x y):Paired R (a++[x]) (b++[y]):=by
 induction h with
 | nil=>exact .cons r .nil
 | cons h t e=>exact .cons h e
structure ILp (lo it S:zC) (us:List (zB×zB)) (h0 h:zT) (ps:List zC):Prop where
 its:∀ (j:Nat) p,ps[j]? = some p->lo <= p/\∃ x y,us[j]? = some (x,y)/\QW h p x y
 keep:∀ b o,b≠S->b≠it->h0.get? b=some o->h.get? b=some o
 nd:ps.Nodup
theorem F3 {K:Type} [DecidableEq K] {knd:KeyKind P w K}{it d S lo:zC}{od:Obj}{ep:Nat}{kvs:List (K×zB)}{R:xU->zG->Prop} (hh:A.handled=none) (hn:kvs.length <= zc) (hd:∀ h:zT,h.get? d=some od->h.DictAt knd d kvs ep) (hS:S≠it/\S≠d) (Q:d≠it) (res:zB) (v:zT) (U:it < lo/\S < lo) :
  ∀ (k i:Nat) (s:zG) (us:List (zB×zB)) (ps:List zC) (c:Nat),kvs.length - i=k->i <= kvs.length->lo <= s.heap.objs.size->ISt s.heap it d i kvs.length ep->s.heap.get? d=some od->s.heap.get? S=some { cls:=.type "list",dict:=none,data:=.seq (ps.map jY).toArray c,slots:=#[] } ->
   ps.length=i->Paired (λ(q:K×zB) (u:zB×zB)=>knd.is q.1 u.1=true/\q.2=u.2) (kvs.take i) us->ILp lo it S us v s.heap ps ->
   (∀ (h':zT) (z:List (zB×zB)) (t:List zC) (c':Nat),h'.get? S=some { cls:=.type "list",dict:=none,data:=.seq (t.map jY).toArray c',slots:=#[] }->t.length=kvs.length->Paired (λ(q:K×zB) (u:zB×zB)=>knd.is q.1 u.1=true/\q.2=u.2) kvs z->ILp lo it S z v h' t->R (.ok (.ret res)) { s with heap:=h' }) ->
   codeAny (zI P w) A (.builtin "list.extend.loop" ⟨[.ref S,.ref it,res],[]⟩) R s:=by
 obtain⟨lz,lS⟩:=U;obtain⟨s1,s2⟩:=hS;intro k
 induction k with
 | zero =>
  intro i s us ps c hk hi M st N Y l B L q;have e:i=kvs.length:=by lia
  subst e;obtain⟨f0,b,ok,ov,hz,_⟩:=st;refine QG PySem.F.entry_extend_loop ?_;rw[Xa PySem.F.plain_extend_loop _];refine wpAny_bind (D2 hh hz (hd _ N) λh' f=>wpAny_pure ?_);rw[Jq] at B;exact q h' us ps c (f _ _ s1 Y) l B ⟨λj p e=>by
   obtain⟨r,x,y,ex,g⟩:=L.its j p e;exact⟨r,x,y,ex,f _ _ (qd (jR lz r)) g⟩,λb o n0 n1 g=>f _ _ n1 (L.keep b o n0 n1 g),L.nd⟩
 | succ k ih =>
  intro i s us ps c hk hi M st N Y l B L q;have C:i < kvs.length:=by lia
  refine QG PySem.F.entry_extend_loop ?_;rw[Xa PySem.F.plain_extend_loop _];have ex:kvs[i]? = some kvs[i]:=by simp[C]
  refine wpAny_bind (G2 st (hd _ N) ex λkey h' G st' gp f=>?_);have H:=f _ _ s1 Y;show wpAny (zI P w) A.in1 (updateSeq S (·.push (.ref s.heap.objs.size)) >>= _) _ _ _;refine wpAny_bind (xt H rfl (wpAny_pure ⟨Xl PySem.F.plain_extend_loop _,?_⟩) (by simp[l];lia) (by simp[l];lia));have m:∀ b o,b≠S->h'.get? b=some o->(h'.update S (yK (·.push (.ref s.heap.objs.size)))).get? b=some o:=λb o hb e=>(Xe _ _ (jr hb)).trans e;have I:=xa (yK (·.push (jY s.heap.objs.size))) H rfl;have ea:((ps++[s.heap.objs.size]).map jY).toArray=(ps.map jY).toArray.push (.ref s.heap.objs.size):=by simp
  obtain⟨c3,gS3⟩:∃ c3,(h'.update S (yK (·.push (.ref s.heap.objs.size)))).get? S=some { cls:=.type "list",dict:=none,data:=.seq ((ps++[s.heap.objs.size]).map jY).toArray c3,slots:=#[] }:=by
   rw[ea];exact⟨_,I⟩
  have np:∀ {p},lo <= p->p≠it/\p≠S:=λr=>⟨qd (jR lz r),qd (jR lS r)⟩
  have nd2:(ps++[s.heap.objs.size]).Nodup:=by
   rw[xP];refine⟨L.nd,by simp,λa ha b hb=>?_⟩;obtain⟨j,hj,e⟩:=List.mem_iff_getElem.mp ha;obtain⟨_,x,y,_,g⟩:=L.its j a (by rw[ZL hj,e]);rw[List.mem_singleton.mp hb];exact z4 (zm g)
  have zs:lo <= h'.objs.size:=kL (fz M (zm gp));have ul:us.length=i:=by
   have:=Paired.length B;rw[qx] at this
   lia
  have st2:ISt (h'.update S (yK (·.push (.ref s.heap.objs.size)))) it d (i+1) kvs.length ep:=by
   obtain⟨f0,b,ok,ov,hz,hf⟩:=st';refine⟨f0,b,ok,ov,m _ _ s1.symm hz,hf.imp id λ⟨T,o,e,n,g⟩=>?_⟩;by_cases J:T=S
   ·subst J;exact⟨T,_,e,n,I⟩
   ·exact⟨T,o,e,n,m _ _ J g⟩
  refine ih (i+1) _ (us++[(key,kvs[i].2)]) (ps++[s.heap.objs.size]) c3 (by lia) C ?_ st2 (m _ _ s2.symm (f _ _ Q N)) gS3 (by simp[l]) (by
   rw[JI,ex];exact FI B ⟨G,rfl⟩) ⟨λj p e=>?_,λb o n0 n1 g=>m _ _ n0 (f _ _ n1 (L.keep b o n0 n1 g)),nd2⟩ λh2 us2 ps2 c2 a1 a2 a3 a4=>q h2 us2 ps2 c2 a1 a2 a3 a4
  ·show lo <= (h'.update S _).objs.size;rw[Xg];exact zs
  ·by_cases hj:j < ps.length
   ·rw[qF hj] at e;obtain⟨r,x,y,ex,g⟩:=L.its j p e;obtain⟨n1,n5⟩:=np r;exact⟨r,x,y,by rw[qF (by lia)];exact ex,m _ _ n5 (f _ _ n1 g)⟩
   ·rw[jP (by lia)] at e;have hj2:j=i:=by
     have:=(List.getElem?_eq_some_iff.mp e).1;simp at this
     lia
    subst hj2;rw[l,JN] at e;have e':s.heap.objs.size=p:=by simpa using e
    subst e';obtain⟨n1,n5⟩:=np M;exact⟨M,_,_,by rw[jP (by lia),ul,JN];rfl,m _ _ n5 gp⟩
theorem C2 {K:Type} [DecidableEq K] {knd:KeyKind P w K}{v d:zC}{U:Obj}{ep:Nat}{kvs:List (K×zB)}{Q:zB->zG->Prop} (hh:A.handled=none) (hn:kvs.length <= zc) (hv:s.heap.IsItemsView v d) (x:s.heap.get? d=some U) (hd:∀ h:zT,h.get? d=some U->h.DictAt knd d kvs ep)
  (q:∀ h' (us:List (zB×zB)) (ps:List zC) c,h'.get? s.heap.objs.size=some { cls:=.type "list",dict:=none,data:=.seq (ps.map jY).toArray c,slots:=#[] }->ps.length=kvs.length->Paired (λ(q:K×zB) (u:zB×zB)=>knd.is q.1 u.1=true/\q.2=u.2) kvs us->ILp (s.heap.objs.size+2) (s.heap.objs.size+1) s.heap.objs.size us s.heap h' ps->Q (.ref s.heap.objs.size) { s with heap:=h' }) :
  wpAny (zI P w) A (call (.type "list") [.ref v]) Q E s:=by
 have lt:∀ {c o},s.heap.get? c=some o->c < s.heap.objs.size:=λe=>zm e;obtain⟨C,y,G,Y⟩:=id hv;have H:s.heap.objs.size≠v:=qd (lt y);have r:s.heap.objs.size≠d:=qd (lt x);refine Dm (Q₁:=λobj i=>obj=.ref s.heap.objs.size/\i={ s with heap:=s.heap.push { cls:=.type "list",data:=.seq #[] } }) PySem.F.called_list (PySem.F.typeCall_list_1 _) PySem.F.entry_list_init (code_list_new _ ⟨rfl,rfl⟩) λobj i t=>?_;obtain⟨rfl,rfl⟩:=t;have z:(s.heap.push { cls:=.type "list",data:=.seq #[] }).get? s.heap.objs.size=some { cls:=.type "list",data:=.seq #[] }:=qU _ rfl;refine⟨⟨_,z,rfl⟩,PySem.F.args_list_init_2 _ _,?_⟩;show wpAny (zI P w) _ (do let old <- HJ (.ref s.heap.objs.size);Hm (.ref s.heap.objs.size) (λ_=>#[]);letGo old.toList.reverse;AH (.ref s.heap.objs.size) (.ref v) .none) _ _ _;refine wpAny_bind ?_;unfold HJ;refine wpAny_bind (Xi z rfl (wpAny_pure ?_));show wpAny (zI P w) _ (updateSeq s.heap.objs.size (λ_=>#[]) >>= λ_=>letGo (#[]:Array zB).toList.reverse >>= λ_=>AH (.ref s.heap.objs.size) (.ref v) .none) _ _ _;refine wpAny_bind (xt z rfl ?_);have g1:=xa (yK (λ_=>(#[]:Array zB))) z rfl;have m:∀ c o,s.heap.get? c=some o->((s.heap.push { cls:=.type "list",data:=.seq #[] }).update s.heap.objs.size (yK (λ_=>(#[]:Array zB)))).get? c=some o :=
  λc o e=>(Xe _ _ (qd (lt e))).trans (jK _ e)
 have z1:((s.heap.push { cls:=.type "list",data:=.seq #[] }).update s.heap.objs.size (yK (λ_=>(#[]:Array zB)))).objs.size=s.heap.objs.size+1:=by rw[Xg,QT]
 generalize (s.heap.push { cls:=.type "list",data:=.seq #[] }).update s.heap.objs.size (yK (λ_=>(#[]:Array zB)))=g at *;refine wpAny_bind (VR ?_);have I:g.IsItemsView v d:=⟨C,m _ _ y,G,Y⟩
 have hT:bE { s with heap:=g } (.ref v) "dict_items" := ⟨C,m _ _ y,G⟩
 unfold AH;refine wpAny_bind (vM hT ?_);have f1:Cp (.ref s.heap.objs.size) (.ref v)=false:=by simp[Cp,H]
 have f2:(Qr "dict_items" == Qr "list")=false:=by decide
 have f3:(Qr "dict_items" == Qr "tuple")=false:=by decide
 simp only[f1,f2,f3,DS,jW,if_false];refine wpAny_bind (hY I (hd _ (m _ _ x)) ?_);have g2:(g.push { cls:=.type "dict_itemiterator",data:=.fields #[.none,.bool false,.ref d,.int 0 0,.int kvs.length 0,.int ep 0,.none,.none] }).get? g.objs.size=some { cls:=.type "dict_itemiterator",data:=.fields #[.none,.bool false,.ref d,.int 0 0,.int kvs.length 0,.int ep 0,.none,.none] }:=qU _ rfl;have z2:(g.push { cls:=.type "dict_itemiterator",data:=.fields #[.none,.bool false,.ref d,.int 0 0,.int kvs.length 0,.int ep 0,.none,.none] }).objs.size=g.objs.size+1:=QT ..;have B:∀ c o,g.get? c=some o->(g.push { cls:=.type "dict_itemiterator",data:=.fields #[.none,.bool false,.ref d,.int 0 0,.int kvs.length 0,.int ep 0,.none,.none] }).get? c=some o:=λc o e=>jK _ e;generalize g.push { cls:=.type "dict_itemiterator",data:=.fields #[.none,.bool false,.ref d,.int 0 0,.int kvs.length 0,.int ep 0,.none,.none] }=f at *;show wpAny (zI P w) _ _ _ _ { s with heap:=f };rw[show Shared.heap { s with heap:=g }=g from rfl,z1];rw[z1] at g2 z2;have fin:∀ (R:xU->zG->Prop) (h:zT) (c:Nat),h.objs.size=s.heap.objs.size+2->(∀ c o,c≠s.heap.objs.size->f.get? c=some o->h.get? c=some o)->h.get? s.heap.objs.size=some { cls:=.type "list",dict:=none,data:=.seq #[] c,slots:=#[] } ->
   (∀ h',Q (.ref s.heap.objs.size) { s with heap:=h' }->R (.ok (.ret .none)) { s with heap:=h' })->codeAny (zI P w) A.in1 (.builtin "list.extend.loop" ⟨[.ref s.heap.objs.size,.ref (s.heap.objs.size+1),.none],[]⟩) R { s with heap:=h }:=λR h c hsz J gS hR=>by
  refine F3 (A:=A.in1) (lo:=s.heap.objs.size+2) (P:=P) (w:=w) hh hn hd ⟨z4 (xS _),r⟩ (z4 (xK (lt x))) .none s.heap ⟨xS _,xK (xS _)⟩ kvs.length 0 { s with heap:=h } [] [] c (by lia) (ZJ _) (XX hsz.symm) ⟨_,_,_,_,J _ _ (qd (xS _)) g2,.inl ⟨rfl,rfl⟩⟩ (J _ _ r.symm (B _ _ (m _ _ x))) gS rfl .nil ⟨λj p e=>by simp at e,λb o n0 _ e=>J b o n0 (B _ _ (m _ _ e)),Z1⟩ λh' L M c' a1 a2 a3 a4=>?_;exact hR h' (q h' L M c' a1 a2 a3 a4)
 refine wpAny_bind (y4 (C8 (d:=d) ⟨C,B _ _ (m _ _ y),G,Y⟩ ?_));have l:=B _ _ g1;refine Ua (λ_=>?_) (λ_=>wpAny_pure ⟨Xl PySem.F.plain_extend_loop _,fin _ _ _ (by lia) (λc o _ e=>e) l λh' N=>⟨rfl,N⟩⟩);refine wpAny_bind (Q0 ?_);refine wpAny_bind ?_;show wpAny (zI P w) _ (updateSeq s.heap.objs.size (·.push .none) >>= λ_=>updateSeq s.heap.objs.size (·.pop)) _ _ _;refine wpAny_bind (xt l rfl ?_);have g3:=xa (yK (·.push ZH)) l rfl;refine xt (hz:=by seq_fits) g3 rfl ?_;have g4:=xa (yK (·.pop)) g3 rfl;refine wpAny_pure ⟨Xl PySem.F.plain_extend_loop _,fin _ _ _ (by rw[Xg,Xg];lia) (λc o n e=>?_) g4 λh' N=>⟨rfl,N⟩⟩;exact (Xe _ _ n.symm).trans ((Xe _ _ n.symm).trans e)
end
section
variable {X:Cx}{Θ:Tab}{k:Nat}
noncomputable def hW:List Int->Int
 | []=>0
 | y::ys=>Jk gtI y ys
noncomputable def Ve (K:PySem.W.Frag):List V->Hp->VK->Prop:=λxs H Q=>∃ p ys,xs=[.ref p]/\SqL K H p (ys.map V.int)/\Q (.int (hW ys)) H
theorem dm {p pos cp kp:Pos}{c:Nat}{e:zQ} (hr:zx k X.A) (hg:Gl X x) (hm:X.mg x=none) (hv:j1 x=some (.builtin "max")) (ha:PA X [e] t) (hn:x ≠ "__name__" := by decide) (G:(x == ("__debug__" : Str))=false:=by decide) (N:q9 e=true:=by rfl) :
  PE X (.Call (.Name x p) [e] [⟨some "default",.Constant (.int 0) c cp,kp⟩] pos) (tCB (Ve X.K) t):=by
 intro f s σ H Q I h;refine x9 (JB I hg hm hv ?_ hn G);refine callWith_builtin_kwB (by rw[yL N];rfl) rfl (evalArgs_kw2 rfl (thn (ha pos f s σ H _ I h) λus s1 ⟨vs,H1,I1,r,q⟩=>?_) (yL N));refine thn (b0 (te:=tC (.int 0)) Uu dc pos f s1 σ H1 (λU w=>U=[.int 0]/\Ve X.K vs w Q) I1 ⟨rfl,q⟩) λws z ⟨U,w,B,rz,ez,q2⟩=>?_;subst ez;obtain⟨u0,rfl,t0,rfl⟩:=y6 rz;obtain⟨p,ys,rfl,hq,Y⟩:=q2;obtain⟨u,rfl,ru⟩:=y6 r;cases ru;obtain⟨its,C,J,hz⟩:=B.list hq;have d:its.length=ys.length:=by have:=C.length;simp at this;lia
 obtain⟨o,ho,ho2⟩:=J.isList;have g:p < z.heap.objs.size:=zm ho;refine ye (n:=1) B.tk (C0 (uK J.isList ?_));refine⟨z.heap.objs.size,_,_,_,_,_,λi j=>gtI (ys.getD i (ys.headD 0)) (ys.getD j (ys.headD 0)),rfl,UR (show X.A.in1.handled=none from hr.hd) z.heap.objs.size p (z4 g) its.toArray,⟨⟨_,qU _ rfl,rfl,rfl⟩,J.isList.push _⟩,?_,?_,λv h' tk E hk l=>?_⟩
 ·intro b L;rw[QT];rcases List.mem_cons.mp L with rfl | L
  ·exact xS _
  ·have:b=p:=by simpa using L
   rw[this];exact xK g
 ·intro i j vi vj s' Q' E' hi hj hQ;obtain⟨t,rfl⟩:=YG C (v:=vi) (by simpa using hi) (ys.headD 0);obtain⟨t',rfl⟩:=YG C (v:=vj) (by simpa using hj) (ys.headD 0);exact gt_int hQ
 ·have m:∀ b o,z.heap.get? b=some o->h'.get? b=some o:=λb o e=>hk b o (by simpa using z4 (zm e)) (jK _ e);cases ys with
  | nil =>
   rcases E with ⟨_,rfl⟩ | ⟨M,_⟩
   ·exact⟨.int 0,w,B.kept m l,⟨t0,rfl⟩,Y⟩
   ·simp[d] at M
  | cons y ys =>
   rcases E with ⟨M,_⟩ | ⟨_,E⟩
   ·simp[d] at M
   ·obtain⟨t,rfl⟩:=YG C (v:=v) (i:=ZD (λi j=>gtI ((y::ys).getD i y) ((y::ys).getD j y)) (its.toArray.size - 1)) (by rw[<- List.getElem?_toArray];exact E) y;refine⟨.int (Jk gtI y ys),w,B.kept m l,⟨t,?_⟩,Y⟩;rw[show its.toArray.size - 1=ys.length by simp[d],aE gtI y ys ys.length (zd _),Jq]
theorem bg {K:PySem.W.Frag}:AdN K Θ M.ke (Ve K):=by
 intro s H S xs u Q c f h;unfold M.ke at h;split at h
 ·rename_i p;obtain⟨Y,r,rfl,ry,rfl⟩:=f;cases e:M.z7 S p with
  | none=>rw[e] at h;exact h.elim
  | some g =>
   rw[e] at h;have m:S[p]? = some (.lst g):=by
    unfold M.z7 at e;split at e
    ·rename_i n o;cases e;exact o
    ·cases e
   obtain⟨a,v,rfl,ha,i,j⟩:=xc c ry m;cases g with
   | nil =>
    cases j;exact⟨a,[],rfl,SqL.of i,zE.here h c rfl⟩
   | cons d g =>
    dsimp only at h;unfold M.VL at h;split at h
    ·rename_i ts q;have:=wY q j;subst this;split at h
     ·rename_i y l;cases ts with
      | nil=>cases l
      | cons t ts =>
       cases l;refine⟨a,t::ts,rfl,SqL.of i,?_⟩;show Q (.int (Jk gtI t ts)) H;rw[wg];exact zE.here h c rfl
     ·exact h.elim
    ·exact h.elim
 ·exact h.elim
theorem w_me_maxZ {p pos cp kp:Pos}{c:Nat}{e:zQ} (j:zx k X.A) (l:Gl X x) (hm:X.mg x=none) (n:j1 x=some (.builtin "max")) (ha:WA X Θ [e] m) (o:x ≠ "__name__" := by decide) (d:(x == ("__debug__" : Str))=false:=by decide) (q:q9 e=true:=by rfl) :
  WE X Θ (.Call (.Name x p) [e] [⟨some "default",.Constant (.int 0) c cp,kp⟩] pos) (M.zM M.ke m):=by
 delta WA WE at ha ⊢
 exact (dm j l hm n ha o d q).up λσ H Q r f S st s h=>⟨r,f,S,st,s,zE.bind h λg t xs u S1 w l1 i rx v=>bg g t S1 xs u Q i rx v⟩
def E5 (te:TE):TE:=λσ H Q=>te σ H λv d=>∃ a kvs,v=.ref a/\d a=some (.dK kvs)/\∀ c e l,JZ d (kvs.map λp=>(kV p.1,p.2)) e c->c l=none->Q (.ref l) (upd c l (.lst e))
theorem fG {P:zi}:∀ {kvs:List (Key×V)}{c:List (Key×zB)}{us:List (zB×zB)},KV kvs c->Paired (λ(q:Key×zB) (u:zB×zB)=>(jJ P w).is q.1 u.1=true/\q.2=u.2) c us ->
  Paired (λ(a:V×V) (b:zB×zB)=>zX a.1 b.1/\zX a.2 b.2) (kvs.map λp=>(kV p.1,p.2)) us:=by
 intro kvs c us h
 induction h generalizing us with
 | nil=>intro k;cases k;exact .nil
 | cons h t d =>
  intro k;cases k with
  | cons h' t'=>exact .cons ⟨by show zX (kV _) _;rw[h.1];exact Yh h'.1,by rw[<- h'.2];exact h.2⟩ (d t')
theorem DV {pl pos m n:Pos} (hr:zx k X.A) (U:Gl X C) (Y:X.mg C=none) (hvl:j1 C=some (.type "list")) (he:PE X e te) (hnl:C ≠ "__name__" := by decide) (hdl:(C == ("__debug__" : Str))=false:=by decide)
  (t:Qg e "items" X.env (zu e X.env)=zu e X.env:=by rfl) (y:(m.endLine == n.line)=true:=by rfl):PE X (.Call (.Name C pl) [.Call (.Attribute e "items" m) [] [] n] [] pos) (E5 te):=by
 intro q s σ H Q I h;refine x9 (JB I U Y hvl ?_ hnl hdl);refine Vq ?_ (yL rfl) rfl;rw[yL (e:=.Call (.Attribute e "items" m) [] [] n) (es:=[]) rfl];refine Ur ?_;refine We t y (thn (he q s σ H _ I h) λv s1 ⟨x,H1,f,r1,q1⟩=>?_);obtain⟨a,kvs,rfl,ha,qf⟩:=q1;have ty:tyV X.K "dict" (.ref a) H1:=ZN (ZN (zb ⟨rfl,zb ⟨kvs,ha⟩⟩));obtain⟨t1,t2⟩:=Ke (T := "dict") f r1 ty;obtain rfl:v=jY a:=r1;have x:=f.hok a _ ha;obtain⟨z,hd,M,rel,dd⟩:=id x;refine⟨"dict","dict.items",PySem.F.plainAttrs_dict,PySem.F.slot_dict_items,PySem.F.type_dict_items,t1,t2,u3 rfl (PySem.evalArgs_none ?_)⟩;refine kZ PySem.F.slot_dict_items dd.typeIs PySem.F.entry_dict_items (PySem.F.args_dict_items_1 _) (cn (jJ X.prog X.w) a hd) ⟨⟨M,dd⟩,?_⟩;obtain⟨od,es,ep,go,xd,dt,ks,prs,ndp⟩:=id dd;have el:kvs.length=M.length:=Paired.length rel;have n1:(s1.heap.push { cls:=.type "dict_items",data:=.fields #[.ref a] }).objs.size=s1.heap.objs.size+1:=QT ..;refine Aa ?_;refine C2 (A:=X.A) (v:=s1.heap.objs.size) (d:=a) (kvs:=M) (ep:=ep) hr.hd (by lia) ⟨_,qU _ rfl,rfl,rfl⟩ (jK _ go) (λh g=>⟨od,es,g,xd,dt,ks,prs,ndp⟩) λB us ps c gS hps pr L=>?_;have up:∀ {b o},s1.heap.get? b=some o->(s1.heap.push { cls:=.type "dict_items",data:=.fields #[.ref a] }).get? b=some o:=λe=>jK _ e;generalize s1.heap.push { cls:=.type "dict_items",data:=.fields #[.ref a] }=i at *;have keep:∀ b o,s1.heap.get? b=some o->B.get? b=some o:=λb o e=>by
  have hb:=zm e;exact L.keep b o (by show b≠i.objs.size;lia) (by show b≠i.objs.size+1;lia) (up e)
 have I2:Inv X q σ H1 { s1 with heap:=B }:=f.kept (t':=s1.toks) keep;have ul:us.length=M.length:=(Paired.length pr).symm;have E:∀ (j:Nat) p,ps[j]? = some p->s1.heap.objs.size <= p/\∃ u v,us[j]? = some (u,v)/\QW B p u v:=λj p e=>by
  obtain⟨l,u,v,e1,g⟩:=L.its j p e;exact⟨qD (show s1.heap.objs.size <= i.objs.size+2 by lia) l,u,v,e1,g⟩
 obtain⟨N,I3,Ly,nk⟩:=EX (s:={ s1 with heap:=B }) (lo:=s1.heap.objs.size) f.sz f.lt (λx c e=>by obtain⟨v,hv⟩:=f.cell x c e;exact hv.lt) (λp G=>zm (f.pin p G).1) _ _ ps H1 I2 (fG rel pr) (by lia) E L.nd λp G=>by
  obtain⟨j,hj,e⟩:=List.mem_iff_getElem.mp G;exact f.hok.fresh (E j p (by rw[ZL hj,e])).1
 have r:s1.heap.objs.size <= i.objs.size:=by lia
 have hnp:i.objs.size∉ps:=λhm=>by
  obtain⟨j,hj,e⟩:=List.mem_iff_getElem.mp hm;have:=(L.its j _ (by rw[ZL hj,e])).1;have:i.objs.size+2 <= i.objs.size:=this
  lia
 have J:N i.objs.size=none:=by rw[nk _ hnp];exact f.hok.fresh (by lia)
 have vr:∀ ps:List zC,za (ps.map V.ref) (ps.map jY):=λps=>by
  induction ps with
  | nil=>exact .nil
  | cons p ps ih=>exact .cons rfl ih
 have o2:jQ X.prog X.w (upd N i.objs.size (.lst (ps.map V.ref))) B i.objs.size (.lst (ps.map V.ref)):=⟨by rw[z9];lia,ps.map jY,c,vr ps,gS⟩
 have I4:Inv X q σ (upd N i.objs.size (.lst (ps.map V.ref))) { s1 with heap:=B }:=I3.track (qD f.sz r) J (qd (jR f.lt r)) (λx c e=>by obtain⟨v,hv⟩:=f.cell x c e;exact z4 (jR hv.lt r)) (λp G=>z4 (jR (zm (f.pin p G).1) r)) o2;exact⟨.ref i.objs.size,_,I4,rfl,qf N _ _ Ly J⟩
theorem GP {K:PySem.W.Frag}{S:M.S}:∀ {kvs:List (M.D×M.D)}{ks:List (Key×V)}{H c:Hp}{e:List V},JZ H (ks.map λp=>(kV p.1,p.2)) e c->zS K Θ f S H->Paired (λ(p:M.D×M.D) (q:Key×V)=>qW p.1 q.1/\zL K f H p.2 q.2) kvs ks->zS K Θ f S c/\zP K f c (kvs.map λq=>.tup [q.1,q.2]) e:=by
 intro kvs
 induction kvs with
 | nil =>
  intro ks H c e L g i;cases i;cases L;exact⟨g,rfl⟩
 | cons d kvs n =>
  intro ks H c e L g i;cases i with
  | cons h t =>
   cases L with
   | @cons H u a x y r e l m =>
    rename_i q _;have le:=Le.new l (.tup [kV q.1,q.2]);obtain⟨j,o⟩:=n m (g.aside l _) (Paired.mapP t λx y z=>⟨z.1,z.2.mono (jN _) le⟩);have s:zL K f (upd H a (.tup [kV q.1,q.2])) (.tup [d.1,d.2]) (.ref a):=⟨a,_,rfl,SqT.of ju,_,_,rfl,qW.rel h.1,_,_,rfl,h.2.mono (jN _) le,rfl⟩
    exact⟨j,⟨_,_,rfl,s.mono (jN _) m.le,o⟩⟩
theorem w_me_listitems {G pos j n:Pos} (I:zx k X.A) (w:Gl X r) (x:X.mg r=none) (y:j1 r=some (.type "list")) (E:WE X Θ e m) (z:r ≠ "__name__" := by decide) (B:(r == ("__debug__" : Str))=false:=by decide)
  (o:Qg e "items" X.env (zu e X.env)=zu e X.env:=by rfl) (p:(j.endLine == n.line)=true:=by rfl):WE X Θ (.Call (.Name r G) [.Call (.Attribute e "items" j) [] [] n] [] pos) (M.zM M.Zh (M.zD m M.zF)):=by
 delta WE at E ⊢
 exact (DV I w x y E z B o p).up λσ H Q J f S st N h=>by
   have U:M.zM M.Zh (M.zD m M.zF) f S=(m f S).bind λd s=>M.Zh [d] s:=by
    show ((m f S).bind _).bind _=_;cases m f S<;>rfl
   rw[U] at h;refine⟨J,f,S,st,N,zE.bind h λY H1 d v S1 p1 l1 t rv g=>?_⟩;cases d with
   | ref i =>
    obtain⟨a,rfl,hi⟩:=rv;simp only[M.Zh] at g;cases q:S1[i]? with
    | none=>rw[q] at g;exact g.elim
    | some ob =>
     rw[q] at g;cases ob with
     | dct kvs =>
      obtain⟨b,u,ks,ha,pr⟩:=t.obj i _ q;rw[hi] at u;cases u;refine⟨a,ks,rfl,ha,λH2 ws l L hl=>?_⟩;obtain⟨C,r2⟩:=GP L t pr;exact zE.alloc (zE.weak g (jN _) L.le) C r2 hl
     | lst xs=>exact g.elim
     | fdc _=>exact g.elim
     | dtt _=>exact g.elim
     | ftt _=>exact g.elim
     | ins c fs=>exact g.elim
   | _=>exact g.elim
end
end L2
namespace L2
open PySem PySem.Spec PyProof.Rows
def IsG (K:PySem.W.Frag) (n:Str) (st:zh):Prop:=∃ f,PySem.W.nsIn K jx n=some (some (.ref f))/\∃ fd,Fun K n n st f fd
def IsM (K:PySem.W.Frag) (C:zC) (n q:Str) (st:zh):Prop:=∃ f,PySem.W.findIn K (.ref C) n=some (some (.ref f))/\PySem.W.isFn K (.ref f)=true/\∃ fd,Fun K n q st f fd
section
variable {K:PySem.W.Frag}{h:zT}{mg:Str->Option zB}{n q x:Str}{st:zh}{f C:zC}{P:zi}{w:zy}{base:zT}{k:Nat}{ps:List Str}{sp:Sp}
theorem isM {g kV pm:zB}{j:Option zC}{d:Array (Option zB)} (a:PySem.W.findIn K (.ref C) n=some (some (.ref f))) (i:PySem.W.isFn K (.ref f)=true) (l:K.lookup f=some ⟨g,j,.func (PySem.W.fnOf n q (ym st) (qm st) (z3 st) .none kV m pm o e ct),d⟩) (c:PySem.W.codeIn K e q=true) (kp:PySem.W.keepIn K (.ref f)=true):IsM K C n q st:=⟨f,a,i,_,YE l c kp⟩
theorem isG {g kV pm:zB}{i:Option zC}{d:Array (Option zB)} (a:PySem.W.nsIn K jx n=some (some (.ref f))) (l:K.lookup f=some ⟨g,i,.func (PySem.W.fnOf n n (ym st) (qm st) (z3 st) .none kV j pm m e ct),d⟩) (c:PySem.W.codeIn K e n=true) (kp:PySem.W.keepIn K (.ref f)=true):IsG K n st:=⟨f,a,_,YE l c kp⟩
def Bnd (x q:Str) (st:zh) (ps:List Str):Prop:=∀ (kV c pm:zB) (e:Option zC) (d ct:zB) (us:List zB),us.length=ps.length->Ja (PySem.W.fnOf x q (ym st) (qm st) (z3 st) .none kV c pm e d ct) ⟨us,[]⟩=pure (ps.zip us)
theorem cz {x q:Str}{st:zh}{ps:List Str} (e:ps.length=0) (h:∀ (kV c pm:zB) (g:Option zC) (d ct:zB),Ja (PySem.W.fnOf x q (ym st) (qm st) (z3 st) .none kV c pm g d ct) ⟨[],[]⟩=pure (ps.zip [])):Bnd x q st ps:=λkV c pm g d ct us i=>match us,i.trans e with | [],_=>h kV c pm g d ct
theorem D5 {x q:Str}{st:zh}{ps:List Str} (e:ps.length=1) (h:∀ (kV c pm:zB) (g:Option zC) (d ct:zB) (a:zB),Ja (PySem.W.fnOf x q (ym st) (qm st) (z3 st) .none kV c pm g d ct) ⟨[a],[]⟩=pure (ps.zip [a])):Bnd x q st ps:=λkV c pm g d ct us i=>match us,i.trans e with | [a],_=>h kV c pm g d ct a
theorem Gs {x q:Str}{st:zh}{ps:List Str} (e:ps.length=2) (h:∀ (kV c pm:zB) (g:Option zC) (d ct:zB) (a b:zB),Ja (PySem.W.fnOf x q (ym st) (qm st) (z3 st) .none kV c pm g d ct) ⟨[a,b],[]⟩=pure (ps.zip [a,b])):Bnd x q st ps:=λkV c pm g d ct us i=>match us,i.trans e with | [a,b],_=>h kV c pm g d ct a b
theorem bu {x q:Str}{st:zh}{ps:List Str} (e:ps.length=3) (h:∀ (kV d pm:zB) (i:Option zC) (g ct:zB) (a b c:zB),Ja (PySem.W.fnOf x q (ym st) (qm st) (z3 st) .none kV d pm i g ct) ⟨[a,b,c],[]⟩=pure (ps.zip [a,b,c])):Bnd x q st ps:=λkV d pm i g ct us j=>match us,j.trans e with | [a,b,c],_=>h kV d pm i g ct a b c
theorem dU {x q:Str}{st:zh}{ps:List Str} (e:ps.length=4) (h:∀ (kV g pm:zB) (j:Option zC) (i ct:zB) (a b c d:zB),Ja (PySem.W.fnOf x q (ym st) (qm st) (z3 st) .none kV g pm j i ct) ⟨[a,b,c,d],[]⟩=pure (ps.zip [a,b,c,d])):Bnd x q st ps:=λkV g pm j i ct us l=>match us,l.trans e with | [a,b,c,d],_=>h kV g pm j i ct a b c d
theorem CG {x q:Str}{st:zh}{ps:List Str} (e:ps.length=5) (h:∀ (kV g pm:zB) (j:Option zC) (i ct:zB) (a b c d e:zB),Ja (PySem.W.fnOf x q (ym st) (qm st) (z3 st) .none kV g pm j i ct) ⟨[a,b,c,d,e],[]⟩=pure (ps.zip [a,b,c,d,e])):Bnd x q st ps:=λkV g pm j i ct us l=>match us,l.trans e with | [a,b,c,d,e],_=>h kV g pm j i ct a b c d e
theorem Dq (i:IsG K n st) (X:K.In h) (G:h.Ns jx mg) (b:Bnd n n st ps):∃ f fd,Fun K n n st f fd/\QJ K fd ps []/\PySem.W.keepIn K (.ref f)=true/\mg n=some (.ref f):=by
 obtain⟨f,a,fd,F⟩:=i;exact⟨f,fd,F,F.binds b,F.kp,PySem.W.mg_of X G a⟩
theorem yZ (i:IsG K n st) (X:K.In h) (G:h.Ns jx mg) (o:∀ f fd,Fun K n n st f fd->QJ K fd ps []->PySem.W.keepIn K (.ref f)=true->mg n=some (.ref f)->jc P w K mg base CX0 k f fd ps sp) (b:Bnd n n st ps:=by first | exact D5 rfl λ_ _ _ _ _ _ _=>rfl | exact Gs rfl λ_ _ _ _ _ _ _ _=>rfl | exact bu rfl λ_ _ _ _ _ _ _ _ _=>rfl | exact dU rfl λ_ _ _ _ _ _ _ _ _ _=>rfl | exact CG rfl λ_ _ _ _ _ _ _ _ _ _ _=>rfl | exact cz rfl λ_ _ _ _ _ _=>rfl):Has P w K mg base n k ps sp:=by
 obtain⟨f,fd,F,B,kp,m⟩:=Dq i X G b;exact⟨f,fd,o f fd F B kp m,B,kp,m⟩
end
end L2
set_option maxHeartbeats 4000000
namespace M
noncomputable section
noncomputable def XY:SM :=
  (zK (sIf (zo cLt (zA 1) (zM qJ (zD (zA 0) zF)))
  (jM (eOp ze (zA 0) (zA 1)))
  jL)
  (jM (eC (.int 0))))
noncomputable def uV:F:=fn 2 XY
noncomputable def kO (xs:List D) (k:Int):D:=xs.getD k.toNat (.int 0)
noncomputable def yb:F
 | [.ro xs,.int k],s=>if 0 <= k then .ok (kO xs k) s else .no
 | _,_=>.no
theorem fw {c:Type}{xs:List c}{k:Int} (e:0 <= k) (h:k < xs.length) (d:c):atI xs k=some (xs.getD k.toNat d):=by
 unfold atI ixN;rw[if_pos e,if_pos h];have f:k.toNat < xs.length:=by lia
 simp[yC,f]
theorem BM {n:Nat}{xs:List D} (h:D.cl.all n xs=true) (k:Nat) (d:D) (hd:D.cl n d=true):D.cl n (xs.getD k d)=true:=by
 induction xs generalizing k with
 | nil=>exact hd
 | cons x xs c =>
  have h':(D.cl n x && D.cl.all n xs)=true:=h;rw[jl] at h';cases k with
  | zero=>exact h'.1
  | succ k=>exact c h'.2 k
theorem DH:j3 2 uV yb:=j3.pure λf S g c i=>by
 match f,g with
 | [a,b],_ =>
  cases a with
  | ro xs =>
   cases b with
   | int k =>
    by_cases e:0 <= k
    ·refine .inr ⟨kO xs k,[],by simp[yb,e],?_,?_⟩
     ·by_cases h:k < (xs.length:Int)
      ·simp[uV,XY,h,fw e h (.int 0),kO]
      ·have j:kO xs k=.int 0:=by unfold kO;rw[yC,QQ (by lia)];rfl
       simp[uV,XY,h,j]
     ·have d:(D.cl.all S.length xs && true)=true:=i;rw[Yn] at d;exact BM d _ _ rfl
    ·exact .inl (by simp[yb,e])
   | _=>exact .inl rfl
  | _=>exact .inl rfl
noncomputable def vR:SM :=
  (jM (eOp z5 (eOp ZO (eOp z8 (zA 0) (eOp ZO (eC (.int 7919)) (zA 1))) (eC (.int 48271))) (eC (.int 2147483647))))
noncomputable def wJ:F:=fn 2 vR
noncomputable def mix (c k:Int):Int:=(c+7919 * k) * 48271 % 2147483647
noncomputable def qA:F
 | [.int c,.int k],s=>.ok (.int (mix c k)) s
 | _,_=>.no
theorem d1:j3 2 wJ qA:=j3.pure λd S e c h=>by
 match d,e with
 | [a,b],_ =>
  cases a with
  | int c =>
   cases b with
   | int k =>
    have f:qg 7919=true:=by decide
    have g:qg 48271=true:=by decide
    exact .inr ⟨_,[],rfl,by simp[wJ,vR,f,g,mix],rfl⟩
   | _=>exact .inl rfl
  | _=>exact .inl rfl
noncomputable def kS:SM :=
  (zU 2 (eC (.str [97,98,99,100,101,102,103,104,105,106,107,108,109,110,111,112,113,114,115,116,117,118,119,120,121,122,46,42,48,32,90,10])))
noncomputable def kA:SM :=
  (zU 3 (zM qA (zD (zA 0) (zD (eC (.int 5)) zF))))
noncomputable def kY:SM :=
  (zU 4 (aS (Qm []) 1 (q7 (eOp z5 (zA 3) (eC (.int 9)))) (zY 6) je (eOp ze (zA 2) (eOp z5 (zM qA (zD (zA 0) (zD (zA 6) zF))) (eC (.int 32))))))
noncomputable def Qp:SM :=
  (sIf (K3 (ZK (zA 1)) (zo cGt (eOp z5 (zA 0) (eC (.int 3))) (eC (.int 0))))
  (zK (zU 4 (eOp ze (zA 1) (eOp z5 (zA 3) (zM qJ (zD (zA 1) zF)))))
  (zK (zU 4 (eOp z8 (zA 4) (eSl (eC (.str [97])) (yr (zM qJ (zD (zA 4) zF))) J0)))
  (zK (zU 5 (eOp z5 (eOp yU (zA 3) (eC (.int 60))) (zM qJ (zD (zA 4) zF))))
  (zU 4 (eOp z8 (eOp z8 (eSl (zA 4) J0 (yr (zA 5))) (eOp ze (zA 2) (eOp z5 (eOp yU (zA 3) (eC (.int 720))) (eC (.int 32))))) (eSl (zA 4) (yr (eOp z8 (zA 5) (eC (.int 1)))) J0))))))
  jL)
noncomputable def va:SM :=
  (Kg (zo cIn (zA 4) (zA 1))
  (zU 4 (eOp z8 (zA 4) (eOp ze (zA 2) (eOp z5 (zM qA (zD (zA 0) (zD (zM qJ (zD (zA 4) zF)) zF))) (eC (.int 32)))))))
noncomputable def Xj:SM :=
  (jM (zA 4))
noncomputable def uj:SM:=(zK kS (zK kA (zK kY (zK Qp (zK va Xj)))))
noncomputable def hH:F:=fn 6 uj
noncomputable def yk:T:=[97,98,99,100,101,102,103,104,105,106,107,108,109,110,111,112,113,114,115,116,117,118,119,120,121,122,46,42,48,32,90,10]
noncomputable def sg (i:Int):Nat:=yk.getD (i % 32).toNat 0
theorem u5 (i:Int):atI yk (i % 32)=some (sg i) :=
 VC (yq _ (by decide)) (by rw[show (yk.length:Int)=32 from by decide];exact ZQ _ (by decide)) 0
theorem z32:yk.length <= SZ:=by decide
noncomputable def f0T (c:Int):T:=(qQ (mix c 5 % 9).toNat).map λ(j:Nat)=>sg (mix c j)
noncomputable def f1T (c:Int) (taken:List T):T:=taken.getD (mix c 5 % taken.length).toNat []
noncomputable def f2T (c:Int) (taken:List T):T:=f1T c taken++([97]:T).drop (f1T c taken).length
noncomputable def f3T (c:Int) (taken:List T):T:=(f2T c taken).take (mix c 5 / 60 % (f2T c taken).length).toNat++sg (mix c 5 / 720)::(f2T c taken).drop ((mix c 5 / 60 % (f2T c taken).length).toNat+1)
noncomputable def xJ (c:Int) (taken:List T):T:=if taken≠[]/\0 < c % 3 then f3T c taken else f0T c
noncomputable def Jp (c:Int) (taken:List T):Nat->T->T
 | 0,f=>f
 | n+1,f=>if f∈taken then Jp c taken n (f++[sg (mix c f.length)]) else f
noncomputable def kR (c:Int) (taken:List T):T:=Jp c taken 1000 (xJ c taken)
theorem gu (c:Int):(f0T c).length <= 8:=by
 unfold f0T;have d:=yq (mix c 5) (show (9:Int)≠0 by decide);have e:=ZQ (mix c 5) (show (0:Int) < 9 by decide);rw[z9,XA];omega
theorem Ud {taken:List T}{n:Nat} (h:∀ t∈taken,t.length <= n):(f1T c taken).length <= n:=by
 unfold f1T;rw[yC];cases q:taken[(mix c 5 % taken.length).toNat]? with
 | none=>simp
 | some t=>exact h t (yn q)
theorem uX:1 <= (f2T c taken).length/\(f2T c taken).length <= (f1T c taken).length+1:=by
 unfold f2T;rw[jy,Z6];simp only[jU,yy];omega
theorem Gk:(f3T c taken).length=(f2T c taken).length:=by
 unfold f3T;have h:=(uX (c:=c) (taken:=taken)).1;have d:=yq (mix c 5 / 60) (show ((f2T c taken).length:Int)≠0 by omega);have e:=ZQ (mix c 5 / 60) (show (0:Int) < ((f2T c taken).length:Int) by omega);rw[jy,qx,jU,Z6];omega
theorem Ac {taken:List T}{n:Nat} (d:8 <= n) (h:∀ t∈taken,t.length <= n):(xJ c taken).length <= n+1:=by
 unfold xJ;split
 ·rw[Gk];have:=Ud (c:=c) h;have:=(uX (c:=c) (taken:=taken)).2;omega
 ·have:=gu c;omega
theorem Ux {taken:List T}{n:Nat} (h:∀ t∈taken,t.length <= n):∀ (k:Nat) (f:T),f.length <= n+1->(Jp c taken k f).length <= n+1
 | 0,f,d=>d
 | k+1,f,d=>by
  unfold Jp;split
  ·rename_i hm;exact Ux h k _ (by have:=h f hm;rw[jy];simp;omega)
  ·exact d
theorem HS {taken:List T}{n:Nat} (d:8 <= n) (h:∀ t∈taken,t.length <= n):(kR c taken).length <= n+1:=Ux h _ _ (Ac d h)
noncomputable def yW:F
 | [.int c,.ref p],s=>match s[p]? with
  | some (.lst d)=>(match j2 d with
   | some taken=>if taken.length <= 100/\(∀ t∈taken,t.length <= 200) then .ok (.str (kR c taken)) s else .no
   | none=>.no)
  | _=>.no
 | _,_=>.no
theorem aJ:∀ {c:List D}{d:List T},j2 c=some d->c=d.map .str
 | [],d,h=>by simp[j2] at h;subst h;rfl
 | .str x::c,d,h=>by
  unfold j2 at h;cases q:j2 c with
  | none=>simp[q] at h
  | some ys=>simp[q] at h;subst h;rw[aJ q];rfl
 | .non::_,_,h=>by simp[j2] at h
 | .bl _::_,_,h=>by simp[j2] at h
 | .int _::_,_,h=>by simp[j2] at h
 | .ty _::_,_,h=>by simp[j2] at h
 | .ref _::_,_,h=>by simp[j2] at h
 | .tup _::_,_,h=>by simp[j2] at h
 | .ro _::_,_,h=>by simp[j2] at h
noncomputable abbrev Yy:SM:=(zU 4 (eOp z8 (zA 4) (eOp ze (zA 2) (eOp z5 (zM qA (zD (zA 0) (zD (zM qJ (zD (zA 4) zF)) zF))) (eC (.int 32))))))
theorem WC {S:M.S}{p:Nat}{taken:List T}{c:Int}{w3 v5:Option D} (l:S[p]? = some (.lst (taken.map .str))) (h:∀ t∈taken,t.length <= 200):∀ (k:Nat) (f:T),201 <= f.length+k->f.length <= 1000->∀ N K,k < N->k <= K->yR N (zo cIn (zA 4) (zA 1)) Yy [some (.int c),some (.ref p),some (.str yk),w3,some (.str f),v5] S=.nx [some (.int c),some (.ref p),some (.str yk),w3,some (.str (Jp c taken K f)),v5] S
 | k,f,r,u,N,K,v,w=>by
  have hm:inD (.str f) (.ref p) S=.ok (decide (f∈taken)) S:=by
   have fl:(taken.map D.str).all flat=true:=EB _;simp only[inD,l];rw[if_pos (by rw[fl];rfl),W2];simp
  obtain⟨g,rfl⟩:∃ g,N=g+1:=⟨N - 1,by omega⟩
  by_cases d:f∈taken
  ·have z:=h f d;obtain⟨i,rfl⟩:∃ i,k=i+1:=⟨k - 1,by omega⟩
   obtain⟨e,rfl⟩:∃ e,K=e+1:=⟨K - 1,by omega⟩
   have m:=WC l h (c:=c) (w3:=w3) (v5:=v5) i (f++[sg (mix c f.length)]) (by rw[jy];simp;omega) (by rw[jy];simp;omega) g e (by omega) (by omega);have n:f.length <= SZ:=by unfold SZ;omega
   have o:f.length+1 <= SZ:=by unfold SZ;omega
   show (((zo cIn (zA 4) (zA 1)) _ _).stm _ _)=_;have j:(zo cIn (zA 4) (zA 1)) [some (.int c),some (.ref p),some (.str yk),w3,some (.str f),v5] S=.ok true S:=by
    show ((R.ok (D.str f) S).bind λx s=>(R.ok (D.ref p) s).bind λy s=>inD x y s)=_;rw[R.bind_ok,R.bind_ok,hm];simp[d]
   have q:Yy [some (.int c),some (.ref p),some (.str yk),w3,some (.str f),v5] S=.nx [some (.int c),some (.ref p),some (.str yk),w3,some (.str (f++[sg (mix c f.length)])),v5] S:=by
    simp[qA,n,z32,u5,o]
   rw[j,R.stm_ok,if_pos rfl,q];show yR g _ _ _ _=_;rw[m];show _=RS.nx [_,_,_,_,some (.str (if f∈taken then Jp c taken e (f++[sg (mix c f.length)]) else f)),_] S;rw[if_pos d]
  ·show (((zo cIn (zA 4) (zA 1)) _ _).stm _ _)=_;have j:(zo cIn (zA 4) (zA 1)) [some (.int c),some (.ref p),some (.str yk),w3,some (.str f),v5] S=.ok false S:=by
    show ((R.ok (D.str f) S).bind λx s=>(R.ok (D.ref p) s).bind λy s=>inD x y s)=_;rw[R.bind_ok,R.bind_ok,hm];simp[d]
   rw[j,R.stm_ok,if_neg jt];cases K with
   | zero=>rfl
   | succ e =>
    show _=RS.nx [_,_,_,_,some (.str (if f∈taken then Jp c taken e (f++[sg (mix c f.length)]) else f)),_] S;rw[if_neg d]
theorem eP (c:Int) (p:Nat) (S:M.S) (r:SM):(kS [some (.int c),some (.ref p),none,none,none,none] S).then (zK kA (zK kY r))=r [some (.int c),some (.ref p),some (.str yk),some (.int (mix c 5)),some (.str (f0T c)),none] S:=by
 have f:=yq (mix c 5) (show (9:Int)≠0 by decide);have g:=ZQ (mix c 5) (show (0:Int) < 9 by decide);have hit:q7 (eOp z5 (zA 3) (eC (.int 9))) [some (.int c),some (.ref p),some (.str yk),some (.int (mix c 5)),none,none] S=.ok (j5 0 (mix c 5 % 9),[]) S:=by
  simp;omega
 have:=VN (n:=1) (tg:=zY 6) (e:=(eOp ze (zA 2) (eOp z5 (zM qA (zD (zA 0) (zD (zA 6) zF))) (eC (.int 32))))) (λk=>.str [sg (mix c k)]) hit (by unfold SZ;omega) λk _=>by
  simp[qA,z32,u5]
 rw[show ((mix c 5 % 9) - 0).toNat=(mix c 5 % 9).toNat by omega] at this;have hz:(qQ (mix c 5 % 9).toNat).length <= SZ:=by rw[XA];unfold SZ;omega
 have d:([97,98,99,100,101,102,103,104,105,106,107,108,109,110,111,112,113,114,115,116,117,118,119,120,121,122,46,42,48,32,90,10]:T)=yk:=rfl;simp[kS,kA,kY,qA,d,this,hX _ _ _ hz];rfl
theorem DK (c:Int) (p:Nat) (S:M.S) (taken:List T) (o:S[p]? = some (.lst (taken.map .str))) (U:taken.length <= 100) (h:∀ t∈taken,t.length <= 200):∃ v,∀ r,(Qp [some (.int c),some (.ref p),some (.str yk),some (.int (mix c 5)),some (.str (f0T c)),none] S).then r=r [some (.int c),some (.ref p),some (.str yk),some (.int (mix c 5)),some (.str (xJ c taken)),v] S:=by
 by_cases j:taken≠[]/\0 < c % 3
 ·have d:taken≠[]:=j.1;have q:0 < taken.length:=List.length_pos_iff.mpr d;have s:=yq (mix c 5) (show (taken.length:Int)≠0 by omega);have hi1:=ZQ (mix c 5) (show (0:Int) < (taken.length:Int) by omega);have ha:atI (taken.map D.str) (mix c 5 % (taken.length:Int))=some (.str (f1T c taken)):=by
   have B:(mix c 5 % (taken.length:Int)).toNat < taken.length:=by omega
   rw[VC s (by rw[z9];omega) (.str [])];simp[f1T,yC,B]
  have l1:=Ud (c:=c) h;have Y:=uX (c:=c) (taken:=taken);have C:=yq (mix c 5 / 60) (show ((f2T c taken).length:Int)≠0 by omega);have g1:=ZQ (mix c 5 / 60) (show (0:Int) < ((f2T c taken).length:Int) by omega);have E:cut ([97]:T) (some ((f1T c taken).length:Int)) none=([97]:T).drop (f1T c taken).length:=by rw[Wa _ (by omega)];simp
  have G:cut (f2T c taken) none (some (mix c 5 / 60 % ((f2T c taken).length:Int)))=(f2T c taken).take (mix c 5 / 60 % ((f2T c taken).length:Int)).toNat:=ej _ C;have H:cut (f2T c taken) (some (mix c 5 / 60 % ((f2T c taken).length:Int)+1)) none=(f2T c taken).drop ((mix c 5 / 60 % ((f2T c taken).length:Int)).toNat+1):=by
   rw[Wa _ (by omega),show (mix c 5 / 60 % ((f2T c taken).length:Int)+1).toNat=(mix c 5 / 60 % ((f2T c taken).length:Int)).toNat+1 by omega]
  have u:xJ c taken=f3T c taken:=if_pos j;have I:(f1T c taken).length <= SZ:=by unfold SZ;omega
  have J:(f2T c taken).length <= SZ:=by unfold SZ;omega
  have y:(f1T c taken).length+(([97]:T).drop (f1T c taken).length).length <= SZ:=by rw[Z6];simp;unfold SZ;omega
  have L:(0:Int) < ((f2T c taken).length:Int):=by omega
  have w:(1:Nat) <= SZ:=by decide
  refine⟨some (.int (mix c 5 / 60 % ((f2T c taken).length:Int))),λr=>?_⟩;rw[u];have N:f1T c taken++([97]:T).drop (f1T c taken).length=f2T c taken:=rfl;have g:(0:Int) < c % 3:=j.2;generalize x:f2T c taken=i at *;generalize l:mix c 5 / 60 % (i.length:Int)=f at *;have z:(i.take f.toNat).length+1 <= SZ:=by rw[qx];unfold SZ;omega
  have A:(i.take f.toNat).length+1+(i.drop (f.toNat+1)).length <= SZ:=by rw[qx,Z6];unfold SZ;omega
  have Q:f3T c taken=i.take f.toNat++sg (mix c 5 / 720)::i.drop (f.toNat+1):=by unfold f3T;rw[x,l]
  rw[Q];have m:(taken.map D.str).isEmpty=false:=by cases taken with | nil=>exact absurd rfl d | cons _ _=>rfl
  have n:(0:Int) < (taken.length:Int):=by omega
  simp only[qx,Z6] at z A y;simp[Qp,o,m,g,n,ha,I,w,E,y,N,J,L,l,G,H,z32,u5,z,A,d];have hZ:SZ=16777216:=rfl;rw[if_pos q,if_pos (by omega),if_pos (by omega)]
 ·have u:xJ c taken=f0T c:=if_neg j;refine⟨none,λr=>?_⟩;rw[u];by_cases d:taken=[]
  ·simp[Qp,o,d]
  ·have g:¬ (0:Int) < c % 3:=λe=>j ⟨d,e⟩;have m:(taken.map D.str).isEmpty=false:=by cases taken with | nil=>exact absurd rfl d | cons _ _=>rfl
   simp[Qp,o,d,g]
theorem CJ:j3 2 hH yW:=j3.pure λd S f c r=>by
 match d,f with
 | [a,b],_ =>
  cases a with
  | int c =>
   cases b with
   | ref p =>
    cases e:S[p]? with
    | none=>exact .inl (by simp[yW,e])
    | some o =>
     cases o with
     | lst es =>
      cases q:j2 es with
      | none=>exact .inl (by simp[yW,e,q])
      | some taken =>
       by_cases hz:taken.length <= 100/\(∀ t∈taken,t.length <= 200)
       ·have g:=aJ q;subst g;refine .inr ⟨.str (kR c taken),[],by simp[yW,e,q,hz];exact hz.2,?_,rfl⟩;obtain⟨v,h⟩:=DK c p S taken e hz.1 hz.2;have i:=Ac (c:=c) (n:=200) (by omega) hz.2;have j:=WC (c:=c) (w3:=some (.int (mix c 5))) (v5:=v) e hz.2 201 (xJ c taken) (by omega) (by omega) J5 1000 (by decide) (by omega);show ((kS [some (.int c),some (.ref p),none,none,none,none] S).then (zK kA (zK kY (zK Qp (zK va Xj))))).out=_;rw[eP];show ((Qp _ _).then _).out=_;rw[h];show ((yR J5 (zo cIn (zA 4) (zA 1)) Yy _ _).then _).out=_;rw[j];simp[Xj,kR]
       ·exact .inl (by simp[yW,e,q];intro l;simpa using λm=>hz ⟨l,m⟩)
     | dct _=>exact .inl (by simp[yW,e])
     | ins _ _=>exact .inl (by simp[yW,e])
     | fdc _=>exact .inl (by simp[yW,e])
     | dtt _=>exact .inl (by simp[yW,e])
     | ftt _=>exact .inl (by simp[yW,e])
   | _=>exact .inl rfl
  | _=>exact .inl rfl
noncomputable def Jz:SM :=
  (zU 2 (zM yb (zD (zA 0) (zD (zA 1) zF))))
noncomputable def xQ:SM :=
  (zU 3 (eOp z8 (eC (.int 1)) (eOp z5 (zA 2) (eC (.int 9)))))
noncomputable def Jh:SM :=
  (sIf (zo cEq (eOp z5 (eOp yU (zA 2) (eC (.int 9))) (eC (.int 6))) (eC (.int 1)))
  (zU 3 (eOp z8 (eC (.int 1)) (eOp z5 (eOp yU (zA 2) (eC (.int 54))) (eC (.int 60)))))
  jL)
noncomputable def Jf:SM :=
  (zU 4 (j8 zF))
noncomputable def xA:SM :=
  (jo (q7 (zA 3)) (zY 5)
  (Z4 (eM .list JF (zA 4) (zD (zM yW (zD (zM qA (zD (zM yb (zD (zA 0) (zD (eOp z8 (eOp z8 (zA 1) (eC (.int 1))) (eOp z5 (zA 5) (eC (.int 4)))) zF))) (zD (zA 5) zF))) (zD (zA 4) zF))) zF))))
noncomputable def KI:SM :=
  (jM (zA 4))
noncomputable def V2:SM:=(zK Jz (zK xQ (zK Jh (zK Jf (zK xA KI)))))
noncomputable def DF:F:=fn 6 V2
noncomputable def j7 (ns:List Int) (k:Int):Int:=ns.getD k.toNat 0
noncomputable def qs (ns:List Int) (b:Int):Nat->List T
 | 0=>[]
 | k+1=>qs ns b k++[kR (mix (j7 ns (b+1+(k:Int) % 4)) k) (qs ns b k)]
theorem Kn (ns:List Int) (b:Int):∀ k,(qs ns b k).length=k
 | 0=>rfl
 | k+1=>by rw[qs,jy,Kn ns b k];rfl
theorem vg (ns:List Int) (b:Int):∀ k,∀ t∈qs ns b k,t.length <= 20+k
 | 0,t,h=>by cases h
 | k+1,t,h=>by
  rw[qs] at h;rcases List.mem_append.mp h with h | h
  ·have:=vg ns b k t h;omega
  ·have e:=List.mem_singleton.mp h;subst e;exact HS (n:=20+k) (by omega) (vg ns b k)
noncomputable def Qf (c:Int):Int:=if c / 9 % 6=1 then 1+c / 54 % 60 else 1+c % 9
theorem Us (c:Int):1 <= Qf c/\Qf c <= 60:=by
 unfold Qf;have d:=yq (c / 54) (show (60:Int)≠0 by decide);have e:=ZQ (c / 54) (show (0:Int) < 60 by decide);have f:=yq c (show (9:Int)≠0 by decide);have g:=ZQ c (show (0:Int) < 9 by decide);split<;>omega
noncomputable def QX:F
 | [.ro xs,.int b],s=>match qa xs with
  | some ns=>if 0 <= b then alloc (.lst ((qs ns b (Qf (j7 ns b)).toNat).map .str)) s else .no
  | none=>.no
 | _,_=>.no
theorem bL:∀ {c:List D}{ns:List Int},qa c=some ns->c=ns.map .int
 | [],ns,h=>by simp[qa] at h;subst h;rfl
 | .int x::c,ns,h=>by
  unfold qa at h;cases q:qa c with
  | none=>simp[q] at h
  | some ys=>simp[q] at h;subst h;rw[bL q];rfl
 | .non::_,_,h=>by simp[qa] at h
 | .bl _::_,_,h=>by simp[qa] at h
 | .str _::_,_,h=>by simp[qa] at h
 | .ty _::_,_,h=>by simp[qa] at h
 | .ref _::_,_,h=>by simp[qa] at h
 | .tup _::_,_,h=>by simp[qa] at h
 | .ro _::_,_,h=>by simp[qa] at h
theorem ux:∀ ns:List Int,qa (ns.map .int)=some ns
 | []=>rfl
 | n::ns=>by show (qa (ns.map .int)).map _=_;rw[ux ns];rfl
theorem kX (ns:List Int) (k:Int) (s:M.S) (h:0 <= k):yb [.ro (ns.map .int),.int k] s=.ok (.int (j7 ns k)) s:=by
 simp only[yb,if_pos h,kO,j7];rw[yC,yC,qG];cases ns[k.toNat]?<;>rfl
theorem gK:j3 2 DF QX:=j3.new λw S x c Q=>by
 match w,x with
 | [a,b],_ =>
  cases a with
  | ro xs =>
   cases b with
   | int b =>
    cases q:qa xs with
    | none=>exact .inl (by simp[QX,q])
    | some ns =>
     have ex:=bL q;subst ex;by_cases l:0 <= b
     ·have hm:=Us (j7 ns b);generalize i:Qf (j7 ns b)=e at *;have y:∀ r,(Jz [some (.ro (ns.map .int)),some (.int b),none,none,none,none] S).then (zK xQ (zK Jh (zK Jf r)))=r [some (.ro (ns.map .int)),some (.int b),some (.int (j7 ns b)),some (.int e),some (.ref S.length),none] (S++[.lst []]):=λr=>by
       have u:(0:Nat) <= SZ:=by decide
       have m:e=if j7 ns b / 9 % 6=1 then 1+j7 ns b / 54 % 60 else 1+j7 ns b % 9:=by rw[<- i];rfl
       by_cases n:j7 ns b / 9 % 6=1
       ·rw[if_pos n] at m;simp[Jz,xQ,Jh,Jf,kX _ _ _ l,n,u,m]
       ·rw[if_neg n] at m;simp[Jz,xQ,Jh,Jf,kX _ _ _ l,n,u,m]
      obtain⟨z,U,A,v5,h,es⟩:=QS (g:=[]) (f:=jO (zY 5) (Z4 (eM .list JF (zA 4) (zD (zM yW (zD (zM qA (zD (zM yb (zD (zA 0) (zD (eOp z8 (eOp z8 (zA 1) (eC (.int 1))) (eOp z5 (zA 5) (eC (.int 4)))) zF))) (zD (zA 5) zF))) (zD (zA 4) zF))) zF))))
       (λj σ s=>∃ v5:Option D,σ=[some (.ro (ns.map .int)),some (.int b),some (.int (j7 ns b)),some (.int e),some (.ref S.length),v5]/\s=S++[.lst ((qs ns b j).map .str)]) (j5 0 e) 0 [some (.ro (ns.map .int)),some (.int b),some (.int (j7 ns b)),some (.int e),some (.ref S.length),none] (S++[.lst []]) ⟨none,rfl,rfl⟩ λj d hd σ s ⟨v5,h,es⟩=>by
        have v:j < (j5 0 e).length:=(List.getElem?_eq_some_iff.mp hd).1;have B:j < 60:=by unfold j5 at v;rw[z9,XA] at v;omega
        have C:d=.int (j:Int):=by
         unfold j5 at hd;rw[qG] at hd;cases q:(qQ (e - 0).toNat)[j]? with
         | none=>rw[q] at hd;cases hd
         | some k =>
          rw[q] at hd;have E:k=j:=by
           have:=(List.getElem?_eq_some_iff.mp q).2;simp at this;omega
          subst E;simp at hd;exact hd.symm
        subst C;subst h;subst es;rw[ja];have Y:=yq (j:Int) (show (4:Int)≠0 by decide);have G:=λs=>kX ns (b+1+(j:Int) % 4) s (by omega);have H:∀ c:Int,yW [.int c,.ref S.length] (S++[.lst ((qs ns b j).map .str)])=.ok (.str (kR c (qs ns b j))) (S++[.lst ((qs ns b j).map .str)]):=λc=>by
         have I:=Kn ns b j;have o:∀ t∈qs ns b j,t.length <= 200:=λt J=>qD (vg ns b j t J) (by omega);simp only[yW,List.getElem?_concat_length,YJ];rw[if_pos ⟨by omega,o⟩]
        have hz:(qs ns b j).length < SZ:=by rw[Kn];unfold SZ;omega
        refine⟨[some (.ro (ns.map .int)),some (.int b),some (.int (j7 ns b)),some (.int e),some (.ref S.length),some (.int j)],S++[.lst ((qs ns b (j+1)).map .str)],?_,rfl,_,rfl,rfl⟩;simp[G,qA,H,hz,qs]
      have p:(j5 0 e).length=e.toNat:=by unfold j5;rw[z9,XA];omega
      rw[ja,p] at es;subst h;subst es;refine .inr ⟨.lst ((qs ns b e.toNat).map .str),S.length,[.lst ((qs ns b e.toNat).map .str)],by simp[QX,q,l,i],?_,by simp,zd _,KJ _ _⟩;show ((Jz [some (.ro (ns.map .int)),some (.int b),none,none,none,none] S).then (zK xQ (zK Jh (zK Jf (zK xA KI))))).out=_;rw[y];have L:e.natAbs < 4611686018427387904:=by omega
      have M:∀ s,zW [] s=true:=λ_=>rfl;have N:∀ r,(xA [some (.ro (ns.map .int)),some (.int b),some (.int (j7 ns b)),some (.int e),some (.ref S.length),none] (S++[.lst []])).then r=r [some (.ro (ns.map .int)),some (.int b),some (.int (j7 ns b)),some (.int e),some (.ref S.length),v5] (S++[.lst ((qs ns b e.toNat).map .str)]):=λr=>by
       simp only[xA,jo,q7,zA,zk,zg,R.bind_ok,L,if_true,R.stm_ok,M,A,RS.then_nx]
      show ((xA _ _).then _).out=_;rw[N];simp[KI]
     ·exact .inl (by simp[QX,q,l])
   | _=>exact .inl rfl
  | _=>exact .inl rfl
noncomputable def xE:SM :=
  (zK (sIf (zo cEq (zA 2) (eC (.int 1)))
  (jM (qi 1 (q7 (eOp ZO (eOp z5 (zA 0) (eC (.int 4))) (zM Kk (zD (Zz cGt (zA 1) (eC (.int 0))) zF)))) (zY 5) je (eOp ze (zA 3) (eOp z5 (zM qA (zD (zA 0) (zD (eOp z8 (eC (.int 3)) (zA 5)) zF))) (zA 1)))))
  jL)
  (zK (sIf (zo cEq (zA 2) (eC (.int 2)))
  (zK (zU 4 (eSl (zA 3) (yr (zM xn (zD (eC (.int 0)) (zD (eOp k5 (zA 1) (eC (.int 1))) zF)))) (yr (zA 1))))
  (zK (sIf (zo cEq (eOp z5 (zA 0) (eC (.int 29))) (eC (.int 1)))
  (zU 4 (eOp z8 (zA 4) (j8 (zD (eOp ze (zA 3) (eOp k5 (zM qJ (zD (zA 3) zF)) (eC (.int 1)))) zF))))
  jL)
  (jM (zA 4))))
  jL)
  (jM (qi 1 (q7 (eOp z5 (zA 0) (eC (.int 4)))) (zY 5) je (eOp ze (zA 3) (eOp z5 (zM qA (zD (zA 0) (zD (eOp z8 (eC (.int 3)) (zA 5)) zF))) (zM qJ (zD (zA 3) zF))))))))
noncomputable def Jr:F:=fn 5 xE
noncomputable def JE:F:=chN Jr
theorem eE:j3 4 Jr JE:=Kb _
theorem vB {s:M.S}{p:Nat}{c:List D} (h:s[p]? = some (.lst c)):z7 s p=some c:=by simp[z7,h]
noncomputable def DR (s:M.S):List (D×D)->List (T×List T)->Prop
 | [],[]=>True
 | kv::kvs,p::nd=>(∃ r,kv=(.str p.1,.ref r)/\s[r]? = some (.lst (p.2.map .str)))/\DR s kvs nd
 | _,_=>False
abbrev j9 (s c:M.S):Prop:=∀ (r:Nat) (xs:List D),s[r]? = some (.lst xs)->c[r]? = some (.lst xs)
theorem j9.app (s t:M.S):j9 s (s++t):=λ_ _ e=>jB e t
theorem j9.trans {a b:M.S} (h:j9 a b) (k:j9 b c):j9 a c:=λr xs e=>k r xs (h r xs e)
theorem j9.set {s:M.S}{i:Nat}{o o':O} (e:s[i]? = some o) (n:∀ xs,o≠.lst xs):j9 s (s.set i o'):=λr xs h=>by
 by_cases c:i=r
 ·subst c;rw[e] at h;cases h;exact absurd rfl (n xs)
 ·rw[yY c];exact h
theorem DR.mono (k:j9 s c):∀ {kvs:List (D×D)}{nd:List (T×List T)},DR s kvs nd->DR c kvs nd
 | [],[],_=>trivial
 | _::_,_::_,⟨⟨r,d,e⟩,h⟩=>⟨⟨r,d,k r _ e⟩,DR.mono k h⟩
 | [],_::_,h=>h.elim
 | _::_,[],h=>h.elim
theorem DR.length:∀ {kvs:List (D×D)}{nd:List (T×List T)},DR s kvs nd->kvs.length=nd.length
 | [],[],_=>rfl
 | _::_,_::_,⟨_,h⟩=>by rw[jU,jU,DR.length h]
 | [],_::_,h=>h.elim
 | _::_,[],h=>h.elim
theorem DR.keys:∀ {kvs:List (D×D)}{nd:List (T×List T)},DR s kvs nd->kvs.map (·.1)=nd.map λp=>.str p.1
 | [],[],_=>rfl
 | _::_,_::_,⟨⟨r,c,_⟩,h⟩=>by rw[jF,jF,DR.keys h,c]
 | [],_::_,h=>h.elim
 | _::_,[],h=>h.elim
theorem DR.app:∀ {kvs c:List (D×D)}{nd d:List (T×List T)},DR s kvs nd->DR s c d->DR s (kvs++c) (nd++d)
 | [],_,[],_,_,k=>k
 | _::_,_,_::_,_,⟨e,h⟩,k=>⟨e,DR.app h k⟩
 | [],_,_::_,_,h,_=>h.elim
 | _::_,_,[],_,h,_=>h.elim
theorem DR.get (x:T):∀ {kvs:List (D×D)}{nd:List (T×List T)},DR s kvs nd->(nd.lookup x=none/\jD (.str x) kvs=none)\/∃ row r,nd.lookup x=some row/\jD (.str x) kvs=some (.ref r)/\s[r]? = some (.lst (row.map .str))
 | [],[],_=>.inl ⟨rfl,rfl⟩
 | _::kvs,(k,row)::nd,⟨⟨r,c,d⟩,h⟩=>by
  subst c;unfold jD;rw[yz,yz];by_cases e:x=k
  ·subst e;exact .inr ⟨row,r,by simp,by simp,d⟩
  ·have f:(x == k)=false:=by simpa using e
   have g:(D.str x == D.str k)=false:=by simpa using e
   rw[f,g];exact DR.get x h
 | [],_::_,h=>h.elim
 | _::_,[],h=>h.elim
noncomputable def yN (k:T) (v:List T) (nd:List (T×List T)):List (T×List T):=if (nd.any λp=>decide (p.1=k))=true then nd.map λp=>if p.1=k then (p.1,v) else p else nd++[(k,v)]
theorem DR.any (k:T):∀ {kvs:List (D×D)}{nd:List (T×List T)},DR s kvs nd->(kvs.any λp=>decide (p.1=.str k))=(nd.any λp=>decide (p.1=k))
 | [],[],_=>rfl
 | _::_,_::_,⟨⟨r,c,d⟩,h⟩=>by subst c;rw[yp,yp,DR.any k h];simp
 | [],_::_,h=>h.elim
 | _::_,[],h=>h.elim
theorem DR.over {s:M.S}{k:T}{r:Nat}{row:List T} (c:s[r]? = some (.lst (row.map .str))):∀ {kvs:List (D×D)}{nd:List (T×List T)},DR s kvs nd->DR s (kvs.map λp=>if p.1=.str k then (p.1,.ref r) else p) (nd.map λp=>if p.1=k then (p.1,row) else p)
 | [],[],_=>trivial
 | _::_,p::_,⟨⟨d,f,g⟩,h⟩=>by
  subst f;refine⟨?_,DR.over c h⟩;by_cases e:p.1=k
  ·subst e;exact⟨r,by simp,by simpa using c⟩
  ·exact⟨d,by simp[e],by simpa [e] using g⟩
 | [],_::_,h=>h.elim
 | _::_,[],h=>h.elim
theorem DR.put {k:T}{r:Nat}{row:List T} (h:DR s kvs nd) (c:s[r]? = some (.lst (row.map .str))):DR s (jA (.str k) (.ref r) kvs) (yN k row nd):=by
 unfold jA yN;rw[h.any k];split
 ·exact h.over c
 ·exact h.app ⟨⟨r,rfl,c⟩,trivial⟩
noncomputable def zZ (nd:List (T×List T)):List T:=nd.map (·.1)
theorem Yu {k:T}{nd:List (T×List T)}:(nd.any λp=>decide (p.1=k))=true↔k∈zZ nd:=by
 unfold zZ;rw[D1,cy];constructor
 ·rintro ⟨p,c,d⟩;exact⟨p,c,of_decide_eq_true d⟩
 ·rintro ⟨p,c,d⟩;exact⟨p,c,decide_eq_true d⟩
theorem fy {k:T}:zZ (yN k v nd)=if k∈zZ nd then zZ nd else zZ nd++[k]:=by
 unfold yN;by_cases h:k∈zZ nd
 ·rw[if_pos (Yu.mpr h),if_pos h];unfold zZ;rw[yj];refine Zv λp c=>?_;simp only[VJ];split<;>rfl
 ·rw[if_neg (λz=>h (Yu.mp z)),if_neg h];unfold zZ;simp
theorem V4 {k:T} (h:(zZ nd).Nodup):(zZ (yN k v nd)).Nodup:=by
 rw[fy];split
 ·exact h
 ·rename_i q;rw[xP];exact⟨h,by simp,λa ha b c z=>by simp at c;subst c;subst z;exact q ha⟩
theorem Fi {k:T}:(yN k v nd).length <= nd.length+1:=by
 unfold yN;split<;>simp
theorem Vp {j:Nat}{d:D} (h:(j5 0 n)[j]? = some d):d=.int j/\(j:Int) < n:=by
 unfold j5 at h;rw[qG] at h;cases q:(qQ (n - 0).toNat)[j]? with
 | none=>rw[q] at h;cases h
 | some k =>
  rw[q] at h;have c:=(List.getElem?_eq_some_iff.mp q)
  obtain⟨c,e⟩:=c;simp at c e;subst e;simp at h;exact⟨h.symm,by omega⟩
theorem eB (n:Nat):(j5 0 (n:Int)).length=n:=by unfold j5;simp
theorem kQ {ts:List T}{k:Int} (c:0 <= k) (h:k < ts.length):atI (ts.map D.str) k=some (.str (ts.getD k.toNat [])):=by
 rw[VC (d:=.str []) c (by simpa using h),yC,yC,qG];cases ts[k.toNat]?<;>rfl
theorem Vf {c d:Type} (f:c->d) (xs:List c) (lo hi:Option Int):cut (xs.map f) lo hi=(cut xs lo hi).map f:=by
 unfold cut;rw[z9,List.map_take,List.map_drop]
theorem DR.at:∀ {kvs:List (D×D)}{nd:List (T×List T)}{j:Nat}{kv:D×D},DR s kvs nd->kvs[j]? = some kv->∃ p r,nd[j]? = some p/\kv=(.str p.1,.ref r)/\s[r]? = some (.lst (p.2.map .str))
 | _::_,p::_,0,_,⟨⟨r,c,d⟩,h⟩,e=>by cases e;exact⟨p,r,rfl,c,d⟩
 | _::kvs,_::nd,j+1,kv,⟨_,h⟩,e=>by
  obtain⟨p,r,f,g⟩:=DR.at (kvs:=kvs) (nd:=nd) (j:=j) (kv:=kv) h (by simpa using e);exact⟨p,r,by simpa using f,g⟩
 | [],_,_,_,_,e=>by simp at e
 | _::_,[],_,_,h,_=>h.elim
theorem fm {k:T} (h:k∉zZ nd):yN k v nd=nd++[(k,v)]:=by
 unfold yN;rw[if_neg (λz=>h (Yu.mp z))]
theorem KH (c:(zZ nd).Nodup) {p:T×List T} (h:p∈nd):nd.lookup p.1=some p.2:=by
 induction nd with
 | nil=>cases h
 | cons q nd f =>
  obtain⟨k,v⟩:=q;unfold zZ at c f;rw[jF,Jt] at c;rw[yz];rcases List.mem_cons.mp h with h | h
  ·subst h;simp
  ·have d:(p.1 == k)=false:=by
    simp only[beq_eq_false_iff_ne,ne_eq];exact λe=>c.1 (by have hm:p.1∈nd.map (λx=>x.1):=List.mem_map_of_mem h;rw[e] at hm;exact hm)
   rw[d];exact f c.2 h
theorem W7 (hw:DR s l c) (f:(zZ c).Nodup):∀ {kvs:List (D×D)}{nd:List (T×List T)},DR s kvs nd->(∀ p∈nd,p∈c)->dEq s l kvs=some true
 | [],[],_,_=>rfl
 | _::kvs,p::nd,⟨⟨r,n,o⟩,h⟩,m=>by
  subst n;have t:=W7 hw f h λq u=>m q (jV _ u);have g:∀ (k:Nat) (ts:List T),s[k]? = some (.lst (ts.map .str))->toP 8 s (.ref k)=some (.lst (ts.map P.str)):=λk ts e=>by
   show (match z7 s k with | some xs=>(jZ.all (λj=>toP 7 s (.ref j)) xs).map P.lst | none=>none)=_;rw[vB e];show (jZ.all _ (ts.map .str)).map P.lst=_;rw[u4];rfl
  have i:=KH f (m p jI);rcases hw.get p.1 with ⟨d,_⟩ | ⟨row,x,d,v,w⟩
  ·rw[i] at d;cases d
  ·rw[i] at d;cases d;unfold dEq;rw[v,t];simp[g _ _ o,g _ _ w,P.dep,Yz,P.eqv,Vh]
 | [],_::_,h,_=>h.elim
 | _::_,[],h,_=>h.elim
theorem FX {s:M.S}{i j:Nat}{kvs c:List (D×D)} (hi:s[i]? = some (.dct kvs)) (d:s[j]? = some (.dct c)) (f:DR s kvs nd) (g:DR s c nd) (l:(zZ nd).Nodup):eqD (.ref i) (.ref j) s=.ok true s:=by
 have h:∀ (k:Nat) (kv:List (D×D)),s[k]? = some (.dct kv)->toP Zm s (.ref k)=none:=λk kv e=>by
  show (match z7 s k with | some xs=>(jZ.all (λj=>toP 8 s (.ref j)) xs).map P.lst | none=>none)=_;have:z7 s k=none:=by simp[z7,e]
  rw[this]
 simp only[eqD,h i _ hi,h j _ d,X2,hi,d];rw[if_pos (by rw[f.length,g.length]),W7 g l f λ_ h=>h]
theorem X5 {c:Type}{xs:List c}{lo hi:Option Int}{x:c} (h:x∈cut xs lo hi):x∈xs:=by
 unfold cut at h;exact cO (uM h)
theorem kI {N:List T}{k:Nat} (h:k < N.length):N.getD k []∈N:=by
 rw[yC,ZL h];exact List.getElem_mem _
theorem bM {d:Type}{xs:List d}{k:Int} (e:0 <= k) (h:k < xs.length):(cut xs (some (if 1 < k then k - 1 else 0)) (some k)).length <= 1:=by
 unfold cut;simp only[sIx];rw[qx];by_cases c:1 < k
 ·rw[if_pos c,if_neg (show ¬ k - 1 < 0 by omega),if_neg (show ¬ k < 0 by omega),V7 (show k <= (xs.length:Int) by omega),V7 (show k - 1 <= (xs.length:Int) by omega)];omega
 ·rw[if_neg c,if_neg (show ¬ (0:Int) < 0 by omega),if_neg (show ¬ k < 0 by omega),V7 (show k <= (xs.length:Int) by omega),V7 (show (0:Int) <= (xs.length:Int) by omega)];omega
theorem Fq {S:M.S}{q:Nat}{N:List T}{c k sh:Int} (p:S[q]? = some (.lst (N.map .str))) (x:0 <= k) (I:k < N.length) :
  ∃ ts:List T,ts.length <= 4/\(∀ t∈ts,t∈N)/\JE [.int c,.int k,.int sh,.ref q] S=alloc (.lst (ts.map .str)) S:=by
 have m0:=yq c (show (4:Int)≠0 by decide);have m1:=ZQ c (show (0:Int) < 4 by decide);have y:(0:Int) < N.length:=by omega
 have J:N≠[]:=List.ne_nil_of_length_pos (by omega);have fin:∀ (ts:List T) (g:M.S) (j:Nat),Jr [.int c,.int k,.int sh,.ref q] S=.ok (.ref j) (S++g)->(S++g)[j]? = some (.lst (ts.map .str))->S.length <= j->JE [.int c,.int k,.int sh,.ref q] S=alloc (.lst (ts.map .str)) S:=λts g j L Q l=>Kh L Q l (KJ _ _);by_cases E:sh=1
 ·subst E;have A:(c % 4 * if 0 < k then (1:Int) else 0).natAbs < 4611686018427387904:=by split<;>omega
  have U:qg (c % 4)=true:=by unfold qg;exact decide_eq_true (by omega)
  have:=VN (n:=1) (it:=q7 (eOp ZO (eOp z5 (zA 0) (eC (.int 4))) (zM Kk (zD (Zz cGt (zA 1) (eC (.int 0))) zF)))) (tg:=zY 5) (e:=eOp ze (zA 3) (eOp z5 (zM qA (zD (zA 0) (zD (eOp z8 (eC (.int 3)) (zA 5)) zF))) (zA 1))) (σ:=[some (.int c),some (.int k),some (.int 1),some (.ref q),none]) (s:=S) (lo:=0) (hi:=c % 4 * if 0 < k then (1:Int) else 0) (λj=>.str (N.getD (mix c (3+j) % k).toNat [])) (by simp[U,A]) (by unfold SZ;split<;>omega) λj o=>by
   have f:0 < k:=by
    by_cases z:0 < k
    ·exact z
    ·rw[if_neg z] at o;simp at o
   have r:=yq (mix c (3+j)) (show k≠0 by omega);have w:=ZQ (mix c (3+j)) f;simp[p,qA,f,kQ (ts:=N) r (by omega)]
  refine⟨(qQ (c % 4 * (if 0 < k then (1:Int) else 0) - 0).toNat).map λ(j:Nat)=>N.getD (mix c (3+j) % k).toNat [],by rw[z9,XA];split<;>omega,λt m=>?_,fin _ [.lst _] S.length ?_ (by rw[jP (zd _),JN];rfl) (zd _)⟩
  ·obtain⟨j,o,rfl⟩:=List.mem_map.mp m;have u:=List.mem_range.mp o;have f:0 < k:=by
    by_cases z:0 < k
    ·exact z
    ·rw[if_neg z] at u;simp at u
   have r:=yq (mix c (3+j)) (show k≠0 by omega);have w:=ZQ (mix c (3+j)) f;exact kI (by omega)
  ·rw[yj];simp only[Jr,fn,xE,zK,sIf,zo,zA,eC,cEq,eqD,jM,qi,jF,Qz,jU,yy,qz,yQ,x3,bN,zq,zg,zk,R.bind_ok,R.stm_ok,decide_true,if_true,this,alloc,RS.then_rt,RS.out_rt];rfl
 ·by_cases G:sh=2
  ·subst G;have Y:(cut N (some (if 1 < k then k - 1 else 0)) (some k)).length <= 1:=bM x I;have hx:atI (N.map D.str) ((N.length:Int) - 1)=some (.str (N.getD ((N.length:Int) - 1).toNat [])):=kQ (by omega) (by omega);have v:∀ t∈cut N (some (if 1 < k then k - 1 else 0)) (some k),t∈N:=λt m=>X5 m;have i:cut (N.map D.str) (some (if 1 < k then k - 1 else 0)) (some k)=(cut N (some (if 1 < k then k - 1 else 0)) (some k)).map D.str:=Vf _ _ _ _;generalize cut N (some (if 1 < k then k - 1 else 0)) (some k)=C at *;have B:N.getD ((N.length:Int) - 1).toNat []∈N:=kI (by omega);generalize N.getD ((N.length:Int) - 1).toNat []=d at *;by_cases H:c % 29=1
   ·refine⟨C++[d],by simp;omega,λt m=>?_,fin _ [.lst (C.map .str),.lst [.str d],.lst ((C++[d]).map .str)] (S.length+2) ?_ (by rw[jP (by omega),show S.length+2 - S.length=2 by omega];rfl) (by omega)⟩
    ·rcases List.mem_append.mp m with h | h
     ·exact v t h
     ·rw[List.mem_singleton.mp h];exact B
    ·have hz:C.length+1 <= SZ:=by unfold SZ;omega
     have q1:∀ g,(S++g)[q]? = some (.lst (N.map .str)):=λg=>jB p g;have s1:∀ (a b:O),(S++[a,b])[S.length]? = some a:=λa b=>by rw[jP (zd _),JN];rfl
     have s2:∀ (a b:O),(S++[a,b])[S.length+1]? = some b:=λa b=>by rw[jP (by omega),show S.length+1 - S.length=1 by omega];rfl
     have z0:¬ SZ=0:=by unfold SZ;omega
     simp[Jr,xE,H,p,i,q1,hx,s1,s2,hz,z0]
   ·refine⟨C,by omega,v,fin _ [.lst (C.map .str)] S.length ?_ (by rw[jP (zd _),JN];rfl) (zd _)⟩;simp[Jr,xE,H,p,i]
  ·have A:(c % 4).natAbs < 4611686018427387904:=by omega
   have:=VN (n:=1) (it:=q7 (eOp z5 (zA 0) (eC (.int 4)))) (tg:=zY 5) (e:=eOp ze (zA 3) (eOp z5 (zM qA (zD (zA 0) (zD (eOp z8 (eC (.int 3)) (zA 5)) zF))) (zM qJ (zD (zA 3) zF)))) (σ:=[some (.int c),some (.int k),some (.int sh),some (.ref q),none]) (s:=S) (lo:=0) (hi:=c % 4) (λj=>.str (N.getD (mix c (3+j) % (N.length:Int)).toNat [])) (by simp[A]) (by unfold SZ;omega) λj o=>by
    have r:=yq (mix c (3+j)) (show (N.length:Int)≠0 by omega);have w:=ZQ (mix c (3+j)) y;simp[p,qA,y,J,kQ (ts:=N) r w]
   refine⟨(qQ (c % 4 - 0).toNat).map λ(j:Nat)=>N.getD (mix c (3+j) % (N.length:Int)).toNat [],by rw[z9,XA];omega,λt m=>?_,fin _ [.lst _] S.length ?_ (by rw[jP (zd _),JN];rfl) (zd _)⟩
   ·obtain⟨j,o,rfl⟩:=List.mem_map.mp m;have r:=yq (mix c (3+j)) (show (N.length:Int)≠0 by omega);have w:=ZQ (mix c (3+j)) y;exact kI (by omega)
   ·rw[yj];simp only[Jr,fn,xE,zK,sIf,zo,zA,eC,cEq,eqD,jM,jL,qi,jF,Qz,jU,yy,qz,yQ,x3,bN,zq,zg,zk,R.bind_ok,R.stm_ok,E,G,decide_false,jW,if_false,RS.then_nx,this,alloc,RS.out_rt];rfl
noncomputable def kB:SM :=
  (zU 3 (eOp z5 (zM yb (zD (zA 0) (zD (zA 1) zF))) (eC (.int 4))))
noncomputable def xZ:SM :=
  (zU 4 qY)
noncomputable def xB:SM :=
  (jo (q7 (zM qJ (zD (zA 2) zF))) (zY 5)
  (zK (zU 6 (zM qA (zD (zM yb (zD (zA 0) (zD (eOp z8 (eOp z8 (zA 1) (eC (.int 1))) (eOp z5 (zA 5) (eC (.int 12)))) zF))) (zD (zA 5) zF))))
  (sIf (tOr (zo cGt (eOp z5 (eOp yU (zA 6) (eC (.int 64))) (eC (.int 9))) (eC (.int 0))) (zo cEq (zA 3) (eC (.int 2))))
  (jE (zA 4) (eOp ze (zA 2) (zA 5)) (zM JE (zD (zA 6) (zD (zA 5) (zD (zA 3) (zD (zA 2) zF))))))
  jL)))
noncomputable def X9:SM :=
  (jM (zA 4))
noncomputable def YM:SM:=(zK kB (zK xZ (zK xB X9)))
noncomputable def Ej:F:=fn 7 YM
noncomputable abbrev vN:F:=Ej
theorem u6 {P:T×List T->Prop}{k:T}{v:List T}{nd:List (T×List T)} (h:∀ q∈nd,P q) (d:P (k,v)):∀ q∈yN k v nd,P q:=by
 intro q c;unfold yN at c;split at c
 ·obtain⟨p,f,rfl⟩:=List.mem_map.mp c;by_cases e:p.1=k
  ·rw[if_pos e,e];exact d
  ·rw[if_neg e];exact h p f
 ·rcases List.mem_append.mp c with c | c
  ·exact h q c
  ·rw[List.mem_singleton.mp c];exact d
abbrev OkB (b:Nat) (N:List T) (nd:List (T×List T)):Prop:=∀ q∈nd,q.1∈N/\q.2.length <= b/\∀ t∈q.2,t∈N
abbrev OkN (N:List T) (nd:List (T×List T)):Prop:=OkB 10 N nd
theorem OkB.mono {b c:Nat} (h:OkB b N nd) (e:b <= c):OkB c N nd:=λq d=>⟨(h q d).1,qD (h q d).2.1 e,(h q d).2.2⟩
noncomputable abbrev aV:SM :=
  (zK (zU 6 (zM qA (zD (zM yb (zD (zA 0) (zD (eOp z8 (eOp z8 (zA 1) (eC (.int 1))) (eOp z5 (zA 5) (eC (.int 12)))) zF))) (zD (zA 5) zF))))
  (sIf (tOr (zo cGt (eOp z5 (eOp yU (zA 6) (eC (.int 64))) (eC (.int 9))) (eC (.int 0))) (zo cEq (zA 3) (eC (.int 2))))
  (jE (zA 4) (eOp ze (zA 2) (zA 5)) (zM JE (zD (zA 6) (zD (zA 5) (zD (zA 3) (zD (zA 2) zF))))))
  jL))
abbrev NdI (B:M.S) (N:List T) (j:Nat) (s:M.S):Prop:=∃ kvs nd t,s=B++.dct kvs::t/\DR s kvs nd/\(zZ nd).Nodup/\nd.length <= j/\OkB 4 N nd
theorem fv {ns:List Int}{N:List T} (C:N.length <= 60) {B:M.S}{p:Nat}{sh:Int} (E:B[p]? = some (.lst (N.map .str))) {j:Nat} (G:j < N.length) (v5 v6:Option D) (I:NdI B N j s) :
  ∃ r A,jO (zY 5) aV (.int j) [some (.ro (ns.map .int)),some (.int 5),some (.ref p),some (.int sh),some (.ref B.length),v5,v6] s=.nx [some (.ro (ns.map .int)),some (.int 5),some (.ref p),some (.int sh),some (.ref B.length),some (.int j),r] A/\NdI B N (j+1) A:=by
 obtain⟨kvs,nd,t,rfl,u,e,nl,ok⟩:=I;have m0:=yq (j:Int) (show (12:Int)≠0 by decide);have v:=λs=>kX ns (6+(j:Int) % 12) s (by omega);generalize j7 ns (6+(j:Int) % 12)=H at *;generalize d:mix H j=c at *;have w:∀ g,(B++g)[p]? = some (.lst (N.map .str)):=λg=>jB E g;obtain⟨ts,tl,J,L⟩:=Fq (S:=B++.dct kvs::t) (q:=p) (N:=N) (c:=c) (k:=(j:Int)) (sh:=sh) (w _) (by omega) (by omega);have x:=kQ (ts:=N) (k:=(j:Int)) (by omega) (by omega);rw[Vn] at x;have f:kvs.length < SZ:=by rw[u.length];unfold SZ;omega
 by_cases n:0 < c / 64 % 9\/sh=2
 ·refine⟨some (.int c),B++.dct (jA (.str (N.getD j [])) (.ref (B.length+(t.length+1))) kvs)::(t++[.lst (ts.map D.str)]),?_,_,yN (N.getD j []) ts nd,_,rfl,?_,V4 e,qD Fi (by omega),u6 ok ⟨kI G,(by show ts.length <= 4;omega),J⟩⟩
  ·have Q:∀ (a b:M.RS),(if 0 < c / 64 % 9 then a else if sh=2 then a else b)=a:=λa b=>by
    rcases n with h | h
    ·rw[if_pos h]
    ·rw[if_pos h];split<;>rfl
   have l:JE [.int c,.int j,.int sh,.ref p] (B++.dct kvs::t)=.ok (.ref (B.length+(t.length+1))) (B++.dct kvs::(t++[.lst (ts.map D.str)])):=by rw[L];simp
   have h6:(5:Int)+1+(j:Int) % 12=6+(j:Int) % 12:=by omega
   by_cases m:0 < c / 64 % 9
   ·simp[v,qA,d,m,l,w,x,z6,f]
   ·have y:sh=2:=by rcases n with h | h;exact absurd h m;exact h
    subst y;simp[v,qA,d,m,l,w,x,z6,f]
  ·have kp:j9 (B++.dct kvs::t) (B++.dct (jA (.str (N.getD j [])) (.ref (B.length+(t.length+1))) kvs)::(t++[.lst (ts.map D.str)])):=by
    have U:=j9.set (s:=B++.dct kvs::t) (i:=B.length) (o:=.dct kvs) (o':=.dct (jA (.str (N.getD j [])) (.ref (B.length+(t.length+1))) kvs)) (by simp) (λ_ z=>nomatch z);have Y:=U.trans (j9.app _ [.lst (ts.map D.str)]);simpa using Y
   refine (u.mono kp).put ?_;rw[jP (by omega)];simp[show B.length+(t.length+1) - B.length=t.length+1 by omega]
 ·have m:¬ 0 < c / 64 % 9:=λz=>n (.inl z);have y:¬ sh=2:=λz=>n (.inr z);exact⟨some (.int c),_,by simp[v,qA,d,m,y],kvs,nd,t,rfl,u,e,by omega,ok⟩
theorem gx {ns:List Int}{N:List T} (J:0 < N.length) (h:N.length <= 60) {B:M.S}{p:Nat} (n:B[p]? = some (.lst (N.map .str))) :
  ∃ kvs nd t,vN [.ro (ns.map .int),.int 5,.ref p] B=.ok (.ref B.length) (B++.dct kvs::t)/\DR (B++.dct kvs::t) kvs nd/\(zZ nd).Nodup/\nd.length <= 60/\OkB 4 N nd:=by
 have u:=λs=>kX ns 5 s (by decide);generalize i:j7 ns 5 % 4=sh at *;obtain⟨v,o,w,⟨v5,v6,c⟩,kvs,nd,t,es,x,l,nl,ok⟩:=QS (g:=[]) (f:=jO (zY 5) aV)
  (λj σ s=>(∃ v5 v6:Option D,σ=[some (.ro (ns.map .int)),some (.int 5),some (.ref p),some (.int sh),some (.ref B.length),v5,v6])/\NdI B N j s) (j5 0 (N.length:Int)) 0 [some (.ro (ns.map .int)),some (.int 5),some (.ref p),some (.int sh),some (.ref B.length),none,none] (B++[.dct []]) ⟨⟨none,none,rfl⟩,[],[],[],rfl,trivial,Z1,zd _,λq y=>by cases y⟩ λj d hd σ s ⟨⟨v5,v6,c⟩,I⟩=>by
   obtain⟨rfl,L⟩:=Vp hd;subst c;rw[ja] at I ⊢;obtain⟨z,o,e,A⟩:=fv (ns:=ns) (sh:=sh) h n (by omega) v5 v6 I;exact⟨_,o,e,rfl,⟨_,_,rfl⟩,A⟩
 rw[eB,ja] at nl;subst c;subst es;refine⟨kvs,nd,t,?_,x,l,by omega,ok⟩;have C:(N.length:Int).natAbs < 4611686018427387904:=by omega
 have E:(B++[O.dct []])[p]? = some (.lst (N.map .str)):=jB n _;have G:∀ s,zW [] s=true:=λ_=>rfl;have m:∀ r,(zK kB (zK xZ r)) [some (.ro (ns.map .int)),some (.int 5),some (.ref p),none,none,none,none] B=r [some (.ro (ns.map .int)),some (.int 5),some (.ref p),some (.int sh),some (.ref B.length),none,none] (B++[.dct []]):=λr=>by
  simp[kB,xZ,u,i]
 have H:xB [some (.ro (ns.map .int)),some (.int 5),some (.ref p),some (.int sh),some (.ref B.length),none,none] (B++[.dct []])=.nx [some (.ro (ns.map .int)),some (.int 5),some (.ref p),some (.int sh),some (.ref B.length),v5,v6] (B++.dct kvs::t):=by
  simp only[xB,jo,q7,zM,zD,zF,zA,zk,zg,R.bind_ok,qJ,E,z9,C,if_true,R.stm_ok,G];exact w
 show ((zK kB (zK xZ (zK xB X9))) [some (.ro (ns.map .int)),some (.int 5),some (.ref p),none,none,none,none] B).out=_;rw[m];show ((xB _ _).then _).out=_;rw[H];simp[X9]
noncomputable def XZ:SM :=
  (zK (zU 1 qY)
  (zK (Qc (zA 0) (Qh (yV (zY 2) (yV (zY 3) Qx)))
  (jE (zA 1) (zA 2) (zM y1 (zD (zA 3) zF))))
  (jM (zA 1))))
noncomputable def BW:F:=fn 4 XZ
noncomputable abbrev JP:F:=BW
theorem vz {S:M.S}{p r:Nat}{o u:O}{xs:List D} (c:S[p]? = some o) (no:∀ xs,o≠.lst xs) (e:S[r]? = some (.lst xs)):(S.set p u)[r]? = some (.lst xs):=by
 rw[yY (λz=>by subst z;rw[c] at e;cases e;exact no xs rfl)];exact e
theorem F6 {S:M.S}{p:Nat}{o u:O} (c:S[p]? = some o):(S.set p u).set p o=S:=by
 rw[dJ];obtain⟨h,e⟩:=List.getElem?_eq_some_iff.mp c;rw[<- e,List.set_getElem_self]
theorem XD {S g:M.S}{p:Nat}{o o':O} (c:S[p]? = some o):(S++g).set p o'=S.set p o'++g:=by
 rw[List.set_append_left _ _ (List.getElem?_eq_some_iff.mp c).1]
theorem ka {S:M.S}{p:Nat}{o u:O} (c:S[p]? = some o):(S.set p u)[p]? = some u:=by
 rw[Qq (List.getElem?_eq_some_iff.mp c).1]
theorem Js {S g:M.S}{p:Nat}{kvs:List (D×D)} (c:S[p]? = some (.dct kvs)) (σ:St):thaw p kvs (.nx σ (S.set p (.fdc kvs)++g))=.nx σ (S++g):=by
 have d:(S.set p (.fdc kvs)++g)[p]? = some (.fdc kvs):=jB (ka c) g;have e:(S.set p (.fdc kvs)++g).set p (.dct kvs)=S++g:=by rw[XD (ka c),F6 c]
 simp only[thaw,VQ,d,e,if_true]
theorem jm {S g:M.S}{o:O}:(S++o::g)[S.length]? = some o:=by rw[jP (zd _),JN];rfl
theorem kH {S g:M.S}{o o':O}:(S++o::g).set S.length o'=S++o'::g:=by rw[Vy _ _ (zd _),JN];rfl
noncomputable abbrev WB:SM:=jE (zA 1) (zA 2) (zM y1 (zD (zA 3) zF))
noncomputable abbrev UJ:GM:=Qh (yV (zY 2) (yV (zY 3) Qx))
theorem aK {S:M.S}{p:Nat}{kvs:List (D×D)} (t:S[p]? = some (.dct kvs)) (G:DR S kvs nd) (J:(zZ nd).Nodup) (hl:nd.length <= 1000) :
  ∃ d g,JP [.ref p] S=.ok (.ref S.length) (S++.dct d::g)/\DR (S++.dct d::g) d nd:=by
 obtain⟨S',o⟩:∃ S',S'=S.set p (.fdc kvs):=⟨_,rfl⟩
 have m:S'.length=S.length:=by rw[o,qE]
 have L:∀ (r:Nat) (xs:List D),S[r]? = some (.lst xs)->S'[r]? = some (.lst xs):=λr xs e=>by rw[o];exact vz t (λ_ z=>nomatch z) e
 obtain⟨N,s',Q,⟨v2,v3,n⟩,d,g,es,i⟩:=QS (g:=[]) (f:=jO UJ WB)
  (λj σ s=>(∃ v2 v3:Option D,σ=[some (.ref p),some (.ref S.length),v2,v3])/\∃ d g,s=S'++.dct d::g/\DR s d (nd.take j))
  (kvs.map λp=>D.tup [p.1,p.2]) 0 [some (.ref p),some (.ref S.length),none,none] (S'++[O.dct []]) ⟨⟨none,none,rfl⟩,[],[],rfl,trivial⟩ λj x u σ s ⟨⟨v2,v3,n⟩,d,g,es,i⟩=>by
   rw[ja] at i ⊢;subst n;rw[qG] at u;cases q:kvs[j]? with
   | none=>rw[q] at u;cases u
   | some kv =>
    rw[q] at u;have A:x=.tup [kv.1,kv.2]:=by simpa using u.symm
    subst A;obtain⟨c,r,B,U,Y⟩:=G.at q;subst U;have C:s[r]? = some (.lst (c.2.map .str)):=by rw[es];exact jB (L r _ Y) _
    have hj:j < nd.length:=(List.getElem?_eq_some_iff.mp B).1;have ep:nd[j]=c:=(List.getElem?_eq_some_iff.mp B).2;have v:d.length < SZ:=by rw[i.length,qx];unfold SZ;omega
    have H:s[S.length]? = some (.dct d):=by rw[es,<- m];exact jm
    have w:(s++[O.lst (c.2.map D.str)])[S.length]? = some (.dct d):=jB H _;have y:(s++[O.lst (c.2.map D.str)]).set S.length (.dct (jA (.str c.1) (.ref s.length) d))=S'++.dct (jA (.str c.1) (.ref s.length) d)::(g++[O.lst (c.2.map D.str)]):=by
     rw[es,jg,qz,<- m,kH]
    refine⟨[some (.ref p),some (.ref S.length),some (.str c.1),some (.ref r)],_,?_,rfl,⟨_,_,rfl⟩,jA (.str c.1) (.ref s.length) d,g++[O.lst (c.2.map D.str)],rfl,?_⟩
    ·rw[<- y];simp[C,w,z6,v]
    ·rw[<- y];have kp:j9 s ((s++[O.lst (c.2.map D.str)]).set S.length (.dct (jA (.str c.1) (.ref s.length) d))):=(j9.app s [O.lst (c.2.map D.str)]).trans (j9.set w (λ_ z=>nomatch z));have E:c.1∉zZ (nd.take j):=λz=>by
      have l:=J;rw[<- vk j nd] at l;unfold zZ at l z;rw[XS,xP] at l;refine l.2.2 c.1 z c.1 (List.mem_map.mpr ⟨c,?_,rfl⟩) rfl;rw[X7 hj,ep];exact jI
     have:=(i.mono kp).put (k:=c.1) (r:=s.length) (row:=c.2) ?_
     ·rw[fm E] at this;rw[JI,B];exact this
     ·rw[yY (by
       have:=(List.getElem?_eq_some_iff.mp H).1;omega)]
      simp
 rw[ja,z9,G.length,Jq] at i;subst n;subst es;refine⟨d,g,?_,?_⟩
 ·have g5:(S++[O.dct []])[p]? = some (.dct kvs):=jB t _;have s5:(S++[O.dct []]).set p (.fdc kvs)=S'++[O.dct []]:=by rw[XD t,o]
  have e6:(Qc (zA 0) UJ WB) [some (.ref p),some (.ref S.length),none,none] (S++[O.dct []])=.nx [some (.ref p),some (.ref S.length),v2,v3] (S++.dct d::g):=by
   simp only[Qc,zA,zg,R.stm_ok,g5,s5,Q];rw[o];exact Js t _
  show ((XZ [some (.ref p),none,none,none] S).out)=_;unfold XZ;have e0:(zU 1 qY) [some (.ref p),none,none,none] S=.nx [some (.ref p),some (.ref S.length),none,none] (S++[.dct []]):=by simp
  show ((((zU 1 qY) _ _).then _).out)=_;rw[e0,RS.then_nx];show ((((Qc _ _ _) _ _).then _).out)=_;rw[e6];simp
 ·refine i.mono λr xs e=>?_;by_cases h:r < S.length
  ·rw[qF (by omega)] at e;rw[qF h];by_cases I:r=p
   ·subst I;rw[o,ka t] at e;cases e
   ·rw[o,yY (jr I)] at e;exact e
  ·rw[jP (by omega),m] at e;rw[jP (by omega)];exact e
noncomputable def Xo:SM :=
  (zK (zU 1 qY)
  (zK (Qc (zA 0) (Qh (yV (zY 2) (yV (zY 3) Qx)))
  (zK (jE (zA 1) (zA 2) (eC (.bl true)))
  (jo (iE (zA 3)) (zY 4)
  (jE (zA 1) (zA 4) (eC (.bl true))))))
  (jM (zM kc (zD (zA 1) zF)))))
noncomputable def aj:F:=fn 5 Xo
noncomputable def Ql:F:=chN aj
theorem bx:j3 1 aj Ql:=Kb _
noncomputable abbrev tk (x:T):D×D:=(.str x,.bl true)
noncomputable def jj (y:T) (ks:List T):List T:=if y∈ks then ks else ks++[y]
noncomputable def yP (ks ys:List T):List T:=ys.foldl (λa y=>jj y a) ks
theorem K9 (y:T) (ks:List T):jA (.str y) (.bl true) (ks.map tk)=(jj y ks).map tk:=by
 unfold jA jj;have e:((ks.map tk).any λp=>decide (p.1=.str y))=decide (y∈ks):=by
  rw[D0]
  induction ks with
  | nil=>rfl
  | cons k ks c =>
   rw[yp,c];by_cases h:k=y<;>simp[h,eq_comm]
 rw[e];by_cases h:y∈ks
 ·rw[if_pos h,if_pos (decide_eq_true h),yj];refine Zv λx d=>?_;simp only[VJ];split<;>rfl
 ·rw[if_neg h,if_neg (by simp[h])];simp
theorem Zo {x y:T}{ks:List T}:x∈jj y ks↔x∈ks\/x=y:=by
 unfold jj;split
 ·rename_i h;constructor
  ·exact .inl
  ·rintro (c | rfl)
   ·exact c
   ·exact h
 ·simp
theorem Jx {y:T}{ks:List T} (h:ks.Nodup):(jj y ks).Nodup:=by
 unfold jj;split
 ·exact h
 ·rename_i q;rw[xP];exact⟨h,by simp,λa ha b c z=>by simp at c;subst c;subst z;exact q ha⟩
theorem kG {x:T}:∀ {ys ks:List T},x∈yP ks ys↔x∈ks\/x∈ys
 | [],ks=>by simp[yP]
 | y::ys,ks=>by
  show x∈yP (jj y ks) ys↔_;rw[kG,Zo,EV,or_assoc]
theorem KC:∀ {ys ks:List T},ks.Nodup->(yP ks ys).Nodup
 | [],_,h=>h
 | y::ys,ks,h=>KC (ys:=ys) (Jx h)
theorem yx:∀ {xs N:List T},xs.Nodup->(∀ x∈xs,x∈N)->xs.length <= N.length
 | [],_,_,_=>by simp
 | x::xs,N,h,m=>by
  rw[Jt] at h;have c:=m x jI;have:xs.length <= (N.erase x).length:=yx h.2 λy d=>by
   refine (List.mem_erase_of_ne λz=>?_).mpr (m y (jV _ d));subst z;exact h.1 d
  rw[List.length_erase_of_mem c] at this;have:=List.length_pos_of_mem c;simp only[jU];omega
theorem Br (ks:List T):j2 ((ks.map tk).map (·.1))=some ks:=by
 rw[yj];exact YJ ks
abbrev NLt (a b:T):Prop:=¬ b < a
theorem El {a b c:T} (d:¬ b < a) (e:¬ c < b):¬ c < a:=by
 rw[UG] at d e ⊢;exact dE d e
theorem Y8 (x:T):∀ ts:List T,(qI.insT' x ts).Perm (x::ts)
 | []=>.refl _
 | y::r=>by
  unfold qI.insT';split
  ·exact ((Y8 x r).cons y).trans (.swap x y r)
  ·exact .refl _
theorem XB:∀ ts:List T,(qI ts).Perm ts
 | []=>.refl _
 | x::r=>(Y8 x _).trans ((XB r).cons x)
theorem Aw (x:T):∀ ts:List T,ts.Pairwise NLt->(qI.insT' x ts).Pairwise NLt
 | [],_=>by unfold qI.insT';simp
 | y::r,h=>by
  rw[xv] at h;unfold qI.insT';split
  ·rename_i d;rw[xv];refine⟨λb c=>?_,Aw x r h.2⟩;rcases List.mem_cons.mp ((Y8 x r).mem_iff.mp c) with rfl | c
   ·exact λz=>bY _ (gg z d)
   ·exact h.1 b c
  ·rename_i d;rw[xv];refine⟨λb c=>?_,List.pairwise_cons.mpr h⟩;rcases List.mem_cons.mp c with rfl | c
   ·exact d
   ·exact El d (h.1 b c)
theorem Vl:∀ ts:List T,(qI ts).Pairwise NLt
 | []=>.nil
 | x::r=>Aw x _ (Vl r)
theorem AY {ts:List T} (h:ts.Nodup):(qI ts).Nodup:=(XB ts).nodup_iff.mpr h
def inV (nd:List (T×List T)) (x:T):Prop:=x∈zZ nd\/∃ q∈nd,x∈q.2
theorem BU {nd:List (T×List T)}{e:T×List T}:inV (nd++[e]) x↔(inV nd x\/x=e.1)\/x∈e.2:=by
 unfold inV zZ;rw[XS,Uc];constructor
 ·rintro ((h | h) | ⟨q,c,d⟩)
  ·exact .inl (.inl (.inl h))
  ·exact .inl (.inr (by simpa using h))
  ·rcases List.mem_append.mp c with c | c
   ·exact .inl (.inl (.inr ⟨q,c,d⟩))
   ·rw[List.mem_singleton.mp c] at d;exact .inr d
 ·rintro (((h | ⟨q,c,d⟩) | h) | h)
  ·exact .inl (.inl h)
  ·exact .inr ⟨q,Zg _ c,d⟩
  ·exact .inl (.inr (by simp[h]))
  ·exact .inr ⟨e,qw _ (by simp),h⟩
theorem WL {ks:List T} (h:ks.length <= 1000) (s:M.S):K4 ((ks.map tk).map (·.1)) s=alloc (.lst ((qI ks).map .str)) s:=by
 unfold K4;rw[Br];dsimp only;rw[if_pos (by omega)]
theorem YA {S':M.S}{σ:St}{a i:Nat}{N:List T} (p:N.length <= 170) (ha:σ[a]? = some (some (.ref S'.length))) (c:a≠i) (hi:i < σ.length) (j:∀ g,zW G (S'++g)=true) :
  ∀ (ys ks:List T) (v:Option D),ks.Nodup->(∀ x∈ks,x∈N)->(∀ y∈ys,y∈N)->∃ d,jb G (jO (zY i) (jE (zA a) (zA i) (eC (.bl true)))) (ys.map .str) (σ.set i v) (S'++[.dct (ks.map tk)])=.nx (σ.set i d) (S'++[.dct ((yP ks ys).map tk)])
 | [],ks,v,_,_,_=>⟨v,rfl⟩
 | y::ys,ks,v,l,m,n=>by
  have q:(ks.map tk).length < SZ:=by rw[z9];have:=yx l m;unfold SZ;omega
  have r:∀ o,(S'++[o])[S'.length]? = some o:=λo=>jm;have s1:∀ o o',(S'++[o]).set S'.length o'=S'++[o']:=λo o'=>kH;have e:jO (zY i) (jE (zA a) (zA i) (eC (.bl true))) (.str y) (σ.set i v) (S'++[.dct (ks.map tk)])=.nx (σ.set i (some (.str y))) (S'++[.dct ((jj y ks).map tk)]):=by
   have s:(σ.set i (some (.str y)))[a]? = some (some (.ref S'.length)):=by rw[yY (jr c)];exact ha
   have t:(σ.set i (some (D.str y)))[i]? = some (some (.str y)):=Qq hi;rw[<- K9];simp only[jO,zY,dJ,jE,eC,zA,R.stm_ok,s,t,qu,r,q,z6,decide_true,ya,if_true,s1]
  obtain⟨d,u⟩:=YA p ha c hi j ys (jj y ks) (some (.str y)) (Jx l) (λx f=>by
   rcases Zo.mp f with h | h
   ·exact m x h
   ·rw[h];exact n y jI) λx f=>n x (jV _ f)
  refine⟨d,?_⟩;rw[jF,jb,e];dsimp only;rw[if_pos (j _),u];rfl
noncomputable abbrev w8:GM:=Qh (yV (zY 2) (yV (zY 3) Qx))
noncomputable abbrev Wt:SM:=(zK (jE (zA 1) (zA 2) (eC (.bl true)))
  (jo (iE (zA 3)) (zY 4)
  (jE (zA 1) (zA 4) (eC (.bl true)))))
theorem bB {S:M.S}{p:Nat}{kvs:List (D×D)} (v:S[p]? = some (.dct kvs)) (H:DR S kvs nd) (ok:OkN N nd) (Q:N.length <= 170) :
  ∃ V:List T,V.Pairwise NLt/\V.Nodup/\(∀ x,x∈V↔inV nd x)/\Ql [.ref p] S=alloc (.lst (V.map .str)) S:=by
 obtain⟨S',w⟩:∃ S',S'=S.set p (.fdc kvs):=⟨_,rfl⟩
 have A:S'.length=S.length:=by rw[w,qE]
 have U:∀ (r:Nat) (xs:List D),S[r]? = some (.lst xs)->S'[r]? = some (.lst xs):=λr xs e=>by rw[w];exact vz v (λ_ z=>nomatch z) e
 obtain⟨Y,s',I,⟨v2,v3,v4,l⟩,ks,es,t,m⟩:=QS (g:=[]) (f:=jO w8 Wt)
  (λj σ s=>(∃ v2 v3 v4:Option D,σ=[some (.ref p),some (.ref S'.length),v2,v3,v4])/\∃ ks:List T,s=S'++[.dct (ks.map tk)]/\ks.Nodup/\∀ x,x∈ks↔inV (nd.take j) x)
  (kvs.map λp=>D.tup [p.1,p.2]) 0 [some (.ref p),some (.ref S'.length),none,none,none] (S'++[O.dct []]) ⟨⟨none,none,none,rfl⟩,[],rfl,Z1,λx=>by simp[inV,zZ]⟩ λj x d σ s ⟨⟨v2,v3,v4,l⟩,ks,es,t,m⟩=>by
   rw[ja] at m ⊢;subst l;subst es;rw[qG] at d;cases q:kvs[j]? with
   | none=>rw[q] at d;cases d
   | some kv =>
    rw[q] at d;have B:x=.tup [kv.1,kv.2]:=by simpa using d.symm
    subst B;obtain⟨c,r,J,e2,e3⟩:=H.at q;subst e2;have u:c∈nd:=yn J;obtain⟨o1,o2,o3⟩:=ok c u;have y:∀ x∈ks,x∈N:=λx d=>by
     rcases (m x).mp d with h | ⟨q,n,C⟩
     ·unfold zZ at h;obtain⟨q,n,rfl⟩:=List.mem_map.mp h;exact (ok q (uM n)).1
     ·exact (ok q (uM n)).2.2 x C
    have L:(ks.map tk).length < SZ:=by rw[z9];have:=yx t y;unfold SZ;omega
    have g1:∀ o,(S'++[o])[S'.length]? = some o:=λo=>jm;have s1:∀ o o',(S'++[o]).set S'.length o'=S'++[o']:=λo o'=>kH;have E:∀ g,(S'++g)[r]? = some (.lst (c.2.map .str)):=λg=>jB (U r _ e3) _;obtain⟨v',el⟩:=YA (S':=S') (σ:=[some (.ref p),some (.ref S'.length),some (.str c.1),some (.ref r),v4]) (a:=1) (i:=4) Q rfl (by decide) (by simp) (G:=[(r,.lst (c.2.map .str))]) (λg=>by simp[zW,E]) c.2 (jj c.1 ks) v4 (Jx t) (λx d=>by
     rcases Zo.mp d with h | h
     ·exact y x h
     ·rw[h];exact o1) o3
    refine⟨[some (.ref p),some (.ref S'.length),some (.str c.1),some (.ref r),v'],S'++[.dct ((yP (jj c.1 ks) c.2).map tk)],?_,rfl,⟨_,_,_,rfl⟩,_,rfl,KC (Jx t),λx=>?_⟩
    ·have a1:(jE (zA 1) (zA 2) (eC (.bl true))) [some (.ref p),some (.ref S'.length),some (.str c.1),some (.ref r),v4] (S'++[.dct (ks.map tk)])=.nx [some (.ref p),some (.ref S'.length),some (.str c.1),some (.ref r),v4] (S'++[.dct ((jj c.1 ks).map tk)]):=by
      rw[<- K9];simp only[jE,eC,zA,R.stm_ok,zk,zg,qu,g1,L,z6,decide_true,ya,if_true,s1]
     show ((jE (zA 1) (zA 2) (eC (.bl true))) [some (.ref p),some (.ref S'.length),some (.str c.1),some (.ref r),v4] (S'++[.dct (ks.map tk)])).then _=_;rw[a1,RS.then_nx];have hg:∀ g,zW [(r,O.lst (c.2.map .str))] (S'++g)=true:=λg=>by simp[zW,E]
     simp only[jo,iE,zA,zk,zg,R.bind_ok,itD,E,R.stm_ok,hg,if_true];exact el
    ·rw[kG,Zo,m x,JI,J,Y1,BU]
 rw[ja,z9,H.length,Jq] at m;subst l;subst es;have y:∀ x∈ks,x∈N:=λx d=>by
  rcases (m x).mp d with h | ⟨q,n,C⟩
  ·unfold zZ at h;obtain⟨q,n,rfl⟩:=List.mem_map.mp h;exact (ok q n).1
  ·exact (ok q n).2.2 x C
 have L:=yx t y;refine⟨qI ks,Vl ks,AY t,λx=>by rw[(XB ks).mem_iff];exact m x,?_⟩;refine Kh (g:=[.dct (ks.map tk),.lst ((qI ks).map .str)]) (j:=S.length+1) ?_ (by rw[jP (by omega),show S.length+1 - S.length=1 by omega];rfl) (by omega) (KJ _ _);have g5:(S++[O.dct []])[p]? = some (.dct kvs):=jB v _;have s5:(S++[O.dct []]).set p (.fdc kvs)=S'++[O.dct []]:=by rw[XD v,w]
 have e6:(Qc (zA 0) w8 Wt) [some (.ref p),some (.ref S.length),none,none,none] (S++[O.dct []])=.nx [some (.ref p),some (.ref S.length),v2,v3,v4] (S++[.dct (ks.map tk)]):=by
  rw[A] at I;simp only[Qc,zA,zg,R.stm_ok,g5,s5,I];rw[w];exact Js v _
 show ((Xo [some (.ref p),none,none,none,none] S).out)=_;unfold Xo;have e0:(zU 1 qY) [some (.ref p),none,none,none,none] S=.nx [some (.ref p),some (.ref S.length),none,none,none] (S++[.dct []]):=by simp
 show ((((zU 1 qY) _ _).then _).out)=_;rw[e0,RS.then_nx];show ((((Qc _ _ _) _ _).then _).out)=_;rw[e6,RS.then_nx];have g7:(S++[O.dct (ks.map tk)])[S.length]? = some (.dct (ks.map tk)):=jm;simp only[jM,zM,zD,zF,zA,zk,zg,R.bind_ok,kc,g7,WL (show ks.length <= 1000 by omega),alloc,R.stm_ok,RS.out_rt];simp
noncomputable def Ju:SM :=
  (ZE 3 (zU 1 (qi 1 (q7 (eC (.int 101))) (zY 5) je (eOp z8 (eC (.str [110])) (zM XE (zD (eOp z5 (eOp ZO (zA 5) (eC (.int 7919))) (eC (.int 10007))) zF))))))
noncomputable def k7:SM :=
  (zU 2 qY)
noncomputable def kE:SM :=
  (jo (q7 (eC (.int 101))) (zY 3)
  (zK (zU 4 (eOp z5 (eOp z8 (eOp ZO (zA 3) (eOp z8 (eC (.int 1)) (eOp z5 (zA 0) (eC (.int 97))))) (eOp yU (zA 0) (eC (.int 97)))) (eC (.int 101))))
  (jE (zA 2) (eOp ze (zA 1) (zA 4)) (eSl (zA 1) (yr (zM xn (zD (eC (.int 0)) (zD (eOp k5 (zA 4) (eC (.int 1))) zF)))) (yr (zA 4))))))
noncomputable def JM:SM :=
  (sIf (zo cEq (eOp z5 (eOp yU (zA 0) (eC (.int 97))) (eC (.int 5))) (eC (.int 1)))
  (jE (zA 2) (eOp ze (zA 1) (eOp z5 (zA 0) (eC (.int 90)))) (j8 (zD (eOp ze (zA 1) (eC (.int 100))) zF)))
  jL)
noncomputable def Kj:SM :=
  (jM (zA 2))
noncomputable def Vx:SM:=(zK Ju (zK k7 (zK kE (zK JM Kj))))
noncomputable def E7:F:=fn 5 Vx
noncomputable abbrev vQ:F:=E7
noncomputable def chT (k:Nat):T:=110::x8 ((k * 7919 % 10007:Nat):Int)
theorem EZ:∀ k,k < 101->(x8 ((k * 7919 % 10007:Nat):Int)).length <= 10:=by decide +kernel
noncomputable abbrev nmC:List T:=(qQ 101).map chT
theorem Vw {a:Nat} (ha:a < 101):chT a∈nmC:=List.mem_map.mpr ⟨a,List.mem_range.mpr ha,rfl⟩
theorem Va {a:Nat} (ha:a < 101):atI (nmC.map D.str) (a:Int)=some (.str (chT a)):=by
 rw[VC (by omega) (by simp;omega) .non];simp[yC,XQ ha]
noncomputable def prT (a:Nat):List T:=cut nmC (some (if (a:Int) - 1 > 0 then (a:Int) - 1 else 0)) (some (a:Int))
theorem gN (a:Nat) (ha:a < 101):(prT a).length <= 1:=by
 have l:nmC.length=101:=by simp
 have c:sIx nmC.length 0 (some (if (a:Int) - 1 > 0 then (a:Int) - 1 else 0))=a - 1:=by
  rw[l];unfold sIx;dsimp only;by_cases h:(a:Int) - 1 > 0
  ·rw[if_pos h,if_neg (by omega)];omega
  ·rw[if_neg h,if_neg (by omega)];omega
 have d:sIx nmC.length nmC.length (some (a:Int))=a:=by
  rw[l];unfold sIx;dsimp only;rw[if_neg (by omega)];omega
 unfold prT cut;rw[c,d,qx];omega
def ChI (B s:M.S):Prop:=∃ kvs nd t,s=B++.dct kvs::t/\DR s kvs nd/\(zZ nd).Nodup/\OkB 4 nmC nd
theorem bD (I:ChI B s) {k:T} (m:k∈nmC) {row:List T} (n:row.length <= 4) (hm:∀ x∈row,x∈nmC):∃ kvs,(∀ g,(s++g)[B.length]? = some (.dct kvs))/\kvs.length < SZ/\ChI B ((s++[O.lst (row.map .str)]).set B.length (.dct (jA (.str k) (.ref s.length) kvs))):=by
 obtain⟨kvs,nd,t,es,f,h,ok⟩:=I;have c:s[B.length]? = some (.dct kvs):=by rw[es];exact jm
 have d:(s++[O.lst (row.map D.str)])[B.length]? = some (.dct kvs):=jB c _;have e:(s++[O.lst (row.map D.str)]).set B.length (.dct (jA (.str k) (.ref s.length) kvs))=B++.dct (jA (.str k) (.ref s.length) kvs)::(t++[O.lst (row.map D.str)]):=by
  rw[es,jg,qz,kH]
 refine⟨kvs,λg=>jB c g,?_,jA (.str k) (.ref s.length) kvs,yN k row nd,t++[O.lst (row.map D.str)],e,?_,V4 h,u6 ok ⟨m,n,hm⟩⟩
 ·rw[f.length];have i:nd.length=(zZ nd).length:=by unfold zZ;simp
  have:=yx (N:=nmC) h λx j=>by
   unfold zZ at j;obtain⟨q,i,rfl⟩:=List.mem_map.mp j;exact (ok q i).1
  have l:nmC.length=101:=by simp
  unfold SZ;omega
 ·have kp:j9 s ((s++[O.lst (row.map D.str)]).set B.length (.dct (jA (.str k) (.ref s.length) kvs))):=(j9.app s _).trans (j9.set d (λ_ z=>nomatch z));refine (f.mono kp).put ?_;rw[yY (by
   have:=(List.getElem?_eq_some_iff.mp c).1;omega)]
  exact jm
noncomputable abbrev Yl:SM:=(zK (zU 4 (eOp z5 (eOp z8 (eOp ZO (zA 3) (eOp z8 (eC (.int 1)) (eOp z5 (zA 0) (eC (.int 97))))) (eOp yU (zA 0) (eC (.int 97)))) (eC (.int 101))))
  (jE (zA 2) (eOp ze (zA 1) (zA 4)) (eSl (zA 1) (yr (zM xn (zD (eC (.int 0)) (zD (eOp k5 (zA 4) (eC (.int 1))) zF)))) (yr (zA 4)))))
theorem fU {c:Int}{B:M.S}{m j:Nat} (hm:B[m]? = some (.lst (nmC.map .str))) (z:j < 101) (I:ChI B s) {v4:Option D} :
  ∃ (h:Option D) (i:M.S),Yl [some (.int c),some (.ref m),some (.ref B.length),some (.int j),v4] s=.nx [some (.int c),some (.ref m),some (.ref B.length),some (.int j),h] i/\ChI B i:=by
 obtain⟨a,la,n⟩:∃ a:Nat,a < 101/\((j:Int) * (1+c % 97)+c / 97) % 101=a:=⟨(((j:Int) * (1+c % 97)+c / 97) % 101).toNat,by omega,by omega⟩
 obtain⟨kvs,o,d,p⟩:=bD I (Vw la) (row:=prT a) (by have:=gN a la;omega) λx q=>X5 q;refine⟨some (.int a),_,?_,p⟩;have l:∀ g,(s++g)[m]? = some (.lst (nmC.map .str)):=λg=>by
  obtain⟨_,_,t,es,_⟩:=I;rw[es,jg];exact jB hm _
 have e:=l [];rw[ZS] at e;have f:cut (nmC.map D.str) (some (if (a:Int) - 1 > 0 then (a:Int) - 1 else 0)) (some (a:Int))=(prT a).map D.str:=Vf _ _ _ _;have r:(0:Int) < 97:=by decide
 have u:(97:Int).natAbs < 1073741824:=by decide
 have v:(0:Int) < 101:=by decide
 have w:(qg (j:Int) || qg (1+c % 97))=true:=by
  have:qg (j:Int)=true:=decide_eq_true (by omega);rw[this];rfl
 have y:(zU 4 (eOp z5 (eOp z8 (eOp ZO (zA 3) (eOp z8 (eC (.int 1)) (eOp z5 (zA 0) (eC (.int 97))))) (eOp yU (zA 0) (eC (.int 97)))) (eC (.int 101)))) [some (.int c),some (.ref m),some (.ref B.length),some (.int j),v4] s=.nx [some (.int c),some (.ref m),some (.ref B.length),some (.int j),some (.int a)] s:=by
  simp only[zU,eOp,zA,eC,zk,zg,R.bind_ok,yU,r,u,and_self,if_true,z5,z8,ZO,w,v,n,R.stm_ok,qC,qH]
 show ((zU 4 _) _ _).then _=_;rw[y,RS.then_nx];simp only[jE,eSl,zA,zk,zg,R.bind_ok,yr,zM,zD,zF,eC,eOp,k5,xn,slD,z7,e,f,alloc,R.stm_ok,ze,l,Va la,qu,o,z6,d,decide_true,ya,if_true]
theorem Ge (c:Int) (S:M.S):∃ kvs nd t,vQ [.int c] S=.ok (.ref (S.length+1)) (S++.lst (nmC.map .str)::.dct kvs::t)/\DR (S++.lst (nmC.map .str)::.dct kvs::t) kvs nd/\(zZ nd).Nodup/\OkB 4 nmC nd:=by
 obtain⟨B,u⟩:∃ B,B=S++[O.lst (nmC.map .str)]:=⟨_,rfl⟩
 have H:B.length=S.length+1:=by rw[u];simp
 have A:B[S.length]? = some (.lst (nmC.map .str)):=by rw[u];exact jm
 have v:(101:Int).natAbs < 4611686018427387904:=by decide
 have w:∀ s,zW [] s=true:=λ_=>rfl;obtain⟨J,m,L,⟨v3,v4,i⟩,I⟩:=QS (g:=[]) (f:=jO (zY 3) Yl)
  (λj σ s=>(∃ v3 v4:Option D,σ=[some (.int c),some (.ref S.length),some (.ref B.length),v3,v4])/\ChI B s)
  (j5 0 101) 0 [some (.int c),some (.ref S.length),some (.ref B.length),none,none] (B++[.dct []]) ⟨⟨none,none,rfl⟩,[],[],[],rfl,trivial,Z1,λq h=>by cases h⟩ λj d hd σ s ⟨⟨v3,v4,i⟩,I⟩=>by
   obtain⟨rfl,v⟩:=Vp hd;subst i;obtain⟨N,m,e,y⟩:=fU (c:=c) A (j:=j) (by omega) I (v4:=v4);exact⟨_,_,e,rfl,⟨_,_,rfl⟩,y⟩
 subst i;have t1:Ju [some (.int c),none,none,none,none] S=.nx [some (.int c),some (.ref S.length),none,none,none] B:=by
  have C:qT 1 (q7 (eC (.int 101))) (zY 5) je (eOp z8 (eC (.str [110])) (zM XE (zD (eOp z5 (eOp ZO (zA 5) (eC (.int 7919))) (eC (.int 10007))) zF))) [some (.int c),none,none,none,none] S=.ok ((qQ ((101:Int) - 0).toNat).map λk=>.str (chT k)) S:=by
   refine VN (λk=>.str (chT k)) (by simp only[q7,eC,R.bind_ok,v,if_true]) (by unfold SZ;omega) λk hk=>?_;have Q:k < 101:=by omega
   have U:(qg (k:Int) || qg 7919)=true:=by
    have:qg (k:Int)=true:=decide_eq_true (by omega);rw[this];rfl
   have Y:(0:Int) < 10007:=by decide
   have h3:((k:Int) * 7919) % 10007=((k * 7919 % 10007:Nat):Int):=by omega
   have h4:qg ((k * 7919 % 10007:Nat):Int)=true:=decide_eq_true (by omega);have h5:1+(x8 ((k * 7919 % 10007:Nat):Int)).length <= SZ:=by
    have:=EZ k Q;unfold SZ;omega
   simp only[qB,zY,qz,yQ,zq,qC,qH,je,R.bind_ok,if_true,eOp,eC,zM,zD,zF,zA,zk,zg,ZO,Int.zero_add,U,z5,Y,h3,XE,h4,z8,jU,yy,ja,h5,List.singleton_append];rfl
  have en:((qQ ((101:Int) - 0).toNat).map λk=>D.str (chT k))=nmC.map D.str:=by
   rw[show ((101:Int) - 0).toNat=101 by omega,yj];rfl
  rw[en] at C;simp only[Ju,ZE,qC,qH,zU,qi,C,R.bind_ok,alloc,R.stm_ok,J3,u]
 have t2:k7 [some (.int c),some (.ref S.length),none,none,none] B=.nx [some (.int c),some (.ref S.length),some (.ref B.length),none,none] (B++[.dct []]):=rfl;have t3:kE [some (.int c),some (.ref S.length),some (.ref B.length),none,none] (B++[.dct []])=.nx [some (.int c),some (.ref S.length),some (.ref B.length),v3,v4] m:=by
  show (jo (q7 (eC (.int 101))) (zY 3) Yl) _ _=_;simp only[jo,q7,eC,R.bind_ok,v,if_true,R.stm_ok,w];exact L
 have t4:∃ l,JM [some (.int c),some (.ref S.length),some (.ref B.length),v3,v4] m=.nx [some (.int c),some (.ref S.length),some (.ref B.length),v3,v4] l/\ChI B l:=by
  have E:(0:Int) < 97/\(97:Int).natAbs < 1073741824:=by decide
  have G:(0:Int) < 5:=by decide
  have k6:(0:Int) < 90:=by decide
  by_cases h:c / 97 % 5=1
  ·obtain⟨a,la,ea⟩:∃ a:Nat,a < 101/\c % 90=a:=⟨(c % 90).toNat,by omega,by omega⟩
   obtain⟨kvs,gs,n,y⟩:=bD I (Vw la) (row:=[chT 100]) (by simp) λx hx=>by rw[List.mem_singleton.mp hx];exact Vw (by decide)
   have o:∀ g,(m++g)[S.length]? = some (.lst (nmC.map .str)):=λg=>by
    obtain⟨_,_,t,es,_⟩:=I;rw[es,jg];exact jB A _
   have p:=o [];rw[ZS] at p;have r:atI (nmC.map D.str) 100=some (.str (chT 100)):=Va (a:=100) (by decide);have z:([D.str (chT 100)]:List D).length <= SZ:=by unfold SZ;simp
   refine⟨_,?_,y⟩;simp only[JM,sIf,zo,eOp,zA,eC,zk,zg,R.bind_ok,yU,E,and_self,if_true,z5,G,h,cEq,eqD,decide_true,R.stm_ok,jE,j8,zD,zF,ze,p,r,z,alloc,o,k6,ea,Va la,qu,gs,z6,n,ya,jF,Qz]
  ·refine⟨m,?_,I⟩;simp only[JM,sIf,zo,eOp,zA,eC,zk,zg,R.bind_ok,yU,E,and_self,if_true,z5,G,h,cEq,eqD,decide_false,R.stm_ok,jW,if_false,jL]
 obtain⟨l,e4,kvs,nd,t,es,dr,hn,ok⟩:=t4;have e7:B++.dct kvs::t=S++.lst (nmC.map .str)::.dct kvs::t:=by rw[u,jg];rfl
 rw[e7] at es;refine⟨kvs,nd,t,?_,es ▸ dr,hn,ok⟩;show (zK Ju (zK k7 (zK kE (zK JM Kj))) [some (.int c),none,none,none,none] S).out=_;show ((Ju _ _).then _).out=_;rw[t1,RS.then_nx];show ((k7 _ _).then _).out=_;rw[t2,RS.then_nx];show ((kE _ _).then _).out=_;rw[t3,RS.then_nx];show ((JM _ _).then _).out=_;rw[e4,RS.then_nx,es,H];rfl
noncomputable def KG:SM :=
  (zK (zU 1 qY)
  (zK (y9 (zA 0) (zY 2)
  (jo (iE (eOp ze (zA 0) (zA 2))) (zY 3)
  (zK (sIf (zo JV (zA 3) (zA 1))
  (jE (zA 1) (zA 3) qY)
  jL)
  (jE (eOp ze (zA 1) (zA 3)) (zA 2) (eC (.bl true))))))
  (jM (zA 1))))
noncomputable def BL:F:=fn 4 KG
noncomputable abbrev VA:F:=BL
noncomputable def qP:Nat->List T->List (D×D)
 | _,[]=>[]
 | b,y::L=>(.str y,.ref b)::qP (b+1) L
noncomputable abbrev nS (b:Nat) (L:List T) (B:T->List T):M.S:=.dct (qP (b+1) L)::L.map λy=>O.dct ((B y).map tk)
theorem W1:∀ (L:List T) (b:Nat),(qP b L).length=L.length
 | [],_=>rfl
 | _::L,b=>by rw[qP,jU,W1 L,jU]
theorem xk:∀ (L:List T) (b:Nat) (y:T),jD (.str y) (qP b L)=if y∈L then some (.ref (b+L.idxOf y)) else none
 | [],_,_=>rfl
 | z::L,b,y=>by
  have c:=xk L (b+1) y;unfold jD at c ⊢;rw[qP,yz,Gn];by_cases h:y=z
  ·subst h;simp
  ·have d:((D.str y) == D.str z)=false:=by simpa using h
   have e:(z == y)=false:=by simpa using jr h
   rw[d,c,e];by_cases hm:y∈L
   ·rw[if_pos hm,if_pos (jV _ hm)];show some (D.ref _)=some (D.ref _)
    congr 2
    simp;omega
   ·rw[if_neg hm,if_neg (by simp[h,hm])]
theorem AV:∀ (L:List T) (b:Nat) (y:T),qP b (L++[y])=qP b L++[(.str y,.ref (b+L.length))]
 | [],_,_=>rfl
 | z::L,b,y=>by
  rw[qz,qP,AV L,qP,qz,jU,show b+1+L.length=b+(L.length+1) by omega]
theorem AJ:∀ (L:List T) (b:Nat) (y:T),((qP b L).any λp=>decide (p.1=.str y))=decide (y∈L)
 | [],_,_=>rfl
 | z::L,b,y=>by
  rw[qP,yp,AJ L];by_cases h:z=y<;>simp[h,eq_comm]
theorem GA {L:List T}{b:Nat}{y:T} (h:y∉L):jA (.str y) (.ref (b+L.length)) (qP b L)=qP b (L++[y]):=by
 unfold jA;rw[AJ,if_neg (by simp[h]),AV]
theorem wU {d:Type}{f:T->d}{v:d}:∀ {L:List T}{y:T},L.Nodup->y∈L->(L.map f).set (L.idxOf y) v=L.map λz=>if z=y then v else f z
 | [],_,_,h=>by cases h
 | z::L,y,c,h=>by
  rw[Jt] at c;rw[Gn,jF,jF];by_cases e:z=y
  ·subst e;simp only[beq_self_eq_true,cond_true,qH,if_true,List.cons.injEq,true_and];exact Zv λw hw=>by rw[if_neg (λq:w=z=>c.1 (q ▸ hw))]
  ·have g:(z == y)=false:=by simpa using e
   have hm:y∈L:=by rcases List.mem_cons.mp h with h | h;exact absurd h.symm e;exact h
   rw[g,cond_false,qC,if_neg e,wU c.2 hm]
theorem UU {S:M.S}{L:List T}{y:T} (h:y∈L) (g:M.S):(S++(nS S.length L B++g))[S.length+1+L.idxOf y]? = some (.dct ((B y).map tk)):=by
 have hi:=List.idxOf_lt_length_iff.mpr h;rw[jP (by omega),show S.length+1+L.idxOf y - S.length=L.idxOf y+1 by omega,qz,zk,qF (by simpa using hi),qG,ZL hi];simp
theorem FK {S:M.S}{L:List T}{y:T}{v:List T} (c:L.Nodup) (h:y∈L):(S++nS S.length L B).set (S.length+1+L.idxOf y) (.dct (v.map tk))=S++nS S.length L (λz=>if z=y then v else B z):=by
 rw[Vy _ _ (by omega),show S.length+1+L.idxOf y - S.length=L.idxOf y+1 by omega,qC,wU c h]
 congr 2
 exact Zv λz _=>by
  show (if z=y then O.dct (v.map tk) else O.dct ((B z).map tk))=O.dct ((if z=y then v else B z).map tk);by_cases e:z=y
  ·rw[if_pos e,if_pos e]
  ·rw[if_neg e,if_neg e]
noncomputable abbrev KU:SM:=(zK (sIf (zo JV (zA 3) (zA 1))
  (jE (zA 1) (zA 3) qY)
  jL)
  (jE (eOp ze (zA 1) (zA 3)) (zA 2) (eC (.bl true))))
theorem Gc {S:M.S}{L:List T}{B:T->List T}{N:List T} (G:N.length <= 170) {x y:T} (H:x∈N) (I:y∈N) {v0 v3:Option D} (h:L.Nodup) (p:∀ z∈L,z∈N) (q:∀ z,z∉L->B z=[]) (m:∀ z,(B z).Nodup/\∀ w∈B z,w∈N) :
  jO (zY 3) KU (.str y) [v0,some (.ref S.length),some (.str x),v3] (S++nS S.length L B)=.nx [v0,some (.ref S.length),some (.str x),some (.str y)] (S++nS S.length (jj y L) (λz=>if z=y then jj x (B y) else B z)):=by
 have J:=yx h p;have Q:=yx (m y).1 (m y).2;have i:∀ (o:O) (g:M.S),(S++o::g)[S.length]? = some o:=λo g=>jm;have r:∀ (o o':O) (g:M.S),(S++o::g).set S.length o'=S++o'::g:=λo o' g=>kH;have s:(qP (S.length+1) L).length < SZ:=by rw[W1];unfold SZ;omega
 have t:((B y).map tk).length < SZ:=by rw[z9];unfold SZ;omega
 have d:∀ c,c.Nodup->y∈c->(jE (eOp ze (zA 1) (zA 3)) (zA 2) (eC (.bl true))) [v0,some (.ref S.length),some (.str x),some (.str y)] (S++nS S.length c B)=.nx [v0,some (.ref S.length),some (.str x),some (.str y)] (S++nS S.length c (λz=>if z=y then jj x (B y) else B z)):=λc j hm=>by
  have e:jD (.str y) (qP (S.length+1) c)=some (.ref (S.length+1+c.idxOf y)):=by rw[xk,if_pos hm]
  have u:(S++nS S.length c B)[S.length+1+c.idxOf y]? = some (.dct ((B y).map tk)):=by
   have:=UU (S:=S) (B:=B) hm []
   rwa [ZS] at this
  have n:=FK (S:=S) (B:=B) (v:=jj x (B y)) j hm;rw[<- K9] at n;simp only[jE,eC,eOp,zA,R.stm_ok,R.bind_ok,zk,zg,ze,i,z6,if_true,e,qu,u,t,decide_true,ya,n]
 by_cases hm:y∈L
 ·have f:jj y L=L:=by unfold jj;rw[if_pos hm]
  rw[f];have e:jD (.str y) (qP (S.length+1) L)=some (.ref (S.length+1+L.idxOf y)):=by rw[xk,if_pos hm]
  have l:(sIf (zo JV (zA 3) (zA 1)) (jE (zA 1) (zA 3) qY) jL) [v0,some (.ref S.length),some (.str x),some (.str y)] (S++nS S.length L B)=.nx [v0,some (.ref S.length),some (.str x),some (.str y)] (S++nS S.length L B):=by
   simp[i,z6,e]
  show ((sIf (zo JV (zA 3) (zA 1)) (jE (zA 1) (zA 3) qY) jL) [v0,some (.ref S.length),some (.str x),some (.str y)] (S++nS S.length L B)).then _=_;rw[l,RS.then_nx];exact d L h hm
 ·have f:jj y L=L++[y]:=by unfold jj;rw[if_neg hm]
  rw[f];have e:jD (.str y) (qP (S.length+1) L)=none:=by rw[xk,if_neg hm]
  have len:(S++nS S.length L B).length=S.length+1+L.length:=by simp;omega
  have l:(sIf (zo JV (zA 3) (zA 1)) (jE (zA 1) (zA 3) qY) jL) [v0,some (.ref S.length),some (.str x),some (.str y)] (S++nS S.length L B)=.nx [v0,some (.ref S.length),some (.str x),some (.str y)] (S++nS S.length (L++[y]) B):=by
   have A:=GA (L:=L) (b:=S.length+1) hm;have C:S++nS S.length (L++[y]) B=S++.dct (qP (S.length+1) (L++[y]))::(L.map (λy=>O.dct ((B y).map tk))++[.dct []]):=by
    show S++(_::List.map _ (L++[y]))=_;rw[XS,jF,Qz,q y hm];rfl
   have E:(S++nS S.length L B)++[O.dct []]=S++.dct (qP (S.length+1) L)::(L.map (λy=>O.dct ((B y).map tk))++[.dct []]):=by simp
   rw[C,<- A];simp only[sIf,zo,JV,zA,R.bind_ok,zk,zg,inD,i,z6,if_true,e,gy,R.stm_ok,Ey,jE,qY,alloc,len,E,qu,s,decide_true,ya,r]
  show ((sIf (zo JV (zA 3) (zA 1)) (jE (zA 1) (zA 3) qY) jL) [v0,some (.ref S.length),some (.str x),some (.str y)] (S++nS S.length L B)).then _=_;rw[l,RS.then_nx];refine d (L++[y]) ?_ (by simp);rw[<- f];exact Jx h
structure NB (N:List T) (nd:List (T×List T)) (L:List T) (B:T->List T):Prop where
 nl:L.Nodup
 lN:∀ z∈L,z∈N
 out:∀ z,z∉L->B z=[]
 nb:∀ z,(B z).Nodup/\∀ w∈B z,w∈N
 mem:∀ z x,x∈B z ↔ ∃ q∈nd,q.1=x/\z∈q.2
theorem aZ {S:M.S}{N:List T} (r:N.length <= 170) {nd:List (T×List T)}{x:T} (p:x∈N) {v0:Option D} (s:∀ g,zW G (S++g)=true):∀ (ys i:List T) (L:List T) (B:T->List T) (v3:Option D),(∀ y∈ys,y∈N)->NB N (nd++[(x,i)]) L B ->
  ∃ j n o,jb G (jO (zY 3) KU) (ys.map .str) [v0,some (.ref S.length),some (.str x),v3] (S++nS S.length L B)=.nx [v0,some (.ref S.length),some (.str x),j] (S++nS S.length n o)/\NB N (nd++[(x,i++ys)]) n o
 | [],i,L,B,v3,_,h=>⟨v3,L,B,rfl,by rw[ZS];exact h⟩
 | y::ys,i,L,B,v3,t,h=>by
  have l:=t y jI;have e:=Gc (S:=S) (v0:=v0) (v3:=v3) r p l h.nl h.lN h.out h.nb;have h':NB N (nd++[(x,i++[y])]) (jj y L) (λz=>if z=y then jj x (B y) else B z):=by
   refine⟨Jx h.nl,λz hz=>?_,λz hz=>?_,λz=>?_,λz w=>?_⟩
   ·rcases Zo.mp hz with hz | hz
    ·exact h.lN z hz
    ·rw[hz];exact l
   ·have c:z≠y:=λq=>hz (Zo.mpr (.inr q));show (if z=y then jj x (B y) else B z)=[]
    rw[if_neg c];exact h.out z λq=>hz (Zo.mpr (.inl q))
   ·show (if z=y then jj x (B y) else B z).Nodup/\∀ w∈(if z=y then jj x (B y) else B z),w∈N;by_cases e:z=y
    ·rw[if_pos e];refine⟨Jx (h.nb y).1,λw hw=>?_⟩;rcases Zo.mp hw with hw | hw
     ·exact (h.nb y).2 w hw
     ·rw[hw];exact p
    ·rw[if_neg e];exact h.nb z
   ·show w∈(if z=y then jj x (B y) else B z)↔_;have hm:=h.mem z w;constructor
    ·intro hw;by_cases e:z=y
     ·rw[if_pos e] at hw;rcases Zo.mp hw with hw | hw
      ·obtain⟨q,c,d,f⟩:=(h.mem y w).mp hw;rcases List.mem_append.mp c with c | c
       ·exact⟨q,Zg _ c,d,e ▸ f⟩
       ·have m:=List.mem_singleton.mp c;subst m;exact⟨(x,i++[y]),qw _ (by simp),d,by rw[e];simp⟩
      ·exact⟨(x,i++[y]),qw _ (by simp),hw.symm,by rw[e];simp⟩
     ·rw[if_neg e] at hw;obtain⟨q,c,d,f⟩:=hm.mp hw;rcases List.mem_append.mp c with c | c
      ·exact⟨q,Zg _ c,d,f⟩
      ·have m:=List.mem_singleton.mp c;subst m;exact⟨(x,i++[y]),qw _ (by simp),d,Zg _ f⟩
    ·rintro ⟨q,c,d,f⟩
     have old:w∈B z->w∈(if z=y then jj x (B y) else B z):=λhw=>by
      by_cases e:z=y
      ·rw[if_pos e];exact Zo.mpr (.inl (e ▸ hw))
      ·rw[if_neg e];exact hw
     rcases List.mem_append.mp c with c | c
     ·exact old (hm.mpr ⟨q,Zg _ c,d,f⟩)
     ·have m:=List.mem_singleton.mp c;subst m;rcases List.mem_append.mp f with f | f
      ·exact old (hm.mpr ⟨(x,i),qw _ (by simp),d,f⟩)
      ·have e:=List.mem_singleton.mp f;rw[if_pos e];exact Zo.mpr (.inr d.symm)
  obtain⟨j,n,o,u,d⟩:=aZ r p s ys (i++[y]) _ _ (some (.str y)) (λw hw=>t w (jV _ hw)) h';refine⟨j,n,o,?_,by rw[jg] at d;exact d⟩;rw[jF,jb,e];dsimp only;rw[if_pos (s _),u]
theorem NB.nil_row (x:T) (h:NB N nd L B):NB N (nd++[(x,[])]) L B :=
 ⟨h.nl,h.lN,h.out,h.nb,λz w=>by
  rw[h.mem z w];constructor
  ·rintro ⟨q,c,d⟩;exact⟨q,Zg _ c,d⟩
  ·rintro ⟨q,c,d,e⟩
   rcases List.mem_append.mp c with c | c
   ·exact⟨q,c,d,e⟩
   ·rw[List.mem_singleton.mp c] at e;cases e⟩
theorem Dt {S:M.S}{p:Nat}{kvs:List (D×D)} (m:S[p]? = some (.dct kvs)) (E:DR S kvs nd) (Y:(zZ nd).Nodup) (ok:OkN N nd) (hN:N.length <= 170) :
  ∃ L B,VA [.ref p] S=.ok (.ref S.length) (S++nS S.length L B)/\NB N nd L B:=by
 obtain⟨S',n⟩:∃ S',S'=S.set p (.fdc kvs):=⟨_,rfl⟩
 have u:S'.length=S.length:=by rw[n,qE]
 have hf:∀ (r:Nat) (xs:List D),S[r]? = some (.lst xs)->S'[r]? = some (.lst xs):=λr xs e=>by rw[n];exact vz m (λ_ z=>nomatch z) e
 have v:∀ g,(S'++g)[p]? = some (.fdc kvs):=λg=>jB (by rw[n];exact ka m) g;have i:kvs.map (·.1)=nd.map λq=>.str q.1:=E.keys;obtain⟨σ',s',G,⟨v2,v3,l⟩,L,B,es,nb⟩:=QS (g:=[]) (f:=jO (zY 2) (jo (iE (eOp ze (zA 0) (zA 2))) (zY 3) KU))
  (λj σ s=>(∃ v2 v3:Option D,σ=[some (.ref p),some (.ref S'.length),v2,v3])/\∃ L B,s=S'++nS S'.length L B/\NB N (nd.take j) L B)
  (nd.map λq=>D.str q.1) 0 [some (.ref p),some (.ref S'.length),none,none] (S'++[O.dct []]) ⟨⟨none,none,rfl⟩,[],λ_=>[],rfl,Z1,λz h=>(by cases h),λ_ _=>rfl,λ_=>⟨Z1,λw h=>(by cases h)⟩,λz x=>by simp⟩ λj x o σ s ⟨⟨v2,v3,l⟩,L,B,es,nb⟩=>by
   rw[ja] at nb ⊢;subst l;subst es;rw[qG] at o;cases q:nd[j]? with
   | none=>rw[q] at o;cases o
   | some c =>
    rw[q] at o;have y:x=.str c.1:=by simpa using o.symm
    subst y;have d:c∈nd:=yn q;obtain⟨o1,o2,o3⟩:=ok c d;have H:=KH Y d;obtain⟨r,er,e3⟩:∃ r,jD (.str c.1) kvs=some (.ref r)/\S[r]? = some (.lst (c.2.map .str)):=by
     rcases E.get c.1 with ⟨t,_⟩ | ⟨row,r,t,h2,h3⟩
     ·rw[H] at t;cases t
     ·rw[H] at t;cases t;exact⟨r,h2,h3⟩
    have I:∀ g,(S'++g)[r]? = some (.lst (c.2.map .str)):=λg=>jB (hf r _ e3) _;have J:∀ g,zW [(r,O.lst (c.2.map .str))] (S'++g)=true:=λg=>by simp[zW,I]
    obtain⟨A,Q,U,e2,C⟩:=aZ (S:=S') (v0:=some (.ref p)) hN o1 J c.2 [] L B v3 o3 (nb.nil_row c.1);refine⟨[some (.ref p),some (.ref S'.length),some (.str c.1),A],S'++nS S'.length Q U,?_,rfl,⟨_,_,rfl⟩,Q,U,rfl,?_⟩
    ·show (jo (iE (eOp ze (zA 0) (zA 2))) (zY 3) KU) [some (.ref p),some (.ref S'.length),some (.str c.1),v3] (S'++nS S'.length L B)=_;simp only[jo,iE,eOp,zA,zk,zg,R.bind_ok,ze,v,z6,if_true,er,itD,I,R.stm_ok,J];exact e2
    ·rw[JI,q,Y1];exact C
 rw[ja,z9,Jq] at nb;subst l;subst es;refine⟨L,B,?_,nb⟩;have g5:(S++[O.dct []])[p]? = some (.dct kvs):=jB m _;have s5:(S++[O.dct []]).set p (.fdc kvs)=S'++[O.dct []]:=by rw[XD m,n]
 have e6:(y9 (zA 0) (zY 2) (jo (iE (eOp ze (zA 0) (zA 2))) (zY 3) KU)) [some (.ref p),some (.ref S.length),none,none] (S++[O.dct []])=.nx [some (.ref p),some (.ref S.length),v2,v3] (S++nS S.length L B):=by
  rw[u] at G;simp only[y9,zA,zg,R.stm_ok,g5,s5,i,G];rw[n];exact Js m _
 show ((KG [some (.ref p),none,none,none] S).out)=_;unfold KG;have e0:(zU 1 qY) [some (.ref p),none,none,none] S=.nx [some (.ref p),some (.ref S.length),none,none] (S++[.dct []]):=by simp
 show ((((zU 1 qY) _ _).then _).out)=_;rw[e0,RS.then_nx];show ((((y9 _ _ _) _ _).then _).out)=_;rw[e6];simp
noncomputable def Xy:SM :=
  (zK (ZE 2 (JH 0 (zU 1 (zM QN (zD (qi 1 (ZF (zA 0)) (zY 4) je (ZU (zD (zA 4) (zD (eC (.bl true)) zF)))) zF)))))
  (zK (y9 (zA 0) (zY 2)
  (jo (iE (eOp ze (zA 0) (zA 2))) (zY 3)
  (jE (zA 1) (zA 3) (eC (.bl true)))))
  (jM (zM kc (zD (zA 1) zF)))))
noncomputable def UV:F:=fn 4 Xy
noncomputable def J7:F:=chN UV
theorem di:j3 1 UV J7:=Kb _
theorem A4:∀ (ys ks:List T),(ys.map tk).foldl (λa p=>jA p.1 p.2 a) (ks.map tk)=(yP ks ys).map tk
 | [],_=>rfl
 | y::ys,ks=>by
  rw[jF,Qi,K9,A4 ys];rfl
theorem Az {c:Type} (k:c->T) (f:c->D) (ys:List c):QY (ys.map λy=>.tup [.str (k y),f y])=some (ys.map λy=>(.str (k y),f y)):=by
 induction ys with
 | nil=>rfl
 | cons y ys d =>
  show (if z6 (.str (k y)) then (QY (ys.map λy=>.tup [.str (k y),f y])).map _ else none)=_;rw[d];rfl
theorem DR.keysT (h:DR s kvs nd):kvs.map (·.1)=(zZ nd).map D.str:=by
 rw[h.keys];unfold zZ;rw[yj];rfl
noncomputable abbrev XI:SM:=(jo (iE (eOp ze (zA 0) (zA 2))) (zY 3)
  (jE (zA 1) (zA 3) (eC (.bl true))))
theorem gC {S:M.S}{p:Nat}{kvs:List (D×D)} (y:S[p]? = some (.dct kvs)) (L:DR S kvs nd) (hn:(zZ nd).Nodup) (ok:OkN N nd) (hN:N.length <= 170) {c:List T} (k0:c.Nodup) (G:∀ x∈c,x∈N) {v2 v3:Option D} :
  ∃ (n o:Option D) (ks:List T),(y9 (zA 0) (zY 2) XI) [some (.ref p),some (.ref S.length),v2,v3] (S++[.dct (c.map tk)])=.nx [some (.ref p),some (.ref S.length),n,o] (S++[.dct (ks.map tk)])/\ks.Nodup/\(∀ x∈ks,x∈N)/\∀ x,x∈ks↔x∈c\/∃ q∈nd,x∈q.2:=by
 obtain⟨S',A⟩:∃ S',S'=S.set p (.fdc kvs):=⟨_,rfl⟩
 have H:S'.length=S.length:=by rw[A,qE]
 have hf:∀ (r:Nat) (xs:List D),S[r]? = some (.lst xs)->S'[r]? = some (.lst xs):=λr xs e=>by rw[A];exact vz y (λ_ z=>nomatch z) e
 have I:∀ g,(S'++g)[p]? = some (.fdc kvs):=λg=>jB (by rw[A];exact ka y) g;have t:kvs.map (·.1)=nd.map λq=>.str q.1:=L.keys;obtain⟨σ',s',Q,⟨n,o,u⟩,ks,es,C,E,B⟩:=QS (g:=[]) (f:=jO (zY 2) XI)
  (λj σ s=>(∃ v2 v3:Option D,σ=[some (.ref p),some (.ref S'.length),v2,v3])/\∃ ks:List T,s=S'++[.dct (ks.map tk)]/\ks.Nodup/\(∀ x∈ks,x∈N)/\∀ x,x∈ks↔x∈c\/∃ q∈nd.take j,x∈q.2)
  (nd.map λq=>D.str q.1) 0 [some (.ref p),some (.ref S'.length),v2,v3] (S'++[O.dct (c.map tk)]) ⟨⟨v2,v3,rfl⟩,c,rfl,k0,G,λx=>by simp⟩ λj x v σ s ⟨⟨v2,v3,u⟩,ks,es,C,E,B⟩=>by
   rw[ja] at B ⊢;subst u;subst es;rw[qG] at v;cases q:nd[j]? with
   | none=>rw[q] at v;cases v
   | some d =>
    rw[q] at v;have J:x=.str d.1:=by simpa using v.symm
    subst J;have m:d∈nd:=yn q;obtain⟨o1,o2,U⟩:=ok d m;have Y:=KH hn m;obtain⟨r,er,e3⟩:∃ r,jD (.str d.1) kvs=some (.ref r)/\S[r]? = some (.lst (d.2.map .str)):=by
     rcases L.get d.1 with ⟨l,_⟩ | ⟨row,r,l,w,h3⟩
     ·rw[Y] at l;cases l
     ·rw[Y] at l;cases l;exact⟨r,w,h3⟩
    have g3:∀ g,(S'++g)[r]? = some (.lst (d.2.map .str)):=λg=>jB (hf r _ e3) _;have hg:∀ g,zW [(r,O.lst (d.2.map .str))] (S'++g)=true:=λg=>by simp[zW,g3]
    obtain⟨v',el⟩:=YA (S':=S') (σ:=[some (.ref p),some (.ref S'.length),some (.str d.1),v3]) (a:=1) (i:=3) hN rfl (by decide) (by simp) hg d.2 ks v3 C E U;refine⟨[some (.ref p),some (.ref S'.length),some (.str d.1),v'],S'++[.dct ((yP ks d.2).map tk)],?_,rfl,⟨_,_,rfl⟩,_,rfl,KC C,λx v=>?_,λx=>?_⟩
    ·show XI [some (.ref p),some (.ref S'.length),some (.str d.1),v3] (S'++[.dct (ks.map tk)])=_;simp only[XI,jo,iE,eOp,zA,zk,zg,R.bind_ok,ze,I,z6,if_true,er,itD,g3,R.stm_ok,hg];exact el
    ·rcases kG.mp v with h | h
     ·exact E x h
     ·exact U x h
    ·rw[kG,B x,JI,q,Y1];constructor
     ·rintro ((h | ⟨q,l,w⟩) | h)
      ·exact .inl h
      ·exact .inr ⟨q,Zg _ l,w⟩
      ·exact .inr ⟨d,qw _ (by simp),h⟩
     ·rintro (h | ⟨q,l,w⟩)
      ·exact .inl (.inl h)
      ·rcases List.mem_append.mp l with l | l
       ·exact .inl (.inr ⟨q,l,w⟩)
       ·rw[List.mem_singleton.mp l] at w;exact .inr w
 rw[ja,z9,Jq] at B;subst u;subst es;refine⟨n,o,ks,?_,C,E,B⟩;have g5:(S++[O.dct (c.map tk)])[p]? = some (.dct kvs):=jB y _;have s5:(S++[O.dct (c.map tk)]).set p (.fdc kvs)=S'++[O.dct (c.map tk)]:=by rw[XD y,A]
 rw[H] at Q;simp only[y9,zA,zg,R.stm_ok,g5,s5,t,Q];rw[A];exact Js y _
theorem gm {S:M.S}{p:Nat}{kvs:List (D×D)} (m:S[p]? = some (.dct kvs)) (E:DR S kvs nd) (G:(zZ nd).Nodup) (ok:OkN N nd) (L:N.length <= 170) :
  ∃ V:List T,V.Pairwise NLt/\V.Nodup/\(∀ x,x∈V↔inV nd x)/\V.length <= N.length/\J7 [.ref p] S=alloc (.lst (V.map .str)) S:=by
 obtain⟨S',o⟩:∃ S',S'=S.set p (.fdc kvs):=⟨_,rfl⟩
 have r:S'[p]? = some (.fdc kvs):=by rw[o];exact ka m
 have kl:(zZ nd).length <= 170:=by
  have:=yx (N:=N) G λx f=>by
   unfold zZ at f;obtain⟨q,t,rfl⟩:=List.mem_map.mp f;exact (ok q t).1
  omega
 generalize h:zZ nd=c at *;have Q:qT 1 (ZF (zA 0)) (zY 4) je (ZU (zD (zA 4) (zD (eC (.bl true)) zF))) [some (.ref p),none,none,none] S'=.ok (c.map λx=>.tup [.str x,.bl true]) S':=by
  have:=WZ (n:=1) (it:=ZF (zA 0)) (tg:=zY 4) (e:=ZU (zD (zA 4) (zD (eC (.bl true)) zF))) (σ:=[some (.ref p),none,none,none]) (s:=S') (xs:=c.map D.str) (g:=[]) (λd=>.tup [d,.bl true]) (by
   have u:kvs.map (·.1)=c.map D.str:=by rw[E.keysT,h]
   simp only[ZF,zA,zg,R.bind_ok,r,u]) (by rw[z9];unfold SZ;omega) rfl λx f=>by
    have U:2 <= SZ:=by unfold SZ;omega
    simp[U]
  rw[this,yj];rfl
 have pd:QY (c.map λx=>D.tup [.str x,.bl true])=some (c.map tk):=Az (λx=>x) (λ_=>.bl true) c;have pt:vu (c.map tk)=(yP [] c).map tk:=A4 c [];have Y:(c.map tk).length <= 1000:=by rw[z9];omega
 have v:(yP [] c).Nodup:=KC Z1;have i:∀ x,x∈yP [] c↔x∈c:=λx=>by rw[kG];simp
 have u:(ZE 2 (JH 0 (zU 1 (zM QN (zD (qi 1 (ZF (zA 0)) (zY 4) je (ZU (zD (zA 4) (zD (eC (.bl true)) zF)))) zF))))) [some (.ref p),none,none,none] S=.nx [some (.ref p),some (.ref (S.length+1)),none,none] (S++[.lst (c.map λx=>.tup [.str x,.bl true]),.dct ((yP [] c).map tk)]):=by
  have l:S'.length=S.length:=by rw[o,qE]
  have w:(S'++[O.lst (c.map λx=>D.tup [.str x,.bl true])])[S.length]? = some (.lst (c.map λx=>.tup [.str x,.bl true])):=by rw[<- l];exact jm
  have H:=Js (g:=[.lst (c.map λx=>.tup [.str x,.bl true]),.dct ((yP [] c).map tk)]) m [some (.ref p),some (.ref (S.length+1)),none,none];rw[<- o] at H;simp only[ZE,JH,qC,qH,zg,m,<- o,zU,zM,zD,zF,qi,Q,R.bind_ok,alloc,QN,l,w,pd,Y,if_true,pt,R.stm_ok,jy,jU,yy,jg,qz,yQ,ja,H,J3]
 have y:(S++[O.lst (c.map λx=>D.tup [.str x,.bl true])])[p]? = some (.dct kvs):=jB m _;have z:∀ x∈yP [] c,x∈N:=λx f=>by
  have f:=(i x).mp f;rw[<- h] at f;unfold zZ at f;obtain⟨q,t,rfl⟩:=List.mem_map.mp f;exact (ok q t).1
 obtain⟨A,B,ks,I,J,kN,km⟩:=gC y (E.mono (j9.app _ _)) (by rw[h];exact G) ok L v z (v2:=none) (v3:=none);have hl:=yx J kN;refine⟨qI ks,Vl ks,AY J,λx=>?_,by rw[(XB ks).length_eq];exact hl,?_⟩
 ·rw[(XB ks).mem_iff,km x,i x,<- h];rfl
 refine Kh (g:=[.lst (c.map λx=>.tup [.str x,.bl true]),.dct (ks.map tk),.lst ((qI ks).map .str)]) (j:=S.length+2) ?_ (by rw[jP (by omega),show S.length+2 - S.length=2 by omega];rfl) (by omega) (KJ _ _);show ((Xy [some (.ref p),none,none,none] S).out)=_;unfold Xy;show ((((ZE 2 _) _ _).then _).out)=_;rw[u,RS.then_nx];have C:(y9 (zA 0) (zY 2) XI) [some (.ref p),some (.ref (S.length+1)),none,none] (S++[.lst (c.map λx=>.tup [.str x,.bl true]),.dct ((yP [] c).map tk)])=.nx [some (.ref p),some (.ref (S.length+1)),A,B] (S++[.lst (c.map λx=>.tup [.str x,.bl true]),.dct (ks.map tk)]):=by
  have el:(S++[O.lst (c.map λx=>D.tup [.str x,.bl true])]).length=S.length+1:=by simp
  rw[el] at I;simpa only[jg,qz,yQ] using I
 show ((((y9 _ _ _) _ _).then _).out)=_;rw[C,RS.then_nx];have w:(S++[O.lst (c.map λx=>D.tup [.str x,.bl true]),.dct (ks.map tk)])[S.length+1]? = some (.dct (ks.map tk)):=by
  rw[jP (by omega),show S.length+1 - S.length=1 by omega];rfl
 simp only[jM,zM,zD,zF,zA,zk,zg,R.bind_ok,kc,w,WL (show ks.length <= 1000 by omega),alloc,R.stm_ok,RS.out_rt];simp
noncomputable def Jb:SM :=
  (zU 1 (zM VA (zD (zA 0) zF)))
noncomputable def xO:SM :=
  (ZE 7 (zU 2 (zM QN (zD (qi 1 (iE (zM J7 (zD (zA 0) zF))) (zY 9) je (ZU (zD (zA 9) (zD (eC .non) zF)))) zF))))
noncomputable def xM:SM :=
  (ZE 7 (JH 2 (zU 3 (zM QN (zD (qi 1 (ZF (zA 2)) (zY 9) je (ZU (zD (zA 9) (zD (zM xF (zD (eM .dict yh (zA 0) (zD (zA 9) (zD (j8 zF) zF))) zF)) zF)))) zF)))))
noncomputable def J9:SM :=
  (ZE 7 (JH 2 (zU 4 (qi 1 (ZF (zA 2)) (zY 9) (zo cEq (eOp ze (zA 3) (zA 9)) (eC (.int 0))) (zA 9)))))
noncomputable def xm:SM :=
  (zU 5 (eC (.int 0)))
noncomputable def xr:SM :=
  (Kg (zo cGt (zM qJ (zD (zA 4) zF)) (eC (.int 0)))
  (zK (zU 6 (j8 zF))
  (zK (jo (iE (zA 4)) (zY 7)
  (zK (jE (zA 2) (zA 7) (zA 5))
  (y9 (eM .dict yh (zA 1) (zD (zA 7) (zD qY zF))) (zY 8)
  (zK (JO kF (zA 3) (zA 8) (eC (.int 1)))
  (sIf (zo cEq (eOp ze (zA 3) (zA 8)) (eC (.int 0)))
  (Z4 (eM .list JF (zA 6) (zD (zA 8) zF)))
  jL)))))
  (zK (zU 4 (zA 6))
  (vH Yj 5 (eC (.int 1)))))))
noncomputable def Xf:SM :=
  (jM (zA 2))
noncomputable def YS:SM:=(zK Jb (zK xO (zK xM (zK J9 (zK xm (zK xr Xf))))))
noncomputable def UC:F:=fn 9 YS
noncomputable def ZY:F:=chN UC
theorem FR:j3 1 UC ZY:=Kb _
noncomputable def nOf (nd:List (T×List T)) (x:T):List T:=(nd.lookup x).getD []
theorem uN:∀ (ys acc:List T),yA acc ys=yP acc ys
 | [],_=>rfl
 | y::ys,acc=>by
  show yA (if acc.contains y then acc else acc++[y]) ys=yP (jj y acc) ys;rw[uN ys]
  congr 1
  unfold jj;by_cases h:y∈acc<;>simp[h]
noncomputable def jC (nd:List (T×List T)) (c:T->Option Nat) (z:T):Nat:=((yA [] (nOf nd z)).filter λy=>(c y).isNone).length
theorem vd {y:T}:y∈yA [] ys↔y∈ys:=by rw[uN,kG];simp
theorem FF (ys:List T):(yA [] ys).Nodup:=by rw[uN];exact KC Z1
theorem xh {z:T}:jC nd d z=0 ↔ ∀ y∈nOf nd z,d y≠none:=by
 unfold jC;rw[List.length_eq_zero_iff,List.filter_eq_nil_iff];constructor
 ·intro h y c e;exact h y (vd.mpr c) (by rw[e];rfl)
 ·intro h y c e;exact h y (vd.mp c) (by simpa using e)
theorem Yq {p:T->Bool}{l:T} (g:p l=true):∀ {U:List T},U.Nodup->(U.filter λy=>p y && decide (y≠l)).length+(if l∈U then 1 else 0)=(U.filter p).length
 | [],_=>rfl
 | u::U,c=>by
  rw[Jt] at c;have d:=Yq g c.2;rw[ED,ED];by_cases e:u=l
  ·have f:(p u && decide (u≠l))=false:=by simp[e]
   rw[f,e,g,if_pos jI];rw[if_neg (e ▸ c.1)] at d;simp only[jW,if_false,if_true,jU];omega
  ·have hm:(l∈u::U)↔l∈U:=by simp[jr e]
   have f:(p u && decide (u≠l))=p u:=by simp[e]
   rw[f];by_cases h:l∈U
   ·rw[if_pos h] at d;rw[if_pos (hm.mpr h)];cases p u<;>simp only[jW,if_false,if_true,jU]<;>omega
   ·rw[if_neg h] at d;rw[if_neg (λz=>h (hm.mp z))];cases p u<;>simp only[jW,if_false,if_true,jU]<;>omega
noncomputable def QD (c:T->Option Nat) (l:T) (r:Nat):T->Option Nat:=λz=>if z=l then some r else c z
theorem wX {c:T->Option Nat}{l:T} (d:c l=none) (z:T):jC nd (QD c l r) z+(if l∈nOf nd z then 1 else 0)=jC nd c z:=by
 unfold jC;have h:=Yq (p:=λy=>(c y).isNone) (l:=l) (by rw[d];rfl) (FF (nOf nd z));rw[<- h]
 congr 1
 ·congr 1
  refine W3 λy _=>?_;unfold QD;by_cases e:y=l
  ·rw[if_pos e];simp[e]
  ·rw[if_neg e];simp[e]
 ·by_cases e:l∈nOf nd z
  ·rw[if_pos e,if_pos (vd.mpr e)]
  ·rw[if_neg e,if_neg (λq=>e (vd.mp q))]
theorem VP (f:(zZ nd).Nodup) {y:T}:y∈nOf nd x ↔ ∃ q∈nd,q.1=x/\y∈q.2:=by
 unfold nOf;constructor
 ·intro h;cases e:nd.lookup x with
  | none=>rw[e] at h;cases h
  | some row =>
   rw[e] at h;have c:(x,row)∈nd:=by
    clear f
    induction nd with
    | nil=>cases e
    | cons q nd g =>
     obtain⟨k,v⟩:=q;rw[yz] at e;cases d:x == k with
     | true =>
      rw[d] at e;have:=eq_of_beq d;subst this;cases e;exact jI
     | false=>rw[d] at e;exact jV _ (g e)
   exact⟨(x,row),c,rfl,h⟩
 ·rintro ⟨q,c,rfl,i⟩
  rw[KH f c];exact i
structure RK (nd:List (T×List T)) (V:List T) (rk:T->Option Nat):Prop where
 no:∀ z∈V,rk z=none->∃ y∈nOf nd z,rk y=none
 inn:∀ z k,rk z=some k->z∈V
 low:∀ z k,rk z=some k->∀ y∈nOf nd z,∃ j,j < k/\rk y=some j
 zero:∀ z,rk z=some 0->nOf nd z=[]
 near:∀ z k,rk z=some (k+1)->∃ y∈nOf nd z,rk y=some k
structure WI (nd:List (T×List T)) (V:List T) (r:Nat) (rk:T->Option Nat) (lv:List T):Prop where
 nl:lv.Nodup
 lm:∀ z,z∈lv↔z∈V/\rk z=none/\jC nd rk z=0
 inn:∀ z k,rk z=some k->z∈V/\k < r
 low:∀ z k,rk z=some k->∀ y∈nOf nd z,∃ j,j < k/\rk y=some j
 zero:∀ z,rk z=some 0->nOf nd z=[]
 near:∀ z k,rk z=some (k+1)->∃ y∈nOf nd z,rk y=some k
 l0:r=0->∀ z∈lv,nOf nd z=[]
 l1:∀ k,r=k+1->∀ z∈lv,∃ y∈nOf nd z,rk y=some k
noncomputable def rkL (c:T->Option Nat) (ls:List T) (r:Nat):T->Option Nat:=λz=>if z∈ls then some r else c z
theorem uF (c:T->Option Nat) (ls:List T) (r:Nat) (l:T):rkL c (ls++[l]) r=QD (rkL c ls r) l r:=by
 funext z
 unfold rkL QD;by_cases d:z=l
 ·simp[d]
 ·by_cases e:z∈ls<;>simp[d,e]
theorem aF (c:T->Option Nat) (r:Nat):rkL c [] r=c:=by funext z;simp[rkL]
structure LI (nd:List (T×List T)) (V:List T) (rk rk':T->Option Nat) (as:List T):Prop where
 un:as.Nodup
 mem:∀ z,z∈as↔z∈V/\jC nd rk z≠0/\jC nd rk' z=0
 le:∀ z,jC nd rk' z <= jC nd rk z
theorem LI.step {V:List T}{as bs:List T}{l:T} (h:LI nd V m c as) (n:c l=none) (o:bs.Nodup) (g:∀ z,z∈bs↔l∈nOf nd z) (i:∀ z∈bs,z∈V) :
  LI nd V m (QD c l r) (as++bs.filter λz=>decide ((jC nd c z:Int)=1)):=by
 have st:=λz=>wX (nd:=nd) (r:=r) n z;refine⟨?_,λz=>?_,λz=>?_⟩
 ·rw[xP];refine⟨h.un,o.sublist Ep,λa ha b j e=>?_⟩;subst e;have d:=(h.mem a).mp ha;have f:=(List.mem_filter.mp j).2;have:(jC nd c a:Int)=1:=of_decide_eq_true f;omega
 ·rw[Uc,h.mem z,BV];have s1:=st z;have p:=h.le z;constructor
  ·rintro (⟨d,f,q⟩ | ⟨d,f⟩)
   ·exact⟨d,f,by omega⟩
   ·have s:(jC nd c z:Int)=1:=of_decide_eq_true f;rw[if_pos ((g z).mp d)] at s1;exact⟨i z d,by omega,by omega⟩
  ·rintro ⟨d,f,q⟩
   by_cases e:jC nd c z=0
   ·exact .inl ⟨d,f,e⟩
   ·by_cases hm:l∈nOf nd z
    ·rw[if_pos hm] at s1;exact .inr ⟨(g z).mpr hm,decide_eq_true (by omega)⟩
    ·rw[if_neg hm] at s1;omega
 ·have s1:=st z;have p:=h.le z;omega
theorem LI.start {V:List T}:LI nd V c c []:=⟨Z1,λz=>by
 constructor
 ·intro h;cases h
 ·rintro ⟨_,d,e⟩;exact absurd e d,λz=>zd _⟩
theorem WI.next {V:List T}{as:List T} (w:WI nd V r f lv) (h:LI nd V f (rkL f lv r) as):WI nd V (r+1) (rkL f lv r) as:=by
 have up:∀ z k,f z=some k->rkL f lv r z=some k:=λz k e=>by
  unfold rkL;rw[if_neg (λhz=>by have:=((w.lm z).mp hz).2.1;rw[e] at this;cases this)];exact e
 have dn:∀ z k,rkL f lv r z=some k->(z∈lv/\k=r)\/(z∉lv/\f z=some k):=λz k e=>by
  unfold rkL at e;by_cases hz:z∈lv
  ·rw[if_pos hz] at e;cases e;exact .inl ⟨hz,rfl⟩
  ·rw[if_neg hz] at e;exact .inr ⟨hz,e⟩
 refine⟨h.un,λz=>?_,λz k e=>?_,λz k e y i=>?_,λz e=>?_,λz k e=>?_,λz=>by omega,λk t z hz=>?_⟩
 ·rw[h.mem z];constructor
  ·rintro ⟨d,c,g⟩
   refine⟨d,?_,g⟩;unfold rkL;rw[if_neg (λhz=>c ((w.lm z).mp hz).2.2)];cases e:f z with
   | none=>rfl
   | some k =>
    refine absurd (xh.mpr λy i q=>?_) c;obtain⟨j,_,p⟩:=w.low z k e y i;rw[p] at q;cases q
  ·rintro ⟨d,c,g⟩
   refine⟨d,λq=>?_,g⟩;unfold rkL at c;by_cases hz:z∈lv
   ·rw[if_pos hz] at c;cases c
   ·rw[if_neg hz] at c;exact hz ((w.lm z).mpr ⟨d,c,q⟩)
 ·rcases dn z k e with ⟨d,rfl⟩ | ⟨_,c⟩
  ·exact⟨((w.lm z).mp d).1,by omega⟩
  ·have:=w.inn z k c;exact⟨this.1,by omega⟩
 ·rcases dn z k e with ⟨d,rfl⟩ | ⟨_,c⟩
  ·have:=xh.mp ((w.lm z).mp d).2.2 y i;cases q:f y with
   | none=>exact absurd q this
   | some j=>exact⟨j,(w.inn y j q).2,up y j q⟩
  ·obtain⟨j,g,l⟩:=w.low z k c y i;exact⟨j,g,up y j l⟩
 ·rcases dn z 0 e with ⟨d,c⟩ | ⟨_,c⟩
  ·exact w.l0 c.symm z d
  ·exact w.zero z c
 ·rcases dn z (k+1) e with ⟨d,c⟩ | ⟨_,c⟩
  ·obtain⟨y,g,l⟩:=w.l1 k c.symm z d;exact⟨y,g,up y k l⟩
  ·obtain⟨y,g,l⟩:=w.near z k c;exact⟨y,g,up y k l⟩
 ·have n:k=r:=by omega
  subst n;obtain⟨d,c,g⟩:=(h.mem z).mp hz;have o:=xh.mp g;cases q:(nOf nd z).find? λy=>(f y).isNone with
  | none =>
   refine absurd (xh.mpr λy i e=>?_) c;have:=List.find?_eq_none.mp q y i;rw[e] at this;exact this rfl
  | some y =>
   have i:=HA q;have s:f y=none:=by have:=fC q;simpa using this
   refine⟨y,i,?_⟩;have:=o y i;unfold rkL at this ⊢;by_cases m:y∈lv
   ·rw[if_pos m]
   ·rw[if_neg m] at this;exact absurd s this
theorem WI.last {V:List T} (w:WI nd V r c []):RK nd V c:=⟨λz hz e=>by
 cases q:(nOf nd z).find? λy=>(c y).isNone with
 | none =>
  have:z∈([]:List T):=(w.lm z).mpr ⟨hz,e,xh.mpr λy d f=>by
   have:=List.find?_eq_none.mp q y d;rw[f] at this;exact this rfl⟩
  cases this
 | some y=>exact⟨y,HA q,by have:=fC q;simpa using this⟩,λz k e=>(w.inn z k e).1,w.low,w.zero,w.near⟩
noncomputable def kC (V:List T) (c:T->Option Nat):Nat:=(V.filter λz=>(c z).isNone).length
theorem Uo {V:List T}{c:T->Option Nat}{lv:List T} (f:V.Nodup) {l:T} (g:l∈lv) (d:l∈V) (h:c l=none):kC V (rkL c lv r) < kC V c:=by
 have i:=Yq (p:=λy=>(c y).isNone) (l:=l) (by rw[h];rfl) f;rw[if_pos d] at i;unfold kC;have:(V.filter λz=>(rkL c lv r z).isNone).length <= (V.filter λy=>(c y).isNone && decide (y≠l)).length:=by
  have e:(V.filter λz=>(rkL c lv r z).isNone)=(V.filter λy=>(c y).isNone && decide (y≠l)).filter λz=>(rkL c lv r z).isNone:=by
   rw[List.filter_filter];refine W3 λz _=>?_;unfold rkL;by_cases hz:z∈lv
   ·simp[hz]
   ·have:z≠l:=λe=>hz (e ▸ g);simp[hz,this]
  rw[e];exact HC _ _
 omega
noncomputable def fD (V:List T) (f:T->D):List (D×D):=V.map λx=>(D.str x,f x)
theorem x4:∀ {V:List T}{x:T},x∈V->jD (.str x) (fD V f)=some (f x)
 | [],_,h=>by cases h
 | v::V,x,h=>by
  unfold fD jD;rw[jF,yz];by_cases e:x=v
  ·subst e;simp
  ·have c:(D.str x == D.str v)=false:=by simpa using e
   rw[c];exact x4 (by rcases List.mem_cons.mp h with h | h;exact absurd h e;exact h)
theorem AX {V:List T}{x:T} (h:x∈V):jA (.str x) v (fD V f)=fD V λz=>if z=x then v else f z:=by
 unfold jA fD;rw[if_pos (by rw[D0,D1];exact⟨x,h,by simp⟩),yj];refine Zv λz _=>?_;simp only[VJ,D.str.injEq];split<;>rfl
theorem XH {V:List T}:(fD V f).length=V.length:=by unfold fD;simp
theorem uU {V:List T}:(fD V f).map (·.1)=V.map D.str:=by unfold fD;rw[yj];rfl
noncomputable def rkD:Option Nat->D
 | none=>.non
 | some k=>.int k
structure Fr2 (a b:Nat) (s s':M.S):Prop where
 len:s'.length=s.length
 eq:∀ q,q≠a->q≠b->s'[q]? = s[q]?
theorem Fr2.refl (a b:Nat) (s:M.S):Fr2 a b s s:=⟨rfl,λ_ _ _=>rfl⟩
theorem Fr2.trans {a b:Nat} (h:Fr2 a b s f) (k:Fr2 a b f c):Fr2 a b s c:=⟨k.len.trans h.len,λq d e=>(k.eq q d e).trans (h.eq q d e)⟩
theorem JS {s:M.S}{a:Nat}{o o':O} (h:s[a]? = some o):(s.set a o')[a]? = some o':=Qq (List.getElem?_eq_some_iff.mp h).1
theorem yi {s:M.S}{a q:Nat}{o':O} (h:q≠a):(s.set a o')[q]? = s[q]? := yY (jr h)
noncomputable abbrev V9:SM:=(zK (JO kF (zA 3) (zA 8) (eC (.int 1)))
  (sIf (zo cEq (eOp ze (zA 3) (zA 8)) (eC (.int 0)))
  (Z4 (eM .list JF (zA 6) (zD (zA 8) zF)))
  jL))
noncomputable abbrev VX (mi:T->Int) (xs:List T):T->D:=λz=>.int (if z∈xs then mi z - 1 else mi z)
theorem wx {V:List T} (L:V.length <= 1000) {f ab:Nat} (l:f≠ab) {v0 v1 v2 v4 v5 v7:Option D}:∀ (xs:List T) (mi:T->Int) (as:List T) (s:M.S) (v8:Option D),xs.Nodup->(∀ x∈xs,x∈V)->s[f]? = some (.dct (fD V λz=>.int (mi z)))->s[ab]? = some (.lst (as.map .str))->as.length+xs.length <= 10000 ->
  ∃ m r,jb [] (jO (zY 8) V9) (xs.map .str) [v0,v1,v2,some (.ref f),v4,v5,some (.ref ab),v7,v8] s=.nx [v0,v1,v2,some (.ref f),v4,v5,some (.ref ab),v7,m] r/\Fr2 f ab s r/\r[f]? = some (.dct (fD V (VX mi xs)))/\r[ab]? = some (.lst ((as++xs.filter λx=>decide (mi x=1)).map .str))
 | [],mi,as,s,v8,_,_,t,v,_=>⟨v8,s,rfl,Fr2.refl _ _ _,by
   have e:VX mi []=λz=>.int (mi z):=by funext z;simp[VX]
   rw[e];exact t,by rw[v];simp⟩
 | x::xs,mi,as,s,v8,w,G,t,v,H=>by
  rw[Jt] at w;have n:=G x jI;have N:(fD V λz=>D.int (mi z)).length < SZ:=by rw[XH];unfold SZ;omega
  obtain⟨d,j⟩:∃ d:T->Int,∀ z,d z=if z=x then mi x - 1 else mi z:=⟨_,λz=>rfl⟩
  have Q:jA (.str x) (.int (mi x - 1)) (fD V λz=>.int (mi z))=fD V λz=>.int (d z):=by
   rw[AX n]
   congr 1
   funext z
   rw[j];split<;>rfl
  obtain⟨s1,g⟩:∃ s1,s1=s.set f (.dct (fD V λz=>.int (d z))):=⟨_,rfl⟩
  have u:s1[f]? = some (.dct (fD V λz=>.int (d z))):=by rw[g];exact JS t
  have A:s1[ab]? = some (.lst (as.map .str)):=by rw[g,yi (jr l)];exact v
  have U:jD (.str x) (fD V λz=>D.int (mi z))=some (.int (mi x)):=x4 n;have I:jD (.str x) (fD V λz=>D.int (d z))=some (.int (mi x - 1)):=by rw[x4 n,j];simp
  have Y:Fr2 f ab s s1:=⟨by rw[g,qE],λq n1 _=>by rw[g];exact yi n1⟩
  have e1:(JO kF (zA 3) (zA 8) (eC (.int 1))) [v0,v1,v2,some (.ref f),v4,v5,some (.ref ab),v7,some (.str x)] s=.nx [v0,v1,v2,some (.ref f),v4,v5,some (.ref ab),v7,some (.str x)] s1:=by
   simp only[JO,zA,eC,zk,zg,R.stm_ok,Q6,t,z6,if_true,U,kF,JR,N,decide_true,ya,Q,g]
  have hz:as.length < SZ:=by unfold SZ;simp only[jU] at H;omega
  obtain⟨i,o,e2,f2,a2,b2,hl2,ha⟩:∃ i o,(sIf (zo cEq (eOp ze (zA 3) (zA 8)) (eC (.int 0))) (Z4 (eM .list JF (zA 6) (zD (zA 8) zF))) jL) [v0,v1,v2,some (.ref f),v4,v5,some (.ref ab),v7,some (.str x)] s1=.nx [v0,v1,v2,some (.ref f),v4,v5,some (.ref ab),v7,some (.str x)] o/\Fr2 f ab s1 o/\o[f]? = some (.dct (fD V λz=>.int (d z)))/\o[ab]? = some (.lst (i.map .str))/\i.length <= as.length+1/\i=as++[x].filter λx=>decide (mi x=1):=by
   by_cases c:mi x=1
   ·have B:mi x - 1=0:=by omega
    refine⟨as++[x],s1.set ab (.lst ((as++[x]).map .str)),?_,⟨qE,λq _ n2=>yi n2⟩,by rw[yi l];exact u,JS A,by simp,by simp[c]⟩;have C:(as.map D.str).length < SZ:=by rw[z9];exact hz
    simp only[sIf,zo,eOp,zA,eC,zk,zg,R.bind_ok,ze,u,z6,if_true,I,cEq,eqD,B,decide_true,R.stm_ok,Z4,eM,yM,A,zD,zF,JF,C,XS,jF,Qz]
   ·have B:¬ mi x - 1=0:=by omega
    refine⟨as,s1,?_,Fr2.refl _ _ _,u,A,by omega,by simp[c]⟩;simp only[sIf,zo,eOp,zA,eC,zk,zg,R.bind_ok,ze,u,z6,if_true,I,cEq,eqD,B,decide_false,R.stm_ok,jW,if_false,jL]
  obtain⟨m,s3,e3,f3,a3,b3⟩:=wx L l xs d i o (some (.str x)) w.2 (λy p=>G y (jV _ p)) a2 b2 (by simp only[jU] at H;omega);have J:∀ y∈xs,d y=mi y:=λy p=>by
   rw[j];exact if_neg λe:y=x=>w.1 (e ▸ p)
  refine⟨m,s3,?_,Y.trans (f2.trans f3),?_,?_⟩
  ·have e0:jO (zY 8) V9 (.str x) [v0,v1,v2,some (.ref f),v4,v5,some (.ref ab),v7,v8] s=.nx [v0,v1,v2,some (.ref f),v4,v5,some (.ref ab),v7,some (.str x)] o:=by
    show ((JO kF (zA 3) (zA 8) (eC (.int 1))) [v0,v1,v2,some (.ref f),v4,v5,some (.ref ab),v7,some (.str x)] s).then _=_;rw[e1,RS.then_nx];exact e2
   rw[jF,jb,e0];exact e3
  ·rw[a3]
   congr 3
   funext z
   show D.int (if z∈xs then d z - 1 else d z)=D.int (if z∈x::xs then mi z - 1 else mi z)
   congr 1
   by_cases h:z∈xs
   ·rw[if_pos h,if_pos (jV _ h),J z h]
   ·rw[if_neg h,j];by_cases e:z=x
    ·rw[e,if_pos rfl,if_pos jI]
    ·have E:¬ z∈x::xs:=by simp[e,h]
     rw[if_neg e,if_neg E]
  ·rw[b3,ha]
   congr 3
   rw[jg]
   congr 1
   have:(x::xs).filter (λx=>decide (mi x=1))=[x].filter (λx=>decide (mi x=1))++xs.filter (λx=>decide (mi x=1)):=by
    rw[<- List.filter_append];rfl
   rw[this]
   congr 1
   exact W3 λy p=>by rw[J y p]
noncomputable abbrev Xq:SM:=(zK (jE (zA 2) (zA 7) (zA 5))
  (y9 (eM .dict yh (zA 1) (zD (zA 7) (zD qY zF))) (zY 8) V9))
theorem EG (ks:List T):(ks.map tk).map (·.1)=ks.map D.str:=by rw[yj];rfl
structure zw (S1 s:M.S):Prop where
 le:S1.length <= s.length
 eq:∀ q,q < S1.length->s[q]? = S1[q]?
theorem zw.app (h:zw S1 s):∃ g,s=S1++g:=⟨s.drop S1.length,by
 have e:s.take S1.length=S1:=by
  apply List.ext_getElem?;intro i;by_cases hi:i < S1.length
  ·rw[aq hi,h.eq i hi]
  ·rw[QQ (by rw[qx];omega),QQ (by omega)]
 conv=>lhs;rw[<- vk S1.length s,e]⟩
theorem zw.of (S1 g:M.S):zw S1 (S1++g):=⟨by simp,λq c=>qF c⟩
structure RS3 (S1:M.S) (V:List T) (ar am:Nat) (rk:T->Option Nat) (mi:T->Int) (s:M.S):Prop where
 pre:zw S1 s
 la:S1.length <= ar
 lm:S1.length <= am
 ne:ar≠am
 r:s[ar]? = some (.dct (fD V λx=>rkD (rk x)))
 m:s[am]? = some (.dct (fD V λx=>.int (mi x)))
theorem gj {S:M.S}{V:List T} (nb:NB N nd L B) (hV:V.length <= 1000) {ar ab:Nat}{as:List T} (h:RS3 (S++nS S.length L B) V ar c y mi s) (lb:(S++nS S.length L B).length <= ab) (n1:ab≠ar) (n2:ab≠c) (hb:s[ab]? = some (.lst (as.map .str))) {l:T} (hl:l∈V) (hB:∀ x∈B l,x∈V) (hsz:as.length+(B l).length <= 10000) {r:Nat}{v0 v4 v7 v8:Option D} :
  ∃ t A,jO (zY 7) Xq (.str l) [v0,some (.ref S.length),some (.ref ar),some (.ref c),v4,some (.int r),some (.ref ab),v7,v8] s=.nx [v0,some (.ref S.length),some (.ref ar),some (.ref c),v4,some (.int r),some (.ref ab),some (.str l),t] A/\A.length=s.length+1/\(∀ q,q < s.length->q≠ar->q≠c->q≠ab->A[q]? = s[q]?)/\RS3 (S++nS S.length L B) V ar c (QD y l r) (λz=>if z∈B l then mi z - 1 else mi z) A/\A[ab]? = some (.lst ((as++(B l).filter λx=>decide (mi x=1)).map .str)):=by
 generalize i:S++nS S.length L B=S1 at *;have I:S.length < S1.length:=by rw[<- i];simp
 have ha:=(List.getElem?_eq_some_iff.mp h.r).1;have hm:=(List.getElem?_eq_some_iff.mp h.m).1;have J:=(List.getElem?_eq_some_iff.mp hb).1;obtain⟨s1,j⟩:∃ s1,s1=s.set ar (.dct (fD V λx=>rkD (QD y l r x))):=⟨_,rfl⟩
 have l1:s1.length=s.length:=by rw[j,qE]
 have z1:(fD V λz=>rkD (y z)).length < SZ:=by rw[XH];unfold SZ;omega
 have p1:jA (.str l) (.int r) (fD V λz=>rkD (y z))=fD V λz=>rkD (QD y l r z):=by
  rw[AX hl]
  congr 1
  funext z
  unfold QD;split<;>rfl
 have e1:(jE (zA 2) (zA 7) (zA 5)) [v0,some (.ref S.length),some (.ref ar),some (.ref c),v4,some (.int r),some (.ref ab),some (.str l),v8] s=.nx [v0,some (.ref S.length),some (.ref ar),some (.ref c),v4,some (.int r),some (.ref ab),some (.str l),v8] s1:=by
  simp only[jE,zA,zk,zg,R.stm_ok,qu,h.r,z6,z1,decide_true,ya,if_true,p1,j]
 have H:∀ q,q≠ar->s1[q]? = s[q]? := λq n=>by rw[j];exact yi n
 have r1:s1[ar]? = some (.dct (fD V λx=>rkD (QD y l r x))):=by rw[j];exact JS h.r
 have u:∀ (q:Nat),q < s.length->(s1++[O.dct []])[q]? = s1[q]? := λq n=>qF (by omega);obtain⟨p,o⟩:∃ p,p=s1++[O.dct []]:=⟨_,rfl⟩
 have l2:p.length=s.length+1:=by rw[o];simp[l1]
 rw[<- o] at u;have lo:∀ q,q < S1.length->p[q]? = S1[q]? := λq n=>by
  rw[u q (jR n h.pre.le),H q (by have:=h.la;omega),h.pre.eq q n]
 have an:p[S.length]? = some (.dct (qP (S.length+1) L)):=by rw[lo _ I,<- i];exact jm
 obtain⟨g,hg,v,na,Q,w⟩:∃ g,(jD (.str l) (qP (S.length+1) L)).getD (.ref s1.length)=.ref g/\p[g]? = some (.dct ((B l).map tk))/\g≠ar/\g≠c/\g≠ab:=by
  by_cases C:l∈L
  ·have hi:=List.idxOf_lt_length_iff.mpr C;have U:S.length+1+L.idxOf l < S1.length:=by rw[<- i];simp;omega
   refine⟨S.length+1+L.idxOf l,by rw[xk,if_pos C];rfl,?_,?_,?_,?_⟩
   ·rw[lo _ U,<- i];have:=UU (S:=S) (B:=B) C []
    rwa [ZS] at this
   ·have:=h.la;omega
   ·have:=h.lm;omega
   ·omega
  ·refine⟨s1.length,by rw[xk,if_neg C];rfl,?_,by omega,by omega,by omega⟩;rw[o,nb.out l C];exact jm
 obtain⟨E,d⟩:∃ E,E=p.set g (.fdc ((B l).map tk)):=⟨_,rfl⟩
 have m3:E[c]? = some (.dct (fD V λz=>.int (mi z))):=by rw[d,yi (jr Q),u c hm,H c (jr h.ne)];exact h.m
 have b3:E[ab]? = some (.lst (as.map .str)):=by rw[d,yi (jr w),u ab J,H ab n1];exact hb
 obtain⟨t,s4,e4,Y,m4,b4⟩:=wx hV (jr n2) (v0:=v0) (v1:=some (.ref S.length)) (v2:=some (.ref ar)) (v4:=v4) (v5:=some (.int r)) (v7:=some (.str l)) (B l) mi as E v8 (nb.nb l).1 hB m3 b3 hsz;have t4:s4[g]? = some (.fdc ((B l).map tk)):=by rw[Y.eq g Q w,d];exact JS v
 obtain⟨G,f⟩:∃ G,G=s4.set g (.dct ((B l).map tk)):=⟨_,rfl⟩
 have l5:G.length=s.length+1:=by rw[f,qE,Y.len,d,qE,l2]
 have q5:∀ q,q≠c->q≠ab->G[q]? = p[q]? := λq h1 h2=>by
  by_cases e:q=g
  ·rw[e,f,JS t4,v]
  ·rw[f,yi e,Y.eq q h1 h2,d,yi e]
 refine⟨t,G,?_,l5,λq n h1 h2 h3=>by rw[q5 q h2 h3,u q n,H q h1],⟨⟨by have:=h.pre.le;omega,λq n=>?_⟩,h.la,h.lm,h.ne,?_,?_⟩,?_⟩
 ·show ((jE (zA 2) (zA 7) (zA 5)) [v0,some (.ref S.length),some (.ref ar),some (.ref c),v4,some (.int r),some (.ref ab),some (.str l),v8] s).then _=_;rw[e1,RS.then_nx];have o1:s1[S.length]? = some (.dct (qP (S.length+1) L)):=by
   have:=an
   rwa [u _ (by have:=h.pre.le;omega)] at this
  simp only[y9,eM,zA,zk,zg,R.bind_ok,yM,o1,if_true,zD,zF,qY,alloc,<- o,yh,an,z6,R.stm_ok,hg,v,<- d,EG,e4,thaw,VQ,t4,<- f]
 ·have:=h.la;have:=h.lm;rw[q5 q (by omega) (by omega),lo q n]
 ·rw[q5 ar h.ne (jr n1),u ar ha];exact r1
 ·rw[f,yi (jr Q)];exact m4
 ·rw[f,yi (jr w)];exact b4
theorem NB.need (nb:NB N nd L B) (c:(zZ nd).Nodup) (l z:T):z∈B l↔l∈nOf nd z:=by
 rw[nb.mem l z,VP c]
section
variable {S:M.S}{L V N:List T}{B:T->List T}{nd:List (T×List T)}{ar am:Nat}{v0:Option D}
theorem AA (nb:NB N nd L B) (hN:N.length <= 170) (u:(zZ nd).Nodup) (hV:V.length <= 170) (g:∀ x,x∈V↔inV nd x) {ab al:Nat} (H:(S++nS S.length L B).length <= ab) (n1:ab≠ar) (n2:ab≠am) (I:al≠ar) (J:al≠am) (Q:al≠ab) {lvD:List D}{c:T->Option Nat}{v4:Option D} :
  ∀ (ls done as:List T) (s:M.S) (v7 v8:Option D),(done++ls).Nodup->(∀ l∈ls,l∈V/\c l=none)->RS3 (S++nS S.length L B) V ar am (rkL c done r) (λz=>(jC nd (rkL c done r) z:Int)) s->s[al]? = some (.lst lvD)->s[ab]? = some (.lst (as.map .str))->LI nd V c (rkL c done r) as ->
  ∃ e f i d,jb [(al,.lst lvD)] (jO (zY 7) Xq) (ls.map .str) [v0,some (.ref S.length),some (.ref ar),some (.ref am),v4,some (.int r),some (.ref ab),v7,v8] s=.nx [v0,some (.ref S.length),some (.ref ar),some (.ref am),v4,some (.int r),some (.ref ab),e,f] i /\
   RS3 (S++nS S.length L B) V ar am (rkL c (done++ls) r) (λz=>(jC nd (rkL c (done++ls) r) z:Int)) i/\i[ab]? = some (.lst (d.map .str))/\LI nd V c (rkL c (done++ls) r) d
 | [],done,as,s,v7,v8,_,_,h,_,y,j=>⟨v7,v8,s,as,rfl,by rw[ZS];exact h,y,by rw[ZS];exact j⟩
 | l::ls,done,as,s,v7,v8,hd,U,h,ha,y,j=>by
  obtain⟨A,C⟩:=U l jI;have E:l∉done:=λz=>by
   rw[xP] at hd;exact hd.2.2 l z l jI rfl
  have Y:rkL c done r l=none:=by unfold rkL;rw[if_neg E];exact C
  have m:∀ x∈B l,x∈V:=λx n=>by
   obtain⟨q,v,w,_⟩:=(nb.mem l x).mp n;exact (g x).mpr (.inl (by unfold zZ;exact List.mem_map.mpr ⟨q,v,w⟩))
  have la:=yx j.un λx n=>((j.mem x).mp n).1;have lB:=yx (nb.nb l).1 (nb.nb l).2;obtain⟨f,s1,e1,len1,fr,v,b1⟩:=gj nb (by omega) h H n1 n2 y A m (by omega) (r:=r) (v0:=v0) (v4:=v4) (v7:=v7) (v8:=v8);have G:=(List.getElem?_eq_some_iff.mp ha).1;have a1:s1[al]? = some (.lst lvD):=by rw[fr al G I J Q];exact ha
  have em:(λz=>if z∈B l then (jC nd (rkL c done r) z:Int) - 1 else (jC nd (rkL c done r) z:Int))=λz=>(jC nd (rkL c (done++[l]) r) z:Int):=by
   funext z
   rw[uF];have st:=wX (nd:=nd) (r:=r) Y z;by_cases hz:z∈B l
   ·rw[if_pos hz];rw[if_pos ((nb.need u l z).mp hz)] at st;omega
   ·rw[if_neg hz];rw[if_neg (λq=>hz ((nb.need u l z).mpr q))] at st;omega
  rw[em,<- uF] at v;have o:=j.step (r:=r) Y (nb.nb l).1 (nb.need u l) m;rw[<- uF] at o;obtain⟨e,p,i,d,e2,w,b2,t⟩:=AA nb hN u hV g H n1 n2 I J Q ls (done++[l]) _ s1 (some (.str l)) f (by rw[jg];exact hd) (λx n=>U x (jV _ n)) v a1 b1 o;rw[jg] at w t;refine⟨e,p,i,d,?_,w,b2,t⟩;have hg:zW [(al,O.lst lvD)] s1=true:=by simp[zW,a1]
  rw[jF,jb,e1];dsimp only;rw[if_pos hg];exact e2
noncomputable abbrev JW:TM:=zo cGt (zM qJ (zD (zA 4) zF)) (eC (.int 0))
noncomputable abbrev Je:SM:=(zK (zU 6 (j8 zF))
  (zK (jo (iE (zA 4)) (zY 7) Xq)
  (zK (zU 4 (zA 6))
  (vH Yj 5 (eC (.int 1))))))
theorem Cq (nb:NB N nd L B) (hN:N.length <= 170) (hn:(zZ nd).Nodup) (u:V.Nodup) (hV:V.length <= 170) (C:∀ x,x∈V↔inV nd x) :
  ∀ (n d r:Nat) (f:T->Option Nat) (lv:List T) (al:Nat) (s:M.S) (v6 v7 v8:Option D),kC V f <= n->n < d->WI nd V r f lv->RS3 (S++nS S.length L B) V ar am f (λz=>(jC nd f z:Int)) s->(S++nS S.length L B).length <= al->al≠ar->al≠am->s[al]? = some (.lst (lv.map .str)) ->
  ∃ g i j,yR d JW Je [v0,some (.ref S.length),some (.ref ar),some (.ref am),some (.ref al),some (.int r),v6,v7,v8] s=.nx g j/\g[2]? = some (some (.ref ar))/\RK nd V i/\zw (S++nS S.length L B) j/\j[ar]? = some (.dct (fD V λx=>rkD (i x))):=by
 intro n
 induction n with
 | zero =>
  intro d r f lv al s v6 v7 v8 hl hf w h la Q U ha;cases d with
  | zero=>omega
  | succ d =>
   cases lv with
   | nil =>
    have c:JW [v0,some (.ref S.length),some (.ref ar),some (.ref am),some (.ref al),some (.int r),v6,v7,v8] s=.ok false s:=by simp[ha]
    refine⟨_,f,s,by rw[yR,c];rfl,rfl,w.last,h.pre,h.r⟩
   | cons l lv =>
    have e:=(w.lm l).mp jI;have:=Uo (r:=r) u (lv:=l::lv) jI e.1 e.2.1;omega
 | succ n ih =>
  intro d r f lv al s v6 v7 v8 hl hf w h la Q U ha;cases d with
  | zero=>omega
  | succ d =>
   cases lv with
   | nil =>
    have c:JW [v0,some (.ref S.length),some (.ref ar),some (.ref am),some (.ref al),some (.int r),v6,v7,v8] s=.ok false s:=by simp[ha]
    refine⟨_,f,s,by rw[yR,c];rfl,rfl,w.last,h.pre,h.r⟩
   | cons l lv =>
    have c:JW [v0,some (.ref S.length),some (.ref ar),some (.ref am),some (.ref al),some (.int r),v6,v7,v8] s=.ok true s:=by
     simp[ha]
    have e:=(w.lm l).mp jI;have E:=Uo (r:=r) u (lv:=l::lv) jI e.1 e.2.1;have v:=(List.getElem?_eq_some_iff.mp h.r).1;have y:=(List.getElem?_eq_some_iff.mp h.m).1;have o:=(List.getElem?_eq_some_iff.mp ha).1;have h0:RS3 (S++nS S.length L B) V ar am (rkL f [] r) (λz=>(jC nd (rkL f [] r) z:Int)) (s++[.lst []]):=by
     rw[aF];refine⟨⟨qD h.pre.le (by simp),λq Y=>?_⟩,h.la,h.lm,h.ne,jB h.r _,jB h.m _⟩;rw[qF (jR Y h.pre.le),h.pre.eq q Y]
    have G:(s++[O.lst []])[s.length]? = some (.lst (([]:List T).map .str)):=jm;obtain⟨p,t,j,H,e2,h2,b2,A⟩:=AA nb hN hn hV C (ab:=s.length) (al:=al) (v0:=v0) (v4:=some (.ref al)) (lvD:=(l::lv).map .str) (qD la (kL o)) (qd v) (qd y) Q U (z4 o) (l::lv) [] [] (s++[.lst []]) v7 v8 w.nl (λx hx=>⟨((w.lm x).mp hx).1,((w.lm x).mp hx).2.1⟩) h0 (jB ha _) G (by rw[aF];exact LI.start);rw[yQ] at h2 A;have w':=w.next A;obtain⟨g,i,I,e3,J,hR,hp,hr⟩:=ih d (r+1) _ H s.length j (some (.ref s.length)) p t (by omega) (by omega) w' h2 (qD la (kL o)) (qd v) (qd y) b2;refine⟨g,i,I,?_,J,hR,hp,hr⟩;have eb:Je [v0,some (.ref S.length),some (.ref ar),some (.ref am),some (.ref al),some (.int r),v6,v7,v8] s=.nx [v0,some (.ref S.length),some (.ref ar),some (.ref am),some (.ref s.length),some (.int ((r+1:Nat):Int)),some (.ref s.length),p,t] j:=by
     have a0:(zU 6 (j8 zF)) [v0,some (.ref S.length),some (.ref ar),some (.ref am),some (.ref al),some (.int r),v6,v7,v8] s=.nx [v0,some (.ref S.length),some (.ref ar),some (.ref am),some (.ref al),some (.int r),some (.ref s.length),v7,v8] (s++[.lst []]):=by
      have z:0 <= SZ:=ZJ _;simp[z]
     show ((zU 6 (j8 zF)) _ _).then _=_;rw[a0,RS.then_nx];have hg:zW [(al,O.lst ((l::lv).map .str))] (s++[.lst []])=true:=by simp only[zW,Zd,Kz,jB ha _,decide_true,ya]
     have a1:(jo (iE (zA 4)) (zY 7) Xq) [v0,some (.ref S.length),some (.ref ar),some (.ref am),some (.ref al),some (.int r),some (.ref s.length),v7,v8] (s++[.lst []])=.nx [v0,some (.ref S.length),some (.ref ar),some (.ref am),some (.ref al),some (.int r),some (.ref s.length),p,t] j:=by
      simp only[jo,iE,zA,zk,zg,R.bind_ok,itD,jB ha [O.lst []],R.stm_ok,hg,if_true];exact e2
     show ((jo (iE (zA 4)) (zY 7) Xq) _ _).then _=_;rw[a1,RS.then_nx];simp
    rw[yR,c];show (match Je _ s with | .nx σ s=>yR d JW Je σ s | .ct σ s=>yR d JW Je σ s | .bk σ s=>.nx σ s | r=>r)=_;rw[eb];exact e3
end
theorem UE:∀ {V:List T} (acc:List (D×D)),V.Nodup->(∀ x∈V,(acc.any λp=>decide (p.1=.str x))=false)->(fD V f).foldl (λa p=>jA p.1 p.2 a) acc=acc++fD V f
 | [],acc,_,_=>by simp[fD]
 | v::V,acc,c,h=>by
  rw[Jt] at c;have e:jA (.str v) (f v) acc=acc++[(.str v,f v)]:=by
   unfold jA;rw[h v jI];rfl
  show (fD V f).foldl _ (jA (.str v) (f v) acc)=_;rw[e,UE _ c.2 λx d=>by
   rw[List.any_append,h x (jV _ d)];have:v≠x:=λq=>c.1 (q ▸ d);simp[this]]
  rw[jg];rfl
theorem aQ {V:List T} (c:V.Nodup):vu (fD V f)=fD V f:=by
 unfold vu;rw[UE [] c λ_ _=>rfl,yQ]
theorem W9 (f:T->D) (V:List T):QY (V.map λx=>.tup [.str x,f x])=some (fD V f):=Az (λx=>x) f V
theorem gf {f:T->D} (h:∀ x,D.cl n (f x)=true) (V:List T):O.cl n (.dct (fD V f))=true:=by
 show ((fD V f).all λp=>D.cl n p.1 && D.cl n p.2)=true;unfold fD;rw[WU];refine List.all_eq_true.mpr λx _=>?_;simp only[VJ,h x,Yn];rfl
theorem BX (n:Nat):∀ o:Option Nat,D.cl n (rkD o)=true
 | none=>rfl
 | some _=>rfl
theorem gz (nd:List (T×List T)) (x:T):jC nd (λ_=>none) x=(yA [] (nOf nd x)).length:=by
 unfold jC;have e:(λy:T=>((λ_:T=>(none:Option Nat)) y).isNone)=λ_=>true:=rfl;rw[e,List.filter_eq_self.mpr λ_ _=>rfl]
theorem WI.start {V:List T} (d:V.Nodup):WI nd V 0 (λ_=>none) (V.filter λz=>decide ((jC nd (λ_=>none) z:Int)=0)) :=
 ⟨d.sublist Ep,λz=>by rw[BV];simp,(λ_ _ h=>nomatch h),(λ_ _ h=>nomatch h),(λ_ h=>nomatch h),(λ_ _ h=>nomatch h),λ_ z hz=>by
  have h:=(List.mem_filter.mp hz).2;have e:jC nd (λ_=>none) z=0:=by have:=of_decide_eq_true h;omega
  have c:=xh.mp e;cases q:nOf nd z with
  | nil=>rfl
  | cons y ys=>rw[q] at c;exact absurd rfl (c y jI),λk h=>by omega⟩
theorem Af {S:M.S}{p:Nat}{kvs:List (D×D)} (hp:S[p]? = some (.dct kvs)) (dr:DR S kvs nd) (hn:(zZ nd).Nodup) (ok:OkN N nd) (hN:N.length <= 170) :
  ∃ V rk,V.Pairwise NLt/\V.Nodup/\(∀ x,x∈V↔inV nd x)/\V.length <= N.length/\RK nd V rk/\ZY [.ref p] S=alloc (.dct (fD V λx=>rkD (rk x))) S:=by
 obtain⟨L,B,e1,nb⟩:=Dt hp dr hn ok hN;have hplt:p < S.length:=(List.getElem?_eq_some_iff.mp hp).1;obtain⟨S1,u⟩:∃ S1,S1=S++nS S.length L B:=⟨_,rfl⟩
 have U:S1[p]? = some (.dct kvs):=by rw[u];exact jB hp _
 have H:DR S1 kvs nd:=by rw[u];exact dr.mono (j9.app _ _)
 have lS1:S.length < S1.length:=by rw[u];simp
 obtain⟨V,vs,Y,vm,vl,e2⟩:=gm U H hn ok hN;rw[<- u] at e1;have z2:2 <= SZ:=by unfold SZ;omega
 have zV:V.length <= SZ:=by unfold SZ;omega
 obtain⟨h,w⟩:∃ h,h=S1++[.lst (V.map .str),.lst (V.map λx=>.tup [.str x,.non]),.dct (fD V λ_=>.non)]:=⟨_,rfl⟩
 have I:zw S1 h:=by rw[w];exact zw.of _ _
 have s2:xO [some (.ref p),some (.ref S.length),none,none,none,none,none,none,none] S1=.nx [some (.ref p),some (.ref S.length),some (.ref (S1.length+2)),none,none,none,none,none,none] h:=by
  have gV:zW [(S1.length,O.lst (V.map .str))] (S1++[.lst (V.map .str)])=true:=by
   simp only[zW,Zd,Kz,jm,decide_true,ya]
  have gl:(S1++[O.lst (V.map .str)])[S1.length]? = some (.lst (V.map .str)):=jm;have ec:qT 1 (iE (zM J7 (zD (zA 0) zF))) (zY 9) je (ZU (zD (zA 9) (zD (eC .non) zF))) [some (.ref p),some (.ref S.length),none,none,none,none,none,none,none] S1=.ok (V.map λx=>.tup [.str x,.non]) (S1++[.lst (V.map .str)]):=by
   have:=dk (n:=1) (it:=iE (zM J7 (zD (zA 0) zF))) (tg:=zY 9) (e:=ZU (zD (zA 9) (zD (eC .non) zF))) (σ:=[some (.ref p),some (.ref S.length),none,none,none,none,none,none,none]) (s:=S1) (s1:=S1++[.lst (V.map .str)]) (xs:=V.map D.str) (g:=[(S1.length,.lst (V.map .str))]) (λd=>.tup [d,.non]) (by
    simp only[iE,zM,zD,zF,zA,zg,R.bind_ok,e2,alloc,itD,gl]) (by rw[z9];exact zV) gV λx hx=>by simp[z2]
   rw[this,yj];rfl
  have g1:(S1++[O.lst (V.map .str),.lst (V.map λx=>.tup [.str x,.non])])[S1.length+1]? = some (.lst (V.map λx=>.tup [.str x,.non])):=by
   rw[jP (by omega),show S1.length+1 - S1.length=1 by omega];rfl
  have l1:(fD V λ_=>D.non).length <= 1000:=by rw[XH];omega
  simp only[xO,ZE,zU,qC,qH,zM,zD,zF,qi,ec,R.bind_ok,alloc,jy,jU,yy,ja,jg,qz,yQ,QN,g1,W9,l1,if_true,aQ Y,R.stm_ok,J3,w,x3]
 have y:h[S1.length+2]? = some (.dct (fD V λ_=>.non)):=by
  rw[w,jP (by omega),show S1.length+2 - S1.length=2 by omega];rfl
 have lS2:h.length=S1.length+3:=by rw[w];simp
 obtain⟨c,i⟩:∃ c,c=h.set (S1.length+2) (.fdc (fD V λ_=>.non)):=⟨_,rfl⟩
 have hp2f:c[p]? = some (.dct kvs):=by rw[i,yi (by omega),I.eq p (by omega)];exact U
 have hr2f:c[S1.length+2]? = some (.fdc (fD V λ_=>.non)):=by rw[i];exact JS y
 have E:DR c kvs nd:=H.mono λq xs e=>by
  have hq:=(List.getElem?_eq_some_iff.mp e).1;rw[i,yi (by omega),I.eq q hq];exact e
 obtain⟨t,ec3⟩:∃ t,qT 1 (ZF (zA 2)) (zY 9) je (ZU (zD (zA 9) (zD (zM xF (zD (eM .dict yh (zA 0) (zD (zA 9) (zD (j8 zF) zF))) zF)) zF))) [some (.ref p),some (.ref S.length),some (.ref (S1.length+2)),none,none,none,none,none,none] c=.ok (V.map λx=>.tup [.str x,.int (jC nd (λ_=>none) x:Nat)]) (c++t):=by
  obtain⟨t,e⟩:=fN (n:=1) (it:=ZF (zA 2)) (tg:=zY 9) (e:=ZU (zD (zA 9) (zD (zM xF (zD (eM .dict yh (zA 0) (zD (zA 9) (zD (j8 zF) zF))) zF)) zF))) (σ:=[some (.ref p),some (.ref S.length),some (.ref (S1.length+2)),none,none,none,none,none,none]) (s:=c) (xs:=V.map D.str) (g:=[]) (λd=>match d with | .str x=>.tup [.str x,.int (jC nd (λ_=>none) x:Nat)] | d=>d) (by
   simp only[ZF,zA,zk,zg,R.bind_ok,hr2f,uU]) (by rw[z9];exact zV) rfl λd hd t=>by
    obtain⟨x,hx,rfl⟩:=List.mem_map.mp hd;refine⟨t++[.lst []],?_⟩;have hpt:∀ g,(c++g)[p]? = some (.dct kvs):=λg=>jB hp2f g;obtain⟨r,er,el⟩:∃ r,(jD (.str x) kvs).getD (.ref (c++t).length)=.ref r/\(c++(t++[O.lst []]))[r]? = some (.lst ((nOf nd x).map .str)):=by
     rcases E.get x with ⟨J,Q⟩ | ⟨row,r,J,Q,h3⟩
     ·refine⟨(c++t).length,by rw[Q];rfl,?_⟩;unfold nOf;rw[J,<- jg];exact jm
     ·refine⟨r,by rw[Q];rfl,?_⟩;unfold nOf;rw[J];exact jB h3 _
    have lr:(nOf nd x).length <= 1000:=by
     unfold nOf;cases q:nd.lookup x with
     | none=>simp
     | some row =>
      have hm:(x,row)∈nd:=by
       have:∃ r,r∈nd/\r.1=x/\r.2=row:=by
        clear E H dr ok hn nb vm er el
        induction nd with
        | nil=>cases q
        | cons a nd ih =>
         obtain⟨k,v⟩:=a;rw[yz] at q;cases hk:x == k with
         | true=>rw[hk] at q;have:=eq_of_beq hk;subst this;cases q;exact⟨(x,row),jI,rfl,rfl⟩
         | false =>
          rw[hk] at q;obtain⟨r,J,Q⟩:=ih q;exact⟨r,jV _ J,Q⟩
       obtain⟨r,J,Q,h3⟩:=this;rw[<- Q,<- h3];exact J
      have:=(ok _ hm).2.1;show row.length <= 1000;have h':row.length <= 10:=this;omega
    have elr:=vB el;simp only[qB,zY,je,qz,yQ,zq,qC,qH,R.bind_ok,if_true,ZU,zD,zF,zA,zk,zg,zM,eM,yM,hpt,j8,yy,ZJ,alloc,jg,yh,z6,er,xF,elr,YJ,lr,gz,jU,z2,x3]
  refine⟨t,?_⟩;rw[e,yj];rfl
 obtain⟨l,A⟩:∃ l,l=h++(t++[.lst (V.map λx=>.tup [.str x,.int (jC nd (λ_=>none) x:Nat)]),.dct (fD V λx=>.int (jC nd (λ_=>none) x:Nat))]):=⟨_,rfl⟩
 have G:c.length=h.length:=by rw[i,qE]
 have s3:xM [some (.ref p),some (.ref S.length),some (.ref (S1.length+2)),none,none,none,none,none,none] h=.nx [some (.ref p),some (.ref S.length),some (.ref (S1.length+2)),some (.ref (h.length+t.length+1)),none,none,none,none,none] l:=by
  have ht:=Js (g:=t++[.lst (V.map λx=>.tup [.str x,.int (jC nd (λ_=>none) x:Nat)]),.dct (fD V λx=>.int (jC nd (λ_=>none) x:Nat))]) y [some (.ref p),some (.ref S.length),some (.ref (S1.length+2)),some (.ref (h.length+t.length+1)),none,none,none,none,none];rw[<- i] at ht;have g1:(c++(t++[O.lst (V.map λx=>.tup [.str x,.int (jC nd (λ_=>none) x:Nat)])]))[h.length+t.length]? = some (.lst (V.map λx=>.tup [.str x,.int (jC nd (λ_=>none) x:Nat)])):=by
   rw[<- jg,show h.length+t.length=(c++t).length by rw[jy,G]];exact jm
  have l1:(fD V λx=>D.int (jC nd (λ_=>none) x:Nat)).length <= 1000:=by rw[XH];omega
  simp only[xM,ZE,JH,qC,qH,zk,zg,y,<- i,zU,zM,zD,zF,qi,ec3,R.bind_ok,alloc,jy,G,jU,yy,ja,jg,qz,yQ,QN,g1,W9,l1,if_true,aQ Y,R.stm_ok,<- XU,ht,J3,A]
 have pS3:zw h l:=by rw[A];exact zw.of _ _
 have C:l[S1.length+2]? = some (.dct (fD V λ_=>.non)):=by rw[pS3.eq _ (by omega)];exact y
 have hm3:l[h.length+t.length+1]? = some (.dct (fD V λx=>.int (jC nd (λ_=>none) x:Nat))):=by
  rw[A,<- jg,jP (by rw[jy];omega),jy,show h.length+t.length+1 - (h.length+t.length)=1 by omega];rfl
 obtain⟨o,m⟩:∃ o,o=l.set (S1.length+2) (.fdc (fD V λ_=>.non)):=⟨_,rfl⟩
 have hr3f:o[S1.length+2]? = some (.fdc (fD V λ_=>.non)):=by rw[m];exact JS C
 have hm3f:o[h.length+t.length+1]? = some (.dct (fD V λx=>.int (jC nd (λ_=>none) x:Nat))):=by rw[m,yi (by omega)];exact hm3
 have ec4:qT 1 (ZF (zA 2)) (zY 9) (zo cEq (eOp ze (zA 3) (zA 9)) (eC (.int 0))) (zA 9) [some (.ref p),some (.ref S.length),some (.ref (S1.length+2)),some (.ref (h.length+t.length+1)),none,none,none,none,none] o=.ok ((V.filter λz=>decide ((jC nd (λ_=>none) z:Int)=0)).map .str) o:=by
  refine fH (n:=1) (g:=[]) (λz=>decide ((jC nd (λ_=>none) z:Int)=0)) (by
   simp only[ZF,zA,zk,zg,R.bind_ok,hr3f,uU]) zV rfl λx hx=>?_
  have d:=x4 (f:=λx=>D.int (jC nd (λ_=>none) x:Nat)) hx;simp only[qB,zY,qz,yQ,zq,qC,qH,zo,eOp,zA,eC,zk,zg,R.bind_ok,ze,hm3f,z6,if_true,d,cEq,eqD];split<;>rfl
 have s4:J9 [some (.ref p),some (.ref S.length),some (.ref (S1.length+2)),some (.ref (h.length+t.length+1)),none,none,none,none,none] l=.nx [some (.ref p),some (.ref S.length),some (.ref (S1.length+2)),some (.ref (h.length+t.length+1)),some (.ref l.length),none,none,none,none] (l++[.lst ((V.filter λz=>decide ((jC nd (λ_=>none) z:Int)=0)).map .str)]):=by
  have ht:=Js (g:=[.lst ((V.filter λz=>decide ((jC nd (λ_=>none) z:Int)=0)).map .str)]) C [some (.ref p),some (.ref S.length),some (.ref (S1.length+2)),some (.ref (h.length+t.length+1)),some (.ref l.length),none,none,none,none];rw[<- m] at ht;have lS3f:o.length=l.length:=by rw[m,qE]
  simp only[J9,ZE,JH,qC,qH,zk,zg,C,<- m,zU,qi,ec4,R.bind_ok,alloc,lS3f,R.stm_ok,ht,J3]
 have lS3:l.length=h.length+t.length+2:=by rw[A];simp;omega
 have hRS:RS3 (S++nS S.length L B) V (S1.length+2) (h.length+t.length+1) (λ_=>none) (λz=>(jC nd (λ_=>none) z:Int)) (l++[.lst ((V.filter λz=>decide ((jC nd (λ_=>none) z:Int)=0)).map .str)]):=by
  rw[<- u];refine⟨⟨by rw[jy];omega,λq hq=>?_⟩,by omega,by omega,by omega,jB C _,jB hm3 _⟩;rw[qF (by omega),pS3.eq q (by omega),I.eq q hq]
 obtain⟨σ',rk',s',e6,hσ,hR,hpre,hr⟩:=Cq (v0:=some (.ref p)) nb hN hn Y (by omega) vm (kC V λ_=>none) J5 0 (λ_=>none) _ l.length _ none none none (zd _) (by
  have:kC V (λ_=>none) <= V.length:=HC _ _;unfold J5;omega) (WI.start Y) hRS (by rw[<- u];omega) (by omega) (by omega) jm
 obtain⟨g,hg⟩:=hpre.app;have eg:s'=S++(nS S.length L B++g):=by rw[hg,jg]
 refine⟨V,rk',vs,Y,vm,vl,hR,?_⟩;rw[eg] at e6 hr;refine Kh (g:=nS S.length L B++g) (j:=S1.length+2) ?_ hr (by omega) (gf (λx=>BX _ _) V);show (zK Jb (zK xO (zK xM (zK J9 (zK xm (zK xr Xf))))) [some (.ref p),none,none,none,none,none,none,none,none] S).out=_;have s1:Jb [some (.ref p),none,none,none,none,none,none,none,none] S=.nx [some (.ref p),some (.ref S.length),none,none,none,none,none,none,none] S1:=by
  simp only[Jb,zU,zM,zD,zF,zA,zg,R.bind_ok,e1,R.stm_ok,qC,qH]
 show ((Jb _ _).then _).out=_;rw[s1,RS.then_nx];show ((xO _ _).then _).out=_;rw[s2,RS.then_nx];show ((xM _ _).then _).out=_;rw[s3,RS.then_nx];show ((J9 _ _).then _).out=_;rw[s4,RS.then_nx];have s5:∀ s,xm [some (.ref p),some (.ref S.length),some (.ref (S1.length+2)),some (.ref (h.length+t.length+1)),some (.ref l.length),none,none,none,none] s=.nx [some (.ref p),some (.ref S.length),some (.ref (S1.length+2)),some (.ref (h.length+t.length+1)),some (.ref l.length),some (.int ((0:Nat):Int)),none,none,none] s:=λs=>rfl;show ((xm _ _).then _).out=_;rw[s5,RS.then_nx];show ((xr _ _).then _).out=_;have s6:xr=Kg JW Je:=rfl;rw[s6];show ((yR J5 JW Je _ _).then _).out=_;rw[e6,RS.then_nx];simp only[Xf,jM,zA,hσ,R.stm_ok,RS.out_rt]
noncomputable def XW:SM :=
  (jM (vO (Zz cEq (zM y1 (zD (zA 0) zF)) (zM y1 (zD (zA 1) zF))) (Zz cEq (zA 0) (zA 1))))
noncomputable def Ue:F:=fn 2 XW
noncomputable def k4:F:=chS Ue
theorem Bo:j3 2 Ue k4:=Vd _
theorem ff {s:M.S}{h n:Nat}{kvs f:List (D×D)} (i:s[h]? = some (.dct f)) (j:s[n]? = some (.dct kvs)) (c:DR s f nd) (l:DR s kvs nd) (m:(zZ nd).Nodup):k4 [.ref h,.ref n] s=.ok (.bl true) s:=by
 have d:=l.keysT;have e:=c.keysT;have o:eqD (.ref s.length) (.ref (s.length+1)) (s++[O.lst ((zZ nd).map D.str),.lst ((zZ nd).map D.str)])=.ok true (s++[O.lst ((zZ nd).map D.str),.lst ((zZ nd).map D.str)]):=by
  rw[aX (ts:=zZ nd) (us:=zZ nd) (by simp) (by simp)];simp
 have l1:y1 [.ref h] s=.ok (.ref s.length) (s++[O.lst ((zZ nd).map D.str)]):=by
  simp only[y1,i,e,alloc]
 have p:y1 [.ref n] (s++[O.lst ((zZ nd).map D.str)])=.ok (.ref (s.length+1)) (s++[O.lst ((zZ nd).map D.str),.lst ((zZ nd).map D.str)]):=by
  simp only[y1,jB j _,d,alloc];simp
 have q:=FX (jB i [O.lst ((zZ nd).map D.str),.lst ((zZ nd).map D.str)]) (jB j [O.lst ((zZ nd).map D.str),.lst ((zZ nd).map D.str)]) (c.mono (j9.app _ _)) (l.mono (j9.app _ _)) m;refine uB (g:=[O.lst ((zZ nd).map D.str),.lst ((zZ nd).map D.str)]) ?_ rfl;show ((XW [some (.ref h),some (.ref n)] s).out)=_;simp only[XW,jM,vO,Zz,zA,zM,zD,zF,zk,zg,R.bind_ok,l1,p,cEq,o,asB,if_true,q,R.stm_ok,RS.out_rt]
noncomputable def Ym:SM :=
  (jM (vO (zM Zt (zD (zA 0) (zD (eC (.ty .int)) zF))) (Wy (zM Zt (zD (zA 0) (zD (eC (.ty .bool)) zF))))))
noncomputable def wh:F:=fn 1 Ym
noncomputable def Xn:F:=chS wh
theorem Eu:j3 1 wh Xn:=Vd _
theorem bp (k:Int) (s:M.S):Xn [.int k] s=.ok (.bl true) s:=uB (g:=[]) (by rw[ZS];rfl) rfl
noncomputable def xD:SM :=
  (zU 3 (eOp ze (zA 0) (zA 2)))
noncomputable def J8:SM :=
  (zU 4 (qi 1 (iE (eM .dict yh (zA 1) (zD (zA 2) (zD (j8 zF) zF)))) (zY 5) je (eOp ze (zA 0) (zA 5))))
noncomputable def Zq:SM :=
  (sIf (xf (zA 3))
  (jM (Zz cIn (eC .non) (zA 4)))
  jL)
noncomputable def Q7:SM :=
  (sIf (tOr (yt (ZK (zM Xn (zD (zA 3) zF)))) (zo cIn (eC .non) (zA 4)))
  (jM (eC (.bl false)))
  jL)
noncomputable def JY:SM :=
  (jM (Zz cEq (zA 3) (zM ke (zD (qi 1 (iE (zA 4)) (zY 5) je (eOp z8 (zA 5) (eC (.int 1)))) zF))))
noncomputable def uY:SM:=(zK xD (zK J8 (zK Zq (zK Q7 JY))))
noncomputable def Ab:F:=fn 5 uY
noncomputable def Qk:F:=chS Ab
theorem fe:j3 3 Ab Qk:=Vd _
theorem U9 {s:M.S}{n:Nat}{kvs:List (D×D)} (g:s[n]? = some (.dct kvs)) (e:DR s kvs nd) (x:T):∃ r,(jD (.str x) kvs).getD (.ref s.length)=.ref r/\(s++[O.lst []])[r]? = some (.lst ((nOf nd x).map .str)):=by
 rcases e.get x with ⟨c,d⟩ | ⟨row,r,c,d,f⟩
 ·refine⟨s.length,by rw[d];rfl,?_⟩;unfold nOf;rw[c];exact jm
 ·refine⟨r,by rw[d];rfl,?_⟩;unfold nOf;rw[c];exact jB f _
theorem As {g:Gd}{c:Type}{F:D->M.S->R (Option D)}{s:M.S} (f h:c->D) (d:zW g s=true):∀ as:List c,(∀ a∈as,F (f a) s=.ok (some (h a)) s)->q8 g F (as.map f) s=.ok (as.map h) s
 | [],_=>rfl
 | a::as,H=>by
  rw[jF,q8,H a jI,R.bind_ok,if_pos d,As f h d as λb e=>H b (jV _ e)];rfl
theorem wV {n:Nat}{it:IM}{tg:GM}{e:EM}{σ:St}{s s1:M.S}{c:Type}{as:List c} (f h:c->D) {g:Gd} (hi:it σ s=.ok (as.map f,g) s1) (i:as.length <= SZ) (d:zW g s1=true) (j:∀ a∈as,qB n tg je e σ (f a) s1=.ok (some (h a)) s1):qT n it tg je e σ s=.ok (as.map h) s1:=by
 unfold qT;rw[hi,R.bind_ok];simp only[z9,i,decide_true,d,ya,and_self,if_true];exact As f h d as j
theorem rkN:rkD none=.non:=rfl
theorem rkS (k:Nat):rkD (some k)=.int k:=rfl
theorem Ao (c:T->Option Nat):∀ ys:List T,Zl .non (ys.map λy=>rkD (c y))=ys.any λy=>(c y).isNone
 | []=>rfl
 | y::ys=>by
  have d:=Ao c ys;rw[jF,yp,<- d];cases c y<;>rfl
theorem Bk (c:T->Option Nat) (ys:List T):(flat .non && (ys.map λy=>rkD (c y)).all flat)=true:=by
 rw[WU];refine (jl _ _).mpr ⟨rfl,List.all_eq_true.mpr λy _=>?_⟩;show flat (rkD (c y))=true;cases c y<;>rfl
theorem U7 {m:Int}:∀ (r:List Int) (b:Int),b <= m->(∀ y∈r,y <= m)->(b=m\/m∈r)->r.foldl (λb y=>if b < y then y else b) b=m
 | [],b,_,_,h=>by
  rcases h with h | h
  ·exact h
  ·cases h
 | y::r,b,d,c,h=>by
  have e:=c y jI;rw[Qi];refine U7 r _ (by split<;>omega) (λz hz=>c z (jV _ hz)) ?_;rcases h with h | h
  ·left;rw[if_neg (by omega)];exact h
  ·rcases List.mem_cons.mp h with h | h
   ·left;split<;>omega
   ·exact .inr h
theorem Fd {l:List Int}{m:Int} (hm:m∈l) (h:∀ y∈l,y <= m):u2 l=some m:=by
 cases l with
 | nil=>cases hm
 | cons x r =>
  show some (r.foldl (λb y=>if b < y then y else b) x)=_;rw[U7 r x (h x jI) (λy c=>h y (jV _ c)) (by
   rcases List.mem_cons.mp hm with e | e
   ·exact .inl e.symm
   ·exact .inr e)]
theorem eH {s:M.S}{a n:Nat}{V:List T}{c:T->Option Nat}{kvs:List (D×D)} (ha:s[a]? = some (.dct (fD V λx=>rkD (c x)))) (m:s[n]? = some (.dct kvs)) (G:DR s kvs nd) (h:RK nd V c) (H:∀ x y,y∈nOf nd x->y∈V) {x:T} (A:x∈V) (hl:(nOf nd x).length <= 1000) :
  Qk [.ref a,.ref n,.str x] s=.ok (.bl true) s:=by
 obtain⟨r,I,B⟩:=U9 m G x;have o:∀ g,(s++g)[a]? = some (.dct (fD V λx=>rkD (c x))):=λg=>jB ha g;have J:jD (.str x) (fD V λx=>rkD (c x))=some (rkD (c x)):=x4 A;have hz:(nOf nd x).length <= SZ:=by unfold SZ;omega
 have L:=H x;have low:=h.low x;have near:=h.near x;have zero:=h.zero x;have no:=h.no x A;generalize nOf nd x=Y at *;have s1:xD [some (.ref a),some (.ref n),some (.str x),none,none] s=.nx [some (.ref a),some (.ref n),some (.str x),some (rkD (c x)),none] s:=by
  simp only[xD,zU,eOp,zA,zk,zg,R.bind_ok,ze,ha,z6,if_true,J,R.stm_ok,qC,qH]
 have N:J8 [some (.ref a),some (.ref n),some (.str x),some (rkD (c x)),none] s=.nx [some (.ref a),some (.ref n),some (.str x),some (rkD (c x)),some (.ref (s.length+1))] (s++[.lst [],.lst (Y.map λy=>rkD (c y))]):=by
  have p:zW [(r,O.lst (Y.map .str))] (s++[.lst []])=true:=by simp only[zW,Zd,Kz,B,decide_true,ya]
  have t:=wV (n:=1) (it:=iE (eM .dict yh (zA 1) (zD (zA 2) (zD (j8 zF) zF)))) (tg:=zY 5) (e:=eOp ze (zA 0) (zA 5)) (σ:=[some (.ref a),some (.ref n),some (.str x),some (rkD (c x)),none]) (s:=s) (s1:=s++[.lst []]) (as:=Y) D.str (λy=>rkD (c y)) (g:=[(r,O.lst (Y.map .str))]) (by
   simp only[iE,eM,zA,zk,zg,R.bind_ok,yM,m,if_true,zD,zF,j8,yy,ZJ,alloc,yh,jB m [O.lst []],z6,I,itD,B]) hz p λy f=>by
    have Q:jD (.str y) (fD V λx=>rkD (c x))=some (rkD (c y)):=x4 (L y f);simp only[qB,zY,qz,yQ,zq,qC,qH,je,R.bind_ok,if_true,eOp,zA,zk,zg,ze,o,z6,Q]
  simp only[J8,zU,qi,t,R.bind_ok,alloc,R.stm_ok,qC,qH,jy,jU,yy,ja,jg,qz,yQ]
 have i:(s++[O.lst [],.lst (Y.map λy=>rkD (c y))])[s.length+1]? = some (.lst (Y.map λy=>rkD (c y))):=by rw[jP (by omega),show s.length+1 - s.length=1 by omega];rfl
 have d:∀ g,(zK Zq (zK Q7 JY) [some (.ref a),some (.ref n),some (.str x),some (rkD (c x)),some (.ref (s.length+1))] (s++[.lst [],.lst (Y.map λy=>rkD (c y))])).out=.ok (.bl true) (s++g)->Qk [.ref a,.ref n,.str x] s=.ok (.bl true) s:=λg e=>by
  refine uB (g:=g) ?_ rfl;show (zK xD (zK J8 (zK Zq (zK Q7 JY))) [some (.ref a),some (.ref n),some (.str x),none,none] s).out=_;show ((xD _ _).then _).out=_;rw[s1,RS.then_nx];show ((J8 _ _).then _).out=_;rw[N,RS.then_nx];exact e
 have fl:=Bk c Y;have C:=Ao c Y;cases q:c x with
 | none =>
  rw[q] at d;obtain⟨y,l,u⟩:=no q;have v:(Y.any λy=>(c y).isNone)=true:=List.any_eq_true.mpr ⟨y,l,by rw[u];rfl⟩;refine d [.lst [],.lst (Y.map λy=>rkD (c y))] ?_;have w:Zq [some (.ref a),some (.ref n),some (.str x),some (rkD none),some (.ref (s.length+1))] (s++[.lst [],.lst (Y.map λy=>rkD (c y))])=.rt (.bl true) (s++[.lst [],.lst (Y.map λy=>rkD (c y))]):=by
   simp only[Zq,sIf,xf,zA,zk,zg,R.bind_ok,rkN,rkS,Ku,R.stm_ok,if_true,jM,Zz,cIn,eC,inD,i,fl,C,v]
  show ((Zq _ _).then _).out=_;rw[w];rfl
 | some k =>
  rw[q] at d;have low:=low k q;have v:(Y.any λy=>(c y).isNone)=false:=by
   rw[cE];intro y f;obtain⟨j,_,e⟩:=low y f;rw[e];exact jt
  have w:Zq [some (.ref a),some (.ref n),some (.str x),some (rkD (some k)),some (.ref (s.length+1))] (s++[.lst [],.lst (Y.map λy=>rkD (c y))])=.nx [some (.ref a),some (.ref n),some (.str x),some (rkD (some k)),some (.ref (s.length+1))] (s++[.lst [],.lst (Y.map λy=>rkD (c y))]):=by
   simp only[Zq,sIf,xf,zA,zk,zg,R.bind_ok,rkN,rkS,Ku,R.stm_ok,jW,if_false,jL]
  have U:Q7 [some (.ref a),some (.ref n),some (.str x),some (rkD (some k)),some (.ref (s.length+1))] (s++[.lst [],.lst (Y.map λy=>rkD (c y))])=.nx [some (.ref a),some (.ref n),some (.str x),some (rkD (some k)),some (.ref (s.length+1))] (s++[.lst [],.lst (Y.map λy=>rkD (c y))]):=by
   simp only[Q7,sIf,tOr,yt,ZK,zM,zD,zF,zA,eC,zo,cIn,inD,zk,zg,R.bind_ok,rkN,rkS,bp,ZI,Ji,i,fl,C,v,R.stm_ok,jW,if_false,if_true,jL]
  refine d [.lst [],.lst (Y.map λy=>rkD (c y)),.lst (Y.map λy=>.int (((c y).getD 0:Nat)+1))] ?_;have s5:JY [some (.ref a),some (.ref n),some (.str x),some (.int k),some (.ref (s.length+1))] (s++[.lst [],.lst (Y.map λy=>rkD (c y))])=.rt (.bl true) (s++[.lst [],.lst (Y.map λy=>rkD (c y)),.lst (Y.map λy=>.int (((c y).getD 0:Nat)+1))]):=by
   have p:zW [(s.length+1,O.lst (Y.map λy=>rkD (c y)))] (s++[.lst [],.lst (Y.map λy=>rkD (c y))])=true:=by simp only[zW,Zd,Kz,i,decide_true,ya]
   have t:=wV (n:=1) (it:=iE (zA 4)) (tg:=zY 5) (e:=eOp z8 (zA 5) (eC (.int 1))) (σ:=[some (.ref a),some (.ref n),some (.str x),some (.int k),some (.ref (s.length+1))]) (s:=s++[.lst [],.lst (Y.map λy=>rkD (c y))]) (s1:=s++[.lst [],.lst (Y.map λy=>rkD (c y))]) (as:=Y) (λy=>rkD (c y)) (λy=>.int (((c y).getD 0:Nat)+1)) (g:=[(s.length+1,O.lst (Y.map λy=>rkD (c y)))]) (by
    simp only[iE,zA,zk,zg,R.bind_ok,itD,i]) hz p λy f=>by
     obtain⟨j,_,e⟩:=low y f;simp only[qB,zY,qz,yQ,zq,qC,qH,je,R.bind_ok,if_true,eOp,eC,zA,zk,zg,e,rkN,rkS,z8,fQ]
   have g5:(s++[.lst [],.lst (Y.map λy=>rkD (c y)),O.lst (Y.map λy=>.int (((c y).getD 0:Nat)+1))])[s.length+2]? = some (.lst (Y.map λy=>.int (((c y).getD 0:Nat)+1))):=by rw[jP (by omega),show s.length+2 - s.length=2 by omega];rfl
   have mx:ke [.ref (s.length+2)] (s++[.lst [],.lst (Y.map λy=>rkD (c y)),O.lst (Y.map λy=>.int (((c y).getD 0:Nat)+1))])=.ok (.int k) (s++[.lst [],.lst (Y.map λy=>rkD (c y)),O.lst (Y.map λy=>.int (((c y).getD 0:Nat)+1))]):=by
    simp only[ke,z7,g5];cases k with
    | zero=>rw[zero q];rfl
    | succ k =>
     obtain⟨y0,l,u⟩:=near k q;have ei:qa (Y.map λy=>D.int (((c y).getD 0:Nat)+1))=some (Y.map λy=>(((c y).getD 0:Nat):Int)+1):=by
      have:=ux (Y.map λy=>(((c y).getD 0:Nat):Int)+1)
      rwa [yj] at this
     have em:u2 (Y.map λy=>(((c y).getD 0:Nat):Int)+1)=some ((k+1:Nat):Int):=by
      refine Fd (List.mem_map.mpr ⟨y0,l,by rw[u];rfl⟩) λz hz=>?_;obtain⟨y,h3,E⟩:=List.mem_map.mp hz;obtain⟨j,h5,h6⟩:=low y h3;rw[h6] at E;simp only[fQ] at E;omega
     cases Y with
     | nil=>cases l
     | cons y ys =>
      show VL ((y::ys).map λy=>D.int (((c y).getD 0:Nat)+1)) _=_;simp only[VL,ei,em]
   simp only[JY,jM,Zz,zA,zk,zg,R.bind_ok,zM,zD,zF,qi,t,alloc,jy,jU,yy,ja,x3,jg,qz,yQ,mx,cEq,eqD,decide_true,R.stm_ok]
  show ((Zq _ _).then _).out=_;rw[w,RS.then_nx];show ((Q7 _ _).then _).out=_;rw[U,RS.then_nx];show (JY [some (.ref a),some (.ref n),some (.str x),some (.int k),some (.ref (s.length+1))] _).out=_;rw[s5];rfl
noncomputable def Jg:SM :=
  (zU 1 (zM QX (zD (zA 0) (zD (eC (.int 0)) zF))))
noncomputable def Jw:SM :=
  (zU 2 (zM vN (zD (zA 0) (zD (eC (.int 5)) (zD (zA 1) zF)))))
noncomputable def Zs:SM :=
  (sIf (zo cEq (eOp z5 (zM yb (zD (zA 0) (zD (eC (.int 18)) zF))) (eC (.int 30))) (eC (.int 7)))
  (zU 2 (zM vQ (zD (eOp yU (zM yb (zD (zA 0) (zD (eC (.int 18)) zF))) (eC (.int 30))) zF)))
  jL)
noncomputable def Qa:SM :=
  (zU 3 (zM JP (zD (zA 2) zF)))
noncomputable def QU:SM :=
  (zU 4 (zM Ql (zD (zA 2) zF)))
noncomputable def Qu:SM :=
  (jo (q7 (eC (.int 2))) (zY 5)
  (zK (zU 6 (zM ZY (zD (zA 3) zF)))
  (zK (sIf (tOr (yt (ZK (zM Zt (zD (zA 6) (zD (eC (.ty .dict)) zF))))) (tOr (zo cNe (zM y1 (zD (zA 6) zF)) (zA 4)) (yt (ZK (zM k4 (zD (zA 3) (zD (zA 2) zF)))))))
  (jM (eC (.bl false)))
  jL)
  (zK (jo (iE (zA 4)) (zY 7)
  (sIf (yt (ZK (zM Qk (zD (zA 6) (zD (zA 2) (zD (zA 7) zF))))))
  (jM (eC (.bl false)))
  jL))
  (zK (zU 8 (zM Zh (zD (zA 6) zF)))
  (zK (zU 9 (zM ZY (zD (Q9 (zD (eOp ze (zA 1) (eC (.int 0))) (zD (j8 (zD (eOp z8 (eOp ze (zA 1) (eC (.int 0))) (eC (.str [122]))) zF)) zF))) zF)))
  (zK (sIf (tOr (zo cNe (zM Zh (zD (zA 6) zF)) (zA 8)) (zo cNe (zM qJ (zD (zA 9) zF)) (eC (.int 2))))
  (jM (eC (.bl false)))
  jL)
  (zK (Z4 (eM .dict KA (zA 6) zF))
  (zK (jE (zA 3) (eOp ze (zA 1) (eC (.int 0))) (eOp z8 (eM .dict yh (zA 3) (zD (eOp ze (zA 1) (eC (.int 0))) (zD (j8 zF) zF))) (eSl (zA 1) (yr (eUn vI (eC (.int 1)))) J0)))
  (zK (zU 2 (zM JP (zD (zA 3) zF)))
  (zU 4 (zM Ql (zD (zA 2) zF)))))))))))))
noncomputable def ki:SM :=
  (jM (eC (.bl true)))
noncomputable def uG:SM:=(zK Jg (zK Jw (zK Zs (zK Qa (zK QU (zK Qu ki))))))
noncomputable def X3:F:=fn 10 uG
theorem zw.get (h:zw s c) {q:Nat}{o:O} (e:s[q]? = some o):c[q]? = some o:=by
 rw[h.eq q (List.getElem?_eq_some_iff.mp e).1];exact e
theorem zw.keep (h:zw s c):j9 s c:=λ_ _ e=>h.get e
theorem zw.trans {a b:M.S} (h:zw a b) (k:zw b c):zw a c:=⟨qD h.le k.le,λq d=>by rw[k.eq q (jR d h.le),h.eq q d]⟩
theorem zw.set (h:zw s c) {q:Nat} (e:s.length <= q) (o:O):zw s (c.set q o):=⟨by rw[qE];exact h.le,λr d=>by rw[yi (by omega)];exact h.eq r d⟩
theorem WJ {b:Nat} (d:(zZ nd).Nodup) (h:OkB b N nd) (x:T):(nOf nd x).length <= b/\∀ t∈nOf nd x,t∈N:=by
 refine⟨?_,λt i=>?_⟩
 ·cases q:nOf nd x with
  | nil=>simp
  | cons y ys =>
   have j:y∈nOf nd x:=by rw[q];simp
   obtain⟨p,c,f,g⟩:=(VP d).mp j;have e:nOf nd x=p.2:=by unfold nOf;rw[<- f,KH d c];rfl
   rw[<- q,e];exact (h p c).2.1
 ·obtain⟨p,c,f,g⟩:=(VP d).mp i;exact (h p c).2.2 t g
structure TS (N:List T) (n h e:Nat) (nd:List (T×List T)) (s:M.S):Prop where
 n0:s[0]? = some (.lst (N.map .str))
 dn:∃ kvs,s[n]? = some (.dct kvs)/\DR s kvs nd
 dh:∃ hk,s[h]? = some (.dct hk)/\DR s hk nd
 ev:∃ E:List T,s[e]? = some (.lst (E.map .str))/\E.Pairwise NLt/\E.Nodup/\∀ x,x∈E↔inV nd x
theorem TS.mono (t:TS N n h e nd s) (p:zw s c):TS N n h e nd c :=
 ⟨p.get t.n0,let ⟨k,a,b⟩:=t.dn;⟨k,p.get a,b.mono p.keep⟩,let ⟨k,a,b⟩:=t.dh;⟨k,p.get a,b.mono p.keep⟩,let ⟨E,a,b⟩:=t.ev;⟨E,p.get a,b⟩⟩
theorem Yg {X Y:List T} (c:X.Nodup) (d:Y.Nodup) (e:X.Pairwise NLt) (f:Y.Pairwise NLt) (h:∀ x,x∈X↔x∈Y):X=Y :=
 ((ee c d).mpr h).eq_of_pairwise (λa b _ _ g i=>by
  exact Ez (List.not_lt.mp g) (List.not_lt.mp i)) e f
mutual
theorem Fo:∀ p:P,P.eqv p p=true
 | .non=>rfl
 | .bl b=>by simp[P.eqv]
 | .int b=>by simp[P.eqv]
 | .str b=>by simp[P.eqv]
 | .tup ps=>by simp only[P.eqv];exact Kr ps
 | .lst ps=>by simp only[P.eqv];exact Kr ps
theorem Kr:∀ ps:List P,P.eqvs ps ps=true
 | []=>rfl
 | p::ps=>by simp only[P.eqvs,Fo p,Kr ps,ya]
end
noncomputable def rkP:Option Nat->P
 | none=>.non
 | some k=>.int k
theorem Dv (g:Nat->Option P):∀ o,jZ g (rkD o)=some (rkP o)
 | none=>rfl
 | some _=>rfl
noncomputable abbrev itT (F:List (D×D)):List D:=F.map λq=>.tup [q.1,q.2]
theorem wG (g:Nat->Option P) (c:T->Option Nat):∀ V:List T,jZ.all g (itT (fD V λx=>rkD (c x)))=some (V.map λx=>.tup [.str x,rkP (c x)])
 | []=>rfl
 | x::V=>by
  have d:jZ g (.tup [.str x,rkD (c x)])=some (.tup [.str x,rkP (c x)]):=by
   show ((match jZ g (.str x),(match jZ g (rkD (c x)),some [] with | some p,some ps=>some (p::ps) | _,_=>none) with | some p,some ps=>some (p::ps) | _,_=>none)).map P.tup=_;rw[Dv];rfl
  show (match jZ g (.tup [.str x,rkD (c x)]),jZ.all g (itT (fD V λx=>rkD (c x))) with | some p,some ps=>some (p::ps) | _,_=>none)=_;rw[d,wG g c V];rfl
theorem bX:∀ o,P.dep (rkP o)=0
 | none=>by simp[rkP,P.dep]
 | some _=>by simp[rkP,P.dep]
theorem AE (c:T->Option Nat):∀ V:List T,P.deps (V.map λx=>P.tup [.str x,rkP (c x)]) <= 1
 | []=>by simp[P.deps]
 | x::V=>by
  have:=AE c V;simp only[jF,P.deps,P.dep,bX];omega
theorem FM {s:M.S}{p q:Nat}{V:List T}{c:T->Option Nat} (e:s[p]? = some (.lst (itT (fD V λx=>rkD (c x))))) (f:s[q]? = some (.lst (itT (fD V λx=>rkD (c x))))):eqD (.ref p) (.ref q) s=.ok true s:=by
 have d:∀ k:Nat,s[k]? = some (.lst (itT (fD V λx=>rkD (c x))))->toP Zm s (.ref k)=some (.lst (V.map λx=>.tup [.str x,rkP (c x)])):=λk g=>by
  show (match z7 s k with | some xs=>(jZ.all (λj=>toP 8 s (.ref j)) xs).map P.lst | none=>none)=_;rw[vB g];show (jZ.all _ (itT _)).map P.lst=_;rw[wG];rfl
 simp only[eqD,d p e,d q f];have:=AE c V;rw[if_pos (by simp only[P.dep];omega)];simp only[P.eqv,Kr]
theorem BB {s:M.S}{p:Nat}{a b:T} (c:a≠b) {kvs:List (D×D)} (d:s[p]? = some (.dct kvs)) (f:DR s kvs [(a,[b])]):∃ F,ZY [.ref p] s=alloc (.dct F) s/\F.length=2:=by
 obtain⟨V,n,o,g,h,r,u,e⟩:=Af (N:=[a,b]) d f (by simp[zZ]) (λq i=>by
  rw[List.mem_singleton.mp i];exact⟨by simp,by simp,λt j=>by rw[List.mem_singleton.mp j];simp⟩) (by simp)
 refine⟨_,e,?_⟩;have l:[a,b].Nodup:=by simp[c]
 have m:V.Perm [a,b]:=(ee g l).mpr λx=>by
  rw[h x];simp[inV,zZ]
 rw[XH,m.length_eq];rfl
noncomputable abbrev lb2:SM:=(sIf (tOr (yt (ZK (zM Zt (zD (zA 6) (zD (eC (.ty .dict)) zF))))) (tOr (zo cNe (zM y1 (zD (zA 6) zF)) (zA 4)) (yt (ZK (zM k4 (zD (zA 3) (zD (zA 2) zF)))))))
  (jM (eC (.bl false)))
  jL)
noncomputable abbrev lb3:SM:=(jo (iE (zA 4)) (zY 7)
  (sIf (yt (ZK (zM Qk (zD (zA 6) (zD (zA 2) (zD (zA 7) zF))))))
  (jM (eC (.bl false)))
  jL))
noncomputable abbrev lb4:SM:=(zU 8 (zM Zh (zD (zA 6) zF)))
noncomputable abbrev lb5:SM:=(zU 9 (zM ZY (zD (Q9 (zD (eOp ze (zA 1) (eC (.int 0))) (zD (j8 (zD (eOp z8 (eOp ze (zA 1) (eC (.int 0))) (eC (.str [122]))) zF)) zF))) zF)))
noncomputable abbrev lb6:SM:=(sIf (tOr (zo cNe (zM Zh (zD (zA 6) zF)) (zA 8)) (zo cNe (zM qJ (zD (zA 9) zF)) (eC (.int 2))))
  (jM (eC (.bl false)))
  jL)
noncomputable abbrev lb7:SM:=(Z4 (eM .dict KA (zA 6) zF))
noncomputable abbrev Xd:SM:=(jE (zA 3) (eOp ze (zA 1) (eC (.int 0))) (eOp z8 (eM .dict yh (zA 3) (zD (eOp ze (zA 1) (eC (.int 0))) (zD (j8 zF) zF))) (eSl (zA 1) (yr (eUn vI (eC (.int 1)))) J0)))
theorem Dw (t:TS N n h e nd s) (z:(zZ nd).Nodup) (ok:OkN A nd) (hA:A.length <= 170) {v0 v1 v5 v6 v7 v8 v9:Option D} :
  ∃ (V:List T) (o:T->Option Nat) (j:Option D) (C:M.S),(∀ r,zK (zU 6 (zM ZY (zD (zA 3) zF))) (zK lb2 (zK lb3 r)) [v0,v1,some (.ref n),some (.ref h),some (.ref e),v5,v6,v7,v8,v9] s=r [v0,v1,some (.ref n),some (.ref h),some (.ref e),v5,some (.ref s.length),j,v8,v9] C)/\zw s C/\C[s.length]? = some (.dct (fD V λx=>rkD (o x))):=by
 obtain⟨kvs,U,p⟩:=t.dn;obtain⟨hk,Y,u⟩:=t.dh;obtain⟨E,ge,es,en,hE⟩:=t.ev;obtain⟨V,o,vs,vn,vm,vl,hR,e1⟩:=Af Y u z ok hA;have G:V=E:=Yg vn en vs es λx=>(vm x).trans (hE x).symm;subst G;obtain⟨s1,l⟩:∃ s1,s1=s++[O.dct (fD V λx=>rkD (o x))]:=⟨_,rfl⟩
 have p1:zw s s1:=by rw[l];exact zw.of _ _
 have B:s1[s.length]? = some (.dct (fD V λx=>rkD (o x))):=by rw[l];exact jm
 obtain⟨i,m⟩:∃ i,i=s1++[O.lst (V.map .str)]:=⟨_,rfl⟩
 have H:zw s1 i:=by rw[m];exact zw.of _ _
 have c:=p1.trans H;have g2:i[s1.length]? = some (.lst (V.map .str)):=by rw[m];exact jm
 have I:=ff (c.get Y) (c.get U) (u.mono c.keep) (p.mono c.keep) z;have J:cNe (.ref s1.length) (.ref e) i=.ok false i:=by
  show (eqD _ _ i).bind _=_;rw[aX g2 (c.get ge),decide_eq_true rfl];rfl
 have v:=c.get ge;have hG:zW [(e,O.lst (V.map .str))] i=true:=by simp only[zW,Zd,Kz,v,decide_true,ya]
 have right:∀ x∈V,Qk [.ref s.length,.ref n,.str x] i=.ok (.bl true) i:=λx L=>by
  refine eH (H.get B) (c.get U) (p.mono c.keep) hR (λx y hy=>?_) L ?_
  ·obtain⟨q,h1,h2,h3⟩:=(VP z).mp hy;exact (vm y).mpr (.inr ⟨q,h1,h3⟩)
  ·have:=(WJ z ok x).1;omega
 obtain⟨σ5,e5,j,w⟩:=Uh (g:=[(e,O.lst (V.map .str))]) (f:=jO (zY 7) (sIf (yt (ZK (zM Qk (zD (zA 6) (zD (zA 2) (zD (zA 7) zF)))))) (jM (eC (.bl false))) jL)) (s:=i) hG
  (λσ=>∃ v7,σ=[v0,v1,some (.ref n),some (.ref h),some (.ref e),v5,some (.ref s.length),v7,v8,v9]) (V.map .str) [v0,v1,some (.ref n),some (.ref h),some (.ref e),v5,some (.ref s.length),v7,v8,v9] ⟨v7,rfl⟩ λd hd σ ⟨v7,Q⟩=>by
   obtain⟨x,L,rfl⟩:=List.mem_map.mp hd;subst Q;refine⟨[v0,v1,some (.ref n),some (.ref h),some (.ref e),v5,some (.ref s.length),some (.str x),v8,v9],?_,_,rfl⟩;simp only[jO,zY,qC,qH,sIf,yt,ZK,zM,zD,zF,zA,zk,zg,R.bind_ok,right x L,ZI,Ji,R.stm_ok,jW,if_false,jL]
 subst w;refine⟨V,o,j,i,λr=>?_,c,H.get B⟩;have b1:(zU 6 (zM ZY (zD (zA 3) zF))) [v0,v1,some (.ref n),some (.ref h),some (.ref e),v5,v6,v7,v8,v9] s=.nx [v0,v1,some (.ref n),some (.ref h),some (.ref e),v5,some (.ref s.length),v7,v8,v9] s1:=by
  simp only[zU,zM,zD,zF,zA,zk,zg,R.bind_ok,e1,alloc,R.stm_ok,qC,qH,l]
 have b2:lb2 [v0,v1,some (.ref n),some (.ref h),some (.ref e),v5,some (.ref s.length),v7,v8,v9] s1=.nx [v0,v1,some (.ref n),some (.ref h),some (.ref e),v5,some (.ref s.length),v7,v8,v9] i:=by
  have fl:y1 [.ref s.length] s1=.ok (.ref s1.length) i:=by simp only[y1,B,uU,alloc,m]
  simp only[lb2,sIf,tOr,yt,ZK,zo,zM,zD,zF,zA,eC,zk,zg,R.bind_ok,Zt,Zb,B,ZI,Ji,jW,if_false,fl,J,I,R.stm_ok,jL]
 have b3:lb3 [v0,v1,some (.ref n),some (.ref h),some (.ref e),v5,some (.ref s.length),v7,v8,v9] i=.nx [v0,v1,some (.ref n),some (.ref h),some (.ref e),v5,some (.ref s.length),j,v8,v9] i:=by
  simp only[lb3,jo,iE,zA,zk,zg,R.bind_ok,itD,v,R.stm_ok,hG,if_true];exact e5
 show ((zU 6 _) _ _).then _=_;rw[b1,RS.then_nx];show (lb2 _ _).then _=_;rw[b2,RS.then_nx];show (lb3 _ _).then _=_;rw[b3,RS.then_nx]
theorem B0 {N:List T}{s:M.S}{b e:Nat}{V:List T}{p:T->Option Nat} (J:s[0]? = some (.lst (N.map .str))) (hN:0 < N.length) (L:(N.getD 0 []).length <= 100) (hb:b <= e) (sb:M.S) (lb:sb.length=b) (Q:zw sb s) (H:s[e]? = some (.dct (fD V λx=>rkD (p x)))) {v0 v2 v3 v4 v5 v7 v8 v9:Option D} :
  ∃ (y A:Option D) (I:M.S),(∀ r,zK lb4 (zK lb5 (zK lb6 (zK lb7 r))) [v0,some (.ref 0),v2,v3,v4,v5,some (.ref e),v7,v8,v9] s=r [v0,some (.ref 0),v2,v3,v4,v5,some (.ref e),v7,y,A] I)/\zw sb I:=by
 obtain⟨c,l⟩:∃ c,c=s++[O.lst (itT (fD V λx=>rkD (p x)))]:=⟨_,rfl⟩
 have q:zw s c:=by rw[l];exact zw.of _ _
 have U:c[s.length]? = some (.lst (itT (fD V λx=>rkD (p x)))):=by rw[l];exact jm
 have Y:lb4 [v0,some (.ref 0),v2,v3,v4,v5,some (.ref e),v7,v8,v9] s=.nx [v0,some (.ref 0),v2,v3,v4,v5,some (.ref e),v7,some (.ref s.length),v9] c:=by
  simp only[lb4,zU,zM,zD,zF,zA,zk,zg,R.bind_ok,Zh,H,alloc,R.stm_ok,qC,qH,l]
 have B:atI (N.map D.str) 0=some (.str (N.getD 0 [])):=kQ (by omega) (by omega);generalize N.getD 0 []=a at *;obtain⟨f,j⟩:∃ f,f=c++[O.dct [(.str a,.ref (c.length+1))],.lst [.str (a++[122])]]:=⟨_,rfl⟩
 have p3:zw c f:=by rw[j];exact zw.of _ _
 have g3:f[c.length]? = some (.dct [(.str a,.ref (c.length+1))]):=by rw[j];exact jm
 have C:f[c.length+1]? = some (.lst [.str (a++[122])]):=by
  rw[j,jP (by omega),show c.length+1 - c.length=1 by omega];rfl
 obtain⟨F,e7,l7⟩:=BB (a:=a) (b:=a++[122]) (λz=>by have:=congrArg xX z;simp at this) g3 ⟨⟨c.length+1,rfl,C⟩,trivial⟩;obtain⟨h,m⟩:∃ h,h=f++[O.dct F]:=⟨_,rfl⟩
 have p4:zw f h:=by rw[m];exact zw.of _ _
 have f7:h[f.length]? = some (.dct F):=by rw[m];exact jm
 have ed:(Q9 (zD (eOp ze (zA 1) (eC (.int 0))) (zD (j8 (zD (eOp z8 (eOp ze (zA 1) (eC (.int 0))) (eC (.str [122]))) zF)) zF))) [v0,some (.ref 0),v2,v3,v4,v5,some (.ref e),v7,some (.ref s.length),v9] c=.ok (.ref c.length) f:=by
  have q0:∀ g,(c++g)[0]? = some (.lst (N.map .str)):=λg=>jB (q.get J) g;have z1:a.length+1 <= SZ:=by unfold SZ;omega
  have z2:1 <= SZ:=by unfold SZ;omega
  have gl:∀ (o:O) (g:M.S),(c++o::g)[c.length]? = some o:=λo g=>jm;have sl:∀ (o o':O) (g:M.S),(c++o::g).set c.length o'=c++o'::g:=λo o' g=>kH;have pu:∀ d,kW [.str a,d] []=some [(.str a,d)]:=λd=>rfl;simp only[Q9,zD,zF,eOp,zA,eC,zk,zg,R.bind_ok,ze,q0,B,j8,z8,z1,if_true,z2,alloc,jy,jU,yy,jg,qz,yQ,gl,pu,sl,ja,x3,Nat.reduceLeDiff,and_self,j]
 have b5:lb5 [v0,some (.ref 0),v2,v3,v4,v5,some (.ref e),v7,some (.ref s.length),v9] c=.nx [v0,some (.ref 0),v2,v3,v4,v5,some (.ref e),v7,some (.ref s.length),some (.ref f.length)] h:=by
  show ((zM ZY (zD (Q9 _) zF)) _ c).stm _ _=_;simp only[zM];rw[show ∀ σ s,zD (Q9 (zD (eOp ze (zA 1) (eC (.int 0))) (zD (j8 (zD (eOp z8 (eOp ze (zA 1) (eC (.int 0))) (eC (.str [122]))) zF)) zF))) zF σ s=((Q9 (zD (eOp ze (zA 1) (eC (.int 0))) (zD (j8 (zD (eOp z8 (eOp ze (zA 1) (eC (.int 0))) (eC (.str [122]))) zF)) zF))) σ s).bind λx s=>(zF σ s).bind λxs s=>.ok (x::xs) s from λ_ _=>rfl,ed];simp only[R.bind_ok,zF,e7,alloc,R.stm_ok,qC,qH,m]
 have t:zw c h:=p3.trans p4;have u:zw s h:=q.trans t;obtain⟨i,n⟩:∃ i,i=h++[O.lst (itT (fD V λx=>rkD (p x)))]:=⟨_,rfl⟩
 have w:zw h i:=by rw[n];exact zw.of _ _
 have g5:i[h.length]? = some (.lst (itT (fD V λx=>rkD (p x)))):=by rw[n];exact jm
 have v:=u.get H;have E:=w.get v;have G:=w.get f7;have b6:lb6 [v0,some (.ref 0),v2,v3,v4,v5,some (.ref e),v7,some (.ref s.length),some (.ref f.length)] h=.nx [v0,some (.ref 0),v2,v3,v4,v5,some (.ref e),v7,some (.ref s.length),some (.ref f.length)] i:=by
  have fi:Zh [.ref e] h=.ok (.ref h.length) i:=by simp only[Zh,v,alloc,n]
  have c1:cNe (.ref h.length) (.ref s.length) i=.ok false i:=by
   show (eqD _ _ i).bind _=_;rw[FM g5 (w.get (t.get U))];rfl
  have c2:cNe (.int (F.length:Nat)) (.int 2) i=.ok false i:=by rw[l7];rfl
  simp only[lb6,sIf,tOr,zo,zA,zk,zg,R.bind_ok,fi,c1,jW,if_false,zM,zD,zF,qJ,G,eC,c2,R.stm_ok,jL]
 have b7:lb7 [v0,some (.ref 0),v2,v3,v4,v5,some (.ref e),v7,some (.ref s.length),some (.ref f.length)] i=.nx [v0,some (.ref 0),v2,v3,v4,v5,some (.ref e),v7,some (.ref s.length),some (.ref f.length)] (i.set e (.dct [])):=by
  simp only[lb7,Z4,eM,zA,zk,zg,R.bind_ok,yM,E,if_true,zF,KA,R.stm_ok]
 refine⟨some (.ref s.length),some (.ref f.length),_,λr=>?_,((Q.trans u).trans w).set (show sb.length <= e by omega) (.dct [])⟩;show (lb4 _ _).then _=_;rw[Y,RS.then_nx];show (lb5 _ _).then _=_;rw[b5,RS.then_nx];show (lb6 _ _).then _=_;rw[b6,RS.then_nx];show (lb7 _ _).then _=_;rw[b7,RS.then_nx]
theorem df (N:List T):(cut N (some (-1)) none).length <= 1:=by
 unfold cut;simp only[sIx];rw[qx,Z6,if_pos (by decide)];omega
theorem CD {b:Nat} (t:TS N n h e nd s) (hn:(zZ nd).Nodup) (ok:OkB b A nd) (hb:b <= 8) (hN0:0 < N.length) (H:∀ x∈N,x∈A) (hA:A.length <= 170) {v0 v2 v4 v5 v6 v7 v8 v9:Option D} :
  ∃ n' e' c s',(zK Xd (zK (zU 2 (zM JP (zD (zA 3) zF))) (zU 4 (zM Ql (zD (zA 2) zF)))) [v0,some (.ref 0),v2,some (.ref h),v4,v5,v6,v7,v8,v9] s=.nx [v0,some (.ref 0),some (.ref n'),some (.ref h),some (.ref e'),v5,v6,v7,v8,v9] s')/\TS N n' h e' c s'/\(zZ c).Nodup/\OkB (b+1) A c:=by
 obtain⟨C,E,m⟩:=t.dh;have hh0:(0:Nat)≠h:=λz=>by subst z;rw[t.n0] at E;cases E
 have ix0:atI (N.map D.str) 0=some (.str (N.getD 0 [])):=kQ (by omega) (by omega);have aN:N.getD 0 []∈N:=kI hN0;generalize N.getD 0 []=a at *;obtain⟨r,er,gr⟩:=U9 E m a;obtain⟨nl,nm⟩:=WJ hn ok a;have I:cut (N.map D.str) (some (-1)) none=(cut N (some (-1)) none).map D.str:=Vf _ _ _ _;have cl:=df N;have cm:∀ x∈cut N (some (-1)) none,x∈N:=λx f=>X5 f;generalize cut N (some (-1)) none=i at *;generalize nOf nd a=row at *;obtain⟨G,l⟩:∃ G,G=s++[O.lst [],.lst (i.map .str),.lst ((row++i).map .str)]:=⟨_,rfl⟩
 have p6:zw s G:=by rw[l];exact zw.of _ _
 have g6:G[s.length+2]? = some (.lst ((row++i).map .str)):=by rw[l,jP (by omega),show s.length+2 - s.length=2 by omega];rfl
 have hkl:C.length < SZ:=by
  rw[m.length];have:nd.length=(zZ nd).length:=by unfold zZ;simp
  have:=yx (N:=A) hn λx f=>by
   unfold zZ at f;obtain⟨q,h1,rfl⟩:=List.mem_map.mp f;exact (ok q h1).1
  unfold SZ;omega
 obtain⟨d,o⟩:∃ d,d=G.set h (.dct (jA (.str a) (.ref (s.length+2)) C)):=⟨_,rfl⟩
 have p:=p6.get E;have kp:j9 G d:=by rw[o];exact j9.set p (λ_ z=>nomatch z)
 have J:d[h]? = some (.dct (jA (.str a) (.ref (s.length+2)) C)):=by rw[o];exact JS p
 have L:DR d (jA (.str a) (.ref (s.length+2)) C) (yN a (row++i) nd):=((m.mono p6.keep).mono kp).put (kp _ _ g6);have g07:d[0]? = some (.lst (N.map .str)):=kp _ _ (p6.get t.n0);have b11:Xd [v0,some (.ref 0),v2,some (.ref h),v4,v5,v6,v7,v8,v9] s=.nx [v0,some (.ref 0),v2,some (.ref h),v4,v5,v6,v7,v8,v9] d:=by
  have q0:∀ g,(s++g)[0]? = some (.lst (N.map .str)):=λg=>jB t.n0 g;have qh:∀ g,(s++g)[h]? = some (.dct C):=λg=>jB E g;have qr:∀ g,(s++O.lst []::g)[r]? = some (.lst (row.map .str)):=λg=>by
   have:=jB gr g
   rwa [jg] at this
  have q1:(s++[O.lst [],.lst (i.map .str)])[s.length+1]? = some (.lst (i.map .str)):=by rw[jP (by omega),show s.length+1 - s.length=1 by omega];rfl
  have lq0:=λg=>vB (q0 g);have z:(row.map D.str).length+(i.map D.str).length <= SZ:=by rw[z9,z9];unfold SZ;omega
  have M:=p;rw[l] at M;simp only[Xd,jE,eOp,eM,zA,eC,zk,zg,R.bind_ok,yM,E,if_true,zD,zF,ze,t.n0,ix0,j8,yy,ZJ,alloc,yh,qh,z6,er,eSl,yr,eUn,vI,J0,slD,lq0,I,jy,jU,ja,x3,jg,qz,yQ,z8,qr,q1,z,R.stm_ok,q0,qu,hkl,decide_true,ya,o,l,XS,Int.reduceNeg]
 have u:OkB (b+1) A (yN a (row++i) nd):=u6 (ok.mono (by omega)) ⟨H _ aN,by rw[jy];omega,λx f=>by
  rcases List.mem_append.mp f with f | f
  ·exact nm x f
  ·exact H _ (cm x f)⟩
 have v:(zZ (yN a (row++i) nd)).Nodup:=V4 hn;generalize yN a (row++i) nd=c at *;generalize jA (.str a) (.ref (s.length+2)) C=hk' at *;have ndl:c.length <= 1000:=by
  have h1:c.length=(zZ c).length:=by unfold zZ;simp
  have:=yx (N:=A) v λx f=>by
   unfold zZ at f;obtain⟨q,h1,rfl⟩:=List.mem_map.mp f;exact (u q h1).1
  omega
 obtain⟨kk,g,Q,w⟩:=aK J L v ndl;obtain⟨j,y⟩:∃ j,j=d++O.dct kk::g:=⟨_,rfl⟩
 rw[<- y] at Q w;have p8:zw d j:=by rw[y];exact zw.of _ _
 have U:j[d.length]? = some (.dct kk):=by rw[y];exact jm
 obtain⟨V,vs,vn,vm,e13⟩:=bB U w (u.mono (by omega)) hA;obtain⟨Y,B⟩:∃ Y,Y=j++[O.lst (V.map .str)]:=⟨_,rfl⟩
 have p9:zw j Y:=by rw[B];exact zw.of _ _
 refine⟨d.length,j.length,c,Y,?_,⟨p9.get (p8.get g07),⟨kk,p9.get U,w.mono p9.keep⟩,⟨hk',p9.get (p8.get J),(L.mono p8.keep).mono p9.keep⟩,V,by rw[B];exact jm,vs,vn,vm⟩,v,u⟩;have b12:(zU 2 (zM JP (zD (zA 3) zF))) [v0,some (.ref 0),v2,some (.ref h),v4,v5,v6,v7,v8,v9] d=.nx [v0,some (.ref 0),some (.ref d.length),some (.ref h),v4,v5,v6,v7,v8,v9] j:=by
  simp only[zU,zM,zD,zF,zA,zk,zg,R.bind_ok,Q,R.stm_ok,qC,qH]
 have b13:(zU 4 (zM Ql (zD (zA 2) zF))) [v0,some (.ref 0),some (.ref d.length),some (.ref h),v4,v5,v6,v7,v8,v9] j=.nx [v0,some (.ref 0),some (.ref d.length),some (.ref h),some (.ref j.length),v5,v6,v7,v8,v9] Y:=by
  simp only[zU,zM,zD,zF,zA,zk,zg,R.bind_ok,e13,alloc,R.stm_ok,qC,qH,B]
 show (Xd _ _).then _=_;rw[b11,RS.then_nx];show ((zU 2 _) _ _).then _=_;rw[b12,RS.then_nx];exact b13
noncomputable abbrev Yr:SM:=(zK (zU 6 (zM ZY (zD (zA 3) zF))) (zK lb2 (zK lb3 (zK lb4 (zK lb5 (zK lb6 (zK lb7 (zK Xd (zK (zU 2 (zM JP (zD (zA 3) zF))) (zU 4 (zM Ql (zD (zA 2) zF))))))))))))
theorem h9 {b:Nat} (t:TS N n h e nd s) (r:(zZ nd).Nodup) (ok:OkB b A nd) (y:b <= 8) (i:0 < N.length) (m:∀ x∈N,x∈A) (u:A.length <= 170) (z:(N.getD 0 []).length <= 100) {v0 v5 v6 v7 v8 v9:Option D} :
  ∃ j l c o d f g v,Yr [v0,some (.ref 0),some (.ref n),some (.ref h),some (.ref e),v5,v6,v7,v8,v9] s=.nx [v0,some (.ref 0),some (.ref j),some (.ref h),some (.ref l),v5,o,d,f,g] v/\TS N j h l c v/\(zZ c).Nodup/\OkB (b+1) A c:=by
 obtain⟨V,L,d,s1,B,w,C⟩:=Dw t r (ok.mono (by omega)) u (v0:=v0) (v1:=some (.ref 0)) (v5:=v5) (v6:=v6) (v7:=v7) (v8:=v8) (v9:=v9);obtain⟨f,g,M,E,G⟩:=B0 (w.get t.n0) i z (zd _) s rfl w C (v0:=v0) (v2:=some (.ref n)) (v3:=some (.ref h)) (v4:=some (.ref e)) (v5:=v5) (v7:=d) (v8:=v8) (v9:=v9);obtain⟨j,l,c,H,I,J,p,q⟩:=CD (t.mono G) r ok y i m u (v0:=v0) (v2:=some (.ref n)) (v4:=some (.ref e)) (v5:=v5) (v6:=some (.ref s.length)) (v7:=d) (v8:=f) (v9:=g);refine⟨j,l,c,some (.ref s.length),d,f,g,H,?_,J,p,q⟩;unfold Yr;rw[B,E];exact I
theorem UZ {N:List T}{S1:M.S}{n:Nat}{kvs:List (D×D)} (Y:S1[0]? = some (.lst (N.map .str))) (y:S1[n]? = some (.dct kvs)) (z:DR S1 kvs nd) (i:(zZ nd).Nodup) (ok:OkB 4 A nd) (pN:0 < N.length) (B:∀ x∈N,x∈A) (J:A.length <= 170) (hT:(N.getD 0 []).length <= 100) (v0:Option D) :
  ∃ s,(zK Qa (zK QU (zK Qu ki)) [v0,some (.ref 0),some (.ref n),none,none,none,none,none,none,none] S1).out=.ok (.bl true) s:=by
 have C:nd.length <= 1000:=by
  have L:nd.length=(zZ nd).length:=by unfold zZ;simp
  have:=yx (N:=A) i λx Q=>by
   unfold zZ at Q;obtain⟨q,L,rfl⟩:=List.mem_map.mp Q;exact (ok q L).1
  omega
 obtain⟨E,g,U,p⟩:=aK y z i C;obtain⟨c,l⟩:∃ c,c=S1++O.dct E::g:=⟨_,rfl⟩
 rw[<- l] at U p;have r:zw S1 c:=by rw[l];exact zw.of _ _
 have gh:c[S1.length]? = some (.dct E):=by rw[l];exact jm
 obtain⟨V,vs,vn,vm,e4⟩:=bB (r.get y) (z.mono r.keep) (ok.mono (by omega)) J;obtain⟨h,m⟩:∃ h,h=c++[O.lst (V.map .str)]:=⟨_,rfl⟩
 have u:zw c h:=by rw[m];exact zw.of _ _
 have t0:TS N n S1.length c.length nd h:=⟨u.get (r.get Y),⟨kvs,u.get (r.get y),(z.mono r.keep).mono u.keep⟩,⟨E,u.get gh,p.mono u.keep⟩,V,by rw[m];exact jm,vs,vn,vm⟩
 obtain⟨σ',w,e5,G,e,v,v5,v6,v7,v8,v9,o,t',_,_⟩:=QS (g:=[]) (f:=jO (zY 5) Yr)
  (λj σ s=>∃ (n e:Nat) (nd:List (T×List T)) (v5 v6 v7 v8 v9:Option D),σ=[v0,some (.ref 0),some (.ref n),some (.ref S1.length),some (.ref e),v5,v6,v7,v8,v9]/\TS N n S1.length e nd s/\(zZ nd).Nodup/\OkB (4+j) A nd)
  (j5 0 2) 0 [v0,some (.ref 0),some (.ref n),some (.ref S1.length),some (.ref c.length),none,none,none,none,none] h ⟨n,c.length,nd,none,none,none,none,none,rfl,t0,i,ok⟩ λj d hd σ s ⟨n,e,nd,v5,v6,v7,v8,v9,o,t,hn,ok⟩=>by
   obtain⟨rfl,hj⟩:=Vp hd;rw[ja] at ok ⊢;subst o;obtain⟨G,e',v,v6',v7',v8',v9',w,e1,t',H,I⟩:=h9 t hn ok (by omega) pN B J hT (v0:=v0) (v5:=some (.int j)) (v6:=v6) (v7:=v7) (v8:=v8) (v9:=v9);exact⟨_,w,e1,rfl,G,e',v,_,_,_,_,_,rfl,t',H,I⟩
 subst o;refine⟨w,?_⟩;have l4:Qa [v0,some (.ref 0),some (.ref n),none,none,none,none,none,none,none] S1=.nx [v0,some (.ref 0),some (.ref n),some (.ref S1.length),none,none,none,none,none,none] c:=by
  simp only[Qa,zU,zM,zD,zF,zA,zk,zg,R.bind_ok,U,R.stm_ok,qC,qH]
 have l5:QU [v0,some (.ref 0),some (.ref n),some (.ref S1.length),none,none,none,none,none,none] c=.nx [v0,some (.ref 0),some (.ref n),some (.ref S1.length),some (.ref c.length),none,none,none,none,none] h:=by
  simp only[QU,zU,zM,zD,zF,zA,zk,zg,R.bind_ok,e4,alloc,R.stm_ok,qC,qH,m]
 have l6:Qu [v0,some (.ref 0),some (.ref n),some (.ref S1.length),some (.ref c.length),none,none,none,none,none] h=.nx [v0,some (.ref 0),some (.ref G),some (.ref S1.length),some (.ref e),v5,v6,v7,v8,v9] w:=by
  have hq:(2:Int).natAbs < 4611686018427387904:=by decide
  have hg:zW [] h=true:=rfl;simp only[Qu,jo,q7,eC,R.bind_ok,hq,if_true,R.stm_ok,hg];exact e5
 show ((Qa _ _).then _).out=_;rw[l4,RS.then_nx];show ((QU _ _).then _).out=_;rw[l5,RS.then_nx];show ((Qu _ _).then _).out=_;rw[l6,RS.then_nx];rfl
theorem cU (ns:List Int) (hl:ns.length <= 63):∃ s,X3 [.ro (ns.map .int)] []=.ok (.bl true) s:=by
 have hm:=Us (j7 ns 0);have I:=Kn ns 0 (Qf (j7 ns 0)).toNat;have m:=vg ns 0 (Qf (j7 ns 0)).toNat;have J:∀ s,QX [.ro (ns.map .int),.int 0] s=.ok (.ref s.length) (s++[O.lst ((qs ns 0 (Qf (j7 ns 0)).toNat).map .str)]):=λs=>by
  simp[QX,ux]
 generalize qs ns 0 (Qf (j7 ns 0)).toNat=N at *;have l:0 < N.length:=by omega
 have y:(N.getD 0 []).length <= 100:=by
  have:=m _ (kI l);omega
 obtain⟨kvs,nd,t,z,C,n,_,ok⟩:=gx (ns:=ns) l (by omega) (B:=[O.lst (N.map .str)]) (p:=0) rfl;obtain⟨S1,c⟩:∃ S1,S1=[O.lst (N.map .str)]++O.dct kvs::t:=⟨_,rfl⟩
 rw[<- c] at z C;have L:S1[1]? = some (.dct kvs):=by rw[c];rfl
 have E:S1[0]? = some (.lst (N.map .str)):=by rw[c];rfl
 have l1:Jg [some (.ro (ns.map .int)),none,none,none,none,none,none,none,none,none] []=.nx [some (.ro (ns.map .int)),some (.ref 0),none,none,none,none,none,none,none,none] [O.lst (N.map .str)]:=by
  simp[Jg,J]
 have M:Jw [some (.ro (ns.map .int)),some (.ref 0),none,none,none,none,none,none,none,none] [O.lst (N.map .str)]=.nx [some (.ro (ns.map .int)),some (.ref 0),some (.ref 1),none,none,none,none,none,none,none] S1:=by
  simp only[Jw,zU,zM,zD,zF,zA,eC,zk,zg,R.bind_ok,z,R.stm_ok,qC,qH];rfl
 have e:=λs=>kX ns 18 s (by decide);have f:(0:Int) < 30:=by decide
 have o:(30:Int).natAbs < 1073741824:=by decide
 suffices h:∃ s,(zK Zs (zK Qa (zK QU (zK Qu ki))) [some (.ro (ns.map .int)),some (.ref 0),some (.ref 1),none,none,none,none,none,none,none] S1).out=.ok (.bl true) s by
  obtain⟨s,h⟩:=h;refine⟨s,?_⟩;show (zK Jg (zK Jw (zK Zs (zK Qa (zK QU (zK Qu ki))))) [some (.ro (ns.map .int)),none,none,none,none,none,none,none,none,none] []).out=_;show ((Jg _ _).then _).out=_;rw[l1,RS.then_nx];show ((Jw _ _).then _).out=_;rw[M,RS.then_nx];exact h
 by_cases G:j7 ns 18 % 30=7
 ·obtain⟨g,Q,t2,H,i,r,u⟩:=Ge (j7 ns 18 / 30) S1;obtain⟨j,d⟩:∃ j,j=S1++O.lst (nmC.map .str)::O.dct g::t2:=⟨_,rfl⟩
  rw[<- d] at H i;have U:j[S1.length+1]? = some (.dct g):=by rw[d,jP (by omega),show S1.length+1 - S1.length=1 by omega];rfl
  have v:Zs [some (.ro (ns.map .int)),some (.ref 0),some (.ref 1),none,none,none,none,none,none,none] S1=.nx [some (.ro (ns.map .int)),some (.ref 0),some (.ref (S1.length+1)),none,none,none,none,none,none,none] j:=by
   simp only[Zs,sIf,zo,eOp,zM,zD,zF,zA,eC,zk,zg,R.bind_ok,e,z5,f,if_true,G,cEq,eqD,decide_true,R.stm_ok,zU,yU,o,and_self,H,qC,qH]
  obtain⟨s,h⟩:=UZ (A:=nmC++N) (S1:=j) (by rw[d];exact jB E _) U i r (λq Y=>by
   obtain⟨h1,h2,h3⟩:=u q Y;exact⟨Zg _ h1,h2,λt ht=>Zg _ (h3 t ht)⟩) l (λx w=>qw _ w) (by simp;omega) y (some (.ro (ns.map .int)))
  refine⟨s,?_⟩;show ((Zs _ _).then _).out=_;rw[v,RS.then_nx];exact h
 ·have v:Zs [some (.ro (ns.map .int)),some (.ref 0),some (.ref 1),none,none,none,none,none,none,none] S1=.nx [some (.ro (ns.map .int)),some (.ref 0),some (.ref 1),none,none,none,none,none,none,none] S1:=by
   simp only[Zs,sIf,zo,eOp,zM,zD,zF,zA,eC,zk,zg,R.bind_ok,e,z5,f,if_true,G,cEq,eqD,decide_false,R.stm_ok,jW,if_false,jL]
  obtain⟨s,h⟩:=UZ (A:=N) E L C n ok l (λx w=>w) (by omega) y (some (.ro (ns.map .int)));refine⟨s,?_⟩;show ((Zs _ _).then _).out=_;rw[v,RS.then_nx];exact h
end
end M
namespace My
open PySem L2 PyProof.Rows
noncomputable def top (i:Nat):zh:=PySem.Challenge.pw_thingyard_k64_ranks.main.body.getD i (.Pass ⟨0,0,0,0⟩)
noncomputable abbrev Θ0:Tab:=⟨λ_=>none,λ_=>0,λ_ _ _=>False⟩
theorem vv {X:Cx}{pos:Pos}{x:Str} (i:Nat) (c:X.N[i]? = some x:=by rfl) (d:Vis X.env.scope x:=by exact zb (by kernel_rfl)) (e:(x == ("__debug__" : Str))=false:=by kernel_rfl) (f:(x == ("__classdict__" : Str))=false:=by kernel_rfl):WE X g (.Name x pos) (M.zA i):=w_me_var i c d e f
theorem vc {X:Cx}{pos:Pos}{x:Str} (i:Nat) (c:X.N[i]? = some x:=by rfl) (d:Vis X.env.scope x:=by exact ZN (zb (by kernel_rfl))) (e:(x == ("__debug__" : Str))=false:=by kernel_rfl) (f:(x == ("__classdict__" : Str))=false:=by kernel_rfl):WE X g (.Name x pos) (M.zA i):=w_me_var i c d e f
theorem zz {X:Cx}{pos:Pos}{y:M.T}{x:Str}{j:Nat} (h:x=ofT y:=by decide +kernel) (ok:okT y:=by decide +kernel):WE X c (.Constant (.str x) j pos) (M.eC (.str y)):=w_me_str h ok
theorem gk {X:Cx}{x:Str} (h:X.env.kindOf x=some .globalImplicit:=by kernel_rfl):Gl X x:=h
noncomputable abbrev cX (P:zi) (w:zy) (K:PySem.W.Frag) (mg:Str->Option zB) (base:zT) (N:List Str) (n:Str) (st:zh) (f:zC) (c:zB) (A:jh) (outer:List Env) (s:zG) (H:Hp) (E:XK):Cx:=(Ze CX0 P w K mg base N n (z3 st) f c A outer s H E).nox
abbrev RM (k:Nat) (n:Str) (st:zh) (A:jh) (s:zG) (f:zC) (c:zB):Prop:=zx k (A.deeper (ZM n (z3 st) s.heap.objs.size f c))
noncomputable abbrev bd (st:zh) (j:Nat):zh:=(qm st).getD j (.Pass ⟨0,0,0,0⟩)
section
variable (P:zi) (w:zy) (K:PySem.W.Frag) (mg:Str->Option zB) (base:zT)
abbrev QZ:Prop:=Has P w K mg base "_law_cell" 1 ["_law_script","_law_k"] (SpM K Θ0 2 M.yb)
abbrev Z5:Prop:=Has P w K mg base "_law_mixed" 1 ["_law_cell_here","_law_k"] (SpM K Θ0 2 M.qA)
abbrev uy:Prop:=Has P w K mg base "_law_name" 2 ["_law_cell_here","_law_taken"] (SpM K Θ0 2 M.yW)
abbrev Vk:Prop:=Has P w K mg base "_law_names" 3 ["_law_script","_law_base"] (SpM K Θ0 2 M.QX)
abbrev Vs:Prop:=Has P w K mg base "_law_row" 2 ["_law_cell_here","_law_k","_law_shape","_law_names_here"] (SpM K Θ0 4 M.JE)
abbrev Y5:Prop:=Has P w K mg base "_law_needs" 3 ["_law_script","_law_base","_law_names_here"] (SpM K Θ0 3 M.vN)
abbrev VG:Prop:=Has P w K mg base "_law_copied" 1 ["_law_needs_here"] (SpM K Θ0 1 M.JP)
abbrev VS:Prop:=Has P w K mg base "_law_all" 1 ["_law_needs_here"] (SpM K Θ0 1 M.Ql)
abbrev Ys:Prop:=Has P w K mg base "_law_chain" 1 ["_law_cell_here"] (SpM K Θ0 1 M.vQ)
abbrev VY:Prop:=Has P w K mg base "needers_of" 1 ["needs"] (SpM K Θ0 1 M.VA)
abbrev ub:Prop:=Has P w K mg base "names_of" 1 ["needs"] (SpM K Θ0 1 M.J7)
abbrev Vg:Prop:=Has P w K mg base "ranks" 2 ["needs"] (SpM K Θ0 1 M.ZY)
abbrev uf:Prop:=Has P w K mg base "_law_stayed" 1 ["_law_handed","_law_needs_here"] (SpM K Θ0 2 M.k4)
abbrev uk:Prop:=Has P w K mg base "_law_whole" 1 ["_law_found"] (SpM K Θ0 1 M.Xn)
abbrev Ya:Prop:=Has P w K mg base "_law_right" 2 ["_law_found","_law_needs_here","_law_name_here"] (SpM K Θ0 3 M.Qk)
end
variable {P:zi}{w:zy}{K:PySem.W.Frag}{mg:Str->Option zB}{base:zT}{f:zC}{fd:Qw}{cdv:zB}{A:jh}{outer:List Env}{s:zG}{H:Hp}{E:XK}
noncomputable abbrev YY:zh:=top 5
noncomputable abbrev FW:List Str:=["_law_script","_law_k"]
theorem eK:qO FW ["_law_script","_law_k"] (z3 YY):=⟨rfl,rfl,rfl,by decide +kernel,rfl,by decide +kernel,by decide +kernel⟩
theorem Dp (F:Fun K "_law_cell" "_law_cell" YY f fd) (c:mg "len" = none) :
  jc P w K mg base CX0 1 f fd ["_law_script","_law_k"] (SpM K Θ0 2 M.yb):=by
 refine w_fun_M (b:=M.XY) F eK M.DH λcdv A outer s H E d=>?_;unfold M.XY;exact (w_mss_cons (w_ms_if (w_mt_cmp Bx GJ (vv 1) (w_me_callB QI QF gk c Zk (w_ma_cons (vv 0) w_ma_nil)) (qt _))
  (w_mss_one (w_ms_ret (w_me_ix (qR d) qS (vv 0) (vv 1))))
  w_mss_nil)
  (w_mss_one (w_ms_ret w_me_int)))
noncomputable abbrev ur:zh:=top 6
noncomputable abbrev Bc:List Str:=["_law_cell_here","_law_k"]
theorem eT:qO Bc ["_law_cell_here","_law_k"] (z3 ur):=⟨rfl,rfl,rfl,by decide +kernel,rfl,by decide +kernel,by decide +kernel⟩
theorem gB (F:Fun K "_law_mixed" "_law_mixed" ur f fd) :
  jc P w K mg base CX0 1 f fd ["_law_cell_here","_law_k"] (SpM K Θ0 2 M.qA):=by
 refine w_fun_M (b:=M.vR) F eT M.d1 λcdv A outer s H E c=>?_;unfold M.vR;exact (w_mss_one (w_ms_ret (w_me_op j0 jz (w_me_op Xw Xs (w_me_op (OpR.or qc qj) qe (vv 0) (w_me_op Xw Xs w_me_int (vv 1))) w_me_int) w_me_int)))
noncomputable abbrev qp:zh:=top 7
noncomputable abbrev Jl:List Str:=["_law_cell_here","_law_taken","_law_signs","_law_left","_law_found","_law_at"]
theorem QO:qO Jl ["_law_cell_here","_law_taken"] (z3 qp):=⟨rfl,rfl,rfl,by decide +kernel,rfl,by decide +kernel,by decide +kernel⟩
theorem Fu:(["_law_cell_here","_law_taken","_law_signs","_law_left","_law_found","_law_at","_law_j"]:List Str).Nodup:=by decide +kernel
theorem E6 (c:RM 1 "_law_name" qp A s f cdv):WS (cX P w K mg base Jl "_law_name" qp f cdv A outer s H E) Θ0 (bd qp 0) M.kS:=by
 unfold M.kS;exact (w_ms_set (i:=2) QO.nd rfl (ZN (by kernel_rfl)) zz)
theorem Gg (c:Z5 P w K mg base) (d:RM 1 "_law_name" qp A s f cdv):WS (cX P w K mg base Jl "_law_name" qp f cdv A outer s H E) Θ0 (bd qp 1) M.kA:=by
 unfold M.kA;exact (w_ms_set (i:=3) QO.nd rfl (zb (by kernel_rfl)) (w_me_call c d (by decide) gk (w_ma_cons (vc 0) (w_ma_cons w_me_int w_ma_nil)) (zr (zr jq))))
theorem Gu (c:Z5 P w K mg base) (d:mg "range" = none) (e:RM 1 "_law_name" qp A s f cdv):WS (cX P w K mg base Jl "_law_name" qp f cdv A outer s H E) Θ0 (bd qp 2) M.kY:=by
 unfold M.kY;exact (w_ms_set (i:=4) QO.nd rfl (zb (by kernel_rfl)) (w_me_joinC (by decide +kernel) (vars:=["_law_j"]) rfl ⟨rfl,rfl,(by kernel_rfl),(by kernel_rfl),(by decide +kernel),⟨(by kernel_rfl),(by kernel_rfl),trivial⟩,(by kernel_rfl)⟩ (w_mi_range1 gk d (w_me_op j0 jz (vv 3) w_me_int)) (λ_ _ _ _=>(w_mg_name (i:=6) Fu rfl (zb (by kernel_rfl)) (.inr (by kernel_rfl)))) (λ_ _ _ _=>Qt) (λ_ _ _ _=>(w_me_ix (qR e) qS (vc 2) (w_me_op j0 jz (w_me_call c e (by decide) gk (w_ma_cons (vc 0) (w_ma_cons (vv 6) w_ma_nil)) (zr (zr jq))) w_me_int))) (by kernel_rfl) (λg H S j ys p Q l r m h=>FA (by decide +kernel) g H S j ys p Q l r (.inl m) h)))
theorem Cn (c:mg "len" = none) (d:RM 1 "_law_name" qp A s f cdv):WS (cX P w K mg base Jl "_law_name" qp f cdv A outer s H E) Θ0 (bd qp 3) M.Qp:=by
 unfold M.Qp;exact (w_ms_if (w_mt_ofw (w_mw_and (w_mt_tru (vv 1)) (w_mw_one_and (w_mt_cmp vo vf (w_me_op j0 jz (vc 0) w_me_int) w_me_int (qt _)))))
  (w_mss_cons (w_ms_set (i:=4) QO.nd rfl (zb (by kernel_rfl)) (w_me_ix (qR d) qS (vv 1) (w_me_op j0 jz (vv 3) (w_me_callB QI QF gk c Zk (w_ma_cons (vv 1) w_ma_nil)))))
  (w_mss_cons (w_ms_set (i:=4) QO.nd rfl (zb (by kernel_rfl)) (w_me_op (OpR.or qc qj) qe (vv 4) (w_me_sl xj xY zz (w_mo_some (w_me_callB QI QF gk c Zk (w_ma_cons (vv 4) w_ma_nil))) w_mo_none)))
  (w_mss_cons (w_ms_set (i:=5) QO.nd rfl (zb (by kernel_rfl)) (w_me_op j0 jz (w_me_op JC Qy (vv 3) w_me_int) (w_me_callB QI QF gk c Zk (w_ma_cons (vv 4) w_ma_nil))))
  (w_mss_one (w_ms_set (i:=4) QO.nd rfl (zb (by kernel_rfl)) (w_me_op (OpR.or qc qj) qe (w_me_op (OpR.or qc qj) qe (w_me_sl xj xY (vv 4) w_mo_none (w_mo_some (vv 5))) (w_me_ix (qR d) qS (vc 2) (w_me_op j0 jz (w_me_op JC Qy (vv 3) w_me_int) w_me_int))) (w_me_sl xj xY (vv 4) (w_mo_some (w_me_op (OpR.or qc qj) qe (vv 5) w_me_int)) w_mo_none)))))))
  w_mss_nil)
theorem ey (c:Z5 P w K mg base) (d:mg "len" = none) (e:RM 1 "_law_name" qp A s f cdv):WS (cX P w K mg base Jl "_law_name" qp f cdv A outer s H E) Θ0 (bd qp 4) M.va:=by
 unfold M.va;exact (w_ms_while yc (w_mt_cmp (uJ e) Yt (vv 4) (vv 1) (by rfl))
  (w_mss_one (w_ms_set (i:=4) QO.nd rfl (zb (by kernel_rfl)) (w_me_op (OpR.or qc qj) qe (vv 4) (w_me_ix (qR e) qS (vc 2) (w_me_op j0 jz (w_me_call c e (by decide) gk (w_ma_cons (vc 0) (w_ma_cons (w_me_callB QI QF gk d Zk (w_ma_cons (vv 4) w_ma_nil)) w_ma_nil)) (zr (zr jq))) w_me_int))))))
theorem Gx (c:RM 1 "_law_name" qp A s f cdv):WS (cX P w K mg base Jl "_law_name" qp f cdv A outer s H E) Θ0 (bd qp 5) M.Xj:=by
 unfold M.Xj;exact (w_ms_ret (vv 4))
theorem gF (F:Fun K "_law_name" "_law_name" qp f fd) (c:Z5 P w K mg base) (d:mg "len" = none) (e:mg "range" = none) :
  jc P w K mg base CX0 2 f fd ["_law_cell_here","_law_taken"] (SpM K Θ0 2 M.yW):=by
 refine w_fun_M (b:=M.uj) F QO M.CJ λcdv A outer s H E g=>?_;unfold M.uj;exact (w_mss_cons (E6 g) (w_mss_cons (Gg c g) (w_mss_cons (Gu c e g) (w_mss_cons (Cn d g) (w_mss_cons (ey c d g) (w_mss_one (Gx g)))))))
noncomputable abbrev qo:zh:=top 8
noncomputable abbrev Jy:List Str:=["_law_script","_law_base","_law_first","_law_many","_law_taken","_law_k"]
theorem kD:qO Jy ["_law_script","_law_base"] (z3 qo):=⟨rfl,rfl,rfl,by decide +kernel,rfl,by decide +kernel,by decide +kernel⟩
theorem eV (c:QZ P w K mg base) (d:RM 2 "_law_names" qo A s f cdv):WS (cX P w K mg base Jy "_law_names" qo f cdv A outer s H E) Θ0 (bd qo 0) M.Jz:=by
 unfold M.Jz;exact (w_ms_set (i:=2) kD.nd rfl (zb (by kernel_rfl)) (w_me_call c d (by decide) gk (w_ma_cons (vv 0) (w_ma_cons (vv 1) w_ma_nil)) (zr (zr jq))))
theorem Fj (c:RM 2 "_law_names" qo A s f cdv):WS (cX P w K mg base Jy "_law_names" qo f cdv A outer s H E) Θ0 (bd qo 1) M.xQ:=by
 unfold M.xQ;exact (w_ms_set (i:=3) kD.nd rfl (zb (by kernel_rfl)) (w_me_op (OpR.or qc qj) qe w_me_int (w_me_op j0 jz (vv 2) w_me_int)))
theorem Cw (c:RM 2 "_law_names" qo A s f cdv):WS (cX P w K mg base Jy "_law_names" qo f cdv A outer s H E) Θ0 (bd qo 2) M.Jh:=by
 unfold M.Jh;exact (w_ms_if (w_mt_cmp (ZV c) ZX (w_me_op j0 jz (w_me_op JC Qy (vv 2) w_me_int) w_me_int) w_me_int (qt _))
  (w_mss_one (w_ms_set (i:=3) kD.nd rfl (zb (by kernel_rfl)) (w_me_op (OpR.or qc qj) qe w_me_int (w_me_op j0 jz (w_me_op JC Qy (vv 2) w_me_int) w_me_int))))
  w_mss_nil)
theorem CV (c:RM 2 "_law_names" qo A s f cdv):WS (cX P w K mg base Jy "_law_names" qo f cdv A outer s H E) Θ0 (bd qo 3) M.Jf:=by
 unfold M.Jf;exact (w_ms_set (i:=4) kD.nd rfl (zb (by kernel_rfl)) (w_me_lst w_ma_nil))
theorem CK (d:QZ P w K mg base) (e:uy P w K mg base) (c:Z5 P w K mg base) (g:mg "range" = none) (h:RM 2 "_law_names" qo A s f cdv):WS (cX P w K mg base Jy "_law_names" qo f cdv A outer s H E) Θ0 (bd qo 4) M.xA:=by
 unfold M.xA;exact (w_ms_for yc rfl (w_mi_range1 gk g (vv 3)) (w_mg_name (i:=5) kD.nd rfl (zb (by kernel_rfl)) (.inl rfl))
  (w_mss_one (w_ms_expr (w_me_m PySem.F.plainAttrs_list PySem.F.slot_list_append PySem.F.type_list_append A5 aC rfl (vv 4) (w_ma_cons (w_me_call e h (by decide) gk (w_ma_cons (w_me_call c h (by decide) gk (w_ma_cons (w_me_call d h (by decide) gk (w_ma_cons (vv 0) (w_ma_cons (w_me_op (OpR.or qc qj) qe (w_me_op (OpR.or qc qj) qe (vv 1) w_me_int) (w_me_op j0 jz (vv 5) w_me_int)) w_ma_nil)) (zr (zr jq))) (w_ma_cons (vv 5) w_ma_nil)) (zr (zr jq))) (w_ma_cons (vv 4) w_ma_nil)) (zr (zr jq))) w_ma_nil)))))
theorem GO (c:RM 2 "_law_names" qo A s f cdv):WS (cX P w K mg base Jy "_law_names" qo f cdv A outer s H E) Θ0 (bd qo 5) M.KI:=by
 unfold M.KI;exact (w_ms_ret (vv 4))
theorem Eo (F:Fun K "_law_names" "_law_names" qo f fd) (c:QZ P w K mg base) (e:uy P w K mg base) (d:Z5 P w K mg base) (g:mg "range" = none) :
  jc P w K mg base CX0 3 f fd ["_law_script","_law_base"] (SpM K Θ0 2 M.QX):=by
 refine w_fun_M (b:=M.V2) F kD M.gK λcdv A outer s H E h=>?_;unfold M.V2;exact (w_mss_cons (eV c h) (w_mss_cons (Fj h) (w_mss_cons (Cw h) (w_mss_cons (CV h) (w_mss_cons (CK c e d g h) (w_mss_one (GO h)))))))
noncomputable abbrev uz:zh:=top 9
noncomputable abbrev Bt:List Str:=["_law_cell_here","_law_k","_law_shape","_law_names_here","_law_row_here"]
theorem V6:qO Bt ["_law_cell_here","_law_k","_law_shape","_law_names_here"] (z3 uz):=⟨rfl,rfl,rfl,by decide +kernel,rfl,by decide +kernel,by decide +kernel⟩
theorem da:(["_law_cell_here","_law_k","_law_shape","_law_names_here","_law_row_here","_law_j"]:List Str).Nodup:=by decide +kernel
theorem EY:(["_law_cell_here","_law_k","_law_shape","_law_names_here","_law_row_here","_law_j"]:List Str).Nodup:=by decide +kernel
theorem GL (F:Fun K "_law_row" "_law_row" uz f fd) (c:Z5 P w K mg base) (d:mg "range" = none) (h:mg "max" = none) (e:mg "len" = none) (j:mg "int" = none) :
  jc P w K mg base CX0 2 f fd ["_law_cell_here","_law_k","_law_shape","_law_names_here"] (SpM K Θ0 4 M.JE):=by
 refine w_fun_M (b:=M.xE) F V6 M.eE λcdv A outer s H E g=>?_;unfold M.xE;exact (w_mss_cons (w_ms_if (w_mt_cmp (ZV g) ZX (vv 2) w_me_int (qt _))
  (w_mss_one (w_ms_ret (w_me_comp (vars:=["_law_j"]) rfl ⟨rfl,rfl,(by kernel_rfl),(by kernel_rfl),(by decide +kernel),⟨(by kernel_rfl),(by kernel_rfl),(by kernel_rfl),trivial⟩,(by kernel_rfl)⟩ (w_mi_range1 gk d (w_me_op Xw Xs (w_me_op j0 jz (vc 0) w_me_int) (w_me_callTy Ce Gr gk j WN (w_ma_cons (w_me_cmp vo vf (vc 1) w_me_int (qt _)) w_ma_nil)))) (λ_ _ _ _=>(w_mg_name (i:=5) EY rfl (zb (by kernel_rfl)) (.inr (by kernel_rfl)))) (λ_ _ _ _=>Qt) (λ_ _ _ _=>(w_me_ix (qR g) qS (vc 3) (w_me_op j0 jz (w_me_call c g (by decide) gk (w_ma_cons (vc 0) (w_ma_cons (w_me_op (OpR.or qc qj) qe w_me_int (vv 5)) w_ma_nil)) (zr (zr jq))) (vc 1)))) (by kernel_rfl))))
  w_mss_nil)
  (w_mss_cons (w_ms_if (w_mt_cmp (ZV g) ZX (vv 2) w_me_int (qt _))
  (w_mss_cons (w_ms_set (i:=4) V6.nd rfl (zb (by kernel_rfl)) (w_me_sl xj xY (vc 3) (w_mo_some (w_me_callB (wy rfl) AR gk h YF (w_ma_cons w_me_int (w_ma_cons (w_me_op uw YP (vc 1) w_me_int) w_ma_nil)))) (w_mo_some (vc 1))))
  (w_mss_cons (w_ms_if (w_mt_cmp (ZV g) ZX (w_me_op j0 jz (vc 0) w_me_int) w_me_int (qt _))
  (w_mss_one (w_ms_set (i:=4) V6.nd rfl (zb (by kernel_rfl)) (w_me_op (OpR.or qc qj) qe (vv 4) (w_me_lst (w_ma_cons (w_me_ix (qR g) qS (vc 3) (w_me_op uw YP (w_me_callB QI QF gk e Zk (w_ma_cons (vc 3) w_ma_nil)) w_me_int)) w_ma_nil)))))
  w_mss_nil)
  (w_mss_one (w_ms_ret (vv 4)))))
  w_mss_nil)
  (w_mss_one (w_ms_ret (w_me_comp (vars:=["_law_j"]) rfl ⟨rfl,rfl,(by kernel_rfl),(by kernel_rfl),(by decide +kernel),⟨(by kernel_rfl),(by kernel_rfl),trivial⟩,(by kernel_rfl)⟩ (w_mi_range1 gk d (w_me_op j0 jz (vc 0) w_me_int)) (λ_ _ _ _=>(w_mg_name (i:=5) da rfl (zb (by kernel_rfl)) (.inr (by kernel_rfl)))) (λ_ _ _ _=>Qt) (λ_ _ _ _=>(w_me_ix (qR g) qS (vc 3) (w_me_op j0 jz (w_me_call c g (by decide) gk (w_ma_cons (vc 0) (w_ma_cons (w_me_op (OpR.or qc qj) qe w_me_int (vv 5)) w_ma_nil)) (zr (zr jq))) (w_me_callB QI QF gk e Zk (w_ma_cons (vc 3) w_ma_nil))))) (by kernel_rfl))))))
noncomputable abbrev yg:zh:=top 10
noncomputable abbrev kq:List Str:=["_law_script","_law_base","_law_names_here","_law_shape","_law_needs_here","_law_k","_law_cell_here"]
theorem Xp:qO kq ["_law_script","_law_base","_law_names_here"] (z3 yg):=⟨rfl,rfl,rfl,by decide +kernel,rfl,by decide +kernel,by decide +kernel⟩
theorem dv (c:QZ P w K mg base) (d:RM 2 "_law_needs" yg A s f cdv):WS (cX P w K mg base kq "_law_needs" yg f cdv A outer s H E) Θ0 (bd yg 0) M.kB:=by
 unfold M.kB;exact (w_ms_set (i:=3) Xp.nd rfl (zb (by kernel_rfl)) (w_me_op j0 jz (w_me_call c d (by decide) gk (w_ma_cons (vv 0) (w_ma_cons (vv 1) w_ma_nil)) (zr (zr jq))) w_me_int))
theorem cL (c:RM 2 "_law_needs" yg A s f cdv):WS (cX P w K mg base kq "_law_needs" yg f cdv A outer s H E) Θ0 (bd yg 1) M.xZ:=by
 unfold M.xZ;exact (w_ms_set (i:=4) Xp.nd rfl (zb (by kernel_rfl)) w_me_dnew)
theorem GI (d:QZ P w K mg base) (c:Z5 P w K mg base) (e:Vs P w K mg base) (g:mg "range" = none) (h:mg "len" = none) (j:RM 2 "_law_needs" yg A s f cdv):WS (cX P w K mg base kq "_law_needs" yg f cdv A outer s H E) Θ0 (bd yg 2) M.xB:=by
 unfold M.xB;exact (w_ms_for yc rfl (w_mi_range1 gk g (w_me_callB QI QF gk h Zk (w_ma_cons (vv 2) w_ma_nil))) (w_mg_name (i:=5) Xp.nd rfl (zb (by kernel_rfl)) (.inl rfl))
  (w_mss_cons (w_ms_set (i:=6) Xp.nd rfl (zb (by kernel_rfl)) (w_me_call c j (by decide) gk (w_ma_cons (w_me_call d j (by decide) gk (w_ma_cons (vv 0) (w_ma_cons (w_me_op (OpR.or qc qj) qe (w_me_op (OpR.or qc qj) qe (vv 1) w_me_int) (w_me_op j0 jz (vv 5) w_me_int)) w_ma_nil)) (zr (zr jq))) (w_ma_cons (vv 5) w_ma_nil)) (zr (zr jq))))
  (w_mss_one (w_ms_if (w_mt_ofw (w_mw_or (w_mt_cmp vo vf (w_me_op j0 jz (w_me_op JC Qy (vv 6) w_me_int) w_me_int) w_me_int (qt _)) (w_mw_one_or (w_mt_cmp (ZV j) ZX (vv 3) w_me_int (qt _)))))
  (w_mss_one (w_ms_sub j (vv 4) (w_me_ix (qR j) qS (vv 2) (vv 5)) (w_me_call e j (by decide) gk (w_ma_cons (vv 6) (w_ma_cons (vv 5) (w_ma_cons (vv 3) (w_ma_cons (vv 2) w_ma_nil)))) (zr (zr (zr (zr jq)))))))
  w_mss_nil))))
theorem F8 (c:RM 2 "_law_needs" yg A s f cdv):WS (cX P w K mg base kq "_law_needs" yg f cdv A outer s H E) Θ0 (bd yg 3) M.X9:=by
 unfold M.X9;exact (w_ms_ret (vv 4))
theorem cA (F:Fun K "_law_needs" "_law_needs" yg f fd) (c:QZ P w K mg base) (d:Z5 P w K mg base) (e:Vs P w K mg base) (g:mg "range" = none) (h:mg "len" = none) :
  jc P w K mg base CX0 3 f fd ["_law_script","_law_base","_law_names_here"] (SpM K Θ0 3 M.vN):=by
 refine w_fun_M0 (N:=kq) (b:=M.YM) F Xp λcdv A outer s H E i=>?_;unfold M.YM;exact (w_mss_cons (dv c i) (w_mss_cons (cL i) (w_mss_cons (GI c d e g h i) (w_mss_one (F8 i)))))
noncomputable abbrev Yp:zh:=top 11
noncomputable abbrev AO:List Str:=["_law_needs_here","_law_made","_law_name_here","_law_others"]
theorem Ko:qO AO ["_law_needs_here"] (z3 Yp):=⟨rfl,rfl,rfl,by decide +kernel,rfl,by decide +kernel,by decide +kernel⟩
theorem Di (F:Fun K "_law_copied" "_law_copied" Yp f fd) (c:mg "list" = none) :
  jc P w K mg base CX0 1 f fd ["_law_needs_here"] (SpM K Θ0 1 M.JP):=by
 refine w_fun_M0 (N:=AO) (b:=M.XZ) F Ko λcdv A outer s H E d=>?_;unfold M.XZ;exact (w_mss_cons (w_ms_set (i:=1) Ko.nd rfl (zb (by kernel_rfl)) w_me_dnew)
  (w_mss_cons (w_ms_forItems yc rfl (vv 0) (w_mg_tupM (n:=2) rfl (w_mgs_cons (w_mg_name (i:=2) Ko.nd rfl (zb (by kernel_rfl)) (.inl rfl)) (w_mgs_cons (w_mg_name (i:=3) Ko.nd rfl (zb (by kernel_rfl)) (.inl rfl)) w_mgs_nil (λa b=>K6 a b)) (λa b=>K6 a b)) (UF))
  (w_mss_one (w_ms_sub d (vv 1) (vv 2) (w_me_callTy (VO d) vq gk c xu (w_ma_cons (vv 3) w_ma_nil)))))
  (w_mss_one (w_ms_ret (vv 1)))))
noncomputable abbrev Vo:zh:=top 14
noncomputable abbrev eQ:List Str:=["_law_needs_here","_law_found","_law_name_here","_law_others","_law_other"]
theorem X4:qO eQ ["_law_needs_here"] (z3 Vo):=⟨rfl,rfl,rfl,by decide +kernel,rfl,by decide +kernel,by decide +kernel⟩
theorem F2 (F:Fun K "_law_all" "_law_all" Vo f fd) (c:mg "sorted" = none) :
  jc P w K mg base CX0 1 f fd ["_law_needs_here"] (SpM K Θ0 1 M.Ql):=by
 refine w_fun_M (b:=M.Xo) F X4 M.bx λcdv A outer s H E d=>?_;unfold M.Xo;exact (w_mss_cons (w_ms_set (i:=1) X4.nd rfl (zb (by kernel_rfl)) w_me_dnew)
  (w_mss_cons (w_ms_forItems yc rfl (vv 0) (w_mg_tupM (n:=2) rfl (w_mgs_cons (w_mg_name (i:=2) X4.nd rfl (zb (by kernel_rfl)) (.inl rfl)) (w_mgs_cons (w_mg_name (i:=3) X4.nd rfl (zb (by kernel_rfl)) (.inl rfl)) w_mgs_nil (λa b=>K6 a b)) (λa b=>K6 a b)) (UF))
  (w_mss_cons (w_ms_sub d (vv 1) (vv 2) w_me_bl)
  (w_mss_one (w_ms_for yc rfl (w_mi_e (vv 3)) (w_mg_name (i:=4) X4.nd rfl (zb (by kernel_rfl)) (.inl rfl))
  (w_mss_one (w_ms_sub d (vv 1) (vv 4) w_me_bl))))))
  (w_mss_one (w_ms_ret (w_me_callB (aI d) aL gk c av (w_ma_cons (vv 1) w_ma_nil))))))
noncomputable abbrev yH:zh:=top 16
noncomputable abbrev Jm:List Str:=["_law_cell_here","_law_names_here","_law_needs_here","_law_k","_law_at"]
theorem VE:qO Jm ["_law_cell_here"] (z3 yH):=⟨rfl,rfl,rfl,by decide +kernel,rfl,by decide +kernel,by decide +kernel⟩
theorem gI:(["_law_cell_here","_law_names_here","_law_needs_here","","_law_at"]:List Str).Nodup:=by decide +kernel
theorem CF:(["_law_cell_here","_law_names_here","_law_needs_here","","_law_at","_law_k"]:List Str).Nodup:=by decide +kernel
theorem Ca (c:mg "range" = none) (d:mg "str" = none) (e:RM 0 "_law_chain" yH A s f cdv):WS (cX P w K mg base Jm "_law_chain" yH f cdv A outer s H E) Θ0 (bd yH 0) M.Ju:=by
 unfold M.Ju;exact (w_ms_hide (i:=3) (N:=["_law_cell_here","_law_names_here","_law_needs_here","","_law_at"]) rfl (w_ms_setcomp (vars:=["_law_k"]) (i:=1) rfl ⟨rfl,rfl,(by kernel_rfl),(by kernel_rfl),(by decide +kernel),trivial,(by kernel_rfl)⟩ gI rfl (zb (by kernel_rfl)) (w_mi_range1 gk c w_me_int) (λ_ _ _ _=>(w_mg_name (i:=5) CF rfl (zb (by kernel_rfl)) (.inr (by kernel_rfl)))) (λ_ _ _ _=>Qt) (λ_ _ _ _=>(w_me_op (OpR.or qc qj) qe zz (w_me_callTy d5 Bn gk d Do (w_ma_cons (w_me_op j0 jz (w_me_op Xw Xs (vv 5) w_me_int) w_me_int) w_ma_nil)))) (by kernel_rfl)))
theorem DZ (c:RM 0 "_law_chain" yH A s f cdv):WS (cX P w K mg base Jm "_law_chain" yH f cdv A outer s H E) Θ0 (bd yH 1) M.k7:=by
 unfold M.k7;exact (w_ms_set (i:=2) VE.nd rfl (zb (by kernel_rfl)) w_me_dnew)
theorem bW (c:mg "range" = none) (d:mg "max" = none) (e:RM 0 "_law_chain" yH A s f cdv):WS (cX P w K mg base Jm "_law_chain" yH f cdv A outer s H E) Θ0 (bd yH 2) M.kE:=by
 unfold M.kE;exact (w_ms_for yc rfl (w_mi_range1 gk c w_me_int) (w_mg_name (i:=3) VE.nd rfl (zb (by kernel_rfl)) (.inl rfl))
  (w_mss_cons (w_ms_set (i:=4) VE.nd rfl (zb (by kernel_rfl)) (w_me_op j0 jz (w_me_op (OpR.or qc qj) qe (w_me_op Xw Xs (vv 3) (w_me_op (OpR.or qc qj) qe w_me_int (w_me_op j0 jz (vv 0) w_me_int))) (w_me_op JC Qy (vv 0) w_me_int)) w_me_int))
  (w_mss_one (w_ms_sub e (vv 2) (w_me_ix (qR e) qS (vv 1) (vv 4)) (w_me_sl xj xY (vv 1) (w_mo_some (w_me_callB (wy rfl) AR gk d YF (w_ma_cons w_me_int (w_ma_cons (w_me_op uw YP (vv 4) w_me_int) w_ma_nil)))) (w_mo_some (vv 4)))))))
theorem cY (c:RM 0 "_law_chain" yH A s f cdv):WS (cX P w K mg base Jm "_law_chain" yH f cdv A outer s H E) Θ0 (bd yH 3) M.JM:=by
 unfold M.JM;exact (w_ms_if (w_mt_cmp (ZV c) ZX (w_me_op j0 jz (w_me_op JC Qy (vv 0) w_me_int) w_me_int) w_me_int (qt _))
  (w_mss_one (w_ms_sub c (vv 2) (w_me_ix (qR c) qS (vv 1) (w_me_op j0 jz (vv 0) w_me_int)) (w_me_lst (w_ma_cons (w_me_ix (qR c) qS (vv 1) w_me_int) w_ma_nil))))
  w_mss_nil)
theorem Gw (c:RM 0 "_law_chain" yH A s f cdv):WS (cX P w K mg base Jm "_law_chain" yH f cdv A outer s H E) Θ0 (bd yH 4) M.Kj:=by
 unfold M.Kj;exact (w_ms_ret (vv 2))
theorem cb (F:Fun K "_law_chain" "_law_chain" yH f fd) (c:mg "range" = none) (d:mg "str" = none) (e:mg "max" = none) :
  jc P w K mg base CX0 1 f fd ["_law_cell_here"] (SpM K Θ0 1 M.vQ):=by
 refine w_fun_M0 (N:=Jm) (b:=M.Vx) F VE λcdv A outer s H E g=>?_;unfold M.Vx;exact (w_mss_cons (Ca c d g) (w_mss_cons (DZ g) (w_mss_cons (bW c e g) (w_mss_cons (cY g) (w_mss_one (Gw g))))))
noncomputable abbrev uD:zh:=top 1
noncomputable abbrev aG:List Str:=["needs","needers","name","needed"]
theorem vt:qO aG ["needs"] (z3 uD):=⟨rfl,rfl,rfl,by decide +kernel,rfl,by decide +kernel,by decide +kernel⟩
theorem Dk (F:Fun K "needers_of" "needers_of" uD f fd) :
  jc P w K mg base CX0 1 f fd ["needs"] (SpM K Θ0 1 M.VA):=by
 refine w_fun_M0 (N:=aG) (b:=M.KG) F vt λcdv A outer s H E c=>?_;unfold M.KG;exact (w_mss_cons (w_ms_set (i:=1) vt.nd rfl (zb (by kernel_rfl)) w_me_dnew)
  (w_mss_cons (w_ms_forKeys yc rfl (vv 0) (w_mg_name (i:=2) vt.nd rfl (zb (by kernel_rfl)) (.inl rfl))
  (w_mss_one (w_ms_for yc rfl (w_mi_e (w_me_ix (qR c) qS (vv 0) (vv 2))) (w_mg_name (i:=3) vt.nd rfl (zb (by kernel_rfl)) (.inl rfl))
  (w_mss_cons (w_ms_if (w_mt_cmp (gH c) E2 (vv 3) (vv 1) (by rfl))
  (w_mss_one (w_ms_sub c (vv 1) (vv 3) w_me_dnew))
  w_mss_nil)
  (w_mss_one (w_ms_sub c (w_me_ix (qR c) qS (vv 1) (vv 3)) (vv 2) w_me_bl))))))
  (w_mss_one (w_ms_ret (vv 1)))))
noncomputable abbrev YN:zh:=top 2
noncomputable abbrev C4:List Str:=["needs","names","name","needed"]
theorem uE:qO C4 ["needs"] (z3 YN):=⟨rfl,rfl,rfl,by decide +kernel,rfl,by decide +kernel,by decide +kernel⟩
theorem DC:(["needs","names","","needed"]:List Str).Nodup:=by decide +kernel
theorem cR:(["needs","names","","needed","name"]:List Str).Nodup:=by decide +kernel
theorem Cg (F:Fun K "names_of" "names_of" YN f fd) (d:mg "dict" = none) (c:mg "sorted" = none) :
  jc P w K mg base CX0 1 f fd ["needs"] (SpM K Θ0 1 M.J7):=by
 refine w_fun_M (b:=M.Xy) F uE M.di λcdv A outer s H E e=>?_;unfold M.Xy;exact (w_mss_cons (w_ms_hide (i:=2) (N:=["needs","names","","needed"]) rfl (w_ms_frz (i:=0) (w_ms_set (i:=1) DC rfl (zb (by kernel_rfl)) (w_me_callTy (um e) Vb gk d Kt (w_ma_cons (w_me_comp (vars:=["name"]) rfl ⟨rfl,rfl,(by kernel_rfl),(by kernel_rfl),(by decide +kernel),trivial,(by kernel_rfl)⟩ (w_mi_keys (vv 0)) (λ_ _ _ _=>(w_mg_name (i:=4) cR rfl (zb (by kernel_rfl)) (.inr (by kernel_rfl)))) (λ_ _ _ _=>Qt) (λ_ _ _ _=>(w_me_tup (w_ma_cons (vv 4) (w_ma_cons w_me_bl w_ma_nil)))) (by kernel_rfl)) w_ma_nil)))))
  (w_mss_cons (w_ms_forKeys yc rfl (vv 0) (w_mg_name (i:=2) uE.nd rfl (zb (by kernel_rfl)) (.inl rfl))
  (w_mss_one (w_ms_for yc rfl (w_mi_e (w_me_ix (qR e) qS (vv 0) (vv 2))) (w_mg_name (i:=3) uE.nd rfl (zb (by kernel_rfl)) (.inl rfl))
  (w_mss_one (w_ms_sub e (vv 1) (vv 3) w_me_bl)))))
  (w_mss_one (w_ms_ret (w_me_callB (aI e) aL gk c av (w_ma_cons (vv 1) w_ma_nil))))))
noncomputable abbrev qM:zh:=top 3
noncomputable abbrev JX:List Str:=["needs","needers","ranked","missing","level","rank","above","name","needer"]
theorem JL:qO JX ["needs"] (z3 qM):=⟨rfl,rfl,rfl,by decide +kernel,rfl,by decide +kernel,by decide +kernel⟩
theorem bf:(["needs","needers","ranked","missing","level","rank","above","","needer"]:List Str).Nodup:=by decide +kernel
theorem GX:(["needs","needers","ranked","missing","level","rank","above","","needer","name"]:List Str).Nodup:=by decide +kernel
theorem HG:(["needs","needers","ranked","missing","level","rank","above","","needer"]:List Str).Nodup:=by decide +kernel
theorem cP:(["needs","needers","ranked","missing","level","rank","above","","needer","name"]:List Str).Nodup:=by decide +kernel
theorem hJ:(["needs","needers","ranked","missing","level","rank","above","","needer"]:List Str).Nodup:=by decide +kernel
theorem dR:(["needs","needers","ranked","missing","level","rank","above","","needer","name"]:List Str).Nodup:=by decide +kernel
theorem GG (c:VY P w K mg base) (d:RM 1 "ranks" qM A s f cdv):WS (cX P w K mg base JX "ranks" qM f cdv A outer s H E) Θ0 (bd qM 0) M.Jb:=by
 unfold M.Jb;exact (w_ms_set (i:=1) JL.nd rfl (zb (by kernel_rfl)) (w_me_call c d (by decide) gk (w_ma_cons (vc 0) w_ma_nil) (zr jq)))
theorem Ds (c:ub P w K mg base) (d:mg "dict" = none) (e:RM 1 "ranks" qM A s f cdv):WS (cX P w K mg base JX "ranks" qM f cdv A outer s H E) Θ0 (bd qM 1) M.xO:=by
 unfold M.xO;exact (w_ms_hide (i:=7) (N:=["needs","needers","ranked","missing","level","rank","above","","needer"]) rfl (w_ms_set (i:=2) bf rfl (zb (by kernel_rfl)) (w_me_callTy (um e) Vb gk d Kt (w_ma_cons (w_me_comp (vars:=["name"]) rfl ⟨rfl,rfl,(by kernel_rfl),(by kernel_rfl),(by decide +kernel),trivial,(by kernel_rfl)⟩ (w_mi_e (w_me_call c e (by decide) gk (w_ma_cons (vc 0) w_ma_nil) (zr jq))) (λ_ _ _ _=>(w_mg_name (i:=9) GX rfl (zb (by kernel_rfl)) (.inr (by kernel_rfl)))) (λ_ _ _ _=>Qt) (λ_ _ _ _=>(w_me_tup (w_ma_cons (vv 9) (w_ma_cons w_me_non w_ma_nil)))) (by kernel_rfl)) w_ma_nil))))
theorem Ft (c:mg "dict" = none) (d:mg "len" = none) (e:mg "set" = none) (g:RM 1 "ranks" qM A s f cdv):WS (cX P w K mg base JX "ranks" qM f cdv A outer s H E) Θ0 (bd qM 2) M.xM:=by
 unfold M.xM;exact (w_ms_hide (i:=7) (N:=["needs","needers","ranked","missing","level","rank","above","","needer"]) rfl (w_ms_frz (i:=2) (w_ms_set (i:=3) HG rfl (ZN (by kernel_rfl)) (w_me_callTy (um g) Vb gk c Kt (w_ma_cons (w_me_comp (vars:=["name"]) rfl ⟨rfl,rfl,(by kernel_rfl),(by kernel_rfl),(by decide +kernel),⟨(by kernel_rfl),trivial⟩,(by kernel_rfl)⟩ (w_mi_keys (vv 2)) (λ_ _ _ _=>(w_mg_name (i:=9) cP rfl (zb (by kernel_rfl)) (.inr (by kernel_rfl)))) (λ_ _ _ _=>Qt) (λ_ _ _ _=>(w_me_tup (w_ma_cons (vv 9) (w_ma_cons (w_me_lenset g gk d Zk gk e CW (w_ma_cons (w_me_m PySem.F.plainAttrs_dict PySem.F.slot_dict_get PySem.F.type_dict_get (vE g) vb rfl (vc 0) (w_ma_cons (vv 9) (w_ma_cons (w_me_lst w_ma_nil) w_ma_nil))) w_ma_nil)) w_ma_nil)))) (by kernel_rfl)) w_ma_nil)))))
theorem eW (c:RM 1 "ranks" qM A s f cdv):WS (cX P w K mg base JX "ranks" qM f cdv A outer s H E) Θ0 (bd qM 3) M.J9:=by
 unfold M.J9;exact (w_ms_hide (i:=7) (N:=["needs","needers","ranked","missing","level","rank","above","","needer"]) rfl (w_ms_frz (i:=2) (w_ms_setcomp (vars:=["name"]) (i:=4) rfl ⟨rfl,rfl,(by kernel_rfl),(by kernel_rfl),(by decide +kernel),⟨(by kernel_rfl),trivial⟩,(by kernel_rfl)⟩ hJ rfl (zb (by kernel_rfl)) (w_mi_keys (vv 2)) (λ_ _ _ _=>(w_mg_name (i:=9) dR rfl (zb (by kernel_rfl)) (.inr (by kernel_rfl)))) (λ_ _ _ _=>(d4 (w_mt_cmp (ZV c) ZX (w_me_ix (qR c) qS (vc 3) (vv 9)) w_me_int (qt _)))) (λ_ _ _ _=>(vv 9)) (by kernel_rfl))))
theorem cG (c:RM 1 "ranks" qM A s f cdv):WS (cX P w K mg base JX "ranks" qM f cdv A outer s H E) Θ0 (bd qM 4) M.xm:=by
 unfold M.xm;exact (w_ms_set (i:=5) JL.nd rfl (zb (by kernel_rfl)) w_me_int)
theorem Dd (c:mg "len" = none) (d:RM 1 "ranks" qM A s f cdv):WS (cX P w K mg base JX "ranks" qM f cdv A outer s H E) Θ0 (bd qM 5) M.xr:=by
 unfold M.xr;exact (w_ms_while yc (w_mt_cmp vo vf (w_me_callB QI QF gk c Zk (w_ma_cons (vv 4) w_ma_nil)) w_me_int (qt _))
  (w_mss_cons (w_ms_set (i:=6) JL.nd rfl (zb (by kernel_rfl)) (w_me_lst w_ma_nil))
  (w_mss_cons (w_ms_for yc rfl (w_mi_e (vv 4)) (w_mg_name (i:=7) JL.nd rfl (zb (by kernel_rfl)) (.inl rfl))
  (w_mss_cons (w_ms_sub d (vv 2) (vv 7) (vv 5))
  (w_mss_one (w_ms_forKeys yc rfl (w_me_m PySem.F.plainAttrs_dict PySem.F.slot_dict_get PySem.F.type_dict_get (vE d) vb rfl (vv 1) (w_ma_cons (vv 7) (w_ma_cons w_me_dnew w_ma_nil))) (w_mg_name (i:=8) JL.nd rfl (zb (by kernel_rfl)) (.inl rfl))
  (w_mss_cons (w_ms_daug d (vc 3) (vv 8) w_me_int Bs HU)
  (w_mss_one (w_ms_if (w_mt_cmp (ZV d) ZX (w_me_ix (qR d) qS (vc 3) (vv 8)) w_me_int (qt _))
  (w_mss_one (w_ms_expr (w_me_m PySem.F.plainAttrs_list PySem.F.slot_list_append PySem.F.type_list_append A5 aC rfl (vv 6) (w_ma_cons (vv 8) w_ma_nil))))
  w_mss_nil)))))))
  (w_mss_cons (w_ms_set (i:=4) JL.nd rfl (zb (by kernel_rfl)) (vv 6))
  (w_mss_one (w_ms_aug (i:=5) JL.nd rfl (zb (by kernel_rfl)) w_me_int Cc Bq))))))
theorem GS (c:RM 1 "ranks" qM A s f cdv):WS (cX P w K mg base JX "ranks" qM f cdv A outer s H E) Θ0 (bd qM 6) M.Xf:=by
 unfold M.Xf;exact (w_ms_ret (vv 2))
theorem gW (F:Fun K "ranks" "ranks" qM f fd) (c:VY P w K mg base) (d:ub P w K mg base) (e:mg "dict" = none) (g:mg "len" = none) (h:mg "set" = none) :
  jc P w K mg base CX0 2 f fd ["needs"] (SpM K Θ0 1 M.ZY):=by
 refine w_fun_M (b:=M.YS) F JL M.FR λcdv A outer s H E i=>?_;unfold M.YS;exact (w_mss_cons (GG c i) (w_mss_cons (Ds d e i) (w_mss_cons (Ft e g h i) (w_mss_cons (eW i) (w_mss_cons (cG i) (w_mss_cons (Dd g i) (w_mss_one (GS i))))))))
noncomputable abbrev YB:zh:=top 12
noncomputable abbrev eS:List Str:=["_law_handed","_law_needs_here"]
theorem DQ:qO eS ["_law_handed","_law_needs_here"] (z3 YB):=⟨rfl,rfl,rfl,by decide +kernel,rfl,by decide +kernel,by decide +kernel⟩
theorem Fe (F:Fun K "_law_stayed" "_law_stayed" YB f fd) (c:mg "list" = none) :
  jc P w K mg base CX0 1 f fd ["_law_handed","_law_needs_here"] (SpM K Θ0 2 M.k4):=by
 refine w_fun_M (b:=M.XW) F DQ M.Bo λcdv A outer s H E d=>?_;unfold M.XW;exact (w_mss_one (w_ms_ret (w_me_and (w_me_cmp (ZV d) ZX (w_me_callTy (VO d) vq gk c xu (w_ma_cons (vv 0) w_ma_nil)) (w_me_callTy (VO d) vq gk c xu (w_ma_cons (vv 1) w_ma_nil)) (qt _)) (w_me_one (w_me_cmp (ZV d) ZX (vv 0) (vv 1) (qt _))))))
noncomputable abbrev Y7:zh:=top 13
noncomputable abbrev eU:List Str:=["_law_found"]
theorem Dx:qO eU ["_law_found"] (z3 Y7):=⟨rfl,rfl,rfl,by decide +kernel,rfl,by decide +kernel,by decide +kernel⟩
theorem EI (F:Fun K "_law_whole" "_law_whole" Y7 f fd) (c:mg "isinstance" = none) (e:mg "int" = none) (d:mg "bool" = none) :
  jc P w K mg base CX0 1 f fd ["_law_found"] (SpM K Θ0 1 M.Xn):=by
 refine w_fun_M (b:=M.Ym) F Dx M.Eu λcdv A outer s H E g=>?_;unfold M.Ym;exact (w_mss_one (w_ms_ret (w_me_and (w_me_callB Yv Yb gk c uT (w_ma_cons (vv 0) (w_ma_cons (w_me_ty .int gk e WN) w_ma_nil))) (w_me_one (w_me_not (w_me_callB Yv Yb gk c uT (w_ma_cons (vv 0) (w_ma_cons (w_me_ty .bool gk d dO) w_ma_nil))))))))
noncomputable abbrev yG:zh:=top 15
noncomputable abbrev kP:List Str:=["_law_found","_law_needs_here","_law_name_here","_law_rank","_law_others"]
theorem uO:qO kP ["_law_found","_law_needs_here","_law_name_here"] (z3 yG):=⟨rfl,rfl,rfl,by decide +kernel,rfl,by decide +kernel,by decide +kernel⟩
theorem BE:(["_law_found","_law_needs_here","_law_name_here","_law_rank","_law_others","_law_one"]:List Str).Nodup:=by decide +kernel
theorem G8:(["_law_found","_law_needs_here","_law_name_here","_law_rank","_law_others","_law_one"]:List Str).Nodup:=by decide +kernel
theorem cx (c:RM 1 "_law_right" yG A s f cdv):WS (cX P w K mg base kP "_law_right" yG f cdv A outer s H E) Θ0 (bd yG 0) M.xD:=by
 unfold M.xD;exact (w_ms_set (i:=3) uO.nd rfl (zb (by kernel_rfl)) (w_me_ix (qR c) qS (vc 0) (vv 2)))
theorem C3 (c:RM 1 "_law_right" yG A s f cdv):WS (cX P w K mg base kP "_law_right" yG f cdv A outer s H E) Θ0 (bd yG 1) M.J8:=by
 unfold M.J8;exact (w_ms_setcomp (vars:=["_law_one"]) (i:=4) rfl ⟨rfl,rfl,(by kernel_rfl),(by kernel_rfl),(by decide +kernel),⟨(by kernel_rfl),trivial⟩,(by kernel_rfl)⟩ uO.nd rfl (zb (by kernel_rfl)) (w_mi_e (w_me_m PySem.F.plainAttrs_dict PySem.F.slot_dict_get PySem.F.type_dict_get (vE c) vb rfl (vv 1) (w_ma_cons (vv 2) (w_ma_cons (w_me_lst w_ma_nil) w_ma_nil)))) (λ_ _ _ _=>(w_mg_name (i:=5) BE rfl (zb (by kernel_rfl)) (.inr (by kernel_rfl)))) (λ_ _ _ _=>Qt) (λ_ _ _ _=>(w_me_ix (qR c) qS (vc 0) (vv 5))) (by kernel_rfl))
theorem BZ (c:RM 1 "_law_right" yG A s f cdv):WS (cX P w K mg base kP "_law_right" yG f cdv A outer s H E) Θ0 (bd yG 2) M.Zq:=by
 unfold M.Zq;exact (w_ms_if (w_mt_isN (vv 3))
  (w_mss_one (w_ms_ret (w_me_cmp (uJ c) Yt w_me_non (vv 4) (by rfl))))
  w_mss_nil)
theorem BQ (c:uk P w K mg base) (d:RM 1 "_law_right" yG A s f cdv):WS (cX P w K mg base kP "_law_right" yG f cdv A outer s H E) Θ0 (bd yG 3) M.Q7:=by
 unfold M.Q7;exact (w_ms_if (w_mt_ofw (w_mw_or (w_mt_not (w_mt_tru (w_me_call c d (by decide) gk (w_ma_cons (vv 3) w_ma_nil) (zr jq)))) (w_mw_one_or (w_mt_cmp (uJ d) Yt w_me_non (vv 4) (by rfl)))))
  (w_mss_one (w_ms_ret w_me_bl))
  w_mss_nil)
theorem FU (c:mg "max" = none) (d:RM 1 "_law_right" yG A s f cdv):WS (cX P w K mg base kP "_law_right" yG f cdv A outer s H E) Θ0 (bd yG 4) M.JY:=by
 unfold M.JY;exact (w_ms_ret (w_me_cmp (ZV d) ZX (vv 3) (w_me_maxZ d gk c YF (w_ma_cons (w_me_comp (vars:=["_law_one"]) rfl ⟨rfl,rfl,(by kernel_rfl),(by kernel_rfl),(by decide +kernel),trivial,(by kernel_rfl)⟩ (w_mi_e (vv 4)) (λ_ _ _ _=>(w_mg_name (i:=5) G8 rfl (zb (by kernel_rfl)) (.inr (by kernel_rfl)))) (λ_ _ _ _=>Qt) (λ_ _ _ _=>(w_me_op (OpR.or qc qj) qe (vv 5) w_me_int)) (by kernel_rfl)) w_ma_nil)) (qt _)))
theorem DW (F:Fun K "_law_right" "_law_right" yG f fd) (c:uk P w K mg base) (d:mg "max" = none) :
  jc P w K mg base CX0 2 f fd ["_law_found","_law_needs_here","_law_name_here"] (SpM K Θ0 3 M.Qk):=by
 refine w_fun_M (b:=M.uY) F uO M.fe λcdv A outer s H E e=>?_;unfold M.uY;exact (w_mss_cons (cx e) (w_mss_cons (C3 e) (w_mss_cons (BZ e) (w_mss_cons (BQ c e) (w_mss_one (FU d e))))))
noncomputable abbrev ji:zh:=top 17
noncomputable abbrev QV:List Str:=["_law_script","_law_names_here","_law_needs_here","_law_handed","_law_due","_law_turn","_law_found","_law_name_here","_law_kept","_law_other"]
theorem y2:qO QV ["_law_script"] (z3 ji):=⟨rfl,rfl,rfl,by decide +kernel,rfl,by decide +kernel,by decide +kernel⟩
theorem Ee (c:Vk P w K mg base) (d:RM 3 "law" ji A s f cdv):WS (cX P w K mg base QV "law" ji f cdv A outer s H E) Θ0 (bd ji 0) M.Jg:=by
 unfold M.Jg;exact (w_ms_set (i:=1) y2.nd rfl (zb (by kernel_rfl)) (w_me_call c d (by decide) gk (w_ma_cons (vv 0) (w_ma_cons w_me_int w_ma_nil)) (zr (zr jq))))
theorem GZ (c:Y5 P w K mg base) (d:RM 3 "law" ji A s f cdv):WS (cX P w K mg base QV "law" ji f cdv A outer s H E) Θ0 (bd ji 1) M.Jw:=by
 unfold M.Jw;exact (w_ms_set (i:=2) y2.nd rfl (zb (by kernel_rfl)) (w_me_call c d (by decide) gk (w_ma_cons (vv 0) (w_ma_cons w_me_int (w_ma_cons (vv 1) w_ma_nil))) (zr (zr (zr jq)))))
theorem c7 (d:Ys P w K mg base) (c:QZ P w K mg base) (e:RM 3 "law" ji A s f cdv):WS (cX P w K mg base QV "law" ji f cdv A outer s H E) Θ0 (bd ji 2) M.Zs:=by
 unfold M.Zs;exact (w_ms_if (w_mt_cmp (ZV e) ZX (w_me_op j0 jz (w_me_call c e (by decide) gk (w_ma_cons (vv 0) (w_ma_cons w_me_int w_ma_nil)) (zr (zr jq))) w_me_int) w_me_int (qt _))
  (w_mss_one (w_ms_set (i:=2) y2.nd rfl (zb (by kernel_rfl)) (w_me_call d e (by decide) gk (w_ma_cons (w_me_op JC Qy (w_me_call c e (by decide) gk (w_ma_cons (vv 0) (w_ma_cons w_me_int w_ma_nil)) (zr (zr jq))) w_me_int) w_ma_nil) (zr jq))))
  w_mss_nil)
theorem bq (c:VG P w K mg base) (d:RM 3 "law" ji A s f cdv):WS (cX P w K mg base QV "law" ji f cdv A outer s H E) Θ0 (bd ji 3) M.Qa:=by
 unfold M.Qa;exact (w_ms_set (i:=3) y2.nd rfl (zb (by kernel_rfl)) (w_me_call c d (by decide) gk (w_ma_cons (vv 2) w_ma_nil) (zr jq)))
theorem eh (c:VS P w K mg base) (d:RM 3 "law" ji A s f cdv):WS (cX P w K mg base QV "law" ji f cdv A outer s H E) Θ0 (bd ji 4) M.QU:=by
 unfold M.QU;exact (w_ms_set (i:=4) y2.nd rfl (zb (by kernel_rfl)) (w_me_call c d (by decide) gk (w_ma_cons (vv 2) w_ma_nil) (zr jq)))
theorem cC (c:VG P w K mg base) (l:VS P w K mg base) (m:Vg P w K mg base) (d:uf P w K mg base) (e:Ya P w K mg base) (n:mg "range" = none) (h:mg "list" = none) (g:mg "isinstance" = none) (o:mg "dict" = none) (p:mg "len" = none) (j:RM 3 "law" ji A s f cdv):WS (cX P w K mg base QV "law" ji f cdv A outer s H E) Θ0 (bd ji 5) M.Qu:=by
 unfold M.Qu;exact (w_ms_for yc rfl (w_mi_range1 gk n w_me_int) (w_mg_name (i:=5) y2.nd rfl (zb (by kernel_rfl)) (.inl rfl))
  (w_mss_cons (w_ms_set (i:=6) y2.nd rfl (zb (by kernel_rfl)) (w_me_call m j (by decide) gk (w_ma_cons (vv 3) w_ma_nil) (zr jq)))
  (w_mss_cons (w_ms_if (w_mt_ofw (w_mw_or (w_mt_not (w_mt_tru (w_me_callB Yv Yb gk g uT (w_ma_cons (vv 6) (w_ma_cons (w_me_ty .dict gk o Kt) w_ma_nil))))) (w_mw_or (w_mt_cmp (Yc j) uh (w_me_callTy (VO j) vq gk h xu (w_ma_cons (vv 6) w_ma_nil)) (vv 4) (qt _)) (w_mw_one_or (w_mt_not (w_mt_tru (w_me_call d j (by decide) gk (w_ma_cons (vv 3) (w_ma_cons (vv 2) w_ma_nil)) (zr (zr jq)))))))))
  (w_mss_one (w_ms_ret w_me_bl))
  w_mss_nil)
  (w_mss_cons (w_ms_for yc rfl (w_mi_e (vv 4)) (w_mg_name (i:=7) y2.nd rfl (zb (by kernel_rfl)) (.inl rfl))
  (w_mss_one (w_ms_if (w_mt_not (w_mt_tru (w_me_call e j (by decide) gk (w_ma_cons (vv 6) (w_ma_cons (vv 2) (w_ma_cons (vv 7) w_ma_nil))) (zr (zr (zr jq))))))
  (w_mss_one (w_ms_ret w_me_bl))
  w_mss_nil)))
  (w_mss_cons (w_ms_set (i:=8) y2.nd rfl (zb (by kernel_rfl)) (w_me_listitems j gk h xu (vv 6)))
  (w_mss_cons (w_ms_set (i:=9) y2.nd rfl (zb (by kernel_rfl)) (w_me_call m j (by decide) gk (w_ma_cons (w_me_disp (w_mp_cons (w_me_ix (qR j) qS (vv 1) w_me_int) (w_me_lst (w_ma_cons (w_me_op (OpR.or qc qj) qe (w_me_ix (qR j) qS (vv 1) w_me_int) zz) w_ma_nil)) w_mp_nil)) w_ma_nil) (zr jq)))
  (w_mss_cons (w_ms_if (w_mt_ofw (w_mw_or (w_mt_cmp (Yc j) uh (w_me_listitems j gk h xu (vv 6)) (vv 8) (qt _)) (w_mw_one_or (w_mt_cmp (Yc j) uh (w_me_callB QI QF gk p Zk (w_ma_cons (vv 9) w_ma_nil)) w_me_int (qt _)))))
  (w_mss_one (w_ms_ret w_me_bl))
  w_mss_nil)
  (w_mss_cons (w_ms_expr (w_me_m0 PySem.F.plainAttrs_dict PySem.F.slot_dict_clear PySem.F.type_dict_clear fF HD rfl (vv 6)))
  (w_mss_cons (w_ms_sub j (vv 3) (w_me_ix (qR j) qS (vv 1) w_me_int) (w_me_op (OpR.or qc qj) qe (w_me_m PySem.F.plainAttrs_dict PySem.F.slot_dict_get PySem.F.type_dict_get (vE j) vb rfl (vv 3) (w_ma_cons (w_me_ix (qR j) qS (vv 1) w_me_int) (w_ma_cons (w_me_lst w_ma_nil) w_ma_nil))) (w_me_sl xj xY (vv 1) (w_mo_some (w_me_un Gy BH w_me_int)) w_mo_none)))
  (w_mss_cons (w_ms_set (i:=2) y2.nd rfl (zb (by kernel_rfl)) (w_me_call c j (by decide) gk (w_ma_cons (vv 3) w_ma_nil) (zr jq)))
  (w_mss_one (w_ms_set (i:=4) y2.nd rfl (zb (by kernel_rfl)) (w_me_call l j (by decide) gk (w_ma_cons (vv 2) w_ma_nil) (zr jq))))))))))))))
theorem ek (c:RM 3 "law" ji A s f cdv):WS (cX P w K mg base QV "law" ji f cdv A outer s H E) Θ0 (bd ji 6) M.ki:=by
 unfold M.ki;exact (w_ms_ret w_me_bl)
theorem fT (F:Fun K "law" "law" ji f fd) (g:Vk P w K mg base) (h:Y5 P w K mg base) (c:VG P w K mg base) (d:VS P w K mg base) (i:Ys P w K mg base) (n:Vg P w K mg base) (m:QZ P w K mg base) (e:uf P w K mg base) (j:Ya P w K mg base) (o:mg "range" = none) (p:mg "list" = none) (l:mg "isinstance" = none) (q:mg "dict" = none) (r:mg "len" = none) :
  jc P w K mg base CX0 4 f fd ["_law_script"] (SpM K Θ0 1 M.X3):=by
 refine w_fun_M0 (N:=QV) (b:=M.uG) F y2 λcdv A outer s H E t=>?_;unfold M.uG;exact (w_mss_cons (Ee g t) (w_mss_cons (GZ h t) (w_mss_cons (c7 i m t) (w_mss_cons (bq c t) (w_mss_cons (eh d t) (w_mss_cons (cC c d n e j o p l q r t) (w_mss_one (ek t))))))))
theorem HI {l:PySem.W.OpenLaw}{w:zy}{K:PySem.W.Frag}{h:zT}{mg:Str->Option zB}{fa f16:zC} (X:K.In h) (G:h.Ns jx mg) (hfa:mg "law" = some (.ref fa))
  {od16 an16:Option zC}{sl16:Array (Option zB)}{oc16 kV16 dc16 pm16 Y ct16:zB}
  (a1:IsG K "_law_cell" YY)
  (a2:IsG K "_law_mixed" ur)
  (a3:IsG K "_law_name" qp)
  (a4:IsG K "_law_names" qo)
  (a5:IsG K "_law_row" uz)
  (a6:IsG K "_law_needs" yg)
  (a7:IsG K "_law_copied" Yp)
  (a8:IsG K "_law_all" Vo)
  (a9:IsG K "_law_chain" yH)
  (a10:IsG K "needers_of" uD)
  (a11:IsG K "names_of" YN)
  (a12:IsG K "ranks" qM)
  (a13:IsG K "_law_stayed" YB)
  (a14:IsG K "_law_whole" Y7)
  (a15:IsG K "_law_right" yG)
  (a16:PySem.W.nsIn K jx "law" = some (some (.ref f16))) (l16:K.lookup f16=some ⟨oc16,od16,.func (PySem.W.fnOf "law" "law" (ym ji) (qm ji) (z3 ji) .none kV16 dc16 pm16 an16 Y ct16),sl16⟩) (c16:PySem.W.codeIn K Y "law" = true) (k16:PySem.W.keepIn K (.ref f16)=true)
  (z_len:PySem.W.nsIn K jx "len" = some none)
  (z_range:PySem.W.nsIn K jx "range" = some none)
  (z_max:PySem.W.nsIn K jx "max" = some none)
  (z_int:PySem.W.nsIn K jx "int" = some none)
  (z_list:PySem.W.nsIn K jx "list" = some none)
  (U:PySem.W.nsIn K jx "sorted" = some none)
  (z_str:PySem.W.nsIn K jx "str" = some none)
  (z_dict:PySem.W.nsIn K jx "dict" = some none)
  (z_set:PySem.W.nsIn K jx "set" = some none)
  (o:PySem.W.nsIn K jx "isinstance" = some none)
  (z_bool:PySem.W.nsIn K jx "bool" = some none)
  : ∃ fd:Qw,(∀ (s:zG) (v:zB),ko s fd ⟨[v],[]⟩ [("_law_script",v)])/\fd.scope.names.lookup ("_law_script" : Str)=some .local/\∀ base:zT,K.In base->base.Ns jx mg->jc l.prog w K mg base CX0 4 fa fd ["_law_script"] (SpM K Θ0 1 M.X3):=by
 have e:=hfa.symm.trans (PySem.W.mg_of X G a16);cases e;have F16:=YE (x := "law") (qual := "law") (st:=ji) l16 c16 k16;have j:=PySem.W.mg_none_of X G z_len;have d:=PySem.W.mg_none_of X G z_range;have Q:=PySem.W.mg_none_of X G z_max;have Uk:=PySem.W.mg_none_of X G z_int;have B:=PySem.W.mg_none_of X G z_list;have z:=PySem.W.mg_none_of X G U;have Em:=PySem.W.mg_none_of X G z_str;have C:=PySem.W.mg_none_of X G z_dict;have DX:=PySem.W.mg_none_of X G z_set;have i:=PySem.W.mg_none_of X G o;have Bj:=PySem.W.mg_none_of X G z_bool;refine⟨(PySem.W.fnOf "law" "law" (ym ji) (qm ji) (z3 ji) .none kV16 dc16 pm16 an16 Y ct16),λs v=>.of_eq rfl,by kernel_rfl,λbase _ _=>?_⟩;have g:QZ l.prog w K mg base:=yZ a1 X G λ_ _ F _ _ _=>Dp F j;have c:Z5 l.prog w K mg base:=yZ a2 X G λ_ _ F _ _ _=>gB F;have I:uy l.prog w K mg base:=yZ a3 X G λ_ _ F _ _ _=>gF F c j d;have p:Vk l.prog w K mg base:=yZ a4 X G λ_ _ F _ _ _=>Eo F g I c d;have J:Vs l.prog w K mg base:=yZ a5 X G λ_ _ F _ _ _=>GL F c d Q j Uk;have q:Y5 l.prog w K mg base:=yZ a6 X G λ_ _ F _ _ _=>cA F g c J d j;have m:VG l.prog w K mg base:=yZ a7 X G λ_ _ F _ _ _=>Di F B;have L:VS l.prog w K mg base:=yZ a8 X G λ_ _ F _ _ _=>F2 F z;have r:Ys l.prog w K mg base:=yZ a9 X G λ_ _ F _ _ _=>cb F d Em Q;have t:VY l.prog w K mg base:=yZ a10 X G λ_ _ F _ _ _=>Dk F;have N:ub l.prog w K mg base:=yZ a11 X G λ_ _ F _ _ _=>Cg F C z;have CY:Vg l.prog w K mg base:=yZ a12 X G λ_ _ F _ _ _=>gW F t N C j DX;have n:uf l.prog w K mg base:=yZ a13 X G λ_ _ F _ _ _=>Fe F B;have u:uk l.prog w K mg base:=yZ a14 X G λ_ _ F _ _ _=>EI F i Uk Bj;have y:Ya l.prog w K mg base:=yZ a15 X G λ_ _ F _ _ _=>DW F u Q;exact fT F16 p q m L r CY g n y d B i C j
theorem fh {l:PySem.W.OpenLaw}{g:zy->zT->Prop}{d:DefRec}{K:Params->PySem.W.Frag} (j:l.most=some 63) (c:d.params.defaults=[])
  (m:∀ (w:zy) (h:zT),g w h->(K w.params).In h)
  (F:∀ (w:zy) (mg:Str->Option zB) (i:zC) (h:zT),(K w.params).In h->h.Ns jx mg->mg d.name=some (.ref i) ->
   ∃ fd:Qw,(∀ (s:zG) (u:zB),ko s fd ⟨[u],[]⟩ [("_law_script",u)])/\fd.scope.names.lookup ("_law_script" : Str)=some .local/\∀ base:zT,(K w.params).In base->base.Ns jx mg->jc l.prog w (K w.params) mg base CX0 4 i fd ["_law_script"] (SpM (K w.params) Θ0 1 M.X3)) :
  PySem.W.WalkO q e v g l.row.toRowW d [] (λf o=>PySem.call f o) :=
 L2.FH (n:=63) (k:=4) (x := "_law_script") (CX:=λ_=>CX0) (sp:=λw=>SpM (K w.params) Θ0 1 M.X3) j (by decide) c ⟨rfl,by decide,by decide⟩ m F (λ_ _ _ _ p r t=>HE M.cU p r t) λ_ _ _ _ _ z=>z
end My
theorem PySem.W.Fast.tw808262962325166912:True:=trivial
theorem PySem.W.Fast.tw16498541015237450121:True:=trivial
theorem PySem.W.Fast.tw7725901860393977797:True:=trivial
theorem PySem.W.Fast.tw16766904024090211623:True:=trivial
theorem PySem.W.Fast.tw5527588234204546089:True:=trivial
theorem PySem.W.Fast.tw1419994449198831261:True:=trivial
theorem PySem.W.Fast.tw14175904673481437743:True:=trivial
theorem PySem.W.Fast.tw1237134573731463890:True:=trivial
theorem PySem.W.Fast.tw28042422461414776:True:=trivial
theorem PySem.W.Fast.tw4257623691103282229:True:=trivial
theorem PySem.W.Fast.tw15251736482756034164:True:=trivial
theorem PySem.W.Fast.tw7025839434823576161:True:=trivial
theorem PySem.W.Fast.tw722266358060455412:True:=trivial
theorem PySem.W.Fast.tw6512327583883346132:True:=trivial
theorem PySem.W.Fast.tw4115845543971673405:True:=trivial
theorem PySem.W.Fast.tw6617358383829588520:True:=trivial
theorem PySem.W.Fast.tw2609653418862257745:True:=trivial
theorem PySem.W.Fast.tw8850590421710493284:True:=trivial
theorem PySem.W.Fast.tw9206228493408774731:True:=trivial
theorem PySem.W.Fast.tw13497773668943479075:True:=trivial
theorem PySem.W.Fast.tw14581192636928563037:True:=trivial
theorem PySem.W.Fast.tw16141388715058658548:True:=trivial
theorem PySem.W.Fast.tw15065200586005177474:True:=trivial
theorem PySem.W.Fast.tw15990151888598461872:True:=trivial
theorem PySem.W.Fast.tw5133242045163905404:True:=trivial
theorem PySem.W.Fast.tw17929278198770729263:True:=trivial
theorem PySem.W.Fast.tw4364534186403317874:True:=trivial
theorem PySem.W.Fast.tw16545688989296865299:True:=trivial
theorem PySem.W.Fast.tw7597531292138392624:True:=trivial
theorem PySem.W.Fast.tw7169484311663460454:True:=trivial
theorem PySem.W.Fast.tw9019912167038522171:True:=trivial
theorem PySem.W.Fast.tw14091353648968788300:True:=trivial
theorem PySem.W.Fast.tw17594700928381655053:True:=trivial
theorem PySem.W.Fast.tw10396663690026651560:True:=trivial
theorem PySem.W.Fast.tw18394308949587942796:True:=trivial
theorem PySem.W.Fast.tw12820577860095682147:True:=trivial
theorem PySem.W.Fast.tw12313588797663553094:True:=trivial
theorem PySem.W.Fast.tw16711396414775606557:True:=trivial
open PySem PySem.W PyProof.Rows
set_option maxRecDepth 100000 in
set_option maxHeartbeats 0 in
theorem PySem.Challenge.cw_thingyard_k64_ranks_holds : PySem.Challenge.rw_thingyard_k64_ranks.Holds := by
 w_on;o_law;k_head;(case hw=>w_witness2)
 k_fill
 refine My.fh (l:=PySem.Challenge.rw_thingyard_k64_ranks) rfl rfl (λw h Y=>PySem.W.kIn_of Y) ?F
 case F =>
  intro w mg fa h KX G hmg;refine' My.HI KX G hmg ?_ ?_ ?_ ?_ ?_ ?_ ?_ ?_ ?_ ?_ ?_ ?_ ?_ ?_ ?_ ?_ ?_ ?_ ?_ ?_ ?_ ?_ ?_ ?_ ?_ ?_ ?_ ?_ ?_ ?_
  all_goals first | k_is | (refine' L2.isG ?a ?l ?c ?k;(case a=>k_is);(case l=>k_is);(case c=>k_is);(case k=>k_is)) | (refine' L2.isM ?a ?i ?l ?c ?k;(case a=>k_is);(case i=>k_is);(case l=>k_is);(case c=>k_is);(case k=>k_is)) | skip
