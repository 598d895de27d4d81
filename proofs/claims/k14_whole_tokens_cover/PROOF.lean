import PyProof.Rows.All
import Wide.All
import OpenK.AllK
import Wide.FinOn
import Lean
import PyProof.EqAt
import PyProof.EqKinds
import PyProof.TupleCall
import PyProof.ExcClass2
import PyProof.InstSpecial
import PyProof.InstStore
import PyProof.InstStoreFacts
import PyProof.StationsW
import PyProof.ExcArgsOwn
import PyProof.ExcAttrAll.ValueError
import PySem.Challenge.RW_thingyard_k14_whole_tokens_cover
set_option Elab.async false
set_option linter.all false
set_option maxRecDepth 100000
open PySem renaming Addr->zA,Value->zB,Shared->zD,Expr->zF,Heap->zJ,model->zN,World->zR,Stmt->zT,sizeLine->zV,Program->zW,Around->zZ,compareOp->zm,starEach->zn,mainGlobals->zr,FuncData->jU,backTo->ja,bootBuiltins->jk,swapsWith->j1,binaryOp->qC,CmpOp->qV,Scope->qW,wpAny_with_toks->qg,wpAny_loadPart_at->qu,typeLookup->qy,attributeBase->q1,compEnvC->yG,assignEach->yL,Model->yT,foldedSetIterable->yZ,behindInMarks->ye,PyData->yk,wpAny_truthy_bool->ZB,Keyword->ZW,valueAt->Zl,sizeLine_eq->Z0,NameKind->Z1,IsPart->Z2,wpAny_field->QI,assign->QM,cLine->QO,atKey->QR,sliceBounds->Qf,sysModules->Qq,PassesOwn->Qs,BindsTo->Qx,Drawn->JI,callerA->JJ,GenState->JP,Operator->JQ,wpAny_passesOwn->JR,getItem->Jq,PlainAttrs->J4,lastMarks->J7,wpAny_newObj_type->J9,setFlight->xC,cellsFrom->xH,typeOf->xb,codeAny_mono->x8,IsPair->kM,wpAny_Call_Name_kw->kQ,wpAny_standAt->kY,OsState->kg,wpAny_isSubtype_exc->kr,keywordEach->Xq,wpAny_call->Xt,wpAny_holding->KF,wpAny_setField->Ka,backToKw->Kf,unaryOp->Kj,InCallC->Kl,leaving->K8,post_val_or_str->vB,wpAny_execs_cons->vJ,wpAny_getItem_str_slice->vM,call_meets->vV,wpAny_Name->vd,checkBuiltinCall->vg,tupleKind->vk,builtinsNs->vt,noteFrame->VF,letOwnedTupleGo->VO,swappedStores->Vv,tupleKind_room_in1->YO,ExcBaseFacts->Ya,isInstance->Yh,excClassObj->Yo,handedOut->Yu,typeIs_str->Yx,inplaceOp->uD,wpAny_Assign_Name->uH,StoreFacts->uP,wpAny_loadName_local->uV,swapsWithSole->uW,codeAny_toks_of->ua,newFunctionEnv->uc,wpAny_loadName_cell->UM,wpAny_assign_Name->Uh,codeAny_call_builtin->wE,refuseLoop_ref->w5,wpAny_storeName_local->WB,noFill_tuple_add->WU,wpAny_pyIter_list->zCG,wpAny_comprehension_free->zCk,wpAny_mroOf_exc->zDH,wpAny_isTrue_Compare1->zDW,recursionLimit->zFk,lookupAlong_cons->zF1
open List renaming replicate->zb,range->jA,prefix_refl->jN,append_nil->jP,length_drop->jf,size_toArray->ji,length_map->j5,mem_cons_of_mem->qD,map_cons->qH,mem_cons_self->qT,getElem?_eq_getElem->qU,getElem?_append_left->qe,length_take->qk,getD_eq_getElem?_getD->qs,mem_append_right->q2,length_cons->yN,length_append->yc,takeWhile_cons->ym,getElem?_append_right->yv,map_id->y9,mem_of_getElem?->ZG,getElem?_map->ZL,lookup_cons->ZQ,getElem?_set_ne->ZR,length->ZX,contains_cons->ZY,replicate_succ->Zb,all_cons->Ze,length_range->Zm,map_congr_left->Zv,length_set->Zz,flatten_cons->Z6,drop_eq_getElem_cons->QB,getElem?_set_self->QG,prefix_append->Q0,take_of_length_le->Q5,filterMap_cons->JX,getElem?_range->xT,map_map->xY,find?_cons->xh,mem_of_mem_drop->kS,any_cons->kc,getElem?_eq_none->kh,map_nil->XS,getElem?_replicate->XT,map_drop->XV,mem_of_mem_take->Xk,append_assoc->Xx,takeWhile_prefix->X6,getElem_drop->KL,map_take->KN,take_succ_cons->Kr,all_map->Vn,getElem_take->Vs,drop_zero->V7,foldl->V9,foldl_cons->uE,of_mem_zip->uO,getElem?_drop->ut,set_comm->UF,mem_append_left->Uk,nodup_range->w6,length_nil->Wa,nodup_append->Wj,filterMap_map->Ws,nodup_nil->zAS,drop_length->zBc,sum_cons->zCs,extract_eq_take_drop->zC3,drop_of_length_le->zDb,getElem?_cons_succ->zDh,getElem_mem->zD1,range_succ_eq_map->zD2,mem_append->zEG,length_replicate->zE9,length_flatten->zF7
open False renaming elim->zd
open PySem.Heap renaming lt_size->ze,get?_push_of_some->jd,get?_push_size->yQ,get?_update_other->Qc,size_push->x9,SameBut->kB,get?_update_self->kj,size_after_update->Vk
open Or renaming inl->zf,inr->ZF
open Nat renaming le_refl->zl,lt_of_lt_of_le->zv,le_trans->zx,ne_of_lt->z5,succ_pos->qQ,lt_irrefl->qc,ne_of_gt->ZV,le_succ->Jw,add_sub_cancel_left->K4,le_of_eq->vF,zero_le->vP,le_of_lt->VD,lt_succ_self->ux,le_of_ble_eq_true->zDS,min_eq_left->zD8
open Bool renaming and_eq_true->jG,false_ne_true->jX,eq_iff_iff->ZN,or_eq_true->QY,true_and->Jb,or_true->xA,false_xor->Ko,true_xor->vZ,and_true->uk,or_false->wL,false_and->zDe,false_eq_true->zDi
open PySem.Value renaming ref->jV,none->jt,bool->ZP,int->kH,builtin->ke,type->XH,str->Xn,float->VC,isStrOf->Uz,bytes->zDu,isInt->zE0
open PyProof.Rows renaming Keyed->j9,envOfC->qF,AllBare->y8,pendingOf->kU,IntsAre->XP,callWith_type1->uh,slot_tuple_getitem->US,slicePart_none->wY,subscriptTail_builtinR->zC5,callWith_builtin1->zGL
open Ne renaming symm->qM
open PySem.SeqAt renaming shaped->qm,canLay_of_shaped->zDE,EqAt->zFr
open Int renaming emod_nonneg->yE,emod_lt_of_pos->yj,natCast_add->vA,ediv_one->zCz
open Option.some renaming inj->yf,injEq->zEs
open PySem.Obj renaming mapFields->Zn,isFreed_of_fields->K2,data_mapFields->vO,mapSeq->zD4
open PySem.NameKind renaming free->Z7,cell->xy
open PySem.PyData renaming eqv->QK,depthAll->KW,depth->U7,eqvAll->WJ,canLayAll0->zCD,strOk->zF4
open Option renaming map_some->QS,map->XM,getD_some->VI,isSome_map->UL,getD_none->zEW
open Sum renaming inl->Qp,inr->JF
open True renaming intro->Q4
open PySem.Builtin.Str renaming occurrences->Q9,strSliceIndices->zFL,tooLong->zGQ,subAt->zGh
open PySem.Txt renaming find3->kP,mul->km,slice->XL,join->KA,stripChars->KZ
open PySem.Builtin.Slice renaming slicePlaces->KI,sliceAdjust->Y6,sliceApplied->zAs,sliceFields->zGH,slicePartIndex->zGg
open PySem.Builtin.Tuple renaming tupleExact->K1,tupleItemsOf->zGe
open PySem.Builtin renaming globals->vC
open Array renaming length_toList->vK,toList->YF
open PySem.Str renaming length->vL
open PySem.Builtin.List renaming listTooLong->Vi,listFitsIndex->zGF
open Classical renaming propDecidable->Vo
open PySem.PassesOwn renaming never->YM
open PySem.Code renaming isFrame->Yd,frames->UN,quiet_builtin->WC
open PySem.Calls renaming Name_function_global->Y3,loadGlobal_global->zB0,evalArgs_plain->zDd,callWith_builtin->zEQ
open PySem.Around renaming under->uG
open PySem.CmpOp renaming NotIn->Up,In->WP
open PySem.SeqAt.EqAt renaming int_str->wI,str_int->w8,bool_str->zGE,bool_none->zGI,int_int->zGJ,none_str->zGP,bool_int->zGT,str_str->zGV,bool_bool->zGX,same->zGZ,none_bool->zGa,str_bool->zGb,int_bool->zGc,int_none->zGf,str_none->zGj,none_int->zGk
open PyProof.Rows.IsTup renaming new->wQ
open PySem.StrLaws renaming At->wy
open PySem.W.WShape renaming has->zAl
open List.cons renaming inj->zA6
open ForInStep renaming yield->zA9
open Sum.inr renaming inj->zBu
open PySem.W.WData renaming int->zCf
open PySem.Data renaming fields->zDv,cell->zFp
open List.Pairwise renaming nil->zEM
open PySem.EntryCells renaming newEntry->zFV
open PySem.Heap.IsSliceOf renaming new->zGM
open PySem.Builtin.Range renaming rangeSize->zGU
noncomputable section
namespace L2
open PySem PySem.Spec PyProof.Rows
noncomputable abbrev Key:=Sum Int Str
noncomputable def Qt:Key->zB->Bool
 | .inl k,v=>zE0 k v
 | .inr x,v=>Uz x v
noncomputable def zFd (w:zR):Key->Int
 | .inl k=>hashInt k
 | .inr x=>hashStr w x
theorem yx:∀ {k:Key}{v:zB},Qt k v=true->(∃ i t,k=Qp i/\v=kH i t)\/(∃ x t,k=JF x/\v=Xn x t)
 | .inl i,v,h=>by
  obtain⟨t,e⟩:=Value.isInt_shape (k:=i) (v:=v) h;exact .inl ⟨i,t,rfl,e⟩
 | .inr x,v,h=>by
  obtain⟨t,e⟩:=Value.isStrOf_shape (x:=x) (v:=v) h;exact .inr ⟨x,t,rfl,e⟩
theorem zBq (i:Int) (t:Tok):Qt (.inl i) (.int i t)=true:=by simp[Qt,zE0]
theorem zC4 (x:Str) (t:Tok):Qt (.inr x) (.str x t)=true:=by simp[Qt,Uz]
theorem zEb (a b:Int):decide ((Qp a:Key)=Qp b)=(a == b):=by
 by_cases e:a=b
 ·subst e;simp
 ·have h:¬ (Qp a:Key)=Qp b:=λq=>e (Sum.inl.inj q);rw[decide_eq_false h];exact (beq_eq_false_iff_ne.mpr e).symm
theorem W4 (a b:Str):decide ((JF a:Key)=JF b)=decide (a=b):=by
 by_cases e:a=b
 ·subst e;simp
 ·have h:¬ (JF a:Key)=JF b:=λq=>e (zBu q);rw[decide_eq_false h,decide_eq_false e]
theorem zDn (a:Int) (b:Str):decide ((Qp a:Key)=JF b)=false:=decide_eq_false (λq=>nomatch q)
theorem Wb (a:Str) (b:Int):decide ((JF a:Key)=Qp b)=false:=decide_eq_false (λq=>nomatch q)
noncomputable def qr (prog:zW) (w:zR):PySem.KeyKind prog w Key where
 is:=Qt
 hash:=zFd w
 inj:=λv a b ha f=>by
  rcases yx ha with ⟨i,t,rfl,rfl⟩ | ⟨x,t,rfl,rfl⟩
  ·rcases yx f with ⟨j,u,rfl,e⟩ | ⟨y,u,rfl,e⟩
   ·injection e with c _;rw[c]
   ·exact nomatch e
  ·rcases yx f with ⟨j,u,rfl,e⟩ | ⟨y,u,rfl,e⟩
   ·exact nomatch e
   ·injection e with c _;rw[c]
 byValue:=λk v h=>by
  rcases yx h with ⟨i,t,rfl,rfl⟩ | ⟨x,t,rfl,rfl⟩<;>rfl
 pyHash:=λd h=>by
  rcases yx d with ⟨i,t,rfl,rfl⟩ | ⟨x,t,rfl,rfl⟩
  ·exact wpAny_pyHash_int h
  ·exact wpAny_pyHash_str h
 eqBool:=λg d h=>by
  rcases yx g with ⟨i,t,rfl,rfl⟩ | ⟨x,t,rfl,rfl⟩
  ·rcases yx d with ⟨j,u,rfl,rfl⟩ | ⟨y,u,rfl,rfl⟩
   ·rw[zEb] at h;exact wpAny_eqBool_int h
   ·rw[zDn] at h;exact wI i t y u _ _ _ _ h
  ·rcases yx d with ⟨j,u,rfl,rfl⟩ | ⟨y,u,rfl,rfl⟩
   ·rw[Wb] at h;exact w8 x t j u _ _ _ _ h
   ·rw[W4] at h;exact wpAny_eqBool_str h
 «strs» := λk x t v h=>by
  rcases yx h with ⟨i,u,rfl,e⟩ | ⟨y,u,rfl,e⟩
  ·exact nomatch e
  ·injection e with c _;subst c;cases v<;>rfl
theorem zB9 (prog:zW) (w:zR) (i:Int) (t:Tok):(qr prog w).is (.inl i) (.int i t)=true:=zBq i t
theorem zCm (prog:zW) (w:zR) (x:Str) (t:Tok):(qr prog w).is (.inr x) (.str x t)=true:=zC4 x t
end L2
namespace L2
open PySem PySem.Spec PyProof.Rows
inductive V where
 | non | bl (b:Bool) | int (i:Int) | str (x:Str) | byt (b:Array UInt8) | flt (b:UInt64) | ref (a:zA) | ty (n:String)
 deriving DecidableEq
noncomputable def zY:V->zB->Prop
 | .non,u=>u=jt
 | .bl b,u=>u=ZP b
 | .int i,u=>∃ t,u=kH i t
 | .str x,u=>∃ t,u=Xn x t
 | .byt b,u=>∃ t,u=zDu b t
 | .flt b,u=>∃ t,u=VC b t
 | .ref a,u=>u=jV a
 | .ty n,u=>u=XH n
noncomputable abbrev zS:List V->List zB->Prop:=Paired zY
theorem zS.length {xs:List V}{us:List zB} (r:zS xs us):xs.length=us.length:=Paired.length r
theorem zS.get:∀ {xs:List V}{us:List zB}{i:Nat}{x:V},zS xs us->xs[i]? = some x->∃ u,us[i]? = some u/\zY x u
 | _,_,_,_,.nil,e=>by simp at e
 | _,_,0,_,.cons r _,e=>by simp at e;subst e;exact⟨_,rfl,r⟩
 | _,_,i+1,x,.cons _ t,e=>by
  obtain⟨u,a,b⟩:=zS.get (i:=i) (x:=x) t (by simpa using e);exact⟨u,by simpa using a,b⟩
theorem zS.append:∀ {xs ys:List V}{us a:List zB},zS xs us->zS ys a->zS (xs++ys) (us++a)
 | _,_,_,_,.nil,s=>s
 | _,_,_,_,.cons r t,s=>.cons r (zS.append t s)
theorem zS.take:∀ {xs:List V}{us:List zB} (n:Nat),zS xs us->zS (xs.take n) (us.take n)
 | _,_,0,_=>.nil
 | _,_,_+1,.nil=>.nil
 | _,_,n+1,.cons r t=>.cons r (zS.take n t)
theorem zS.drop:∀ {xs:List V}{us:List zB} (n:Nat),zS xs us->zS (xs.drop n) (us.drop n)
 | _,_,0,r=>r
 | _,_,_+1,.nil=>.nil
 | _,_,n+1,.cons _ t=>zS.drop n t
noncomputable def qt:Option V->Option zB->Prop
 | some v,some u=>zY v u
 | none,none=>True
 | _,_=>False
noncomputable def KV {a:Type}:List (a×V)->List (a×zB)->Prop:=Paired λ(p:a×V) (q:a×zB)=>p.1=q.1/\zY p.2 q.2
noncomputable def kV:Key->V
 | .inl i=>.int i
 | .inr x=>.str x
inductive HO where
 | lst (xs:List V)
 | tup (xs:List V)
 | dK (kvs:List (Key×V)) | dT (kvs:List (List Key×V))
 | set (S:Int->Bool) (n:Nat)
 | ins (C dx:zA) (fs:List (Str×V))
 | own (x:zA)
 | xd (fs:List (Str×V))
 | met (f x:zA)
 | rng (lo hi:Int)
 | frz (o:Obj) (u:HO)
 | tbl (ps:Array zB)
 | ext (φ:zJ->Prop)
noncomputable abbrev Hp:=zA->Option HO
noncomputable def upd (H:Hp) (a:zA) (o:HO):Hp:=λb=>if b=a then some o else H b
theorem jr {H:Hp}{a:zA}{o:HO}:upd H a o a=some o:=by unfold upd;rw[if_pos rfl]
theorem zc {H:Hp}{a b:zA}{o:HO} (h:b≠a):upd H a o b=H b:=by unfold upd;rw[if_neg h]
theorem qw {H:Hp}{a b:zA}{o:HO} (h:H a=some o) (h':H b=none):a≠b:=by
 intro e;subst e;rw[h] at h';cases h'
section
variable (P:zW) (w:zR)
noncomputable def jW (H:Hp) (h:zJ) (a:zA):HO->Prop
 | .lst xs=>xs.length <= zV/\∃ (its:List zB) (n:Nat),zS xs its/\h.get? a=some { cls:=.type "list",data:=.seq its.toArray n }
 | .tup xs=>xs.length <= zV/\∃ its:List zB,zS xs its/\IsTup h a its.toArray
 | .dK b=>b.length <= zV/\(a == Qq)=false/\∃ g,KV b g/\h.DictOf (qr P w) a g
 | .dT b=>b.length <= zV/\(a == Qq)=false/\∃ xs:List (List Key×zA×zB),
   Paired (λ(p:List Key×V) (q:List Key×zA×zB)=>p.1=q.1/\H q.2.1=some (.tup (p.1.map kV))/\zY p.2 q.2.2) b xs /\
   ∃ o es k,h.get? a=some o/\o.ExactDict/\o.data=.dict es k/\es.toList=xs.map (entryOfKey (vk (qr P w)))/\(xs.map (·.1)).Nodup
 | .set S n=>h.SetOf (intKind P w) a S n
 | .ins C d fs=>H d=some (.own a)/\fs.length <= 1000/\d≠a/\h.get? a=some (PySem.W.instObj C d) /\
   ∃ c,h.Ns1 d c/\(∀ f,qt (fs.lookup f) (c f))/\PySem.Within c (fs.map (·.1))
 | .own _=>∃ o,h.get? a=some o
 | .xd fs=>∃ c,h.Ns1 a c/\∀ f,qt (fs.lookup f) (c f)
 | .rng lo hi=>∃ t u v,h.get? a=some { cls:=.type "range",data:=.fields #[.int lo t,.int hi u,.int 1 v] }
 | .frz o u=>h.get? a=some o/\jW H h a u
 | .tbl ps=>h.get? a=some { cls:=.none,data:=.fields ps }
 | .met f x=>h.get? a=some (PySem.W.methodObj (.ref f) (.ref x))
 | .ext e=>e h/\(∃ o,h.get? a=some o)/\∀ i j:zJ,e i->(∀ o,i.get? a=some o->j.get? a=some o)->e j
noncomputable def HOk (H:Hp) (h:zJ):Prop:=∀ a o,H a=some o->jW P w H h a o
end
section
variable {P:zW}{w:zR}{H H':Hp}{h h':zJ}{a:zA}{o:HO}
theorem jW.lt (x:jW P w H h a o):a < h.objs.size:=by
 cases o with
 | lst xs=>obtain⟨_,_,_,_,e⟩:=x;exact ze e
 | tup xs=>obtain⟨_,_,_,p⟩:=x;exact p.lt
 | dK b=>obtain⟨_,_,_,_,o,_,_,e,_⟩:=x;exact ze e
 | dT b=>obtain⟨_,_,_,_,o,_,_,e,_⟩:=x;exact ze e
 | set S n=>obtain⟨o,_,_,_,e,_⟩:=x;exact ze e
 | ins C c fs=>obtain⟨_,_,_,e,_⟩:=x;exact ze e
 | own y=>obtain⟨_,e⟩:=x;exact ze e
 | xd fs=>obtain⟨_,⟨_,_,_,e,_⟩,_⟩:=x;exact ze e
 | rng lo hi=>obtain⟨_,_,_,e⟩:=x;exact ze e
 | frz ob u=>obtain⟨e,_⟩:=x;exact ze e
 | tbl ps=>exact ze (show h.get? a=some _ from x)
 | met f y=>exact ze (show h.get? a=some _ from x)
 | ext d=>obtain⟨_,⟨_,e⟩,_⟩:=x;exact ze e
theorem Paired.mapP {e g:Type}{F G:e->g->Prop}:∀ {c:List e}{d:List g},Paired F c d->(∀ a b,F a b->G a b)->Paired G c d
 | _,_,.nil,_=>.nil
 | _,_,.cons r t,f=>.cons (f _ _ r) (Paired.mapP t f)
theorem jW.stay (x:jW P w H h a o) (k:∀ b u,(b=a\/H b=some (.own a))->h.get? b=some u->h'.get? b=some u)
  (m:∀ b,H b=some (.own a)->H' b=some (.own a)) (s:∀ b xs,H b=some (.tup xs)->H' b=some (.tup xs)):jW P w H' h' a o:=by
 induction o with
 | lst xs=>obtain⟨z,its,n,r,e⟩:=x;exact⟨z,its,n,r,k _ _ (.inl rfl) e⟩
 | tup xs=>obtain⟨z,its,r,ob,e,c⟩:=x;exact⟨z,its,r,ob,k _ _ (.inl rfl) e,c⟩
 | dK i=>obtain⟨z,y,A,r,ob,es,g,e,c⟩:=x;exact⟨z,y,A,r,ob,es,g,k _ _ (.inl rfl) e,c⟩
 | dT i =>
  obtain⟨z,y,xs,r,ob,es,g,e,c⟩:=x;exact⟨z,y,xs,Paired.mapP r λp q z=>⟨z.1,s _ _ z.2.1,z.2.2⟩,ob,es,g,k _ _ (.inl rfl) e,c⟩
 | set S n=>obtain⟨ob,es,g,t,e,c⟩:=x;exact⟨ob,es,g,t,k _ _ (.inl rfl) e,c⟩
 | ins C E fs =>
  obtain⟨d,z,ne,e,j,⟨l,es,g,B,c⟩,r⟩:=x;exact⟨m _ d,z,ne,k _ _ (.inl rfl) e,j,⟨l,es,g,k _ _ (.inr d) B,c⟩,r⟩
 | own y=>obtain⟨ob,e⟩:=x;exact⟨ob,k _ _ (.inl rfl) e⟩
 | xd fs=>obtain⟨j,⟨l,es,g,e,c⟩,r⟩:=x;exact⟨j,⟨l,es,g,k _ _ (.inl rfl) e,c⟩,r⟩
 | rng lo hi=>obtain⟨t,u,v,e⟩:=x;exact⟨t,u,v,k _ _ (.inl rfl) e⟩
 | frz ob u D=>obtain⟨e,q⟩:=x;exact⟨k _ _ (.inl rfl) e,D q⟩
 | tbl ps =>
  have e:h.get? a=some { cls:=.none,data:=.fields ps }:=x;show h'.get? a=some { cls:=.none,data:=.fields ps };exact k a _ (.inl rfl) e
 | met f y =>
  have e:h.get? a=some (PySem.W.methodObj (.ref f) (.ref y)):=x;show h'.get? a=some (PySem.W.methodObj (.ref f) (.ref y));exact k a _ (.inl rfl) e
 | ext F=>obtain⟨p,⟨o,e⟩,st⟩:=x;exact⟨st _ _ p λo q=>k _ _ (.inl rfl) q,⟨o,k _ _ (.inl rfl) e⟩,st⟩
theorem HOk.lt (x:HOk P w H h) (e:H a=some o):a < h.objs.size:=(x a o e).lt
theorem HOk.fresh (x:HOk P w H h) (e:h.objs.size <= a):H a=none:=by
 cases q:H a with
 | none=>rfl
 | some u=>exact absurd (zv (x.lt q) e) (qc _)
theorem HOk.kept (x:HOk P w H h) (k:∀ b u,h.get? b=some u->h'.get? b=some u):HOk P w H h':=λa o e =>
 (x a o e).stay (λb u _ q=>k b u q) (λ_ q=>q) λ_ _ q=>q
theorem HOk.laid (x:HOk P w H h) (k:∀ b u,h.get? b=some u->h'.get? b=some u) (hp:h.objs.size <= a) (new:jW P w (upd H a o) h' a o):HOk P w (upd H a o) h':=λb u e=>by
 have hn:=x.fresh hp;by_cases d:b=a
 ·subst d;rw[jr] at e;cases e;exact new
 ·rw[zc d] at e;exact (x b u e).stay (λc v _ q=>k c v q) (λc q=>by rw[zc (qw q hn)];exact q) λc xs q=>by rw[zc (qw q hn)];exact q
end
noncomputable def Rd (H:Hp) (a:zA) (u:HO):Prop:=H a=some u\/∃ o,H a=some (.frz o u)
theorem Rd.ok {P:zW}{w:zR}{H:Hp}{h:zJ}{a:zA}{u:HO} (r:Rd H a u) (x:HOk P w H h):jW P w H h a u:=by
 rcases r with r | ⟨o,r⟩
 ·exact x a u r
 ·obtain⟨_,q⟩:=x a _ r;exact q
noncomputable def Mut:Option HO->Prop
 | some (.lst _)=>True
 | some (.dK _)=>True
 | some (.dT _)=>True
 | some (.set _ _)=>True
 | some (.ins _ _ _)=>True
 | some (.ext _)=>True
 | _=>False
section
variable {P:zW}{w:zR}{H:Hp}{h h':zJ}{x e:zA}{o':HO}
theorem HOk.write (ok:HOk P w H h) (g:Mut (H x)) (m:e=x\/H e=some (.own x)) (k:∀ b u,b≠e->h.get? b=some u->h'.get? b=some u) (l:∃ u,h'.get? e=some u)
  (new:jW P w (upd H x o') h' x o'):HOk P w (upd H x o') h':=λb u q=>by
 have d:∀ c y,H c=some (.own y)->c≠x:=λc y r z=>by subst z;rw[r] at g;exact g
 have f:∀ c xs,H c=some (.tup xs)->c≠x:=λc xs r z=>by subst z;rw[r] at g;exact g
 by_cases i:b=x
 ·subst i;rw[jr] at q;cases q;exact new
 ·rw[zc i] at q;by_cases a:b=e
  ·have n:H b=some (.own x):=by
    rcases m with z | z
    ·exact absurd (a.trans z) i
    ·rw[a];exact z
   rw[q] at n;cases n;obtain⟨v,o⟩:=l;exact⟨v,by rw[a];exact o⟩
  ·refine (ok b u q).stay (λc v j r=>k c v ?_ r) (λc r=>by rw[zc (d c b r)];exact r) λc xs r=>by rw[zc (f c xs r)];exact r
   rcases j with rfl | j
   ·exact a
   ·rintro rfl
    rcases m with z | z
    ·exact d c b j z
    ·rw[j] at z;cases z;exact i rfl
end
structure Un (fs ex:List zA) (H H':Hp) (h h':zJ):Prop where
 keep:∀ b o,h.get? b=some o->H b=none->b∉fs->b∉ex->h'.get? b=some o
 slot:∀ b o,h.get? b=some o->H b=none->b∈fs->b∉ex->∃ sl,h'.get? b=some { o with slots:=sl }
 free:∀ b o,h.get? b=some o->H b=none->b∉ex->H' b=none
 there:∀ b o,h.get? b=some o->b∉ex->∃ o',h'.get? b=some o'
 tups:∀ b xs,H b=some (.tup xs)->H' b=some (.tup xs)
 frzs:∀ b o u,H b=some (.frz o u)->H' b=some (.frz o u)
 tbls:∀ b ps,H b=some (.tbl ps)->∃ more,H' b=some (.tbl (ps++more))
section
variable {fs fs' ex ex':List zA}{H H1 H2:Hp}{h h1 h2 h':zJ}{a x e:zA}{o:HO}
theorem Un.any (u:Un fs ex H H1 h h1) {b:zA}{ob:Obj} (q:h.get? b=some ob) (n:H b=none) (c:b∉ex):∃ f,h1.get? b=some { ob with slots:=f }:=by
 by_cases d:b∈fs
 ·exact u.slot b ob q n d c
 ·exact⟨ob.slots,u.keep b ob q n d c⟩
theorem Un.kept (k:∀ b u,h.get? b=some u->h'.get? b=some u):Un fs ex H H h h' :=
 ⟨λb ob q _ _ _=>k b ob q,λb ob q _ _ _=>⟨ob.slots,k b ob q⟩,λ_ _ _ n _=>n,λb ob q _=>⟨ob,k b ob q⟩,λ_ _ q=>q,λ_ _ _ q=>q,λ_ ps q=>⟨#[],by rw[q];simp⟩⟩
theorem Un.refl:Un fs ex H H h h:=Un.kept λ_ _ q=>q
theorem Un.laid (k:∀ b u,h.get? b=some u->h'.get? b=some u) (hp:h.objs.size <= a) (hn:H a=none):Un fs ex H (upd H a o) h h' where
 keep:=λb u q _ _ _=>k b u q
 slot:=λb u q _ _ _=>⟨u.slots,k b u q⟩
 free:=λb u q n _=>by rw[zc (z5 (zv (ze q) hp))];exact n
 there:=λb u q _=>⟨u,k b u q⟩
 tups:=λb xs q=>by rw[zc (qw q hn)];exact q
 frzs:=λb u xs q=>by rw[zc (qw q hn)];exact q
 tbls:=λb ps q=>⟨#[],by rw[zc (qw q hn),q];simp⟩
theorem Un.write (d:Mut (H x)) (l:e=x\/H e=some (.own x)) (k:∀ b u,b≠e->h.get? b=some u->h'.get? b=some u) (f:∃ u,h'.get? e=some u):Un fs ex H (upd H x o) h h':=by
 have i:∀ b,H b=none->b≠x:=λb n z=>by subst z;rw[n] at d;exact d
 have j:∀ b,H b=none->b≠e:=λb n z=>by
  subst z;rcases l with r | r
  ·exact i b n r
  ·rw[n] at r;cases r
 have g:∀ b u,H b=some u -> ¬ Mut (some u)->b≠x:=λb u q m z=>by subst z;rw[q] at d;exact m d
 refine⟨λb u q n _ _=>k b u (j b n) q,λb u q n _ _=>⟨u.slots,k b u (j b n) q⟩,λb u q n _=>by rw[zc (i b n)];exact n,λb u q _=>?_,
  λb xs q=>by rw[zc (g b _ q λz=>z)];exact q,λb u xs q=>by rw[zc (g b _ q λz=>z)];exact q,λb ps q=>⟨#[],by rw[zc (g b _ q λz=>z),q];simp⟩⟩
 by_cases c:b=e
 ·subst c;exact f
 ·exact⟨u,k b u c q⟩
end
noncomputable def trk (h:zJ) (H:Hp):List zA:=(jA h.objs.size).filter λa=>(H a).isSome
noncomputable def y6 (h:zJ) (H:Hp):zJ:=PySem.W.hideAll h (trk h H)
theorem zF2 (h:zJ) (H:Hp):(y6 h H).objs.size=h.objs.size:=PySem.W.hideAll_size _ _
theorem zEI {h:zJ}{H:Hp}{b:zA}{o:Obj} (e:h.get? b=some o) (n:H b=none):(y6 h H).get? b=some o :=
 PySem.W.hideAll_get _ e λa=>by
  have q:(H b).isSome=true:=(List.mem_filter.mp a).2;rw[n] at q;simp at q
theorem zEo {h:zJ}{H:Hp}{b:zA}{o:Obj} (e:(y6 h H).get? b=some o):h.get? b=some o/\H b=none:=by
 have a:h.get? b=some o:=PySem.W.of_hideAll (trk h H) e;refine⟨a,?_⟩;cases q:H b with
 | none=>rfl
 | some x =>
  have c:b∈trk h H:=List.mem_filter.mpr ⟨List.mem_range.mpr (ze a),by simp[q]⟩;have z:(y6 h H).get? b=none:=PySem.W.hideAll_none (trk h H) c;rw[z] at e;cases e
noncomputable def zBT (g h:zJ) (L:zA):List (zA×Obj):=(jA h.objs.size).filterMap λa=>if a=L\/(g.get? a).isSome=true then none else (h.get? a).map λo=>(a,o)
noncomputable def zt (g h:zJ) (L d:zA):List (zA×Obj):=(zBT g h L).filter λp=>decide (p.1≠d)
end L2
namespace L2
open PySem PySem.Spec PyProof.Rows
structure Mod (K:PySem.W.Frag) (mg:Str->Option zB) (base:zJ):Prop where
 kin:K.In base
 glob:base.Ns zr mg
 blt:∃ mb,base.Ns vt mb/\∀ x:Str,x ≠ "__name__" -> mb x=jk x
 nolimit:base.NoLimit
structure Cx where
 prog:zW
 w:zR
 K:PySem.W.Frag
 mg:Str->Option zB
 base:zJ
 A:zZ
 N:List Str
 s₀:zD
 H₀:Hp
 env:Env
 outer:List Env
 stack:List Env
 ex:List zA
 fn:Str->Bool
 calm:Bool
 pn:List (zA×Obj)
 xe:zB->zD->Prop
noncomputable def frs (l:List Env):List zA:=l.filterMap (·.frame)
noncomputable abbrev Cx.fs (X:Cx):List zA:=frs X.outer
noncomputable def Vis (a:qW) (x:Str):Prop:=a.names.lookup x=some .local\/a.names.lookup x=some .cell\/a.names.lookup x=some .free
noncomputable def Loc (a:qW) (x:Str):Prop:=a.names.lookup x=some .local\/a.names.lookup x=some .cell
noncomputable def wG (env:Env) (h:zJ) (m:Str->Option zB) (x:Str) (u:zB):Prop :=
 (env.kindOf x=some .local/\m x=some u)\/((env.kindOf x=some .cell\/env.kindOf x=some .free)/\∃ c,env.cells.lookup x=some c/\h.IsCell c (some u))
structure Cx.Ok (X:Cx):Prop where
 mod:Mod X.K X.mg X.base
 kind:X.env.scope.kind=.function
 glob:X.env.globals=zr
 blt:X.env.builtins=vt
 above:X.s₀.heap.objs.size <= X.env.locals
 inj:∀ x y c,X.env.cells.lookup x=some c->X.env.cells.lookup y=some c->x=y
 has:∀ x,(X.env.kindOf x=some .cell\/X.env.kindOf x=some .free)->∃ c,X.env.cells.lookup x=some c
 cab:∀ x c,X.fn x=true->X.env.cells.lookup x=some c->X.s₀.heap.objs.size <= c
 hd:X.calm=true->X.A.handled=none
 frames:X.A.frames=some X.stack
 stk:X.stack=X.outer\/(X.stack=X.env::X.outer/\X.env.frame=some X.env.locals)
 exf:∀ b∈X.ex,b≠X.env.locals/\∀ x c,X.env.cells.lookup x=some c->c≠b
 bs:∀ b o,X.base.get? b=some o->X.s₀.heap.get? b=some o/\X.H₀ b=none
 bsz:X.base.objs.size <= X.s₀.heap.objs.size
 noex:∀ b o,X.base.get? b=some o->b∉X.ex
 exfs:∀ b∈X.ex,b∉X.fs
 funs:X.s₀.heap.FunFrames X.base X.outer
 frf:∀ b∈X.fs,X.H₀ b=none
structure Inv (X:Cx) (pins:List (zA×Obj)) (σ:List (Option V)) (H:Hp) (s:zD):Prop where
 ok:X.Ok
 os:s.os=X.s₀.os
 bare:y8 s.gens
 base:Un X.fs X.ex X.H₀ H X.s₀.heap s.heap
 loc:∃ m,s.heap.Ns X.env.locals m/\∀ (i:Nat) (x:Str) (v:V),X.N[i]? = some x->σ[i]? = some (some v)->Vis X.env.scope x->∃ u,zY v u/\wG X.env s.heap m x u
 cell:∀ x c,X.env.cells.lookup x=some c->∃ v,s.heap.IsCell c v
 free:H X.env.locals=none
 freeC:∀ x c,X.env.cells.lookup x=some c->H c=none
 pin:∀ p∈X.pn++pins,s.heap.get? p.1=some p.2/\H p.1=none/\p.1≠X.env.locals/\p.1∉X.fs/\∀ v,p.2.data≠.cell v
 hok:HOk X.prog X.w H s.heap
 len:σ.length=X.N.length
 tk:0 < s.toks
section
variable {X:Cx}{pins:List (zA×Obj)}{σ:List (Option V)}{H H':Hp}{s:zD}{h':zJ}
theorem Cx.Ok.nofr (ok:X.Ok) {b:zA}{o:Obj} (e:X.base.get? b=some o):b∉X.fs:=λa=>by
 have:=(ok.funs.mem a).1;rw[e] at this;cases this
theorem Inv.bs (I:Inv X pins σ H s):∀ b o,X.base.get? b=some o->s.heap.get? b=some o/\H b=none:=λb o e =>
 ⟨I.base.keep b o (I.ok.bs b o e).1 (I.ok.bs b o e).2 (I.ok.nofr e) (I.ok.noex b o e),I.base.free b o (I.ok.bs b o e).1 (I.ok.bs b o e).2 (I.ok.noex b o e)⟩
theorem Inv.bk (I:Inv X pins σ H s):∀ b o,X.base.get? b=some o->s.heap.get? b=some o:=λb o e=>(I.bs b o e).1
theorem Inv.mod (I:Inv X pins σ H s):Mod X.K X.mg X.base:=I.ok.mod
theorem Inv.kIn (I:Inv X pins σ H s):X.K.In s.heap:=I.ok.mod.kin.keeps I.bk
theorem Inv.fr (I:Inv X pins σ H s):∃ m,Fr X.base X.env.locals s.heap m :=
 let ⟨m,hn,_⟩:=I.loc
 ⟨m,hn,I.bk,zx I.ok.bsz I.ok.above⟩
theorem Inv.lt (I:Inv X pins σ H s):X.env.locals < s.heap.objs.size:=let ⟨_,hn,_⟩:=I.loc;hn.lt
theorem Inv.sz (I:Inv X pins σ H s):X.s₀.heap.objs.size <= s.heap.objs.size:=zx I.ok.above (VD I.lt)
theorem Inv.nofs (I:Inv X pins σ H s) {a:zA} (h:s.heap.objs.size <= a):a∉X.fs:=λb=>by
 obtain⟨_,o,c,_⟩:=I.ok.funs.mem b;exact absurd (zv (ze c) (zx I.sz h)) (qc _)
theorem Inv.cne (I:Inv X pins σ H s):∀ x c,X.env.cells.lookup x=some c->c≠X.env.locals:=λx c e z=>by
 obtain⟨v,o,d,hd⟩:=I.cell x c e;obtain⟨m,⟨f,es,g,a,b,_⟩,_⟩:=I.loc;rw[z,a] at d;cases d;rw[b] at hd;cases hd
theorem Inv.funs (I:Inv X pins σ H s):s.heap.FunFrames X.base X.outer:=by
 have all:∀ (l:List Env),(∀ b∈frs l,b∈X.fs)->X.s₀.heap.FunFrames X.base l->s.heap.FunFrames X.base l:=by
  intro l
  induction l with
  | nil=>intro _ _;trivial
  | cons env r g =>
   intro f h;obtain⟨i,⟨L,o,a,hn,j,hd⟩,k⟩:=h;have c:L∈X.fs:=f L (by unfold frs;rw[JX,a];exact qT);obtain⟨m,e⟩:=I.base.slot L o j (I.ok.frf L c) c λz=>I.ok.exfs L z c;exact⟨i,⟨L,_,a,hn,e,hd⟩,g (λb d=>f b (by unfold frs;rw[JX,a];exact qD _ d)) k⟩
 exact all X.outer (λ_ d=>d) I.ok.funs
theorem Inv.stack (I:Inv X pins σ H s):s.heap.FunFrames X.base X.stack:=by
 rcases I.ok.stk with e | ⟨e,a⟩
 ·rw[e];exact I.funs
 ·rw[e];obtain⟨m,hn,_⟩:=I.loc;refine .cons (by rw[I.ok.kind];decide) a hn ?_ I.funs;exact Heap.get?_none_of_le (zx I.ok.bsz I.ok.above)
theorem Inv.stkSub (I:Inv X pins σ H s):∀ b∈frs X.stack,b∈X.env.locals::X.fs:=λb a=>by
 rcases I.ok.stk with e | ⟨e,c⟩
 ·rw[e] at a;exact qD _ a
 ·rw[e] at a;unfold frs at a;rw[JX,c] at a;exact a
theorem Inv.stkFree (I:Inv X pins σ H s):∀ b∈frs X.stack,H b=none:=λb a=>by
 rcases List.mem_cons.mp (I.stkSub b a) with e | a
 ·rw[e];exact I.free
 ·obtain⟨_,o,c,_⟩:=I.ok.funs.mem a;exact I.base.free b o c (I.ok.frf b a) λz=>I.ok.exfs b z a
theorem Inv.step {g':Array JP}{t':Nat}{d':JI}{ch:List zA} (I:Inv X pins σ H s)
  (f:∀ b∈ch,(b∈X.ex\/X.s₀.heap.objs.size <= b)/\b≠X.env.locals/\(∀ x c,X.env.cells.lookup x=some c->c≠b)/\∀ p∈X.pn++pins,p.1≠b)
  (keep:∀ b o,b≠X.env.locals->b∉X.fs->b∉ch->s.heap.get? b=some o->H b=none->h'.get? b=some o)
  (slot:∀ b o,b≠X.env.locals->b∈X.fs->b∉ch->s.heap.get? b=some o->H b=none->∃ E,h'.get? b=some { o with slots:=E }) (free:∀ b o,b∉ch->s.heap.get? b=some o->H b=none->H' b=none)
  (there:∀ b o,b∉ch->s.heap.get? b=some o->∃ B,h'.get? b=some B)
  (tups:∀ b xs,H b=some (.tup xs)->H' b=some (.tup xs)) (frzs:∀ b o u,H b=some (.frz o u)->H' b=some (.frz o u)) (tbls:∀ b ps,H b=some (.tbl ps)->∃ more,H' b=some (.tbl (ps++more)))
  (ns:∀ m,s.heap.Ns X.env.locals m->h'.Ns X.env.locals m) (hok:HOk X.prog X.w H' h') (K:y8 g') (L:0 < t':=by first | exact qQ _ | assumption | exact Inv.tk (by assumption) | omega) :
  Inv X pins σ H' { s with heap:=h',gens:=g',drawn:=d',toks:=t' }:=by
 have C:∀ b o,X.s₀.heap.get? b=some o->b≠X.env.locals:=λb o e=>z5 (zv (ze e) I.ok.above);have j:∀ b o,X.s₀.heap.get? b=some o->b∉X.ex->b∉ch:=λb o e a y=>by
  rcases (f b y).1 with z | z
  ·exact a z
  ·exact absurd (zv (ze e) z) (qc _)
 have g:∀ x c,X.env.cells.lookup x=some c->∀ v,s.heap.IsCell c v->h'.IsCell c v:=λx c e v ⟨o,A,hd⟩=>by
  have h:c∉ch:=λz=>(f c z).2.2.1 x c e rfl;by_cases G:c∈X.fs
  ·obtain⟨E,q⟩:=slot c o (I.cne x c e) G h A (I.freeC x c e);exact⟨_,q,hd⟩
  ·exact⟨o,keep c o (I.cne x c e) G h A (I.freeC x c e),hd⟩
 refine⟨I.ok,I.os,K,⟨λb o e n y a=>?_,λb o e n y a=>?_,λb o e n a=>?_,λb o e a=>?_,λb xs e=>tups b xs (I.base.tups b xs e),λb o xs e=>frzs b o xs (I.base.frzs b o xs e),λb ps e=>?_⟩,?_,λx c e=>?_,?_,λx c e=>?_,λp hp=>?_,hok,I.len,L⟩
 ·exact keep b o (C b o e) y (j b o e a) (I.base.keep b o e n y a) (I.base.free b o e n a)
 ·obtain⟨E,t⟩:=I.base.slot b o e n y a;obtain⟨F,D⟩:=slot b _ (C b o e) y (j b o e a) t (I.base.free b o e n a);exact⟨F,D⟩
 ·obtain⟨B,t⟩:=I.base.there b o e a;exact free b B (j b o e a) t (I.base.free b o e n a)
 ·obtain⟨B,t⟩:=I.base.there b o e a;exact there b B (j b o e a) t
 ·obtain⟨M,t⟩:=I.base.tbls b ps e;obtain⟨N,D⟩:=tbls b _ t;exact⟨M++N,by rw[D,Array.append_assoc]⟩
 ·obtain⟨m,hn,O⟩:=I.loc;refine⟨m,ns m hn,λi x v t D P=>?_⟩;obtain⟨u,r,l⟩:=O i x v t D P;refine⟨u,r,?_⟩;rcases l with l | ⟨k,c,e,z⟩
  ·exact .inl l
  ·exact .inr ⟨k,c,e,g x c e _ z⟩
 ·obtain⟨v,z⟩:=I.cell x c e;exact⟨v,g x c e v z⟩
 ·obtain⟨m,⟨o,_,_,A,_⟩,_⟩:=I.loc;exact free _ o (λz=>(f _ z).2.1 rfl) A I.free
 ·obtain⟨v,o,A,hd⟩:=I.cell x c e;exact free c o (λz=>(f c z).2.2.1 x c e rfl) A (I.freeC x c e)
 ·obtain⟨e,n,ne,J,d⟩:=I.pin p hp;have h:p.1∉ch:=λz=>(f p.1 z).2.2.2 p hp rfl;exact⟨keep p.1 p.2 ne J h e n,free p.1 p.2 h e n,ne,J,d⟩
theorem Inv.un {t':Nat} (I:Inv X pins σ H s) (u:Un X.fs [] H H' s.heap h') (hok:HOk X.prog X.w H' h') (h:0 < t':=by first | exact qQ _ | assumption | exact Inv.tk (by assumption) | omega):Inv X pins σ H' { s with heap:=h',toks:=t' }:=by
 obtain⟨m,⟨o,es,k,g,r⟩,_⟩:=id I.loc;obtain⟨l,i⟩:=u.any g I.free (by simp);exact I.step (g':=s.gens) (d':=s.drawn) (ch:=[]) (λ_ z=>nomatch z) (λb o _ c _ e n=>u.keep b o e n c (by simp)) (λb o _ c _ e n=>u.slot b o e n c (by simp)) (λb o _ e n=>u.free b o e n (by simp)) (λb o _ e=>u.there b o e (by simp)) u.tups u.frzs u.tbls (λp j=>by
  obtain⟨q,d,f,a,r'⟩:=j;rw[g] at a;cases a;exact⟨_,d,f,i,r'⟩) hok I.bare h
theorem Inv.call {g':Array JP}{t':Nat}{d':JI}{ch:List zA} (I:Inv X pins σ H s) (u:Un (frs X.stack) ch H H' s.heap h') (hok:HOk X.prog X.w H' h') (k:y8 g')
  (d:∀ b∈ch,(b∈X.ex\/X.s₀.heap.objs.size <= b)/\b≠X.env.locals/\(∀ x c,X.env.cells.lookup x=some c->c≠b)/\∀ p∈X.pn++pins,p.1≠b) (l:0 < t':=by first | exact qQ _ | assumption | exact Inv.tk (by assumption) | omega) :
  Inv X pins σ H' { s with heap:=h',gens:=g',drawn:=d',toks:=t' }:=by
 obtain⟨m,⟨o,es,v,j,r⟩,_⟩:=id I.loc;obtain⟨y,g⟩:=u.any j I.free λz=>(d _ z).2.1 rfl;exact I.step (ch:=ch) d (λb o g q a e n=>u.keep b o e n (λz=>(List.mem_cons.mp (I.stkSub b z)).elim g q) a) (λb o _ _ a e n=>u.any e n a) (λb o a e n=>u.free b o e n a) (λb o a e=>u.there b o e a) u.tups u.frzs u.tbls (λA t=>by
  obtain⟨B,h,i,f,r'⟩:=t;rw[j] at f;cases f;exact⟨_,h,i,g,r'⟩) hok k l
theorem Inv.turned {t':Nat}{it:zA} (I:Inv X pins σ H s) (k:∀ b o,b≠it->s.heap.get? b=some o->h'.get? b=some o) (hn:H it=none) (f:it≠X.env.locals)
  (g:it∈X.ex\/X.s₀.heap.objs.size <= it) (h:∀ x c,X.env.cells.lookup x=some c->c≠it) (i:∀ p∈X.pn++pins,p.1≠it) (j:0 < t':=by first | exact qQ _ | assumption | exact Inv.tk (by assumption) | omega):Inv X pins σ H { s with heap:=h',toks:=t' }:=by
 have d:∀ b u,H b=some u->b≠it:=λb u e z=>by rw[z,hn] at e;cases e
 refine I.step (g':=s.gens) (d':=s.drawn) (ch:=[it]) (λb l=>?_) (λb o _ _ a e _=>k b o (λz=>a (by simp[z])) e) (λb o _ _ a e _=>⟨o.slots,k b o (λz=>a (by simp[z])) e⟩) (λ_ _ _ _ n=>n)
  (λb o a e=>⟨o,k b o (λz=>a (by simp[z])) e⟩) (λ_ _ e=>e) (λ_ _ _ e=>e) (λb ps e=>⟨#[],by rw[e];simp⟩) (λm t=>?_) (λb u e=>?_) I.bare j
 ·have e:b=it:=by simpa using l
  subst e;exact⟨g,f,h,i⟩
 ·obtain⟨o,es,w,y,r⟩:=t;exact⟨o,es,w,k _ o (qM f) y,r⟩
 ·refine (I.hok b u e).stay (λc v a q=>k c v ?_ q) (λ_ q=>q) λ_ _ q=>q;rcases a with z | z
  ·rw[z];exact d b u e
  ·exact d c _ z
theorem Inv.tok (I:Inv X pins σ H s) (t:Nat) (a:0 < t:=by first | exact qQ _ | assumption | exact Inv.tk (by assumption) | omega):Inv X pins σ H { s with toks:=t }:=I.un (h':=s.heap) (t':=t) Un.refl I.hok a
theorem Inv.kept {t':Nat} (I:Inv X pins σ H s) (k:∀ b u,s.heap.get? b=some u->h'.get? b=some u) (a:0 < t':=by first | exact qQ _ | assumption | exact Inv.tk (by assumption) | omega):Inv X pins σ H { s with heap:=h',toks:=t' }:=I.un (Un.kept k) (I.hok.kept k) a
theorem Inv.laid {a:zA}{o:HO}{t':Nat} (I:Inv X pins σ H s) (k:∀ b u,s.heap.get? b=some u->h'.get? b=some u) (hp:s.heap.objs.size <= a) (new:jW X.prog X.w (upd H a o) h' a o) (c:0 < t':=by first | exact qQ _ | assumption | exact Inv.tk (by assumption) | omega) :
  Inv X pins σ (upd H a o) { s with heap:=h',toks:=t' }:=I.un (Un.laid k hp (I.hok.fresh hp)) (I.hok.laid k hp new) c
theorem Inv.write {x e:zA}{o:HO}{t':Nat} (I:Inv X pins σ H s) (c:Mut (H x)) (d:e=x\/H e=some (.own x)) (k:∀ b u,b≠e->s.heap.get? b=some u->h'.get? b=some u) (a:∃ u,h'.get? e=some u)
  (new:jW X.prog X.w (upd H x o) h' x o) (f:0 < t':=by first | exact qQ _ | assumption | exact Inv.tk (by assumption) | omega):Inv X pins σ (upd H x o) { s with heap:=h',toks:=t' }:=I.un (Un.write c d k a) (I.hok.write c d k a new) f
theorem Inv.weak {a:List (Option V)} (I:Inv X pins σ H s) (c:a.length=σ.length) (w:∀ (i:Nat) v,a[i]? = some (some v)->σ[i]? = some (some v)):Inv X pins a H s :=
 ⟨I.ok,I.os,I.bare,I.base,let ⟨m,hn,b⟩:=I.loc;⟨m,hn,λi x v d e f=>b i x v d (w i v e) f⟩,I.cell,I.free,I.freeC,I.pin,I.hok,c.trans I.len,I.tk⟩
theorem Inv.pins_of {pins':List (zA×Obj)} (I:Inv X pins σ H s) (h:∀ p∈pins',s.heap.get? p.1=some p.2/\H p.1=none/\p.1≠X.env.locals/\p.1∉X.fs/\∀ v,p.2.data≠.cell v):Inv X pins' σ H s :=
 ⟨I.ok,I.os,I.bare,I.base,I.loc,I.cell,I.free,I.freeC,λp hp=>(List.mem_append.mp hp).elim (λz=>I.pin p (Uk _ z)) (h p),I.hok,I.len,I.tk⟩
theorem Xv {N:List Str} (c:N.Nodup) {i j:Nat}{x:Str} (a:N[i]? = some x) (b:N[j]? = some x):i=j:=by
 obtain⟨f,d⟩:=List.getElem?_eq_some_iff.mp a;obtain⟨g,e⟩:=List.getElem?_eq_some_iff.mp b;exact (List.getElem_inj c).mp (d.trans e.symm)
theorem KQ {M:yT}{A:zZ}{E:zB->zD->Prop}{i:Nat}{x:Str}{v:V}{u:zB}{Q:Unit->zD->Prop} (I:Inv X pins σ H s) (hN:X.N.Nodup) (hi:X.N[i]? = some x) (t:Loc X.env.scope x) (r:zY v u)
  (h:∀ s',Inv X pins (σ.set i (some v)) H s'->(∃ a,kB a s.heap s'.heap/\(a=X.env.locals\/X.env.cells.lookup x=some a))->Q () s') (hf:X.fn x=true\/X.env.scope.names.lookup x=some .local:=by first | exact .inl rfl | exact .inr rfl | assumption):wpAny M A (storeName X.env x u) Q E s:=by
 obtain⟨m,hn,hl⟩:=id I.loc;have L:(X.env.scope.kind == .class || (X.env.scope.kind == .module && X.env.locals != X.env.globals))=false:=by rw[I.ok.kind];rfl
 have D:i < σ.length:=by rw[I.len];exact (List.getElem?_eq_some_iff.mp hi).1
 have cne:=I.cne;have tracked:∀ {a:zA}{h':zJ},(∃ o,s.heap.get? a=some o/\H a=none)->kB a s.heap h'->HOk X.prog X.w H h':=λ{a h'} ha f b ob e=>by
  obtain⟨_,_,B⟩:=ha;refine (I.hok b ob e).stay (λc T l q=>(f.2 c ?_).trans q) (λ_ q=>q) λ_ _ q=>q
  rintro rfl
  rcases l with rfl | l
  ·rw[B] at e;cases e
  ·rw[B] at l;cases l
 rcases t with F | F
 ·refine WB F hn (λh' W f=>?_) L;obtain⟨oL,_,_,Y,_⟩:=id hn;refine h _ ⟨I.ok,I.os,I.bare,⟨λb o e n G t=>?_,λb o e n G t=>?_,I.base.free,λb o e t=>?_,I.base.tups,I.base.frzs,I.base.tbls⟩,⟨_,W,λj y Z g C e3=>?_⟩,λy c e=>?_,I.free,I.freeC,λp hp=>?_,tracked ⟨oL,Y,I.free⟩ f,by simpa using I.len,qQ _⟩ ⟨_,f,.inl rfl⟩
  ·exact (f.2 b (z5 (zv (ze e) I.ok.above))).trans (I.base.keep b o e n G t)
  ·obtain⟨sl,g⟩:=I.base.slot b o e n G t;exact⟨sl,(f.2 b (z5 (zv (ze e) I.ok.above))).trans g⟩
  ·obtain⟨o',g⟩:=I.base.there b o e t;exact⟨o',(f.2 b (z5 (zv (ze e) I.ok.above))).trans g⟩
  ·by_cases J:j=i
   ·subst J;rw[hi] at g;cases g;rw[QG D] at C;cases C;exact⟨u,r,.inl ⟨F,by simp⟩⟩
   ·rw[ZR (qM J)] at C;obtain⟨u',r',q⟩:=hl j y Z g C e3;refine⟨u',r',?_⟩;rcases q with ⟨k,e⟩ | ⟨k,c,e,z⟩
    ·refine .inl ⟨k,?_⟩;have:y≠x:=λe=>J (Xv hN g (e ▸ hi));simp[this,e]
    ·exact .inr ⟨k,c,e,z.sameBut f (cne y c e)⟩
  ·obtain⟨T,z⟩:=I.cell y c e;exact⟨T,z.sameBut f (cne y c e)⟩
  ·obtain⟨e,n,ne,nf,d⟩:=I.pin p hp;exact⟨(f.2 p.1 ne).trans e,n,ne,nf,d⟩
 ·have K:X.fn x=true:=by
   rcases hf with z | z
   ·exact z
   ·rw[z] at F;cases F
  obtain⟨c,l⟩:=I.ok.has x (.inl F);obtain⟨T,z⟩:=I.cell x c l;refine wpAny_storeName_cell I.ok.kind F l z (λh' O f=>?_);obtain⟨oc,P,R⟩:=id z;refine h { s with heap:=h' } ⟨I.ok,I.os,I.bare,⟨λb o e n G t=>?_,λb o e n G t=>?_,I.base.free,λb o e t=>?_,I.base.tups,I.base.frzs,I.base.tbls⟩,⟨m,hn.sameBut f (qM (cne x c l)),λj y Z g C e3=>?_⟩,λy U e=>?_,I.free,I.freeC,λp hp=>?_,tracked ⟨oc,P,I.freeC x c l⟩ f,by simpa using I.len,I.tk⟩ ⟨c,f,.inr l⟩
  ·exact (f.2 b (z5 (zv (ze e) (I.ok.cab x c K l)))).trans (I.base.keep b o e n G t)
  ·obtain⟨sl,g⟩:=I.base.slot b o e n G t;exact⟨sl,(f.2 b (z5 (zv (ze e) (I.ok.cab x c K l)))).trans g⟩
  ·obtain⟨o',g⟩:=I.base.there b o e t;exact⟨o',(f.2 b (z5 (zv (ze e) (I.ok.cab x c K l)))).trans g⟩
  ·by_cases J:j=i
   ·subst J;rw[hi] at g;cases g;rw[QG D] at C;cases C;exact⟨u,r,.inr ⟨.inl F,c,l,O⟩⟩
   ·rw[ZR (qM J)] at C;obtain⟨u',r',q⟩:=hl j y Z g C e3;refine⟨u',r',?_⟩;rcases q with q | ⟨k,U,e,z'⟩
    ·exact .inl q
    ·refine .inr ⟨k,U,e,z'.sameBut f ?_⟩
     rintro rfl
     exact J (Xv hN g (I.ok.inj _ _ _ e l ▸ hi))
  ·by_cases S:U=c
   ·subst S;exact⟨_,O⟩
   ·obtain⟨w2,z2⟩:=I.cell y U e;exact⟨w2,z2.sameBut f S⟩
  ·obtain⟨e,n,ne,nf,d⟩:=I.pin p hp;refine⟨(f.2 p.1 ?_).trans e,n,ne,nf,d⟩;intro q;rw[q,P] at e;have q':oc=p.2:=yf e;exact d T (by rw[<- q'];exact R)
theorem xk {M:yT}{A:zZ}{E:zB->zD->Prop}{i:Nat}{x:Str}{v:V}{u:zB}{Q:Unit->zD->Prop} (I:Inv X pins σ H s) (a:X.N.Nodup) (hi:X.N[i]? = some x) (b:Loc X.env.scope x) (r:zY v u)
  (h:∀ s',Inv X pins (σ.set i (some v)) H s'->Q () s') (c:X.fn x=true\/X.env.scope.names.lookup x=some .local:=by first | exact .inl rfl | exact .inr rfl | assumption):wpAny M A (storeName X.env x u) Q E s :=
 KQ I a hi b r (λs' d _=>h s' d) c
theorem Inv.call' {s':zD}{ch:List zA} (I:Inv X pins σ H s) (d:s'.os=s.os) (u:Un (frs X.stack) ch H H' s.heap s'.heap) (hok:HOk X.prog X.w H' s'.heap) (f:y8 s'.gens)
  (a:∀ b∈ch,(b∈X.ex\/X.s₀.heap.objs.size <= b)/\b≠X.env.locals/\(∀ x c,X.env.cells.lookup x=some c->c≠b)/\∀ p∈X.pn++pins,p.1≠b) (g:0 < s'.toks):Inv X pins σ H' s':=by
 obtain⟨h',g',d',t',h⟩:=s';have e:h=s.os:=d;subst e;exact I.call (g':=g') (t':=t') (d':=d') u hok f a g
end
noncomputable abbrev XK:=zB->Option zA->Hp->Prop
noncomputable abbrev St:=List (Option V)
noncomputable abbrev VK:=V->Hp->Prop
noncomputable abbrev TE:=St->Hp->VK->Prop
noncomputable abbrev TT:=St->Hp->(Bool->Hp->Prop)->Prop
noncomputable abbrev TA:=St->Hp->(List V->Hp->Prop)->Prop
structure Zr where
 nx:St->Hp->Prop
 rt:VK
 bk:St->Hp->Prop:=λ_ _=>False
 ct:St->Hp->Prop:=λ_ _=>False
noncomputable abbrev TS:=Zr->St->Hp->Prop
noncomputable def EP (X:Cx) (a:List (zA×Obj)) (σ:St) (Q:VK) (u:zB) (s':zD):Prop:=∃ v b,Inv X a σ b s'/\zY v u/\Q v b
noncomputable def TP (X:Cx) (a:List (zA×Obj)) (σ:St) (Q:Bool->Hp->Prop) (b:Bool) (s':zD):Prop:=∃ c,Inv X a σ c s'/\Q b c
noncomputable def AP (X:Cx) (a:List (zA×Obj)) (σ:St) (Q:List V->Hp->Prop) (us:List zB) (s':zD):Prop:=∃ b c,Inv X a σ c s'/\zS b us/\Q b c
noncomputable def SP (X:Cx) (b:List (zA×Obj)) (D:Zr) (f:Flow) (s':zD):Prop :=
 match f with
 | .next=>∃ a c,Inv X b a c s'/\D.nx a c
 | .brk=>∃ a c,Inv X b a c s'/\D.bk a c
 | .cont=>∃ a c,Inv X b a c s'/\D.ct a c
 | .ret u=>∃ v a c,Inv X b a c s'/\zY v u/\D.rt v c
noncomputable def PE (X:Cx) (e:zF) (t:TE):Prop :=
 ∀ (a:List (zA×Obj)) (s:zD) (σ:St) (H:Hp) (Q:VK),Inv X a σ H s->t σ H Q->wpAny (zN X.prog X.w) X.A (eval e X.env) (EP X a σ Q) X.xe s
noncomputable def PT (X:Cx) (e:zF) (t:TT):Prop :=
 ∀ (a:List (zA×Obj)) (s:zD) (σ:St) (H:Hp) (Q:Bool->Hp->Prop),Inv X a σ H s->t σ H Q->wpAny (zN X.prog X.w) X.A (isTrue e X.env (eval e X.env)) (TP X a σ Q) X.xe s
noncomputable def PW (X:Cx) (e:zF) (t:TT):Prop :=
 ∀ (b:Sem zB) (a:List (zA×Obj)) (s:zD) (σ:St) (H:Hp) (Q:Bool->Hp->Prop),Inv X a σ H s->t σ H Q->wpAny (zN X.prog X.w) X.A (isTrue e X.env b) (TP X a σ Q) X.xe s
theorem PW.pt {X:Cx}{e:zF}{t:TT} (h:PW X e t):PT X e t:=h _
noncomputable def PA (X:Cx) (es:List zF) (t:TA):Prop :=
 ∀ (pos:Pos) (a:List (zA×Obj)) (s:zD) (σ:St) (H:Hp) (Q:List V->Hp->Prop),Inv X a σ H s->t σ H Q->wpAny (zN X.prog X.w) X.A (spliced (ja pos (zn es X.env))) (AP X a σ Q) X.xe s
noncomputable def PS (X:Cx) (st:zT) (t:TS):Prop :=
 ∀ (a:List (zA×Obj)) (s:zD) (σ:St) (H:Hp) (D:Zr),Inv X a σ H s->t D σ H->wpAny (zN X.prog X.w) X.A (exec st X.env) (SP X a D) X.xe s
noncomputable def PSs (X:Cx) (st:List zT) (t:TS):Prop :=
 ∀ (a:List (zA×Obj)) (s:zD) (σ:St) (H:Hp) (D:Zr),Inv X a σ H s->t D σ H->wpAny (zN X.prog X.w) X.A (execs st X.env) (SP X a D) X.xe s
theorem thn {b:Type}{t:Sem b}{Q c:b->zD->Prop}{M:yT}{A:zZ}{E:zB->zD->Prop}{s:zD} (h:wpAny M A t Q E s) (d:∀ a s,Q a s->c a s):wpAny M A t c E s:=wpAny_mono h d λ_ _ x=>x
end L2
namespace L2
open PySem PySem.Spec PyProof.Rows
section
variable {X:Cx}
noncomputable def X3 (i:Nat):TE:=λσ H Q=>∃ v,σ[i]? = some (some v)/\Q v H
noncomputable def tC (v:V):TE:=λ_ H Q=>Q v H
theorem Kq {i:Nat}{x:Str}{pos:Pos} (k:X.N[i]? = some x) (n:Vis X.env.scope x) (hd:(x == ("__debug__" : Str))=false:=by decide) (g:(x == ("__classdict__" : Str))=false:=by decide):PE X (.Name x pos) (X3 i):=by
 intro f s σ H Q I h;obtain⟨v,e,h⟩:=h;obtain⟨m,hn,o⟩:=I.loc;obtain⟨u,r,l⟩:=o i x v k e n;have b:EP X f σ Q u s:=⟨v,H,I,r,h⟩
 rcases l with ⟨d,p⟩ | ⟨d,c,j,a⟩
 ·exact vd (uV I.ok.kind d hn p b) hd
 ·rcases d with d | d
  ·exact vd (UM I.ok.kind d j a b) hd
  ·exact vd (wpAny_loadName_free I.ok.kind d j a b g) hd
theorem zAd {i j pos}:PE X (.Constant (.int i) j pos) (tC (.int i)):=λ_ _ _ H _ I h=>wpAny_Constant_int ⟨.int i,H,I.tok _,⟨_,rfl⟩,h⟩
theorem wq {b j pos}:PE X (.Constant (.bool b) j pos) (tC (.bl b)):=λ_ _ _ H _ I h=>Constant_bool ⟨.bl b,H,I,rfl,h⟩
theorem zAP {j pos}:PE X (.Constant .none j pos) (tC .non):=λ_ _ _ H _ I h=>Constant_none ⟨.non,H,I,rfl,h⟩
theorem Yw {x j pos}:PE X (.Constant (.str x) j pos) (tC (.str x)):=λ_ _ _ H _ I h=>Calls.Constant_str ⟨.str x,H,I.tok _,⟨_,rfl⟩,h⟩
noncomputable def Gl (X:Cx) (x:Str):Prop:=X.env.kindOf x=some .globalImplicit
theorem kF {E:zB->zD->Prop}{a:List (zA×Obj)}{s:zD}{σ:St}{H:Hp}{x:Str}{u:zB}{pos:Pos}{Q:zB->zD->Prop} (I:Inv X a σ H s) (b:Gl X x) (c:X.mg x=some u) (h:Q u s)
  (hd:(x == ("__debug__" : Str))=false:=by decide):wpAny (zN X.prog X.w) X.A (eval (.Name x pos) X.env) Q E s :=
 Y3 I.ok.kind b (zB0 (by rw[I.ok.glob];exact I.mod.glob.keeps I.bk) c h) hd
theorem Je {E:zB->zD->Prop}{a:List (zA×Obj)}{s:zD}{σ:St}{H:Hp}{x:Str}{u:zB}{pos:Pos}{Q:zB->zD->Prop} (I:Inv X a σ H s) (b:Gl X x) (c:X.mg x=none) (d:jk x=some u) (h:Q u s)
  (hn:x ≠ "__name__" := by decide) (hd:(x == ("__debug__" : Str))=false:=by decide):wpAny (zN X.prog X.w) X.A (eval (.Name x pos) X.env) Q E s:=by
 obtain⟨mb,e,f⟩:=I.mod.blt;exact Y3 I.ok.kind b (Calls.loadGlobal_builtin (by rw[I.ok.glob];exact I.mod.glob.keeps I.bk) c (by rw[I.ok.blt];exact e.keeps I.bk) ((f x hn).trans d) h) hd
theorem zEt {x:Str}{v:V}{u:zB}{pos:Pos} (a:Gl X x) (b:X.mg x=none) (c:jk x=some u) (r:zY v u) (hn:x ≠ "__name__" := by decide) (hd:(x == ("__debug__" : Str))=false:=by decide):PE X (.Name x pos) (tC v) :=
 λ_ _ _ H _ I h=>Je I a b c ⟨v,H,I,r,h⟩ hn hd
variable {a b:zF}{ta tb:TE}{pos:Pos}
noncomputable def PC (X:Cx) (op:qV) (a b:zF) (t:TE):Prop :=
 ∀ (c:List (zA×Obj)) (s:zD) (σ:St) (H:Hp) (Q:VK),Inv X c σ H s->t σ H Q ->
  wpAny (zN X.prog X.w) X.A (eval a X.env) (λv d=>wpAny (zN X.prog X.w) X.A (eval b X.env) (λu e=>wpAny (zN X.prog X.w) X.A (zm op v u) (EP X c σ Q) X.xe e) X.xe d) X.xe s
theorem zGB (b:zF) {op:qV} (h:op≠.In) (c:op≠.NotIn):ye op b=false:=by
 have d:(op == WP)=false:=by cases op<;>first | rfl | exact absurd rfl h
 have e:(op == Up)=false:=by cases op<;>first | rfl | exact absurd rfl c
 cases b<;>simp[ye,d,e]
noncomputable def x6 (ta:TE):TE:=λσ H Q=>ta σ H λx c=>Q (.bl (!decide (x=.non))) c
theorem zY.none_iff {x:V}{v:zB} (r:zY x v):(v == jt)=decide (x=.non):=by
 cases x with
 | non=>cases r;rfl
 | bl _=>cases r;rfl
 | int _=>obtain⟨t,rfl⟩:=r;rfl
 | str _=>obtain⟨t,rfl⟩:=r;rfl
 | byt _=>obtain⟨t,rfl⟩:=r;rfl
 | flt _=>obtain⟨t,rfl⟩:=r;rfl
 | ref _=>cases r;rfl
 | ty _=>cases r;rfl
theorem zA4 {j pos'} (ha:PE X a ta):PC X .IsNot a (.Constant .none j pos') (x6 ta):=by
 intro c s σ H Q I h;refine thn (ha c s σ H _ I h) λv s1 ⟨x,d,e,f,g⟩=>?_;exact Constant_none (isnot_none_gen ⟨.bl _,d,e,by rw[f.none_iff];rfl,g⟩)
noncomputable def tB (t:TE):TT:=λσ H Q=>t σ H λx d=>∃ c,x=.bl c/\Q c d
theorem zFl {op:qV}{t:TE} (h:PC X op a b t) (f:ye op b=false:=by first | exact zGB _ (by decide) (by decide) | rfl):PT X (.Compare a [op] [b] pos) (tB t):=by
 intro e s σ H Q I hw;refine zDW (thn (h e s σ H _ I hw) λv s1 f=>thn f λu s2 g=>thn g λc m ⟨x,i,j,k,l⟩=>?_) f;obtain⟨d,rfl,q⟩:=l;cases k;exact ZB ⟨i,j,q⟩
variable {tA tB':TT}{zt:List zF}
noncomputable def yd (t u:TT):TT:=λσ H Q=>t σ H λc d=>if c=true then u σ d Q else Q false d
noncomputable def tOr (t u:TT):TT:=λσ H Q=>t σ H λc d=>if c=true then Q true d else u σ d Q
noncomputable def qB (t:TT):TT:=λσ H Q=>t σ H λc d=>Q (!c) d
theorem zCV (ha:PT X a tA):PW X (.BoolOp .And [a] pos) tA:=by
 intro f d s σ H Q I h;refine isTrue_and (thn (ha d s σ H Q I h) λc s1 e=>?_);cases c with
 | true=>exact isTrue_and_nil e
 | false=>exact e
theorem W1 (ha:PT X a tA):PW X (.BoolOp .Or [a] pos) tA:=by
 intro f d s σ H Q I h;refine isTrue_or (thn (ha d s σ H Q I h) λc s1 e=>?_);cases c with
 | false=>exact isTrue_or_nil e
 | true=>exact e
theorem zDy (ha:PT X a tA) (i:PW X (.BoolOp .And (b::zt) pos) tB'):PW X (.BoolOp .And (a::b::zt) pos) (yd tA tB'):=by
 intro j d s σ H Q I h;refine isTrue_and (thn (ha d s σ H _ I h) λc s1 ⟨e,f,g⟩=>?_);cases c with
 | true=>exact i j d s1 σ e Q f g
 | false=>exact⟨e,f,g⟩
theorem zEF (ha:PT X a tA) (i:PW X (.BoolOp .Or (b::zt) pos) tB'):PW X (.BoolOp .Or (a::b::zt) pos) (tOr tA tB'):=by
 intro j d s σ H Q I h;refine isTrue_or (thn (ha d s σ H _ I h) λc s1 ⟨e,f,g⟩=>?_);cases c with
 | true=>exact⟨e,f,g⟩
 | false=>exact i j d s1 σ e Q f g
theorem zCO (ha:PT X a tA):PT X (.UnaryOp .Not a pos) (qB tA):=by
 intro d s σ H Q I h;exact isTrue_not (ha d s σ H (λc e=>Q (!c) e) I h)
noncomputable def zEN (ta tb:TE):TE:=λσ H Q=>ta σ H λx d=>∃ c,x=.bl c/\if c=true then tb σ d Q else Q (.bl false) d
noncomputable def zFZ (ta tb:TE):TE:=λσ H Q=>ta σ H λx d=>∃ c,x=.bl c/\if c=true then Q (.bl true) d else tb σ d Q
noncomputable def zCB (ta:TE):TE:=λσ H Q=>ta σ H λx d=>∃ c,x=.bl c/\Q (.bl (!c)) d
theorem zBj {op}{t:TE} (h:PE X a t):PE X (.BoolOp op [a] pos) t:=λc s σ H Q I hw=>BoolOp_one (h c s σ H Q I hw)
theorem Wr (ha:PE X a ta) (i:PE X (.BoolOp .And (b::zt) pos) tb):PE X (.BoolOp .And (a::b::zt) pos) (zEN ta tb):=by
 intro d s σ H Q I h;refine BoolOp_and (thn (ha d s σ H _ I h) λv s1 ⟨x,f,g,j,e⟩=>?_);obtain⟨c,rfl,e⟩:=e;cases j;refine ZB ?_;cases c with
 | true=>exact i d s1 σ f Q g e
 | false=>exact⟨.bl false,f,g,rfl,e⟩
theorem wb (ha:PE X a ta) (i:PE X (.BoolOp .Or (b::zt) pos) tb):PE X (.BoolOp .Or (a::b::zt) pos) (zFZ ta tb):=by
 intro d s σ H Q I h;refine BoolOp_or (thn (ha d s σ H _ I h) λv s1 ⟨x,f,g,j,e⟩=>?_);obtain⟨c,rfl,e⟩:=e;cases j;refine ZB ?_;cases c with
 | false=>exact i d s1 σ f Q g e
 | true=>exact⟨.bl true,f,g,rfl,e⟩
theorem U5 (ha:PE X a ta):PE X (.UnaryOp .Not a pos) (zCB ta):=by
 intro d s σ H Q I h;refine UnaryOp_ (thn (ha d s σ H _ I h) λv s1 ⟨x,f,g,i,e⟩=>?_);obtain⟨c,rfl,e⟩:=e;cases i;exact not_of (ZB ⟨.bl (!c),f,g,rfl,e⟩)
noncomputable def tIf (t:TT) (ta tb:TE):TE:=λσ H Q=>t σ H λc d=>if c=true then ta σ d Q else tb σ d Q
theorem zAM {c:zF} (j:PT X c tA) (ha:PE X a ta) (k:PE X b tb):PE X (.IfExp c a b pos) (tIf tA ta tb):=by
 intro e s σ H Q I h;refine wpAny_IfExp (thn (j e s σ H _ I h) λd s1 ⟨f,g,i⟩=>?_);cases d with
 | true=>exact ha e s1 σ f Q g i
 | false=>exact k e s1 σ f Q g i
end
end L2
namespace L2
open PySem PySem.Spec PyProof.Rows
noncomputable def SqL (K:PySem.W.Frag) (H:Hp) (a:zA) (xs:List V):Prop :=
 Rd H a (.lst xs) \/
  ∃ (o:Obj) (its:Array zB) (n:Nat),K.lookup a=some o/\o.cls=.type "list" /\ o.dict=none/\o.data=.seq its n/\its.size <= zV/\zS xs its.toList
noncomputable def SqT (K:PySem.W.Frag) (H:Hp) (a:zA) (xs:List V):Prop :=
 Rd H a (.tup xs) \/
  ∃ (o:Obj) (its:Array zB) (n:Nat),K.lookup a=some o/\o.cls=.type "tuple" /\ o.data=.seq its n/\its.size <= zV/\zS xs its.toList
noncomputable def zFX:zB->Option V
 | .none=>some .non
 | .bool b=>some (.bl b)
 | .int i _=>some (.int i)
 | .str x _=>some (.str x)
 | .bytes b _=>some (.byt b)
 | .float b _=>some (.flt b)
 | .ref a=>some (.ref a)
 | .type n=>some (.ty n)
 | _=>none
theorem zY.abs {x:V}{u:zB} (r:zY x u):zFX u=some x:=by
 cases x with
 | non=>cases r;rfl
 | bl _=>cases r;rfl
 | int _=>obtain⟨t,rfl⟩:=r;rfl
 | str _=>obtain⟨t,rfl⟩:=r;rfl
 | byt _=>obtain⟨t,rfl⟩:=r;rfl
 | flt _=>obtain⟨t,rfl⟩:=r;rfl
 | ref _=>cases r;rfl
 | ty _=>cases r;rfl
theorem zY.inj {x y:V}{u:zB} (r:zY x u) (q:zY y u):x=y:=yf (r.abs.symm.trans q.abs)
theorem zS.inj:∀ {xs ys:List V}{us:List zB},zS xs us->zS ys us->xs=ys
 | _,_,_,.nil,.nil=>rfl
 | _,_,_,.cons r t,.cons r' t'=>by rw[r.inj r',zS.inj t t']
section
variable {X:Cx}{pins:List (zA×Obj)}{σ:St}{H:Hp}{s:zD}{a:zA}{xs ys:List V}
theorem SqL.of {K:PySem.W.Frag} (h:H a=some (.lst xs)):SqL K H a xs:=.inl (.inl h)
theorem SqT.of {K:PySem.W.Frag} (h:H a=some (.tup xs)):SqT K H a xs:=.inl (.inl h)
theorem Inv.list (I:Inv X pins σ H s) (h:SqL X.K H a xs):∃ its:List zB,zS xs its/\PlainL s.heap a its.toArray/\xs.length <= zV:=by
 rcases h with h | ⟨o,its,n,b,c,hd,d,f,r⟩
 ·obtain⟨z,its,n,r,e⟩:=h.ok I.hok;exact⟨its,r,⟨_,n,e,rfl,rfl,rfl⟩,z⟩
 ·refine⟨its.toList,r,⟨o,n,I.kIn a o b,c,hd,by simpa using d⟩,?_⟩;have e:=r.length;simp only[vK] at e;omega
theorem Inv.tuple (I:Inv X pins σ H s) (h:SqT X.K H a xs):∃ its:List zB,zS xs its/\IsTup s.heap a its.toArray/\xs.length <= zV:=by
 rcases h with h | ⟨o,its,n,b,c,d,f,r⟩
 ·obtain⟨z,its,r,p⟩:=h.ok I.hok;exact⟨its,r,p,z⟩
 ·refine⟨its.toList,r,⟨o,I.kIn a o b,c,n,by simpa using d⟩,?_⟩;have e:=r.length;simp only[vK] at e;omega
theorem Inv.list_inj (I:Inv X pins σ H s) (h:SqL X.K H a xs) (h':SqL X.K H a ys):xs=ys:=by
 obtain⟨its,r,⟨o,n,e,_,_,d⟩,_⟩:=I.list h;obtain⟨its',r',⟨c,f,b,_,_,d'⟩,_⟩:=I.list h';rw[e] at b;cases b;rw[d] at d';injection d' with d1 _;have:its=its':=by simpa using congrArg YF d1
 subst this;exact r.inj r'
theorem Inv.tuple_inj (I:Inv X pins σ H s) (h:SqT X.K H a xs) (h':SqT X.K H a ys):xs=ys:=by
 obtain⟨its,r,⟨o,e,_,n,d⟩,_⟩:=I.tuple h;obtain⟨its',r',⟨c,b,_,f,d'⟩,_⟩:=I.tuple h';rw[e] at b;cases b;rw[d] at d';injection d' with d1 _;have:its=its':=by simpa using congrArg YF d1
 subst this;exact r.inj r'
end
noncomputable abbrev Cx.wish (X:Cx) (E:zB->zD->Prop):Cx:={ X with xe:=E }
noncomputable abbrev Cx.nox (X:Cx):Cx:=X.wish λ_ _=>False
theorem Cx.Ok.wish {X:Cx} (ok:X.Ok) (E:zB->zD->Prop):(X.wish E).Ok :=
 ⟨ok.mod,ok.kind,ok.glob,ok.blt,ok.above,ok.inj,ok.has,ok.cab,ok.hd,ok.frames,ok.stk,ok.exf,ok.bs,ok.bsz,ok.noex,ok.exfs,ok.funs,ok.frf⟩
theorem Cx.Ok.unwish {X:Cx}{E:zB->zD->Prop} (ok:(X.wish E).Ok):X.Ok :=
 ⟨ok.mod,ok.kind,ok.glob,ok.blt,ok.above,ok.inj,ok.has,ok.cab,ok.hd,ok.frames,ok.stk,ok.exf,ok.bs,ok.bsz,ok.noex,ok.exfs,ok.funs,ok.frf⟩
section
variable {X:Cx}{pins:List (zA×Obj)}{σ:St}{H:Hp}{s:zD}{E:zB->zD->Prop}
theorem Inv.wish (I:Inv X pins σ H s) (E:zB->zD->Prop):Inv (X.wish E) pins σ H s:=⟨I.ok.wish E,I.os,I.bare,I.base,I.loc,I.cell,I.free,I.freeC,I.pin,I.hok,I.len,I.tk⟩
theorem Inv.unwish (I:Inv (X.wish E) pins σ H s):Inv X pins σ H s:=⟨I.ok.unwish,I.os,I.bare,I.base,I.loc,I.cell,I.free,I.freeC,I.pin,I.hok,I.len,I.tk⟩
theorem SP.unwish {D:Zr}{f:Flow}{s':zD} (h:SP (X.wish E) pins D f s'):SP X pins D f s':=by
 cases f with
 | next=>obtain⟨a,b,I,q⟩:=h;exact⟨a,b,I.unwish,q⟩
 | brk=>obtain⟨a,b,I,q⟩:=h;exact⟨a,b,I.unwish,q⟩
 | cont=>obtain⟨a,b,I,q⟩:=h;exact⟨a,b,I.unwish,q⟩
 | ret u=>obtain⟨v,a,b,I,r,q⟩:=h;exact⟨v,a,b,I.unwish,r,q⟩
theorem PSs.nox {st:List zT}{t:TS} (h:PSs X.nox st t):PSs X st t:=λpins s σ H D I hw =>
 wpAny_mono (h pins s σ H D (I.wish _) hw) (λ_ _ q=>q.unwish) λ_ _ z=>zd z
end
section
variable {X:Cx}{st:zT}{zt:List zT}{t u:TS}{e:zF}{te:TE}{pos:Pos}
noncomputable def zBQ:TS:=λD σ H=>D.nx σ H
noncomputable def zEp (t u:TS):TS:=λD σ H=>t { D with nx:=u D } σ H
theorem zBt:PSs X [] zBQ:=λ_ _ σ H _ I h=>wpAny_execs_nil ⟨σ,H,I,h⟩
theorem uq (c:PS X st t) (d:PSs X zt u):PSs X (st::zt) (zEp t u):=by
 intro a s σ H D I h;refine vJ (thn (c a s σ H { D with nx:=u D } I h) λf s1 q=>?_);cases f with
 | next =>
  obtain⟨b,g,i,q⟩:=q;exact d a s1 b g D i q
 | ret v=>exact q
 | brk=>exact q
 | cont=>exact q
theorem vx (b:PS X st t):PSs X [st] t:=by
 intro a s σ H D I h;refine vJ (thn (b a s σ H D I h) λf s1 q=>?_);cases f with
 | next=>exact wpAny_execs_nil q
 | ret v=>exact q
 | brk=>exact q
 | cont=>exact q
theorem Inv.quiet {a:List (zA×Obj)}{σ:St}{H:Hp}{s:zD} (I:Inv X a σ H s):interactive X.env=false:=by simp[interactive,I.ok.kind]
noncomputable def zDR (te:TE):TS:=λD σ H=>te σ H λ_ a=>D.nx σ a
theorem uz (b:PE X e te) (c:j1 e none pos.line X.env=pure false:=by rfl):PS X (.Expr e pos) (zDR te):=by
 intro a s σ H D I h;exact wpAny_Expr_any (thn (b a s σ H _ I h) λv s1 ⟨x,d,f,i,g⟩=>⟨σ,d,f,g⟩) I.quiet c
noncomputable def wz (te:TE):TS:=λD σ H=>te σ H D.rt
theorem UD (b:PE X e te):PS X (.Return (some e) pos) (wz te):=by
 intro a s σ H D I h;exact wpAny_Return_some (thn (b a s σ H _ I h) λv s1 ⟨x,c,d,f,g⟩=>⟨x,σ,c,d,f,g⟩)
noncomputable def zAE (c:TT) (t u:TS):TS:=λD σ H=>c σ H λb a=>if b=true then t D σ a else u D σ a
theorem zFx {c:zF}{a b:List zT}{tc:TT} (k:PT X c tc) (ha:PSs X a t) (l:PSs X b u):PS X (.If c a b pos) (zAE tc t u):=by
 intro f s σ H D I h;refine wpAny_If (thn (k f s σ H _ I h) λd s1 ⟨g,i,j⟩=>?_);cases d with
 | true=>exact ha f s1 σ g D i j
 | false=>exact l f s1 σ g D i j
end
noncomputable abbrev TG:=V->St->Hp->(St->Hp->Prop)->Prop
noncomputable abbrev TGs:=List V->St->Hp->(St->Hp->Prop)->Prop
noncomputable def PG (X:Cx) (a:zF) (t:TG):Prop :=
 ∀ (b:List (zA×Obj)) (s:zD) (σ:St) (H:Hp) (v:V) (u:zB) (Q:St->Hp->Prop),Inv X b σ H s->zY v u->t v σ H Q ->
  wpAny (zN X.prog X.w) X.A (QM a X.env u) (λ_ s'=>∃ c d,Inv X b c d s'/\Q c d) X.xe s
noncomputable def PGs (X:Cx) (e:List zF) (t:TGs):Prop :=
 ∀ (a:List (zA×Obj)) (s:zD) (σ:St) (H:Hp) (c:List V) (us:List zB) (Q:St->Hp->Prop),Inv X a σ H s->zS c us->t c σ H Q ->
  wpAny (zN X.prog X.w) X.A (assignInOrder ((yL e X.env).map (·.2)) us) (λ_ s'=>∃ b d,Inv X a b d s'/\Q b d) X.xe s
noncomputable abbrev TIp:=V->V->Hp->VK->Prop
noncomputable def PIp (X:Cx) (op:JQ) (t:TIp):Prop :=
 ∀ (a:List (zA×Obj)) (s:zD) (σ:St) (H:Hp) (x y:V) (v u:zB) (Q:VK),Inv X a σ H s->zY x v->zY y u->t x y H Q ->
  wpAny (zN X.prog X.w) X.A (uD op v u) (EP X a σ Q) X.xe s
section
variable {X:Cx}{pos:Pos}
noncomputable def jM (i:Nat):TG:=λv σ H Q=>Q (σ.set i (some v)) H
theorem zE5 {i:Nat}{x:Str} (b:X.N.Nodup) (hi:X.N[i]? = some x) (c:Loc X.env.scope x) (d:X.fn x=true\/X.env.scope.names.lookup x=some .local:=by first | exact .inl rfl | exact .inr rfl | assumption):PG X (.Name x pos) (jM i):=by
 intro a s σ H v u Q I r h;exact Uh (xk I b hi c r (λs' e=>⟨_,H,e,h⟩) d)
noncomputable def q8:TGs:=λa σ H Q=>a=[]/\Q σ H
noncomputable def jn (t:TG) (u:TGs):TGs:=λb σ H Q=>∃ v r,b=v::r/\t v σ H λa c=>u r a c Q
theorem zD0:PGs X [] q8:=by
 intro a s σ H b us Q I r h;obtain⟨e,h⟩:=h;subst e;cases r;exact assignInOrder_nil ⟨σ,H,I,h⟩
theorem xq {e:zF}{es:List zF}{t:TG}{u:TGs} (c:PG X e t) (d:PGs X es u)
  (f:(yL (e::es) X.env).map (·.2)=QM e X.env::(yL es X.env).map (·.2):=by rfl):PGs X (e::es) (jn t u):=by
 intro a s σ H m us Q I r h;obtain⟨v,n,g,h⟩:=h;subst g;cases r with
 | cons r i =>
  rw[f];refine assignInOrder_cons (thn (c a s σ H _ _ _ I r h) λ_ s1 ⟨b,j,k,l⟩=>?_);exact d a s1 b j _ _ Q k i l
noncomputable def yu (K:PySem.W.Frag) (n:Nat) (t:TGs):TG:=λv σ H Q=>∃ a xs,v=.ref a/\SqT K H a xs/\xs.length=n/\t xs σ H Q
theorem zCF {es:List zF}{k:Nat}{t:TGs}{n:Nat} (g:X.calm=true) (h:PGs X es t)
  (hn:(yL es X.env).length=n:=by rfl) (d:(yL es X.env).findIdx? (·.1)=none:=by rfl):PG X (.Tuple es k pos) (yu X.K n t):=by
 intro c s σ H v u Q I r hw;obtain⟨a,xs,i,j,l,hw⟩:=hw;subst i;cases r;obtain⟨its,f,m,w⟩:=I.tuple j;refine assign_Tuple_tuple (I.ok.hd g) m (by simp[hn,<- l,f.length]) d λh' p=>?_;have q:Inv X c σ H { s with heap:=h' }:=I.kept (t':=s.toks) λb o e=>p b o (z5 (ze e)) e;exact h c _ σ H xs _ Q q (by simpa using f) hw
noncomputable def KE (te:TE) (g:TG):TS:=λD σ H=>te σ H λx a=>g x σ a D.nx
theorem UO {tg e:zF}{te:TE}{g:TG} (b:PE X e te) (c:PG X tg g) (d:uW [tg] e pos.line X.env=pure false:=by rfl) (hw:Vv [tg] e X.env=pure none:=by rfl)
  (f:(yL [tg] X.env).map (·.2)=[QM tg X.env]:=by rfl):PS X (.Assign [tg] e pos) (KE te g):=by
 intro a s σ H D I h;refine wpAny_Assign_stores (thn (b a s σ H _ I h) λv s1 ⟨x,i,j,k,l⟩=>?_) d hw;rw[f];exact thn (c a s1 σ i x v _ j k l) λ_ s2 q=>q
theorem zAn {i:Nat}{x:Str}{e:zF}{te:TE}{pos':Pos} (b:X.N.Nodup) (hi:X.N[i]? = some x) (c:Loc X.env.scope x) (d:PE X e te) (f:j1 e (some (.Name x pos')) pos.line X.env=pure false:=by rfl) (g:X.fn x=true\/X.env.scope.names.lookup x=some .local:=by first | exact .inl rfl | exact .inr rfl | assumption) :
  PS X (.Assign [.Name x pos'] e pos) (KE te (jM i)):=by
 intro a s σ H D I h;refine uH (thn (d a s σ H _ I h) λv s1 ⟨y,j,k,l,m⟩=>?_) f;exact xk k b hi c l (λs2 n=>⟨_,j,n,m⟩) g
noncomputable def u8 (i:Nat) (te:TE) (ti:TIp):TS:=λD σ H=>∃ x,σ[i]? = some (some x)/\te σ H λy a=>ti x y a λz b=>D.nx (σ.set i (some z)) b
theorem UV {i:Nat}{x:Str}{e:zF}{te:TE}{op:JQ}{ti:TIp}{pos':Pos} (o:X.N.Nodup) (hi:X.N[i]? = some x) (j:Loc X.env.scope x) (p:PE X e te) (q:PIp X op ti) (t:X.fn x=true\/X.env.scope.names.lookup x=some .local:=by first | exact .inl rfl | exact .inr rfl | assumption) :
  PS X (.AugAssign (.Name x pos') op e pos) (u8 i te ti):=by
 intro a s σ H D I h;obtain⟨v,B,h⟩:=h;obtain⟨m,hn,C⟩:=I.loc;have n:Vis X.env.scope x:=by rcases j with k | k;exact .inl k;exact .inr (.inl k)
 obtain⟨u,r,l⟩:=C i x v hi B n;refine wpAny_AugAssign_Name ?_;have go:wpAny (zN X.prog X.w) X.A (eval e X.env) (λw f=>wpAny (zN X.prog X.w) X.A (uD op u w) (λr g=>wpAny (zN X.prog X.w) X.A (storeName X.env x r) (λ_=>SP X a D .next) X.xe g) X.xe f) X.xe s:=by
  refine thn (p a s σ H _ I h) λw s1 ⟨y,E,F,G,J⟩=>?_;refine thn (q a s1 σ E v y u w _ F r G J) λz s2 ⟨S,K,L,M,O⟩=>?_;exact xk L o hi j M (λT P=>⟨_,K,P,O⟩) t
 rcases l with ⟨b,Q⟩ | ⟨b,c,R,d⟩
 ·exact uV I.ok.kind b hn Q go
 ·rcases b with b | b
  ·exact UM I.ok.kind b R d go
  ·rcases j with k | k
   ·have:X.env.scope.names.lookup x=some .free:=b;rw[k] at this;cases this
   ·have:X.env.scope.names.lookup x=some .free:=b;rw[k] at this;cases this
noncomputable def ipI (f:Int->Int->Int):TIp:=λx y H Q=>∃ i j,x=.int i/\y=.int j/\Q (.int (f i j)) H
theorem zAk:PIp X .Add (ipI λi j=>i+j):=by
 intro a s σ H x y v u Q I b c h;obtain⟨i,j,d,e,q⟩:=h;subst d;subst e;obtain⟨t,rfl⟩:=b;obtain⟨t',rfl⟩:=c;exact iadd_int ⟨.int _,H,I.tok _,⟨_,rfl⟩,q⟩
end
section
variable {X:Cx}{pos:Pos}
noncomputable def zBi (c:TT) (g:TS):TS:=λD σ H=>∃ W:Nat->St->Hp->Prop,(∃ m,W m σ H)/\∀ m σ H,W m σ H ->
 c σ H λb d=>if b=true then ∃ N:St->Hp->Prop,(∀ a e,N a e->∃ f,f < m/\W f a e)/\g { D with nx:=N,ct:=N,bk:=D.nx } σ d else D.nx σ d
theorem wB {c:zF}{body:List zT}{tc:TT}{t:TS} (hp:Qs (zN X.prog X.w) X.A X.env X.xe) (C:PT X c tc) (E:PSs X body t):PS X (.While c body [] pos) (zBi tc t):=by
 intro a s σ H D I h;obtain⟨W,⟨F,G⟩,g⟩:=h;refine wpAny_While (codeAny_whileLoop (λn s'=>∃ i u,Inv X a i u s'/\W n i u) ?_ F ⟨σ,H,I,G⟩)
 rintro n s1 ⟨e,x,J,K⟩
 refine JR hp (thn (C a s1 e x _ J (g n e x K)) λb s2 ⟨y,z,k⟩=>?_);cases b with
 | true =>
  obtain⟨N,B,k⟩:=k;rw[if_pos rfl];refine JR hp (thn (E a s2 e y _ z k) λf L l=>?_);cases f with
  | next =>
   obtain⟨d,j,m,o⟩:=l;obtain⟨p,q,r⟩:=B d j o;exact⟨p,q,d,j,m,r⟩
  | cont =>
   obtain⟨d,j,m,o⟩:=l;obtain⟨p,q,r⟩:=B d j o;exact⟨p,q,d,j,m,r⟩
  | brk=>exact l
  | ret v=>exact l
 | false =>
  rw[if_neg jX];exact wpAny_execs_nil ⟨e,y,z,k⟩
end
structure It where
 go:Nat->Hp->Prop
 yld:Nat->Hp->V->Hp->Prop
 stop:Nat->Hp->Prop
noncomputable def yA (X:Cx) (a:List (zA×Obj)) (H:Hp) (b:zA):Prop :=
 H b=none/\b≠X.env.locals/\b∉X.fs/\(b∈X.ex\/X.s₀.heap.objs.size <= b)/\(∀ x c,X.env.cells.lookup x=some c->c≠b)/\∀ p∈X.pn++a,p.1≠b
theorem Inv.fpOk {X:Cx}{a:List (zA×Obj)}{σ:St}{H f:Hp}{s:zD}{b:zA} (I:Inv X a σ H s) (d:s.heap.objs.size <= b) (hn:f b=none):yA X a f b:=by
 refine⟨hn,ZV (zv I.lt d),I.nofs d,.inr (zx I.sz d),λx c e z=>?_,λp hp z=>?_⟩
 ·obtain⟨v,q⟩:=I.cell x c e;exact absurd (zv q.lt (by rw[z];exact d)) (qc _)
 ·exact absurd (zv (ze (I.pin p hp).1) (by rw[z];exact d)) (qc _)
structure ZZ (P:zW) (w:zR) (K:PySem.W.Frag) (tg:zF) (J:It) (fp:List zA) (it:zA) (tn:Nat->zJ->Prop):Prop where
 mem:it∈fp
 obj:∀ i h,tn i h->∀ b∈fp,∃ o,h.get? b=some o/\∀ v,o.data≠.cell v
 keep:∀ i h h',tn i h->(∀ b∈fp,∀ o,h.get? b=some o->h'.get? b=some o)->tn i h'
 item:∀ (X:Cx),X.prog=P->X.w=w->X.K=K->X.calm=true->∀ (i:Nat) (pins:List (zA×Obj)) (s:zD) (σ:St) (H:Hp) (E:zB->zD->Prop),Inv X pins σ H s->(∀ b∈fp,yA X pins H b)->tn i s.heap->J.go i H ->
  wpAny (zN P w) X.A (pyNext (.ref it)) (λr s1=>∃ u,r=some u /\
   wpAny (zN P w) X.A (VO tg (.ref it) u) (λ_ s2=>∃ x H',Inv X pins σ H' s2/\zY x u/\J.yld i H x H'/\tn (i+1) s2.heap/\∀ b∈fp,H' b=none) E s1) E s
 done:∀ (X:Cx),X.prog=P->X.w=w->X.K=K->X.calm=true->∀ (i:Nat) (pins:List (zA×Obj)) (s:zD) (σ:St) (H:Hp) (E:zB->zD->Prop),Inv X pins σ H s->(∀ b∈fp,yA X pins H b)->tn i s.heap->J.stop i H ->
  wpAny (zN P w) X.A (pyNext (.ref it)) (λr s1=>r=none/\Inv X pins σ H s1) E s
 self:∀ (A:zZ) (i:Nat) (s:zD) (Q:zB->zD->Prop) (E:zB->zD->Prop),tn i s.heap->Q (.ref it) s->wpAny (zN P w) A (pyIter (.ref it)) Q E s
noncomputable abbrev TI:=St->Hp->(It->Hp->Prop)->Prop
noncomputable def PIE (X:Cx) (a:List (zA×Obj)) (σ:St) (tg:zF) (R:It->Hp->Prop) (c:zB) (s2:zD):Prop :=
 ∃ (it:zA) (fp:List zA) (e:Nat->zJ->Prop) (J:It) (d:Hp),c=.ref it/\Inv X a σ d s2/\ZZ X.prog X.w X.K tg J fp it e/\e 0 s2.heap/\(∀ b∈fp,yA X a d b)/\R J d
noncomputable def PI (X:Cx) (tg iter:zF) (b:TI):Prop :=
 ∀ (a:List (zA×Obj)) (s:zD) (σ:St) (H:Hp) (R:It->Hp->Prop),Inv X a σ H s->b σ H R ->
  wpAny (zN X.prog X.w) X.A (eval iter X.env) (λv s1=>wpAny (zN X.prog X.w) X.A (pyIter v) (PIE X a σ tg R) X.xe s1) X.xe s
theorem xB {M:yT}{A:zZ}{E:zB->zD->Prop}{s:zD}{tg:zF}{it:zA}{u:zB}{o:Obj}{n:String}{b:Array zB}{Q:Unit->zD->Prop} (c:s.heap.get? it=some o) (d:o.cls=.type n) (hd:o.data=.fields b)
  (hn:["enumerate","zip","dict_itemiterator","dict_reverseitemiterator","odict_iterator","itertools.zip_longest","itertools.pairwise"].contains n=false) (a:Q () s):wpAny M A (VO tg (.ref it) u) Q E s:=by
 unfold VO;cases tg<;>first
  | exact wpAny_pure a
  | (cases u<;>first
      | exact wpAny_pure a
      | (refine wpAny_bind (wpAny_load c ?_)
         rw[d,hd];show wpAny M A (if (["enumerate","zip","dict_itemiterator","dict_reverseitemiterator","odict_iterator","itertools.zip_longest","itertools.pairwise"].contains n && b[0]? == some (rawInt _))=true then _ else _) Q E s;rw[if_neg (by intro h;rw[hn,zDe] at h;cases h)];exact wpAny_pure a))
noncomputable def Itl (K:PySem.W.Frag) (a:zA):It :=
 ⟨λi H=>∃ xs x,SqL K H a xs/\xs[i]? = some x,λi H x b=>b=H/\∀ xs,SqL K H a xs->xs[i]? = some x,λi H=>∃ xs,SqL K H a xs/\xs.length <= i⟩
noncomputable def Itt (K:PySem.W.Frag) (a:zA):It :=
 ⟨λi H=>∃ xs x,SqT K H a xs/\xs[i]? = some x,λi H x b=>b=H/\∀ xs,SqT K H a xs->xs[i]? = some x,λi H=>∃ xs,SqT K H a xs/\xs.length <= i⟩
noncomputable def Itr (lo:Int) (n:Nat):It:=⟨λi _=>i < n,λi H x a=>a=H/\x=.int (lo+i),λi _=>n <= i⟩
theorem zBa {P:zW}{w:zR}{K:PySem.W.Frag}{tg:zF} (a it:zA):ZZ P w K tg (Itl K a) [it] it (λi h=>h.IsListIter it a i) where
 mem:=by simp
 obj:=λi h st b g=>by
  have e:b=it:=by simpa using g
  subst e;obtain⟨o,e,c,d⟩:=st;exact⟨o,e,λv z=>by rw[d] at z;cases z⟩
 keep:=λi h h' st k=>st.at λo e=>k it (by simp) o e
 item:=by
  intro X n hw q G i f s σ H E I l st r;subst n hw q;obtain⟨xs,x,m,t⟩:=r;obtain⟨its,y,p,J⟩:=I.list m;obtain⟨u,L,M⟩:=y.get t;obtain⟨A,B,N,C,D,F⟩:=l it (by simp);refine wpAny_pyNext_list_item st p.isList (x:=u) (by simpa using L) λh' j sb=>?_;have O:Inv X f σ H { s with heap:=h' }:=I.turned (t':=s.toks) (λb o g e=>(sb.2 b g).trans e) A B C D F;obtain⟨o,e,c,d⟩:=id j;exact⟨u,rfl,xB (s:={ s with heap:=h' }) e c d (by decide) ⟨x,H,O,M,⟨rfl,λys Q=>by rw[I.list_inj Q m];exact t⟩,j,λb g=>(l b g).1⟩⟩
 done:=by
  intro X n hw q G i f s σ H E I l st r;subst n hw q;obtain⟨xs,m,t⟩:=r;obtain⟨its,y,p,J⟩:=I.list m;obtain⟨A,B,N,C,D,F⟩:=l it (by simp);have S:=y.length;exact wpAny_pyNext_list_end (I.ok.hd G) st p.isList (by simp;omega) λh' R=>⟨rfl,I.turned (t':=s.toks) (λb o g e=>R b o g e) A B C D F⟩
 self:=λ_ _ _ _ _ st h=>wpAny_pyIter_listiter st h
theorem zEv {P:zW}{w:zR}{K:PySem.W.Frag}{tg:zF} (a it:zA):ZZ P w K tg (Itt K a) [it] it (λi h=>h.IsTupleIter it a i) where
 mem:=by simp
 obj:=λi h st b g=>by
  have e:b=it:=by simpa using g
  subst e;obtain⟨o,e,c,d⟩:=st;exact⟨o,e,λv z=>by rw[d] at z;cases z⟩
 keep:=λi h h' st k=>st.at λo e=>k it (by simp) o e
 item:=by
  intro X n hw q G i f s σ H E I l st r;subst n hw q;obtain⟨xs,x,m,t⟩:=r;obtain⟨its,y,p,J⟩:=I.tuple m;obtain⟨u,L,M⟩:=y.get t;obtain⟨A,B,N,C,D,F⟩:=l it (by simp);refine wpAny_pyNext_tuple_item st (show s.heap.IsTuple a its.toArray from p) (x:=u) (by simpa using L) λh' j sb=>?_;have O:Inv X f σ H { s with heap:=h' }:=I.turned (t':=s.toks) (λb o g e=>(sb.2 b g).trans e) A B C D F;obtain⟨o,e,c,d⟩:=id j;exact⟨u,rfl,xB (s:={ s with heap:=h' }) e c d (by decide) ⟨x,H,O,M,⟨rfl,λys Q=>by rw[I.tuple_inj Q m];exact t⟩,j,λb g=>(l b g).1⟩⟩
 done:=by
  intro X n hw q G i f s σ H E I l st r;subst n hw q;obtain⟨xs,m,t⟩:=r;obtain⟨its,y,p,J⟩:=I.tuple m;obtain⟨A,B,N,C,D,F⟩:=l it (by simp);have S:=y.length;exact wpAny_pyNext_tuple_end (I.ok.hd G) st (show s.heap.IsTuple a its.toArray from p) (by simp;omega) λh' R=>⟨rfl,I.turned (t':=s.toks) (λb o g e=>R b o g e) A B C D F⟩
 self:=λ_ _ _ _ _ st h=>wpAny_pyIter_tupleiter st h
theorem wF {P:zW}{w:zR}{K:PySem.W.Frag}{tg:zF} (it:zA) (lo:Int) (n:Nat):ZZ P w K tg (Itr lo n) [it] it (λi h=>IsRangeIter h it (lo+(i:Nat) * 1) ((n:Int) - (i:Nat)) 1) where
 mem:=by simp
 obj:=λi h st b c=>by
  have e:b=it:=by simpa using c
  subst e;exact⟨_,st,λv z=>by
   have y:zDv _=zFp v:=z;cases y⟩
 keep:=λi h h' st k=>k it (by simp) _ st
 item:=by
  intro X g hw j l i a s σ H E I f st m;subst g hw j;obtain⟨p,q,A,r,u,x⟩:=f it (by simp);have W:=Walks.range (prog:=X.prog) (w:=X.w) (I.ok.hd l) it lo 1 n;refine qg (n:=1) I.tk (W.item i s _ _ m st λv h' tk B d kk C=>?_);obtain⟨t,rfl⟩:=B;have D:Inv X a σ H { s with heap:=h',toks:=tk }:=I.turned (λb o c e=>kk b o (by simpa using c) e) p q r u x;refine⟨_,rfl,xB (s:={ s with heap:=h',toks:=tk }) (n := "range_iterator") d rfl rfl (by decide) ⟨.int (lo+i),H,D,⟨t,?_⟩,⟨rfl,rfl⟩,d,λb c=>(f b c).1⟩⟩;rw[Int.mul_one]
 done:=by
  intro X g hw j l i a s σ H E I f st m;subst g hw j;obtain⟨p,q,A,r,u,x⟩:=f it (by simp);exact wpAny_pyNext_range_end (I.ok.hd l) st (by have:n <= i:=m;omega) λh' F=>⟨rfl,I.turned (t':=s.toks) (λb o c e=>F b o c e) p q r u x⟩
 self:=λ_ _ _ _ _ st h=>wpAny_pyIter_rangeiter st h
end L2
namespace L2
open PySem PySem.Spec PyProof.Rows
section
variable {X:Cx}{tg:zF}
noncomputable def wV (K:PySem.W.Frag) (c:TE):TI:=λσ H R=>c σ H λx b=>∃ a,x=.ref a/\(∃ xs,SqL K b a xs)/\R (Itl K a) b
noncomputable def w4 (K:PySem.W.Frag) (c:TE):TI:=λσ H R=>c σ H λx b=>∃ a,x=.ref a/\(∃ xs,SqT K b a xs)/\R (Itt K a) b
theorem Uw {l:zF}{f:TE} (g:PE X l f):PI X tg l (wV X.K f):=by
 intro c s σ H R I h;refine thn (g c s σ H _ I h) λv s1 ⟨x,i,d,j,k⟩=>?_;obtain⟨a,e,⟨xs,m⟩,q⟩:=k;subst e;cases j;obtain⟨its,r,p,t⟩:=d.list m;refine zCG p.isList ?_;refine⟨s1.heap.objs.size,[s1.heap.objs.size],_,_,i,rfl,d.kept (t':=s1.toks) λb o e=>jd _ e,zBa a _,⟨_,yQ _ rfl,rfl,rfl⟩,λb n=>?_,q⟩;have e:b=s1.heap.objs.size:=by simpa using n
 subst e;exact d.fpOk (zl _) (d.hok.fresh (zl _))
theorem zFE {l:zF}{f:TE} (g:PE X l f):PI X tg l (w4 X.K f):=by
 intro c s σ H R I h;refine thn (g c s σ H _ I h) λv s1 ⟨x,i,d,j,k⟩=>?_;obtain⟨a,e,⟨xs,m⟩,q⟩:=k;subst e;cases j;obtain⟨its,r,p,t⟩:=d.tuple m;refine wpAny_pyIter_tuple (show s1.heap.IsTuple a its.toArray from p) ?_;refine⟨s1.heap.objs.size,[s1.heap.objs.size],_,_,i,rfl,d.kept (t':=s1.toks) λb o e=>jd _ e,zEv a _,⟨_,yQ _ rfl,rfl,rfl⟩,λb n=>?_,q⟩;have e:b=s1.heap.objs.size:=by simpa using n
 subst e;exact d.fpOk (zl _) (d.hok.fresh (zl _))
theorem zA1 {a:List (zA×Obj)}{σ:St}{H:Hp}{s:zD}{R:It->Hp->Prop}{E:zB->zD->Prop}{lo hi:Int}{t u v:Tok}{tk:Nat} (I:Inv X a σ H s) (d:-(2 ^ 62) <= lo) (f:lo < 2 ^ 62) (g:-(2 ^ 62) <= hi) (h:hi < 2 ^ 62)
  (q:R (Itr lo (hi - lo).toNat) H) (i:0 < tk:=by first | exact qQ _ | assumption | exact Inv.tk (by assumption) | omega):wpAny (zN X.prog X.w) X.A (pyIter (.ref s.heap.objs.size)) (PIE X a σ tg R) E { s with heap:=s.heap.push { cls:=.type "range",data:=.fields #[.int lo t,.int hi u,.int 1 v] },toks:=tk }:=by
 refine wpAny_pyIter_range (IsRange.new ..) (small_one d f g h) ?_;have c:Inv X a σ H { s with heap:=s.heap.push { cls:=.type "range",data:=.fields #[.int lo t,.int hi u,.int 1 v] },toks:=tk }:=I.kept λb o e=>jd _ e;refine⟨(s.heap.push { cls:=.type "range",data:=.fields #[.int lo t,.int hi u,.int 1 v] }).objs.size,[(s.heap.push { cls:=.type "range",data:=.fields #[.int lo t,.int hi u,.int 1 v] }).objs.size],_,_,H,rfl,
  c.kept (t':=tk) λb o e=>jd _ e,wF _ lo (hi - lo).toNat,?_,λb j=>?_,q⟩
 ·have k:lo+((0:Nat):Int) * 1=lo:=by simp
  have l:(((hi - lo).toNat:Nat):Int) - ((0:Nat):Int)=zGU lo hi 1:=by rw[rangeSize_one];split<;>omega
  show IsRangeIter _ _ (lo+((0:Nat):Int) * 1) ((((hi - lo).toNat:Nat):Int) - ((0:Nat):Int)) 1;rw[k,l];exact yQ _ rfl
 ·have e:b=(s.heap.push { cls:=.type "range",data:=.fields #[.int lo t,.int hi u,.int 1 v] }).objs.size:=by simpa using j
  subst e;exact c.fpOk (zl _) (c.hok.fresh (zl _))
noncomputable def zD7 (a:TA):TI:=λσ H R=>a σ H λb c=>∃ j:Int,b=[.int j] /\ -(2 ^ 62) <= j/\j < 2 ^ 62/\R (Itr 0 j.toNat) c
theorem Wf {a:zF}{d:TA}{p pos:Pos} (f:Gl X "range") (g:X.mg "range" = none) (ha:PA X [a] d) (i:zn [a] X.env=[(false,eval a X.env)]:=by rfl):PI X tg (.Call (.Name "range" p) [a] [] pos) (zD7 d):=by
 intro b s σ H R I h;refine Call_ (Je I f g boot_range (uh (thn (ha pos b s σ H _ I h) λus s1 ⟨o,u,k,l,c⟩=>?_) i rfl));obtain⟨j,e,c,m,q⟩:=c;subst e;cases l with
 | cons r n =>
  cases n;obtain⟨t,rfl⟩:=r;exact call_range_1 (zA1 k (by omega) (by omega) c m (by simpa using q))
noncomputable def zCX (e:TI) (g:TG) (f:TS):TS:=λD σ H=>e σ H λJ h=>∃ W:Nat->Nat->St->Hp->Prop,(∃ m,W 0 m σ h)/\∀ i m σ H,W i m σ H ->
 (J.stop i H/\D.nx σ H)\/(J.go i H/\∃ N:St->Hp->Prop,(∀ a b,N a b->∃ d,d < m/\W (i+1) d a b)/\∀ x b,J.yld i H x b->g x σ b λc j=>f { D with nx:=N,ct:=N,bk:=D.nx } c j)
noncomputable def yl (fp:List zA) (h:zJ):List (zA×Obj):=fp.filterMap λb=>(h.get? b).map λo=>(b,o)
theorem XC {fp:List zA}{h:zJ}{b:zA}{o:Obj} (a:b∈fp) (e:h.get? b=some o):(b,o)∈yl fp h:=List.mem_filterMap.mpr ⟨b,a,by rw[e];rfl⟩
theorem VM {fp:List zA}{h:zJ}{p:zA×Obj} (hp:p∈yl fp h):p.1∈fp/\h.get? p.1=some p.2:=by
 obtain⟨b,a,e⟩:=List.mem_filterMap.mp hp;cases q:h.get? b with
 | none=>rw[q] at e;cases e
 | some o =>
  rw[q] at e;have c:(b,o)=p:=yf e;subst c;exact⟨a,q⟩
theorem Inv.pinned {a:List (zA×Obj)}{σ:St}{H:Hp}{s:zD}{fp:List zA} (I:Inv X a σ H s) (g:∀ b∈fp,yA X a H b) (h:∀ b∈fp,∃ o,s.heap.get? b=some o/\∀ v,o.data≠.cell v):Inv X (a++yl fp s.heap) σ H s :=
 I.pins_of λp hp=>(List.mem_append.mp hp).elim (λz=>I.pin p (q2 _ z)) λz=>by
  obtain⟨c,e⟩:=VM z;obtain⟨i,j,k,_⟩:=g p.1 c;obtain⟨o,f,d⟩:=h p.1 c;rw[e] at f;cases f;exact⟨e,i,j,k,d⟩
theorem Inv.unpinned {a b:List (zA×Obj)}{σ:St}{H:Hp}{s:zD} (I:Inv X (a++b) σ H s):Inv X a σ H s:=I.pins_of λp hp=>I.pin p (q2 _ (Uk _ hp))
theorem zC2 {iter:zF}{body:List zT}{R:TI}{g:TG}{S:TS}{pos:Pos} (hp:Qs (zN X.prog X.w) X.A X.env X.xe) (U:X.calm=true) (hi:PI X tg iter R) (hg:PG X tg g) (j:PSs X body S)
  (hs:∀ x,yZ iter X.env x=pure x:=by intro _;rfl):PS X (.For tg iter body [] pos) (zCX R g S):=by
 intro a s σ H D I h;refine wpAny_For (thn (hi a s σ H _ I h) λv s1 h1=>thn h1 λitv s2 h2=>?_) hs;obtain⟨it,fp,V,J,H2,e,I2,T,K,Y,W,⟨m0,w0⟩,B⟩:=h2;subst e;have k:∀ {t:Hp},(∀ b∈fp,t b=none)->∀ b∈fp,yA X a t b:=λhn b j=>⟨hn b j,(Y b j).2⟩
 refine codeAny_forLoop_any (λn s'=>∃ i l t,Inv X a l t s'/\V i s'.heap/\(∀ b∈fp,t b=none)/\W i n l t) ?_ m0 ⟨0,σ,H2,I2,K,λb j=>(Y b j).1,w0⟩
 rintro n Z ⟨i,p,G,I3,C,E,w3⟩
 rcases B i n p G w3 with ⟨stop,qn⟩ | ⟨go,N,hN,step⟩
 ·refine JR hp (thn (T.done X rfl rfl rfl U i a Z p G X.xe I3 (k E) C stop) λr s4 ⟨L,I4⟩=>?_);subst L;exact wpAny_execs_nil ⟨p,G,I4,qn⟩
 ·refine JR hp (thn (T.item X rfl rfl rfl U i a Z p G X.xe I3 (k E) C go) λr s4 ⟨u,L,h4⟩=>?_);subst L;refine JR hp (thn h4 λ_ s5 ⟨x,H5,I5,r5,y5,z,M⟩=>?_);have O:=I5.pinned (k M) (T.obj _ _ z);refine JR hp (thn (hg _ s5 p H5 x u _ O r5 (step x H5 y5)) λ_ s6 ⟨P,H6,I6,q6⟩=>?_);refine JR hp (thn (j _ s6 P H6 _ I6 q6) λf Q y=>?_);have kT:∀ {c:St}{H7:Hp},Inv X (a++yl fp s5.heap) c H7 Q->N c H7->∃ m,m < n/\∃ i l t,Inv X a l t Q/\V i Q.heap/\(∀ b∈fp,t b=none)/\W i m l t:=λ{c H7} q F=>by
   obtain⟨m',hm,w7⟩:=hN c H7 F;refine⟨m',hm,i+1,c,H7,q.unpinned,T.keep _ _ _ z λb j o e=>(q.pin (b,o) (q2 _ (q2 _ (XC j e)))).1,λb j=>?_,w7⟩;obtain⟨o,e,d⟩:=T.obj _ _ z b j;exact (q.pin (b,o) (q2 _ (q2 _ (XC j e)))).2.1
  cases f with
  | next=>obtain⟨c,H7,q,F⟩:=y;exact kT q F
  | cont=>obtain⟨c,H7,q,F⟩:=y;exact kT q F
  | brk=>obtain⟨c,H7,q,y⟩:=y;exact⟨c,H7,q.unpinned,y⟩
  | ret v=>obtain⟨x7,c,H7,q,r7,y⟩:=y;exact⟨x7,c,H7,q.unpinned,r7,y⟩
end
end L2
namespace L2
open PySem PySem.Spec PyProof.Rows
noncomputable abbrev R2:=V->V->Hp->VK->Prop
noncomputable def OpR (X:Cx) (f:zB->zB->Sem zB) (r:R2):Prop :=
 ∀ (a:List (zA×Obj)) (s:zD) (σ:St) (H:Hp) (x y:V) (v u:zB) (Q:VK),Inv X a σ H s->zY x v->zY y u->r x y H Q ->
  wpAny (zN X.prog X.w) X.A (f v u) (EP X a σ Q) X.xe s
noncomputable def UnR (X:Cx) (f:zB->Sem zB) (r:V->Hp->VK->Prop):Prop :=
 ∀ (a:List (zA×Obj)) (s:zD) (σ:St) (H:Hp) (x:V) (v:zB) (Q:VK),Inv X a σ H s->zY x v->r x H Q ->
  wpAny (zN X.prog X.w) X.A (f v) (EP X a σ Q) X.xe s
noncomputable def jo (X:Cx) (f:zB) (r:List V->Hp->VK->Prop):Prop :=
 ∀ (a:List (zA×Obj)) (s:zD) (σ:St) (H:Hp) (xs:List V) (us:List zB) (Q:VK),Inv X a σ H s->zS xs us->r xs H Q ->
  wpAny (zN X.prog X.w) X.A (call f us) (EP X a σ Q) X.xe s
noncomputable def zDc (X:Cx) (r:V->Hp->(Bool->Hp->Prop)->Prop):Prop :=
 ∀ (a:List (zA×Obj)) (s:zD) (σ:St) (H:Hp) (x:V) (v:zB) (Q:Bool->Hp->Prop),Inv X a σ H s->zY x v->r x H Q ->
  wpAny (zN X.prog X.w) X.A (truthy v) (TP X a σ Q) X.xe s
noncomputable def tOp (r:R2) (a b:TE):TE:=λσ H Q=>a σ H λx c=>b σ c λy d=>r x y d Q
noncomputable def tUn (r:V->Hp->VK->Prop) (a:TE):TE:=λσ H Q=>a σ H λx b=>r x b Q
noncomputable def rI (C:Int->Int->Prop) (g:Int->Int->V):R2:=λx y H Q=>∃ i j,x=.int i/\y=.int j/\C i j/\Q (g i j) H
noncomputable def rI0 (g:Int->Int->V):R2:=λx y H Q=>∃ i j,x=.int i/\y=.int j/\Q (g i j) H
noncomputable def rU (g:Int->V):V->Hp->VK->Prop:=λx H Q=>∃ i,x=.int i/\Q (g i) H
section
variable {X:Cx}{a b c:zF}{ta tb tc:TE}{pos:Pos}
theorem Kz (ha:PE X a ta) (k:PE X b tb) {d:List (zA×Obj)}{s:zD}{σ:St}{H:Hp}{R:V->V->Hp->Prop} (I:Inv X d σ H s)
  (h:ta σ H λx j=>tb σ j λy e=>R x y e) {Q:zB->zD->Prop}{f:zB->zB->Sem zB}
  (l:∀ v u s2 x y e,Inv X d σ e s2->zY x v->zY y u->R x y e->wpAny (zN X.prog X.w) X.A (f v u) Q X.xe s2) :
  wpAny (zN X.prog X.w) X.A (eval a X.env) (λv g=>wpAny (zN X.prog X.w) X.A (eval b X.env) (λu i=>wpAny (zN X.prog X.w) X.A (f v u) Q X.xe i) X.xe g) X.xe s:=by
 refine thn (ha d s σ H _ I h) λv s1 ⟨x,j,m,n,o⟩=>?_;refine thn (k d s1 σ j _ m o) λu s2 ⟨y,e,p,q,r⟩=>?_;exact l v u s2 x y e p n q r
theorem zAr {op:JQ}{r:R2} (e:OpR X (qC op) r) (ha:PE X a ta) (f:PE X b tb):PE X (.BinOp a op b pos) (tOp r ta tb):=by
 intro d s σ H Q I h;exact wpAny_BinOp (Kz ha f I h λv u s2 x y g i rx ry q=>e d s2 σ g x y v u Q i rx ry q)
theorem wU {op:UnaryOp}{r:V->Hp->VK->Prop} (e:UnR X (Kj op) r) (ha:PE X a ta):PE X (.UnaryOp op a pos) (tUn r ta):=by
 intro d s σ H Q I h;exact UnaryOp_ (thn (ha d s σ H _ I h) λv s1 ⟨x,f,g,i,j⟩=>e d s1 σ f x v Q g i j)
theorem opI {f:zB->zB->Sem zB}{C:Int->Int->Prop}{g:Int->Int->Int}
  (rule:∀ (i j:Int) (t u:Tok) (s:zD) (Q:zB->zD->Prop) (E:zB->zD->Prop),C i j->Q (.int (g i j) s.toks) { s with toks:=s.toks+1 }->wpAny (zN X.prog X.w) X.A (f (.int i t) (.int j u)) Q E s) :
  OpR X f (rI C λi j=>.int (g i j)):=by
 intro d s σ H x y v u Q I rx ry h;obtain⟨i,j,rfl,rfl,e,q⟩:=h;obtain⟨t,rfl⟩:=rx;obtain⟨t',rfl⟩:=ry;exact rule i j t t' s _ _ e ⟨.int (g i j),H,I.tok _,⟨_,rfl⟩,q⟩
theorem zC6 {f:zB->zB->Sem zB}{g:Int->Int->Int}
  (rule:∀ (i j:Int) (t u:Tok) (s:zD) (Q:zB->zD->Prop) (E:zB->zD->Prop),Q (.int (g i j) s.toks) { s with toks:=s.toks+1 }->wpAny (zN X.prog X.w) X.A (f (.int i t) (.int j u)) Q E s) :
  OpR X f (rI0 λi j=>.int (g i j)):=by
 intro d s σ H x y v u Q I rx ry h;obtain⟨i,j,rfl,rfl,q⟩:=h;obtain⟨t,rfl⟩:=rx;obtain⟨t',rfl⟩:=ry;exact rule i j t t' s _ _ ⟨.int (g i j),H,I.tok _,⟨_,rfl⟩,q⟩
theorem Xy {f:zB->zB->Sem zB}{g:Int->Int->Bool}
  (rule:∀ (i j:Int) (t u:Tok) (s:zD) (Q:zB->zD->Prop) (E:zB->zD->Prop),Q (.bool (g i j)) s->wpAny (zN X.prog X.w) X.A (f (.int i t) (.int j u)) Q E s) :
  OpR X f (rI0 λi j=>.bl (g i j)):=by
 intro d s σ H x y v u Q I rx ry h;obtain⟨i,j,rfl,rfl,q⟩:=h;obtain⟨t,rfl⟩:=rx;obtain⟨t',rfl⟩:=ry;exact rule i j t t' s _ _ ⟨.bl (g i j),H,I,rfl,q⟩
noncomputable def zDP (i j:Int):Prop:=0 < j/\j < 1073741824
noncomputable def kO (i j:Int):Prop:=(-(2 ^ 64) < i/\i < 2 ^ 64)\/(-(2 ^ 64) < j/\j < 2 ^ 64)
theorem kO.ok {i j:Int} (h:kO i j):IntMulOk i j:=by
 rcases h with ⟨d,e⟩ | ⟨d,e⟩
 ·exact .of_left (intBits_le_64 d e)
 ·exact .of_right (intBits_le_64 d e)
theorem zFh:OpR X (qC .Add) (rI0 λi j=>.int (i+j)):=zC6 λ_ _ _ _ _ _ _ q=>add_int q
theorem zFK:OpR X (qC .Mult) (rI kO λi j=>.int (i * j)):=opI λ_ _ _ _ _ _ _ d q=>mul_int q d.ok
theorem zAX:OpR X (qC .FloorDiv) (rI zDP λi j=>.int (i / j)):=opI λi j _ _ _ _ _ d q=>by
 have e:(0:Int) < j:=d.1;have f:j < 1073741824:=d.2;exact floordiv_int (by omega) (by rw[Int.fdiv_eq_ediv_of_nonneg i (by omega)];exact q) (.inl (PyProof.noPylong_small (by omega)))
theorem zAx:OpR X (qC .Mod) (rI (λ_ j=>0 < j) λi j=>.int (i % j)):=opI λi j _ _ _ _ _ d q=>by
 have e:(0:Int) < j:=d;exact mod_int' (by omega) (by rw[Int.fmod_eq_emod_of_nonneg i (by omega)];exact q)
theorem unI {f:zB->Sem zB}{g:Int->Int}
  (rule:∀ (i:Int) (t:Tok) (s:zD) (Q:zB->zD->Prop) (E:zB->zD->Prop),Q (.int (g i) s.toks) { s with toks:=s.toks+1 }->wpAny (zN X.prog X.w) X.A (f (.int i t)) Q E s) :
  UnR X f (rU λi=>.int (g i)):=by
 intro d s σ H x v Q I rx h;obtain⟨i,rfl,q⟩:=h;obtain⟨t,rfl⟩:=rx;exact rule i t s _ _ ⟨.int (g i),H,I.tok _,⟨_,rfl⟩,q⟩
theorem kJ:UnR X (Kj .USub) (rU λi=>.int (-i)):=unI λ_ _ _ _ _ q=>neg_int q
end
noncomputable def Qn:V->V->Bool
 | .non,.non=>true | .non,.int _=>true | .int _,.non=>true | .non,.bl _=>true | .bl _,.non=>true | .non,.str _=>true | .str _,.non=>true
 | .int _,.int _=>true | .bl _,.bl _=>true | .str _,.str _=>true | .byt _,.byt _=>true
 | .int _,.str _=>true | .str _,.int _=>true | .bl _,.str _=>true | .str _,.bl _=>true
 | _,_=>false
noncomputable def rEq:R2:=λx y H Q=>Qn x y=true/\Q (.bl (decide (x=y))) H
noncomputable def rNe:R2:=λx y H Q=>Qn x y=true/\Q (.bl (!decide (x=y))) H
theorem VZ {i j:Int}:decide (V.int i=V.int j)=(i == j):=by
 rw[ZN];simp
theorem uF {i j:Bool}:decide (V.bl i=V.bl j)=(i == j):=by
 rw[ZN];simp
theorem Ym {i j:Str}:decide (V.str i=V.str j)=(i == j):=by
 rw[ZN];simp
theorem Vd {i j:Array UInt8}:decide (V.byt i=V.byt j)=(i.toList == j.toList):=by
 rw[ZN];cases i;cases j;simp
section
variable {X:Cx}{a b c:zF}{ta tb tc:TE}{pos:Pos}
theorem z7 {d:List (zA×Obj)}{σ:St}{H:Hp}{s:zD}{Q:VK}{k f:Bool} (I:Inv X d σ H s) (q:Q (.bl k) H) (e:k=f):EP X d σ Q (.bool f) s:=by
 subst e;exact⟨.bl k,H,I,rfl,q⟩
theorem zCg:OpR X (zm .Eq) rEq:=by
 intro e s σ H x y v u Q I rx ry h;obtain⟨d,q⟩:=h;cases x with
 | non =>
  cases rx;cases y with
  | non=>cases ry;exact PySem.EqNone.eq_none_none (z7 I q (by simp))
  | bl j=>cases ry;exact PySem.EqNone.eq_none_bool (z7 I q (by simp))
  | int j=>obtain⟨t',rfl⟩:=ry;exact PySem.EqNone.eq_none_int (z7 I q (by simp))
  | str j=>obtain⟨t',rfl⟩:=ry;exact PySem.EqNone.eq_none_str (z7 I q (by simp))
  | _=>exact absurd (show false=true from d) jX
 | bl i =>
  cases rx;cases y with
  | non=>cases ry;exact PySem.EqNone.eq_bool_none (z7 I q (by simp))
  | bl j=>cases ry;exact eq_bool (z7 I q uF)
  | str j=>obtain⟨t',rfl⟩:=ry;exact PySem.EqMixed.eq_bool_str (z7 I q (by simp))
  | _=>exact absurd (show false=true from d) jX
 | int i =>
  obtain⟨t,rfl⟩:=rx;cases y with
  | non=>cases ry;exact PySem.EqNone.eq_int_none (z7 I q (by simp))
  | int j=>obtain⟨t',rfl⟩:=ry;exact eq_int (z7 I q VZ)
  | str j=>obtain⟨t',rfl⟩:=ry;exact PySem.EqMixed.eq_int_str (z7 I q (by simp))
  | _=>exact absurd (show false=true from d) jX
 | str i =>
  obtain⟨t,rfl⟩:=rx;cases y with
  | non=>cases ry;exact PySem.EqNone.eq_str_none (z7 I q (by simp))
  | bl j=>cases ry;exact PySem.EqMixed.eq_str_bool (z7 I q (by simp))
  | int j=>obtain⟨t',rfl⟩:=ry;exact PySem.EqMixed.eq_str_int (z7 I q (by simp))
  | str j=>obtain⟨t',rfl⟩:=ry;exact eq_str (z7 I q Ym)
  | _=>exact absurd (show false=true from d) jX
 | byt i =>
  obtain⟨t,rfl⟩:=rx;cases y with
  | byt j=>obtain⟨t',rfl⟩:=ry;exact PySem.W.eq_bytes (z7 I q Vd)
  | _=>exact absurd (show false=true from d) jX
 | _=>cases y<;>exact absurd (show false=true from d) jX
theorem u1:OpR X (zm .NotEq) rNe:=by
 intro e s σ H x y v u Q I rx ry h;obtain⟨d,q⟩:=h;cases x with
 | non =>
  cases rx;cases y with
  | non=>cases ry;exact PySem.EqNone.ne_none_none (z7 I q (by simp))
  | bl j=>cases ry;exact PySem.EqNone.ne_none_bool (z7 I q (by simp))
  | int j=>obtain⟨t',rfl⟩:=ry;exact PySem.EqNone.ne_none_int (z7 I q (by simp))
  | str j=>obtain⟨t',rfl⟩:=ry;exact PySem.EqNone.ne_none_str (z7 I q (by simp))
  | _=>exact absurd (show false=true from d) jX
 | bl i =>
  cases rx;cases y with
  | non=>cases ry;exact PySem.EqNone.ne_bool_none (z7 I q (by simp))
  | bl j=>cases ry;exact ne_bool (z7 I q (congrArg not uF))
  | str j=>obtain⟨t',rfl⟩:=ry;exact PySem.EqMixed.ne_bool_str (z7 I q (by simp))
  | _=>exact absurd (show false=true from d) jX
 | int i =>
  obtain⟨t,rfl⟩:=rx;cases y with
  | non=>cases ry;exact PySem.EqNone.ne_int_none (z7 I q (by simp))
  | int j=>obtain⟨t',rfl⟩:=ry;exact ne_int (z7 I q (congrArg not VZ))
  | str j=>obtain⟨t',rfl⟩:=ry;exact PySem.EqMixed.ne_int_str (z7 I q (by simp))
  | _=>exact absurd (show false=true from d) jX
 | str i =>
  obtain⟨t,rfl⟩:=rx;cases y with
  | non=>cases ry;exact PySem.EqNone.ne_str_none (z7 I q (by simp))
  | bl j=>cases ry;exact PySem.EqMixed.ne_str_bool (z7 I q (by simp))
  | int j=>obtain⟨t',rfl⟩:=ry;exact PySem.EqMixed.ne_str_int (z7 I q (by simp))
  | str j=>obtain⟨t',rfl⟩:=ry;exact ne_str (z7 I q (congrArg not Ym))
  | _=>exact absurd (show false=true from d) jX
 | byt i =>
  obtain⟨t,rfl⟩:=rx;cases y with
  | byt j=>obtain⟨t',rfl⟩:=ry;exact PySem.W.ne_bytes (z7 I q (congrArg not Vd))
  | _=>exact absurd (show false=true from d) jX
 | _=>cases y<;>exact absurd (show false=true from d) jX
theorem zBx:OpR X (zm .Lt) (rI0 λi j=>.bl (decide (i < j))):=Xy λ_ _ _ _ _ _ _ q=>lt_int q
theorem Wg:OpR X (zm .LtE) (rI0 λi j=>.bl (decide (i <= j))):=Xy λ_ _ _ _ _ _ _ q=>le_int q
theorem zBK:OpR X (zm .GtE) (rI0 λi j=>.bl (decide (j <= i))):=Xy λ_ _ _ _ _ _ _ q=>ge_int q
theorem zEH:OpR X (zm .Lt) (λx y H Q=>∃ i j,x=.str i/\y=.str j/\Q (.bl (decide (i.cps.toList < j.cps.toList))) H):=by
 intro d s σ H x y v u Q I rx ry h;obtain⟨i,j,rfl,rfl,q⟩:=h;obtain⟨t,rfl⟩:=rx;obtain⟨t',rfl⟩:=ry;exact lt_str (z7 I q rfl)
theorem W2:OpR X (zm .In) (λx y H Q=>∃ i j,x=.str i/\y=.str j/\Q (.bl (!(Q9 j i 0 j.length 1).isEmpty)) H):=by
 intro d s σ H x y v u Q I rx ry h;obtain⟨i,j,rfl,rfl,q⟩:=h;obtain⟨t,rfl⟩:=rx;obtain⟨t',rfl⟩:=ry;exact in_str (z7 I q rfl)
theorem wR:OpR X (zm .NotIn) (λx y H Q=>∃ i j,x=.str i/\y=.str j/\Q (.bl (!(!(Q9 j i 0 j.length 1).isEmpty))) H):=by
 intro d s σ H x y v u Q I rx ry h;obtain⟨i,j,rfl,rfl,q⟩:=h;obtain⟨t,rfl⟩:=rx;obtain⟨t',rfl⟩:=ry;exact notIn_str (z7 I q rfl)
theorem OpR.or {f:zB->zB->Sem zB}{r r':R2} (h:OpR X f r) (h':OpR X f r'):OpR X f (λx y H Q=>r x y H Q\/r' x y H Q):=by
 intro d s σ H x y v u Q I rx ry q;rcases q with q | q
 ·exact h d s σ H x y v u Q I rx ry q
 ·exact h' d s σ H x y v u Q I rx ry q
theorem z8 (b:zF) {op:qV} (h:op≠.In:=by decide) (d:op≠.NotIn:=by decide):ye op b=false:=by
 have e:(op == WP)=false:=by cases op<;>first | rfl | exact absurd rfl h
 have f:(op == Up)=false:=by cases op<;>first | rfl | exact absurd rfl d
 cases b<;>simp[ye,e,f]
theorem w1 {op:qV}{r:R2} (e:OpR X (zm op) r) (ha:PE X a ta) (f:PE X b tb) (g:ye op b=false):PE X (.Compare a [op] [b] pos) (tOp r ta tb):=by
 intro d s σ H Q I h;exact wpAny_Compare1 (Kz ha f I h λv u s2 x y i j rx ry q=>e d s2 σ i x y v u Q j rx ry q) g
noncomputable def Vw (t:TE):TT:=λσ H Q=>t σ H λx d=>∃ k,x=.bl k/\Q k d
theorem WM {op:qV}{r:R2} (f:OpR X (zm op) r) (ha:PE X a ta) (g:PE X b tb) (i:ye op b=false):PT X (.Compare a [op] [b] pos) (Vw (tOp r ta tb)):=by
 intro d s σ H Q I h;refine zDW (thn (ha d s σ H _ I h) λv s1 ⟨x,j,l,m,n⟩=>thn (g d s1 σ j _ l n) λu s2 ⟨y,o,p,q,t⟩ =>
  thn (f d s2 σ o x y v u _ p m q t) λc D ⟨z,w,A,B,k,e,C⟩=>?_) i
 subst e;cases B;exact ZB ⟨w,A,C⟩
noncomputable def Zp (r r':R2) (ta tb tc:TE):TE:=λσ H Q=>ta σ H λx e=>tb σ e λy f=>r x y f λz d=>∃ k,z=.bl k /\
 (if k=true then tc σ d λg h=>r' y g h Q else Q (.bl false) d)
theorem wp {op op':qV}{r r':R2} (n:OpR X (zm op) r) (g:OpR X (zm op') r') (ha:PE X a ta) (o:PE X b tb) (p:PE X c tc)
  (q:J7 [op,op'] [b,c]=false:=by with_unfolding_all rfl):PE X (.Compare a [op,op'] [b,c] pos) (Zp r r' ta tb tc):=by
 intro f s σ H Q I h;refine Compare_chain (thn (ha f s σ H _ I h) λv s1 ⟨x,t,w,A,B⟩=>chain_link (thn (o f s1 σ t _ w B) λu s2 ⟨y,C,D,i,E⟩ =>
  thn (n f s2 σ C x y v u _ D A i E) λd F ⟨z,j,l,G,k,e,m⟩=>?_)) q
 subst e;cases G;refine ZB ?_;cases k with
 | false=>exact ite_ff ⟨.bl false,j,l,rfl,m⟩
 | true=>exact ite_tt (chain_last (thn (p f F σ j _ l m) λJ K ⟨L,M,N,O,P⟩=>g f K σ M y L u J Q N i O P))
theorem zE6 {op op':qV}{r r':R2} (n:OpR X (zm op) r) (g:OpR X (zm op') r') (ha:PE X a ta) (o:PE X b tb) (p:PE X c tc)
  (q:J7 [op,op'] [b,c]=false:=by with_unfolding_all rfl):PT X (.Compare a [op,op'] [b,c] pos) (Vw (Zp r r' ta tb tc)):=by
 intro f s σ H Q I h;refine isTrue_chain (thn (ha f s σ H _ I h) λv s1 ⟨x,t,w,A,B⟩=>test_link (thn (o f s1 σ t _ w B) λu s2 ⟨y,C,D,i,E⟩ =>
  thn (n f s2 σ C x y v u _ D A i E) λd F ⟨z,j,l,G,k,e,m⟩=>?_)) q
 subst e;cases G;refine ZB ?_;cases k with
 | false =>
  obtain⟨Y,J,K⟩:=m;cases J;exact ite_ff ⟨j,l,K⟩
 | true =>
  refine ite_tt (test_last (thn (p f F σ j _ l m) λL M ⟨N,O,P,R,S⟩=>thn (g f M σ O y N u L _ P i R S) λd' Z ⟨z2,H5,T,U,k2,V,W⟩=>?_));subst V;cases U;exact ZB ⟨H5,T,W⟩
noncomputable def YV (K:PySem.W.Frag) (x:V) (H:Hp) (k:Bool):Prop :=
 match x with
 | .non=>k=false
 | .bl b=>k=b
 | .int i=>k=(i != 0)
 | .str y=>y.length <= zV/\k=((y.length:Int) != 0)
 | .byt y=>y.size <= zV/\k=((y.size:Int) != 0)
 | .ref p=>(∃ xs,SqL K H p xs/\k = !xs.isEmpty)\/(∃ xs,SqT K H p xs/\k = !xs.isEmpty)\/∃ d,H p=some (.dK d)/\k = !d.isEmpty
 | _=>False
theorem zCJ {e:Type}{d:List (e×V)}{f:List (e×zB)} (r:KV d f):(!f.isEmpty) = !d.isEmpty:=by
 cases r<;>rfl
theorem Y0 {xs:List V}{its:List zB} (r:zS xs its):(!its.toArray.isEmpty) = !xs.isEmpty:=by
 cases r<;>simp
theorem Qo:(zV:Nat) < 2 ^ 63:=by rw[Z0];decide
theorem zEy:zDc X (λx H Q=>∃ k,YV X.K x H k/\Q k H):=by
 intro o s σ H x v Q I rx h;obtain⟨k,e,q⟩:=h;have B:=Qo;have C:zV=16777216:=Z0;cases x with
 | non =>
  cases rx;have d:k=false:=e;subst d;exact truthy_none ⟨H,I,q⟩
 | bl b =>
  cases rx;have d:k=b:=e;subst d;exact ZB ⟨H,I,q⟩
 | int i =>
  obtain⟨t,rfl⟩:=rx;have d:k=(i != 0):=e;subst d;exact PySem.P.truthy_int ⟨H,I,q⟩
 | str y =>
  obtain⟨t,rfl⟩:=rx;obtain⟨z,d⟩:y.length <= zV/\k=((y.length:Int) != 0):=e;subst d;exact PySem.P.truthy_str (by omega) ⟨H,I.tok _,q⟩
 | byt y =>
  obtain⟨t,rfl⟩:=rx;obtain⟨z,d⟩:y.size <= zV/\k=((y.size:Int) != 0):=e;subst d;exact PySem.W.truthy_bytes (by omega) ⟨H,I.tok _,q⟩
 | ref p =>
  cases rx;have d:(∃ xs,SqL X.K H p xs/\k = !xs.isEmpty)\/(∃ xs,SqT X.K H p xs/\k = !xs.isEmpty)\/∃ f,H p=some (.dK f)/\k = !f.isEmpty:=e;rcases d with ⟨xs,j,d⟩ | ⟨xs,j,d⟩ | ⟨f,j,d⟩
  ·subst d;obtain⟨its,r,n,u⟩:=I.list j;have g:=r.length;exact wpAny_truthy_list n.isList (by simp only[ji];omega) ⟨H,I.tok _,by rw[Y0 r];exact q⟩
  ·subst d;obtain⟨its,r,n,u⟩:=I.tuple j;have g:=r.length;exact truthy_tuple n (by simp only[ji];omega) ⟨H,I.tok _,by rw[Y0 r];exact q⟩
  ·subst d;obtain⟨u,A,l,r,m⟩:f.length <= zV/\(p == Qq)=false/\∃ l,KV f l/\s.heap.DictOf (qr X.prog X.w) p l:=I.hok p _ j;have g:f.length=l.length:=Paired.length r;exact wpAny_truthy_dict A m (by omega) ⟨H,I.tok _,by rw[zCJ r];exact q⟩
 | _=>exact (show False from e).elim
theorem zCY (ha:PE X a ta) (g:∀ d,isTrue a X.env d=(do let v <- d;standAt a.pos;holding [v] (truthy v))) :
  PT X a (λσ H Q=>ta σ H λx f=>∃ k,YV X.K x f k/\Q k f):=by
 intro e s σ H Q I h;exact isTrue_plain (thn (ha e s σ H _ I h) λv s1 ⟨x,i,j,l,m⟩=>zEy e s1 σ i x v Q j l m) (g _)
theorem zEk:OpR X (qC .Add) (λx y H Q=>∃ i j,x=.str i/\y=.str j/\i.length+j.length <= zV/\Q (.str (i++j)) H):=by
 intro e s σ H x y v u Q I rx ry h;obtain⟨i,j,rfl,rfl,f,q⟩:=h;obtain⟨t,rfl⟩:=rx;obtain⟨t',rfl⟩:=ry;exact qg (n:=1) I.tk (add_str (λt' tk d=>⟨.str (i++j),H,I.tok _ d,⟨_,rfl⟩,q⟩) f)
theorem zCT:OpR X (uD .Add) (λx y H Q=>∃ i j,x=.str i/\y=.str j/\i.length+j.length <= zV/\Q (.str (i++j)) H):=by
 intro e s σ H x y v u Q I rx ry h;obtain⟨i,j,rfl,rfl,f,q⟩:=h;obtain⟨t,rfl⟩:=rx;obtain⟨t',rfl⟩:=ry;exact qg (n:=1) I.tk (iadd_str (λt' tk d=>⟨.str (i++j),H,I.tok _ d,⟨_,rfl⟩,q⟩) f)
theorem ZJ {x:V}{us:List zB} (r:zS [x] us):∃ u,us=[u]/\zY x u:=by
 cases r with
 | cons d e=>cases e;exact⟨_,rfl,d⟩
theorem Vq {x y:V}{us:List zB} (r:zS [x,y] us):∃ u d,us=[u,d]/\zY x u/\zY y d:=by
 cases r with
 | cons e f =>
  cases f with
  | cons g h=>cases h;exact⟨_,_,rfl,e,g⟩
end
end L2
namespace L2
open PySem PySem.Spec PyProof.Rows
structure Kc (h:zJ) (x dx C:zA) (mA:Str->Option zB):Prop where
 obj:h.get? x=some (PySem.W.instObj C dx)
 ns:h.Ns1 dx mA
 ne:dx≠x
theorem zEC {h:zJ}{c:zA}{d:Str->Option zB} (n:h.Ns1 c d):∃ f,h.get? c=some f/\∀ name,PySem.W.lookIn name f=some (d name):=by
 obtain⟨o,es,m,g,hd,i,_,j⟩:=n;refine⟨o,g,λname=>?_⟩;have e:=j name;unfold nsFind findBy at e;rw[<- Array.find?_toList] at e;unfold PySem.W.lookIn;rw[hd];dsimp only;split
 ·rename_i y q;rw[q] at e;exact congrArg some e
 ·rename_i q;rw[q] at e;have a:es.toList.any (·.refKey)=false:=by
   rw[List.any_eq_false];intro y k;obtain⟨z,t,b⟩:=i y (Array.mem_toList_iff.mp k);simp[DictEntry.refKey,b]
  have l:¬ es.toList.any (·.refKey)=true:=by rw[a];exact jX
  rw[if_neg l];exact congrArg some e
theorem Kc.look {h:zJ}{x b C:zA}{c:Str->Option zB} (I:Kc h x b C c):∃ a,PySem.W.InstAt h x (PySem.W.instObj C b) C (some a)/\∀ name,PySem.W.lookIn name a=some (c name) :=
 let ⟨a,d,e⟩:=zEC I.ns
 ⟨a,⟨I.obj,rfl,rfl,d⟩,e⟩
theorem qt.some_of {v:V}{o:Option zB} (r:qt (some v) o):∃ u,o=some u/\zY v u:=by
 cases o with
 | none=>exact (show False from r).elim
 | some u=>exact⟨u,rfl,r⟩
theorem W3 {v:V}{u:zB} (r:zY v u):PySem.W.handedIn u=true:=by
 cases v with
 | non=>cases (show u=jt from r);rfl
 | bl b=>cases (show u=ZP b from r);rfl
 | int i=>obtain⟨t,e⟩:=(show ∃ t,u=kH i t from r);cases e;rfl
 | str x=>obtain⟨t,e⟩:=(show ∃ t,u=Xn x t from r);cases e;rfl
 | byt b=>obtain⟨t,e⟩:=(show ∃ t,u=zDu b t from r);cases e;rfl
 | flt b=>obtain⟨t,e⟩:=(show ∃ t,u=VC b t from r);cases e;rfl
 | ref a=>cases (show u=jV a from r);rfl
 | ty n=>cases (show u=XH n from r);rfl
section
variable {P:zW}{w:zR}{H H':Hp}{h h':zJ}{a C dx:zA}{fs fs':List (Str×V)}
theorem u5 (hok:HOk P w H h) (e:H a=some (.ins C dx fs)):∃ b,Kc h a dx C b/\(∀ f,qt (fs.lookup f) (b f))/\PySem.Within b (fs.map (·.1))/\fs.length <= 1000/\H dx=some (.own a):=by
 obtain⟨d,z,ne,ob,b,n,r,q⟩:=(show jW P w H h a (.ins C dx fs) from hok a _ e)
 exact⟨b,⟨ob,n,ne⟩,r,q,z,d⟩
end
structure Cls (K:PySem.W.Frag) (C:zA):Prop where
 pg:PySem.W.plainGet K C Str.empty=true
 hd:PySem.W.hasDictIn K C=true
 po:PySem.W.plainOver K C=true
 sa:PySem.W.findIn K (.ref C) "__setattr__" = some (some (.builtin "object.__setattr__"))
theorem Cls.get {K:PySem.W.Frag}{C:zA} (c:Cls K C) (f:Str):PySem.W.plainGet K C f=true:=c.pg
noncomputable def zEf (K:PySem.W.Frag) (C:zA) (f:Str):Prop:=PySem.W.findIn K (.ref C) f=some none
structure Con (K:PySem.W.Frag) (C:zA) (f:Str) (v:V) (u:zB):Prop where
 at_:PySem.W.findIn K (.ref C) f=some (some u)
 rel:zY v u
 get:PySem.W.specialIn K u "__get__" = some none
 cp:PySem.W.copiedNames.contains f=false
structure zBd (K:PySem.W.Frag) (C:zA) (m:Str) (f:zA):Prop where
 at_:PySem.W.findIn K (.ref C) m=some (some (.ref f))
 fn:PySem.W.isFn K (.ref f)=true
 kp:PySem.W.keepIn K (.ref f)=true
section
variable {X:Cx}{pins:List (zA×Obj)}{σ:St}{H:Hp}{s:zD}{a C dx:zA}{fs:List (Str×V)}{f:Str}{v:V}{A:zZ}{E:zB->zD->Prop}
theorem zFC {prog:zW}{w:zR}{env:Env}{e:zF}{f:Str}{pos:Pos}{s:zD}{Q:zB->zD->Prop} (c:q1 e f env (eval e env)=eval e env)
  (h:wpAny (zN prog w) A (eval e env) (λo b=>wpAny (zN prog w) A (getAttr o f true) Q E b) E s):wpAny (zN prog w) A (eval (.Attribute e f pos) env) Q E s :=
 Attribute_any_ h (by rw[arm_eval_Attribute,c])
end
section
variable {X:Cx}{pins:List (zA×Obj)}{σ:St}{H:Hp}{s:zD}{A:zZ}{E:zB->zD->Prop}{Q:zB->zD->Prop}{c:zB}{b:Bool}
inductive qp (K:PySem.W.Frag) (H:Hp):V->zB->Prop where
 | non:qp K H .non (.type "NoneType")
 | bl (x:Bool):qp K H (.bl x) (.type "bool")
 | int (i:Int):qp K H (.int i) (.type "int")
 | str (x:Str):qp K H (.str x) (.type "str")
 | flt (x:UInt64):qp K H (.flt x) (.type "float")
 | lst {a:zA}{xs:List V} (e:H a=some (.lst xs)):qp K H (.ref a) (.type "list")
 | frz {a:zA}{o:Obj}{xs:List V} (e:H a=some (.frz o (.lst xs))):qp K H (.ref a) (.type "list")
 | tup {a:zA}{xs:List V} (e:H a=some (.tup xs)):qp K H (.ref a) (.type "tuple")
 | dK {a:zA}{kvs:List (Key×V)} (e:H a=some (.dK kvs)):qp K H (.ref a) (.type "dict")
 | dT {a:zA}{kvs:List (List Key×V)} (e:H a=some (.dT kvs)):qp K H (.ref a) (.type "dict")
 | ins {a C dx:zA}{fs:List (Str×V)} (e:H a=some (.ins C dx fs)) (cl:Cls K C) (ha:PySem.W.findIn K (.ref C) "__class__" = some (some (.builtin "object.__class__")))
   (hn:PySem.W.specialIn K (.builtin "object.__class__") "__get__" = some (some (.builtin "getset_descriptor.__get__"))) (htk:PySem.W.takesIn K (.builtin "object.__class__")=some true)
   (hm:PySem.W.mroIn K C (.type "object")=some true):qp K H (.ref a) (.ref C)
theorem wA {x:V}{u t:zB} (I:Inv X pins σ H s) (rx:zY x u) (ty:qp X.K H x t) (e:PySem.W.kitOne X.K t c=some b) (h:∀ tk,Q (.bool b) { s with toks:=tk }) :
  wpAny (zN X.prog X.w) A (call (.builtin "isinstance") [u,c]) Q E s:=by
 cases ty with
 | non=>cases (show u=jt from rx);exact PySem.W.kia_one PySem.W.kitx_none I.kIn Q4 e (λz=>nomatch z) h
 | bl y=>cases (show u=ZP y from rx);exact PySem.W.kia_one PySem.W.kitx_bool I.kIn Q4 e (λz=>nomatch z) h
 | int i=>obtain⟨t,q⟩:=(show ∃ t,u=kH i t from rx);cases q;exact PySem.W.kia_one PySem.W.kitx_int I.kIn Q4 e (λz=>nomatch z) h
 | str y=>obtain⟨t,q⟩:=(show ∃ t,u=Xn y t from rx);cases q;exact PySem.W.kia_one PySem.W.kitx_str I.kIn Q4 e (λz=>nomatch z) h
 | flt y=>obtain⟨t,q⟩:=(show ∃ t,u=VC y t from rx);cases q;exact PySem.W.kia_one PySem.W.kitx_float I.kIn Q4 e (λz=>nomatch z) h
 | @lst a xs d =>
  cases (show u=jV a from rx);obtain⟨_,_,n,_,f⟩:=(show jW X.prog X.w H s.heap a (.lst xs) from I.hok a _ d)
  exact PySem.W.kia_one PySem.W.kitx_list I.kIn ⟨_,f,rfl⟩ e (λz=>nomatch z) h
 | @frz a ob xs d =>
  cases (show u=jV a from rx);obtain⟨_,_,_,n,_,f⟩:=(show jW X.prog X.w H s.heap a (.frz ob (.lst xs)) from I.hok a _ d)
  exact PySem.W.kia_one PySem.W.kitx_list I.kIn ⟨_,f,rfl⟩ e (λz=>nomatch z) h
 | @tup a xs d =>
  cases (show u=jV a from rx);obtain⟨_,_,_,p⟩:=(show jW X.prog X.w H s.heap a (.tup xs) from I.hok a _ d)
  obtain⟨o,f,j,_⟩:=p;exact PySem.W.kia_one PySem.W.kitx_tuple I.kIn ⟨o,f,j⟩ e (λz=>nomatch z) h
 | @dK a g d =>
  cases (show u=jV a from rx);obtain⟨_,_,r,_,p⟩:=(show jW X.prog X.w H s.heap a (.dK g) from I.hok a _ d)
  obtain⟨o,es,l,f,j,_⟩:=p;exact PySem.W.kia_one PySem.W.kitx_dict I.kIn ⟨o,f,j.1⟩ e (λz=>nomatch z) h
 | @dT a g d =>
  cases (show u=jV a from rx);obtain⟨_,_,xs,_,o,es,l,f,j,_⟩:=(show jW X.prog X.w H s.heap a (.dT g) from I.hok a _ d)
  exact PySem.W.kia_one PySem.W.kitx_dict I.kIn ⟨o,f,j.1⟩ e (λz=>nomatch z) h
 | @ins a C v fs d cl ha hn k m =>
  cases (show u=jV a from rx);obtain⟨B,O,_⟩:=u5 I.hok d;obtain⟨D,J,_⟩:=O.look;exact PySem.W.kia_one (PySem.W.kitx_own (cl.get _) cl.hd ha hn k m) I.kIn J e (λz=>nomatch z) h
end
end L2
namespace L2
open PySem PySem.Spec PyProof.Rows
structure za (k:Nat) (A:zZ):Prop where
 hd:A.handled=none
 dp:A.depth+3 * k+5 < zFk
 un:A.units+16 * k+200 < QO
theorem za.mono {j k:Nat}{A:zZ} (r:za k A) (h:j <= k):za j A:=⟨r.hd,by have:=r.dp;omega,by have:=r.un;omega⟩
theorem za.deeper {k:Nat}{A:zZ} (r:za (k+1) A) (env:Env):za k (A.deeper env) :=
 ⟨r.hd,by have:=r.dp;show A.depth+1+3 * k+5 < _;omega,by have:=r.un;show A.units+3+16 * k+200 < _;omega⟩
theorem zBb {A:zZ}{C:zA}{us:List zB}{a:List (Str×zB)}:(A.under (.builtin "type.__call__" ⟨.ref C::us,a⟩)).depth=A.depth+1:=by
 first | rfl | simp[uG,Code.weight,Code.isCreation,Code.isGuard,Code.isCaller,UN,Yd,guardIds]
theorem zE1 {A:zZ}{C:zA}{us:List zB}{a:List (Str×zB)}:(A.under (.builtin "type.__call__" ⟨.ref C::us,a⟩)).units=A.units+1:=by
 first | rfl | simp[uG,Code.cUnits,UN,Yd]
theorem za.make {k:Nat}{A:zZ} (r:za (k+1) A) (C:zA) (us:List zB) (a:List (Str×zB)):za k (A.under (.builtin "type.__call__" ⟨.ref C::us,a⟩)) :=
 ⟨r.hd,by have:=r.dp;rw[zBb];omega,by have:=r.un;rw[zE1];omega⟩
theorem za.depth {k:Nat}{A:zZ} (r:za k A):A.depth < zFk:=by have:=r.dp;omega
theorem za.units {k:Nat}{A:zZ} (r:za k A):A.units+64 < QO:=by have:=r.un;omega
theorem za.units0 {k:Nat}{A:zZ} (r:za k A):A.units < QO:=by have:=r.un;omega
noncomputable def KC:TA:=λ_ H Q=>Q [] H
noncomputable def Uy (a:TE) (b:TA):TA:=λσ H Q=>a σ H λx c=>b σ c λxs d=>Q (x::xs) d
section
variable {X:Cx}{e:zF}{es:List zF}{te:TE}{t:TA}{pos:Pos}
theorem KP:PA X [] KC:=λ_ _ _ _ H Q I h=>Calls.spliced_nil ⟨[],H,I,.nil,h⟩
theorem vD (ha:PE X e te) (b:PA X es t) (c:zn (e::es) X.env=(false,eval e X.env)::zn es X.env:=by rfl):PA X (e::es) (Uy te t):=by
 intro pos a s σ H Q I h;rw[c];show wpAny _ _ (spliced ((false,eval e X.env)::ja pos (zn es X.env))) _ _ s;refine Calls.spliced_cons (thn (ha a s σ H _ I h) λu s1 ⟨x,d,f,g,i⟩=>?_);exact thn (b pos a s1 σ d _ f i) λus s2 ⟨xs,j,k,l,m⟩=>⟨x::xs,j,k,.cons g l,m⟩
noncomputable def Wm (t:TA):TE:=λσ H Q=>t σ H λxs a=>xs.length <= zV/\∀ p,a p=none->Q (.ref p) (upd a p (.tup xs))
noncomputable def UK (t:TA):TE:=λσ H Q=>t σ H λxs a=>xs.length <= zV/\∀ p,a p=none->Q (.ref p) (upd a p (.lst xs))
theorem zEB {x1} (h:PA X es t):PE X (.Tuple es x1 pos) (Wm t):=by
 intro a s σ H Q I f;refine wpAny_Tuple_spliced (thn (h pos a s σ H _ I f) λus s1 ⟨xs,c,d,r,z,q⟩=>⟨by rw[<- r.length];exact z,?_⟩);have g:c s1.heap.objs.size=none:=d.hok.fresh (zl _);refine⟨.ref s1.heap.objs.size,upd c s1.heap.objs.size (.tup xs),d.laid (t':=s1.toks) (λb u e=>jd _ e) (zl _) ?_,rfl,q _ g⟩;exact⟨z,us,r,⟨_,yQ _ rfl,rfl,_,rfl⟩⟩
theorem Wu (h:PA X es t):PE X (.List es pos) (UK t):=by
 intro a s σ H Q I f;refine wpAny_List_spliced (thn (h pos a s σ H _ I f) λus s1 ⟨xs,c,d,r,z,q⟩=>⟨by rw[<- r.length];exact z,?_⟩);have g:c s1.heap.objs.size=none:=d.hok.fresh (zl _);refine⟨.ref s1.heap.objs.size,upd c s1.heap.objs.size (.lst xs),d.laid (t':=s1.toks) (λb u e=>jd _ e) (zl _) ?_,rfl,q _ g⟩;exact⟨z,us,0,r,yQ _ rfl⟩
end
noncomputable abbrev Sp:=List V->Hp->VK->XK->Prop
noncomputable abbrev CXT:=List Env->Hp->zD->XK->zB->zD->Prop
structure Z5 (P:zW) (w:zR) (K:PySem.W.Frag) (mg:Str->Option zB) (base:zJ) (A:zZ) (outer:List Env) (s:zD) (H:Hp):Prop where
 frames:A.frames=some outer
 mod:Mod K mg base
 bs:∀ b o,base.get? b=some o->s.heap.get? b=some o/\H b=none
 bsz:base.objs.size <= s.heap.objs.size
 funs:s.heap.FunFrames base outer
 frf:∀ b∈frs outer,H b=none
 hok:HOk P w H s.heap
 bare:y8 s.gens
noncomputable def CE (outer:List Env) (P:zW) (w:zR) (H:Hp) (s:zD) (Q:VK) (u:zB) (s':zD):Prop :=
 ∃ v a,s'.os=s.os/\y8 s'.gens/\Un (frs outer) [] H a s.heap s'.heap/\HOk P w a s'.heap/\zY v u/\Q v a
noncomputable def CR (CX:CXT) (outer:List Env) (P:zW) (w:zR) (H:Hp) (s:zD) (Q:VK) (E:XK) (r:Result) (s':zD):Prop :=
 match r with
 | .ok (.ret u)=>CE outer P w H s Q u s'
 | .ok _=>False
 | .error e=>CX outer H s E e s'
structure zj (P:zW) (w:zR) (K:PySem.W.Frag) (mg:Str->Option zB) (base:zJ) (CX:CXT) (k:Nat) (f:zA) (fd:jU) (ps:List Str) (sp:Sp):Prop where
 len:∀ vs H Q E,sp vs H Q E->vs.length=ps.length
 run:∀ (A:zZ) (outer:List Env) (s:zD) (H:Hp) (args:Args) (us:List zB) (vs:List V) (Q:VK) (E:XK),za k A->Z5 P w K mg base A outer s H->(0 < s.toks\/∃ p∈ps,fd.scope.names.lookup p=some .local)->Qx s fd args (ps.zip us)->zS vs us->sp vs H Q E ->
  codeAny (zN P w) A (.call (.ref f) args) (CR CX outer P w H s Q E) s
theorem zj.imp {P:zW}{w:zR}{K:PySem.W.Frag}{mg:Str->Option zB}{base:zJ}{CX:CXT}{k:Nat}{f:zA}{fd:jU}{ps:List Str}{sp b:Sp} (F:zj P w K mg base CX k f fd ps sp)
  (h:∀ a H Q E,b a H Q E->sp a H Q E):zj P w K mg base CX k f fd ps b :=
 ⟨λa H Q E q=>F.len a H Q E (h _ _ _ _ q),λA outer s H args us a Q E c d e g i j=>F.run A outer s H args us a Q E c d e g i (h _ _ _ _ j)⟩
theorem Z5.make {P:zW}{w:zR}{K:PySem.W.Frag}{mg:Str->Option zB}{base:zJ}{A:zZ}{outer:List Env}{s:zD}{H:Hp} (e:Z5 P w K mg base A outer s H) (C:zA) (us:List zB) (a:List (Str×zB)) :
  Z5 P w K mg base (A.under (.builtin "type.__call__" ⟨.ref C::us,a⟩)) outer s H:=⟨by first | exact e.frames | (simpa [uG,Code.envs,Yd,pushEnvs] using e.frames),e.mod,e.bs,e.bsz,e.funs,e.frf,e.hok,e.bare⟩
section
variable {X:Cx}{pins:List (zA×Obj)}{σ:St}{H:Hp}{s s':zD}
theorem Inv.env0 (I:Inv X pins σ H s):Z5 X.prog X.w X.K X.mg X.base X.A X.stack s H :=
 ⟨I.ok.frames,I.ok.mod,I.bs,zx I.ok.bsz I.sz,I.stack,I.stkFree,I.hok,I.bare⟩
theorem Inv.after {Q:VK}{u:zB} (I:Inv X pins σ H s) (h:CE X.stack X.prog X.w H s Q u s') (c:0 < s'.toks):EP X pins σ Q u s':=by
 obtain⟨v,e,os,bare,un,hok,r,q⟩:=h;obtain⟨f,g,d,t,a⟩:=s';obtain rfl:a=s.os:=os;exact⟨v,e,I.call (h':=f) (g':=g) (d':=d) (t':=t) (ch:=[]) un hok bare (λb z=>absurd z (by simp)) c,r,q⟩
end
noncomputable def Jt (sp:Sp) (a:List V) (E:XK) (t:TA):TE:=λσ H Q=>t σ H λb c=>sp (b++a) c Q E
noncomputable def qY (K:PySem.W.Frag) (fd:jU) (ps:List Str) (a:List zB):Prop :=
 ∀ (s:zD) (us:List zB),K.In s.heap->(us++a).length=ps.length->Qx s fd ⟨us,[]⟩ (ps.zip (us++a))
theorem qY.all {K:PySem.W.Frag}{fd:jU}{ps:List Str} (h:∀ us:List zB,us.length=ps.length->bindArgs fd ⟨us,[]⟩=pure (ps.zip us)):qY K fd ps []:=λs us _ a=>by
 rw[jP] at a ⊢;exact .of_eq (h us a)
noncomputable def yF (CX:CXT) (X:Cx) (E:XK):Prop:=∀ (a:List (zA×Obj)) (σ:St) (H:Hp) (s:zD) (e:zB) (s':zD),Inv X a σ H s->CX X.stack H s E e s'->X.xe e s'
section
variable {X:Cx}{CX:CXT}{k:Nat}{f C:zA}{fd:jU}{ps:List Str}{sp:Sp}{dvs:List V}{ds:List zB}{E:XK}{x m:Str}{p pos apos:Pos}{e o:zF}{es:List zF}{ta:TE}{t:TA}
theorem Vu {a:List (zA×Obj)}{σ:St}{H:Hp}{s:zD}{Q:VK}{us:List zB}{c:List V} (F:zj X.prog X.w X.K X.mg X.base CX k f fd ps sp) (i:za k X.A) (j:qY X.K fd ps ds) (hd:zS dvs ds) (l:yF CX X E)
  (I:Inv X a σ H s) (r:zS c us) (h:sp (c++dvs) H Q E):wpAny (zN X.prog X.w) X.A (call (.ref f) us) (EP X a σ Q) X.xe s:=by
 have g:zS (c++dvs) (us++ds):=r.append hd;have q:(us++ds).length=ps.length:=by rw[<- g.length];exact F.len _ _ _ _ h
 refine Xt (x8 (ua (n:=1) I.tk (F.run X.A X.stack s H ⟨us,[]⟩ (us++ds) (c++dvs) Q E i I.env0 (.inl I.tk) (j s us I.kIn q) g h)) λr s' ⟨d,b⟩=>?_);cases r with
 | error e=>exact l a σ H s e s' I b
 | ok fl =>
  cases fl with
  | ret u=>exact I.after b d
  | next=>exact zd b
  | brk=>exact zd b
  | cont=>exact zd b
theorem Vf (F:zj X.prog X.w X.K X.mg X.base CX k f fd ps sp) (g:za k X.A) (i:Gl X x) (j:X.mg x=some (.ref f)) (l:PySem.W.keepIn X.K (.ref f)=true) (n:qY X.K fd ps ds) (hd:zS dvs ds) (u:yF CX X E)
  (ha:PA X (e::es) t) (b:(x == ("__debug__" : Str))=false:=by decide) (v:zn (e::es) X.env=(false,eval e X.env)::zn es X.env:=by rfl) (c:(ja pos (zn es X.env)).any (·.1)=false:=by rfl) :
  PE X (.Call (.Name x p) (e::es) [] pos) (Jt sp dvs E t):=by
 intro a s σ H Q I h;refine kQ (kF I i j ?_ b);refine PySem.W.callWith_K (h₀:=X.base) I.ok.mod.kin l (thn (ha pos a s σ H _ I h) λus s1 ⟨y,z,d,r,q⟩=>⟨d.kIn,?_⟩) v c;exact Vu F g n hd u d r q
theorem zAq (F:zj X.prog X.w X.K X.mg X.base CX k f fd ps sp) (c:za k X.A) (d:Gl X x) (g:X.mg x=some (.ref f)) (i:PySem.W.keepIn X.K (.ref f)=true) (j:qY X.K fd ps ds) (hd:zS dvs ds) (l:yF CX X E)
  (a:(x == ("__debug__" : Str))=false:=by decide):PE X (.Call (.Name x p) [] [] pos) (Jt sp dvs E KC):=by
 intro b s σ H Q I h;refine kQ (kF I d g ?_ a);exact PySem.W.callWith_K0 I.kIn i (Vu (us:=[]) F c j hd l I .nil h)
structure Mk (K:PySem.W.Frag) (C f:zA):Prop where
 makes:PySem.W.makesIn K C=true
 init:PySem.W.findIn K (.ref C) "__init__" = some (some (.ref f))
 fn:PySem.W.isFn K (.ref f)=true
 kp:PySem.W.keepIn K (.ref C)=true
end
section
variable {X:Cx}{CX:CXT}{k:Nat}{f C:zA}{fd:jU}{ps ks:List Str}{sp:Sp}{E:XK}{x m:Str}{p pos apos kpos:Pos}{e o:zF}{es:List zF}{kws:List ZW}{te ta:TE}{t tk:TA}{nm:Option Str}
structure zGi (K:PySem.W.Frag) (fd:jU) (ps ks:List Str) (g:List zB->List zB->List zB) (gV:List V->List V->List V):Prop where
 to:∀ (s:zD) (us ws:List zB),K.In s.heap->(g us ws).length=ps.length->Qx s fd ⟨us,ks.zip ws⟩ (ps.zip (g us ws))
 rel:∀ {vs:List V}{us:List zB}{zs:List V}{ws:List zB},zS vs us->zS zs ws->zS (gV vs zs) (g us ws)
variable {g:List zB->List zB->List zB}{gV:List V->List V->List V}
end
structure jF (N P:List Str) (sc:qW):Prop where
 kind:sc.kind=.function
 co:sc.isCoroutine=false
 gen:sc.isGenerator=false
 nd:N.Nodup
 pre:N.take P.length=P
 par:∀ x∈P,sc.names.lookup x=some .local\/sc.names.lookup x=some .cell
 nofree:∀ y∈sc.names,y.2≠.free
theorem YQ {kindOf:Str->Option Z1}{x:Str}:∀ {binds:List (Str×zB)}{m:Str->Option zB},(∀ v,(x,v)∉binds)->bindL kindOf binds m x=m x
 | [],_,_=>rfl
 | (n,v)::r,m,h=>by
  unfold bindL;rw[YQ λw hw=>h w (qD _ hw)];split
  ·have:x≠n:=by rintro rfl;exact h v qT
   simp[this]
  ·rfl
theorem uQ {kindOf:Str->Option Z1}{x:Str}:∀ {binds:List (Str×zB)}{m:Str->Option zB},(∀ v,(x,v)∉binds)->bindC kindOf binds m x=m x
 | [],_,_=>rfl
 | (n,v)::r,m,h=>by
  unfold bindC;rw[uQ λw hw=>h w (qD _ hw)];split
  ·rfl
  ·have:x≠n:=by rintro rfl;exact h v qT
   simp[this]
theorem VV {kindOf:Str->Option Z1}{x:Str}{v:zB}:∀ {P:List Str}{a:List zB}{i:Nat}{m:Str->Option zB},P.Nodup->P[i]? = some x->a[i]? = some v->kindOf x=some .local ->
  bindL kindOf (P.zip a) m x=some v
 | [],_,_,_,_,h,_,_=>by simp at h
 | _::_,[],_,_,_,_,h,_=>by simp at h
 | p::P,w::a,0,m,nd,b,c,d=>by
  simp at b c;subst b;subst c;show bindL kindOf ((p,w)::P.zip a) m p=_;unfold bindL;rw[YQ λv e=>(List.nodup_cons.mp nd).1 (uO e).1,if_pos d];simp
 | p::P,w::a,i+1,m,nd,b,c,d=>by
  show bindL kindOf ((p,w)::P.zip a) m x=_;unfold bindL;exact VV (i:=i) (List.nodup_cons.mp nd).2 (by simpa using b) (by simpa using c) d
theorem VY {kindOf:Str->Option Z1}{x:Str}{v:zB}:∀ {P:List Str}{a:List zB}{i:Nat}{m:Str->Option zB},P.Nodup->P[i]? = some x->a[i]? = some v->kindOf x≠some .local ->
  bindC kindOf (P.zip a) m x=some v
 | [],_,_,_,_,h,_,_=>by simp at h
 | _::_,[],_,_,_,_,h,_=>by simp at h
 | p::P,w::a,0,m,nd,b,c,d=>by
  simp at b c;subst b;subst c;show bindC kindOf ((p,w)::P.zip a) m p=_;unfold bindC;rw[uQ λv e=>(List.nodup_cons.mp nd).1 (uO e).1,if_neg d];simp
 | p::P,w::a,i+1,m,nd,b,c,d=>by
  show bindC kindOf ((p,w)::P.zip a) m x=_;unfold bindC;exact VY (i:=i) (List.nodup_cons.mp nd).2 (by simpa using b) (by simpa using c) d
noncomputable def yH (N:List Str) (a:List V):St:=a.map some++zb (N.length - a.length) none
noncomputable def jx (CX:CXT) (P:zW) (w:zR) (K:PySem.W.Frag) (mg:Str->Option zB) (base:zJ) (N:List Str) (qual:Str) (scope:qW) (f:zA) (b:zB) (A:zZ) (outer:List Env) (s:zD) (H:Hp) (E:XK):Cx where
 prog:=P
 w:=w
 K:=K
 mg:=mg
 base:=base
 A:=A.deeper (qF qual scope s.heap.objs.size f b)
 N:=N
 s₀:=s
 H₀:=H
 env:=qF qual scope s.heap.objs.size f b
 outer:=outer
 stack:=qF qual scope s.heap.objs.size f b::outer
 ex:=[]
 calm:=true
 fn:=λ_=>true
 pn:=[]
 xe:=λe s'=>wpAny (zN P w) (A.deeper (qF qual scope s.heap.objs.size f b)) (K8 (qF qual scope s.heap.objs.size f b) e) (λ_ a=>CX outer H s E e a) (λc a=>CX outer H s E c a) s'
theorem Yt {a:qW}{n:Nat}{x:Str} (h:a.names.lookup x=some .cell):∃ c,(xH n a.names []).lookup x=some c:=by
 have q:=PySem.W.cellsFrom_some a.names n [] (.inl h);exact Option.isSome_iff_exists.mp q
theorem vW {M:yT}{A:zZ}{E:zB->zD->Prop}{s₀:zD}{env:Env} (f:Str×zB->PUnit->Sem (ForInStep PUnit)) (C:∀ n v u,f (n,v) u=(do storeName env n v;pure (.yield ⟨⟩))) (B:env.scope.kind=.function) :
  ∀ (binds:List (Str×zB)) (m p:Str->Option zB) (s:zD) (Q:PUnit->zD->Prop),Kl s₀ env.locals m env.cells p s ->
   (∀ x∈binds,env.kindOf x.1=some .local\/(env.kindOf x.1=some .cell/\(env.cells.lookup x.1).isSome=true)) ->
   (∀ s',Kl s₀ env.locals (bindL env.kindOf binds m) env.cells (bindC env.kindOf binds p) s'->((0 < s.toks\/∃ b∈binds,env.kindOf b.1=some .local)->0 < s'.toks)->Q ⟨⟩ s')->wpAny M A (forIn binds ⟨⟩ f) Q E s
 | [],m,p,s,Q,x,_,h=>by
  rw[List.forIn_nil];exact wpAny_pure (h s x λz=>z.elim id λ⟨b,q,_⟩=>absurd q (by simp))
 | (n,v)::r,m,p,s,Q,x,a,h=>by
  rw[List.forIn_cons,C];have H:∀ y∈r,env.kindOf y.1=some .local\/(env.kindOf y.1=some .cell/\(env.cells.lookup y.1).isSome=true):=λy J=>a y (qD _ J);rcases a (n,v) qT with j | ⟨j,l⟩
  ·refine wpAny_bind (wpAny_bind (WB j x.toInCall.ns (λh' D t=>wpAny_pure (vW f C B r (λy=>if y=n then some v else m y) p _ Q ⟨⟨?_,D,λb o e=>?_,x.toInCall.fresh⟩,λk c l=>?_,x.apart,x.above⟩ H λd g F=>h d ?_ λ_=>F (.inl (qQ _)))) (by rw[B];rfl)))
   ·obtain⟨I,tk,rfl⟩:=x.toInCall.same;exact⟨h',_,rfl⟩
   ·exact t.extBut b o (z5 (zv (ze e) x.toInCall.fresh)) (x.toInCall.keep b o e)
   ·exact (x.cell k c l).sameBut t (ZV (x.above k c (PySem.mem_of_lookup l)))
   ·unfold bindL bindC;rw[if_pos j,if_pos j];exact g
  ·obtain⟨c,l⟩:=Option.isSome_iff_exists.mp l;have i:¬ env.kindOf n=some .local:=by rw[j];decide
   refine wpAny_bind (wpAny_bind (qg (n:=s.toks) (zl _) (stCC x B j l λs' K G=>wpAny_pure (vW f C B r m _ s' Q K H λd g F=>h d ?_ λz=>F ?_))))
   ·unfold bindL bindC;rw[if_neg i,if_neg i];exact g
   ·rcases z with z | ⟨b,q,w⟩
    ·exact .inl (zv z G)
    ·rcases List.mem_cons.mp q with rfl | q
     ·exact absurd w i
     ·exact .inr ⟨b,q,w⟩
theorem u6 {M:yT}{A:zZ}{E:zB->zD->Prop}{s:zD}{scope:qW}{vC:zA}{binds:List (Str×zB)}{qual:Str}{d:Option zA}{code:zB}{a:zA}{Q:Env->zD->Prop}
  (i:scope.kind=.function)
  (f:∀ x∈binds,scope.names.lookup x.1=some .local\/(scope.names.lookup x.1=some .cell/\((xH (s.heap.objs.size+1) scope.names []).lookup x.1).isSome=true))
  (j:∀ env,env=newEnv scope s.heap.objs.size vC (xH (s.heap.objs.size+1) scope.names []) qual d code none a ->
   ∀ s',Kl s env.locals (bindL env.kindOf binds λ_=>none) env.cells (bindC env.kindOf binds λ_=>none) s'->((0 < s.toks\/∃ b∈binds,scope.names.lookup b.1=some .local)->0 < s'.toks)->Q env s') :
  wpAny M A (uc scope vC [] binds qual d code none a) Q E s:=by
 simp only[uc,Option.isSome_none,zDi,if_false];refine wpAny_bind (wpAny_alloc ?_);refine wpAny_bind (wpAny_layCells _ (λname kind cells=>by cases g:kind == xy<;>simp[g]) _ _ _ _ ?_);have ok:=cellsFrom_ok scope.names (s.heap.push { cls:=.type "frame",data:=.dict #[] }) (s.heap.objs.size+1) [] ⟨λ_ _ h=>(nomatch h),zEM⟩ (by rw[x9];exact zl _);rw[x9] at ok;rw[show ({ s with heap:=s.heap.push { cls:=.type "frame",data:=.dict #[] } }:zD).heap.objs.size=s.heap.objs.size+1 from x9 ..];refine wpAny_bind (vW (s₀:=s) (env:=newEnv scope s.heap.objs.size vC (xH (s.heap.objs.size+1) scope.names []) qual d code none a)
  _ (λ_ _ _=>rfl) i binds (λ_=>none) (λ_=>none) _ _
  ⟨⟨⟨_,_,rfl⟩,(Heap.Ns.new s.heap (.type "frame")).keeps (pushCells_keeps _ _),λb o e=>pushCells_keeps _ _ b o (jd _ e),zl _⟩,
   λn c k=>(ok.empty n c (PySem.mem_of_lookup k)).1,ok.apart,λn c h=>(ok.empty n c h).2⟩
  f λs' x l=>wpAny_pure (j _ rfl s' x l))
theorem zFo {CX:CXT}{P:zW}{w:zR}{K:PySem.W.Frag}{mg:Str->Option zB}{base:zJ}{N ps:List Str}{qual:Str}{scope:qW}{f:zA}{t:zB}{A:zZ}{outer:List Env}{s s1:zD}{H:Hp}{E:XK}{us:List zB}{j:List V}
  (S:jF N ps scope) (hd:A.handled=none) (g:Z5 P w K mg base A outer s H) (J:j.length=ps.length) (r:zS j us)
  (x:Kl s s.heap.objs.size (bindL (qF qual scope s.heap.objs.size f t).kindOf (ps.zip us) λ_=>none) (xH (s.heap.objs.size+1) scope.names []) (bindC (qF qual scope s.heap.objs.size f t).kindOf (ps.zip us) λ_=>none) s1) (F:0 < s1.toks) :
  Inv (jx CX P w K mg base N qual scope f t A outer s H E) [] (yH N j) H s1:=by
 have G:ps.length <= N.length:=by have:=congrArg ZX S.pre;rw[qk] at this;omega
 obtain⟨B,tk,rfl,C⟩:=x.done;have l:∀ b:zA,b∉(jx CX P w K mg base N qual scope f t A outer s H E).ex:=λb z=>absurd (show b∈([]:List zA) from z) (by simp);refine⟨⟨g.mod,S.kind,rfl,rfl,zl _,λy z c B d=>?_,λy m=>?_,λy c _ h=>?_,λ_=>hd,Around.frames_deeper g.frames,.inr ⟨rfl,rfl⟩,λb z=>absurd z (l b),g.bs,g.bsz,λb _ _=>l b,λb z=>absurd z (l b),g.funs,g.frf⟩,
  rfl,g.bare,Un.kept C,⟨_,x.toInCall.ns,λi y v B d L=>?_⟩,λy c h=>⟨_,x.cell y c h⟩,g.hok.fresh (zl _),λy c h=>?_,λp hp=>absurd (show p∈([]:List (zA×Obj)) from hp) (by simp),g.hok.kept C,?_,F⟩
 ·exact name_of_addr x.apart (PySem.mem_of_lookup B) (PySem.mem_of_lookup d)
 ·have m:scope.names.lookup y=some .cell\/scope.names.lookup y=some .free:=m;rcases m with m | m
  ·exact Yt m
  ·exact absurd rfl (S.nofree _ (PySem.mem_of_lookup m))
 ·exact VD (x.above y c (PySem.mem_of_lookup h))
 ·have hi:i < j.length:=by
   unfold yH at d;by_cases hi:i < j.length
   ·exact hi
   ·rw[yv (by simpa using hi)] at d;rw[XT] at d;split at d<;>cases d
  have ha:j[i]? = some v:=by
   unfold yH at d;rw[qe (by simpa using hi),ZL] at d;cases e:j[i]? with
   | none=>rw[e] at d;cases d
   | some a=>rw[e] at d;cases d;rfl
  obtain⟨u,D,I⟩:=r.get ha;have hp:ps[i]? = some y:=by
   rw[<- S.pre,List.getElem?_take_of_lt (by omega)];exact B
  have o:ps.Nodup:=by rw[<- S.pre];exact S.nd.sublist (List.take_sublist _ _)
  refine⟨u,I,?_⟩;rcases S.par y (ZG hp) with k | k
  ·exact .inl ⟨k,VV o hp D k⟩
  ·obtain⟨c,e⟩:=Yt (n:=s.heap.objs.size+1) k;refine .inr ⟨.inl k,c,e,?_⟩;have q:=x.cell y c e;rw[VY o hp D (by show scope.names.lookup y≠_;rw[k];decide)] at q;exact q
 ·exact g.hok.fresh (VD (x.above y c (PySem.mem_of_lookup h)))
 ·unfold yH;show _=N.length;rw[yc,j5,zE9];omega
theorem Yf {CX:CXT}{P:zW}{w:zR}{K:PySem.W.Frag}{mg:Str->Option zB}{base:zJ}{k:Nat}{f:zA}{name qual:Str}{c:Arguments}{body:List zT}{scope:qW}{X kV z pm a ct oc:zB}{Y od:Option zA}
  {G:Array (Option zB)}{N ps:List Str}{sp:Sp} (lk:K.lookup f=some ⟨oc,od,.func (PySem.W.fnOf name qual c body scope X kV z pm Y a ct),G⟩) (L:PySem.W.codeIn K a qual=true) (S:jF N ps scope)
  (len:∀ d H Q E,sp d H Q E->d.length=ps.length)
  (j:∀ (A:zZ) (outer:List Env) (s:zD) (H:Hp) (d:List V) (Q:VK) (E:XK),za k (A.deeper (qF qual scope s.heap.objs.size f a))->sp d H Q E ->
   ∃ t,PSs (jx CX P w K mg base N qual scope f a A outer s H E) body t/\t { nx:=λ_ h=>Q .non h,rt:=Q } (yH N d) H) :
  zj P w K mg base CX (k+1) f (PySem.W.fnOf name qual c body scope X kV z pm Y a ct) ps sp:=by
 refine⟨len,λA outer s H args us d Q E M B O hb r C=>?_⟩;have Z:=len _ _ _ _ C;have KX:K.In s.heap:=B.mod.kin.keeps λb o e=>(B.bs b o e).1;have R:s.heap.NoLimit:=B.mod.nolimit.keeps λb o e=>(B.bs b o e).1;have l:∀ y∈ps.zip us,scope.names.lookup y.1=some .local\/(scope.names.lookup y.1=some .cell/\((xH (s.heap.objs.size+1) scope.names []).lookup y.1).isSome=true):=λ⟨n,v⟩ hy=>by
  rcases S.par n (uO hy).1 with q | q
  ·exact .inl q
  ·exact .inr ⟨q,PySem.W.cellsFrom_some _ _ _ (.inl q)⟩
 refine codeAny_call_function M.depth (KX _ _ lk) rfl S.co S.gen rfl (PySem.W.codeRec_of KX L) (hb _ _ _ _ ?_);refine u6 S.kind l λenv he s1 x D=>?_;subst he;refine⟨R.keeps x.toInCall.keep,codeAny_func ?_⟩;obtain⟨t,ht,hq⟩:=j A outer s H d Q E (M.deeper _) C;have I:Inv (jx CX P w K mg base N qual scope f a A outer s H E) [] (yH N d) H s1:=zFo S M.hd B Z r x (D (O.imp id λ⟨p,hp,T⟩=>by
  obtain⟨i,hi,e⟩:=List.mem_iff_getElem.mp hp;have hu:i < us.length:=by rw[<- r.length,Z];exact hi
  exact⟨(p,us[i]),List.mem_iff_getElem.mpr ⟨i,by rw[List.length_zip];omega,by rw[List.getElem_zip,e]⟩,T⟩))
 refine wpAny_mono (ht [] s1 (yH N d) H _ I hq) (λfl s' m=>?_) λe s' m=>m;have F:∀ {g:St}{h:Hp}{v:V}{u:zB},Inv (jx CX P w K mg base N qual scope f a A outer s H E) [] g h s'->zY v u->Q v h->CE outer P w H s Q u s' :=
  λ{g h v u} J U q=>⟨v,h,J.os,J.bare,J.base,J.hok,U,q⟩
 cases fl with
 | ret u =>
  obtain⟨v,g,h,J,U,q⟩:=m;exact F J U q
 | next =>
  obtain⟨g,h,J,q⟩:=m;exact F (v:=V.non) (u:=jt) J rfl q
 | brk =>
  obtain⟨_,_,_,q⟩:=m;exact zd q
 | cont =>
  obtain⟨_,_,_,q⟩:=m;exact zd q
end L2
namespace L2
open PySem PySem.Spec PyProof.Rows
section
variable {X:Cx}{x:Str}{p pos:Pos}{e:zF}{es:List zF}{t:TA}{id T:String}{r:List V->Hp->VK->Prop}
noncomputable def tCB (r:List V->Hp->VK->Prop) (t:TA):TE:=λσ H Q=>t σ H λa b=>r a b Q
theorem vy (d:jo X (.builtin id) r) (f:Gl X x) (g:X.mg x=none) (i:jk x=some (.builtin id)) (ha:PA X (e::es) t) (hn:x ≠ "__name__" := by decide) (b:(x == ("__debug__" : Str))=false:=by decide)
  (j:zn (e::es) X.env=(false,eval e X.env)::zn es X.env:=by rfl) (c:(ja pos (zn es X.env)).any (·.1)=false:=by rfl):PE X (.Call (.Name x p) (e::es) [] pos) (tCB r t):=by
 intro a s σ H Q I h;refine kQ (Je I f g i ?_ hn b);exact zGL (thn (ha pos a s σ H _ I h) λus s1 ⟨k,l,m,n,o⟩=>d a s1 σ l k us Q m n o) j c
theorem zFI (d:jo X (.type T) r) (f:Gl X x) (g:X.mg x=none) (i:jk x=some (.type T)) (ha:PA X (e::es) t) (hn:x ≠ "__name__" := by decide) (b:(x == ("__debug__" : Str))=false:=by decide)
  (j:zn (e::es) X.env=(false,eval e X.env)::zn es X.env:=by rfl) (c:(ja pos (zn es X.env)).any (·.1)=false:=by rfl):PE X (.Call (.Name x p) (e::es) [] pos) (tCB r t):=by
 intro a s σ H Q I h;refine kQ (Je I f g i ?_ hn b);exact uh (thn (ha pos a s σ H _ I h) λus s1 ⟨k,l,m,n,o⟩=>d a s1 σ l k us Q m n o) j c
end
end L2
namespace HT
open PySem PyProof.Rows
section
variable {prog:zW}{w:zR}{A:zZ}{E:zB->zD->Prop}{s:zD}
theorem zCE {t b:zA}{d a:List zB}{Q:zB->zD->Prop} (q:IsTup s.heap t d.toArray) (r:IsTup s.heap b a.toArray) (k:d≠[])
  (u:a=[]->Q (.ref t) s) (v:a≠[]->Q (.ref s.heap.objs.size) { s with heap:=s.heap.push { cls:=.type "tuple",data:=.seq (d++a).toArray } })
  (hsz:d.length+a.length <= zV):wpAny (zN prog w) A (qC .Add (.ref t) (.ref b)) Q E s:=by
 obtain⟨⟨cls,l,data,m⟩,j,o,n,hd⟩:=id q;obtain⟨⟨p,f,data2,g⟩,c,h,n2,i⟩:=id r;simp only at o hd h i;subst o hd h i;have e:d.toArray++a.toArray=(d++a).toArray:=by simp
 by_cases hw:a=[]
 ·exact concat_meets ⟨_,j,rfl⟩ ⟨_,c,rfl⟩ WU seq_tuple_add PySem.F.slot_tuple_add PySem.F.entry_tuple_add (PySem.F.args_tuple_add_2 _ _)
   (tuple_addW1 t b d.toArray a.toArray n n2 l f m g (by simpa using k) (by simp[hw])) ⟨j,c,u hw⟩
 ·refine concat_meets ⟨_,j,rfl⟩ ⟨_,c,rfl⟩ WU seq_tuple_add PySem.F.slot_tuple_add PySem.F.entry_tuple_add (PySem.F.args_tuple_add_2 _ _)
   (tuple_addW2 t b d.toArray a.toArray n n2 l f m g (by simpa using k) (by simpa using hw) (by rw[ji,ji];exact hsz)) ⟨j,c,?_⟩
  rw[e];exact v hw
noncomputable def sIx (n d:Nat):Option Int->Nat
 | none=>d
 | some v=>if v < 0 then (v+(n:Int)).toNat else min v.toNat n
theorem vI (n d:Nat) (hd:d <= n) (o:Option Int):sIx n d o <= n:=by
 cases o with
 | none=>exact hd
 | some v =>
  show (if v < 0 then (v+(n:Int)).toNat else min v.toNat n) <= n;by_cases a:v < 0
  ·rw[if_pos a];omega
  ·rw[if_neg a];exact Nat.min_le_right _ _
theorem KH (v:Int) (n d:Nat):(if v < 0 then max (v+(n:Int)) 0 else min v (n:Int))=((sIx n d (some v):Nat):Int):=by
 show (if v < 0 then max (v+(n:Int)) 0 else min v (n:Int))=(((if v < 0 then (v+(n:Int)).toNat else min v.toNat n):Nat):Int)
 by_cases a:v < 0
 ·simp only[if_pos a];omega
 ·simp only[if_neg a];omega
theorem Ug (lo hi:Option Int) (n:Nat):Y6 lo hi 1 (n:Int)=(((sIx n 0 lo:Nat):Int),((sIx n n hi:Nat):Int)):=by
 have a:¬ ((1:Int) < 0):=by omega
 unfold Y6;simp only[a,if_false];refine Prod.ext ?_ ?_
 ·cases lo with
  | none=>rfl
  | some v=>exact KH v n 0
 ·cases hi with
  | none=>rfl
  | some v=>exact KH v n n
theorem UQ (i j:Nat):KI (i:Int) (j:Int) 1=j - i:=by
 unfold KI;have a:(1:Int) > 0:=by omega
 simp only[a,if_true,zCz];split<;>omega
theorem uL {v:zB}{o:Option Int}{Q:Option Int->zD->Prop} (p:Z2 v o) (h:Q o s):wpAny (zN prog w) A (zGg v) Q E s:=by
 cases p with
 | none=>exact wY h
 | int i t=>exact slicePart_int h
theorem wh {e:zA}{c d:zB}{lo hi:Option Int}{n:Nat}{Q:Int×Int×Nat->zD->Prop} (f:s.heap.IsSliceOf e c d .none) (g:Z2 c lo) (i:Z2 d hi)
  (h:Q (((sIx n 0 lo:Nat):Int),1,sIx n n hi - sIx n 0 lo) s):wpAny (zN prog w) A (zAs (.ref e) (pure (n:Int))) Q E s:=by
 obtain⟨os,a,j,b⟩:=id f;unfold zAs zGH;refine wpAny_bind (wpAny_bind (QI a b (x:=c) rfl (wpAny_bind (QI a b (x:=d) rfl (wpAny_bind (QI a b (x:=.none) rfl (wpAny_pure ?_)))))));refine wpAny_bind (wY ?_);show wpAny _ _ (if ((1:Int) == 0)=true then _ else _) _ _ s;rw[if_neg (by decide)];refine wpAny_bind (uL g (wpAny_bind (uL i (wpAny_bind (wpAny_pure ?_)))));show wpAny _ _ (match Y6 lo hi 1 (n:Int) with | (lo,hi)=>pure (lo,(1:Int),KI lo hi 1)) _ _ s;rw[Ug lo hi n];show wpAny _ _ (pure (((sIx n 0 lo:Nat):Int),(1:Int),KI ((sIx n 0 lo:Nat):Int) ((sIx n n hi:Nat):Int) 1)) _ _ s;rw[UQ];exact wpAny_pure h
theorem zER (xs:Array zB) (i k:Nat):((jA k).filterMap λ(m:Nat)=>xs[((i:Int)+(m:Int) * 1).toNat]?).toArray=((xs.toList.drop i).take k).toArray:=by
 have e:(λ(m:Nat)=>xs[((i:Int)+(m:Int) * 1).toNat]?)=λm=>xs[i+m]? := by
  funext m
  have:((i:Int)+(m:Int) * 1).toNat=i+m:=by omega
  rw[this]
 rw[e];have:=pick_run xs i k;rw[Ws] at this;have a:((λx=>xs[x]?) ∘ λx=>i+x)=λm=>xs[i+m]? := rfl;rw[a] at this;rw[this]
theorem UG {t d:zA}{a:Array zB}{j k:zB}{lo hi:Option Int}{Q:zB->zD->Prop} (c:IsTup s.heap t a) (l:s.heap.IsSliceOf d j k .none) (n:Z2 j lo) (o:Z2 k hi)
  (hw:¬ (sIx a.size 0 lo=0/\sIx a.size a.size hi=a.size))
  (h:Q (.ref s.heap.objs.size) { s with heap:=s.heap.push { cls:=.type "tuple",data:=.seq ((a.toList.drop (sIx a.size 0 lo)).take (sIx a.size a.size hi - sIx a.size 0 lo)).toArray } })
  (hsz:a.size <= zV):wpAny (zN prog w) A (Jq (.ref t) (.ref d)) Q E s:=by
 have b:sizeOk (.seq ((a.toList.drop (sIx a.size 0 lo)).take (sIx a.size a.size hi - sIx a.size 0 lo)).toArray):=by
  show ((a.toList.drop (sIx a.size 0 lo)).take (sIx a.size a.size hi - sIx a.size 0 lo)).toArray.size <= zV;rw[ji,qk,jf,vK];omega
 have r:sIx a.size a.size hi <= a.size:=vI _ _ (zl _) hi;obtain⟨os,e,f,p⟩:=id l;have g:s.TypeIs (.ref d) "slice" := ⟨os,e,f⟩
 unfold Jq
 try with_reducible refine KF ?_
 first | refine wpAny_bind (wpAny_pure ?_) | skip
 refine wpAny_bind (wpAny_sequenceKey c.typeIs (by decide) ?_);refine wpAny_bind (wpAny_callSpecial?_slot (name:=Str.ofString "__getitem__") c.typeIs US
  (wpAny_call_entry US c.typeIs entry_tuple_getitem ?_ (args_tuple_getitem _ _)))
 show wpAny _ _ (zGe (.ref t) >>= _) _ _ s;refine wpAny_bind (tupleItemsOf_ c ?_);refine wpAny_bind (wpAny_typeOf g ?_);rw[if_pos (by decide)];refine wpAny_bind (wh l n o ?_);have i:¬ ((((sIx a.size 0 lo:Nat):Int) == 0 && (1:Int) == 1 && (sIx a.size a.size hi - sIx a.size 0 lo) == a.size)=true):=by
  intro q;rw[jG,jG] at q;have u:((sIx a.size 0 lo:Nat):Int)=0:=eq_of_beq q.1.1;have v:sIx a.size a.size hi - sIx a.size 0 lo=a.size:=eq_of_beq q.2;exact hw ⟨by omega,by omega⟩
 show wpAny _ _ (if (((sIx a.size 0 lo:Nat):Int) == 0 && (1:Int) == 1 && (sIx a.size a.size hi - sIx a.size 0 lo) == a.size)=true then _ else _) _ _ s;rw[if_neg i,zER]
 first
  | exact wpAny_bind (m:=K1 _) (J9 (wpAny_pure ⟨_,rfl,wpAny_pure h⟩) b)
  | exact wpAny_bind (m:=K1 _) (J9 (wpAny_bind (wpAny_pure (wpAny_pure ⟨_,rfl,wpAny_pure h⟩))) b)
  | exact wpAny_bind (wpAny_bind (m:=K1 _) (J9 (wpAny_pure (wpAny_pure ⟨_,rfl,wpAny_pure h⟩)) b))
  | exact wpAny_bind (wpAny_bind (m:=K1 _) (J9 (wpAny_pure ⟨_,rfl,wpAny_pure h⟩) b))
end
end HT
namespace L2
open PySem PySem.Spec PyProof.Rows
noncomputable abbrev TO:=St->Hp->(Option Int->Hp->Prop)->Prop
noncomputable def PO (X:Cx) (e:Option zF) (t:TO):Prop :=
 ∀ (a:List (zA×Obj)) (s:zD) (σ:St) (H:Hp) (Q:Option Int->Hp->Prop),Inv X a σ H s->t σ H Q ->
  wpAny (zN X.prog X.w) X.A (evalPart e X.env) (λu s'=>∃ o b,Inv X a σ b s'/\Z2 u o/\Q o b) X.xe s
noncomputable def zEe:TO:=λ_ H Q=>Q none H
noncomputable def WV (t:TE):TO:=λσ H Q=>t σ H λx a=>∃ i,x=.int i/\Q (some i) a
section
variable {X:Cx}{e:zF}{te:TE}{lo hi:Option zF}{tl th:TO}{pos p2:Pos}
theorem zFS:PO X none zEe:=by
 intro a s σ H Q I h;rw[evalPart_none];exact wpAny_pure ⟨none,H,I,.none,h⟩
theorem zFi (h:PE X e te):PO X (some e) (WV te):=by
 intro a s σ H Q I hw;rw[evalPart_some];refine thn (h a s σ H _ I hw) λu s1 ⟨x,b,c,d,f⟩=>?_;obtain⟨i,rfl,q⟩:=f;obtain⟨t,rfl⟩:=d;exact⟨some i,b,c,.int i t,q⟩
noncomputable def SlR (X:Cx) (r:V->Option Int->Option Int->Hp->VK->Prop):Prop :=
 ∀ (a:List (zA×Obj)) (s:zD) (σ:St) (H:Hp) (x:V) (v b c:zB) (lo hi:Option Int) (d:zA) (Q:VK),Inv X a σ H s->zY x v->s.heap.IsSliceOf d b c .none->Z2 b lo->Z2 c hi->r x lo hi H Q ->
  ∃ T id,qy (.type T) "__getitem__" = pure (some (.builtin id))/\s.TypeIs v T/\wpAny (zN X.prog X.w) X.A (Jq v (.ref d)) (EP X a σ Q) X.xe s
noncomputable def tSl (r:V->Option Int->Option Int->Hp->VK->Prop) (te:TE) (tl th:TO):TE:=λσ H Q=>te σ H λx a=>tl σ a λl b=>th σ b λu c=>r x l u c Q
theorem Wx {r:V->Option Int->Option Int->Hp->VK->Prop} (i:SlR X r) (j:PE X e te) (k:PO X lo tl) (m:PO X hi th):PE X (.Subscript e (.Slice lo hi none p2) pos) (tSl r te tl th):=by
 intro a s σ H Q I h;refine Subscript_ (thn (j a s σ H _ I h) λv s1 ⟨x,n,o,p,t⟩=>?_);refine wpAny_Slice (thn (k a s1 σ n _ o t) λd s2 ⟨l,y,z,B,C⟩=>thn (m a s2 σ y _ z C) λf c ⟨u,g,D,E,F⟩=>?_);rw[evalPart_none];refine wpAny_pure ?_;have G:Inv X a σ g { c with heap:=c.heap.push { cls:=.type "slice",data:=.fields #[d,f,.none] } }:=D.kept (t':=c.toks) λb ob q=>jd _ q;obtain⟨T,id,J,K,L⟩:=i a { c with heap:=c.heap.push { cls:=.type "slice",data:=.fields #[d,f,.none] } } σ g x v d f l u c.heap.objs.size Q G p (zGM ..) B E F;show wpAny (zN X.prog X.w) X.A (subscriptTail e (.Slice lo hi none p2) v (.ref c.heap.objs.size)) (EP X a σ Q) X.xe { c with heap:=c.heap.push { cls:=.type "slice",data:=.fields #[d,f,.none] } };exact tail_any (ops:=[.ref c.heap.objs.size,v]) K J L (by with_unfolding_all rfl)
noncomputable def yS (xs:List V) (lo hi:Option Int):List V:=(xs.drop (HT.sIx xs.length 0 lo)).take (HT.sIx xs.length xs.length hi - HT.sIx xs.length 0 lo)
theorem ud (xs:List V) (lo hi:Option Int):(yS xs lo hi).length <= xs.length:=by
 unfold yS;rw[qk,jf];omega
noncomputable def zCn (K:PySem.W.Frag):V->Option Int->Option Int->Hp->VK->Prop:=λx lo hi H Q=>∃ a xs,x=.ref a/\SqT K H a xs /\
 ¬ (HT.sIx xs.length 0 lo=0/\HT.sIx xs.length xs.length hi=xs.length)/\∀ p,H p=none->Q (.ref p) (upd H p (.tup (yS xs lo hi)))
theorem zDz:SlR X (zCn X.K):=by
 intro d s σ H x v m n lo hi p Q I rx i j k h;obtain⟨a,xs,rfl,l,hw,q⟩:=h;cases rx;obtain⟨its,r,f,g⟩:=I.tuple l;have c:its.toArray.size=xs.length:=by rw[ji];exact r.length.symm
 refine⟨"tuple",_,PyProof.Rows.slot_tuple_getitem.lookup,f.typeIs,?_⟩;refine HT.UG f i j k (by rw[c];exact hw) ?_ (by rw[c];exact g);rw[c];refine⟨.ref s.heap.objs.size,_,I.laid (t':=s.toks) (o:=.tup (yS xs lo hi)) (λb ob q=>jd _ q) (zl _) ?_,rfl,q _ (I.hok.fresh (zl _))⟩;exact⟨zx (ud xs lo hi) g,_,(r.drop (HT.sIx xs.length 0 lo)).take (HT.sIx xs.length xs.length hi - HT.sIx xs.length 0 lo),wQ _ _⟩
noncomputable def YT (K:PySem.W.Frag):R2:=λx y H Q=>∃ a b xs ys,x=.ref a/\y=.ref b/\SqT K H a xs/\SqT K H b ys/\xs≠[]/\xs.length+ys.length <= zV /\
 (ys=[]->Q (.ref a) H)/\(ys≠[]->∀ p,H p=none->Q (.ref p) (upd H p (.tup (xs++ys))))
theorem zS.nil_iff {xs:List V}{us:List zB} (r:zS xs us):us=[]↔xs=[]:=by
 cases r with
 | nil=>simp
 | cons _ _=>simp
theorem jK:OpR X (qC .Add) (YT X.K):=by
 intro f s σ H x y v u Q I rx ry h;obtain⟨a,b,xs,ys,rfl,rfl,ha,j,k,g,l,m⟩:=h;cases rx;cases ry;obtain⟨its,d,n,_⟩:=I.tuple ha;obtain⟨i,c,p2,_⟩:=I.tuple j;refine HT.zCE n p2 (λz=>k (d.nil_iff.mp z)) (λz=>⟨.ref a,H,I,rfl,l (c.nil_iff.mp z)⟩) (λz=>?_) (by rw[<- d.length,<- c.length];exact g);refine⟨.ref s.heap.objs.size,_,I.laid (t':=s.toks) (o:=.tup (xs++ys)) (λb ob q=>jd _ q) (zl _) ?_,rfl,m (λw=>z (c.nil_iff.mpr w)) _ (I.hok.fresh (zl _))⟩;exact⟨by rw[yc];exact g,_,d.append c,wQ _ _⟩
end
end L2
namespace L2
open PySem PySem.Spec PyProof.Rows
noncomputable def ixN (n:Nat) (i:Int):Option Nat:=if 0 <= i then (if i < n then some i.toNat else none) else if -(n:Int) <= i then some (i+n).toNat else none
noncomputable def atI {a:Type} (xs:List a) (i:Int):Option a:=(ixN xs.length i).bind λj=>xs[j]?
theorem WN {n:Nat}{i:Int}{j:Nat} (h:ixN n i=some j):seqIndex? i n=some j/\j < n /\ -(n:Int) <= i/\i < n:=by
 unfold ixN at h;by_cases b:0 <= i
 ·rw[if_pos b] at h;by_cases a:i < n
  ·rw[if_pos a] at h;have e:i.toNat=j:=yf h;exact⟨by rw[seqIndex_of b a,e],by omega,by omega,a⟩
  ·rw[if_neg a] at h;cases h
 ·rw[if_neg b] at h;by_cases a:-(n:Int) <= i
  ·rw[if_pos a] at h;have e:(i+n).toNat=j:=yf h;exact⟨by rw[seqIndex_neg (by omega) a,e],by omega,a,by omega⟩
  ·rw[if_neg a] at h;cases h
theorem Kt {a:Type}{xs:List a}{i:Int}{v:a} (h:atI xs i=some v):∃ j,seqIndex? i xs.length=some j/\xs[j]? = some v/\j < xs.length /\ -(xs.length:Int) <= i/\i < xs.length:=by
 unfold atI at h;cases e:ixN xs.length i with
 | none=>rw[e] at h;cases h
 | some j =>
  rw[e] at h;obtain⟨b,c,d,f⟩:=WN e;exact⟨j,b,h,c,d,f⟩
noncomputable def vu (b:zF):Prop:=∀ o i,subscripted b false o i=operate [o,i] (Jq o i)
noncomputable def IxR (X:Cx) (r:R2):Prop :=
 ∀ (c a:zF) (b:List (zA×Obj)) (s:zD) (σ:St) (H:Hp) (x y:V) (v u:zB) (Q:VK),Inv X b σ H s->zY x v->zY y u->r x y H Q ->
  subscripted a false v u=operate [v,u] (Jq v u)->wpAny (zN X.prog X.w) X.A (subscriptTail c a v u) (EP X b σ Q) X.xe s
noncomputable def MtR (X:Cx) (id:String) (r:V->List V->Hp->VK->Prop):Prop :=
 ∀ (a:List (zA×Obj)) (s:zD) (σ:St) (H:Hp) (x:V) (xs:List V) (v:zB) (us:List zB) (Q:VK),Inv X a σ H s->zY x v->zS xs us->r x xs H Q ->
  wpAny (zN X.prog X.w) X.A (call (.builtin id) (v::us)) (EP X a σ Q) X.xe s
section
variable {X:Cx}{a b:zF}{ta tb:TE}{pos:Pos}
theorem IxR.or {r r':R2} (h:IxR X r) (h':IxR X r'):IxR X (λx y H Q=>r x y H Q\/r' x y H Q):=by
 intro c d e s σ H x y v u Q I rx ry q f;rcases q with q | q
 ·exact h c d e s σ H x y v u Q I rx ry q f
 ·exact h' c d e s σ H x y v u Q I rx ry q f
theorem zDJ {r:R2} (d:IxR X r) (ha:PE X a ta) (e:PE X b tb) (f:vu b):PE X (.Subscript a b pos) (tOp r ta tb):=by
 intro c s σ H Q I h;exact Subscript_ (Kz ha e I h λv u s2 x y g i rx ry q=>d a b c s2 σ g x y v u Q i rx ry q (f _ _))
noncomputable def zAj (K:PySem.W.Frag):R2:=λx y H Q=>∃ p xs i v,x=.ref p/\y=.int i/\SqL K H p xs/\atI xs i=some v/\Q v H
noncomputable def zAF (K:PySem.W.Frag):R2:=λx y H Q=>∃ p xs i v,x=.ref p/\y=.int i/\SqT K H p xs/\atI xs i=some v/\Q v H
noncomputable def wr:R2:=λx y H Q=>∃ z i c,x=.str z/\y=.int i/\z.length <= zV/\atI z.cps.toList i=some c/\Q (.str ⟨#[c]⟩) H
theorem zCA:IxR X (zAj X.K):=by
 intro f g c s σ H x y v u Q I rx ry h n;obtain⟨p,xs,i,z,rfl,rfl,B,C,q⟩:=h;cases rx;obtain⟨t,rfl⟩:=ry;obtain⟨its,r,k,J⟩:=I.list B;obtain⟨j,e,D,L,E,F⟩:=Kt C;obtain⟨w,o,l⟩:=r.get D;have G:=r.length;have hn:=Qo;have d:EP X c σ Q w s:=⟨z,H,I,l,q⟩
 by_cases A:0 <= i
 ·have m:i.toNat=j:=by
   rw[seqIndex_of A F] at e;exact yf e
  exact item_listR k.isList A (by omega) (by rw[m];simpa using o) d n
 ·have m:(i+(its.toArray.size:Int)).toNat=j:=by
   rw[seqIndex_neg (by omega) E] at e;rw[ji,<- G];exact yf e
  exact zC5 (x:=w) k.isList.typeIs slot_list_getitem.lookup
   (wpAny_getItem_list_neg (Q:=λr s'=>r=w/\EP X c σ Q r s') k.isList (by omega) (by rw[ji]<;>omega) (by omega) (by rw[m];simpa using o) ⟨rfl,d⟩) n
theorem WH:IxR X (zAF X.K):=by
 intro d e c s σ H x y v u Q I rx ry h l;obtain⟨p,xs,i,z,rfl,rfl,m,n,q⟩:=h;cases rx;obtain⟨t,rfl⟩:=ry;obtain⟨its,r,k,D⟩:=I.tuple m;obtain⟨j,o,A,E,F,G⟩:=Kt n;obtain⟨w,B,f⟩:=r.get A;have C:=r.length;have hn:=Qo;have g:EP X c σ Q w s:=⟨z,H,I,f,q⟩
 exact zC5 (x:=w) k.typeIs slot_tuple_getitem.lookup
  (getItem_tuple (j:=j) (Q:=λr s'=>r=w/\EP X c σ Q r s') k (by omega) (by omega) (by rw[ji,<- C];exact o) (by simpa using B) ⟨rfl,g⟩) l
theorem zFm:IxR X wr:=by
 intro d e f s σ H x y v u Q I rx ry h k;obtain⟨z,i,c,rfl,rfl,A,l,q⟩:=h;obtain⟨t,rfl⟩:=rx;obtain⟨t',rfl⟩:=ry;obtain⟨j,g,m,B,n,o⟩:=Kt l;have p:z.cps.toList.length=z.length:=by simp[vL]
 rw[p] at g n o;have hn:=Qo;exact tail_any (Yx s z t) slot_str_getitem.lookup (getItem_str (c:=c) (by
  have r:decide (i < -(2 ^ 63:Int))=false:=decide_eq_false (by omega);have w:decide (i ≥ 2 ^ 63)=false:=decide_eq_false (by omega);rw[r,w,wL]) (by rw[g];simpa using m) ⟨.str ⟨#[c]⟩,H,I.tok _,⟨_,rfl⟩,q⟩) k
theorem zEd (lo hi:Option Int) (n:Nat):(Qf lo hi none n).1=((HT.sIx n 0 lo:Nat):Int)/\(Qf lo hi none n).2.1=((HT.sIx n n hi:Nat):Int)/\(Qf lo hi none n).2.2=1:=by
 refine⟨?_,?_,rfl⟩
 ·cases lo with
  | none=>simp[Qf,HT.sIx]
  | some i =>
   simp only[Qf,HT.sIx,zEW,show (1:Int) > 0 by decide,if_true];by_cases h:i < 0
   ·simp only[h,if_true]<;>omega
   ·simp only[h,if_false]<;>omega
 ·cases hi with
  | none=>simp[Qf,HT.sIx]
  | some i =>
   simp only[Qf,HT.sIx,zEW,show (1:Int) > 0 by decide,if_true];by_cases h:i < 0
   ·simp only[h,if_true]<;>omega
   ·simp only[h,if_false]<;>omega
theorem zAg (its:List zB) (lo hi:Option Int):slicePick its.toArray lo hi none=((its.drop (HT.sIx its.length 0 lo)).take (HT.sIx its.length its.length hi - HT.sIx its.length 0 lo)).toArray:=by
 obtain⟨c,d,e⟩:=zEd lo hi its.toArray.size;unfold slicePick;rw[c,d,e];simp only[sliceRange_one,pick_run,ji]<;>rfl
noncomputable def zAU (K:PySem.W.Frag):V->Option Int->Option Int->Hp->VK->Prop:=λx lo hi H Q=>∃ a xs,x=.ref a/\SqL K H a xs/\∀ p,H p=none->Q (.ref p) (upd H p (.lst (yS xs lo hi)))
theorem zCj:SlR X (zAU X.K):=by
 intro d s σ H x v l m lo hi n Q I rx f g i h;obtain⟨a,xs,rfl,j,q⟩:=h;cases rx;obtain⟨its,r,e,k⟩:=I.list j;have c:=r.length;refine⟨"list",_,slot_list_getitem.lookup,e.isList.typeIs,?_⟩;refine wpAny_getItem_list_slice e.isList f g i .none (by simp) ?_ (by rw[ji]<;>omega);rw[zAg,<- c];refine⟨.ref s.heap.objs.size,_,I.laid (t':=s.toks) (o:=.lst (yS xs lo hi)) (λb ob q=>jd _ q) (zl _) ?_,rfl,q _ (I.hok.fresh (zl _))⟩;exact⟨zx (ud xs lo hi) k,_,0,(r.drop (HT.sIx xs.length 0 lo)).take (HT.sIx xs.length xs.length hi - HT.sIx xs.length 0 lo),yQ _ rfl⟩
noncomputable def j2:V->Bool
 | .non=>true
 | .bl _=>true
 | .int _=>true
 | .str _=>true
 | _=>false
noncomputable def eqV:V->V->Bool
 | .non,.non=>true
 | .bl a,.bl b=>a == b
 | .bl a,.int b=>(if a then 1 else 0) == b
 | .int a,.bl b=>a == (if b then 1 else 0)
 | .int a,.int b=>a == b
 | .str a,.str b=>a == b
 | _,_=>false
theorem zCb {A:zZ}{s:zD}{y x:V}{u v:zB} (ry:zY y u) (rx:zY x v) (d:j2 y=true) (c:j2 x=true):zFr A s u v (eqV y x):=by
 cases y with
 | non =>
  cases ry;cases x with
  | non=>cases rx;exact zGZ _
  | bl b=>cases rx;exact zGa b
  | int b=>obtain⟨t,rfl⟩:=rx;exact zGk b t
  | str b=>obtain⟨t,rfl⟩:=rx;exact zGP b t
  | _=>exact absurd (show false=true from c) jX
 | bl a =>
  cases ry;cases x with
  | non=>cases rx;exact zGI a
  | bl b=>cases rx;exact zGX a b
  | int b=>obtain⟨t,rfl⟩:=rx;exact zGT a b t
  | str b=>obtain⟨t,rfl⟩:=rx;exact zGE a b t
  | _=>exact absurd (show false=true from c) jX
 | int a =>
  obtain⟨t',rfl⟩:=ry;cases x with
  | non=>cases rx;exact zGf a t'
  | bl b=>cases rx;exact zGc a t' b
  | int b=>obtain⟨t,rfl⟩:=rx;exact zGJ a t' b t
  | str b=>obtain⟨t,rfl⟩:=rx;exact wI a t' b t
  | _=>exact absurd (show false=true from c) jX
 | str a =>
  obtain⟨t',rfl⟩:=ry;cases x with
  | non=>cases rx;exact zGj a t'
  | bl b=>cases rx;exact zGb a t' b
  | int b=>obtain⟨t,rfl⟩:=rx;exact w8 a t' b t
  | str b=>obtain⟨t,rfl⟩:=rx;exact zGV a t' b t
  | _=>exact absurd (show false=true from c) jX
 | _=>exact absurd (show false=true from d) jX
noncomputable def eqU (x:V) (u:zB):Bool:=match u with
 | .none=>eqV .non x
 | .bool b=>eqV (.bl b) x
 | .int i _=>eqV (.int i) x
 | .str z _=>eqV (.str z) x
 | _=>false
theorem Yj {x y:V}{u:zB} (r:zY y u) (f:j2 y=true):eqU x u=eqV y x:=by
 cases y with
 | non=>cases r;rfl
 | bl b=>cases r;rfl
 | int i=>obtain⟨t,rfl⟩:=r;rfl
 | str z=>obtain⟨t,rfl⟩:=r;rfl
 | _=>exact absurd (show false=true from f) jX
theorem x0 {x:V}:∀ {xs:List V}{us:List zB},zS xs us->xs.all j2=true->us.any (eqU x)=xs.any λy=>eqV y x
 | _,_,.nil,_=>rfl
 | y::xs,u::us,.cons r t,f=>by
  rw[Ze,jG] at f;rw[kc,kc,Yj r f.1,x0 t f.2]
theorem xS {A:zZ}{s:zD}{x:V}{v:zB} (rx:zY x v) (d:j2 x=true):∀ {xs:List V}{us:List zB},zS xs us->xs.all j2=true->∀ u∈us,zFr A s u v (eqU x u)
 | _,_,.nil,_=>λu c=>by cases c
 | y::xs,u::us,.cons r t,f=>λe c=>by
  rw[Ze,jG] at f;rcases List.mem_cons.mp c with rfl | c
  ·rw[Yj r f.1];exact zCb r rx f.1 d
  ·exact xS rx d t f.2 e c
noncomputable def inV (x:V) (xs:List V):Bool:=xs.any λy=>eqV y x
noncomputable def rIn (K:PySem.W.Frag) (neg:Bool):R2:=λx y H Q=>∃ p xs,y=.ref p/\(SqL K H p xs\/SqT K H p xs)/\j2 x=true/\xs.all j2=true/\Q (.bl (if neg then !inV x xs else inV x xs)) H
theorem UX:OpR X (zm .In) (rIn X.K false):=by
 intro e s σ H x y v u Q I rx ry h;obtain⟨p,xs,rfl,c,f,fs,q⟩:=h;cases ry;rcases c with c | c
 ·obtain⟨its,r,d,g⟩:=I.list c;refine SeqAt.in_listAt (eqU x) d.isList (λw hw=>xS rx f r fs w (by simpa using hw)) ⟨.bl _,H,I,rfl,?_⟩;rw[show its.toArray.any (eqU x)=its.any (eqU x) by simp,x0 r fs];exact q
 ·obtain⟨its,r,d,g⟩:=I.tuple c;refine SeqAt.in_tupleAt (eqU x) d (λw hw=>xS rx f r fs w (by simpa using hw)) ⟨.bl _,H,I,rfl,?_⟩;rw[show its.toArray.any (eqU x)=its.any (eqU x) by simp,x0 r fs];exact q
theorem zCt:OpR X (zm .NotIn) (rIn X.K true):=by
 intro e s σ H x y v u Q I rx ry h;obtain⟨p,xs,rfl,c,f,fs,q⟩:=h;cases ry;rcases c with c | c
 ·obtain⟨its,r,d,g⟩:=I.list c;refine SeqAt.notIn_listAt (eqU x) d.isList (λw hw=>xS rx f r fs w (by simpa using hw)) ⟨.bl _,H,I,rfl,?_⟩;rw[show its.toArray.any (eqU x)=its.any (eqU x) by simp,x0 r fs];exact q
 ·obtain⟨its,r,d,g⟩:=I.tuple c;refine SeqAt.notIn_tupleAt (eqU x) d (λw hw=>xS rx f r fs w (by simpa using hw)) ⟨.bl _,H,I,rfl,?_⟩;rw[show its.toArray.any (eqU x)=its.any (eqU x) by simp,x0 r fs];exact q
theorem U8:jo X (.builtin "len") (λxs H Q=>∃ p ys,xs=[.ref p]/\(SqL X.K H p ys\/SqT X.K H p ys)/\Q (.int ys.length) H):=by
 intro f s σ H xs us Q I r h;obtain⟨p,ys,rfl,d,q⟩:=h;obtain⟨u,rfl,rx⟩:=ZJ r;cases rx;have hn:=Qo;rcases d with d | d
 ·obtain⟨its,r',e,g⟩:=I.list d;have c:=r'.length;exact Calls.call_len_list e.isList (by simp only[ji]<;>omega) ⟨.int ys.length,H,I.tok _,⟨s.toks+1,by rw[ji,c]⟩,q⟩
 ·obtain⟨its,r',e,g⟩:=I.tuple d;have c:=r'.length;exact len_tuple e (by simp only[ji]<;>omega) ⟨.int ys.length,H,I.tok _,⟨s.toks+1,by rw[ji,c]⟩,q⟩
theorem zE4:jo X (.builtin "len") (λxs H Q=>∃ z,xs=[.str z]/\z.length <= zV/\Q (.int z.length) H):=by
 intro c s σ H xs us Q I r h;obtain⟨z,rfl,d,q⟩:=h;obtain⟨u,rfl,t,rfl⟩:=ZJ r;have hn:=Qo;exact len_str (by omega) ⟨.int z.length,H,I.tok _,⟨_,rfl⟩,q⟩
theorem jo.or {f:zB}{r r':List V->Hp->VK->Prop} (h:jo X f r) (h':jo X f r'):jo X f (λxs H Q=>r xs H Q\/r' xs H Q):=by
 intro c s σ H xs us Q I d q;rcases q with q | q
 ·exact h c s σ H xs us Q I d q
 ·exact h' c s σ H xs us Q I d q
noncomputable def tyV (K:PySem.W.Frag) (T:String) (x:V) (H:Hp):Prop:=match x with
 | .str _=>T = "str"
 | .int _=>T = "int"
 | .ref p=>(T = "list" /\ ∃ xs,SqL K H p xs)\/(T = "tuple" /\ ∃ o,K.lookup p=some o/\o.cls=.type "tuple" /\ o.dict=none) \/
   (T = "dict" /\ ((∃ c,H p=some (.dK c))\/(∃ c,H p=some (.dT c))\/∃ d:zJ->Prop,H p=some (.ext d)/\∀ h,d h->∃ o,h.get? p=some o/\o.ExactDict))\/(T = "set" /\ ∃ S n,H p=some (.set S n))
 | _=>False
theorem Ys {f:List (zA×Obj)}{σ:St}{H:Hp}{s:zD}{T:String}{x:V}{v:zB} (I:Inv X f σ H s) (r:zY x v) (ty:tyV X.K T x H) :
  s.TypeIs v T/\∀ a,v=.ref a->∃ ob,s.heap.get? a=some ob/\ob.dict=none:=by
 cases x with
 | str z =>
  obtain⟨t,rfl⟩:=r;cases (show T = "str" from ty);exact⟨Yx s z t,λ_ e=>nomatch e⟩
 | int i =>
  obtain⟨t,rfl⟩:=r;cases (show T = "int" from ty);exact⟨typeIs_int s i t,λ_ e=>nomatch e⟩
 | ref p =>
  cases r;rcases ty with ⟨rfl,xs,k⟩ | ⟨rfl,o,d,l,hd⟩ | ⟨rfl,d⟩ | ⟨rfl,S,n,d⟩
  ·obtain⟨its,_,j,_⟩:=I.list k;refine⟨j.isList.typeIs,λa e=>?_⟩;cases e;obtain⟨o,n,e,c,hd,_⟩:=j;exact⟨o,e,hd⟩
  ·refine⟨⟨o,I.kIn p o d,l⟩,λa e=>?_⟩;cases e;exact⟨o,I.kIn _ o d,hd⟩
  ·have z:∃ o,s.heap.get? p=some o/\o.ExactDict:=by
    rcases d with ⟨g,d⟩ | ⟨g,d⟩ | ⟨q,d,m⟩
    ·obtain⟨_,_,_,_,o,_,_,e,ex,_⟩:=I.hok p _ d;exact⟨o,e,ex⟩
    ·obtain⟨_,_,_,_,o,_,_,e,ex,_⟩:=I.hok p _ d;exact⟨o,e,ex⟩
    ·exact m _ (I.hok p _ d).1
   obtain⟨o,e,ex⟩:=z;refine⟨⟨o,e,ex.1⟩,λa h=>?_⟩;cases h;exact⟨o,e,ex.2.1⟩
  ·obtain⟨o,_,_,_,e,ex,_⟩:=I.hok p _ d;refine⟨⟨o,e,ex.1⟩,λa h=>?_⟩;cases h;exact⟨o,e,ex.2.1⟩
 | _=>exact zd ty
noncomputable def W8 (K:PySem.W.Frag) (T:String) (r:V->List V->Hp->VK->Prop) (to:TE):TE:=λσ H Q=>to σ H λx c=>tyV K T x c/\r x [] c Q
noncomputable def tBM (K:PySem.W.Frag) (T:String) (r:V->List V->Hp->VK->Prop) (to:TE) (t:TA):TE:=λσ H Q=>to σ H λx c=>tyV K T x c/\t σ c λxs d=>r x xs d Q
variable {o e:zF}{es:List zF}{to:TE}{t:TA}{name:Str}{apos cpos:Pos}{T id:String}{r:V->List V->Hp->VK->Prop}
theorem zAb (k:J4 T) (slot:Slot T name id) (g:xb (.builtin id)=pure (.type "method_descriptor")) (l:MtR X id r) (m:PE X o to)
  (d:q1 o name X.env (eval o X.env)=eval o X.env:=by rfl) (f:(apos.endLine == cpos.line)=true:=by rfl):PE X (.Call (.Attribute o name apos) [] [] cpos) (W8 X.K T r to):=by
 intro c s σ H Q I h;refine wpAny_Call_method0_late d f (thn (m c s σ H _ I h) λv s1 ⟨x,n,i,j,ty,p⟩=>?_);obtain⟨q,u⟩:=Ys i j ty;exact⟨T,id,k,slot,g,q,u,zEQ rfl (PySem.evalArgs_none (l c s1 σ n x [] v [] Q i j .nil p))⟩
theorem VQ (n:J4 T) (slot:Slot T name id) (j:xb (.builtin id)=pure (.type "method_descriptor")) (p:MtR X id r) (q:PE X o to) (ha:PA X (e::es) t)
  (f:q1 o name X.env (eval o X.env)=eval o X.env:=by rfl)
  (i:((ja cpos (zn (e::es) X.env)).all (λx=>!x.1) && (Kf cpos (Xq [] X.env)).all (λx=>x.1.isSome)
   && decide ((e::es).length+([]:List ZW).length+(if ([]:List ZW).isEmpty then 0 else 1) < 30))=true:=by rfl)
  (g:(apos.endLine == cpos.line)=true:=by rfl) (u:zn (e::es) X.env=(false,eval e X.env)::zn es X.env:=by rfl) (d:(ja cpos (zn es X.env)).any (·.1)=false:=by rfl) :
  PE X (.Call (.Attribute o name apos) (e::es) [] cpos) (tBM X.K T r to t):=by
 intro c s σ H Q I h;refine wpAny_Call_method_late f i g rfl (thn (q c s σ H _ I h) λv s1 ⟨x,w,k,l,ty,y⟩=>?_);obtain⟨z,A⟩:=Ys k l ty;refine⟨T,id,n,slot,j,z,A,?_⟩;have m:=ha cpos c s1 σ w _ k y;rw[u] at m ⊢;refine zEQ (by show (false || (ja cpos (zn es X.env)).any (·.1))=false;rw[d]<;>rfl) (zDd ?_);exact thn m λus s2 ⟨B,C,D,E,F⟩=>p c s2 σ C x B v us Q D l E F
end
end L2
namespace L2
open PySem PySem.Spec PyProof.Rows
noncomputable def MtM (X:Cx) (id:String) (r:V->List V->Hp->VK->Prop):Prop :=
 ∀ (a:List (zA×Obj)) (s:zD) (σ:St) (H:Hp) (x:V) (xs:List V) (v:zB) (us:List zB) (Q:VK),Inv X a σ H s->zY x v->zS xs us->r x xs H Q ->
  wpAny (zN X.prog X.w) X.A (call (.builtin id) (v::us)) (EP X a σ Q) X.xe s
theorem zS.one:∀ {x:V}{us:List zB},zS [x] us->∃ u,us=[u]/\zY x u
 | _,_,.cons r .nil=>⟨_,rfl,r⟩
theorem zS.zero:∀ {us:List zB},zS [] us->us=[]
 | _,.nil=>rfl
theorem zS.rep {xs:List V}{us:List zB} (h:zS xs us):∀ k:Nat,zS (zb k xs).flatten (zb k us).flatten
 | 0=>.nil
 | k+1=>by
  rw[Zb,Zb,Z6,Z6];exact zS.append h (zS.rep h k)
theorem Yb (its:List zB):∀ (k:Nat) (a:List zB),
  V9 (λx1 b=>x1++b) a.toArray (zb k its.toArray)=(a++(zb k its).flatten).toArray
 | 0,a=>by simp
 | k+1,a=>by
  have e:a.toArray++its.toArray=(a++its).toArray:=by simp
  have c:(a++its)++(zb k its).flatten=a++(zb (k+1) its).flatten:=by
   rw[Zb,Z6,Xx]
  rw[<- c,<- Yb its k (a++its),<- e,Zb,uE]
section
variable {X:Cx}{pins:List (zA×Obj)}{σ:St}{H:Hp}{s:zD}{l b:zA}{xs ys zs:List V}
theorem Inv.lset {its its':List zB}{n:Nat}{f:Array zB->Array zB}{t':Nat} (I:Inv X pins σ H s) (a:H l=some (.lst xs))
  (e:s.heap.get? l=some { cls:=.type "list",data:=.seq its.toArray n }) (c:f its.toArray=its'.toArray) (d:zS ys its') (g:ys.length <= zV) (j:0 < t':=by first | exact qQ _ | assumption | exact Inv.tk (by assumption) | omega) :
  Inv X pins σ (upd H l (.lst ys)) { s with heap:=s.heap.update l (zD4 f),toks:=t' }:=by
 have q:=PySem.IsL.update e f;rw[c] at q;refine I.write (x:=l) (e:=l) (by rw[a];exact trivial) (.inl rfl) (λk u h i=>(Qc s.heap (zD4 f) (qM h)).trans i) ⟨_,q⟩ ?_;exact⟨g,its',_,d,q⟩
theorem Inv.lnew {its:List zB}{t':Nat} (I:Inv X pins σ H s) (a:zS ys its) (c:ys.length <= zV) (d:0 < t':=by first | exact qQ _ | assumption | exact Inv.tk (by assumption) | omega) :
  Inv X pins σ (upd H s.heap.objs.size (.lst ys)) { s with heap:=s.heap.push { cls:=.type "list",data:=.seq its.toArray },toks:=t' } :=
 I.laid (λ_ _ q=>jd _ q) (zl _) ⟨c,its,0,a,yQ _ rfl⟩
theorem Inv.fresh (I:Inv X pins σ H s):H s.heap.objs.size=none:=I.hok.fresh (zl _)
theorem Inv.lstM (I:Inv X pins σ H s) (a:H l=some (.lst xs)):xs.length <= zV/\∃ (its:List zB) (n:Nat),zS xs its/\xs.length=its.length/\s.heap.get? l=some { cls:=.type "list",data:=.seq its.toArray n }:=by
 obtain⟨z,its,n,r,e⟩:=I.hok l _ a;exact⟨z,its,n,r,r.length,e⟩
theorem zAO {n:Nat} (h:n <= zV):Vi n=false:=by
 unfold Vi;exact decide_eq_false (by omega)
end
section
variable {X:Cx}
noncomputable def YA:V->List V->Hp->VK->Prop:=λx a H Q=>∃ l xs y,x=.ref l/\a=[y]/\H l=some (.lst xs)/\xs.length < zV/\Q .non (upd H l (.lst (xs++[y])))
theorem zAH:MtM X "list.append" YA:=by
 intro a s σ H x f v us Q I rx c h;obtain⟨l,xs,y,rfl,rfl,b,g,q⟩:=h;cases rx;obtain⟨u,rfl,d⟩:=c.one;obtain⟨z,its,n,r,i,e⟩:=I.lstM b;refine vV F.slot_list_append ⟨_,e,rfl⟩ F.entry_list_append (F.args_list_append_2 _ _) (PySem.list_append l its.toArray n u (by rw[ji];omega)) ⟨e,?_⟩;refine⟨.non,_,I.lset (its':=its++[u]) b e (by simp) (r.append (.cons d .nil)) ?_,rfl,q⟩;rw[yc,List.length_singleton];omega
noncomputable def vr:V->List V->Hp->VK->Prop:=λx a H Q=>∃ l xs,x=.ref l/\a=[]/\H l=some (.lst xs)/\Q .non (upd H l (.lst []))
theorem zD9:MtM X "list.clear" vr:=by
 intro b s σ H x f v us Q I rx d h;obtain⟨l,xs,rfl,rfl,c,q⟩:=h;cases rx;have a:=d.zero;subst a;obtain⟨z,its,n,r,g,e⟩:=I.lstM c;refine vV F.slot_list_clear ⟨_,e,rfl⟩ F.entry_list_clear (F.args_list_clear_1 _) (AutoSeq1.list_clear_list_0 l its.toArray n (by rw[ji];omega)) ⟨e,?_⟩;exact⟨.non,_,I.lset (its':=[]) (ys:=[]) c e rfl .nil (vP _),rfl,q⟩
noncomputable def zBA:R2:=λx y H Q=>∃ l b xs a,x=.ref l/\y=.ref b/\H l=some (.lst xs)/\H b=some (.lst a)/\xs.length+a.length <= zV/\∀ p,H p=none->Q (.ref p) (upd H p (.lst (xs++a)))
theorem zBr:OpR X (qC .Add) zBA:=by
 intro c s σ H x y v u Q I rx ry h;obtain⟨l,b,xs,m,rfl,rfl,d,f,o,q⟩:=h;cases rx;cases ry;obtain⟨z,its,n,r,p,e⟩:=I.lstM d;obtain⟨t,a,n2,g,i,j⟩:=I.lstM f;refine PySem.P.add_list e j ?_ (by rw[ji,ji];omega);have k:its.toArray++a.toArray=(its++a).toArray:=by simp
 rw[k];exact⟨.ref _,_,I.lnew (t':=s.toks) (r.append g) (by rw[yc];omega),rfl,q _ I.fresh⟩
noncomputable def Y9:R2:=λx y H Q=>∃ l k xs,x=.ref l/\y=.int k/\H l=some (.lst xs) /\ -(2 ^ 63) <= k/\k < 2 ^ 63/\xs.length * k.toNat <= zV /\
 ∀ p,H p=none->Q (.ref p) (upd H p (.lst (zb k.toNat xs).flatten))
theorem zFR {a:Type} (xs:List a) (k:Nat):(zb k xs).flatten.length=k * xs.length:=by
 induction k with
 | zero=>simp
 | succ k b=>rw[Zb,Z6,yc,b,Nat.succ_mul,Nat.add_comm]
theorem w9:OpR X (qC .Mult) Y9:=by
 intro j s σ H x y v u Q I rx ry h;obtain⟨l,k,xs,rfl,rfl,p,w,A,o,q⟩:=h;cases rx;obtain⟨t,rfl⟩:=ry;obtain⟨z,its,n,r,B,e⟩:=I.lstM p;have c:its.toArray.size * k.toNat <= zV:=by rw[ji,<- B];exact o
 have d:¬ its.toArray.size * k.toNat > (2 ^ 63 - 1) / 8:=by
  have:(zV:Nat) <= (2 ^ 63 - 1) / 8:=by decide
  omega
 have f:¬ (!zGF k)=true:=by
  rw[fitsIndex_both w A];exact jX
 have b:¬ Vi (its.toArray.size * k.toNat)=true:=by
  rw[zAO c];exact jX
 have g:V9 (λx1 i=>x1++i) #[] (zb (if its.toArray.isEmpty=true then 0 else k.toNat) its.toArray)=(zb k.toNat its).flatten.toArray:=by
  have C:∀ m:Nat,V9 (λx1 i=>x1++i) #[] (zb m its.toArray)=(zb m its).flatten.toArray:=λm=>by
   have:=Yb its m [];rw[List.nil_append] at this;exact this
  rw[C];cases its with
  | nil=>simp
  | cons a r'=>rw[if_neg (by simp)]
 refine wpAny_binaryOp_repeat_ref (T := "list") (U := "int") (by decide) ⟨_,e,rfl⟩ (λs'=>typeIs_int s' k t) noFill_list_mul F.fills_int_mul F.slot_int_rmul repeat_list F.slot_int_index.lookup
  (vV F.slot_int_rmul (typeIs_int s k t) F.entry_int_rmul (F.args_int_rmul_2 _ _) (int___rmul___int_list k t l its.toArray n)
   ⟨e,rfl,⟨_,e,rfl⟩,vV F.slot_list_mul ⟨_,e,rfl⟩ F.entry_list_mul (F.args_list_mul_2 _ _) (AutoListH.list___mul___list_int_3 l its.toArray n k t f d b) ⟨e,?_⟩⟩)
 rw[g];exact⟨.ref _,_,I.lnew (t':=s.toks) (r.rep k.toNat) (by rw[zFR,Nat.mul_comm];exact o),rfl,q _ I.fresh⟩
end
section
variable {prog:zW}{w:zR}{A:zZ}{E:zB->zD->Prop}{s:zD}
set_option maxRecDepth 100000 in
end
end L2
namespace L2
open PySem PySem.Spec PyProof.Rows
section
variable {κ:Type} [DecidableEq κ]
noncomputable def j4 (a:List (κ×V)) (k:κ):Option V:=(a.find? λb=>decide (b.1=k)).map (·.2)
theorem K5 {p:κ×V}{r:List (κ×V)}{k:κ} (e:p.1=k):j4 (p::r) k=some p.2:=by simp[j4,xh,e]
theorem Kw {p:κ×V}{r:List (κ×V)}{k:κ} (e:¬ p.1=k):j4 (p::r) k=j4 r k:=by simp[j4,xh,e]
theorem qt.isSome_eq {o:Option V}{u:Option zB} (r:qt o u):o.isSome=u.isSome:=by
 cases o with
 | none=>cases u with
  | none=>rfl
  | some _=>exact (show False from r).elim
 | some _=>cases u with
  | none=>exact (show False from r).elim
  | some _=>rfl
theorem KV.val {a:List (κ×V)}{f:List (κ×zB)} (r:KV a f) (k:κ):qt (j4 a k) (Zl f k):=by
 unfold KV at r
 induction r with
 | nil=>exact Q4
 | @cons p q ps c h t i =>
  obtain⟨g,j⟩:=h;by_cases e:p.1=k
  ·have d:q.1=k:=g.symm.trans e;have b:Zl (q::c) k=some q.2:=by simp[Zl,xh,d]
   rw[K5 e,b];exact j
  ·have d:¬ q.1=k:=λz=>e (g.trans z);have b:Zl (q::c) k=Zl c k:=by simp[Zl,xh,d]
   rw[Kw e,b];exact i
theorem KV.length {a:List (κ×V)}{b:List (κ×zB)} (r:KV a b):a.length=b.length:=Paired.length r
end
theorem Xm {P:zW}{w:zR}{k:Key}{u:zB} (r:zY (kV k) u):(qr P w).is k u=true:=by
 cases k with
 | inl i=>obtain⟨t,e⟩:=(show ∃ t,u=kH i t from r);subst e;exact zB9 P w i t
 | inr x=>obtain⟨t,e⟩:=(show ∃ t,u=Xn x t from r);subst e;exact zCm P w x t
theorem uj {P:zW}{w:zR}:∀ {ks:List Key}{us:List zB},zS (ks.map kV) us->ItemsAre (qr P w) ks us
 | [],_,r=>by rw[XS] at r;cases r;exact .nil
 | k::ks,_,r=>by
  rw[qH] at r;cases r with
  | cons h t=>exact .cons (Xm h) (uj t)
noncomputable abbrev KT (H:Hp):List (List Key×V)->List (List Key×zA×zB)->Prop:=Paired λp q=>p.1=q.1/\H q.2.1=some (.tup (p.1.map kV))/\zY p.2 q.2.2
theorem KT.val {H:Hp}{a:List (List Key×V)}{xs:List (List Key×zA×zB)} (r:KT H a xs) (k:List Key):qt (j4 a k) ((QR xs k).map (·.2)):=by
 induction r with
 | nil=>exact Q4
 | @cons p q ps c h t g =>
  obtain⟨f,_,i⟩:=h;by_cases e:p.1=k
  ·have d:q.1=k:=f.symm.trans e;have b:QR (q::c) k=some q.2:=by simp[QR,xh,d]
   rw[K5 e,b];exact i
  ·have d:¬ q.1=k:=λz=>e (f.trans z);have b:QR (q::c) k=QR c k:=by simp[QR,xh,d]
   rw[Kw e,b];exact g
section
variable {P:zW}{w:zR}{H:Hp}{h:zJ}{a:zA}
theorem Yk {u:HO} (ok:HOk P w H h) (e:Rd H a u):jW P w H h a u:=e.ok ok
theorem Q8 {b:List (Key×V)} (ok:HOk P w H h) (e:Rd H a (.dK b)):b.length <= zV/\(a == Qq)=false/\∃ c,KV b c/\h.DictOf (qr P w) a c :=
 show jW P w H h a (.dK b) from Yk ok e
theorem ko {b:List (Key×V)} (ok:HOk P w H h) (e:H a=some (.dK b)):b.length <= zV/\(a == Qq)=false/\∃ c,KV b c/\h.DictOf (qr P w) a c:=Q8 ok (.inl e)
theorem Xg {ks:List Key} (ok:HOk P w H h) (e:H a=some (.tup (ks.map kV))):(vk (qr P w)).is h ks a:=by
 obtain⟨_,its,r,o,b,c,n,d⟩:=(show jW P w H h a (.tup (ks.map kV)) from ok a _ e)
 exact⟨o,its.toArray,n,b,c,d,by simpa using uj r⟩
theorem XZ {b:List (List Key×V)} (ok:HOk P w H h) (e:Rd H a (.dT b)):b.length <= zV/\(a == Qq)=false /\
  ∃ xs,KT H b xs/\h.DictOfH (vk (qr P w)) a xs:=by
 obtain⟨z,y,xs,r,o,es,f,g,i,j,k,n⟩:=(show jW P w H h a (.dT b) from Yk ok e)
 refine⟨z,y,xs,r,o,es,f,g,i,j,k,λx c=>?_,n⟩;have all:∀ {l:List (List Key×V)}{m:List (List Key×zA×zB)},KT H l m->∀ x∈m,(vk (qr P w)).is h x.1 x.2.1:=by
  intro l m q
  induction q with
  | nil=>intro x c;exact nomatch c
  | @cons p q ps u d t s =>
   intro x c;rcases List.mem_cons.mp c with e | c
   ·subst e;exact Xg ok (by rw[<- d.1];exact d.2.1)
   ·exact s x c
 exact all r x c
end
noncomputable def ya (H:Hp) (a:zA) (y:V) (r:Option V):Prop :=
 (∃ c k,Rd H a (.dK c)/\y=kV k/\r=j4 c k)\/∃ c k b,Rd H a (.dT c)/\y=.ref b/\H b=some (.tup (k.map kV))/\r=j4 c k
theorem ya.k {H:Hp}{a:zA}{b:List (Key×V)}{k:Key} (e:H a=some (.dK b)):ya H a (kV k) (j4 b k):=.inl ⟨b,k,.inl e,rfl,rfl⟩
section
variable {X:Cx}{pins:List (zA×Obj)}{σ:St}{H:Hp}{s:zD}{a:zA}{y v:V}{u r:zB}{o:Option V}{A:zZ}{E:zB->zD->Prop}
theorem zEK {Q:zB->zD->Prop} (n:A.units+1 < QO) (I:Inv X pins σ H s) (g:ya H a y (some v)) (ry:zY y u) (h:∀ d s',Inv X pins σ H s'->zY v d->Q d s') :
  wpAny (zN X.prog X.w) A (Jq (.ref a) u) Q E s:=by
 rcases g with ⟨f,k,e,i,l⟩ | ⟨f,k,b,e,i,q,l⟩
 ·subst i;obtain⟨z,hd,t,rel,j⟩:=Q8 I.hok e;obtain⟨d,hw,c⟩:=qt.some_of (v:=v) (o:=Zl t k) (by rw[l];exact rel.val k);exact wpAny_getItem_of (Xm ry) j.mapOf hw (h d _ (I.tok _) c)
 ·subst i;cases (show u=jV b from ry);obtain⟨z,hd,xs,rel,j⟩:=XZ I.hok e;obtain⟨d,hw,c⟩:=qt.some_of (v:=v) (o:=(QR xs k).map (·.2)) (by rw[l];exact rel.val k);obtain⟨p,hp,m⟩:=Option.map_eq_some_iff.mp hw;refine wpAny_getItem_heap (YO n) (Xg I.hok q) j hp ?_;rw[m];exact h d _ (I.tok _) c
theorem zE3 {Q:zB->zD->Prop} (i:A.units+1 < QO) (I:Inv X pins σ H s) (g:ya H a y o) (ry:zY y u) (h:∀ s',Inv X pins σ H s'->Q (.bool o.isSome) s') :
  wpAny (zN X.prog X.w) A (zm .In u (.ref a)) Q E s:=by
 rcases g with ⟨c,k,e,d,l⟩ | ⟨c,k,b,e,d,j,l⟩
 ·subst d;obtain⟨z,hd,m,rel,f⟩:=Q8 I.hok e;refine wpAny_in_of (Xm ry) hd f.mapOf ?_;rw[<- (rel.val k).isSome_eq,<- l];exact h _ (I.tok _)
 ·subst d;cases (show u=jV b from ry);obtain⟨z,hd,xs,rel,f⟩:=XZ I.hok e;refine wpAny_in_heap (YO i) (Xg I.hok j) hd f ?_;have q:=(rel.val k).isSome_eq;rw[UL] at q;rw[<- q,<- l];exact h _ (I.tok _)
theorem zEO {Q:zB->zD->Prop} (i:A.units+1 < QO) (I:Inv X pins σ H s) (g:ya H a y o) (ry:zY y u) (h:∀ s',Inv X pins σ H s'->Q (.bool (!o.isSome)) s') :
  wpAny (zN X.prog X.w) A (zm .NotIn u (.ref a)) Q E s:=by
 rcases g with ⟨c,k,e,d,l⟩ | ⟨c,k,b,e,d,j,l⟩
 ·subst d;obtain⟨z,hd,m,rel,f⟩:=Q8 I.hok e;refine wpAny_notIn_of (Xm ry) hd f.mapOf ?_;rw[<- (rel.val k).isSome_eq,<- l];exact h _ (I.tok _)
 ·subst d;cases (show u=jV b from ry);obtain⟨z,hd,xs,rel,f⟩:=XZ I.hok e;refine wpAny_notIn_heap (YO i) (Xg I.hok j) hd f ?_;have q:=(rel.val k).isSome_eq;rw[UL] at q;rw[<- q,<- l];exact h _ (I.tok _)
end
section
variable {X:Cx}{pins:List (zA×Obj)}{σ:St}{H:Hp}{s:zD}{a:zA}{kvs:List (Key×V)}{k:Key}{u:zB}{A:zZ}{E:zB->zD->Prop}
theorem W5 {Q:zB->zD->Prop} (I:Inv X pins σ H s) (e:Rd H a (.dK kvs)) (h:∀ t s',Inv X pins σ H s'->Q (.int kvs.length t) s'):wpAny (zN X.prog X.w) A (call (.builtin "len") [.ref a]) Q E s:=by
 obtain⟨z,hd,c,rel,b⟩:=Q8 I.hok e;refine call_len_dict hd b (by rw[<- rel.length];rw[Z0] at z;omega) ?_;rw[<- rel.length];exact h _ _ (I.tok _)
end
theorem zAT {X:Cx}{c:List (zA×Obj)}{σ:St}{H:Hp}{s:zD}{a:zA}{y:V}{o:Option V} (I:Inv X c σ H s) (g:ya H a y o):s.TypeIs (.ref a) "dict" := by
 rcases g with ⟨d,k,e,_,_⟩ | ⟨d,k,b,e,_,_,_⟩
 ·obtain⟨_,_,h,_,f⟩:=Q8 I.hok e;exact f.typeIs
 ·obtain⟨_,_,xs,_,f⟩:=XZ I.hok e;exact f.typeIs
structure M1 (X:Cx) (o:zF) (m:Str) (apos:Pos) (e:zF) (cpos:Pos):Prop where
 base:q1 o m X.env (eval o X.env)=eval o X.env
 few:((ja cpos (zn [e] X.env)).all (λx=>!x.1) && (Kf cpos (Xq [] X.env)).all (λx=>x.1.isSome)
  && decide (([e]:List zF).length+([]:List ZW).length+(if ([]:List ZW).isEmpty then 0 else 1) < 30))=true
 line:(apos.endLine == cpos.line)=true
 trees:ja cpos (zn [e] X.env)=[(false,eval e X.env)]
structure M2 (X:Cx) (o:zF) (m:Str) (apos:Pos) (e f:zF) (cpos:Pos):Prop where
 base:q1 o m X.env (eval o X.env)=eval o X.env
 few:((ja cpos (zn [e,f] X.env)).all (λx=>!x.1) && (Kf cpos (Xq [] X.env)).all (λx=>x.1.isSome)
  && decide (([e,f]:List zF).length+([]:List ZW).length+(if ([]:List ZW).isEmpty then 0 else 1) < 30))=true
 line:(apos.endLine == cpos.line)=true
 trees:ja cpos (zn [e,f] X.env)=[(false,eval e X.env),(false,eval f X.env)]
end L2
namespace Att
open PySem PySem.W PySem.Calls PyProof.Rows
theorem Wn {P:Params}{h:zJ}:∀ (ns:List Int) (c:List zB),WellAll P h c (ns.map zCf)->XP c ns:=by
 intro ns
 induction ns with
 | nil =>
  intro c w;rw[XS] at w;cases w;exact .nil
 | cons n ns d =>
  intro c w;rw[qH] at w;cases w with
  | cons a b =>
   cases a;exact .cons _ _ (d _ b)
theorem wn {l:OpenLaw}{n:Nat} (hn:l.most=some n) {P:Params}{h:zJ}{args:List WData}{b:List zB}
  (c:l.row.toRowW.claim.pre args=true) (j:WellAll P h b args) :
  ∃ a m ns,b=[jV a]/\args=[WData.list (ns.map zCf)]/\h.get? a=some { cls:=.type "list",data:=.seq m.toArray }/\XP m ns/\ns.length <= n:=by
 have k:WShape.hasAll [] args [.list .int]=true:=(pre_splitW c).1;have o:l.pre.holds [] { args:=args }=true:=(pre_splitW c).2;obtain⟨d,r,rfl,p,s⟩:=hasAllW_cons k;obtain rfl:=hasAllW_nil s;obtain⟨xs,rfl,t⟩:=hasW_list p;obtain⟨ns,rfl⟩:=items_int t;have e:ns.length <= n:=by
  unfold OpenLaw.pre at o;have g:(WTm.not (.lt (.lit (.int (n:Int))) (.len (.arg 0)))).holds [] { args:=[.list (ns.map .int)] }=true:=by
   have g:=(holds_andW o).1;rw[hn] at g;exact g
  have i:=condW_of g (w_not (w_lt w_lit (w_len_list (w_arg rfl))));rw[j5] at i;refine Nat.le_of_not_lt λq=>?_;have u:(n:Int) < ((ns.length:Nat):Int):=by omega
  first
   | (rw[decide_eq_true u] at i;exact absurd i (by decide))
   | (simp at i;omega)
 cases j with
 | cons v w =>
  cases w;cases v with
  | list x f=>exact⟨_,_,ns,rfl,rfl,x,Wn ns _ f,e⟩
theorem zBL (l:OpenLaw) (args:List WData):l.row.toRowW.claim.post args (.bool true) args=true :=
 postW_of (r:=l.row.toRowW) (X:=(true == true))
  (show zAl [] (.bool true) .bool=true by first | rfl | decide | simp[zAl,WShape.arms,WShape.armsAll])
  (show (WTm.eq .res (.lit (.bool true))).value [] { args:=args,res:=some (.bool true),after:=args }=some (.bool (true == true)) from w_eq_bool (w_res rfl) w_lit) rfl
theorem WZ {l:OpenLaw}{n:Nat}{q:zW}{c:List Str}{x:(Str->Option zB)->zJ->Prop}{y:zR->zJ->Prop}{d:DefRec}
  (hn:l.most=some n) (s:d.params.defaults=[])
  (call:∀ (w:zR) (s₀ b:zD) (mg mb:Str->Option zB) (i:zA) (o:Obj) (pm p e:zB) (a:zA) (h:List zB) (ns:List Int),
   Ground q c [] x w s₀ mg mb b.heap->y w b.heap ->
   b.heap.get? i=some o->o.data=.func (docDef d.name d.params d.body d.scope pm p e)->b.heap.CodeRec p d.name->mg d.name=some (.ref i) ->
   b.heap.get? a=some { cls:=.type "list",data:=.seq h.toArray }->XP h ns->ns.length <= n->b.gens = #[] ->
   codeAny (zN l.prog w) JJ (.call (.ref i) ⟨[.ref a],[]⟩) (λr s'=>r=.ok (.ret (.bool true))/\OldK b.heap s'.heap/\s'.os=b.os/\y8 s'.gens) b) :
  WalkO q c x y l.row.toRowW d [] (λf h=>PySem.call f h):=by
 intro w s₀ b mg mb G Y i o pm p e C kV D hd t z u E args A N j B F v H;obtain rfl:C=.none:=Dflts.none z s;obtain rfl:kV=.none:=Dflts.noKw z;obtain⟨a,h,ns,rfl,rfl,k,g,m⟩:=wn hn j v;refine enter_call (x8 (call w s₀ b mg mb i o pm p e a h ns G Y D (fd_plain hd) t u k g m E) λr s' I=>?_);obtain⟨rfl,J,K,L⟩:=I;exact⟨.inl ⟨.bool true,.bool true,[],rfl,λ_=>rfl,.bool true,zBL l _,λ_=>⟨zEM,λ_ M=>(nomatch M)⟩⟩,J,K,L⟩
end Att
namespace L2
open PySem PySem.Spec PyProof.Rows
theorem Vc:∀ {a:List zB}{ns:List Int},XP a ns->zS (ns.map V.int) a
 | _,_,.nil=>.nil
 | _,_,.cons n t h=>.cons ⟨t,rfl⟩ (Vc h)
noncomputable def xo (H:Hp):Prop:=∀ b,H b=none\/∃ o xs,H b=some (.frz o (.lst xs))
theorem zGD {P:zW}{w:zR}{K:PySem.W.Frag}{mg mb:Str->Option zB}{CX:CXT}{k:Nat}{E a:zA}{fd:jU}{x:Str}{sp:Sp}{c:zD}{j:List zB}{ns:List Int}
  (O:K.In c.heap) (p:c.heap.Ns zr mg) (f:c.heap.Ns vt mb) (G:∀ x:Str,x ≠ "__name__" -> mb x=jk x) (t:c.heap.NoLimit) (X:c.gens = #[])
  (ha:c.heap.get? a=some { cls:=.type "list",data:=.seq j.toArray }) (hi:XP j ns) (Q:ns.length <= zV) (Y:za k JJ)
  (F:∀ base:zJ,K.In base->base.Ns zr mg->zj P w K mg base CX k E fd [x] sp) (Z:fd.scope.names.lookup x=some .local) (l:∀ (s:zD) (u:zB),Qx s fd ⟨[u],[]⟩ [(x,u)])
  (I:∀ H:Hp,xo H->SqL K H a (ns.map V.int)->sp [.ref a] H (λv _=>v=.bl true) λ_ _ _=>False)
  (J:∀ H e s',CX [] H c (λ_ _ _=>False) e s'->False) :
  codeAny (zN P w) JJ (.call (.ref E) ⟨[.ref a],[]⟩) (λr s'=>r=.ok (.ret (.bool true))/\OldK c.heap s'.heap/\s'.os=c.os/\y8 s'.gens) c:=by
 have R:=Vc hi;have y:=hi.length;have i:∀ H:Hp,xo H->SqL K H a (ns.map V.int)->HOk P w H c.heap->(∀ b,H b≠none->b=a)->(H a≠none->K.lookup a=none) ->
   codeAny (zN P w) JJ (.call (.ref E) ⟨[.ref a],[]⟩) (λr s'=>r=.ok (.ret (.bool true))/\OldK c.heap s'.heap/\s'.os=c.os/\y8 s'.gens) c:=by
  intro H S hS hok T hK;have base_of:∀ {b:zA}{o:Obj},c.heap.get? b=some o->H b=none->(y6 c.heap H).get? b=some o:=λe n=>zEI e n;have L:∀ {b:zA}{o:Obj}{es:Array DictEntry}{A:Nat},c.heap.get? b=some o->o.data=.dict es A->H b=none:=λ{b o es A} e d=>by
   cases q:H b with
   | none=>rfl
   | some u =>
    have M:b=a:=T b (by rw[q];simp);subst M;rw[ha] at e;cases e;have d':Data.seq j.toArray _=Data.dict es A:=d;cases d'
  have g:∀ {b:zA}{m:Str->Option zB},c.heap.Ns b m->(y6 c.heap H).Ns b m:=λ{b m} ⟨o,es,A,e,d,r⟩=>⟨o,es,A,base_of e (L e d),d,r⟩
  have B:K.In (y6 c.heap H):=λb o e=>base_of (O b o e) (by
   cases q:H b with
   | none=>rfl
   | some u =>
    have M:b=a:=T b (by rw[q];simp);subst M;rw[hK (by rw[q];simp)] at e;cases e)
  have hM:Mod K mg (y6 c.heap H):=⟨B,g p,⟨mb,g f,G⟩,let ⟨mc,h1,h2⟩:=t;⟨mc,g h1,h2⟩⟩
  have e0:Z5 P w K mg (y6 c.heap H) JJ [] c H:=⟨rfl,hM,λb o e=>zEo e,vF (zF2 _ _),trivial,λb f=>absurd (show b∈([]:List zA) from f) (by simp),hok,.of_eq X⟩
  refine x8 ((F _ B (g p)).run JJ [] c H ⟨[.ref a],[]⟩ [.ref a] [.ref a] _ _ Y e0 (.inr ⟨x,List.mem_singleton.mpr rfl,Z⟩) (l c (.ref a)) (.cons rfl .nil) (I H S hS)) λr s' h=>?_;cases r with
  | error e=>exact (J H e s' h).elim
  | ok fl =>
   cases fl with
   | next=>exact zd h
   | brk=>exact zd h
   | cont=>exact zd h
   | ret u =>
    obtain⟨v,H',os,bare,un,C,r',q⟩:=h;have q':v=.bl true:=q;subst q';obtain rfl:u=ZP true:=r';refine⟨rfl,OldK.of_keep λb o e=>?_,os,bare⟩;cases q:H b with
    | none=>exact un.keep b o e q (by intro z;exact absurd (show b∈([]:List zA) from z) (by simp)) (by simp)
    | some u =>
     rcases S b with z | ⟨ob,xs,z⟩
     ·rw[q] at z;cases z
     ·have z2:=un.frzs b ob _ z;obtain⟨U,_⟩:=hok b _ z;obtain⟨e2,_⟩:=C b _ z2;rw[e] at U;cases U;exact e2
 cases N:K.lookup a with
 | some o =>
  have e:=O a o N;rw[ha] at e;cases e;refine i (λ_=>none) (λ_=>.inl rfl) (.inr ⟨_,j.toArray,_,N,rfl,rfl,rfl,by rw[ji,y];exact Q,by simpa using R⟩) (λb u z=>by have D:(none:Option HO)=some u:=z;cases D) (λb z=>absurd rfl z) λz=>absurd rfl z
 | none =>
  refine i (λb=>if b=a then some (.frz { cls:=.type "list",data:=.seq j.toArray } (.lst (ns.map V.int))) else none) (λb=>?_) (.inl (.inr ⟨{ cls:=.type "list",data:=.seq j.toArray },if_pos rfl⟩)) (λb u z=>?_) (λb z=>?_) λ_=>N
  ·by_cases f:b=a
   ·exact .inr ⟨_,_,if_pos f⟩
   ·exact .inl (if_neg f)
  ·by_cases f:b=a
   ·have D:=(if_pos f).symm.trans z;cases D;subst f;exact⟨ha,by rw[j5];exact Q,j,_,R,ha⟩
   ·have D:=(if_neg f).symm.trans z;cases D
  ·by_cases f:b=a
   ·exact f
   ·exact absurd (if_neg f) z
end L2
namespace L2
open PySem PySem.Spec PyProof.Rows
theorem UY {l:PySem.W.OpenLaw}{n k:Nat}{q:zW}{i:List Str}{I:(Str->Option zB)->zJ->Prop}{C:zR->zJ->Prop}{d:DefRec}{K:Params->PySem.W.Frag}{CX:zR->CXT}{sp:zR->Sp}{x:Str}
  (hn:l.most=some n) (t:n <= zV) (y:d.params.defaults=[]) (J:za k JJ)
  (L:∀ (w:zR) (h:zJ),C w h->(K w.params).In h)
  (F:∀ (w:zR) (mg:Str->Option zB) (r:zA) (h:zJ),(K w.params).In h->h.Ns zr mg->mg d.name=some (.ref r) ->
   ∃ fd:jU,(∀ (s:zD) (u:zB),Qx s fd ⟨[u],[]⟩ [(x,u)])/\fd.scope.names.lookup x=some .local /\
    ∀ base:zJ,(K w.params).In base->base.Ns zr mg->zj l.prog w (K w.params) mg base (CX w) k r fd [x] (sp w))
  (z:∀ (w:zR) (H:Hp) (a:zA) (ns:List Int),ns.length <= n->xo H->SqL (K w.params) H a (ns.map V.int)->sp w [.ref a] H (λv _=>v=.bl true) λ_ _ _=>False)
  (A:∀ (w:zR) (H:Hp) (s:zD) (e:zB) (s':zD),CX w [] H s (λ_ _ _=>False) e s'->False) :
  PySem.W.WalkO q i I C l.row.toRowW d [] (λf D=>PySem.call f D):=by
 refine Att.WZ hn y λw s₀ m mg mb r o pm X M a D ns G Y Z hd N B p j c O=>?_;have E:=L w _ Y;obtain⟨fd,P,Q,R⟩:=F w mg r _ E G.T.g B;exact zGD E G.T.g G.T.b G.T.builtins G.T.nolimit O p j (zx c t) J R Q P (λH S U=>z w H a ns c S U) λH e s'=>A w H m e s'
end L2
namespace L2
open PySem PySem.Spec PyProof.Rows
noncomputable def zDl (s:zT) (j:Nat):zT:=match s with
 | .ClassDef _ _ _ body _ _ _ _ _ _ _=>body.getD j (.Pass ⟨0,0,0,0⟩)
 | _=>.Pass ⟨0,0,0,0⟩
noncomputable def jT (s:zT):Arguments:=match s with
 | .FunctionDef _ a _ _ _ _ _ _ _ _=>a
 | _=>{ posonlyargs:=[],args:=[],vararg:=none,kwonlyargs:=[],kw_defaults:=[],kwarg:=none,defaults:=[] }
noncomputable def z4 (s:zT):List zT:=match s with
 | .FunctionDef _ _ b _ _ _ _ _ _ _=>b
 | _=>[]
noncomputable def zP (s:zT):qW:=match s with
 | .FunctionDef _ _ _ _ _ _ a _ _ _=>a
 | _=>{ kind:=.function,names:=[],isGenerator:=false,isCoroutine:=false }
noncomputable abbrev CX0:CXT:=λ_ _ _ _ _ _=>False
noncomputable abbrev E0:XK:=λ_ _ _=>False
theorem QP {X:Cx}:yF CX0 X E0:=λ_ _ _ _ _ _ _ h=>h.elim
structure Fun (K:PySem.W.Frag) (x qual:Str) (st:zT) (f:zA) (fd:jU):Prop where
 ex:∃ (oc:zB) (od:Option zA) (kV doc pm:zB) (an:Option zA) (cdv ct:zB) (osl:Array (Option zB)),
  fd=PySem.W.fnOf x qual (jT st) (z4 st) (zP st) .none kV doc pm an cdv ct/\K.lookup f=some ⟨oc,od,.func fd,osl⟩/\PySem.W.codeIn K cdv qual=true
 kp:PySem.W.keepIn K (.ref f)=true
section
variable {P:zW}{w:zR}{K:PySem.W.Frag}{mg:Str->Option zB}{base:zJ}
theorem Fun.ok {x qual:Str}{st:zT}{f:zA}{fd:jU}{N ps:List Str}{k:Nat}{sp:Sp} (F:Fun K x qual st f fd) (S:jF N ps (zP st)) (len:∀ b H Q E,sp b H Q E->b.length=ps.length)
  (c:∀ (a:zB) (A:zZ) (outer:List Env) (s:zD) (H:Hp) (b:List V) (Q:VK) (E:XK),za k (A.deeper (qF qual (zP st) s.heap.objs.size f a))->sp b H Q E ->
   ∃ t,PSs (jx CX0 P w K mg base N qual (zP st) f a A outer s H E).nox (z4 st) t/\t { nx:=λ_ g=>Q .non g,rt:=Q } (yH N b) H):zj P w K mg base CX0 (k+1) f fd ps sp:=by
 obtain⟨n,o,kV,i,pm,p,a,ct,j,rfl,l,d⟩:=F.ex;refine Yf l d S len λA outer s H b Q E m e=>?_;obtain⟨t,h,q⟩:=c a A outer s H b Q E m e;exact⟨t,h.nox,q⟩
theorem Fun.binds {x qual:Str}{st:zT}{f:zA}{fd:jU}{ps:List Str} (F:Fun K x qual st f fd)
  (h:∀ (kV a pm:zB) (c:Option zA) (b ct:zB) (us:List zB),us.length=ps.length->bindArgs (PySem.W.fnOf x qual (jT st) (z4 st) (zP st) .none kV a pm c b ct) ⟨us,[]⟩=pure (ps.zip us)):qY K fd ps []:=by
 obtain⟨g,i,kV,a,pm,c,b,ct,d,rfl,j,e⟩:=F.ex;exact .all (h kV a pm c b ct)
theorem jq {x qual:Str}{st:zT}{f:zA}{g:zB}{h e:Option zA}{d:Array (Option zB)}{kV b pm a ct:zB} (l:K.lookup f=some ⟨g,h,.func (PySem.W.fnOf x qual (jT st) (z4 st) (zP st) .none kV b pm e a ct),d⟩)
  (c:PySem.W.codeIn K a qual=true) (k:PySem.W.keepIn K (.ref f)=true):Fun K x qual st f (PySem.W.fnOf x qual (jT st) (z4 st) (zP st) .none kV b pm e a ct):=⟨⟨g,h,kV,b,pm,e,a,ct,d,rfl,l,c⟩,k⟩
end
theorem Kx {A:zZ}{k:Nat} (a:za k A):A.units+1 < QO:=Nat.lt_of_le_of_lt (Nat.add_le_add_left (by decide:1 <= 64) _) a.units
theorem yX {A B:Prop} (h:B):if false=true then A else B:=by
 rw[if_neg jX];exact h
theorem yn {A B:Prop} (h:A):if true=true then A else B:=by
 rw[if_pos rfl];exact h
end L2
namespace L2
open PySem PySem.Spec PyProof.Rows
section
variable {X:Cx}
theorem zGC:jo X (.builtin "len") (λxs H Q=>∃ a b,xs=[V.ref a]/\H a=some (.dK b)/\Q (.int b.length) H):=by
 intro c s σ H xs us Q I r h;obtain⟨a,b,rfl,ha,q⟩:=h;obtain⟨u,rfl,d⟩:=ZJ r;cases d;exact W5 I (.inl ha) λt s' e=>⟨.int b.length,H,e,⟨t,rfl⟩,q⟩
end
end L2
set_option maxHeartbeats 4000000
namespace L2
open PySem PySem.Spec PyProof.Rows
noncomputable abbrev zo (X:Cx) (vars:List Str) (scope:qW) (cl:List (Str×zA)) (C:zA) (fp:List zA) (a:zD) (b:Hp):Cx where
 prog:=X.prog
 w:=X.w
 K:=X.K
 mg:=X.mg
 base:=X.base
 A:=X.A
 N:=X.N++vars
 s₀:=a
 H₀:=b
 env:=yG scope cl C X.env
 outer:=X.stack
 stack:=X.stack
 ex:=fp
 fn:=λ_=>false
 calm:=X.calm
 pn:=[]
 xe:=λ_ _=>False
noncomputable def Jc (cells:List (Str×zA)):List (Str×zA)->Prop
 | []=>True
 | p::r=>cells.lookup p.1=some p.2/\Jc cells r
theorem Jc.get {cells:List (Str×zA)}:∀ {cl:List (Str×zA)}{x:Str}{c:zA},Jc cells cl->cl.lookup x=some c->cells.lookup x=some c
 | [],_,_,_,e=>by simp at e
 | (y,d)::r,x,c,h,e=>by
  cases a:x == y with
  | true =>
   simp only[ZQ,a] at e;have b:x=y:=eq_of_beq a;subst b;rw[<- e];exact h.1
  | false =>
   simp only[ZQ,a] at e;exact Jc.get h.2 e
noncomputable def okK (on:List (Str×Z1)) (vars:List Str) (cl:List (Str×zA)) (x:Str):Z1->Bool
 | .local=>x == (".0" : Str) || vars.contains x
 | .cell=>false
 | .free=>(cl.lookup x).isSome && (on.lookup x == some .cell || on.lookup x == some .free)
 | _=>true
structure j6 (X:Cx) (vars:List Str) (scope:qW) (cl:List (Str×zA)):Prop where
 kind:scope.kind=.function
 clos:closureFor scope X.env=pure cl
 dis:(vars.all λx=>!X.N.contains x)=true
 zero:X.N.contains (".0" : Str)=false
 names:∀ y∈scope.names,y.2=.local->scope.names.lookup y.1=some .local
 cells:Jc X.env.cells cl
 ok:(scope.names.all λp=>okK X.env.scope.names vars cl p.1 p.2)=true
theorem K3 {env:Env}{x:Str}:∀ {names:List (Str×Z1)},
  (names.map λ(n,k)=>if (k == Z7 && env.scope.kind == .function && env.kindOf n == some .cell) then (n,xy) else (n,k)).lookup x =
   (names.lookup x).map λk=>if (k == Z7 && env.scope.kind == .function && env.kindOf x == some .cell) then xy else k
 | []=>rfl
 | (n,k)::r=>by
  have c:=@K3 env x r;show List.lookup x ((if (k == Z7 && env.scope.kind == .function && env.kindOf n == some .cell)=true then (n,xy) else (n,k))::_)=_;cases b:x == n with
  | true =>
   have e:x=n:=eq_of_beq b;subst e;by_cases a:(k == Z7 && env.scope.kind == .function && env.kindOf x == some .cell)=true
   ·rw[if_pos a];simp only[ZQ,b,QS,if_pos a]
   ·rw[if_neg a];simp only[ZQ,b,QS,if_neg a]
  | false =>
   by_cases a:(k == Z7 && env.scope.kind == .function && env.kindOf n == some .cell)=true
   ·rw[if_pos a];simp only[ZQ,b];exact c
   ·rw[if_neg a];simp only[ZQ,b];exact c
section
variable {X:Cx}{vars:List Str}{scope:qW}{cl:List (Str×zA)}{C D:zA}{fp:List zA}{s₂:zD}{H:Hp}{pins:List (zA×Obj)}{σ:St}
theorem j6.okAt (S:j6 X vars scope cl) {x:Str}{k:Z1} (h:scope.names.lookup x=some k):okK X.env.scope.names vars cl x k=true:=by
 have:=List.all_eq_true.mp S.ok (x,k) (PySem.mem_of_lookup h);exact this
theorem j6.noCell (S:j6 X vars scope cl):∀ y∈scope.names,y.2≠.cell:=λy a e=>by
 have h:=List.all_eq_true.mp S.ok y a;rw[e] at h;exact absurd (show false=true from h) jX
theorem j6.freeOf (S:j6 X vars scope cl) {x:Str} (h:(yG scope cl C X.env).kindOf x=some .cell\/(yG scope cl C X.env).kindOf x=some .free):scope.names.lookup x=some .free:=by
 have e:(yG scope cl C X.env).kindOf x=(scope.names.lookup x).map λk=>if (k == Z7 && X.env.scope.kind == .function && X.env.kindOf x == some .cell) then xy else k:=K3
 rw[e] at h;cases q:scope.names.lookup x with
 | none=>rw[q] at h;simp at h
 | some k =>
  rw[q] at h;by_cases a:k=.free
  ·rw[a]
  ·have b:(k == Z7)=false:=by simpa using a
   simp only[QS,b,zDe,zDi,if_false,zEs] at h;rcases h with h | h
   ·subst h;exact absurd rfl (S.noCell (x,.cell) (PySem.mem_of_lookup q))
   ·exact absurd h a
theorem j6.localOf (S:j6 X vars scope cl) {x:Str} (h:(yG scope cl C X.env).kindOf x=some .local):scope.names.lookup x=some .local:=by
 have e:(yG scope cl C X.env).kindOf x=(scope.names.lookup x).map λk=>if (k == Z7 && X.env.scope.kind == .function && X.env.kindOf x == some .cell) then xy else k:=K3
 rw[e] at h;cases q:scope.names.lookup x with
 | none=>rw[q] at h;simp at h
 | some k =>
  rw[q] at h;simp only[QS,zEs] at h;split at h
  ·cases h
  ·rw[h]
theorem zDY (I:Inv X pins σ H s₂) (S:j6 X vars scope cl) (w:∀ b∈fp,yA X pins H b) (B:∀ b∈fp,∃ o,s₂.heap.get? b=some o)
  {d:zJ}{tk:Nat} (E:s₂.heap.objs.size <= D) (F:s₂.heap.objs.size <= C) (G:D≠C) {A:Obj} (W:d.get? D=some A) (Y:∀ v,A.data≠.cell v) {m:Str->Option zB} (hn:d.Ns C m)
  (old:∀ b o,s₂.heap.get? b=some o->d.get? b=some o) (Z:0 < tk:=by first | exact qQ _ | assumption | exact Inv.tk (by assumption) | omega) :
  Inv (zo X vars scope cl C fp s₂ H) [(D,A)] (σ++zb vars.length none) H { s₂ with heap:=d,toks:=tk }:=by
 have s:∀ b∈fp,b∉frs X.stack:=λb g z=>by
  rcases List.mem_cons.mp (I.stkSub b z) with e | e
  ·exact (w b g).2.1 e
  ·exact (w b g).2.2.1 e
 have a:∀ x c,cl.lookup x=some c->X.env.cells.lookup x=some c:=λx c e=>S.cells.get e;have J:∀ b∈fp,b < s₂.heap.objs.size:=λb g=>by
  obtain⟨o,e⟩:=B b g;exact ze e
 have ok:(zo X vars scope cl C fp s₂ H).Ok:=by
  refine⟨I.ok.mod,S.kind,I.ok.glob,I.ok.blt,F,λx y c K j=>I.ok.inj x y c (a x c K) (a y c j),λx hx=>?_,λx c h _=>absurd (show false=true from h) jX,I.ok.hd,I.ok.frames,.inl rfl,
   λb g=>⟨z5 (zv (J b g) F),λx c e z=>(w b g).2.2.2.2.1 x c (a x c e) z⟩,I.bs,zx I.ok.bsz I.sz,λb o e g=>?_,s,I.stack,I.stkFree⟩
  ·have q:=S.okAt (S.freeOf (C:=C) hx);have f:((cl.lookup x).isSome && (X.env.scope.names.lookup x == some .cell || X.env.scope.names.lookup x == some .free))=true:=q;rw[jG] at f;exact Option.isSome_iff_exists.mp f.1
  ·rcases (w b g).2.2.2.1 with z | z
   ·exact I.ok.noex b o e z
   ·exact absurd (zv (ze e) (zx I.ok.bsz z)) (qc _)
 have L:D∉frs X.stack:=λz=>by
  rcases List.mem_cons.mp (I.stkSub D z) with e | e
  ·exact absurd (zv (e ▸ I.lt) E) (qc _)
  ·exact I.nofs E e
 refine⟨ok,rfl,I.bare,Un.kept old,⟨m,hn,λi x v K j t=>?_⟩,λx c e=>?_,I.hok.fresh F,λx c e=>I.freeC x c (a x c e),λp hp=>?_,I.hok.kept old,?_,Z⟩
 ·have P:=I.len;have k:(X.N++vars)[i]? = some x:=K;by_cases hi:i < σ.length
  ·rw[qe (by omega)] at k;rw[qe hi] at j;have n:X.N.contains x=true:=by
    rw[List.contains_iff_exists_mem_beq];exact⟨x,ZG k,by simp⟩
   have Q:(yG scope cl C X.env).kindOf x=some .cell\/(yG scope cl C X.env).kindOf x=some .free:=by
    rcases t with t | t
    ·have q:=S.okAt (S.localOf (C:=C) t);have f:(x == (".0" : Str) || vars.contains x)=true:=q;rw[QY] at f;rcases f with f | f
     ·have e0:x=(".0" : Str):=eq_of_beq f;rw[e0,S.zero] at n;cases n
     ·have R:=List.all_eq_true.mp S.dis x (by simpa using f);rw[n] at R;cases R
    ·exact t
   have q:=S.okAt (S.freeOf (C:=C) Q);have f:((cl.lookup x).isSome && (X.env.scope.names.lookup x == some .cell || X.env.scope.names.lookup x == some .free))=true:=q;rw[jG,QY] at f;obtain⟨c,T⟩:=Option.isSome_iff_exists.mp f.1;have U:X.env.scope.names.lookup x=some .cell\/X.env.scope.names.lookup x=some .free:=by
    rcases f.2 with z | z
    ·exact .inl (eq_of_beq z)
    ·exact .inr (eq_of_beq z)
   obtain⟨m0,_,hl⟩:=I.loc;obtain⟨u,r,l⟩:=hl i x v k j (.inr U);refine⟨u,r,.inr ⟨Q,c,T,?_⟩⟩;rcases l with ⟨l1,_⟩ | ⟨_,c',V,o,M,O⟩
   ·have l2:X.env.scope.names.lookup x=some .local:=l1;rcases U with z | z
    ·rw[l2] at z;cases z
    ·rw[l2] at z;cases z
   ·rw[a x c T] at V;cases V;exact⟨o,old _ _ M,O⟩
  ·rw[yv (by omega),XT] at j;split at j<;>cases j
 ·obtain⟨v,o,M,O⟩:=I.cell x c (a x c e);exact⟨v,o,old _ _ M,O⟩
 ·have e:p=(D,A):=by simpa using hp
  subst e;exact⟨W,I.hok.fresh E,G,L,Y⟩
 ·show (σ++zb vars.length none).length=(X.N++vars).length;rw[yc,yc,zE9,I.len]
end
noncomputable def qf (X:Cx) (b:List zF) (t:TT):Prop :=
 ∀ (a:List (zA×Obj)) (s:zD) (σ:St) (H:Hp) (Q:Bool->Hp->Prop),Inv X a σ H s->t σ H Q ->
  wpAny (zN X.prog X.w) X.A (forIn b true λc r=>if r=true then do let ok <- isTrue c X.env (eval c X.env);pure (zA9 ok) else pure (zA9 r)) (TP X a σ Q) X.xe s
noncomputable def qL:TT:=λ_ H Q=>Q true H
theorem UH {X:Cx}:qf X [] qL:=λ_ _ _ H _ I h=>wpAny_tests_nil ⟨H,I,h⟩
theorem W6 {X:Cx}{c:zF}{t:TT} (h:PT X c t):qf X [c] t:=λa s σ H Q I hw=>wpAny_tests_one (h a s σ H Q I hw)
noncomputable def Wk (σ a:St):Prop:=σ.length=a.length/\∀ (i:Nat) v,σ[i]? = some (some v)->a[i]? = some (some v)
noncomputable def kG (n:Nat) (f:TI) (g:TG) (ti:TT) (te:TE):TE:=λσ H Q=>f σ H λJ h=>∃ W:Nat->Nat->List V->Hp->Prop,(∃ m,W 0 m [] h)/\∀ i m ys c,W i m ys c->ys.length <= zV /\
 ((J.stop i c/\∀ D,c D=none->Q (.ref D) (upd c D (.lst ys))) \/
  (J.go i c/\∀ x e,J.yld i c x e->g x (σ++zb n none) e λa j=>Wk (σ++zb n none) a/\ti a j λb H5 =>
   if b=true then te a H5 λy H6=>∃ d,d < m/\W (i+1) d (ys++[y]) H6 else ∃ d,d < m/\W (i+1) d ys H5))
theorem Inv.track {X:Cx}{a:List (zA×Obj)}{σ:St}{H:Hp}{s:zD}{D:zA}{o:HO} (I:Inv X a σ H s) (h:X.s₀.heap.objs.size <= D) (hn:H D=none) (i:D≠X.env.locals)
  (f:∀ x c,X.env.cells.lookup x=some c->c≠D) (hp:∀ p∈X.pn++a,p.1≠D) (new:jW X.prog X.w (upd H D o) s.heap D o):Inv X a σ (upd H D o) s:=by
 have ne:∀ {b u},H b=some u->b≠D:=λe z=>by rw[z,hn] at e;cases e
 refine⟨I.ok,I.os,I.bare,⟨I.base.keep,I.base.slot,λb ob e n j=>?_,I.base.there,λb xs e=>?_,λb ob u e=>?_,λb ps e=>?_⟩,I.loc,I.cell,?_,λx c e=>?_,λp d=>?_,λb u e=>?_,I.len,I.tk⟩
 ·rw[zc (z5 (zv (ze e) h))];exact I.base.free b ob e n j
 ·have q:=I.base.tups b xs e;rw[zc (ne q)];exact q
 ·have q:=I.base.frzs b ob u e;rw[zc (ne q)];exact q
 ·obtain⟨mo,q⟩:=I.base.tbls b ps e;exact⟨mo,by rw[zc (ne q)];exact q⟩
 ·rw[zc (qM i)];exact I.free
 ·rw[zc (f x c e)];exact I.freeC x c e
 ·obtain⟨k,l,m,r,t⟩:=I.pin p d;exact⟨k,by rw[zc (hp p d)];exact l,m,r,t⟩
 ·by_cases g:b=D
  ·subst g;rw[jr] at e;cases e;exact new
  ·rw[zc g] at e;exact (I.hok b u e).stay (λ_ _ _ q=>q) (λc q=>by rw[zc (ne q)];exact q) λc xs q=>by rw[zc (ne q)];exact q
noncomputable abbrev ZA (us:List zB) (n:Nat):Obj:={ cls:=.type "list",data:=.seq us.toArray n }
section
variable {X:Cx}{vars:List Str}{scope:qW}{cl:List (Str×zA)}{C D it:zA}{fp:List zA}{s₂:zD}{H₂:Hp}{tg elt iter:zF}{ifs:List zF}{pos:Pos}{J:It}{tn:Nat->zJ->Prop}
 {g:TG}{ti:TT}{te:TE}{R:Result->zD->Prop}
theorem UU (hc:X.calm=true) (T:ZZ X.prog X.w X.K tg J fp it tn) (hg:PG (zo X vars scope cl C fp s₂ H₂) tg g) (hi:qf (zo X vars scope cl C fp s₂ H₂) ifs ti) (he:PE (zo X vars scope cl C fp s₂ H₂) elt te)
  {a:St} (W:Nat->Nat->List V->Hp->Prop) {F:List V->Hp->Prop} (hD0:s₂.heap.objs.size <= D) (O:D≠C) (hDs:D∉frs X.stack) (hDc:∀ x c,cl.lookup x=some c->c≠D)
  (P:∀ b∈fp,b≠C/\b∉frs X.stack/\(∀ x c,cl.lookup x=some c->c≠b)/\D≠b)
  (Q:∀ i m ys B,W i m ys B->ys.length <= zV/\((J.stop i B/\F ys B) \/
   (J.go i B/\∀ x S,J.yld i B x S->g x a S λH H4=>Wk a H/\ti H H4 λb H5 =>
    if b=true then te H H5 λy H6=>∃ t,t < m/\W (i+1) t (ys++[y]) H6 else ∃ t,t < m/\W (i+1) t ys H5)))
  (hR:∀ s' ys us n B,Inv (zo X vars scope cl C fp s₂ H₂) [(D,ZA us n)] a B s'->zS ys us->ys.length <= zV->F ys B->R (.ok .next) s')
  {s:zD}{m0:Nat}{n0:Nat}{U:Hp} (I0:Inv (zo X vars scope cl C fp s₂ H₂) [(D,ZA [] n0)] a U s) (st0:tn 0 s.heap) (f0:∀ b∈fp,U b=none) (w0:W 0 m0 [] U) :
  codeAny (zN X.prog X.w) X.A (.compLoop (.ListComp elt [⟨tg,iter,ifs,0⟩] scope pos) 0 (.ref it) (.ref D) (yG scope cl C X.env)) R s:=by
 have l:∀ {k:Hp}{o:Obj},(∀ b∈fp,k b=none)->∀ b∈fp,yA (zo X vars scope cl C fp s₂ H₂) [(D,o)] k b:=λ{k o} hn b h =>
  ⟨hn b h,(P b h).1,(P b h).2.1,.inl h,(P b h).2.2.1,λp hp=>by
   have e:p=(D,o):=by simpa using hp
   subst e;exact (P b h).2.2.2⟩
 refine codeAny_loop rfl (λn s=>∃ i ys us N k,Inv (zo X vars scope cl C fp s₂ H₂) [(D,ZA us N)] a k s/\zS ys us/\tn i s.heap/\(∀ b∈fp,k b=none)/\W i n ys k) (λn s hI=>?_) m0 ⟨0,[],[],n0,U,I0,.nil,st0,f0,w0⟩;show wpAny _ X.A ((compTurn (.ListComp elt [⟨tg,iter,ifs,0⟩] scope pos) 0 (.ref it) (.ref D) (yG scope cl C X.env)).onRaise (λx=>do VF x (yG scope cl C X.env);theTreesLotGoes x)) _ _ s;refine wpAny_noted ?_;rw[compTurn_list];obtain⟨i,ys,us,N,k,I,Y,st,fr,w⟩:=hI;obtain⟨hz,tt⟩:=Q i n ys k w;refine wpAny_bind (kY (wpAny_bind ?_));rcases tt with ⟨stop,q⟩ | ⟨go,q⟩
 ·refine wpAny_mono (T.done (zo X vars scope cl C fp s₂ H₂) rfl rfl rfl hc i _ s a k _ I (l fr) st stop) (λr s1 ⟨hr,I1⟩=>?_) (λ_ _ e=>e);subst hr;exact wpAny_pure (hR s1 ys us N k I1 Y hz q)
 ·refine wpAny_mono (T.item (zo X vars scope cl C fp s₂ H₂) rfl rfl rfl hc i _ s a k _ I (l fr) st go) (λr s1 ⟨u,hr,h1⟩=>?_) (λ_ _ e=>e);subst hr;refine wpAny_bind (wpAny_mono h1 (λ_ s2 ⟨x,S,I3,r3,y3,L,fr3⟩=>?_) (λ_ _ e=>e));have I3':=I3.pinned (l fr3) (T.obj _ _ L);refine wpAny_bind (wpAny_mono (hg _ s2 a S x u _ I3' r3 (q x S y3)) (λ_ s3 ⟨j,H4,I4,wk,q4⟩=>?_) (λ_ _ f=>zd f));refine wpAny_bind (wpAny_mono (hi _ s3 j H4 _ I4 q4) (λb s4 ⟨H5,I5,q5⟩=>?_) (λ_ _ f=>zd f));have E:∀ {M:zD}{H7:Hp}{o:Obj},Inv (zo X vars scope cl C fp s₂ H₂) ((D,o)::yl fp s2.heap) j H7 M->tn (i+1) M.heap/\∀ b∈fp,H7 b=none:=λ{M H7 o} G=>by
   refine⟨T.keep _ _ _ L λb h ob e=>(G.pin (b,ob) (q2 _ (qD _ (XC h e)))).1,λb h=>?_⟩;obtain⟨ob,e,d⟩:=T.obj _ _ L b h;exact (G.pin (b,ob) (q2 _ (qD _ (XC h e)))).2.1
  have one:∀ {M:zD}{H7:Hp}{o:Obj},Inv (zo X vars scope cl C fp s₂ H₂) ((D,o)::yl fp s2.heap) j H7 M->Inv (zo X vars scope cl C fp s₂ H₂) [(D,o)] a H7 M:=λ{M H7 o} G =>
   (G.pins_of (pins':=[(D,o)]) λp hp=>by
    have e:p=(D,o):=by simpa using hp
    subst e;exact G.pin (D,o) (q2 _ qT)).weak wk.1 wk.2
  cases b with
  | false =>
   obtain⟨t,hm,w'⟩:=q5;obtain⟨b1,b2⟩:=E I5;exact wpAny_pure ⟨rfl,t,hm,i+1,ys,us,N,H5,one I5,Y,b1,b2,w'⟩
  | true =>
   refine wpAny_bind (wpAny_bind (wpAny_mono (he _ s4 j H5 _ I5 q5) (λv Z ⟨y,H6,I6,r6,q6⟩=>?_) (λ_ _ f=>zd f)));obtain⟨t,hm,w'⟩:=q6;obtain⟨eD,nD,_,_,_⟩:=I6.pin (D,ZA us N) (q2 _ qT);have hul:us.toArray.size <= zV:=by rw[ji,<- Y.length];exact hz
   refine wpAny_bind (wpAny_list_append_plain (hsz:=hul) ⟨N,eD⟩ λh' hp hs=>wpAny_pure (wpAny_pure ⟨rfl,?_⟩));obtain⟨n',hp⟩:=hp;have hp':h'.get? D=some (ZA (us++[v]) n'):=by rw[hp];simp
   have G:Inv (zo X vars scope cl C fp s₂ H₂) (yl fp s2.heap) j H6 { Z with heap:=h',toks:=Z.toks }:=by
    refine Inv.turned (it:=D) (I6.pins_of (pins':=yl fp s2.heap) λp hp=>I6.pin p (q2 _ (qD _ hp))) (λb o h e=>(hs.2 b h).trans e) nD O (.inr hD0) (λx c e=>hDc x c e) λp hp=>?_;have hp2:p∈yl fp s2.heap:=by simpa using hp
    exact qM (P p.1 (VM hp2).1).2.2.2
   have I8:Inv (zo X vars scope cl C fp s₂ H₂) ((D,ZA (us++[v]) n')::yl fp s2.heap) j H6 { Z with heap:=h',toks:=Z.toks }:=G.pins_of λp hp=>by
    rcases List.mem_cons.mp hp with rfl | hp
    ·exact⟨hp',nD,O,hDs,λv z=>by cases z⟩
    ·exact G.pin p (q2 _ hp)
   obtain⟨b1,b2⟩:=E I8;exact⟨t,hm,i+1,ys++[y],us++[v],n',H6,one I8,Y.append (.cons r6 .nil),b1,b2,w'⟩
end
section
variable {X:Cx}{vars:List Str}{scope:qW}{cl:List (Str×zA)}{tg elt iter:zF}{ifs:List zF}{pos:Pos}{wi:TI}{g:TG}{ti:TT}{te:TE}
theorem VL (hc:X.calm=true) (S:j6 X vars scope cl) (hg:∀ C fp l r,PG (zo X vars scope cl C fp l r) tg g) (ht:∀ C fp l r,qf (zo X vars scope cl C fp l r) ifs ti)
  (he:∀ C fp l r,PE (zo X vars scope cl C fp l r) elt te) {d:List (zA×Obj)}{σ:St}{s2:zD}{E:zB->zD->Prop}{F:zA->Hp->Prop}{RR:zB->zA->Result->zD->Prop}{itv:zB}
  (h2:PIE X d σ tg (λJ H1=>∃ W:Nat->Nat->List V->Hp->Prop,(∃ m,W 0 m [] H1)/\∀ i m ys L,W i m ys L->ys.length <= zV /\
   ((J.stop i L/\∀ D,L D=none->F D (upd L D (.lst ys))) \/
    (J.go i L/\∀ x H3,J.yld i L x H3->g x (σ++zb vars.length none) H3 λY H4=>Wk (σ++zb vars.length none) Y/\ti Y H4 λb H5 =>
     if b=true then te Y H5 λy H6=>∃ m',m' < m/\W (i+1) m' (ys++[y]) H6 else ∃ m',m' < m/\W (i+1) m' ys H5))) itv s2)
  (hRR:∀ D C s' H,(∃ m,s'.heap.Ns C m)->C≠X.env.locals->(∀ x c,X.env.cells.lookup x=some c->c≠C)->Inv X d σ H s'->(∀ (h':zJ),kB C s'.heap h'->∀ (Z:zD),Z={ s' with heap:=h' }->Inv X d σ H Z) ->
   (∀ (σ':St) (s3:zD),Inv X d σ' H s3->(∃ a,kB a s'.heap s3.heap/\(a=X.env.locals\/∃ x,X.env.cells.lookup x=some a))->∀ (h':zJ),kB C s3.heap h'->Inv X d σ' H { s3 with heap:=h' }) ->
   F D H->RR (.ref D) C (.ok .next) s') :
  wpAny (zN X.prog X.w) X.A (newList []) (λacc s=>wpAny (zN X.prog X.w) X.A (uc scope X.env.globals cl [] X.env.qual none .none (some X.env)) (λO s₄ =>
   codeAny (zN X.prog X.w) X.A (.compStart (.ListComp elt [⟨tg,iter,ifs,0⟩] scope pos) 0 itv acc { O with scope:=relabel scope X.env }) (RR acc O.locals) s₄) E s) E s2:=by
 obtain⟨it,fp,tn,J,L,e,B,T,st2,M,W,⟨m0,w0⟩,turn⟩:=h2;subst e;refine J9 (wpAny_newFunctionEnv S.noCell (by intro y hy;simp at hy) (λt k h=>?_) S.kind);dsimp only at k h ⊢;generalize hH2:s2.heap.push { cls:=.type "list",dict:=none,data:=.seq ([]:List zB).toArray }=G at k h ⊢;have hC:G.objs.size=s2.heap.objs.size+1:=by rw[<- hH2,x9]
 have N:s2.heap.objs.size≠G.objs.size:=by rw[hC];exact z5 (ux _)
 have j:s2.heap.objs.size <= G.objs.size:=by rw[hC];exact Jw _
 have I:∀ b,b < s2.heap.objs.size->b≠G.objs.size/\b≠s2.heap.objs.size:=λb f=>⟨by rw[hC];exact z5 (Nat.lt_succ_of_lt f),z5 f⟩
 have old:∀ b o,s2.heap.get? b=some o->t.get? b=some o:=λb o e=>h.extBut b o (I b (ze e)).1 (jd _ (hH2 ▸ jd _ e));have hacc:t.get? s2.heap.objs.size=some (ZA [] 0):=h.extBut _ _ N (jd _ (hH2 ▸ yQ _ rfl));have u:tn 0 t:=T.keep _ _ _ st2 λb _ o e=>old b o e;have hob:∀ b∈fp,∃ o,s2.heap.get? b=some o:=λb f=>by
  obtain⟨o,e,_⟩:=T.obj _ _ st2 b f;exact⟨o,e⟩
 have fpl:∀ b∈fp,b < s2.heap.objs.size:=λb f=>by
  obtain⟨o,e⟩:=hob b f;exact ze e
 have P:∀ x c,cl.lookup x=some c->X.env.cells.lookup x=some c:=λx c e=>S.cells.get e;have K:∀ x c,X.env.cells.lookup x=some c->c < s2.heap.objs.size:=λx c e=>by
  obtain⟨v,q⟩:=B.cell x c e;exact q.lt
 have Q:∀ p∈X.pn++d,p.1 < s2.heap.objs.size:=λp hp=>ze (B.pin p hp).1;have fpst:∀ b∈fp,b∉frs X.stack:=λb f z=>by
  rcases List.mem_cons.mp (B.stkSub b z) with e | e
  ·exact (M b f).2.1 e
  ·exact (M b f).2.2.1 e
 have nst:s2.heap.objs.size∉frs X.stack:=λz=>by
  rcases List.mem_cons.mp (B.stkSub _ z) with e | e
  ·exact absurd (e ▸ B.lt) (qc _)
  ·exact B.nofs (zl _) e
 have CL:G.objs.size≠X.env.locals:=λz=>absurd (zv (z ▸ B.lt) j) (qc _);have CC:∀ x c,X.env.cells.lookup x=some c->c≠G.objs.size:=λx c e=>z5 (zv (K x c e) j);have CP:∀ p∈X.pn++d,p.1≠G.objs.size:=λp hp=>z5 (zv (Q p hp) j);have R:∀ s:zD,s={ s2 with heap:=t,toks:=s2.toks+([]:List (Str×zB)).length } ->
   codeAny (zN X.prog X.w) X.A (.compLoop (.ListComp elt [⟨tg,iter,ifs,0⟩] scope pos) 0 (.ref it) (.ref s2.heap.objs.size) (yG scope cl G.objs.size X.env)) (RR (.ref s2.heap.objs.size) G.objs.size) s:=by
  rintro s rfl
  have I0:Inv (zo X vars scope cl G.objs.size fp s2 L) [(s2.heap.objs.size,ZA [] 0)] (σ++zb vars.length none) L { s2 with heap:=t,toks:=s2.toks+([]:List (Str×zB)).length } :=
   zDY B S M hob (zl _) j N hacc (λv z=>by cases z) k old
  refine UU hc T (hg _ _ _ _) (ht _ _ _ _) (he _ _ _ _) (D:=s2.heap.objs.size) W (F:=λys H=>∀ D,H D=none->F D (upd H D (.lst ys))) (zl _) N nst (λx c e=>z5 (K x c (P x c e)))
   (λb f=>⟨(I b (fpl b f)).1,fpst b f,λx c e z=>(M b f).2.2.2.2.1 x c (P x c e) z,ZV (fpl b f)⟩) turn ?_ I0 u (λb f=>(M b f).1) w0
  intro s' ys us n H U rv hz q;obtain⟨eD,nD,_,_,_⟩:=U.pin (s2.heap.objs.size,ZA us n) (q2 _ qT);have J1:Inv X d σ H s':=B.call' U.os U.base U.hok U.bare (λb f=>⟨(M b f).2.2.2.1,(M b f).2.1,(M b f).2.2.2.2.1,(M b f).2.2.2.2.2⟩) U.tk;have J2:Inv X d σ (upd H s2.heap.objs.size (.lst ys)) s':=J1.track B.sz nD (λz=>absurd (z ▸ B.lt) (qc _)) (λx c e=>z5 (K x c e)) (λp hp=>z5 (Q p hp)) ⟨hz,us,n,rv,eD⟩;have nC:upd H s2.heap.objs.size (.lst ys) G.objs.size=none:=by
   rw[zc (qM N)];exact U.free
  refine hRR _ _ s' _ ?_ CL CC J2 (λh' hs Z e=>?_) (λσ' s3 I3 _ h' hs=>?_) (q _ nD)
  ·obtain⟨m,hn,_⟩:=U.loc;exact⟨m,hn⟩
  ·subst e;exact J2.turned (t':=s'.toks) (it:=G.objs.size) (λb o f e=>(hs.2 b f).trans e) nC CL (.inr (zx B.sz j)) CC CP
  ·exact I3.turned (t':=s3.toks) (it:=G.objs.size) (λb o f e=>(hs.2 b f).trans e) nC CL (.inr (zx B.sz j)) CC CP
 exact codeAny_compStart_list (R _ rfl) (T.self _ 0 _ _ _ u (R _ rfl))
theorem v7 (f:X.calm=true) (S:j6 X vars scope cl) (hi:PI X tg iter wi) (i:∀ C fp a b,PG (zo X vars scope cl C fp a b) tg g) (j:∀ C fp a b,qf (zo X vars scope cl C fp a b) ifs ti)
  (k:∀ C fp a b,PE (zo X vars scope cl C fp a b) elt te) (l:∀ x,yZ iter X.env x=pure x:=by intro _;rfl):PE X (.ListComp elt [⟨tg,iter,ifs,0⟩] scope pos) (kG vars.length wi g ti te):=by
 intro c s σ H Q I h;rw[eval_ListComp];refine zCk (use:=none) rfl l S.clos S.kind S.names (thn (hi c s σ H _ I h) λv s1 n=>thn n λo s2 p=>?_);refine VL f S i j k (F:=λD d=>Q (.ref D) d) p λD C s' d hn r t w u _ q=>?_;obtain⟨m,hn⟩:=hn;exact⟨m,hn,λh' e=>⟨.ref D,d,u h' e _ rfl,rfl,q⟩⟩
theorem zAB {i:Nat}{y:Str}{py spos:Pos} (u:X.calm=true) (S:j6 X vars scope cl) (w:X.N.Nodup) (j:X.N[i]? = some y) (z:Loc X.env.scope y) (hi:PI X tg iter wi)
  (B:∀ C fp b c,PG (zo X vars scope cl C fp b c) tg g) (E:∀ C fp b c,qf (zo X vars scope cl C fp b c) ifs ti)
  (G:∀ C fp b c,PE (zo X vars scope cl C fp b c) elt te) (J:∀ x,yZ iter X.env x=pure x:=by intro _;rfl)
  (k:j1 (.ListComp elt [⟨tg,iter,ifs,0⟩] scope pos) (some (.Name y py)) spos.line X.env=pure true:=by rfl)
  (K:X.fn y=true\/X.env.scope.names.lookup y=some .local:=by first | exact .inl rfl | exact .inr rfl | assumption) :
  PS X (.Assign [.Name y py] (.ListComp elt [⟨tg,iter,ifs,0⟩] scope pos) spos) (KE (kG vars.length wi g ti te) (jM i)):=by
 intro d s σ H t I h;rw[exec_Assign_Name_used _ _ _ _ k];refine wpAny_bind (kY (wpAny_bind ?_));show wpAny _ X.A (do let _ <- comprehension (.ListComp elt [⟨tg,iter,ifs,0⟩] scope pos) scope X.env _ (newList []) false (eval iter X.env) (some (QM (.Name y py) X.env))) _ _ s;refine wpAny_bind (wpAny_mono (zCk (use:=some (QM (.Name y py) X.env)) (Q:=λ_ s'=>SP X d t .next s') rfl J S.clos S.kind S.names
  (thn (hi d s σ H _ I h) λv s1 L=>thn L λM s2 O=>?_)) (λ_ s' P=>wpAny_pure (wpAny_pure P)) λ_ _ e=>e)
 refine VL u S B E G (F:=λD l=>t.nx (σ.set i (some (.ref D))) l) O λD C s' l hn n o R _ T q=>?_;obtain⟨m,hn⟩:=hn;show wpAny _ X.A (QM (.Name y py) X.env (.ref D)) _ _ _;refine Uh (KQ R w j z (v:=.ref D) rfl (λU V ⟨a,f,ha⟩=>?_) K);have p:C≠a:=by
  rcases ha with rfl | ha
  ·exact n
  ·exact qM (o y a ha)
 refine⟨m,hn.sameBut f p,λh' r=>⟨σ.set i (some (.ref D)),l,T _ U V ⟨a,f,?_⟩ h' r,q⟩⟩;rcases ha with rfl | ha
 ·exact .inl rfl
 ·exact .inr ⟨y,ha⟩
end
end L2
namespace L2
open PySem PySem.Spec PyProof.Rows
noncomputable def Its (z:Str):It:=⟨λi _=>i < z.length,λi H x a=>a=H/\∃ c,z.cps[i]? = some c/\x=.str ⟨#[c]⟩,λi _=>z.length <= i⟩
theorem WK {P:zW}{w:zR}{K:PySem.W.Frag}{tg:zF} (it:zA) (z:Str) (t:Tok):ZZ P w K tg (Its z) [it] it (λi h=>h.IsStrIter it "str_ascii_iterator" z t i) where
 mem:=by simp
 obj:=λi h st b f=>by
  have e:b=it:=by simpa using f
  subst e;obtain⟨o,e,c,d⟩:=st;exact⟨o,e,λv z=>by rw[d] at z;cases z⟩
 keep:=λi h h' st k=>let ⟨o,D,r⟩:=st;⟨o,k it (by simp) o D,r⟩
 item:=by
  intro X m hw n C i a s σ H E I l st p;subst m hw n;obtain⟨q,u,F,x,y,A⟩:=l it (by simp);have g:i < z.cps.size:=p;refine wpAny_pyNext_ascii_item st (c:=z.cps[i]) (by simp[g]) λh' j sb=>?_;have G:Inv X a σ H { s with heap:=h',toks:=s.toks+1 }:=I.turned (λb o f e=>(sb.2 b f).trans e) q u x y A;obtain⟨o,e,c,d⟩:=id j;exact⟨_,rfl,xB (s:={ s with heap:=h',toks:=s.toks+1 }) e c d (by decide) ⟨.str ⟨#[z.cps[i]]⟩,H,G,⟨_,rfl⟩,⟨rfl,z.cps[i],by simp[g],rfl⟩,j,λb f=>(l b f).1⟩⟩
 done:=by
  intro X m hw n C i a s σ H E I l st p;subst m hw n;obtain⟨q,u,F,x,y,A⟩:=l it (by simp);have B:z.cps.size <= i:=p;exact wpAny_pyNext_ascii_end (I.ok.hd C) st (by simp[B]) λh' J=>⟨rfl,I.turned (t':=s.toks) (λb o f e=>J b o f e) q u x y A⟩
 self:=λ_ _ _ _ _ st h=>wpAny_pyIter_striter_ascii st h
theorem wZ {P:zW}{w:zR}{K:PySem.W.Frag}{tg:zF} (it:zA) (z:Str) (t:Tok):ZZ P w K tg (Its z) [it] it (λi h=>h.IsStrIter it "str_iterator" z t i) where
 mem:=by simp
 obj:=λi h st b f=>by
  have e:b=it:=by simpa using f
  subst e;obtain⟨o,e,c,d⟩:=st;exact⟨o,e,λv z=>by rw[d] at z;cases z⟩
 keep:=λi h h' st k=>let ⟨o,D,r⟩:=st;⟨o,k it (by simp) o D,r⟩
 item:=by
  intro X m hw n C i a s σ H E I l st p;subst m hw n;obtain⟨q,u,F,x,y,A⟩:=l it (by simp);have g:i < z.cps.size:=p;refine wpAny_pyNext_wide_item st (c:=z.cps[i]) (by simp[g]) λh' j sb=>?_;have G:Inv X a σ H { s with heap:=h',toks:=s.toks+1 }:=I.turned (λb o f e=>(sb.2 b f).trans e) q u x y A;obtain⟨o,e,c,d⟩:=id j;exact⟨_,rfl,xB (s:={ s with heap:=h',toks:=s.toks+1 }) e c d (by decide) ⟨.str ⟨#[z.cps[i]]⟩,H,G,⟨_,rfl⟩,⟨rfl,z.cps[i],by simp[g],rfl⟩,j,λb f=>(l b f).1⟩⟩
 done:=by
  intro X m hw n C i a s σ H E I l st p;subst m hw n;obtain⟨q,u,F,x,y,A⟩:=l it (by simp);have B:z.cps.size <= i:=p;exact wpAny_pyNext_wide_end (I.ok.hd C) st (by simp[B]) λh' J=>⟨rfl,I.turned (t':=s.toks) (λb o f e=>J b o f e) q u x y A⟩
 self:=λ_ _ _ _ _ st h=>wpAny_pyIter_striter_wide st h
noncomputable def zDo (a:TE):TI:=λσ H R=>a σ H λx b=>∃ z,x=.str z/\R (Its z) b
theorem wT {X:Cx}{tg l:zF}{g:TE} (i:PE X l g):PI X tg l (zDo g):=by
 intro a s σ H R I h;refine thn (i a s σ H _ I h) λv s1 ⟨x,f,d,j,k⟩=>?_;obtain⟨z,e,q⟩:=k;subst e;obtain⟨t,rfl⟩:=j;have c:∀ b∈[s1.heap.objs.size],yA X a f b:=λb m=>by
  have e:b=s1.heap.objs.size:=by simpa using m
  subst e;exact d.fpOk (zl _) (d.hok.fresh (zl _))
 cases ha:z.cps.all (· < 128)
 ·refine wpAny_pyIter_wide ha ?_;exact⟨s1.heap.objs.size,[s1.heap.objs.size],_,Its z,f,rfl,d.kept (t':=s1.toks) λb o e=>jd _ e,wZ _ z t,⟨_,yQ _ rfl,rfl,rfl⟩,c,q⟩
 ·refine wpAny_pyIter_ascii ha ?_;exact⟨s1.heap.objs.size,[s1.heap.objs.size],_,Its z,f,rfl,d.kept (t':=s1.toks) λb o e=>jd _ e,WK _ z t,⟨_,yQ _ rfl,rfl,rfl⟩,c,q⟩
section
variable {X:Cx}
theorem zA7:OpR X (zm .LtE) (λx y H Q=>∃ i j,x=.str i/\y=.str j/\Q (.bl (!decide (j.cps.toList < i.cps.toList))) H):=by
 intro a s σ H x y v u Q I rx ry h;obtain⟨i,j,rfl,rfl,q⟩:=h;obtain⟨t,rfl⟩:=rx;obtain⟨t',rfl⟩:=ry;exact PySem.P.le_str (z7 I q rfl)
noncomputable def JN (z:Str) (lo hi:Option Int):Str:=⟨((z.cps.toList.drop (HT.sIx z.length 0 lo)).take (HT.sIx z.length z.length hi - HT.sIx z.length 0 lo)).toArray⟩
theorem zFG (lo hi:Option Int) (n:Nat):zFL lo hi 1 n=(jA (HT.sIx n n hi - HT.sIx n 0 lo)).map λk=>HT.sIx n 0 lo+k:=by
 have c:∀ v:Int,max 0 (min (if v < 0 then v+(n:Int) else v) (n:Int))=((HT.sIx n 0 (some v):Nat):Int)/\max 0 (min (if v < 0 then v+(n:Int) else v) (n:Int))=((HT.sIx n n (some v):Nat):Int):=λv=>by
  unfold HT.sIx;by_cases e:v < 0
  ·simp only[if_pos e];omega
  ·simp only[if_neg e];omega
 have d:∀ a b:Nat,sliceRange (a:Int) (b:Int) 1=(jA (b - a)).map λk=>a+k:=λa b=>by
  unfold sliceRange;have f:(if (1:Int) > 0 then (if (a:Int) < (b:Int) then ((b:Int) - a+1 - 1) / 1 else 0) else (if (a:Int) > (b:Int) then ((a:Int) - b - 1 - 1) / (-1) else 0)).toNat=b - a:=by
   rw[if_pos (by decide)];by_cases h:(a:Int) < (b:Int)
   ·rw[if_pos h,zCz];omega
   ·rw[if_neg h];omega
  dsimp only;rw[f];refine Zv λk _=>?_;omega
 unfold zFL;cases lo with
 | none =>
  cases hi with
  | none=>exact d 0 n
  | some v =>
   simp only[show (1:Int) > 0 by decide,if_true];rw[(c v).2];exact d 0 _
 | some u =>
  cases hi with
  | none =>
   simp only[show (1:Int) > 0 by decide,if_true];rw[(c u).1];exact d _ n
  | some v =>
   simp only[show (1:Int) > 0 by decide,if_true];rw[(c u).1,(c v).2];exact d _ _
theorem zBh {b:Type} (xs:Array b) (a m:Nat):((jA m).map λk=>a+k).filterMap (xs[·]?)=(xs.toList.drop a).take m:=by
 rw[Ws]
 induction m generalizing a with
 | zero=>simp
 | succ m c =>
  rw[List.range_succ,List.filterMap_append,c,List.take_succ]
  congr 1
  simp only[JX,List.filterMap_nil,Function.comp];rw[ut,Array.getElem?_toList];cases xs[a+m]?<;>rfl
theorem zEq (z:Str) (lo hi:Option Int):XL z lo hi=JN z lo hi:=by
 have c:=HT.vI z.length 0 (vP _) lo;have d:=HT.vI z.length z.length (zl _) hi;unfold XL JN;rw[zFG,zBh];split
 ·rename_i h;rw[j5,Zm] at h;have a:HT.sIx z.length z.length hi - HT.sIx z.length 0 lo=z.length:=by
   have h':=(Bool.and_eq_true_iff.mp h).2;exact eq_of_beq h'
  have b:HT.sIx z.length 0 lo=0:=by omega
  rw[a,b,V7];have e:z.cps.toList.length=z.length:=by simp[vL]
  rw[Q5 (by omega)]
 ·rfl
noncomputable def zDp:V->Option Int->Option Int->Hp->VK->Prop:=λx lo hi H Q=>∃ z,x=.str z/\z.length <= zV/\Q (.str (JN z lo hi)) H
theorem zA8:SlR X zDp:=by
 intro b s σ H x v y A lo hi B Q I rx m p f h;obtain⟨z,rfl,r,q⟩:=h;obtain⟨t,rfl⟩:=rx;refine⟨"str",_,F.slot_str_getitem.lookup,Yx _ _ _,qg (n:=1) I.tk ?_⟩;obtain⟨o,c,d,hd⟩:=m;have a:(XL z lo hi).length <= zV/\∀ t' k,1 <= ({ s with toks:=k }:zD).toks->EP X b σ Q (.str (XL z lo hi) t') { s with toks:=k } :=
  ⟨zx (Txt.slice_le z lo hi) r,λt' k w=>⟨.str (XL z lo hi),H,I.tok k w,⟨_,rfl⟩,by rw[zEq];exact q⟩⟩
 cases p with
 | none =>
  cases f with
  | none=>exact vM (l:=none) (u:=none) (st:=none) ⟨o,c,d,hd⟩ rfl (vB a)
  | int j e=>exact vM (l:=none) (u:=some (j,e)) (st:=none) ⟨o,c,d,hd⟩ rfl (vB a)
 | int i g =>
  cases f with
  | none=>exact vM (l:=some (i,g)) (u:=none) (st:=none) ⟨o,c,d,hd⟩ rfl (vB a)
  | int j e=>exact vM (l:=some (i,g)) (u:=some (j,e)) (st:=none) ⟨o,c,d,hd⟩ rfl (vB a)
theorem Yl {ys:List Str}:∀ {us:List zB},zS (ys.map V.str) us->StrsAre us ys:=by
 induction ys with
 | nil=>intro us r;rw[XS] at r;cases r;exact .nil
 | cons y ys a =>
  intro us r;rw[qH] at r;cases r with
  | cons b c =>
   obtain⟨t,e⟩:=b;subst e;exact .cons y t (a c)
noncomputable def xL (K:PySem.W.Frag):V->List V->Hp->VK->Prop:=λx a H Q=>∃ z p ys,x=.str z/\a=[.ref p]/\(SqL K H p (ys.map V.str)\/SqT K H p (ys.map V.str))/\(ys.map (·.length)).sum+ys.length * z.length <= 16777216/\Q (.str (KA z ys)) H
theorem KG:MtR X "str.join" (xL X.K):=by
 intro d s σ H x i v us Q I rx f h;obtain⟨z,p,ys,rfl,rfl,a,e,q⟩:=h;obtain⟨t,rfl⟩:=rx;obtain⟨u,rfl,g⟩:=ZJ f;cases g;rcases a with a | a
 ·obtain⟨its,r,b,_⟩:=I.list a;exact qg (n:=1) I.tk (join_list b.isList (by simpa using Yl r) e λt' k c=>⟨.str (KA z ys),H,I.tok k c,⟨_,rfl⟩,q⟩)
 ·obtain⟨its,r,b,_⟩:=I.tuple a;exact qg (n:=1) I.tk (join_tuple b (by simpa using Yl r) e λt' k c=>⟨.str (KA z ys),H,I.tok k c,⟨_,rfl⟩,q⟩)
end
end L2
namespace L2
open PySem PySem.Spec PyProof.Rows PySem.Builtin.Str
section
variable {X:Cx}
theorem Vg:MtR X "str.strip" (λx a H Q=>∃ z y,x=.str z/\a=[.str y]/\z.length <= zV/\Q (.str (KZ z y)) H):=by
 intro b s σ H x a v us Q I rx c h;obtain⟨z,y,rfl,rfl,d,q⟩:=h;obtain⟨t,rfl⟩:=rx;obtain⟨u,rfl,f,rfl⟩:=ZJ c;exact qg (n:=1) I.tk (SCL.stripChars (λt' k _ e=>⟨.str _,H,I.tok k e,⟨_,rfl⟩,q⟩) d)
theorem W7:MtR X "str.find" (λx a H Q=>∃ z y i,x=.str z/\a=[.str y,.int i]/\Q (.int (kP z y i)) H):=by
 intro b s σ H x a v us Q I rx c h;obtain⟨z,y,i,rfl,rfl,q⟩:=h;obtain⟨t,rfl⟩:=rx;obtain⟨u,d,rfl,⟨e,rfl⟩,⟨f,rfl⟩⟩:=Vq c;exact SC.find3 ⟨.int _,H,I.tok _,⟨_,rfl⟩,q⟩
theorem zDU:OpR X (qC .Mult) (λx y H Q=>∃ z n,x=.str z/\y=.int n/\MulOk z n/\Q (.str (km z n)) H):=by
 intro a s σ H x y v u Q I rx ry h;obtain⟨z,n,rfl,rfl,b,q⟩:=h;obtain⟨t,rfl⟩:=rx;obtain⟨t',rfl⟩:=ry;exact qg (n:=1) I.tk (SB.mul b λt' k c=>⟨.str _,H,I.tok k c,⟨_,rfl⟩,q⟩)
theorem wD {bs:List Bool}:∀ {us:List zB},zS (bs.map V.bl) us->us=bs.map ZP:=by
 induction bs with
 | nil=>intro us r;rw[XS] at r;cases r;rfl
 | cons b bs a =>
  intro us r;rw[qH] at r;cases r with
  | cons c d=>rw[a d];cases c;rfl
theorem zCd (bs:List Bool):((jA bs.length).all λi=>bs.getD i false)=bs.all id:=by
 induction bs with
 | nil=>rfl
 | cons b bs a =>
  rw[yN,zD2,Ze,Vn,Ze,<- a];rfl
noncomputable def YW (K:PySem.W.Frag):List V->Hp->VK->Prop:=λxs H Q=>∃ (p:zA) (bs:List Bool),xs=[.ref p]/\SqL K H p (bs.map V.bl)/\Q (.bl (bs.all id)) H
theorem W0 (m:X.calm=true):jo X (.builtin "all") (YW X.K):=by
 intro l s σ H xs us Q I r h;obtain⟨p,bs,rfl,t,q⟩:=h;obtain⟨u,rfl,w⟩:=ZJ r;cases w;obtain⟨its,x,c,D⟩:=I.list t;have e:=wD x;subst e;obtain⟨o,y,z⟩:=c.isList;have d:p < s.heap.objs.size:=ze y;refine qg (n:=1) I.tk (call_all_walk (zCG c.isList ?_));refine⟨s.heap.objs.size,_,_,_,_,_,λi=>bs.getD i false,rfl,Walks.list (show X.A.in1.handled=none from I.ok.hd m) s.heap.objs.size p (z5 d) (bs.map ZP).toArray,⟨⟨_,yQ _ rfl,rfl,rfl⟩,c.isList.push _⟩,?_,λh' tk B f=>?_⟩
 ·intro i v s' E F C g;have a:(bs.map ZP)[i]? = some v:=by simpa using C
  rw[ZL] at a;cases j:bs[i]? with
  | none=>rw[j] at a;cases a
  | some b =>
   rw[j] at a;cases a;have e:bs.getD i false=b:=by simp[List.getD,j]
   dsimp only at g;rw[e] at g;exact ZB g
 ·have k:∀ b o,s.heap.get? b=some o->h'.get? b=some o:=λb o e=>B b o (by simpa using z5 (ze e)) (jd _ e);refine⟨.bl (bs.all id),H,I.kept k f,?_,q⟩;show ZP _=ZP _;rw[<- zCd];simp
end
mutual
inductive jb (K:PySem.W.Frag) (H:Hp):V->yk->Prop
 | non:jb K H .non .none
 | bl (b:Bool):jb K H (.bl b) (.bool b)
 | int (i:Int):jb K H (.int i) (.int i)
 | str (x:Str):jb K H (.str x) (.str x)
 | lst {p:zA}{xs:List V}{ds:List yk}:SqL K H p xs->yC K H xs ds->jb K H (.ref p) (.list ds)
 | tup {p:zA}{xs:List V}{ds:List yk}:SqT K H p xs->yC K H xs ds->jb K H (.ref p) (.tuple ds)
inductive yC (K:PySem.W.Frag) (H:Hp):List V->List yk->Prop
 | nil:yC K H [] []
 | cons {v:V}{d:yk}{vs:List V}{ds:List yk}:jb K H v d->yC K H vs ds->yC K H (v::vs) (d::ds)
end
section
variable {X:Cx}{pins:List (zA×Obj)}{σ:St}{H:Hp}{s:zD}
mutual
theorem jb.reads (I:Inv X pins σ H s):∀ {v:V}{d:yk}{u:zB},jb X.K H v d->zY v u->∃ a,Reads s.heap u d a
 | _,_,_,.non,r=>by cases r;exact⟨_,.none⟩
 | _,_,_,.bl b,r=>by cases r;exact⟨_,.bool b⟩
 | _,_,_,.int i,r=>by obtain⟨t,rfl⟩:=r;exact⟨_,.int i t⟩
 | _,_,_,.str x,r=>by obtain⟨t,rfl⟩:=r;exact⟨_,.str x t⟩
 | _,_,_,.lst c ha,r=>by
  cases r;obtain⟨its,f,⟨o,n,e,g,hd,h⟩,_⟩:=I.list c;obtain⟨a,j⟩:=yC.reads I ha f;exact⟨_,.list e g h (by simpa using j)⟩
 | _,_,_,.tup c ha,r=>by
  cases r;obtain⟨its,f,⟨o,e,g,n,h⟩,_⟩:=I.tuple c;obtain⟨a,j⟩:=yC.reads I ha f;exact⟨_,.tuple e g h (by simpa using j)⟩
theorem yC.reads (I:Inv X pins σ H s):∀ {a:List V}{b:List yk}{us:List zB},yC X.K H a b->zS a us->∃ c,ReadsAll s.heap us b c
 | _,_,_,.nil,r=>by cases r;exact⟨_,.nil⟩
 | _,_,_,.cons h t,r=>by
  cases r with
  | cons d e =>
   obtain⟨c,f⟩:=jb.reads I h d;obtain⟨bs,g⟩:=yC.reads I t e;exact⟨_,.cons f g⟩
end
end
section
variable {X:Cx}
noncomputable def vb (K:PySem.W.Frag) (neg:Bool):R2:=λx y H Q=>∃ d e,jb K H x d/\jb K H y e/\qm d=true/\qm e=true/\Q (.bl (if neg then !QK d e else QK d e)) H
theorem zBN {k:Nat} (b:za k X.A):OpR X (zm .Eq) (vb X.K false):=by
 intro a s σ H x y v u Q I rx ry h;obtain⟨d,e,hd,c,f,g,q⟩:=h;obtain⟨l,i⟩:=hd.reads I rx;obtain⟨bs,j⟩:=c.reads I ry;exact eq_dataH i j f g b.units ⟨.bl _,H,I,rfl,q⟩
theorem Uf {k:Nat} (i:za k X.A):OpR X (zm .NotEq) (vb X.K true):=by
 intro b s σ H x y v u Q I rx ry h;obtain⟨d,e,hd,j,l,m,q⟩:=h;obtain⟨r,o⟩:=hd.reads I rx;obtain⟨bs,p⟩:=j.reads I ry;exact ne_dataH o p l m i.units ⟨.bl _,H,I,rfl,q⟩
where f:V->zB->Prop:=λc g=>(∃ n,c=.ty n/\g=.type n)\/∃ a,c=.ref a/\g=.ref a
end
end L2
namespace L2
open PySem PySem.Spec PyProof.Rows
section
variable {X:Cx}
noncomputable def Yp:R2:=λx y H Q=>match x,y with
 | .int i,.int j=>Q (.int (i+j)) H
 | .str a,.str b=>a.length+b.length <= zV/\Q (.str (a++b)) H
 | .ref l,.ref b=>∃ xs c,H l=some (.lst xs)/\H b=some (.lst c)/\xs.length+c.length <= zV/\∀ p,H p=none->Q (.ref p) (upd H p (.lst (xs++c)))
 | _,_=>False
theorem jJ:OpR X (qC .Add) Yp:=by
 intro c s σ H x y v u Q I rx ry h;cases x with
 | int i =>
  cases y with
  | int j=>exact zFh c s σ H _ _ v u Q I rx ry ⟨i,j,rfl,rfl,h⟩
  | _=>exact zd h
 | str a =>
  cases y with
  | str b=>exact zEk c s σ H _ _ v u Q I rx ry ⟨a,b,rfl,rfl,h⟩
  | _=>exact zd h
 | ref l =>
  cases y with
  | ref b =>
   obtain⟨xs,d,e,f,g,k⟩:=h;exact zBr c s σ H _ _ v u Q I rx ry ⟨l,b,xs,d,rfl,rfl,e,f,g,k⟩
  | _=>exact zd h
 | _=>exact zd h
noncomputable def Vy:R2:=λx y H Q=>match x,y with
 | .int i,.int j=>kO i j/\Q (.int (i * j)) H
 | .str z,.int n=>MulOk z n/\Q (.str (km z n)) H
 | _,_=>False
theorem zCH:OpR X (qC .Mult) Vy:=by
 intro a s σ H x y v u Q I rx ry h;cases x with
 | int i =>
  cases y with
  | int j=>exact zFK a s σ H _ _ v u Q I rx ry ⟨i,j,rfl,rfl,h⟩
  | _=>exact zd h
 | str z =>
  cases y with
  | int n=>exact zDU a s σ H _ _ v u Q I rx ry ⟨z,n,rfl,rfl,h⟩
  | _=>exact zd h
 | _=>exact zd h
noncomputable def uo:R2:=λx y H Q=>match x,y with
 | .int i,.int j=>0 < j/\Q (.int (i % j)) H
 | _,_=>False
theorem jy:OpR X (qC .Mod) uo:=by
 intro a s σ H x y v u Q I rx ry h;cases x with
 | int i =>
  cases y with
  | int j=>exact zAx a s σ H _ _ v u Q I rx ry ⟨i,j,rfl,rfl,h⟩
  | _=>exact zd h
 | _=>exact zd h
noncomputable def uX:R2:=λx y H Q=>match x,y with
 | .int i,.int j=>(0 < j/\j < 1073741824)/\Q (.int (i / j)) H
 | _,_=>False
theorem yY:OpR X (qC .FloorDiv) uX:=by
 intro a s σ H x y v u Q I rx ry h;cases x with
 | int i =>
  cases y with
  | int j=>exact zAX a s σ H _ _ v u Q I rx ry ⟨i,j,rfl,rfl,h⟩
  | _=>exact zd h
 | _=>exact zd h
noncomputable def uLt:R2:=λx y H Q=>match x,y with
 | .int i,.int j=>Q (.bl (decide (i < j))) H
 | .str i,.str j=>Q (.bl (decide (i.cps.toList < j.cps.toList))) H
 | _,_=>False
theorem Zh:OpR X (zm .Lt) uLt:=by
 intro a s σ H x y v u Q I rx ry h;cases x with
 | int i =>
  cases y with
  | int j=>exact zBx a s σ H _ _ v u Q I rx ry ⟨i,j,rfl,rfl,h⟩
  | _=>exact zd h
 | str i =>
  cases y with
  | str j=>exact zEH a s σ H _ _ v u Q I rx ry ⟨i,j,rfl,rfl,h⟩
  | _=>exact zd h
 | _=>exact zd h
noncomputable def uLe:R2:=λx y H Q=>match x,y with
 | .int i,.int j=>Q (.bl (decide (i <= j))) H
 | .str i,.str j=>Q (.bl (!decide (j.cps.toList < i.cps.toList))) H
 | _,_=>False
theorem yy:OpR X (zm .LtE) uLe:=by
 intro a s σ H x y v u Q I rx ry h;cases x with
 | int i =>
  cases y with
  | int j=>exact Wg a s σ H _ _ v u Q I rx ry ⟨i,j,rfl,rfl,h⟩
  | _=>exact zd h
 | str i =>
  cases y with
  | str j=>exact zA7 a s σ H _ _ v u Q I rx ry ⟨i,j,rfl,rfl,h⟩
  | _=>exact zd h
 | _=>exact zd h
noncomputable def uGe:R2:=λx y H Q=>match x,y with
 | .int i,.int j=>Q (.bl (decide (j <= i))) H
 | _,_=>False
theorem uy:OpR X (zm .GtE) uGe:=by
 intro a s σ H x y v u Q I rx ry h;cases x with
 | int i =>
  cases y with
  | int j=>exact zBK a s σ H _ _ v u Q I rx ry ⟨i,j,rfl,rfl,h⟩
  | _=>exact zd h
 | _=>exact zd h
noncomputable def uIn (K:PySem.W.Frag) (neg:Bool):R2:=λx y H Q=>match x,y with
 | .str i,.str j=>Q (.bl (xor neg (!(Q9 j i 0 j.length 1).isEmpty))) H
 | x,.ref p=>∃ xs,(SqL K H p xs\/SqT K H p xs)/\j2 x=true/\xs.all j2=true/\Q (.bl (xor neg (inV x xs))) H
 | _,_=>False
theorem zAo:OpR X (zm .In) (uIn X.K false):=by
 intro a s σ H x y v u Q I rx ry h;cases y with
 | str j =>
  cases x with
  | str i =>
   have h':Q (.bl (xor false (!(Q9 j i 0 j.length 1).isEmpty))) H:=h;rw[Ko] at h';exact W2 a s σ H _ _ v u Q I rx ry ⟨i,j,rfl,rfl,h'⟩
  | _=>exact zd h
 | ref p =>
  have h':∃ xs,(SqL X.K H p xs\/SqT X.K H p xs)/\j2 x=true/\xs.all j2=true/\Q (.bl (xor false (inV x xs))) H:=by cases x<;>exact h
  obtain⟨xs,c,d,e,b⟩:=h';rw[Ko] at b;exact UX a s σ H _ _ v u Q I rx ry ⟨p,xs,rfl,c,d,e,b⟩
 | _=>cases x<;>exact zd h
theorem wf:OpR X (zm .NotIn) (uIn X.K true):=by
 intro a s σ H x y v u Q I rx ry h;cases y with
 | str j =>
  cases x with
  | str i =>
   have h':Q (.bl (xor true (!(Q9 j i 0 j.length 1).isEmpty))) H:=h;rw[vZ] at h';exact wR a s σ H _ _ v u Q I rx ry ⟨i,j,rfl,rfl,h'⟩
  | _=>exact zd h
 | ref p =>
  have h':∃ xs,(SqL X.K H p xs\/SqT X.K H p xs)/\j2 x=true/\xs.all j2=true/\Q (.bl (xor true (inV x xs))) H:=by cases x<;>exact h
  obtain⟨xs,c,d,e,b⟩:=h';rw[vZ] at b;exact zCt a s σ H _ _ v u Q I rx ry ⟨p,xs,rfl,c,d,e,b⟩
 | _=>cases x<;>exact zd h
noncomputable def uIx (K:PySem.W.Frag):R2:=λx y H Q=>match x,y with
 | .str z,.int i=>∃ c,z.length <= zV/\atI z.cps.toList i=some c/\Q (.str ⟨#[c]⟩) H
 | .ref p,.int i=>∃ xs v,(SqL K H p xs\/SqT K H p xs)/\atI xs i=some v/\Q v H
 | _,_=>False
theorem Uj:IxR X (uIx X.K):=by
 intro a b d s σ H x y v u Q I rx ry h j;cases x with
 | str z =>
  cases y with
  | int i =>
   obtain⟨c,e,f,g⟩:=h;exact zFm a b d s σ H _ _ v u Q I rx ry ⟨z,i,c,rfl,rfl,e,f,g⟩ j
  | _=>exact zd h
 | ref p =>
  cases y with
  | int i =>
   obtain⟨xs,c,e | e,f,g⟩:=h
   ·exact zCA a b d s σ H _ _ v u Q I rx ry ⟨p,xs,i,c,rfl,rfl,e,f,g⟩ j
   ·exact WH a b d s σ H _ _ v u Q I rx ry ⟨p,xs,i,c,rfl,rfl,e,f,g⟩ j
  | _=>exact zd h
 | _=>exact zd h
noncomputable def uSl (K:PySem.W.Frag):V->Option Int->Option Int->Hp->VK->Prop:=λx lo hi H Q=>match x with
 | .str z=>z.length <= zV/\Q (.str (JN z lo hi)) H
 | .ref a=>(∃ xs,SqL K H a xs/\∀ p,H p=none->Q (.ref p) (upd H p (.lst (yS xs lo hi)))) \/
   (∃ xs,SqT K H a xs /\ ¬ (HT.sIx xs.length 0 lo=0/\HT.sIx xs.length xs.length hi=xs.length)/\∀ p,H p=none->Q (.ref p) (upd H p (.tup (yS xs lo hi))))
 | _=>False
theorem qa:SlR X (uSl X.K):=by
 intro b s σ H x v c d lo hi e Q I rx f g i h;cases x with
 | str z=>exact zA8 b s σ H _ v c d lo hi e Q I rx f g i ⟨z,rfl,h⟩
 | ref a =>
  rcases h with ⟨xs,j,k⟩ | ⟨xs,j,k,l⟩
  ·exact zCj b s σ H _ v c d lo hi e Q I rx f g i ⟨a,xs,rfl,j,k⟩
  ·exact zDz b s σ H _ v c d lo hi e Q I rx f g i ⟨a,xs,rfl,j,k,l⟩
 | _=>exact zd h
noncomputable def YR (K:PySem.W.Frag):List V->Hp->VK->Prop:=λxs H Q=>match xs with
 | [.str z]=>z.length <= zV/\Q (.int z.length) H
 | [.ref p]=>∃ ys,(SqL K H p ys\/SqT K H p ys)/\Q (.int ys.length) H
 | _=>False
theorem zB8:jo X (.builtin "len") (YR X.K):=by
 intro a s σ H xs us Q I r h
 match xs,h with
 | [.str z],h=>exact zE4 a s σ H _ us Q I r ⟨z,rfl,h⟩
 | [.ref p],h =>
  obtain⟨ys,b,c⟩:=h;exact U8 a s σ H _ us Q I r ⟨p,ys,rfl,b,c⟩
theorem Vh:PIp X .Add (λx y H Q=>match x,y with | .int i,.int j=>Q (.int (i+j)) H | .str a,.str b=>a.length+b.length <= zV/\Q (.str (a++b)) H | _,_=>False):=by
 intro c s σ H x y v u Q I rx ry h;cases x with
 | int i =>
  cases y with
  | int j=>exact zAk c s σ H _ _ v u Q I rx ry ⟨i,j,rfl,rfl,h⟩
  | _=>exact zd h
 | str a =>
  cases y with
  | str b=>exact zCT c s σ H _ _ v u Q I rx ry ⟨a,b,rfl,rfl,h⟩
  | _=>exact zd h
 | _=>exact zd h
end
theorem qo:jk "len" = some (.builtin "len"):=by decide +kernel
theorem zBl:jk "all" = some (.builtin "all"):=by decide +kernel
theorem xf:jk "isinstance" = some (.builtin "isinstance"):=by decide +kernel
theorem zCP:jk "str" = some (.type "str"):=by decide +kernel
theorem U2:jk "int" = some (.type "int"):=by decide +kernel
theorem zEL:jk "bool" = some (.type "bool"):=by decide +kernel
theorem V3:jk "list" = some (.type "list"):=by decide +kernel
theorem zAG:jk "tuple" = some (.type "tuple"):=by decide +kernel
structure Has (P:zW) (w:zR) (K:PySem.W.Frag) (mg:Str->Option zB) (base:zJ) (x:Str) (k:Nat) (ps:List Str) (sp:Sp):Prop where
 ex:∃ f fd,zj P w K mg base CX0 k f fd ps sp/\qY K fd ps []/\PySem.W.keepIn K (.ref f)=true/\mg x=some (.ref f)
section
variable {X:Cx}{k kk:Nat}{x:Str}{ps:List Str}{sp:Sp}{e:zF}{es:List zF}{t:TA}{p pos:Pos}
theorem zEc (h:Has X.prog X.w X.K X.mg X.base x k ps sp) (d:za kk X.A) (g:k <= kk) (i:Gl X x) (ha:PA X (e::es) t) (j:yF CX0 X E0:=by exact QP) (a:(x == ("__debug__" : Str))=false:=by decide)
  (l:zn (e::es) X.env=(false,eval e X.env)::zn es X.env:=by rfl) (c:(ja pos (zn es X.env)).any (·.1)=false:=by rfl) :
  PE X (.Call (.Name x p) (e::es) [] pos) (Jt sp [] E0 t):=by
 obtain⟨f,fd,F,b,kp,m⟩:=h.ex;exact Vf F (d.mono g) i m kp b .nil j ha a l c
theorem zFF (h:Has X.prog X.w X.K X.mg X.base x k ps sp) (c:za kk X.A) (d:k <= kk) (g:Gl X x) (i:yF CX0 X E0:=by exact QP) (a:(x == ("__debug__" : Str))=false:=by decide) :
  PE X (.Call (.Name x p) [] [] pos) (Jt sp [] E0 KC):=by
 obtain⟨f,fd,F,b,kp,m⟩:=h.ex;exact zAq F (c.mono d) g m kp b .nil i a
structure zGW (mg:Str->Option zB) (x:Str) (v:V):Prop where
 ex:∃ u,mg x=some u/\zY v u
end
theorem QE {K:PySem.W.Frag}{A B:String}{b:Bool} (h:(if (XH A == XH B)=true then some true else if PySem.W.kitMeta B=true then (PySem.fastBuiltinMro A).map (·.contains (XH B)) else none)=some b):PySem.W.kitOne K (.type A) (.type B)=some b:=h
end L2
namespace TX
open PySem
noncomputable def sp (y:Nat):Nat:=if y=10 then 32 else y
end TX
namespace TS
open PySem PyProof.Rows
variable {prog:zW}{w:zR}{A:zZ}{E:zB->zD->Prop}{s:zD}{a₀:Array j9}{κ:KeyKind}
structure SG (a₀:Array j9) (st:SortSt):Prop where
 pm:(arrOf st).Perm a₀
 kd:kindOf st=oneType'
 fl:failedOf st=none
noncomputable def Ri (κ:KeyKind) (xs:Array j9) (lo k:Nat):Prop:=∀ i j,i <= j->j < k->κ.kle (KK κ xs (lo+i)) (KK κ xs (lo+j))
structure zGd (a₀:Array j9) (lo hi:Nat) (st st':SortSt):Prop where
 ok:SG a₀ st'
 out:∀ k,k < lo\/hi <= k->(arrOf st')[k]? = (arrOf st)[k]?
 pd:kU st'=kU st
noncomputable def kyo (κ:KeyKind) (p:j9):κ.α:=(κ.keyOf p.1).getD κ.dflt
noncomputable def VG (κ:KeyKind) (p:j9):Prop:=∃ a,κ.keyOf p.1=some a
structure MI (R:j9->j9->Prop) (l ra rb out:List j9):Prop where
 pm:(out++ra++rb).Perm l
 so:out.Pairwise R
 oa:∀ x,x∈out->∀ y,y∈ra->R x y
 ob:∀ x,x∈out->∀ y,y∈rb->R x y
 sa:ra.Pairwise R
 sb:rb.Pairwise R
structure zGO (st st':SortSt):Prop where
 kd:kindOf st'=kindOf st
 ar:arrOf st'=arrOf st
 pd:kU st'=kU st
 fl:failedOf st'=failedOf st
noncomputable def kl (κ:KeyKind) (p q:j9):Prop:=κ.kle (kyo κ p) (kyo κ q)
structure MG (κ:KeyKind) (x y:Array j9):Prop where
 kx:∀ p,p∈x.toList->VG κ p
 ky:∀ p,p∈y.toList->VG κ p
 rx:Ri κ x 0 x.size
 ry:Ri κ y 0 y.size
 nx:1 <= x.size
 ny:1 <= y.size
 fst:∀ p q,y[0]? = some p->x[0]? = some q->kl κ p q
 lst:∀ p q,y[y.size - 1]? = some p->x[x.size - 1]? = some q->kl κ p q
noncomputable abbrev H7:=Option (Array j9)×Nat×Nat×Array j9×Nat×Nat×Nat
noncomputable abbrev H6:=Option (Array j9)×Nat×Nat×Array j9×Nat×Nat
noncomputable abbrev H5:=Option (Array j9)×Nat×Nat×Array j9×Nat
noncomputable def Vr (κ:KeyKind) (xs:Array j9):List (Nat×Nat×Nat)->Nat->Nat->Prop
 | [],lo,hi=>lo=hi
 | r::t,lo,hi=>r.1=lo/\1 <= r.2.1/\Ri κ xs lo r.2.1/\Vr κ xs t (lo+r.2.1) hi
structure PR (κ:KeyKind) (a₀:Array j9) (lo:Nat) (st:SortSt):Prop where
 ok:SG a₀ st
 rn:Vr κ (arrOf st) (kU st).toList 0 lo
end TS
namespace M
noncomputable abbrev T:=List Nat
inductive Kd where
 | str | int | bool | list | tuple | dict
 deriving DecidableEq
inductive D where
 | non | bl (b:Bool) | int (i:Int) | str (x:T) | tup (ds:List D) | ro (ds:List D) | ref (i:Nat) | ty (n:Kd)
mutual
noncomputable def D.decEq:(a b:D)->Decidable (a=b)
 | .non,.non=>isTrue rfl
 | .bl a,.bl b=>if h:a=b then isTrue (by rw[h]) else isFalse (λe=>h (D.bl.inj e))
 | .int a,.int b=>if h:a=b then isTrue (by rw[h]) else isFalse (λe=>h (D.int.inj e))
 | .str a,.str b=>if h:a=b then isTrue (by rw[h]) else isFalse (λe=>h (D.str.inj e))
 | .ref a,.ref b=>if h:a=b then isTrue (by rw[h]) else isFalse (λe=>h (D.ref.inj e))
 | .ty a,.ty b=>if h:a=b then isTrue (by rw[h]) else isFalse (λe=>h (D.ty.inj e))
 | .tup a,.tup b=>match D.decEqs a b with
  | isTrue h=>isTrue (by rw[h])
  | isFalse h=>isFalse (λe=>h (D.tup.inj e))
 | .ro a,.ro b=>match D.decEqs a b with
  | isTrue h=>isTrue (by rw[h])
  | isFalse h=>isFalse (λe=>h (D.ro.inj e))
 | .non,.bl _ | .non,.int _ | .non,.str _ | .non,.tup _ | .non,.ro _ | .non,.ref _ | .non,.ty _=>isFalse (λe=>nomatch e)
 | .bl _,.non | .bl _,.int _ | .bl _,.str _ | .bl _,.tup _ | .bl _,.ro _ | .bl _,.ref _ | .bl _,.ty _=>isFalse (λe=>nomatch e)
 | .int _,.non | .int _,.bl _ | .int _,.str _ | .int _,.tup _ | .int _,.ro _ | .int _,.ref _ | .int _,.ty _=>isFalse (λe=>nomatch e)
 | .str _,.non | .str _,.bl _ | .str _,.int _ | .str _,.tup _ | .str _,.ro _ | .str _,.ref _ | .str _,.ty _=>isFalse (λe=>nomatch e)
 | .tup _,.non | .tup _,.bl _ | .tup _,.int _ | .tup _,.str _ | .tup _,.ro _ | .tup _,.ref _ | .tup _,.ty _=>isFalse (λe=>nomatch e)
 | .ro _,.non | .ro _,.bl _ | .ro _,.int _ | .ro _,.str _ | .ro _,.tup _ | .ro _,.ref _ | .ro _,.ty _=>isFalse (λe=>nomatch e)
 | .ref _,.non | .ref _,.bl _ | .ref _,.int _ | .ref _,.str _ | .ref _,.tup _ | .ref _,.ro _ | .ref _,.ty _=>isFalse (λe=>nomatch e)
 | .ty _,.non | .ty _,.bl _ | .ty _,.int _ | .ty _,.str _ | .ty _,.tup _ | .ty _,.ro _ | .ty _,.ref _=>isFalse (λe=>nomatch e)
noncomputable def D.decEqs:(a b:List D)->Decidable (a=b)
 | [],[]=>isTrue rfl
 | [],_::_=>isFalse (λe=>nomatch e)
 | _::_,[]=>isFalse (λe=>nomatch e)
 | a::r,b::t=>match D.decEq a b,D.decEqs r t with
  | isTrue h,isTrue k=>isTrue (by rw[h,k])
  | isFalse h,_=>isFalse (λe=>h (zA6 e).1)
  | _,isFalse k=>isFalse (λe=>k (zA6 e).2)
end
instance:DecidableEq D:=D.decEq
inductive O where
 | lst (xs:List D) | dct (kvs:List (D×D)) | fdc (kvs:List (D×D)) | dtt (kvs:List (D×D)) | ftt (kvs:List (D×D)) | ins (c:Nat) (fs:List (Option D))
 deriving DecidableEq
noncomputable abbrev S:=List O
noncomputable abbrev St:=List (Option D)
inductive R (α:Type) where
 | ok (a:α) (s:S) | exc (e:D) (s:S) | no
noncomputable def R.bind {b c:Type}:R b->(b->S->R c)->R c
 | .ok a s,f=>f a s
 | .exc e s,_=>.exc e s
 | .no,_=>.no
@[simp] theorem R.bind_ok {b c:Type} (a:b) (s:S) (f:b->S->R c):(R.ok a s).bind f=f a s:=rfl
@[simp] theorem R.bind_no {a b:Type} (f:a->S->R b):(R.no:R a).bind f=.no:=rfl
@[simp] theorem R.bind_exc {a b:Type} (e:D) (s:S) (f:a->S->R b):(R.exc e s:R a).bind f=.exc e s:=rfl
section
variable {α β:Type}{c:Prop} [Decidable c]
@[simp] theorem R.bind_ite (a b:R α) (f:α->S->R β):(if c then a else b).bind f=if c then a.bind f else b.bind f:=by split<;>rfl
@[simp] theorem R.ite_ok (a b:α) (s:S):(if c then R.ok a s else R.ok b s)=R.ok (if c then a else b) s:=by split<;>rfl
@[simp] theorem D.ite_bl (a b:Bool):(if c then D.bl a else D.bl b)=D.bl (if c then a else b):=by split<;>rfl
@[simp] theorem D.ite_int (a b:Int):(if c then D.int a else D.int b)=D.int (if c then a else b):=by split<;>rfl
@[simp] theorem D.ite_str (a b:T):(if c then D.str a else D.str b)=D.str (if c then a else b):=by split<;>rfl
@[simp] theorem D.ite_tup (a b:List D):(if c then D.tup a else D.tup b)=D.tup (if c then a else b):=by split<;>rfl
@[simp] theorem St.ite_some (a b:D):(if c then some a else some b)=some (if c then a else b):=by split<;>rfl
@[simp] theorem St.ite_cons (a b:Option D) (r t:St):(if c then a::r else b::t)=(if c then a else b)::(if c then r else t):=by split<;>rfl
end
noncomputable abbrev EM:=St->S->R D
noncomputable abbrev TM:=St->S->R Bool
noncomputable abbrev AM:=St->S->R (List D)
noncomputable def SZ:Nat:=16777216
@[simp] noncomputable def zC (i:Nat):EM:=λσ s=>match σ[i]? with
 | some (some d)=>.ok d s
 | _=>.no
@[simp] noncomputable def eC (d:D):EM:=λ_ s=>.ok d s
@[simp] noncomputable def eOp (f:D->D->S->R D) (a b:EM):EM:=λσ s=>(a σ s).bind λx s=>(b σ s).bind λy s=>f x y s
@[simp] noncomputable def eUn (f:D->S->R D) (a:EM):EM:=λσ s=>(a σ s).bind λx s=>f x s
@[simp] noncomputable def zM:AM:=λ_ s=>.ok [] s
@[simp] noncomputable def zH (a:EM) (r:AM):AM:=λσ s=>(a σ s).bind λx s=>(r σ s).bind λxs s=>.ok (x::xs) s
@[simp] noncomputable def x4 (a:AM):EM:=λσ s=>(a σ s).bind λxs s=>if xs.length <= SZ then .ok (.tup xs) s else .no
@[simp] noncomputable def alloc (o:O) (s:S):R D:=.ok (.ref s.length) (s++[o])
@[simp] noncomputable def QH (a:AM):EM:=λσ s=>(a σ s).bind λxs s=>if xs.length <= SZ then alloc (.lst xs) s else .no
@[simp] noncomputable def z6 (s:S) (i:Nat):Option (List D):=match s[i]? with
 | some (.lst xs)=>some xs
 | _=>none
@[simp] noncomputable def z0:D->D->S->R D
 | .int i,.int j,s=>.ok (.int (i+j)) s
 | .str a,.str b,s=>if a.length+b.length <= SZ then .ok (.str (a++b)) s else .no
 | .tup a,.tup b,s=>if a≠[]/\a.length+b.length <= SZ then .ok (.tup (a++b)) s else .no
 | .ref i,.ref j,s=>match s[i]?,s[j]? with
  | some (.lst xs),some (.lst ys)=>if xs.length+ys.length <= SZ then alloc (.lst (xs++ys)) s else .no
  | _,_=>.no
 | _,_,_=>.no
@[simp] noncomputable def zGR:D->D->S->R D
 | .int i,.int j,s=>.ok (.int (i - j)) s
 | _,_,_=>.no
noncomputable def qR (i:Int):Bool:=decide (i.natAbs < 18446744073709551616)
@[simp] noncomputable def q9:D->D->S->R D
 | .int i,.int j,s=>if qR i || qR j then .ok (.int (i * j)) s else .no
 | .str a,.int n,s=>if 0 <= n/\n.natAbs <= 1000000/\a.length * n.natAbs <= 1000000 then .ok (.str (zb n.toNat a).flatten) s else .no
 | .ref p,.int n,s=>match z6 s p with
  | some xs=>if n.natAbs <= 1000/\xs.length * n.natAbs <= 1000000 then alloc (.lst (zb n.toNat xs).flatten) s else .no
  | none=>.no
 | _,_,_=>.no
@[simp] noncomputable def qX:D->D->S->R D
 | .int i,.int j,s=>if 0 < j/\j.natAbs < 1073741824 then .ok (.int (i / j)) s else .no
 | _,_,_=>.no
@[simp] noncomputable def jc:D->D->S->R D
 | .int i,.int j,s=>if 0 < j then .ok (.int (i % j)) s else .no
 | _,_,_=>.no
@[simp] noncomputable def QW:D->S->R D
 | .int i,s=>.ok (.int (-i)) s
 | _,_=>.no
noncomputable abbrev CM:=D->D->S->R Bool
@[simp] noncomputable def cLt:CM
 | .int i,.int j,s=>.ok (decide (i < j)) s
 | .str a,.str b,s=>.ok (decide (a < b)) s
 | _,_,_=>.no
@[simp] noncomputable def cLe:CM
 | .int i,.int j,s=>.ok (decide (i <= j)) s
 | .str a,.str b,s=>.ok (!decide (b < a)) s
 | _,_,_=>.no
@[simp] noncomputable def cGe:CM
 | .int i,.int j,s=>.ok (decide (j <= i)) s
 | _,_,_=>.no
inductive P where
 | non | bl (b:Bool) | int (i:Int) | str (x:T) | tup (ps:List P) | lst (ps:List P)
mutual
noncomputable def P.eqv:P->P->Bool
 | .non,.non=>true
 | .bl a,.bl b=>a == b
 | .int a,.int b=>a == b
 | .bl a,.int b=>(if a then 1 else 0) == b
 | .int a,.bl b=>a == (if b then 1 else 0)
 | .str a,.str b=>a == b
 | .tup a,.tup b=>P.eqvs a b
 | .lst a,.lst b=>P.eqvs a b
 | _,_=>false
noncomputable def P.eqvs:List P->List P->Bool
 | [],[]=>true
 | a::r,b::t=>P.eqv a b && P.eqvs r t
 | _,_=>false
end
mutual
noncomputable def P.dep:P->Nat
 | .tup ps=>P.deps ps+1
 | .lst ps=>P.deps ps+1
 | _=>0
noncomputable def P.deps:List P->Nat
 | []=>0
 | p::ps=>max (P.dep p) (P.deps ps)
end
noncomputable def qJ (g:Nat->Option P):D->Option P
 | .non=>some .non
 | .bl b=>some (.bl b)
 | .int i=>some (.int i)
 | .str x=>some (.str x)
 | .tup a=>(all a).map .tup
 | .ro a=>(all a).map .lst
 | .ref i=>g i
 | .ty _=>none
where all:List D->Option (List P)
 | []=>some []
 | d::a=>match qJ g d,all a with
  | some p,some ps=>some (p::ps)
  | _,_=>none
noncomputable def toP:Nat->S->D->Option P
 | 0,_=>qJ λ_=>none
 | n+1,s=>qJ λi=>match z6 s i with
  | some xs=>(qJ.all (λj=>toP n s (.ref j)) xs).map .lst
  | none=>none
noncomputable def Zk:Nat:=9
noncomputable def qG (k:D) (a:List (D×D)):Option D:=a.lookup k
noncomputable def dEq (s:S) (a:List (D×D)):List (D×D)->Option Bool
 | []=>some true
 | (k,v)::r=>match qG k a with
  | none=>some false
  | some w=>match toP 8 s v,toP 8 s w,dEq s a r with
   | some p,some q,some b=>if P.dep p <= 64/\P.dep q <= 64 then some (P.eqv p q && b) else none
   | _,_,_=>none
noncomputable def XQ (x y:D) (s:S):R Bool:=match x,y with
 | .ref i,.ref j=>match s[i]?,s[j]? with
  | some (.dct ks),some (.dct a)=>if ks.length=a.length then (match dEq s a ks with | some b=>.ok b s | none=>.no) else .ok false s
  | _,_=>.no
 | _,_=>.no
@[simp] noncomputable def eqD (x y:D) (s:S):R Bool:=match x,y with
 | .str a,.str b=>.ok (decide (a=b)) s
 | .int a,.int b=>.ok (decide (a=b)) s
 | .bl a,.bl b=>.ok (decide (a=b)) s
 | .non,.non=>.ok true s
 | x,y=>match toP Zk s x,toP Zk s y with
  | some p,some q=>if P.dep p <= 64/\P.dep q <= 64 then .ok (P.eqv p q) s else .no
  | _,_=>XQ x y s
@[simp] noncomputable def cEq:CM:=λx y s=>eqD x y s
@[simp] noncomputable def cNe:CM:=λx y s=>(eqD x y s).bind λb s=>.ok (!b) s
noncomputable def qZ (a:T):T->Bool
 | []=>a.isEmpty
 | c::r=>a.isPrefixOf (c::r) || qZ a r
noncomputable def flat:D->Bool
 | .non=>true
 | .bl _=>true
 | .int _=>true
 | .str _=>true
 | _=>false
noncomputable def eqF:D->D->Bool
 | .non,.non=>true
 | .bl a,.bl b=>a == b
 | .int a,.int b=>a == b
 | .bl a,.int b=>(if a then 1 else 0) == b
 | .int a,.bl b=>a == (if b then 1 else 0)
 | .str a,.str b=>a == b
 | _,_=>false
noncomputable def yK (x:D) (xs:List D):Bool:=xs.any λy=>eqF y x
noncomputable def ZE:D->Bool
 | .int _=>true
 | .str _=>true
 | _=>false
@[simp] noncomputable def inD (x y:D) (s:S):R Bool:=match y with
 | .str b=>match x with
  | .str a=>.ok (qZ a b) s
  | _=>.no
 | .tup ys=>if flat x && ys.all flat then .ok (yK x ys) s else .no
 | .ro ys=>if flat x && ys.all flat then .ok (yK x ys) s else .no
 | .ref i=>match s[i]? with
  | some (.lst ys)=>if flat x && ys.all flat then .ok (yK x ys) s else .no
  | some (.dct c)=>if ZE x then .ok (qG x c).isSome s else .no
  | some (.fdc c)=>if ZE x then .ok (qG x c).isSome s else .no
  | _=>.no
 | _=>.no
@[simp] noncomputable def cIn:CM:=λx y s=>inD x y s
@[simp] noncomputable def xN:CM:=λx y s=>(inD x y s).bind λb s=>.ok (!b) s
@[simp] noncomputable def Qg (c:CM) (a b:EM):EM:=λσ s=>(a σ s).bind λx s=>(b σ s).bind λy s=>(c x y s).bind λk s=>.ok (.bl k) s
@[simp] noncomputable def zg (c:CM) (a b:EM):TM:=λσ s=>(a σ s).bind λx s=>(b σ s).bind λy s=>c x y s
@[simp] noncomputable def Jh (c d:CM) (a b e:EM):EM:=λσ s=>(a σ s).bind λx s=>(b σ s).bind λy s=>(c x y s).bind λk s =>
 if k then (e σ s).bind λz s=>(d y z s).bind λk s=>.ok (.bl k) s else .ok (.bl false) s
@[simp] noncomputable def Zp (c d:CM) (a b e:EM):TM:=λσ s=>(a σ s).bind λx s=>(b σ s).bind λy s=>(c x y s).bind λk s =>
 if k then (e σ s).bind λz s=>d y z s else .ok false s
@[simp] noncomputable def v3:D->Bool
 | .non=>true
 | _=>false
@[simp] noncomputable def x6 (a:EM):TM:=λσ s=>(a σ s).bind λx s=>.ok (!v3 x) s
@[simp] noncomputable def yV:D->S->R Bool
 | .non,s=>.ok false s
 | .bl b,s=>.ok b s
 | .int i,s=>.ok (decide (i≠0)) s
 | .str x,s=>if x.length <= SZ then .ok (!x.isEmpty) s else .no
 | .tup a,s=>.ok (!a.isEmpty) s
 | .ro a,s=>.ok (!a.isEmpty) s
 | .ref i,s=>match s[i]? with
  | some (.lst xs)=>.ok (!xs.isEmpty) s
  | some (.dct c)=>.ok (!c.isEmpty) s
  | _=>.no
 | .ty _,_=>.no
@[simp] noncomputable def jv (a:EM):TM:=λσ s=>(a σ s).bind yV
@[simp] noncomputable def qB (a:TM):TM:=λσ s=>(a σ s).bind λb s=>.ok (!b) s
@[simp] noncomputable def yd (a b:TM):TM:=λσ s=>(a σ s).bind λk s=>if k then b σ s else .ok false s
@[simp] noncomputable def tOr (a b:TM):TM:=λσ s=>(a σ s).bind λk s=>if k then .ok true s else b σ s
@[simp] noncomputable def asB:D->S->R Bool
 | .bl b,s=>.ok b s
 | _,_=>.no
@[simp] noncomputable def vm (a:EM):EM:=λσ s=>(a σ s).bind λx s=>(asB x s).bind λk s=>.ok (.bl (!k)) s
@[simp] noncomputable def xr (a b:EM):EM:=λσ s=>(a σ s).bind λx s=>(asB x s).bind λk s=>if k then b σ s else .ok (.bl false) s
@[simp] noncomputable def eOr (a b:EM):EM:=λσ s=>(a σ s).bind λx s=>(asB x s).bind λk s=>if k then .ok (.bl true) s else b σ s
@[simp] noncomputable def eIf (c:TM) (a b:EM):EM:=λσ s=>(c σ s).bind λk s=>if k then a σ s else b σ s
noncomputable def ixN (n:Nat) (i:Int):Option Nat:=if 0 <= i then (if i < n then some i.toNat else none) else if -(n:Int) <= i then some (i+n).toNat else none
noncomputable def atI {a:Type} (xs:List a) (i:Int):Option a:=(ixN xs.length i).bind λj=>xs[j]?
@[simp] noncomputable def zu:D->D->S->R D
 | .str x,.int i,s=>if x.length <= SZ then (match atI x i with | some c=>.ok (.str [c]) s | none=>.no) else .no
 | .tup xs,.int i,s=>match atI xs i with | some d=>.ok d s | none=>.no
 | .ro xs,.int i,s=>match atI xs i with | some d=>.ok d s | none=>.no
 | .ref p,k,s=>match s[p]? with
  | some (.lst xs)=>(match k with | .int i=>(match atI xs i with | some d=>.ok d s | none=>.no) | _=>.no)
  | some (.dct a)=>if ZE k then (match qG k a with | some d=>.ok d s | none=>.no) else .no
  | some (.fdc a)=>if ZE k then (match qG k a with | some d=>.ok d s | none=>.no) else .no
  | _=>.no
 | _,_,_=>.no
noncomputable def sIx (n d:Nat):Option Int->Nat
 | none=>d
 | some v=>(if v < 0 then max (v+(n:Int)) 0 else min v (n:Int)).toNat
noncomputable def cut {a:Type} (xs:List a) (lo hi:Option Int):List a:=(xs.drop (sIx xs.length 0 lo)).take (sIx xs.length xs.length hi - sIx xs.length 0 lo)
noncomputable abbrev OM:=St->S->R (Option Int)
@[simp] noncomputable def yO:OM:=λ_ s=>.ok none s
@[simp] noncomputable def jI (a:EM):OM:=λσ s=>(a σ s).bind λx s=>match x with | .int i=>.ok (some i) s | _=>.no
@[simp] noncomputable def slD (x:D) (lo hi:Option Int) (s:S):R D:=match x with
 | .str z=>if z.length <= SZ then .ok (.str (cut z lo hi)) s else .no
 | .tup xs=>if sIx xs.length 0 lo=0/\sIx xs.length xs.length hi=xs.length then .no else .ok (.tup (cut xs lo hi)) s
 | .ro xs=>alloc (.lst (cut xs lo hi)) s
 | .ref p=>match z6 s p with
  | some xs=>alloc (.lst (cut xs lo hi)) s
  | none=>.no
 | _=>.no
@[simp] noncomputable def eSl (a:EM) (lo hi:OM):EM:=λσ s=>(a σ s).bind λx s=>(lo σ s).bind λl s=>(hi σ s).bind λh s=>slD x l h s
noncomputable abbrev F:=List D->S->R D
@[simp] noncomputable def zQ (f:F) (a:AM):EM:=λσ s=>(a σ s).bind λxs s=>f xs s
@[simp] noncomputable def yP (k:Kd) (x:D) (s:S):Bool:=match x with
 | .str _=>(match k with | .str=>true | _=>false)
 | .ro _=>(match k with | .list=>true | _=>false)
 | .ref p=>match s[p]? with
  | some (.lst _)=>(match k with | .list=>true | _=>false)
  | some (.dct _)=>(match k with | .dict=>true | _=>false)
  | some (.dtt _)=>(match k with | .dict=>true | _=>false)
  | _=>false
 | _=>false
@[simp] noncomputable def eM (k:Kd) (f:D->F) (o:EM) (a:AM):EM:=λσ s=>(o σ s).bind λx s=>if yP k x s then (a σ s).bind λxs s=>f x xs s else .no
@[simp] noncomputable def jg:F
 | [.str x],s=>if x.length <= SZ then .ok (.int x.length) s else .no
 | [.tup xs],s=>.ok (.int xs.length) s
 | [.ro xs],s=>.ok (.int xs.length) s
 | [.ref p],s=>match s[p]? with
  | some (.lst xs)=>.ok (.int xs.length) s
  | some (.dct a)=>.ok (.int a.length) s
  | _=>.no
 | _,_=>.no
@[simp] noncomputable def yi (n:Kd) (x:D) (s:S):R Bool:=match x with
 | .non=>.ok false s
 | .bl _=>.ok (match n with | .bool=>true | .int=>true | _=>false) s
 | .int _=>.ok (match n with | .int=>true | _=>false) s
 | .str _=>.ok (match n with | .str=>true | _=>false) s
 | .tup _=>.ok (match n with | .tuple=>true | _=>false) s
 | .ro _=>.ok (match n with | .list=>true | _=>false) s
 | .ty _=>.no
 | .ref p=>match s[p]? with
  | some (.lst _)=>.ok (match n with | .list=>true | _=>false) s
  | some (.dct _)=>.ok (match n with | .dict=>true | _=>false) s
  | _=>.no
@[simp] noncomputable def yJ:F
 | [x,.ty n],s=>(yi n x s).bind λb s=>.ok (.bl b) s
 | _,_=>.no
noncomputable def Zi:List D->Option (List Bool)
 | []=>some []
 | .bl b::r=>(Zi r).map (b :: ·)
 | _::_=>none
noncomputable def y2:List D->Option (List T)
 | []=>some []
 | .str x::r=>(y2 r).map (x :: ·)
 | _::_=>none
noncomputable def Qk (xs:List D) (s:S):R D:=match Zi xs with
 | some bs=>.ok (.bl (bs.all id)) s
 | none=>.no
@[simp] noncomputable def yr (k:List D->S->R D):F
 | [.tup xs],s=>k xs s
 | [.ro xs],s=>k xs s
 | [.ref p],s=>match z6 s p with
  | some xs=>k xs s
  | none=>.no
 | _,_=>.no
noncomputable def yb (x:T):List T->T
 | []=>[]
 | [y]=>y
 | y::r=>y++x++yb x r
noncomputable def qb (x:T) (xs:List D) (s:S):R D:=match y2 xs with
 | some ys=>if (ys.map ZX).sum+ys.length * x.length <= SZ then .ok (.str (yb x ys)) s else .no
 | none=>.no
@[simp] noncomputable def yg:D->F
 | .str x,xs,s=>yr (qb x) xs s
 | _,_,_=>.no
noncomputable def ZO (c:Nat) (x:T) (i:Nat):Int:=match (x.drop i).findIdx? (· == c) with
 | some j=>((i+j:Nat):Int)
 | none=>-1
@[simp] noncomputable def kL:D->F
 | .ref p,[y],s=>match s[p]? with
  | some (.lst xs)=>if xs.length < SZ then .ok .non (s.set p (.lst (xs++[y]))) else .no
  | _=>.no
 | _,_,_=>.no
@[simp] noncomputable def zGK:D->F
 | .ref p,[],s=>match s[p]? with
  | some (.lst xs)=>(match xs.getLast? with | some y=>.ok y (s.set p (.lst xs.dropLast)) | none=>.no)
  | _=>.no
 | _,_,_=>.no
@[simp] noncomputable def XN:D->F
 | .ref p,[],s=>match s[p]? with
  | some (.lst _)=>.ok .non (s.set p (.lst []))
  | _=>.no
 | _,_,_=>.no
where a (x:T):List T->List T
 | []=>[x]
 | y::r=>if y < x then y::a x r else x::y::r
noncomputable abbrev Gd:=List (Nat×O)
noncomputable def zU (g:Gd) (s:S):Bool:=g.all λp=>decide (s[p.1]? = some p.2)
noncomputable abbrev IM:=St->S->R (List D×Gd)
@[simp] noncomputable def itD:D->S->R (List D×Gd)
 | .str x,s=>if x.length <= SZ then .ok (x.map λc=>.str [c],[]) s else .no
 | .tup a,s=>.ok (a,[]) s
 | .ro a,s=>.ok (a,[]) s
 | .ref i,s=>match s[i]? with
  | some (.lst xs)=>.ok (xs,[(i,.lst xs)]) s
  | _=>.no
 | _,_=>.no
@[simp] noncomputable def iE (a:EM):IM:=λσ s=>(a σ s).bind itD
noncomputable def qi (lo hi:Int):List D:=(jA (hi - lo).toNat).map λ(k:Nat)=>.int (lo+k)
@[simp] noncomputable def Q3 (a:EM):IM:=λσ s=>(a σ s).bind λx s=>match x with
 | .int j=>if j.natAbs < 4611686018427387904 then .ok (qi 0 j,[]) s else .no
 | _=>.no
noncomputable def qE:Int->List D->List D
 | _,[]=>[]
 | k,d::a=>.tup [.int k,d]::qE (k+1) a
@[simp] noncomputable def kz (k:Int) (a:EM):IM:=λσ s=>(a σ s).bind λx s=>match x with
 | .ro b=>.ok (qE k b,[]) s
 | .ref i=>(match s[i]? with | some (.lst xs)=>.ok (qE k xs,[(i,.lst xs)]) s | _=>.no)
 | _=>.no
@[simp] noncomputable def zGY (a:EM):IM:=λσ s=>(a σ s).bind λx s=>match x with
 | .tup b=>.ok (b.reverse,[]) s
 | _=>.no
noncomputable abbrev GM:=D->St->Option St
@[simp] noncomputable def jM (i:Nat):GM:=λd σ=>some (σ.set i (some d))
noncomputable abbrev GMs:=List D->St->Option St
@[simp] noncomputable def q8:GMs:=λa σ=>match a with | []=>some σ | _=>none
@[simp] noncomputable def jn (g:GM) (r:GMs):GMs:=λa σ=>match a with
 | []=>none
 | d::a=>match g d σ with
  | some b=>r a b
  | none=>none
@[simp] noncomputable def yu (g:GMs):GM:=λd σ=>match d with
 | .tup a=>g a σ
 | _=>none
noncomputable def qN (g:Gd) (f:D->S->R (Option D)):List D->S->R (List D)
 | [],s=>.ok [] s
 | x::xs,s=>(f x s).bind λo s=>if zU g s then (qN g f xs s).bind λys s=>.ok (match o with | some y=>y::ys | none=>ys) s else .no
@[simp] noncomputable def qL:TM:=λ_ s=>.ok true s
@[simp] noncomputable def j3 (n:Nat) (tg:GM) (c:TM) (e:EM) (σ:St):D->S->R (Option D):=λx s=>match tg x (σ++zb n none) with
 | none=>.no
 | some a=>(c a s).bind λb s=>if b then (e a s).bind λd s=>.ok (some d) s else .ok none s
noncomputable def qI (n:Nat) (it:IM) (tg:GM) (c:TM) (e:EM):AM:=λσ s=>(it σ s).bind λp s=>if p.1.length <= SZ/\zU p.2 s=true then qN p.2 (j3 n tg c e σ) p.1 s else .no
@[simp] noncomputable def ZT (n:Nat) (it:IM) (tg:GM) (c:TM) (e:EM):EM:=λσ s=>(qI n it tg c e σ s).bind λys s=>alloc (.lst ys) s
@[simp] noncomputable def ZU (k:List D->S->R D) (n:Nat) (it:IM) (tg:GM) (c:TM) (e:EM):EM:=λσ s=>(qI n it tg c e σ s).bind k
inductive RS where
 | nx (σ:St) (s:S) | rt (d:D) (s:S) | bk (σ:St) (s:S) | ct (σ:St) (s:S) | exc (e:D) (σ:St) (s:S) | no
noncomputable abbrev SM:=St->S->RS
noncomputable def R.stm {b:Type} (r:R b) (σ:St) (f:b->S->RS):RS:=match r with
 | .ok a s=>f a s
 | .exc e s=>.exc e σ s
 | .no=>.no
@[simp] theorem R.stm_ok {b:Type} (a:b) (s:S) (σ:St) (f:b->S->RS):(R.ok a s).stm σ f=f a s:=rfl
@[simp] theorem R.stm_no {a:Type} (σ:St) (f:a->S->RS):(R.no:R a).stm σ f=.no:=rfl
noncomputable def RS.then (r:RS) (f:SM):RS:=match r with
 | .nx σ s=>f σ s
 | r=>r
@[simp] theorem RS.then_nx (σ:St) (s:S) (f:SM):(RS.nx σ s).then f=f σ s:=rfl
@[simp] theorem RS.then_rt (d:D) (s:S) (f:SM):(RS.rt d s).then f=.rt d s:=rfl
@[simp] theorem RS.then_no (f:SM):RS.no.then f=.no:=rfl
@[simp] theorem RS.then_bk (σ:St) (s:S) (f:SM):(RS.bk σ s).then f=.bk σ s:=rfl
section
variable {α:Type}{c:Prop} [Decidable c]
@[simp] theorem R.stm_ite (a b:R α) (σ:St) (f:α->S->RS):(if c then a else b).stm σ f=if c then a.stm σ f else b.stm σ f:=by split<;>rfl
@[simp] theorem RS.ite_nx (a b:St) (s:S):(if c then RS.nx a s else RS.nx b s)=RS.nx (if c then a else b) s:=by split<;>rfl
@[simp] theorem RS.ite_rt (a b:D) (s:S):(if c then RS.rt a s else RS.rt b s)=RS.rt (if c then a else b) s:=by split<;>rfl
@[simp] theorem RS.then_ite (a b:RS) (f:SM):(if c then a else b).then f=if c then a.then f else b.then f:=by split<;>rfl
end
@[simp] theorem RS.then_exc (e:D) (σ:St) (s:S) (f:SM):(RS.exc e σ s).then f=.exc e σ s:=rfl
@[simp] theorem R.stm_exc {a:Type} (e:D) (s:S) (σ:St) (f:a->S->RS):(R.exc e s:R a).stm σ f=.exc e σ s:=rfl
@[simp] theorem RS.then_ct (σ:St) (s:S) (f:SM):(RS.ct σ s).then f=.ct σ s:=rfl
@[simp] noncomputable def jC:SM:=λσ s=>.nx σ s
@[simp] noncomputable def zO (a b:SM):SM:=λσ s=>(a σ s).then b
@[simp] noncomputable def ZS (e:EM):SM:=λσ s=>(e σ s).stm σ λ_ s=>.nx σ s
@[simp] noncomputable def zi (e:EM):SM:=λσ s=>(e σ s).stm σ λd s=>.rt d s
@[simp] noncomputable def zq (i:Nat) (e:EM):SM:=λσ s=>(e σ s).stm σ λd s=>.nx (σ.set i (some d)) s
@[simp] noncomputable def Kb (g:GM) (e:EM):SM:=λσ s=>(e σ s).stm σ λd s=>match g d σ with
 | some a=>.nx a s
 | none=>.no
@[simp] noncomputable def QJ (f:D->D->S->R D) (i:Nat) (e:EM):SM:=λσ s=>match σ[i]? with
 | some (some x)=>(e σ s).stm σ λy s=>(f x y s).stm σ λz s=>.nx (σ.set i (some z)) s
 | _=>.no
@[simp] noncomputable def xF:D->D->S->R D
 | .int i,.int j,s=>.ok (.int (i+j)) s
 | .str a,.str b,s=>if a.length+b.length <= SZ then .ok (.str (a++b)) s else .no
 | _,_,_=>.no
@[simp] noncomputable def sIf (c:TM) (a b:SM):SM:=λσ s=>(c σ s).stm σ λk s=>if k then a σ s else b σ s
noncomputable def jY (g:Gd) (f:D->SM):List D->SM
 | [],σ,s=>.nx σ s
 | x::xs,σ,s=>match f x σ s with
  | .nx σ s=>if zU g s then jY g f xs σ s else .no
  | .ct σ s=>if zU g s then jY g f xs σ s else .no
  | .bk σ s=>.nx σ s
  | r=>r
@[simp] noncomputable def qK (tg:GM) (b:SM):D->SM:=λx σ s=>match tg x σ with
 | some a=>b a s
 | none=>.no
@[simp] noncomputable def Zo (it:IM) (tg:GM) (b:SM):SM:=λσ s=>(it σ s).stm σ λp s=>if zU p.2 s=true then jY p.2 (qK tg b) p.1 σ s else .no
noncomputable def jp:Nat->TM->SM->SM
 | 0,_,_,_,_=>.no
 | n+1,c,b,σ,s=>(c σ s).stm σ λk s=>if k then (match b σ s with
  | .nx σ s=>jp n c b σ s
  | .ct σ s=>jp n c b σ s
  | .bk σ s=>.nx σ s
  | r=>r) else .nx σ s
noncomputable def JM:Nat:=1000000000000
@[simp] noncomputable def Ju (c:TM) (b:SM):SM:=λσ s=>jp JM c b σ s
noncomputable def RS.out (r:RS):R D:=match r with
 | .rt d s=>.ok d s
 | .nx _ s=>.ok .non s
 | .exc e _ s=>.exc e s
 | _=>.no
@[simp] theorem RS.out_rt (d:D) (s:S):(RS.rt d s).out=.ok d s:=rfl
@[simp] theorem RS.out_nx (σ:St) (s:S):(RS.nx σ s).out=.ok .non s:=rfl
@[simp] theorem RS.out_no:RS.no.out=.no:=rfl
@[simp] theorem RS.out_exc (e:D) (σ:St) (s:S):(RS.exc e σ s).out=.exc e s:=rfl
@[simp] theorem RS.out_ite {c:Prop} [Decidable c] (a b:RS):(if c then a else b).out=if c then a.out else b.out:=by split<;>rfl
@[simp] noncomputable def fn (n:Nat) (b:SM):F:=λxs s=>(b (xs.map some++zb (n - xs.length) none) s).out
noncomputable def D.cl (n:Nat):D->Bool
 | .ref i=>decide (i < n)
 | .tup a=>all a
 | .ro a=>all a
 | _=>true
where all:List D->Bool
 | []=>true
 | d::a=>D.cl n d && all a
noncomputable def kyD:Nat->D->Bool
 | _,.non=>true
 | _,.int _=>true
 | _,.str _=>true
 | n+1,.tup a=>a.all (kyD n)
 | _,_=>false
noncomputable def O.cl (n:Nat):O->Bool
 | .lst xs=>D.cl.all n xs
 | .dct a=>a.all λp=>D.cl n p.1 && D.cl n p.2
 | .fdc a=>a.all λp=>D.cl n p.1 && D.cl n p.2
 | .dtt a=>a.all λp=>D.cl n p.1 && D.cl n p.2
 | .ftt a=>a.all λp=>D.cl n p.1 && D.cl n p.2
 | .ins _ fs=>fs.all λo=>match o with | some d=>D.cl n d | none=>true
noncomputable def clS (n:Nat) (s:S):Bool:=s.all (O.cl n)
noncomputable def D.ren (e:List Nat):D->D
 | .ref i=>.ref (e.getD i i)
 | .tup a=>.tup (all a)
 | .ro a=>.ro (all a)
 | d=>d
where all:List D->List D
 | []=>[]
 | d::a=>D.ren e d::all a
noncomputable def O.ren (e:List Nat):O->O
 | .lst xs=>.lst (D.ren.all e xs)
 | .dct a=>.dct (a.map λp=>(D.ren e p.1,D.ren e p.2))
 | .fdc a=>.fdc (a.map λp=>(D.ren e p.1,D.ren e p.2))
 | .dtt a=>.dtt (a.map λp=>(D.ren e p.1,D.ren e p.2))
 | .ftt a=>.ftt (a.map λp=>(D.ren e p.1,D.ren e p.2))
 | .ins c fs=>.ins c (fs.map (XM (D.ren e)))
end M
namespace M
structure Emb (n:Nat) (e:List Nat) (S' S1:S):Prop where
 len:e.length=S'.length
 nd:e.Nodup
 le:n <= S'.length
 old:∀ i,i < n->e[i]? = some i
 obj:∀ (i:Nat) o,S'[i]? = some o->∃ j,e[i]? = some j/\S1[j]? = some (O.ren e o)/\O.cl S'.length o=true
noncomputable def jD (n:Nat) (f q:F):Prop:=∀ a S,a.length=n->clS S.length S=true->D.cl.all S.length a=true ->
 q a S=.no\/∃ d b c e,q a S=.ok d b/\f a S=.ok (D.ren e d) c/\Emb S.length e b c/\D.cl b.length d=true
section
variable {e:List Nat}
mutual
theorem D.ren_id (h:∀ i,e.getD i i=i):∀ d:D,D.ren e d=d
 | .non=>rfl
 | .bl _=>rfl
 | .int _=>rfl
 | .str _=>rfl
 | .ty _=>rfl
 | .ref i=>by show D.ref (e.getD i i)=_;rw[h]
 | .tup a=>by show D.tup (D.ren.all e a)=_;rw[D.rens_id h]
 | .ro a=>by show D.ro (D.ren.all e a)=_;rw[D.rens_id h]
theorem D.rens_id (h:∀ i,e.getD i i=i):∀ a:List D,D.ren.all e a=a
 | []=>rfl
 | d::a=>by show D.ren e d::D.ren.all e a=_;rw[D.ren_id h,D.rens_id h]
end
theorem O.ren_id (h:∀ i,e.getD i i=i) (o:O):O.ren e o=o:=by
 cases o with
 | lst xs=>show O.lst _=_;rw[D.rens_id h]
 | dct a =>
  show O.dct (a.map λp=>(D.ren e p.1,D.ren e p.2))=_;have:(λp:D×D=>(D.ren e p.1,D.ren e p.2))=id:=by funext p;rw[D.ren_id h,D.ren_id h];rfl
  rw[this,y9]
 | fdc a =>
  show O.fdc (a.map λp=>(D.ren e p.1,D.ren e p.2))=_;have:(λp:D×D=>(D.ren e p.1,D.ren e p.2))=id:=by funext p;rw[D.ren_id h,D.ren_id h];rfl
  rw[this,y9]
 | dtt a =>
  show O.dtt (a.map λp=>(D.ren e p.1,D.ren e p.2))=_;have:(λp:D×D=>(D.ren e p.1,D.ren e p.2))=id:=by funext p;rw[D.ren_id h,D.ren_id h];rfl
  rw[this,y9]
 | ftt a =>
  show O.ftt (a.map λp=>(D.ren e p.1,D.ren e p.2))=_;have:(λp:D×D=>(D.ren e p.1,D.ren e p.2))=id:=by funext p;rw[D.ren_id h,D.ren_id h];rfl
  rw[this,y9]
 | ins c fs =>
  show O.ins c (fs.map (XM (D.ren e)))=_;have:XM (D.ren e)=id:=by funext o;cases o with | none=>rfl | some d=>show some _=_;rw[D.ren_id h];rfl
  rw[this,y9]
theorem Xb (n i:Nat):(jA n).getD i i=i:=by
 rw[qs];by_cases h:i < n
 ·rw[xT h];rfl
 ·rw[kh (by simp;omega)];rfl
end
section
variable {e:List Nat}{n:Nat}
mutual
theorem D.ren_old (h:∀ i,i < n->e[i]? = some i):∀ d:D,D.cl n d=true->D.ren e d=d
 | .non,_=>rfl
 | .bl _,_=>rfl
 | .int _,_=>rfl
 | .str _,_=>rfl
 | .ty _,_=>rfl
 | .ref i,c=>by
  have hi:i < n:=of_decide_eq_true c;show D.ref (e.getD i i)=_;rw[qs,h i hi];rfl
 | .tup a,c=>by show D.tup (D.ren.all e a)=_;rw[D.rens_old h a c]
 | .ro a,c=>by show D.ro (D.ren.all e a)=_;rw[D.rens_old h a c]
theorem D.rens_old (h:∀ i,i < n->e[i]? = some i):∀ a:List D,D.cl.all n a=true->D.ren.all e a=a
 | [],_=>rfl
 | d::a,c=>by
  have b:(D.cl n d && D.cl.all n a)=true:=c;rw[jG] at b;show D.ren e d::D.ren.all e a=_;rw[D.ren_old h d b.1,D.rens_old h a b.2]
end
theorem O.ren_old (h:∀ i,i < n->e[i]? = some i) (o:O) (c:O.cl n o=true):O.ren e o=o:=by
 cases o with
 | lst xs=>show O.lst _=_;rw[D.rens_old h xs c]
 | dct a =>
  show O.dct (a.map λp=>(D.ren e p.1,D.ren e p.2))=_
  congr 1
  conv=>rhs;rw[<- y9 a]
  refine Zv λp hp=>?_;have c1:=List.all_eq_true.mp c p hp;rw[jG] at c1;rw[D.ren_old h _ c1.1,D.ren_old h _ c1.2];rfl
 | fdc a =>
  show O.fdc (a.map λp=>(D.ren e p.1,D.ren e p.2))=_
  congr 1
  conv=>rhs;rw[<- y9 a]
  refine Zv λp hp=>?_;have c1:=List.all_eq_true.mp c p hp;rw[jG] at c1;rw[D.ren_old h _ c1.1,D.ren_old h _ c1.2];rfl
 | dtt a =>
  show O.dtt (a.map λp=>(D.ren e p.1,D.ren e p.2))=_
  congr 1
  conv=>rhs;rw[<- y9 a]
  refine Zv λp hp=>?_;have c1:=List.all_eq_true.mp c p hp;rw[jG] at c1;rw[D.ren_old h _ c1.1,D.ren_old h _ c1.2];rfl
 | ftt a =>
  show O.ftt (a.map λp=>(D.ren e p.1,D.ren e p.2))=_
  congr 1
  conv=>rhs;rw[<- y9 a]
  refine Zv λp hp=>?_;have c1:=List.all_eq_true.mp c p hp;rw[jG] at c1;rw[D.ren_old h _ c1.1,D.ren_old h _ c1.2];rfl
 | ins b fs =>
  show O.ins b (fs.map (XM (D.ren e)))=_
  congr 1
  conv=>rhs;rw[<- y9 fs]
  refine Zv λp hp=>?_;cases p with
  | none=>rfl
  | some d =>
   have c1:=List.all_eq_true.mp c (some d) hp;show some _=some _;rw[D.ren_old h d c1]
mutual
theorem D.cl_mono {m:Nat} (h:n <= m):∀ d:D,D.cl n d=true->D.cl m d=true
 | .non,_=>rfl
 | .bl _,_=>rfl
 | .int _,_=>rfl
 | .str _,_=>rfl
 | .ty _,_=>rfl
 | .ref i,c=>decide_eq_true (zv (of_decide_eq_true c) h)
 | .tup a,c=>D.cls_mono h a c
 | .ro a,c=>D.cls_mono h a c
theorem D.cls_mono {m:Nat} (h:n <= m):∀ a:List D,D.cl.all n a=true->D.cl.all m a=true
 | [],_=>rfl
 | d::a,c=>by
  have b:(D.cl n d && D.cl.all n a)=true:=c;rw[jG] at b;show (D.cl m d && D.cl.all m a)=true;rw[D.cl_mono h d b.1,D.cls_mono h a b.2];rfl
end
theorem O.cl_mono {m:Nat} (h:n <= m) (o:O) (c:O.cl n o=true):O.cl m o=true:=by
 cases o with
 | lst xs=>exact D.cls_mono h xs c
 | dct a =>
  refine List.all_eq_true.mpr λp hp=>?_;have c1:=List.all_eq_true.mp c p hp;rw[jG] at c1 ⊢;exact⟨D.cl_mono h _ c1.1,D.cl_mono h _ c1.2⟩
 | fdc a =>
  refine List.all_eq_true.mpr λp hp=>?_;have c1:=List.all_eq_true.mp c p hp;rw[jG] at c1 ⊢;exact⟨D.cl_mono h _ c1.1,D.cl_mono h _ c1.2⟩
 | dtt a =>
  refine List.all_eq_true.mpr λp hp=>?_;have c1:=List.all_eq_true.mp c p hp;rw[jG] at c1 ⊢;exact⟨D.cl_mono h _ c1.1,D.cl_mono h _ c1.2⟩
 | ftt a =>
  refine List.all_eq_true.mpr λp hp=>?_;have c1:=List.all_eq_true.mp c p hp;rw[jG] at c1 ⊢;exact⟨D.cl_mono h _ c1.1,D.cl_mono h _ c1.2⟩
 | ins b fs =>
  refine List.all_eq_true.mpr λp hp=>?_;have c1:=List.all_eq_true.mp c p hp;cases p with
  | none=>rfl
  | some d=>exact D.cl_mono h d c1
theorem Ki {S:M.S} (h:clS n S=true) {i:Nat}{o:O} (e:S[i]? = some o):O.cl n o=true:=List.all_eq_true.mp h o (ZG e)
end
theorem zA3 {S a g:M.S} (hn:S.length <= a.length) (c:clS a.length a=true):Emb S.length (jA a.length) a (a++g) :=
 ⟨by simp,w6,hn,λi hi=>by rw[xT (by omega)],λi o q=>by
  have hi:i < a.length:=(List.getElem?_eq_some_iff.mp q).1;exact⟨i,by rw[xT hi],by rw[qe hi,O.ren_id (Xb _),q],Ki c q⟩⟩
theorem zCU {S g:M.S}{o:O}{j:Nat} (c:clS S.length S=true) (co:O.cl S.length o=true) (f:(S++g)[j]? = some o) (h:S.length <= j):Emb S.length (jA S.length++[j]) (S++[o]) (S++g):=by
 have old:∀ i,i < S.length->(jA S.length++[j])[i]? = some i:=λi hi=>by
  rw[qe (by simpa using hi),xT hi]
 refine⟨by simp,?_,by simp,old,λi ob q=>?_⟩
 ·rw[Wj];refine⟨w6,by simp,λa ha b l=>?_⟩;have m:=List.mem_range.mp ha;have n:b=j:=by simpa using l
  omega
 ·by_cases hi:i < S.length
  ·rw[qe hi] at q;have e:=Ki c q;exact⟨i,old i hi,by rw[qe hi,O.ren_old old ob e,q],O.cl_mono (by simp) ob e⟩
  ·rw[yv (by omega)] at q;have d:i - S.length=0:=by
    cases d:i - S.length with
    | zero=>rfl
    | succ k=>rw[d] at q;simp at q
   rw[d] at q;simp at q;subst q;refine⟨j,?_,by rw[O.ren_old old o co,f],O.cl_mono (by simp) o co⟩;rw[yv (by simp;omega)];simp[d]
theorem jD.pure {n:Nat}{f q:F} (h:∀ a S,a.length=n->clS S.length S=true->D.cl.all S.length a=true->q a S=.no\/∃ d g,q a S=.ok d S/\f a S=.ok d (S++g)/\D.cl S.length d=true):jD n f q:=λa S b c i=>by
 rcases h a S b c i with e | ⟨d,g,j,k,l⟩
 ·exact .inl e
 ·exact .inr ⟨d,S,S++g,jA S.length,j,by rw[D.ren_id (Xb _)];exact k,zA3 (zl _) c,l⟩
theorem jD.new {n:Nat}{f q:F} (h:∀ a S,a.length=n->clS S.length S=true->D.cl.all S.length a=true->q a S=.no\/∃ o j g,q a S=alloc o S/\f a S=.ok (.ref j) (S++g)/\(S++g)[j]? = some o/\S.length <= j/\O.cl S.length o=true):jD n f q:=λa S b c d=>by
 rcases h a S b c d with e | ⟨o,j,g,i,k,l,m,p⟩
 ·exact .inl e
 ·refine .inr ⟨.ref S.length,S++[o],S++g,jA S.length++[j],i,?_,zCU c p l m,?_⟩
  ·rw[k];show R.ok (D.ref j) _=R.ok (D.ref ((jA S.length++[j]).getD S.length S.length)) _;rw[qs,yv (by simp)];simp
  ·show decide (S.length < (S++[o]).length)=true;simp
noncomputable def chS (m:F):F:=λa s=>@dite (R D) (∃ d g,m a s=.ok d (s++g)/\D.cl s.length d=true) (Vo _) (λh=>.ok h.choose s) (λ_=>.no)
theorem qx {n:Nat} (m:F):jD n m (chS m):=jD.pure λa S b c f=>by
 unfold chS;by_cases h:∃ d g,m a S=.ok d (S++g)/\D.cl S.length d=true
 ·obtain⟨g,e,k⟩:=h.choose_spec;exact .inr ⟨h.choose,g,by rw[dif_pos h],e,k⟩
 ·exact .inl (by rw[dif_neg h])
theorem j7 {m:F}{a:List D}{s g:S}{d:D} (e:m a s=.ok d (s++g)) (k:D.cl s.length d=true):chS m a s=.ok d s:=by
 have h:∃ d g,m a s=.ok d (s++g)/\D.cl s.length d=true:=⟨d,g,e,k⟩
 obtain⟨g',b,_⟩:=h.choose_spec;have c:d=h.choose:=by
  have f:=e.symm.trans b;injection f
 unfold chS;rw[dif_pos h,<- c]
noncomputable def chN (m:F):F:=λa s=>@dite (R D) (∃ o j g,m a s=.ok (.ref j) (s++g)/\(s++g)[j]? = some o/\s.length <= j/\O.cl s.length o=true) (Vo _) (λh=>alloc h.choose s) (λ_=>.no)
theorem zBU {n:Nat} (m:F):jD n m (chN m):=jD.new λa S b c d=>by
 unfold chN;by_cases h:∃ o j g,m a S=.ok (.ref j) (S++g)/\(S++g)[j]? = some o/\S.length <= j/\O.cl S.length o=true
 ·obtain⟨j,g,e,k⟩:=h.choose_spec;exact .inr ⟨h.choose,j,g,by rw[dif_pos h],e,k⟩
 ·exact .inl (by rw[dif_neg h])
theorem zCh {m:F}{a:List D}{s g:S}{j:Nat}{o:O} (e:m a s=.ok (.ref j) (s++g)) (q:(s++g)[j]? = some o) (l:s.length <= j) (k:O.cl s.length o=true):chN m a s=alloc o s:=by
 have h:∃ o j g,m a s=.ok (.ref j) (s++g)/\(s++g)[j]? = some o/\s.length <= j/\O.cl s.length o=true:=⟨o,j,g,e,q,l,k⟩
 obtain⟨r,g',d,f,_⟩:=h.choose_spec;have i:=e.symm.trans d;injection i with b n;injection b with b;have p:o=h.choose:=by
  have c:=q;rw[n,b] at c;exact yf (c.symm.trans f)
 unfold chN;rw[dif_pos h,<- p]
end M
namespace M
theorem X4 {g:Gd}{f:D->S->R (Option D)}{s:S}{h:D->D} (a:zU g s=true):∀ {xs:List D},(∀ x∈xs,f x s=.ok (some (h x)) s)->qN g f xs s=.ok (xs.map h) s
 | [],_=>rfl
 | x::xs,e=>by
  show (f x s).bind _=_;rw[e x qT,R.bind_ok,if_pos a,X4 a λy b=>e y (qD _ b)];rfl
theorem uA {g:Gd}{f:D->S->R (Option D)}{s:S}{p:D->Bool}{h:D->D} (a:zU g s=true):∀ {xs:List D},(∀ x∈xs,f x s=.ok (if p x then some (h x) else none) s)->qN g f xs s=.ok ((xs.filter p).map h) s
 | [],_=>rfl
 | x::xs,e=>by
  show (f x s).bind _=_;rw[e x qT,R.bind_ok,if_pos a,uA a λy b=>e y (qD _ b),R.bind_ok];cases hp:p x<;>simp[hp]
theorem Ye {n:Nat}{it:IM}{tg:GM}{e:EM}{σ:St}{s:S}{xs:List D}{g:Gd} (h:D->D) (hi:it σ s=.ok (xs,g) s) (b:xs.length <= SZ) (a:zU g s=true) (c:∀ x∈xs,j3 n tg qL e σ x s=.ok (some (h x)) s):qI n it tg qL e σ s=.ok (xs.map h) s:=by
 unfold qI;rw[hi,R.bind_ok,if_pos ⟨b,a⟩];exact X4 a c
theorem zBz {n:Nat}{it:IM}{tg:GM}{c:TM}{e:EM}{σ:St}{s:S}{xs:List D}{g:Gd} (p:D->Bool) (h:D->D) (hi:it σ s=.ok (xs,g) s) (b:xs.length <= SZ) (a:zU g s=true) (d:∀ x∈xs,j3 n tg c e σ x s=.ok (if p x then some (h x) else none) s):qI n it tg c e σ s=.ok ((xs.filter p).map h) s:=by
 unfold qI;rw[hi,R.bind_ok,if_pos ⟨b,a⟩];exact uA a d
theorem VH {n:Nat}{it:IM}{tg:GM}{e:EM}{σ:St}{s:S}{lo hi:Int} (h:Nat->D) (hit:it σ s=.ok (qi lo hi,[]) s) (a:(hi - lo).toNat <= SZ) (b:∀ k:Nat,k < (hi - lo).toNat->j3 n tg qL e σ (.int (lo+k)) s=.ok (some (h k)) s) :
  qI n it tg qL e σ s=.ok ((jA (hi - lo).toNat).map h) s:=by
 have:=Ye (n:=n) (tg:=tg) (e:=e) (λd=>match d with | .int i=>h (i - lo).toNat | d=>d) hit (by simpa [qi] using a) rfl λx c=>by
  obtain⟨k,f,rfl⟩:=List.mem_map.mp c;have e:(lo+(k:Int) - lo).toNat=k:=by omega
  rw[b k (List.mem_range.mp f)];show R.ok (some (h k)) s=R.ok (some (h (lo+(k:Int) - lo).toNat)) s;rw[e]
 rw[this];unfold qi;rw[xY];have g:∀ k:Nat,(lo+(k:Int) - lo).toNat=k:=λk=>by omega
 have j:((λd=>match d with | .int i=>h (i - lo).toNat | d=>d) ∘ λ(k:Nat)=>D.int (lo+k))=h:=by
  funext k
  show h (lo+(k:Int) - lo).toNat=h k;rw[g]
 rw[j]
theorem wC {n:Nat}{it:IM}{tg:GM}{e:EM}{σ:St}{s:S}{x:T} (h:Nat->D) (hit:it σ s=.ok (x.map λc=>.str [c],[]) s) (a:x.length <= SZ) (b:∀ c∈x,j3 n tg qL e σ (.str [c]) s=.ok (some (h c)) s) :
  qI n it tg qL e σ s=.ok (x.map h) s:=by
 have:=Ye (n:=n) (tg:=tg) (e:=e) (λd=>match d with | .str [c]=>h c | d=>d) hit (by simpa using a) rfl λy f=>by
  obtain⟨c,g,rfl⟩:=List.mem_map.mp f;exact b c g
 rw[this,xY];rfl
theorem Uv {a:Type} (f:a->Bool) (xs:List a):Zi (xs.map λx=>.bl (f x))=some (xs.map f):=by
 induction xs with
 | nil=>rfl
 | cons x xs b=>show (Zi (xs.map λx=>D.bl (f x))).map _=_;rw[b];rfl
theorem all_map {a:Type} (f:a->Bool) (xs:List a) (s:S):Qk (xs.map λx=>.bl (f x)) s=.ok (.bl (xs.all f)) s:=by
 unfold Qk;rw[Uv];simp[Vn]
theorem Xs {a:Type} (xs:List a) {k:Int} (h:0 <= k):cut xs none (some k)=xs.take k.toNat:=by
 unfold cut sIx;have:¬ k < 0:=by omega
 simp only[V7,if_neg this,Nat.sub_zero];by_cases b:k <= xs.length
 ·rw[show (min k (xs.length:Int)).toNat=k.toNat by omega]
 ·rw[Q5 (by omega),Q5 (by omega)]
theorem kW {a:Type} (xs:List a) {k:Int} (h:0 <= k):cut xs (some k) none=xs.drop k.toNat:=by
 unfold cut sIx;have:¬ k < 0:=by omega
 simp only[if_neg this];by_cases b:k <= xs.length
 ·rw[show (min k (xs.length:Int)).toNat=k.toNat by omega,Q5 (by rw[jf];omega)]
 ·rw[zDb (by omega),zDb (by omega)];simp
theorem Vl {a:Type} (f:a->T) (xs:List a):y2 (xs.map λx=>.str (f x))=some (xs.map f):=by
 induction xs with
 | nil=>rfl
 | cons x xs b=>show (y2 (xs.map λx=>D.str (f x))).map _=_;rw[b];rfl
theorem zAh (xs:List T):y2 (xs.map .str)=some xs:=by
 have:=Vl (λx:T=>x) xs
 rwa [List.map_id'] at this
theorem v2 (xs:List T):yb [] xs=xs.flatten:=by
 induction xs with
 | nil=>rfl
 | cons x xs a =>
  cases xs with
  | nil=>simp[yb]
  | cons y ys=>show x++[]++yb [] (y::ys)=_;rw[a];simp
theorem zEm {a b:Type} (f:a->b) (xs:List a):(xs.map λx=>[f x]).flatten=xs.map f:=by
 induction xs with
 | nil=>rfl
 | cons x xs c=>rw[qH,Z6,c];rfl
theorem zBf {a:Type} (f:a->Nat) (xs:List a):((xs.map λx=>[f x]).map ZX).sum=xs.length:=by
 induction xs with
 | nil=>rfl
 | cons x xs b=>rw[qH,qH,zCs,b,yN];show 1+xs.length=xs.length+1;omega
theorem uZ {a:Type} (f:a->Nat) (xs:List a) (s:S) (h:xs.length <= SZ):qb [] (xs.map λx=>.str [f x]) s=.ok (.str (xs.map f)) s:=by
 unfold qb;rw[Vl];dsimp only;rw[if_pos,v2,zEm];rw[zBf];simpa using h
theorem uT (x:T):∀ b:List T,yK (.str x) (b.map .str)=b.contains x
 | []=>rfl
 | t::b=>by
  have:=uT x b;unfold yK at this ⊢;rw[qH,kc,this,ZY];simp[eqF,BEq.comm (a:=t)]
theorem JO {a:Type}{xs:List a}{k:Int} (b:0 <= k) (h:k < xs.length) (d:a):atI xs k=some (xs.getD k.toNat d):=by
 unfold atI ixN;rw[if_pos b,if_pos h];have c:k.toNat < xs.length:=by omega
 simp[qs,c]
theorem Vp {S:M.S}{p:Nat}{o:O} (e:S[p]? = some o) (g:M.S):(S++g)[p]? = some o:=by
 rw[qe (List.getElem?_eq_some_iff.mp e).1];exact e
noncomputable def Jx (x:T):Bool:=!decide (x < [97]) && !decide ([122] < x)
theorem u3 {n:Nat}{it:IM}{tg:GM}{e:EM}{σ:St}{s s1:S}{xs:List D}{g:Gd} (h:D->D) (hi:it σ s=.ok (xs,g) s1) (b:xs.length <= SZ) (a:zU g s1=true) (c:∀ x∈xs,j3 n tg qL e σ x s1=.ok (some (h x)) s1):qI n it tg qL e σ s=.ok (xs.map h) s1:=by
 unfold qI;rw[hi,R.bind_ok,if_pos ⟨b,a⟩];exact X4 a c
end M
namespace M
noncomputable def kyT:D->Bool
 | .tup a=>kyD 7 (.tup a)
 | _=>false
end M
namespace M
noncomputable def Z3 (c:Nat) (x:T):T :=
 let lo:=(x.takeWhile (· == c)).length
 (x.drop lo).take (x.length - ((x.drop lo).reverse.takeWhile (· == c)).length - lo)
@[simp] noncomputable def xQ:D->F
 | .str x,[.str [c]],s=>if x.length <= SZ then .ok (.str (Z3 c x)) s else .no
 | _,_,_=>.no
@[simp] noncomputable def X2:D->F
 | .str x,[.str [c],.int i],s=>if x.length <= SZ/\0 <= i then .ok (.int (ZO c x i.toNat)) s else .no
 | _,_,_=>.no
@[simp] noncomputable def XJ:F
 | [.str x],s=>if x.length <= SZ then alloc (.lst (x.map λc=>.str [c])) s else .no
 | _,_=>.no
@[simp] noncomputable def Qv (c:Nat) (a:AM):SM:=λσ s=>(a σ s).stm σ λxs s=>.exc (.tup (.int c::xs)) σ s
noncomputable def ZC (c iy je iz:Nat) (e:EM):SM:=λσ s=>match e σ s with
 | .ok d s=>.nx (σ.set iy (some d)) s
 | .exc (.tup [.int k,d]) s=>if k=c then .nx ((σ.set je none).set iz (some d)) s else .no
 | _=>.no
@[simp] theorem zAI {c iy je iz:Nat}{e:EM}{σ:St}{s s':S}{d:D} (h:e σ s=.ok d s'):ZC c iy je iz e σ s=.nx (σ.set iy (some d)) s':=by unfold ZC;rw[h]
@[simp] theorem UJ {c iy je iz:Nat}{e:EM}{σ:St}{s s':S}{d:D} (h:e σ s=.exc (.tup [.int c,d]) s'):ZC c iy je iz e σ s=.nx ((σ.set je none).set iz (some d)) s':=by unfold ZC;rw[h];simp
noncomputable def JL (n:Nat) (f q:F):Prop:=∀ a S,a.length=n->clS S.length S=true->D.cl.all S.length a=true ->
 q a S=.no\/(∃ d b c e,q a S=.ok d b/\f a S=.ok (D.ren e d) c/\Emb S.length e b c/\D.cl b.length d=true)\/∃ d g,q a S=.exc d S/\f a S=.exc d (S++g)/\D.cl S.length d=true
noncomputable def chX (r:F->F) (m:F):F:=λa s=>@dite (R D) (∃ d g,m a s=.exc d (s++g)/\D.cl s.length d=true) (Vo _) (λh=>.exc h.choose s) (λ_=>r m a s)
theorem KS {n:Nat}{r:F->F}{m:F} (b:jD n m (r m)):JL n m (chX r m):=λa S f c i=>by
 unfold chX;by_cases h:∃ d g,m a S=.exc d (S++g)/\D.cl S.length d=true
 ·obtain⟨g,e,k⟩:=h.choose_spec;exact .inr (.inr ⟨h.choose,g,by rw[dif_pos h],e,k⟩)
 ·rw[dif_neg h];exact (b a S f c i).elim .inl λz=>.inr (.inl z)
theorem Xj {r:F->F}{m:F}{a:List D}{s g:S}{d:D} (e:m a s=.exc d (s++g)) (k:D.cl s.length d=true):chX r m a s=.exc d s:=by
 have h:∃ d g,m a s=.exc d (s++g)/\D.cl s.length d=true:=⟨d,g,e,k⟩
 obtain⟨g',b,_⟩:=h.choose_spec;have c:d=h.choose:=by
  have f:=e.symm.trans b;injection f
 unfold chX;rw[dif_pos h,<- c]
theorem Kh {r:F->F}{m:F}{a:List D}{s s':S}{d:D} (e:m a s=.ok d s'):chX r m a s=r m a s:=by
 unfold chX;rw[dif_neg]
 rintro ⟨d',g,h,_⟩
 rw[e] at h;cases h
end M
namespace L2
open PySem PySem.Spec PyProof.Rows
noncomputable def ofT (x:M.T):Str:=⟨x.toArray⟩
theorem jZ (x:M.T):(ofT x).length=x.length:=by simp[ofT,vL]
theorem yw (x:M.T):(ofT x).cps.toList=x:=by simp[ofT]
theorem K7 {x y:M.T} (h:ofT x=ofT y):x=y:=by rw[<- yw x,h,yw]
theorem ue (x y:M.T):ofT x++ofT y=ofT (x++y):=by
 show (⟨x.toArray++y.toArray⟩:Str)=_;simp[ofT]
noncomputable abbrev okT (x:M.T):Prop:=x.all (λc=>decide (c < 1114112))=true
theorem ka {x y:M.T} (h:okT x) (k:okT y):okT (x++y):=by show (x++y).all _=true;rw[List.all_append,h,k];rfl
theorem xV {x y:M.T} (h:okT x) (k:∀ c∈y,c∈x):okT y:=List.all_eq_true.mpr λc a=>List.all_eq_true.mp h c (k c a)
theorem qv:M.SZ=zV:=by rw[Z0];rfl
noncomputable def JU (K:PySem.W.Frag) (H:Hp) (a:zA) (xs:List V):Prop :=
 (∃ o,H a=some (.frz o (.lst xs))) \/
  ∃ (o:Obj) (its:Array zB) (n:Nat),K.lookup a=some o/\o.cls=.type "list" /\ o.dict=none/\o.data=.seq its n/\its.size <= zV/\zS xs its.toList
theorem JU.sq {K:PySem.W.Frag}{H:Hp}{a:zA}{xs:List V} (h:JU K H a xs):SqL K H a xs:=by
 rcases h with ⟨o,h⟩ | h
 ·exact .inl (.inr ⟨o,h⟩)
 ·exact .inr h
structure Le (H H':Hp):Prop where
 tups:∀ b xs,H b=some (.tup xs)->H' b=some (.tup xs)
 frzs:∀ b o u,H b=some (.frz o u)->H' b=some (.frz o u)
theorem Le.refl (H:Hp):Le H H:=⟨λ_ _ h=>h,λ_ _ _ h=>h⟩
theorem Le.trans {H d e:Hp} (a:Le H d) (b:Le d e):Le H e:=⟨λc xs h=>b.tups c xs (a.tups c xs h),λc o u h=>b.frzs c o u (a.frzs c o u h)⟩
theorem Le.new {H:Hp}{p:zA} (h:H p=none) (o:HO):Le H (upd H p o) :=
 ⟨λb xs q=>by rw[zc (qw q h)];exact q,λb o u q=>by rw[zc (qw q h)];exact q⟩
theorem Le.put {H:Hp}{p:zA} (h:Mut (H p)) (o:HO):Le H (upd H p o) :=
 ⟨λb xs q=>by rw[zc (λz=>by subst z;rw[q] at h;exact h)];exact q,λb o u q=>by rw[zc (λz=>by subst z;rw[q] at h;exact h)];exact q⟩
theorem Le.rol {K:PySem.W.Frag}{H b:Hp}{a:zA}{xs:List V} (e:Le H b) (h:JU K H a xs):JU K b a xs:=by
 rcases h with ⟨o,h⟩ | h
 ·exact .inl ⟨o,e.frzs _ _ _ h⟩
 ·exact .inr h
theorem Le.sqT {K:PySem.W.Frag}{H b:Hp}{a:zA}{xs:List V} (e:Le H b) (h:SqT K H a xs):SqT K b a xs:=by
 rcases h with (h | ⟨o,h⟩) | h
 ·exact .inl (.inl (e.tups _ _ h))
 ·exact .inl (.inr ⟨o,e.frzs _ _ _ h⟩)
 ·exact .inr h
noncomputable def ju:M.Kd->String
 | .str => "str" | .int => "int" | .bool => "bool" | .list => "list" | .tuple => "tuple" | .dict => "dict"
noncomputable def zI (K:PySem.W.Frag) (e:List zA) (H:Hp):M.D->V->Prop
 | .non,v=>v=.non
 | .bl b,v=>v=.bl b
 | .int i,v=>v=.int i
 | .str x,v=>v=.str (ofT x)/\okT x
 | .ty n,v=>v=.ty (ju n)
 | .ref i,v=>∃ a,v=.ref a/\e[i]? = some a
 | .tup c,v=>∃ a xs,v=.ref a/\SqT K H a xs/\all c xs
 | .ro c,v=>∃ a xs,v=.ref a/\JU K H a xs/\all c xs
where all:List M.D->List V->Prop
 | [],xs=>xs=[]
 | d::c,xs=>∃ y ys,xs=y::ys/\zI K e H d y/\all c ys
noncomputable abbrev zL (K:PySem.W.Frag) (a:List zA) (H:Hp):List M.D->List V->Prop:=zI.all K a H
theorem JA {c b:List zA} (h:c <+: b) {i:Nat}{a:zA} (e:c[i]? = some a):b[i]? = some a:=by
 obtain⟨t,rfl⟩:=h;rw[qe (List.getElem?_eq_some_iff.mp e).1];exact e
section
variable {K:PySem.W.Frag}{ρ ρ':List zA}{H H':Hp}
mutual
theorem zI.mono (b:ρ <+: ρ') (le:Le H H'):∀ {d:M.D}{v:V},zI K ρ H d v->zI K ρ' H' d v
 | .non,_,h=>h
 | .bl _,_,h=>h
 | .int _,_,h=>h
 | .str _,_,h=>h
 | .ty _,_,h=>h
 | .ref _,_,⟨a,e,h⟩=>⟨a,e,JA b h⟩
 | .tup _,_,⟨a,xs,e,h,r⟩=>⟨a,xs,e,le.sqT h,zL.mono b le r⟩
 | .ro _,_,⟨a,xs,e,h,r⟩=>⟨a,xs,e,le.rol h,zL.mono b le r⟩
theorem zL.mono (a:ρ <+: ρ') (le:Le H H'):∀ {b:List M.D}{xs:List V},zL K ρ H b xs->zL K ρ' H' b xs
 | [],_,h=>h
 | _::_,_,⟨y,ys,e,h,r⟩=>⟨y,ys,e,zI.mono a le h,zL.mono a le r⟩
end
theorem zL.length:∀ {a:List M.D}{xs:List V},zL K b H a xs->a.length=xs.length
 | [],_,h=>by cases h;rfl
 | _::_,_,⟨_,_,e,_,r⟩=>by subst e;rw[yN,yN,zL.length r]
theorem zL.get:∀ {b:List M.D}{xs:List V}{i:Nat}{d:M.D},zL K c H b xs->b[i]? = some d->∃ v,xs[i]? = some v/\zI K c H d v
 | [],_,_,_,_,e=>by simp at e
 | _::_,_,0,_,⟨y,_,a,h,_⟩,e=>by subst a;simp at e;subst e;exact⟨y,rfl,h⟩
 | _::_,_,i+1,d,⟨_,ys,a,_,r⟩,e=>by
  subst a;obtain⟨v,f,g⟩:=zL.get (i:=i) (d:=d) r (by simpa using e);exact⟨v,by simpa using f,g⟩
theorem zL.app:∀ {a es:List M.D}{xs ys:List V},zL K b H a xs->zL K b H es ys->zL K b H (a++es) (xs++ys)
 | [],_,_,_,h,k=>by cases h;exact k
 | _::_,_,_,_,⟨y,ys,e,h,r⟩,k=>by subst e;exact⟨y,_,rfl,h,zL.app r k⟩
theorem zL.take:∀ {a:List M.D}{xs:List V} (n:Nat),zL K b H a xs->zL K b H (a.take n) (xs.take n)
 | _,_,0,_=>rfl
 | [],_,_+1,h=>by cases h;rfl
 | _::_,_,n+1,⟨y,ys,e,h,r⟩=>by subst e;exact⟨y,_,rfl,h,zL.take n r⟩
theorem zL.drop:∀ {a:List M.D}{xs:List V} (n:Nat),zL K b H a xs->zL K b H (a.drop n) (xs.drop n)
 | _,_,0,h=>h
 | [],_,_+1,h=>by cases h;rfl
 | _::_,_,n+1,⟨y,ys,e,h,r⟩=>by subst e;exact zL.drop n r
end
section
variable {K:PySem.W.Frag}{ρ ρ':List zA}{H H':Hp}{ds es:List M.D}{xs ys:List V}
theorem zI.all.mono (h:zI.all K ρ H ds xs) (a:ρ <+: ρ') (le:Le H H'):zI.all K ρ' H' ds xs:=zL.mono a le h
theorem zI.all.length (h:zI.all K ρ H ds xs):ds.length=xs.length:=zL.length h
theorem zI.all.app (h:zI.all K ρ H ds xs) (k:zI.all K ρ H es ys):zI.all K ρ H (ds++es) (xs++ys):=zL.app h k
end
noncomputable def yz:M.D->Key->Prop
 | .int i,k=>k=.inl i
 | .str x,k=>k=.inr (ofT x)/\okT x
 | _,_=>False
structure Tab where
 tab:Nat->Option (zA×List Str)
 ha:M.D->Int:=λ_=>0
 x:XK:=λ_ _ _=>False
instance:CoeFun Tab λ_=>Nat->Option (zA×List Str):=⟨Tab.tab⟩
noncomputable def TD (ha:M.D->Int) (a:zA) (xs:List (M.D×zA×zB)) (h:zJ):Prop:=xs.length <= zV/\(a == Qq)=false/\(xs.map (·.1)).Nodup /\
 ∃ o es b,h.get? a=some o/\o.ExactDict/\o.data=.dict es b/\es.toList=xs.map λx=>⟨ha x.1,.ref x.2.1,x.2.2⟩
noncomputable def TDr (K:PySem.W.Frag) (a:List zA) (H:Hp) (p:M.D×M.D) (q:M.D×zA×zB):Prop:=q.1=p.1/\M.kyD 7 p.1=true/\zI K a H p.1 (.ref q.2.1)/\∃ v,zI K a H p.2 v/\zY v q.2.2
theorem TDr.mono {K:PySem.W.Frag}{e c:List zA}{H f:Hp} (d:e <+: c) (le:Le H f) {p:M.D×M.D}{q:M.D×zA×zB} (h:TDr K e H p q):TDr K c f p q :=
 ⟨h.1,h.2.1,h.2.2.1.mono d le,let ⟨v,a,b⟩:=h.2.2.2;⟨v,a.mono d le,b⟩⟩
structure UW (K:PySem.W.Frag) (ρ:List zA) (H:Hp) (N:List Str) (fs:List (Option M.D)) (gs:List (Str×V)):Prop where
 len:fs.length=N.length
 nd:(gs.map (·.1)).Nodup
 within:∀ f∈gs.map (·.1),f∈N
 get:∀ (i:Nat) (f:Str) (d:M.D),N[i]? = some f->fs[i]? = some (some d)->∃ v,gs.lookup f=some v/\zI K ρ H d v
noncomputable def ObR (K:PySem.W.Frag) (Θ:Tab) (d:List zA) (H:Hp) (a:zA):M.O->Prop
 | .lst e=>∃ xs,H a=some (.lst xs)/\zL K d H e xs
 | .dct b=>∃ ks,H a=some (.dK ks)/\Paired (λ(p:M.D×M.D) (q:Key×V)=>yz p.1 q.1/\zI K d H p.2 q.2) b ks
 | .fdc b=>∃ o ks,H a=some (.frz o (.dK ks))/\Paired (λ(p:M.D×M.D) (q:Key×V)=>yz p.1 q.1/\zI K d H p.2 q.2) b ks
 | .dtt b=>∃ xs,H a=some (.ext (TD Θ.ha a xs))/\Paired (TDr K d H) b xs
 | .ftt b=>∃ o xs,H a=some (.frz o (.ext (TD Θ.ha a xs)))/\Paired (TDr K d H) b xs
 | .ins c fs=>∃ C f gs N,H a=some (.ins C f gs)/\Θ c=some (C,N)/\UW K d H N fs gs
structure zK (K:PySem.W.Frag) (Θ:Tab) (ρ:List zA) (S:M.S) (H:Hp):Prop where
 len:ρ.length=S.length
 nd:ρ.Nodup
 obj:∀ (i:Nat) (o:M.O),S[i]? = some o->∃ a,ρ[i]? = some a/\ObR K Θ ρ H a o
structure zw (K:PySem.W.Frag) (ρ:List zA) (H:Hp) (σ':M.St) (σ:St):Prop where
 len:σ'.length=σ.length
 get:∀ (i:Nat) (d:M.D),σ'[i]? = some (some d)->∃ v,σ[i]? = some (some v)/\zI K ρ H d v
section
variable {K:PySem.W.Frag}{Θ:Tab}{ρ ρ':List zA}{H H':Hp}{S:M.S}
theorem zw.mono {a:M.St}{σ:St} (h:zw K ρ H a σ) (b:ρ <+: ρ') (le:Le H H'):zw K ρ' H' a σ :=
 ⟨h.len,λi d e=>let ⟨v,c,f⟩:=h.get i d e;⟨v,c,f.mono b le⟩⟩
theorem zw.set {a:M.St}{σ:St}{d:M.D}{v:V} (h:zw K ρ H a σ) (hd:zI K ρ H d v) (i:Nat):zw K ρ H (a.set i (some d)) (σ.set i (some v)):=by
 refine⟨by rw[Zz,Zz,h.len],λj e q=>?_⟩;by_cases b:i=j
 ·subst b;by_cases c:i < a.length
  ·rw[QG c] at q;cases q;exact⟨v,by rw[QG (h.len ▸ c)],hd⟩
  ·rw[kh (by rw[Zz];omega)] at q;cases q
 ·rw[ZR b] at q;rw[ZR b];exact h.get j e q
theorem zw.more {a:M.St}{σ:St} (h:zw K ρ H a σ) (n:Nat):zw K ρ H (a++zb n none) (σ++zb n none):=by
 refine⟨by simp[h.len],λi d q=>?_⟩;by_cases b:i < a.length
 ·rw[qe b] at q;rw[qe (h.len ▸ b)];exact h.get i d q
 ·rw[yv (by omega),XT] at q;split at q<;>cases q
theorem zK.tracked (h:zK K Θ ρ S H) {a:zA} (m:a∈ρ):∃ o,H a=some o:=by
 obtain⟨i,hi,e⟩:=List.mem_iff_getElem.mp m;have g:i < S.length:=h.len ▸ hi;obtain⟨j,f,r⟩:=h.obj i S[i] (by simp[g]);rw[qU hi,e] at f;cases f;cases q:S[i] with
 | lst k=>rw[q] at r;obtain⟨xs,b,_⟩:=r;exact⟨_,b⟩
 | dct d=>rw[q] at r;obtain⟨xs,b,_⟩:=r;exact⟨_,b⟩
 | fdc d=>rw[q] at r;obtain⟨o,xs,b,_⟩:=r;exact⟨_,b⟩
 | dtt d=>rw[q] at r;obtain⟨xs,b,_⟩:=r;exact⟨_,b⟩
 | ftt d=>rw[q] at r;obtain⟨o,xs,b,_⟩:=r;exact⟨_,b⟩
 | ins c fs=>rw[q] at r;obtain⟨_,_,_,_,b,_⟩:=r;exact⟨_,b⟩
theorem zK.fresh (h:zK K Θ ρ S H) {p:zA} (hp:H p=none):p∉ρ:=λm=>by
 obtain⟨o,e⟩:=h.tracked m;rw[hp] at e;cases e
theorem ObR.stay {a:zA}{o:M.O} (h:ObR K Θ ρ H a o) (b:ρ <+: ρ') (le:Le H H') (e:H' a=H a):ObR K Θ ρ' H' a o:=by
 cases o with
 | lst s=>obtain⟨xs,g,r⟩:=h;exact⟨xs,e.trans g,r.mono b le⟩
 | dct j=>obtain⟨ks,g,r⟩:=h;exact⟨ks,e.trans g,Paired.mapP r λp q z=>⟨z.1,z.2.mono b le⟩⟩
 | fdc j=>obtain⟨o,ks,g,r⟩:=h;exact⟨o,ks,e.trans g,Paired.mapP r λp q z=>⟨z.1,z.2.mono b le⟩⟩
 | dtt j=>obtain⟨xs,g,r⟩:=h;exact⟨xs,e.trans g,Paired.mapP r λp q z=>z.mono b le⟩
 | ftt j=>obtain⟨o,xs,g,r⟩:=h;exact⟨o,xs,e.trans g,Paired.mapP r λp q z=>z.mono b le⟩
 | ins c fs =>
  obtain⟨C,k,gs,N,g,l,r⟩:=h;exact⟨C,k,gs,N,e.trans g,l,r.len,r.nd,r.within,λi f d m n=>let ⟨v,k1,k2⟩:=r.get i f d m n;⟨v,k1,k2.mono b le⟩⟩
theorem zK.stay (h:zK K Θ ρ S H) (le:Le H H') (e:∀ a∈ρ,H' a=H a):zK K Θ ρ S H' :=
 ⟨h.len,h.nd,λi o q=>let ⟨a,b,c⟩:=h.obj i o q;⟨a,b,c.stay (jN _) le (e a (ZG b))⟩⟩
theorem zK.aside (h:zK K Θ ρ S H) {p:zA} (hp:H p=none) (o:HO):zK K Θ ρ S (upd H p o) :=
 h.stay (Le.new hp o) λa m=>zc (λz=>h.fresh hp (z ▸ m))
theorem zK.alloc (h:zK K Θ ρ S H) {p:zA} (hp:H p=none) {o:M.O}{u:HO} (r:ObR K Θ (ρ++[p]) (upd H p u) p o):zK K Θ (ρ++[p]) (S++[o]) (upd H p u):=by
 refine⟨by simp[h.len],?_,λi ob q=>?_⟩
 ·rw[Wj];refine⟨h.nd,by simp,λa ha b e=>?_⟩;have c:b=p:=by simpa using e
  rw[c];exact λz=>h.fresh hp (z ▸ ha)
 ·by_cases f:i < S.length
  ·rw[qe f] at q;obtain⟨a,d,g⟩:=h.obj i ob q;refine⟨a,JA (Q0 _ _) d,g.stay (Q0 _ _) (Le.new hp u) (zc λz=>h.fresh hp (z ▸ ZG d))⟩
  ·rw[yv (by omega)] at q;have hi:i - S.length=0:=by
    cases j:i - S.length with
    | zero=>rfl
    | succ k=>rw[j] at q;simp at q
   rw[hi] at q;simp at q;subst q;refine⟨p,?_,r⟩;rw[yv (by rw[h.len];omega),h.len,hi];rfl
theorem Xp {d:Type}{ρ:List d} (c:ρ.Nodup) {i j:Nat}{x:d} (a:ρ[i]? = some x) (b:ρ[j]? = some x):i=j:=by
 induction ρ generalizing i j with
 | nil=>simp at a
 | cons y r e =>
  rw[List.nodup_cons] at c;cases i with
  | zero =>
   cases j with
   | zero=>rfl
   | succ j =>
    simp at a b;subst a;exact absurd (ZG b) c.1
  | succ i =>
   cases j with
   | zero =>
    simp at a b;subst b;exact absurd (ZG a) c.1
   | succ j =>
    simp at a b;rw[e c.2 a b]
theorem zBo {c:Type}{l:List c} (h:∀ (i j:Nat) x,l[i]? = some x->l[j]? = some x->i=j):l.Nodup:=by
 induction l with
 | nil=>exact zAS
 | cons y r d =>
  refine List.nodup_cons.mpr ⟨λm=>?_,d λi j x a b=>?_⟩
  ·obtain⟨j,f,e⟩:=List.mem_iff_getElem.mp m;have:=h 0 (j+1) y (by simp) (by simp[e,f]);omega
  ·have:=h (i+1) (j+1) x (by simpa using a) (by simpa using b);omega
theorem Uc {a:Type}{l:List a} (b:l.Nodup) {i j:Nat} (hi:i < l.length) (c:j < l.length) (e:l[i]=l[j]):i=j :=
 Xp b (x:=l[i]) (by simp[hi]) (by rw[e];simp[c])
theorem zK.put (h:zK K Θ ρ S H) {i:Nat}{a:zA} (ha:ρ[i]? = some a) {o:M.O}{u:HO} (e:Mut (H a)) (r:ObR K Θ ρ (upd H a u) a o):zK K Θ ρ (S.set i o) (upd H a u):=by
 refine⟨by simp[h.len],h.nd,λj ob q=>?_⟩;by_cases c:i=j
 ·subst c;by_cases f:i < S.length
  ·rw[QG f] at q;cases q;exact⟨a,ha,r⟩
  ·rw[kh (by rw[Zz];omega)] at q;cases q
 ·rw[ZR c] at q;obtain⟨b,d,g⟩:=h.obj j ob q;refine⟨b,d,g.stay (jN _) (Le.put e u) (zc λz=>?_)⟩;subst z;exact c (Xp h.nd ha d)
end
noncomputable def XR (K:PySem.W.Frag) (Θ:Tab) (g:List zA) (H:Hp) (d:M.D) (C:zA) (e:Option zA):Prop:=∃ (c:Nat) (a:List M.D) (N:List Str),d=.tup (.int c::a)/\Θ c=some (C,N)/\((a=[]/\N=[]/\e=none)\/∃ f b,e=some f/\H f=some (.xd (N.zip b))/\N.length=b.length/\zL K g H a b)
noncomputable def qP (K:PySem.W.Frag) (Θ:Tab) (e:List zA) (H:Hp) (d:M.D) (S:M.S):Prop:=∀ a b C c,e <+: a->Le H b->zK K Θ a S b->XR K Θ a b d C c->Θ.x (.ref C) c b
theorem qP.weak {K:PySem.W.Frag}{Θ:Tab}{e a:List zA}{H f:Hp}{d:M.D}{S:M.S} (h:qP K Θ e H d S) (b:e <+: a) (le:Le H f):qP K Θ a f d S:=λc g C i p l=>h c g C i (b.trans p) (le.trans l)
noncomputable def zE {g h:Type} (K:PySem.W.Frag) (Θ:Tab) (Rl:List zA->Hp->g->h->Prop) (i:List zA) (H:Hp):M.R g->(h->Hp->Prop)->Prop
 | .ok a f,Q=>∀ c e b,i <+: c->Le H e->zK K Θ c f e->Rl c e a b->Q b e
 | .exc d f,_=>qP K Θ i H d f
 | .no,_=>False
noncomputable abbrev rB:List zA->Hp->Bool->Bool->Prop:=λ_ _ a b=>a=b
noncomputable abbrev rO:List zA->Hp->Option Int->Option Int->Prop:=λ_ _ a b=>a=b
section
variable {K:PySem.W.Frag}{Θ:Tab}{ρ ρ':List zA}{H H':Hp}{S:M.S}{α β γ δ:Type}{Rl:List zA->Hp->α->β->Prop}{Rk:List zA->Hp->γ->δ->Prop}{Q:β->Hp->Prop}{Q':δ->Hp->Prop}
theorem zE.weak {r:M.R α} (h:zE K Θ Rl ρ H r Q) (c:ρ <+: ρ') (le:Le H H'):zE K Θ Rl ρ' H' r Q:=by
 cases r with
 | ok a s=>exact λd f b p l=>h d f b (c.trans p) (le.trans l)
 | exc e s=>exact qP.weak h c le
 | no=>exact h
theorem zE.bind {r:M.R α}{f:α->M.S->M.R γ} (h:zE K Θ Rk ρ H (r.bind f) Q')
  (k:∀ ρ' H' a b d,ρ <+: ρ'->Le H H'->zK K Θ ρ' d H'->Rl ρ' H' a b->zE K Θ Rk ρ' H' (f a d) Q'->Q b H'):zE K Θ Rl ρ H r Q:=by
 cases r with
 | ok a s=>exact λc g b p l i j=>k c g a b s p l i j (zE.weak h p l)
 | exc e s=>exact h
 | no=>exact h
theorem zE.here {a:α}{b:β} (h:zE K Θ Rl ρ H (.ok a S) Q) (c:zK K Θ ρ S H) (d:Rl ρ H a b):Q b H:=h ρ H b (jN _) (Le.refl _) c d
end
noncomputable def RdE (K:PySem.W.Frag) (Θ:Tab) (m:M.EM):TE:=λσ H Q=>∃ b a S,zw K b H a σ/\zK K Θ b S H/\zE K Θ (zI K) b H (m a S) Q
noncomputable def RdT (K:PySem.W.Frag) (Θ:Tab) (m:M.TM):TT:=λσ H Q=>∃ b a S,zw K b H a σ/\zK K Θ b S H/\zE K Θ rB b H (m a S) Q
noncomputable def RdA (K:PySem.W.Frag) (Θ:Tab) (m:M.AM):TA:=λσ H Q=>∃ b a S,zw K b H a σ/\zK K Θ b S H/\zE K Θ (zL K) b H (m a S) Q
noncomputable def RdO (K:PySem.W.Frag) (Θ:Tab) (m:M.OM):TO:=λσ H Q=>∃ b a S,zw K b H a σ/\zK K Θ b S H/\zE K Θ rO b H (m a S) Q
noncomputable abbrev ME (X:Cx) (Θ:Tab) (e:zF) (m:M.EM):Prop:=PE X e (RdE X.K Θ m)
@[irreducible] noncomputable def WE (X:Cx) (Θ:Tab) (e:zF) (m:M.EM):Prop:=ME X Θ e m
noncomputable abbrev MT (X:Cx) (Θ:Tab) (e:zF) (m:M.TM):Prop:=PT X e (RdT X.K Θ m)
@[irreducible] noncomputable def WT (X:Cx) (Θ:Tab) (e:zF) (m:M.TM):Prop:=MT X Θ e m
noncomputable abbrev MW (X:Cx) (Θ:Tab) (e:zF) (m:M.TM):Prop:=PW X e (RdT X.K Θ m)
@[irreducible] noncomputable def WW (X:Cx) (Θ:Tab) (e:zF) (m:M.TM):Prop:=MW X Θ e m
noncomputable abbrev MA (X:Cx) (Θ:Tab) (es:List zF) (m:M.AM):Prop:=PA X es (RdA X.K Θ m)
@[irreducible] noncomputable def WA (X:Cx) (Θ:Tab) (es:List zF) (m:M.AM):Prop:=MA X Θ es m
noncomputable abbrev MO (X:Cx) (Θ:Tab) (e:Option zF) (m:M.OM):Prop:=PO X e (RdO X.K Θ m)
@[irreducible] noncomputable def WO (X:Cx) (Θ:Tab) (e:Option zF) (m:M.OM):Prop:=MO X Θ e m
theorem PE.imp {X:Cx}{e:zF}{t t':TE} (h:PE X e t) (i:∀ σ H Q,t' σ H Q->t σ H Q):PE X e t':=λa s σ H Q I q=>h a s σ H Q I (i σ H Q q)
theorem PT.imp {X:Cx}{e:zF}{t t':TT} (h:PT X e t) (i:∀ σ H Q,t' σ H Q->t σ H Q):PT X e t':=λa s σ H Q I q=>h a s σ H Q I (i σ H Q q)
theorem PW.imp {X:Cx}{e:zF}{t t':TT} (h:PW X e t) (i:∀ σ H Q,t' σ H Q->t σ H Q):PW X e t':=λb a s σ H Q I q=>h b a s σ H Q I (i σ H Q q)
theorem PA.imp {X:Cx}{es:List zF}{t t':TA} (h:PA X es t) (i:∀ σ H Q,t' σ H Q->t σ H Q):PA X es t':=λpos a s σ H Q I q=>h pos a s σ H Q I (i σ H Q q)
theorem PO.imp {X:Cx}{e:Option zF}{t t':TO} (h:PO X e t) (i:∀ σ H Q,t' σ H Q->t σ H Q):PO X e t':=λa s σ H Q I q=>h a s σ H Q I (i σ H Q q)
noncomputable def zy:zF->Bool
 | .Starred _ _=>false
 | _=>true
theorem qO {e:zF}{es:List zF}{env:Env} (h:zy e=true):zn (e::es) env=(false,eval e env)::zn es env:=by
 cases e<;>first | rfl | cases h
theorem Z9 {env:Env}{pos:Pos}:∀ {es:List zF},es.all zy=true->(ja pos (zn es env)).any (·.1)=false
 | [],_=>rfl
 | e::es,h=>by
  rw[Ze,jG] at h;rw[qO h.1];show (false || (ja pos (zn es env)).any (·.1))=false;rw[Z9 h.2];rfl
theorem Ve {env:Env}{pos:Pos}:∀ {es:List zF},es.all zy=true->(ja pos (zn es env)).all (λx=>!x.1)=true
 | [],_=>rfl
 | e::es,h=>by
  rw[Ze,jG] at h;rw[qO h.1];show (true && (ja pos (zn es env)).all (λx=>!x.1))=true;rw[Ve h.2];rfl
theorem Y8 {env:Env}{pos:Pos}{es:List zF} (h:es.all zy=true) (a:es.length < 30):((ja pos (zn es env)).all (λx=>!x.1) && (Kf pos (Xq [] env)).all (λx=>x.1.isSome)
  && decide (es.length+([]:List ZW).length+(if ([]:List ZW).isEmpty then 0 else 1) < 30))=true:=by
 rw[Ve h,Jb,jG];exact⟨rfl,decide_eq_true (by simpa using a)⟩
section
variable {X:Cx}{Θ:Tab}{a b c:zF}{pos:Pos}{ma mb mc:M.EM}{ta tb:M.TM}{zt:List zF}
theorem wJ (i:Nat) {x:Str} (g:X.N[i]? = some x:=by rfl) (j:Vis X.env.scope x:=by first | exact zf rfl | exact ZF (zf rfl) | exact ZF (ZF rfl)) (hd:(x == ("__debug__" : Str))=false:=by decide)
  (f:(x == ("__classdict__" : Str))=false:=by decide):ME X Θ (.Name x pos) (M.zC i):=(Kq g j hd f).imp λσ H Q ⟨n,k,S,st,l,h⟩=>by
 unfold M.zC at h;split at h
 ·rename_i d e;obtain⟨v,m,r⟩:=st.get i d e;exact⟨v,m,h.here l r⟩
 ·exact h.elim
theorem w_me_var (i:Nat) {x:Str} (e:X.N[i]? = some x:=by rfl) (f:Vis X.env.scope x:=by first | exact zf rfl | exact ZF (zf rfl) | exact ZF (ZF rfl)) (hd:(x == ("__debug__" : Str))=false:=by decide)
  (d:(x == ("__classdict__" : Str))=false:=by decide):WE X Θ (.Name x pos) (M.zC i):=by with_unfolding_all exact wJ i (x:=x) e f hd d
theorem xz {e:zF}{v:V}{d:M.D} (h:PE X e (tC v)) (r:∀ f H,zI X.K f H d v):ME X Θ e (M.eC d):=h.imp λσ H Q ⟨f,g,S,st,i,h⟩=>h.here i (r f H)
theorem zDM {i:Int}{j:Nat}:ME X Θ (.Constant (.int i) j pos) (M.eC (.int i)):=xz zAd λ_ _=>rfl
theorem w_me_int {i:Int}{j:Nat}:WE X Θ (.Constant (.int i) j pos) (M.eC (.int i)):=by with_unfolding_all exact zDM (i:=i) (j:=j)
theorem Wy {k:Bool}{j:Nat}:ME X Θ (.Constant (.bool k) j pos) (M.eC (.bl k)):=xz wq λ_ _=>rfl
theorem w_me_bl {k:Bool}{j:Nat}:WE X Θ (.Constant (.bool k) j pos) (M.eC (.bl k)):=by with_unfolding_all exact Wy (k:=k) (j:=j)
theorem zFQ {j:Nat}:ME X Θ (.Constant .none j pos) (M.eC .non):=xz zAP λ_ _=>rfl
theorem w_me_non {j:Nat}:WE X Θ (.Constant .none j pos) (M.eC .non):=by with_unfolding_all exact zFQ (j:=j)
theorem zF0 {y:M.T}{x:Str}{j:Nat} (h:x=ofT y) (ok:okT y):ME X Θ (.Constant (.str x) j pos) (M.eC (.str y)):=xz Yw λ_ _=>by rw[h];exact⟨rfl,ok⟩
theorem w_me_str {y:M.T}{x:Str}{j:Nat} (h:x=ofT y) (ok:okT y):WE X Θ (.Constant (.str x) j pos) (M.eC (.str y)):=by with_unfolding_all exact zF0 (y:=y) (x:=x) (j:=j) h ok
theorem Ux (n:M.Kd) {x:Str} (d:Gl X x) (e:X.mg x=none) (f:jk x=some (.type (ju n))) (hn:x ≠ "__name__" := by decide) (hd:(x == ("__debug__" : Str))=false:=by decide):ME X Θ (.Name x pos) (M.eC (.ty n)) :=
 xz (zEt (v:=.ty (ju n)) d e f rfl hn hd) λ_ _=>rfl
theorem w_me_ty (n:M.Kd) {x:Str} (d:Gl X x) (e:X.mg x=none) (f:jk x=some (.type (ju n))) (hn:x ≠ "__name__" := by decide) (hd:(x == ("__debug__" : Str))=false:=by decide):WE X Θ (.Name x pos) (M.eC (.ty n)):=by with_unfolding_all exact Ux n (x:=x) d e f hn hd
noncomputable def Ad2 (K:PySem.W.Frag) (Θ:Tab) (f:M.D->M.D->M.S->M.R M.D) (r:R2):Prop:=∀ d H S x y X Y Q,zK K Θ d S H->zI K d H x X->zI K d H y Y->zE K Θ (zI K) d H (f x y S) Q->r X Y H Q
noncomputable def AdC (K:PySem.W.Frag) (Θ:Tab) (f:M.CM) (r:R2):Prop:=∀ d H S x y X Y (Q:VK),zK K Θ d S H->zI K d H x X->zI K d H y Y->zE K Θ rB d H (f x y S) (λb e=>Q (.bl b) e)->r X Y H Q
noncomputable def Ad1 (K:PySem.W.Frag) (Θ:Tab) (f:M.D->M.S->M.R M.D) (r:V->Hp->VK->Prop):Prop:=∀ d H S x X Q,zK K Θ d S H->zI K d H x X->zE K Θ (zI K) d H (f x S) Q->r X H Q
noncomputable def AdN (K:PySem.W.Frag) (Θ:Tab) (f:M.F) (r:List V->Hp->VK->Prop):Prop:=∀ d H S xs e Q,zK K Θ d S H->zL K d H xs e->zE K Θ (zI K) d H (f xs S) Q->r e H Q
noncomputable def AdM (K:PySem.W.Frag) (Θ:Tab) (f:M.D->M.F) (r:V->List V->Hp->VK->Prop):Prop :=
 ∀ d H S x xs X e Q,zK K Θ d S H->zI K d H x X->zL K d H xs e->zE K Θ (zI K) d H (f x xs S) Q->r X e H Q
theorem WY {op:JQ}{f:M.D->M.D->M.S->M.R M.D}{r:R2} (k:OpR X (qC op) r) (ad:Ad2 X.K Θ f r) (ha:ME X Θ a ma) (l:ME X Θ b mb):ME X Θ (.BinOp a op b pos) (M.eOp f ma mb) :=
 (zAr k ha l).imp λσ H Q ⟨m,d,S,st,n,h⟩=>⟨m,d,S,st,n,zE.bind h λe w x o p q l1 g rx s=>⟨e,d,p,st.mono q l1,g,
  zE.bind s λi t y Y u p2 l2 j ry v=>ad i t u x y o Y Q j (rx.mono p2 l2) ry v⟩⟩
theorem w_me_op {op:JQ}{f:M.D->M.D->M.S->M.R M.D}{r:R2} (d:OpR X (qC op) r) (ad:Ad2 X.K Θ f r) (ha:WE X Θ a ma) (e:WE X Θ b mb):WE X Θ (.BinOp a op b pos) (M.eOp f ma mb):=by with_unfolding_all exact WY (op:=op) (f:=f) (r:=r) d ad ha e
noncomputable def vh:zF->Bool
 | .Slice _ _ _ _=>false
 | .Tuple _ _ _=>false
 | _=>true
theorem zDF {b:zF} (h:vh b=true):vu b:=λo i=>by
 cases b<;>first | rfl | cases h
theorem zBO {f:M.D->M.D->M.S->M.R M.D}{r:R2} (k:IxR X r) (ad:Ad2 X.K Θ f r) (ha:ME X Θ a ma) (l:ME X Θ b mb) (m:vh b=true:=by rfl):ME X Θ (.Subscript a b pos) (M.eOp f ma mb) :=
 (zDJ k ha l (zDF m)).imp λσ H Q ⟨n,d,S,st,o,h⟩=>⟨n,d,S,st,o,zE.bind h λe z x p q s l1 g rx t=>⟨e,d,q,st.mono s l1,g,
  zE.bind t λi u y Y v p2 l2 j ry w=>ad i u v x y p Y Q j (rx.mono p2 l2) ry w⟩⟩
theorem w_me_ix {f:M.D->M.D->M.S->M.R M.D}{r:R2} (d:IxR X r) (ad:Ad2 X.K Θ f r) (ha:WE X Θ a ma) (e:WE X Θ b mb) (g:vh b=true:=by rfl):WE X Θ (.Subscript a b pos) (M.eOp f ma mb):=by with_unfolding_all exact zBO (f:=f) (r:=r) d ad ha e g
theorem zBS {op:UnaryOp}{f:M.D->M.S->M.R M.D}{r:V->Hp->VK->Prop} (i:UnR X (Kj op) r) (ad:Ad1 X.K Θ f r) (ha:ME X Θ a ma):ME X Θ (.UnaryOp op a pos) (M.eUn f ma) :=
 (wU i ha).imp λσ H Q ⟨j,d,S,st,k,h⟩=>⟨j,d,S,st,k,zE.bind h λe l x m n p l1 g rx o=>ad e l n x m Q g rx o⟩
theorem w_me_un {op:UnaryOp}{f:M.D->M.S->M.R M.D}{r:V->Hp->VK->Prop} (d:UnR X (Kj op) r) (ad:Ad1 X.K Θ f r) (ha:WE X Θ a ma):WE X Θ (.UnaryOp op a pos) (M.eUn f ma):=by with_unfolding_all exact zBS (op:=op) (f:=f) (r:=r) d ad ha
theorem zFn {op:qV}{f:M.CM}{r:R2} (n:OpR X (zm op) r) (ad:AdC X.K Θ f r) (ha:ME X Θ a ma) (o:ME X Θ b mb) (p:ye op b=false):ME X Θ (.Compare a [op] [b] pos) (M.Qg f ma mb) :=
 (w1 n ha o p).imp λσ H Q ⟨q,d,S,st,s,h⟩=>⟨q,d,S,st,s,zE.bind h λg E x t u v l1 i rx w=>⟨g,d,u,st.mono v l1,i,
  zE.bind w λj z y Y A p2 l2 l ry B=>ad j z A x y t Y Q l (rx.mono p2 l2) ry (zE.bind B λC F k G I J l3 m e D=>by cases e;exact D.here m rfl)⟩⟩
theorem w_me_cmp {op:qV}{f:M.CM}{r:R2} (d:OpR X (zm op) r) (ad:AdC X.K Θ f r) (ha:WE X Θ a ma) (e:WE X Θ b mb) (g:ye op b=false):WE X Θ (.Compare a [op] [b] pos) (M.Qg f ma mb):=by with_unfolding_all exact zFn (op:=op) (f:=f) (r:=r) d ad ha e g
theorem zDg {op:qV}{f:M.CM}{r:R2} (t:OpR X (zm op) r) (ad:AdC X.K Θ f r) (ha:ME X Θ a ma) (u:ME X Θ b mb) (v:ye op b=false):MT X Θ (.Compare a [op] [b] pos) (M.zg f ma mb) :=
 (WM t ha u v).imp λσ H Q ⟨w,g,S,st,z,h⟩=>⟨w,g,S,st,z,zE.bind h λi I x A B C l1 j rx D=>⟨i,g,B,st.mono C l1,j,
  zE.bind D λl E y Y p p2 l2 m ry d=>ad l E p x y A Y _ m (rx.mono p2 l2) ry (by
   revert d;cases f x y p with
   | ok k s=>exact λd n F q G l3 o e=>⟨q,rfl,d n F q G l3 o e⟩
   | exc e s=>exact λd=>d
   | no=>exact λd=>d)⟩⟩
theorem w_mt_cmp {op:qV}{f:M.CM}{r:R2} (d:OpR X (zm op) r) (ad:AdC X.K Θ f r) (ha:WE X Θ a ma) (e:WE X Θ b mb) (g:ye op b=false):WT X Θ (.Compare a [op] [b] pos) (M.zg f ma mb):=by with_unfolding_all exact zDg (op:=op) (f:=f) (r:=r) d ad ha e g
theorem zCQ {K:PySem.W.Frag}{d:List zA}{H:Hp}{x:M.D}{v:V} (r:zI K d H x v):decide (v=.non)=M.v3 x:=by
 cases x with
 | non=>cases r;rfl
 | bl b=>cases r;rfl
 | int b=>cases r;rfl
 | str b=>obtain⟨rfl,_⟩:=r;rfl
 | ty b=>cases r;rfl
 | ref i=>obtain⟨_,rfl,_⟩:=r;rfl
 | tup i=>obtain⟨_,_,rfl,_⟩:=r;rfl
 | ro i=>obtain⟨_,_,rfl,_⟩:=r;rfl
theorem wg {j pos'} (ha:ME X Θ a ma):MT X Θ (.Compare a [.IsNot] [.Constant .none j pos'] pos) (M.x6 ma):=(zFl (zA4 ha)).imp λσ H Q ⟨f,d,S,st,g,h⟩=>⟨f,d,S,st,g,zE.bind h λi l x m n o l1 e rx k=>⟨_,rfl,by
 rw[zCQ rx];exact k.here e rfl⟩⟩
theorem w_mt_notN {j pos'} (ha:WE X Θ a ma):WT X Θ (.Compare a [.IsNot] [.Constant .none j pos'] pos) (M.x6 ma):=by with_unfolding_all exact wg (j:=j) (pos':=pos') ha
theorem AdC.to {K:PySem.W.Frag}{f:M.CM}{r:R2} (ad:AdC K Θ f r) {d:List zA}{H:Hp}{S:M.S}{x y:M.D}{i Y:V}{Q:VK}{m:Bool->Hp->Prop} (o:zK K Θ d S H) (rx:zI K d H x i) (ry:zI K d H y Y) (h:zE K Θ rB d H (f x y S) m) (e:∀ k n,m k n->Q (.bl k) n):r i Y H Q :=
 ad d H S x y i Y Q o rx ry (by
  revert h;cases f x y S with
  | ok k s=>exact λg j p t u l3 l q=>e _ _ (g j p t u l3 l q)
  | exc e s=>exact λg=>g
  | no=>exact λg=>g)
theorem zDx {op op':qV}{f g:M.CM}{r r':R2} (E:OpR X (zm op) r) (p:OpR X (zm op') r') (ad:AdC X.K Θ f r) (t:AdC X.K Θ g r') (ha:ME X Θ a ma) (F:ME X Θ b mb) (G:ME X Θ c mc)
  (I:J7 [op,op'] [b,c]=false:=by with_unfolding_all rfl):ME X Θ (.Compare a [op,op'] [b,c] pos) (M.Jh f g ma mb mc) :=
 (wp E p ha F G I).imp λσ H Q ⟨J,i,S,st,L,h⟩=>⟨J,i,S,st,L,zE.bind h λu H1 x X1 N D l1 v rx O=>⟨u,i,N,st.mono D l1,v,
  zE.bind O λw P y Y S2 p2 l2 A ry R=>ad.to A (rx.mono p2 l2) ry (zE.bind (Rl:=rB) (Q:=λk m=>∃ d l,w <+: d/\Le P m/\zK X.K Θ d l m/\zE X.K Θ (zI X.K) d m (if k=true then (mc i l).bind λz s=>(g y z s).bind λk s=>.ok (.bl k) s else .ok (.bl false) l) Q) R
   λd T k U l n l3 j e o=>by cases e;exact⟨d,l,n,l3,j,o⟩) λk T ⟨d,l,n,l3,j,o⟩=>⟨k,rfl,by
    cases k with
    | false=>exact yX (zE.here (b:=V.bl false) o j rfl)
    | true =>
     refine yn ⟨d,i,l,st.mono (D.trans (p2.trans n)) (l1.trans (l2.trans l3)),j,zE.bind o λW H4 z Z S4 p4 l4 B rz h4=>t.to B (ry.mono (n.trans p4) (l3.trans l4)) rz (zE.bind (Rl:=rB) (Q:=λk m=>Q (.bl k) m) h4 λρ5 H5 k U S5 p5 l5 C e h5=>by cases e;exact h5.here C rfl) λ_ _ q=>q⟩⟩⟩⟩
theorem w_me_chain {op op':qV}{f g:M.CM}{r r':R2} (h:OpR X (zm op) r) (d:OpR X (zm op') r') (ad:AdC X.K Θ f r) (e:AdC X.K Θ g r') (ha:WE X Θ a ma) (i:WE X Θ b mb) (j:WE X Θ c mc)
  (k:J7 [op,op'] [b,c]=false:=by with_unfolding_all rfl):WE X Θ (.Compare a [op,op'] [b,c] pos) (M.Jh f g ma mb mc):=by with_unfolding_all exact zDx (op:=op) (op':=op') (f:=f) (g:=g) (r:=r) (r':=r') h d ad e ha i j k
theorem Us {op op':qV}{f g:M.CM}{r r':R2} (D:OpR X (zm op) r) (p:OpR X (zm op') r') (ad:AdC X.K Θ f r) (t:AdC X.K Θ g r') (ha:ME X Θ a ma) (E:ME X Θ b mb) (F:ME X Θ c mc)
  (G:J7 [op,op'] [b,c]=false:=by with_unfolding_all rfl):MT X Θ (.Compare a [op,op'] [b,c] pos) (M.Zp f g ma mb mc) :=
 (zE6 D p ha E F G).imp λσ H Q ⟨I,i,S,st,J,h⟩=>⟨I,i,S,st,J,zE.bind h λu H1 x X1 L C l1 v rx N=>⟨u,i,L,st.mono C l1,v,
  zE.bind N λw O y Y S2 p2 l2 A ry P=>ad.to A (rx.mono p2 l2) ry (zE.bind (Rl:=rB) (Q:=λk m=>∃ d l,w <+: d/\Le O m/\zK X.K Θ d l m/\zE X.K Θ rB d m (if k=true then (mc i l).bind λz s=>g y z s else .ok false l) Q) P
   λd R k k' l n l3 j e o=>by cases e;exact⟨d,l,n,l3,j,o⟩) λk R ⟨d,l,n,l3,j,o⟩=>⟨k,rfl,by
    cases k with
    | false=>exact yX ⟨false,rfl,zE.here (b:=false) o j rfl⟩
    | true =>
     refine yn ⟨d,i,l,st.mono (C.trans (p2.trans n)) (l1.trans (l2.trans l3)),j,zE.bind o λT H4 z Z S4 U l4 B V W=>t.to B (ry.mono (n.trans U) (l3.trans l4)) V W λk m q=>⟨k,rfl,q⟩⟩⟩⟩⟩
theorem w_mt_chain {op op':qV}{f g:M.CM}{r r':R2} (h:OpR X (zm op) r) (d:OpR X (zm op') r') (ad:AdC X.K Θ f r) (e:AdC X.K Θ g r') (ha:WE X Θ a ma) (i:WE X Θ b mb) (j:WE X Θ c mc)
  (k:J7 [op,op'] [b,c]=false:=by with_unfolding_all rfl):WT X Θ (.Compare a [op,op'] [b,c] pos) (M.Zp f g ma mb mc):=by with_unfolding_all exact Us (op:=op) (op':=op') (f:=f) (g:=g) (r:=r) (r':=r') h d ad e ha i j k
theorem zDw (ha:MT X Θ a ta):MW X Θ (.BoolOp .And [a] pos) ta:=zCV ha
theorem w_mw_one_and (ha:WT X Θ a ta):WW X Θ (.BoolOp .And [a] pos) ta:=by with_unfolding_all exact zDw ha
theorem wN (ha:MT X Θ a ta):MW X Θ (.BoolOp .Or [a] pos) ta:=W1 ha
theorem w_mw_one_or (ha:WT X Θ a ta):WW X Θ (.BoolOp .Or [a] pos) ta:=by with_unfolding_all exact wN ha
theorem UT (ha:MT X Θ a ta) (j:MW X Θ (.BoolOp .And (b::zt) pos) tb):MW X Θ (.BoolOp .And (a::b::zt) pos) (M.yd ta tb) :=
 (zDy ha j).imp λσ H Q ⟨l,d,S,st,m,h⟩=>⟨l,d,S,st,m,zE.bind h λg p k q n o l1 f e i=>by
  cases e;cases k with
  | true=>exact yn ⟨g,d,n,st.mono o l1,f,i⟩
  | false=>exact yX (zE.here (b:=false) i f rfl)⟩
theorem w_mw_and (ha:WT X Θ a ta) (d:WW X Θ (.BoolOp .And (b::zt) pos) tb):WW X Θ (.BoolOp .And (a::b::zt) pos) (M.yd ta tb):=by with_unfolding_all exact UT ha d
theorem Uq (ha:MT X Θ a ta) (j:MW X Θ (.BoolOp .Or (b::zt) pos) tb):MW X Θ (.BoolOp .Or (a::b::zt) pos) (M.tOr ta tb) :=
 (zEF ha j).imp λσ H Q ⟨l,d,S,st,m,h⟩=>⟨l,d,S,st,m,zE.bind h λg p k q n o l1 f e i=>by
  cases e;cases k with
  | true=>exact yn (zE.here (b:=true) i f rfl)
  | false=>exact yX ⟨g,d,n,st.mono o l1,f,i⟩⟩
theorem w_mw_or (ha:WT X Θ a ta) (d:WW X Θ (.BoolOp .Or (b::zt) pos) tb):WW X Θ (.BoolOp .Or (a::b::zt) pos) (M.tOr ta tb):=by with_unfolding_all exact Uq ha d
theorem zFf (ha:MT X Θ a ta):MT X Θ (.UnaryOp .Not a pos) (M.qB ta):=(zCO ha).imp λσ H Q ⟨g,d,S,st,i,h⟩=>⟨g,d,S,st,i,zE.bind h λj m k n o p l1 f e l=>by
 cases e;exact zE.here (b:=!k) l f rfl⟩
theorem w_mt_not (ha:WT X Θ a ta):WT X Θ (.UnaryOp .Not a pos) (M.qB ta):=by with_unfolding_all exact zFf ha
theorem zEg {op} (ha:ME X Θ a ma):ME X Θ (.BoolOp op [a] pos) ma:=zBj ha
theorem w_me_one {op} (ha:WE X Θ a ma):WE X Θ (.BoolOp op [a] pos) ma:=by with_unfolding_all exact zEg (op:=op) ha
theorem KJ {K:PySem.W.Frag}{e g:Type}{i:List zA->Hp->e->g->Prop}{d:List zA}{H:Hp}{x:M.D}{v:V}{S:M.S}{f:Bool->M.S->M.R e}{Q:g->Hp->Prop} (r:zI K d H x v) (h:zE K Θ i d H ((M.asB x S).bind f) Q):∃ k,v=.bl k/\zE K Θ i d H (f k S) Q:=by
 cases x with
 | bl b=>cases r;exact⟨b,rfl,h⟩
 | _=>exact h.elim
theorem zBk (ha:ME X Θ a ma) (j:ME X Θ (.BoolOp .And (b::zt) pos) mb):ME X Θ (.BoolOp .And (a::b::zt) pos) (M.xr ma mb) :=
 (Wr ha j).imp λσ H Q ⟨l,d,S,st,m,h⟩=>⟨l,d,S,st,m,zE.bind h λg q x r n o l1 f rx p=>by
  obtain⟨k,e,i⟩:=KJ rx p;refine⟨k,e,?_⟩;cases k with
  | true=>exact yn ⟨g,d,n,st.mono o l1,f,i⟩
  | false=>exact yX (zE.here (b:=V.bl false) i f rfl)⟩
theorem w_me_and (ha:WE X Θ a ma) (d:WE X Θ (.BoolOp .And (b::zt) pos) mb):WE X Θ (.BoolOp .And (a::b::zt) pos) (M.xr ma mb):=by with_unfolding_all exact zBk ha d
theorem Wc (ha:ME X Θ a ma) (j:ME X Θ (.BoolOp .Or (b::zt) pos) mb):ME X Θ (.BoolOp .Or (a::b::zt) pos) (M.eOr ma mb) :=
 (wb ha j).imp λσ H Q ⟨l,d,S,st,m,h⟩=>⟨l,d,S,st,m,zE.bind h λg q x r n o l1 f rx p=>by
  obtain⟨k,e,i⟩:=KJ rx p;refine⟨k,e,?_⟩;cases k with
  | true=>exact yn (zE.here (b:=V.bl true) i f rfl)
  | false=>exact yX ⟨g,d,n,st.mono o l1,f,i⟩⟩
theorem w_me_or (ha:WE X Θ a ma) (d:WE X Θ (.BoolOp .Or (b::zt) pos) mb):WE X Θ (.BoolOp .Or (a::b::zt) pos) (M.eOr ma mb):=by with_unfolding_all exact Wc ha d
theorem zCW (ha:ME X Θ a ma):ME X Θ (.UnaryOp .Not a pos) (M.vm ma):=(U5 ha).imp λσ H Q ⟨g,d,S,st,i,h⟩=>⟨g,d,S,st,i,zE.bind h λj n x o p q l1 f rx l=>by
 obtain⟨k,e,m⟩:=KJ rx l;exact⟨k,e,zE.here (b:=V.bl !k) m f rfl⟩⟩
theorem w_me_not (ha:WE X Θ a ma):WE X Θ (.UnaryOp .Not a pos) (M.vm ma):=by with_unfolding_all exact zCW ha
theorem zFY (m:MT X Θ c ta) (ha:ME X Θ a ma) (n:ME X Θ b mb):ME X Θ (.IfExp c a b pos) (M.eIf ta ma mb):=(zAM m ha n).imp λσ H Q ⟨o,d,S,st,p,h⟩=>⟨o,d,S,st,p,zE.bind h λf q k r i j l1 g e l=>by
 cases e;cases k with
 | true=>exact yn ⟨f,d,i,st.mono j l1,g,l⟩
 | false=>exact yX ⟨f,d,i,st.mono j l1,g,l⟩⟩
theorem w_me_ifExp (d:WT X Θ c ta) (ha:WE X Θ a ma) (e:WE X Θ b mb):WE X Θ (.IfExp c a b pos) (M.eIf ta ma mb):=by with_unfolding_all exact zFY d ha e
theorem vQ:MA X Θ [] M.zM:=KP.imp λσ H Q ⟨f,d,S,st,e,h⟩=>zE.here (b:=[]) h e rfl
theorem w_ma_nil:WA X Θ [] M.zM:=by with_unfolding_all exact vQ
theorem vH {e:zF}{es:List zF}{r:M.AM} (ha:ME X Θ e ma) (j:MA X Θ es r) (k:zy e=true:=by rfl):MA X Θ (e::es) (M.zH ma r) :=
 (vD ha j (qO k)).imp λσ H Q ⟨l,d,S,st,m,h⟩=>⟨l,d,S,st,m,zE.bind h λf v x n o p l1 g rx q=>⟨f,d,o,st.mono p l1,g,
  zE.bind q λs w ys t y p2 l2 i ry u=>u.here i ⟨n,t,rfl,rx.mono p2 l2,ry⟩⟩⟩
theorem w_ma_cons {e:zF}{es:List zF}{r:M.AM} (ha:WE X Θ e ma) (d:WA X Θ es r) (f:zy e=true:=by rfl):WA X Θ (e::es) (M.zH ma r):=by with_unfolding_all exact vH (e:=e) (es:=es) (r:=r) ha d f
theorem zC8 {es:List zF}{r:M.AM}{x1} (j:MA X Θ es r):ME X Θ (.Tuple es x1 pos) (M.x4 r):=(zEB j).imp λσ H Q ⟨k,f,S,st,l,h⟩=>⟨k,f,S,st,l,zE.bind h λg n xs m o q l1 i rx d=>by
 by_cases e:xs.length <= M.SZ
 ·rw[if_pos e] at d;rw[qv,rx.length] at e;exact⟨e,λp hp=>d g _ _ (jN _) (Le.new hp _) (i.aside hp _) ⟨p,m,rfl,SqT.of jr,rx.mono (jN _) (Le.new hp _)⟩⟩
 ·rw[if_neg e] at d;exact d.elim⟩
theorem w_me_tup {es:List zF}{r:M.AM}{x1} (d:WA X Θ es r):WE X Θ (.Tuple es x1 pos) (M.x4 r):=by with_unfolding_all exact zC8 (es:=es) (r:=r) (x1:=x1) d
theorem zE.alloc {K:PySem.W.Frag}{d:List zA}{H:Hp}{S:M.S}{e:List M.D}{xs:List V}{Q:VK} (h:zE K Θ (zI K) d H (M.alloc (.lst e) S) Q) (f:zK K Θ d S H) (r:zL K d H e xs) {p:zA} (hp:H p=none):Q (.ref p) (upd H p (.lst xs)) :=
 h (d++[p]) _ _ (Q0 _ _) (Le.new hp _) (f.alloc hp ⟨xs,jr,r.mono (Q0 _ _) (Le.new hp _)⟩) ⟨p,rfl,by rw[<- f.len];simp⟩
theorem zAY {es:List zF}{r:M.AM} (i:MA X Θ es r):ME X Θ (.List es pos) (M.QH r):=(Wu i).imp λσ H Q ⟨j,f,S,st,k,h⟩=>⟨j,f,S,st,k,zE.bind h λl m xs n o q l1 g rx d=>by
 by_cases e:xs.length <= M.SZ
 ·rw[if_pos e] at d;rw[qv,rx.length] at e;exact⟨e,λp hp=>d.alloc g rx hp⟩
 ·rw[if_neg e] at d;exact d.elim⟩
theorem w_me_lst {es:List zF}{r:M.AM} (d:WA X Θ es r):WE X Θ (.List es pos) (M.QH r):=by with_unfolding_all exact zAY (es:=es) (r:=r) d
theorem zFq:MO X Θ none M.yO:=zFS.imp λσ H Q ⟨f,d,S,st,e,h⟩=>zE.here (b:=none) h e rfl
theorem w_mo_none:WO X Θ none M.yO:=by with_unfolding_all exact zFq
theorem zEr (ha:ME X Θ a ma):MO X Θ (some a) (M.jI ma):=(zFi ha).imp λσ H Q ⟨g,d,S,st,j,h⟩=>⟨g,d,S,st,j,zE.bind h λk l x m n o l1 e rx f=>by
 cases x with
 | int i=>cases rx;exact⟨i,rfl,zE.here (b:=some i) f e rfl⟩
 | _=>exact f.elim⟩
theorem w_mo_some (ha:WE X Θ a ma):WO X Θ (some a) (M.jI ma):=by with_unfolding_all exact zEr ha
theorem zFD {lo hi:Option zF}{p2:Pos}{ml mh:M.OM}{r:V->Option Int->Option Int->Hp->VK->Prop} (p:SlR X r) (ad:∀ e H S x f l u Q,zK X.K Θ e S H->zI X.K e H x f->zE X.K Θ (zI X.K) e H (M.slD x l u S) Q->r f l u H Q) (ha:ME X Θ a ma) (q:MO X Θ lo ml) (s:MO X Θ hi mh) :
  ME X Θ (.Subscript a (.Slice lo hi none p2) pos) (M.eSl ma ml mh):=(Wx p ha q s).imp λσ H Q ⟨e,d,S,st,t,h⟩=>⟨e,d,S,st,t,zE.bind h λg G x f v o l1 i rx w=>⟨g,d,v,st.mono o l1,i,
  zE.bind w λj I l J y p2 l2 k z A=>by
   cases z;exact⟨j,d,y,st.mono (o.trans p2) (l1.trans l2),k,zE.bind A λm B u L C D l3 n E F=>by
    cases E;exact ad m B C x f l u Q n (rx.mono (p2.trans D) (l2.trans l3)) F⟩⟩⟩
theorem w_me_sl {lo hi:Option zF}{p2:Pos}{ml mh:M.OM}{r:V->Option Int->Option Int->Hp->VK->Prop} (f:SlR X r) (ad:∀ d H S x e l u Q,zK X.K Θ d S H->zI X.K d H x e->zE X.K Θ (zI X.K) d H (M.slD x l u S) Q->r e l u H Q) (ha:WE X Θ a ma) (g:WO X Θ lo ml) (h:WO X Θ hi mh) :
  WE X Θ (.Subscript a (.Slice lo hi none p2) pos) (M.eSl ma ml mh):=by with_unfolding_all exact zFD (lo:=lo) (hi:=hi) (p2:=p2) (ml:=ml) (mh:=mh) (r:=r) f ad ha g h
theorem zET {x:Str}{p:Pos}{id:String}{e:zF}{es:List zF}{f:M.F}{r:List V->Hp->VK->Prop}{m:M.AM} (l:jo X (.builtin id) r) (ad:AdN X.K Θ f r) (n:Gl X x) (o:X.mg x=none) (q:jk x=some (.builtin id)) (ha:MA X Θ (e::es) m)
  (hn:x ≠ "__name__" := by decide) (d:(x == ("__debug__" : Str))=false:=by decide) (s:zy e=true:=by rfl) (g:es.all zy=true:=by rfl) :
  ME X Θ (.Call (.Name x p) (e::es) [] pos) (M.zQ f m):=(vy l n o q ha hn d (qO s) (Z9 g)).imp λσ H Q ⟨t,i,S,st,u,h⟩=>⟨t,i,S,st,u,zE.bind h λj v xs w y A l1 k rx z=>ad j v y xs w Q k rx z⟩
theorem w_me_callB {x:Str}{p:Pos}{id:String}{e:zF}{es:List zF}{f:M.F}{r:List V->Hp->VK->Prop}{m:M.AM} (h:jo X (.builtin id) r) (ad:AdN X.K Θ f r) (i:Gl X x) (j:X.mg x=none) (k:jk x=some (.builtin id)) (ha:WA X Θ (e::es) m)
  (hn:x ≠ "__name__" := by decide) (d:(x == ("__debug__" : Str))=false:=by decide) (l:zy e=true:=by rfl) (g:es.all zy=true:=by rfl) :
  WE X Θ (.Call (.Name x p) (e::es) [] pos) (M.zQ f m):=by with_unfolding_all exact zET (x:=x) (p:=p) (id:=id) (e:=e) (es:=es) (f:=f) (r:=r) (m:=m) h ad i j k ha hn d l g
theorem zB5 {x:Str}{p:Pos}{T:String}{e:zF}{es:List zF}{f:M.F}{r:List V->Hp->VK->Prop}{m:M.AM} (l:jo X (.type T) r) (ad:AdN X.K Θ f r) (n:Gl X x) (o:X.mg x=none) (q:jk x=some (.type T)) (ha:MA X Θ (e::es) m)
  (hn:x ≠ "__name__" := by decide) (d:(x == ("__debug__" : Str))=false:=by decide) (s:zy e=true:=by rfl) (g:es.all zy=true:=by rfl) :
  ME X Θ (.Call (.Name x p) (e::es) [] pos) (M.zQ f m):=(zFI l n o q ha hn d (qO s) (Z9 g)).imp λσ H Q ⟨t,i,S,st,u,h⟩=>⟨t,i,S,st,u,zE.bind h λj v xs w y A l1 k rx z=>ad j v y xs w Q k rx z⟩
theorem w_me_callTy {x:Str}{p:Pos}{T:String}{e:zF}{es:List zF}{f:M.F}{r:List V->Hp->VK->Prop}{m:M.AM} (h:jo X (.type T) r) (ad:AdN X.K Θ f r) (i:Gl X x) (j:X.mg x=none) (k:jk x=some (.type T)) (ha:WA X Θ (e::es) m)
  (hn:x ≠ "__name__" := by decide) (d:(x == ("__debug__" : Str))=false:=by decide) (l:zy e=true:=by rfl) (g:es.all zy=true:=by rfl) :
  WE X Θ (.Call (.Name x p) (e::es) [] pos) (M.zQ f m):=by with_unfolding_all exact zB5 (x:=x) (p:=p) (T:=T) (e:=e) (es:=es) (f:=f) (r:=r) (m:=m) h ad i j k ha hn d l g
theorem Vj {K:PySem.W.Frag}{l:List zA}{H:Hp}{S:M.S}{k:M.Kd}{x:M.D}{v:V} (j:zK K Θ l S H) (r:zI K l H x v) (h:M.yP k x S=true):tyV K (ju k) v H:=by
 cases x with
 | str z=>obtain⟨rfl,_⟩:=r;cases k<;>first | rfl | cases h
 | ro p =>
  obtain⟨a,xs,rfl,q,_⟩:=r;cases k<;>first | exact .inl ⟨rfl,xs,q.sq⟩ | cases h
 | ref i =>
  obtain⟨a,rfl,e⟩:=r;cases q:S[i]? with
  | none=>simp[M.yP,q] at h
  | some o =>
   cases o with
   | lst xs =>
    obtain⟨b,d,g,f,_⟩:=j.obj _ _ q;rw[e] at d;cases d;cases k<;>first | exact .inl ⟨rfl,g,SqL.of f⟩ | simp[M.yP,q] at h
   | dct xs =>
    obtain⟨b,d,g,f,_⟩:=j.obj _ _ q;rw[e] at d;cases d;cases k<;>first | exact .inr (.inr (.inl ⟨rfl,.inl ⟨g,f⟩⟩)) | simp[M.yP,q] at h
   | fdc _=>simp[M.yP,q] at h
   | ftt _=>simp[M.yP,q] at h
   | dtt xs =>
    obtain⟨b,d,g,f,_⟩:=j.obj _ _ q;rw[e] at d;cases d;cases k<;>first | exact .inr (.inr (.inl ⟨rfl,.inr (.inr ⟨_,f,λh z=>let ⟨_,_,_,o,_,_,m,n,_⟩:=z;⟨o,m,n⟩⟩)⟩)) | simp[M.yP,q] at h
   | ins c fs=>simp[M.yP,q] at h
 | _=>cases h
theorem UZ {k:M.Kd}{T:String}{f:M.D->M.F}{r:V->List V->Hp->VK->Prop}{o e:zF}{es:List zF}{mo:M.EM}{m:M.AM}{name:Str}{apos cpos:Pos}{id:String} (A:J4 T) (slot:Slot T name id) (q:xb (.builtin id)=pure (.type "method_descriptor")) (B:MtR X id r) (ad:AdM X.K Θ f r) (C:T=ju k) (E:ME X Θ o mo) (ha:MA X Θ (e::es) m)
  (g:q1 o name X.env (eval o X.env)=eval o X.env:=by rfl)
  (j:(e::es).length < 30:=by exact zDS rfl) (i:(apos.endLine == cpos.line)=true:=by rfl) (y:zy e=true:=by rfl) (d:es.all zy=true:=by rfl) :
  ME X Θ (.Call (.Attribute o name apos) (e::es) [] cpos) (M.eM k f mo m):=(VQ A slot q B E ha g (Y8 (by rw[Ze,y,d];rfl) j) i (qO y) (Z9 d)).imp λσ H Q ⟨G,l,S,st,I,h⟩=>⟨G,l,S,st,I,zE.bind h λs U x J z L l1 n rx p=>by
 cases t:M.yP k x z with
 | false=>rw[t] at p;exact p.elim
 | true =>
  rw[t] at p;exact⟨C ▸ Vj n rx t,s,l,z,st.mono L l1,n,zE.bind p λu N xs O P p2 l2 v w R=>ad u N P x xs J O Q v (rx.mono p2 l2) w R⟩⟩
theorem w_me_m {k:M.Kd}{T:String}{f:M.D->M.F}{r:V->List V->Hp->VK->Prop}{o e:zF}{es:List zF}{mo:M.EM}{m:M.AM}{name:Str}{apos cpos:Pos}{id:String} (l:J4 T) (slot:Slot T name id) (j:xb (.builtin id)=pure (.type "method_descriptor")) (n:MtR X id r) (ad:AdM X.K Θ f r) (p:T=ju k) (q:WE X Θ o mo) (ha:WA X Θ (e::es) m)
  (g:q1 o name X.env (eval o X.env)=eval o X.env:=by rfl)
  (i:(e::es).length < 30:=by exact zDS rfl) (h:(apos.endLine == cpos.line)=true:=by rfl) (s:zy e=true:=by rfl) (d:es.all zy=true:=by rfl) :
  WE X Θ (.Call (.Attribute o name apos) (e::es) [] cpos) (M.eM k f mo m):=by with_unfolding_all exact UZ (k:=k) (T:=T) (f:=f) (r:=r) (o:=o) (e:=e) (es:=es) (mo:=mo) (m:=m) (name:=name) (apos:=apos) (cpos:=cpos) (id:=id) l slot j n ad p q ha g i h s d
theorem zAQ {k:M.Kd}{T:String}{f:M.D->M.F}{r:V->List V->Hp->VK->Prop}{o:zF}{mo:M.EM}{name:Str}{apos cpos:Pos}{id:String} (q:J4 T) (slot:Slot T name id) (j:xb (.builtin id)=pure (.type "method_descriptor")) (s:MtR X id r) (ad:AdM X.K Θ f r) (t:T=ju k) (u:ME X Θ o mo)
  (d:q1 o name X.env (eval o X.env)=eval o X.env:=by rfl) (e:(apos.endLine == cpos.line)=true:=by rfl) :
  ME X Θ (.Call (.Attribute o name apos) [] [] cpos) (M.eM k f mo M.zM):=(zAb q slot j s u d e).imp λσ H Q ⟨v,l,S,st,w,h⟩=>⟨v,l,S,st,w,zE.bind h λm y x z p A l1 g rx i=>by
 cases n:M.yP k x p with
 | false=>rw[n] at i;exact i.elim
 | true =>
  rw[n] at i;exact⟨t ▸ Vj g rx n,ad m y p x [] z [] Q g rx rfl i⟩⟩
theorem w_me_m0 {k:M.Kd}{T:String}{f:M.D->M.F}{r:V->List V->Hp->VK->Prop}{o:zF}{mo:M.EM}{name:Str}{apos cpos:Pos}{id:String} (h:J4 T) (slot:Slot T name id) (g:xb (.builtin id)=pure (.type "method_descriptor")) (i:MtR X id r) (ad:AdM X.K Θ f r) (j:T=ju k) (l:WE X Θ o mo)
  (d:q1 o name X.env (eval o X.env)=eval o X.env:=by rfl) (e:(apos.endLine == cpos.line)=true:=by rfl) :
  WE X Θ (.Call (.Attribute o name apos) [] [] cpos) (M.eM k f mo M.zM):=by with_unfolding_all exact zAQ (k:=k) (T:=T) (f:=f) (r:=r) (o:=o) (mo:=mo) (name:=name) (apos:=apos) (cpos:=cpos) (id:=id) h slot g i ad j l d e
end
end L2
namespace L2
open PySem PySem.Spec PyProof.Rows
noncomputable def zh (K:PySem.W.Frag) (Θ:Tab) (f:List zA) (H:Hp):M.RS->Zr->Prop
 | .nx c e,D=>∀ a b σ,f <+: a->Le H b->zK K Θ a e b->zw K a b c σ->D.nx σ b
 | .rt d e,D=>∀ a b v,f <+: a->Le H b->zK K Θ a e b->zI K a b d v->D.rt v b
 | .bk c e,D=>∀ a b σ,f <+: a->Le H b->zK K Θ a e b->zw K a b c σ->D.bk σ b
 | .ct c e,D=>∀ a b σ,f <+: a->Le H b->zK K Θ a e b->zw K a b c σ->D.ct σ b
 | .exc d _ g,_=>qP K Θ f H d g
 | .no,_=>False
noncomputable def RdS (K:PySem.W.Frag) (Θ:Tab) (m:M.SM):TS:=λD σ H=>∃ b a S,zw K b H a σ/\zK K Θ b S H/\zh K Θ b H (m a S) D
noncomputable abbrev MS (X:Cx) (Θ:Tab) (st:zT) (m:M.SM):Prop:=PS X st (RdS X.K Θ m)
@[irreducible] noncomputable def WS (X:Cx) (Θ:Tab) (st:zT) (m:M.SM):Prop:=MS X Θ st m
noncomputable abbrev MSs (X:Cx) (Θ:Tab) (st:List zT) (m:M.SM):Prop:=PSs X st (RdS X.K Θ m)
@[irreducible] noncomputable def WSs (X:Cx) (Θ:Tab) (st:List zT) (m:M.SM):Prop:=MSs X Θ st m
theorem PS.imp {X:Cx}{e:zT}{t t':TS} (h:PS X e t) (i:∀ D σ H,t' D σ H->t D σ H):PS X e t':=λa s σ H D I q=>h a s σ H D I (i D σ H q)
theorem PSs.imp {X:Cx}{e:List zT}{t t':TS} (h:PSs X e t) (i:∀ D σ H,t' D σ H->t D σ H):PSs X e t':=λa s σ H D I q=>h a s σ H D I (i D σ H q)
section
variable {K:PySem.W.Frag}{Θ:Tab}{ρ ρ':List zA}{H H':Hp}{S:M.S}{α β:Type}{Rl:List zA->Hp->α->β->Prop}{Q:β->Hp->Prop}{D D':Zr}
theorem zh.weak {r:M.RS} (h:zh K Θ ρ H r D) (d:ρ <+: ρ') (le:Le H H'):zh K Θ ρ' H' r D:=by
 cases r with
 | nx a s=>exact λc f b p l=>h c f b (d.trans p) (le.trans l)
 | rt a s=>exact λc f b p l=>h c f b (d.trans p) (le.trans l)
 | bk a s=>exact λc f b p l=>h c f b (d.trans p) (le.trans l)
 | ct a s=>exact λc f b p l=>h c f b (d.trans p) (le.trans l)
 | exc e a s=>exact qP.weak h d le
 | no=>exact h
theorem zh.stm {r:M.R α}{σ:M.St}{f:α->M.S->M.RS} (h:zh K Θ ρ H (r.stm σ f) D)
  (k:∀ ρ' H' a b d,ρ <+: ρ'->Le H H'->zK K Θ ρ' d H'->Rl ρ' H' a b->zh K Θ ρ' H' (f a d) D->Q b H'):zE K Θ Rl ρ H r Q:=by
 cases r with
 | ok a s=>exact λc g b p l i j=>k c g a b s p l i j (zh.weak h p l)
 | exc e s=>exact h
 | no=>exact h
theorem zh.nx {a:M.St}{σ:St} (h:zh K Θ ρ H (.nx a S) D) (b:zK K Θ ρ S H) (st:zw K ρ H a σ):D.nx σ H:=h ρ H σ (jN _) (Le.refl _) b st
theorem zh.rt {d:M.D}{v:V} (h:zh K Θ ρ H (.rt d S) D) (a:zK K Θ ρ S H) (r:zI K ρ H d v):D.rt v H:=h ρ H v (jN _) (Le.refl _) a r
end
section
variable {X:Cx}{Θ:Tab}{e:zF}{pos:Pos}{m:M.EM}{st:zT}{zt:List zT}{ms mr:M.SM}
theorem zCC:MSs X Θ [] M.jC:=zBt.imp λD σ H ⟨c,a,S,st,b,h⟩=>h.nx b st
theorem w_mss_nil:WSs X Θ [] M.jC:=by with_unfolding_all exact zCC
theorem zCe (h:MS X Θ st ms):MSs X Θ [st] ms:=vx h
theorem w_mss_one (h:WS X Θ st ms):WSs X Θ [st] ms:=by with_unfolding_all exact zCe h
theorem zBP (i:MS X Θ st ms) (j:MSs X Θ zt mr):MSs X Θ (st::zt) (M.zO ms mr):=(uq i j).imp λD σ H ⟨g,b,S,st,k,h⟩=>⟨g,b,S,st,k,by
 have h':zh X.K Θ g H ((ms b S).then mr) D:=h;revert h';cases ms b S with
 | nx a s=>exact λh' c o n p l d f=>⟨c,a,s,f,d,zh.weak h' p l⟩
 | rt a s=>exact λh'=>h'
 | bk a s=>exact λh'=>h'
 | ct a s=>exact λh'=>h'
 | exc e a s=>exact λh'=>h'
 | no=>exact λh'=>h'⟩
theorem w_mss_cons (a:WS X Θ st ms) (b:WSs X Θ zt mr):WSs X Θ (st::zt) (M.zO ms mr):=by with_unfolding_all exact zBP a b
theorem zFJ (c:ME X Θ e m) (d:j1 e none pos.line X.env=pure false:=by rfl):MS X Θ (.Expr e pos) (M.ZS m):=(uz c d).imp λD σ H ⟨f,a,S,st,g,h⟩=>⟨f,a,S,st,g,zh.stm h λi l x n o j l1 b rx k=>k.nx b (st.mono j l1)⟩
theorem w_ms_expr (a:WE X Θ e m) (b:j1 e none pos.line X.env=pure false:=by rfl):WS X Θ (.Expr e pos) (M.ZS m):=by with_unfolding_all exact zFJ a b
theorem zCN (c:ME X Θ e m):MS X Θ (.Return (some e) pos) (M.zi m):=(UD c).imp λD σ H ⟨d,a,S,st,f,h⟩=>⟨d,a,S,st,f,zh.stm h λg j x k l n l1 b rx i=>i.rt b rx⟩
theorem w_ms_ret (a:WE X Θ e m):WS X Θ (.Return (some e) pos) (M.zi m):=by with_unfolding_all exact zCN a
theorem zEX {i:Nat}{x:Str}{pos':Pos} (c:X.N.Nodup) (hi:X.N[i]? = some x) (d:Loc X.env.scope x) (f:ME X Θ e m) (g:j1 e (some (.Name x pos')) pos.line X.env=pure false:=by kernel_rfl) (j:X.fn x=true\/X.env.scope.names.lookup x=some .local:=by first | exact .inl rfl | exact .inr rfl | assumption) :
  MS X Θ (.Assign [.Name x pos'] e pos) (M.zq i m):=(zAn c hi d f g j).imp λD σ H ⟨k,a,S,st,l,h⟩=>⟨k,a,S,st,l,zh.stm h λn q x r s o l1 b rx p=>p.nx b ((st.mono o l1).set rx i)⟩
theorem w_ms_set {i:Nat}{x:Str}{pos':Pos} (a:X.N.Nodup) (hi:X.N[i]? = some x) (b:Loc X.env.scope x) (c:WE X Θ e m) (d:j1 e (some (.Name x pos')) pos.line X.env=pure false:=by kernel_rfl) (f:X.fn x=true\/X.env.scope.names.lookup x=some .local:=by first | exact .inl rfl | exact .inr rfl | assumption) :
  WS X Θ (.Assign [.Name x pos'] e pos) (M.zq i m):=by with_unfolding_all exact zEX (i:=i) (x:=x) (pos':=pos') a hi b c d f
theorem zFz {c:zF}{a b:List zT}{tc:M.TM}{ma mb:M.SM} (n:MT X Θ c tc) (ha:MSs X Θ a ma) (o:MSs X Θ b mb):MS X Θ (.If c a b pos) (M.sIf tc ma mb):=(zFx n ha o).imp λD σ H ⟨p,d,S,st,q,h⟩=>⟨p,d,S,st,q,zh.stm h λf s k t i j l1 g r l=>by
 cases r;cases k with
 | true=>exact yn ⟨f,d,i,st.mono j l1,g,l⟩
 | false=>exact yX ⟨f,d,i,st.mono j l1,g,l⟩⟩
theorem w_ms_if {c:zF}{a b:List zT}{tc:M.TM}{ma mb:M.SM} (d:WT X Θ c tc) (ha:WSs X Θ a ma) (f:WSs X Θ b mb):WS X Θ (.If c a b pos) (M.sIf tc ma mb):=by with_unfolding_all exact zFz (c:=c) (a:=a) (b:=b) (tc:=tc) (ma:=ma) (mb:=mb) d ha f
theorem zCR {i:Nat}{x:Str}{op:JQ}{f:M.D->M.D->M.S->M.R M.D}{r:R2}{pos':Pos} (l:X.N.Nodup) (hi:X.N[i]? = some x) (n:Loc X.env.scope x) (o:ME X Θ e m) (a:PIp X op r) (ad:Ad2 X.K Θ f r)
  (p:X.fn x=true\/X.env.scope.names.lookup x=some .local:=by first | exact .inl rfl | exact .inr rfl | assumption):MS X Θ (.AugAssign (.Name x pos') op e pos) (M.QJ f i m):=(UV l hi n o a p).imp λD σ H ⟨q,b,S,st,s,h⟩=>by
 unfold M.QJ at h;split at h
 ·rename_i d e;obtain⟨v,t,u⟩:=st.get i d e;exact⟨v,t,q,b,S,st,s,zh.stm h λc w y Y A k l1 g ry B=>ad c w A d y v Y _ g (u.mono k l1) ry (zh.stm B λC G z Z I p2 l2 j E F=>F.nx j ((st.mono (k.trans p2) (l1.trans l2)).set E i))⟩
 ·exact h.elim
theorem w_ms_aug {i:Nat}{x:Str}{op:JQ}{f:M.D->M.D->M.S->M.R M.D}{r:R2}{pos':Pos} (b:X.N.Nodup) (hi:X.N[i]? = some x) (c:Loc X.env.scope x) (d:WE X Θ e m) (a:PIp X op r) (ad:Ad2 X.K Θ f r)
  (g:X.fn x=true\/X.env.scope.names.lookup x=some .local:=by first | exact .inl rfl | exact .inr rfl | assumption):WS X Θ (.AugAssign (.Name x pos') op e pos) (M.QJ f i m):=by with_unfolding_all exact zCR (i:=i) (x:=x) (op:=op) (f:=f) (r:=r) (pos':=pos') b hi c d a ad g
end
noncomputable def RdG (K:PySem.W.Frag) (Θ:Tab) (js:List Nat) (g:M.GM):TG:=λv σ H Q=>∃ b c S d,zw K b H c σ/\zK K Θ b S H/\zI K b H d v/\∃ e,g d c=some e /\
 ∀ f a,Le H f->zK K Θ b S f->zw K b f e a->a.length=σ.length->(∀ j,j∉js->a[j]? = σ[j]?)->Q a f
noncomputable abbrev MG (X:Cx) (Θ:Tab) (js:List Nat) (tg:zF) (g:M.GM):Prop:=PG X tg (RdG X.K Θ js g)
@[irreducible] noncomputable def WG (X:Cx) (Θ:Tab) (js:List Nat) (tg:zF) (g:M.GM):Prop:=MG X Θ js tg g
theorem PG.imp {X:Cx}{e:zF}{t t':TG} (h:PG X e t) (i:∀ v σ H Q,t' v σ H Q->t v σ H Q):PG X e t':=λa s σ H v u Q I r q=>h a s σ H v u Q I r (i v σ H Q q)
theorem Wz {X:Cx}{Θ:Tab}{pos:Pos}{i:Nat}{x:Str} (a:X.N.Nodup) (hi:X.N[i]? = some x) (b:Loc X.env.scope x) (c:X.fn x=true\/X.env.scope.names.lookup x=some .local:=by first | exact .inl rfl | exact .inr rfl | assumption) :
  MG X Θ [i] (.Name x pos) (M.jM i):=(zE5 a hi b c).imp λv σ H Q ⟨n,f,S,d,st,g,k,l,e,h⟩=>by
 cases e;exact h H _ (Le.refl _) g (st.set k i) (by rw[Zz]) λj m=>ZR (λz=>m (by rw[z];simp))
theorem w_mg_name {X:Cx}{Θ:Tab}{pos:Pos}{i:Nat}{x:Str} (a:X.N.Nodup) (hi:X.N[i]? = some x) (b:Loc X.env.scope x) (c:X.fn x=true\/X.env.scope.names.lookup x=some .local:=by first | exact .inl rfl | exact .inr rfl | assumption) :
  WG X Θ [i] (.Name x pos) (M.jM i):=by with_unfolding_all exact Wz (X:=X) (Θ:=Θ) (pos:=pos) (i:=i) (x:=x) a hi b c
noncomputable def Vt (K:PySem.W.Frag) (Θ:Tab) (js:List Nat) (g:M.GMs):TGs:=λh σ H Q=>∃ b c S f,zw K b H c σ/\zK K Θ b S H/\zL K b H f h/\∃ d,g f c=some d /\
 ∀ e a,Le H e->zK K Θ b S e->zw K b e d a->a.length=σ.length->(∀ j,j∉js->a[j]? = σ[j]?)->Q a e
noncomputable abbrev MGs (X:Cx) (Θ:Tab) (js:List Nat) (a:List zF) (g:M.GMs):Prop:=PGs X a (Vt X.K Θ js g)
@[irreducible] noncomputable def WGs (X:Cx) (Θ:Tab) (js:List Nat) (a:List zF) (g:M.GMs):Prop:=MGs X Θ js a g
theorem PGs.imp {X:Cx}{e:List zF}{t t':TGs} (h:PGs X e t) (i:∀ v σ H Q,t' v σ H Q->t v σ H Q):PGs X e t':=λa s σ H v u Q I r q=>h a s σ H v u Q I r (i v σ H Q q)
theorem Ua {X:Cx}{Θ:Tab}:MGs X Θ [] [] M.q8:=zD0.imp λi σ H Q ⟨j,b,S,a,st,c,f,g,e,h⟩=>by
 cases a with
 | nil=>cases f;cases e;exact⟨rfl,h H σ (Le.refl _) c st rfl λ_ _=>rfl⟩
 | cons d a=>cases e
theorem w_mgs_nil {X:Cx}{Θ:Tab}:WGs X Θ [] [] M.q8:=by with_unfolding_all exact Ua (X:=X) (Θ:=Θ)
theorem zCS {X:Cx}{Θ:Tab}{e:zF}{es:List zF}{g:M.GM}{gs:M.GMs}{js ks:List Nat} (B:MG X Θ js e g) (C:MGs X Θ ks es gs) (hp:∀ {t:TG}{u:TGs},PG X e t->PGs X es u->PGs X (e::es) (jn t u)):MGs X Θ (js++ks) (e::es) (M.jn g gs) :=
 (hp B C).imp λL σ H Q ⟨x,a,S,k,st,D,E,f,A,h⟩=>by
  cases k with
  | nil=>cases A
  | cons d k =>
   obtain⟨y,ys,rfl,F,G⟩:=E;have b:(match g d a with | some a=>gs k a | none=>none)=some f:=A;cases q:g d a with
   | none=>rw[q] at b;cases b
   | some i =>
    rw[q] at b;refine⟨y,ys,rfl,x,a,S,d,st,D,F,i,q,λN I le l m J K=>⟨x,i,S,k,m,l,G.mono (jN _) le,f,b,λn o p r s v w=>h n o (le.trans p) r s (v.trans J) λj c=>?_⟩⟩;rw[zEG] at c;rw[w j λz=>c (.inr z),K j λz=>c (.inl z)]
theorem w_mgs_cons {X:Cx}{Θ:Tab}{e:zF}{es:List zF}{g:M.GM}{gs:M.GMs}{js ks:List Nat} (a:WG X Θ js e g) (b:WGs X Θ ks es gs) (hp:∀ {t:TG}{u:TGs},PG X e t->PGs X es u->PGs X (e::es) (jn t u)):WGs X Θ (js++ks) (e::es) (M.jn g gs):=by with_unfolding_all exact zCS (X:=X) (Θ:=Θ) (e:=e) (es:=es) (g:=g) (gs:=gs) (js:=js) (ks:=ks) a b hp
theorem zAw {X:Cx}{Θ:Tab}{es:List zF}{g:M.GMs}{js:List Nat}{tg:zF}{n:Nat} (h:PG X tg (yu X.K n (Vt X.K Θ js g))) (hn:∀ c σ b,g c σ=some b->c.length=n):MG X Θ js tg (M.yu g):=h.imp λv σ H Q ⟨i,e,S,d,st,j,k,b,f,h⟩=>by
 cases d with
 | tup c =>
  obtain⟨a,xs,rfl,l,r⟩:=k;exact⟨a,xs,rfl,l,by rw[<- r.length];exact hn c e b f,i,e,S,c,st,j,r,b,f,h⟩
 | _=>cases f
structure ItR (K:PySem.W.Frag) (Θ:Tab) (ρ:List zA) (H:Hp) (J:It) (xs:List M.D) (g:M.Gd):Prop where
 go:∀ (i:Nat) ρ' S' H',ρ <+: ρ'->Le H H'->zK K Θ ρ' S' H'->M.zU g S'=true->i < xs.length->J.go i H'
 yld:∀ (i:Nat) ρ' S' H' v H2,ρ <+: ρ'->Le H H'->zK K Θ ρ' S' H'->M.zU g S'=true->i < xs.length->J.yld i H' v H2->∃ d,xs[i]? = some d/\zI K ρ' H2 d v/\Le H' H2/\zK K Θ ρ' S' H2
 stop:∀ ρ' S' H',ρ <+: ρ'->Le H H'->zK K Θ ρ' S' H'->M.zU g S'=true->J.stop xs.length H'
noncomputable def RdI (K:PySem.W.Frag) (Θ:Tab) (m:M.IM):TI:=λσ H R=>∃ b a S,zw K b H a σ/\zK K Θ b S H /\
 zE K Θ (λc d (p:List M.D×M.Gd) (J:It)=>ItR K Θ c d J p.1 p.2) b H ((m a S).bind λp s=>if M.zU p.2 s then .ok p s else .no) R
noncomputable abbrev MI (X:Cx) (Θ:Tab) (tg iter:zF) (m:M.IM):Prop:=PI X tg iter (RdI X.K Θ m)
@[irreducible] noncomputable def WI (X:Cx) (Θ:Tab) (tg iter:zF) (m:M.IM):Prop:=MI X Θ tg iter m
theorem PI.imp {X:Cx}{tg e:zF}{t t':TI} (h:PI X tg e t) (i:∀ σ H R,t' σ H R->t σ H R):PI X tg e t':=λa s σ H R I q=>h a s σ H R I (i σ H R q)
theorem PI.or {X:Cx}{tg e:zF}{t t':TI} (h:PI X tg e t) (h':PI X tg e t'):PI X tg e (λσ H R=>t σ H R\/t' σ H R):=λa s σ H R I q=>by
 rcases q with q | q
 ·exact h a s σ H R I q
 ·exact h' a s σ H R I q
section
variable {X:Cx}{Θ:Tab}{tg e:zF}{m:M.EM}
theorem zD6 {K:PySem.W.Frag}{u:List zA}{H:Hp}{i:Nat}{a:zA}{h:List M.D} (ha:u[i]? = some a):ItR K Θ u H (Itl K a) h [(i,.lst h)]:=by
 have n:∀ {c:List zA}{o:M.S}{q:Hp},u <+: c->zK K Θ c o q->M.zU [(i,.lst h)] o=true->∃ f,q a=some (.lst f)/\zL K c q h f:=λ{c o q} p k g=>by
  have g':o[i]? = some (M.O.lst h):=by simpa [M.zU] using g
  obtain⟨b,s,f,x,r⟩:=k.obj i _ g';rw[JA p ha] at s;cases s;exact⟨f,x,r⟩
 refine⟨λj c o q p l k g t=>?_,λj c o q v B p l k g t y=>?_,λc o q p l k g=>?_⟩
 ·obtain⟨f,e,r⟩:=n p k g;obtain⟨v,s,_⟩:=r.get (i:=j) (d:=h[j]) (by simp[t]);exact⟨f,v,SqL.of e,s⟩
 ·obtain⟨f,e,r⟩:=n p k g;obtain⟨C,s,z⟩:=r.get (i:=j) (d:=h[j]) (by simp[t]);obtain⟨rfl,A⟩:=y;have w:=A f (SqL.of e);rw[s] at w;cases w;exact⟨h[j],by simp[t],z,Le.refl _,k⟩
 ·obtain⟨f,e,r⟩:=n p k g;exact⟨f,SqL.of e,vF r.length.symm⟩
theorem zBR {K:PySem.W.Frag}{o:List zA}{H:Hp}{a:zA}{b:List M.D}{xs:List V} (h:JU K H a xs) (r:zL K o H b xs):ItR K Θ o H (Itl K a) b []:=by
 refine⟨λj c q s p l k g f=>?_,λj c q s v x p l k g f y=>?_,λc q s p l k g=>?_⟩
 ·obtain⟨v,n,_⟩:=r.get (i:=j) (d:=b[j]) (by simp[f]);exact⟨xs,v,(l.rol h).sq,n⟩
 ·obtain⟨z,n,u⟩:=(r.mono p l).get (i:=j) (d:=b[j]) (by simp[f]);obtain⟨rfl,w⟩:=y;have t:=w xs (l.rol h).sq;rw[n] at t;cases t;exact⟨b[j],by simp[f],u,Le.refl _,k⟩
 ·exact⟨xs,(l.rol h).sq,vF r.length.symm⟩
theorem zDj {K:PySem.W.Frag}{o:List zA}{H:Hp}{a:zA}{b:List M.D}{xs:List V} (h:SqT K H a xs) (r:zL K o H b xs):ItR K Θ o H (Itt K a) b []:=by
 refine⟨λj c q s p l k g f=>?_,λj c q s v x p l k g f y=>?_,λc q s p l k g=>?_⟩
 ·obtain⟨v,n,_⟩:=r.get (i:=j) (d:=b[j]) (by simp[f]);exact⟨xs,v,l.sqT h,n⟩
 ·obtain⟨z,n,u⟩:=(r.mono p l).get (i:=j) (d:=b[j]) (by simp[f]);obtain⟨rfl,w⟩:=y;have t:=w xs (l.sqT h);rw[n] at t;cases t;exact⟨b[j],by simp[f],u,Le.refl _,k⟩
 ·exact⟨xs,l.sqT h,vF r.length.symm⟩
theorem u0 {K:PySem.W.Frag}{n:List zA}{H:Hp}{x:M.T} (ok:okT x):ItR K Θ n H (Its (ofT x)) (x.map λc=>.str [c]) []:=by
 refine⟨λj a i k p l f g h=>?_,λj a i k v q p l f g h y=>?_,λa i k p l f g=>?_⟩
 ·rw[j5] at h;show j < (ofT x).length;rw[jZ];exact h
 ·obtain⟨rfl,c,o,rfl⟩:=y;have b:x[j]? = some c:=by simpa [ofT] using o
  exact⟨.str [c],by rw[ZL,b];rfl,⟨rfl,xV ok λd hd=>by rw[List.mem_singleton.mp hd];exact ZG b⟩,Le.refl _,f⟩
 ·show (ofT x).length <= _;rw[jZ,j5];exact zl _
theorem zAZ {K:PySem.W.Frag}{i:List zA}{H:Hp}{lo hi:Int}:ItR K Θ i H (Itr lo (hi - lo).toNat) (M.qi lo hi) []:=by
 refine⟨λj a f h p l b g c=>?_,λj a f h v k p l b g c y=>?_,λa f h p l b g=>?_⟩
 ·show j < _;simpa [M.qi] using c
 ·obtain⟨rfl,rfl⟩:=y;have d:j < (hi - lo).toNat:=by simpa [M.qi] using c
  exact⟨.int (lo+j),by unfold M.qi;rw[ZL,xT d];rfl,rfl,Le.refl _,b⟩
 ·show _ <= _;simp[M.qi]
theorem zAA (A:ME X Θ e m):MI X Θ tg e (M.iE m):=(PI.or (Uw A) (PI.or (zFE A) (wT A))).imp λσ H R ⟨w,n,S,st,B,h⟩=>by
 have h':zE X.K Θ _ w H (((m n S).bind M.itD).bind λp s=>if M.zU p.2 s then .ok p s else .no) R:=h;clear h;cases y:m n S with
 | no=>rw[y] at h';exact h'.elim
 | exc a s=>rw[y] at h';exact .inl ⟨w,n,S,st,B,by rw[y];exact h'⟩
 | ok d t =>
  rw[y] at h';have go:∀ {Q:VK},(∀ f k v,w <+: f->Le H k->zK X.K Θ f t k->zI X.K f k d v->Q v k)->RdE X.K Θ m σ H Q:=λq=>⟨w,n,S,st,B,by rw[y];exact q⟩
  cases d with
  | str x =>
   refine .inr (.inr (go λf k v p l g u=>?_));have j:zE X.K Θ _ w H ((if x.length <= M.SZ then .ok (x.map λc=>M.D.str [c],[]) t else M.R.no).bind λp s=>if M.zU p.2 s then .ok p s else .no) R:=h';by_cases C:x.length <= M.SZ
   ·rw[if_pos C] at j;exact⟨ofT x,u.1,j f k _ p l g (u0 u.2)⟩
   ·rw[if_neg C] at j;exact j.elim
  | tup I =>
   refine .inr (.inl (go λf k v p l g u=>?_));obtain⟨a,xs,rfl,z,r⟩:=u;exact⟨a,rfl,⟨xs,z⟩,h' f k _ p l g (zDj z r)⟩
  | ro I =>
   refine .inl (go λf k v p l g u=>?_);obtain⟨a,xs,rfl,z,r⟩:=u;exact⟨a,rfl,⟨xs,z.sq⟩,h' f k _ p l g (zBR z r)⟩
  | ref i =>
   have j:zE X.K Θ _ w H ((match t[i]? with
    | some (.lst xs)=>M.R.ok (xs,[(i,M.O.lst xs)]) t
    | _=>.no).bind λp s=>if M.zU p.2 s then .ok p s else .no) R:=h'
   cases q:t[i]? with
   | none=>rw[q] at j;exact j.elim
   | some o =>
    rw[q] at j;cases o with
    | lst xs =>
     refine .inl (go λf k v p l g u=>?_);obtain⟨a,rfl,E⟩:=u;obtain⟨b,F,J,L,r⟩:=g.obj i _ q;rw[E] at F;cases F;have N:M.zU [(i,M.O.lst xs)] t=true:=by simp[M.zU,q]
     have G:zE X.K Θ _ w H (if M.zU [(i,M.O.lst xs)] t then M.R.ok (xs,[(i,M.O.lst xs)]) t else .no) R:=j;rw[if_pos N] at G;exact⟨a,rfl,⟨J,SqL.of L⟩,G f k _ p l g (zD6 E)⟩
    | dct P=>exact j.elim
    | fdc _=>exact j.elim
    | dtt _=>exact j.elim
    | ftt _=>exact j.elim
    | ins c fs=>exact j.elim
  | non=>exact h'.elim
  | bl b=>exact h'.elim
  | int b=>exact h'.elim
  | ty b=>exact h'.elim
theorem w_mi_e (a:WE X Θ e m):WI X Θ tg e (M.iE m):=by with_unfolding_all exact zAA a
theorem zFy {p pos:Pos} (r:Gl X "range") (c:X.mg "range" = none) (t:ME X Θ e m) (o:zy e=true:=by rfl):MI X Θ tg (.Call (.Name "range" p) [e] [] pos) (M.Q3 m) :=
 (Wf r c (vH t vQ o) (qO o)).imp λσ H R ⟨f,b,S,st,u,h⟩=>⟨f,b,S,st,u,by
  have h':zE X.K Θ _ f H (((m b S).bind λx s=>match x with
   | .int j=>if j.natAbs < 4611686018427387904 then M.R.ok (M.qi 0 j,([]:M.Gd)) s else .no
   | _=>.no).bind λp s=>if M.zU p.2 s then .ok p s else .no) R:=h
  show zE X.K Θ _ f H ((m b S).bind λx s=>(M.R.ok [] s).bind λxs s=>.ok (x::xs) s) _;cases c:m b S with
  | no=>rw[c] at h';exact h'.elim
  | exc a s=>rw[c] at h';exact h'
  | ok d w =>
   rw[c] at h';intro i y A p l k n;obtain⟨v,ys,rfl,n,z⟩:=n;cases z;cases d with
   | int j =>
    cases n;have g:zE X.K Θ _ f H ((if j.natAbs < 4611686018427387904 then M.R.ok (M.qi 0 j,([]:M.Gd)) w else .no).bind λp s=>if M.zU p.2 s then .ok p s else .no) R:=h';by_cases q:j.natAbs < 4611686018427387904
    ·rw[if_pos q] at g;refine⟨j,rfl,by omega,by omega,?_⟩;have:=g i y _ p l k (zAZ (lo:=0) (hi:=j));rw[Int.sub_zero] at this;exact this
    ·rw[if_neg q] at g;exact g.elim
   | _=>exact h'.elim⟩
theorem w_mi_range1 {p pos:Pos} (a:Gl X "range") (b:X.mg "range" = none) (c:WE X Θ e m) (d:zy e=true:=by rfl):WI X Θ tg (.Call (.Name "range" p) [e] [] pos) (M.Q3 m):=by with_unfolding_all exact zFy (p:=p) (pos:=pos) a b c d
end
section
variable {X:Cx}{Θ:Tab}{pos:Pos}
theorem zDC {c:zF}{body:List zT}{tc:M.TM}{mb:M.SM} (hp:Qs (zN X.prog X.w) X.A X.env X.xe) (L:MT X Θ c tc) (N:MSs X Θ body mb):MS X Θ (.While c body [] pos) (M.Ju tc mb) :=
 (wB hp L N).imp λD σ H ⟨O,z,S,st,P,h⟩=>by
  refine⟨λk m x=>∃ i d y,zw X.K i x d m/\zK X.K Θ i y x/\zh X.K Θ i x (M.jp k tc mb d y) D,⟨M.JM,O,z,S,st,P,h⟩,?_⟩
  rintro k m x ⟨i,d,y,n,B,F⟩
  cases k with
  | zero=>exact F.elim
  | succ k =>
   refine⟨i,d,y,n,B,zh.stm F λu Q b T C G l3 v R I=>?_⟩;cases R;cases b with
   | false=>exact yX (zh.nx (σ:=m) I v (n.mono G l3))
   | true =>
    refine yn ⟨λj t=>∃ f l J,zw X.K f t l j/\zK X.K Θ f J t/\zh X.K Θ f t (M.jp k tc mb l J) D,λj t q=>⟨k,ux k,q⟩,u,d,C,n.mono G l3,v,?_⟩;have g:zh X.K Θ u Q (match mb d C with
     | .nx σ s=>M.jp k tc mb σ s
     | .ct σ s=>M.jp k tc mb σ s
     | .bk σ s=>.nx σ s
     | r=>r) D:=I
    revert g;cases mb d C with
    | nx a s=>exact λg f t j E l4 o p=>⟨f,a,s,p,o,zh.weak g E l4⟩
    | ct a s=>exact λg f t j E l4 o p=>⟨f,a,s,p,o,zh.weak g E l4⟩
    | bk a s=>exact λg=>g
    | rt a s=>exact λg=>g
    | exc e a s=>exact λg=>g
    | no=>exact λg=>g
theorem w_ms_while {c:zF}{body:List zT}{tc:M.TM}{mb:M.SM} (hp:Qs (zN X.prog X.w) X.A X.env X.xe) (a:WT X Θ c tc) (b:WSs X Θ body mb):WS X Θ (.While c body [] pos) (M.Ju tc mb):=by with_unfolding_all exact zDC (c:=c) (body:=body) (tc:=tc) (mb:=mb) hp a b
theorem U9 {K:PySem.W.Frag}{g:M.GM}{js:List Nat}{mb:M.SM}{xs:List M.D}{h:M.Gd}{J:It}{l:List zA}{B:Hp}{σ:St}{n:M.St}{T:M.S}{D:Zr} (E:ItR K Θ l B J xs h) (st:zw K l B n σ) (Z:zK K Θ l T B) (hgd:M.zU h T=true) (h2:zh K Θ l B (M.jY h (M.qK g mb) xs n T) D) :
  ∃ W:Nat->Nat->St->Hp->Prop,(∃ m,W 0 m σ B)/\∀ i m σ H,W i m σ H ->
   (J.stop i H/\D.nx σ H)\/(J.go i H/\∃ N:St->Hp->Prop,(∀ n F,N n F->∃ m',m' < m/\W (i+1) m' n F)/\∀ x F,J.yld i H x F->RdG K Θ js g x σ F λq t=>RdS K Θ mb { D with nx:=N,ct:=N,bk:=D.nx } q t):=by
 refine⟨λi k q t=>∃ b j p,l <+: b/\Le B t/\zw K b t j q/\zK K Θ b p t/\M.zU h p=true/\k=xs.length - i/\i <= xs.length/\zh K Θ b t (M.jY h (M.qK g mb) (xs.drop i) j p) D,
  ⟨xs.length,l,n,T,jN _,Le.refl _,st,Z,hgd,rfl,vP _,h2⟩,?_⟩
 rintro i k q t ⟨b,j,p,p2,l2,P,v,g2,rfl,hi2,U⟩
 by_cases w:i < xs.length
 ·refine .inr ⟨E.go i b p t p2 l2 v g2 w,λG Q=>∃ c f z,l <+: c/\Le B Q/\zw K c Q f G/\zK K Θ c z Q/\M.zU h z=true/\zh K Θ c Q (M.jY h (M.qK g mb) (xs.drop (i+1)) f z) D,
   λG Q ⟨c,f,z,a1,a2,a3,a4,a5,a6⟩=>⟨xs.length - (i+1),by omega,c,f,z,a1,a2,a3,a4,a5,rfl,w,a6⟩,λx F y=>?_⟩
  obtain⟨d,ed,rd,ld,rpd⟩:=E.yld i b p t x F p2 l2 v g2 w y;have edr:xs.drop i=d::xs.drop (i+1):=by
   obtain⟨_,e⟩:=List.getElem?_eq_some_iff.mp ed;rw[QB w,e]
  rw[edr] at U;have V:zh K Θ b t (match (match g d j with | some n=>mb n p | none=>M.RS.no) with
   | .nx σ s=>if M.zU h s then M.jY h (M.qK g mb) (xs.drop (i+1)) σ s else .no
   | .ct σ s=>if M.zU h s then M.jY h (M.qK g mb) (xs.drop (i+1)) σ s else .no
   | .bk σ s=>.nx σ s
   | r=>r) D:=U
  cases I:g d j with
  | none=>rw[I] at V;exact V.elim
  | some A =>
   rw[I] at V;refine⟨b,j,p,d,P.mono (jN _) ld,rpd,rd,A,I,λL G R rp3 st3 _ _=>⟨b,A,p,st3,rp3,?_⟩⟩;have h5:=zh.weak V (jN _) (ld.trans R);have o:zh K Θ b L (match mb A p with
    | .nx σ s=>if M.zU h s then M.jY h (M.qK g mb) (xs.drop (i+1)) σ s else .no
    | .ct σ s=>if M.zU h s then M.jY h (M.qK g mb) (xs.drop (i+1)) σ s else .no
    | .bk σ s=>.nx σ s
    | r=>r) D:=h5
   have more:∀ (a:M.St) (s:M.S),zh K Θ b L (if M.zU h s then M.jY h (M.qK g mb) (xs.drop (i+1)) a s else .no) D->∀ u C O,b <+: u->Le L C->zK K Θ u s C->zw K u C a O ->
     ∃ c f z,l <+: c/\Le B C/\zw K c C f O/\zK K Θ c z C/\M.zU h z=true/\zh K Θ c C (M.jY h (M.qK g mb) (xs.drop (i+1)) f z) D:=λa s Y u C O p4 l4 rp4 st4=>by
    by_cases hs:M.zU h s=true
    ·rw[if_pos hs] at Y;exact⟨u,a,s,p2.trans p4,l2.trans (ld.trans (R.trans l4)),st4,rp4,hs,zh.weak Y p4 l4⟩
    ·rw[if_neg hs] at Y;exact Y.elim
   revert o;cases mb A p with
   | nx a s=>exact λo=>more a s o
   | ct a s=>exact λo=>more a s o
   | bk a s=>exact λo=>o
   | rt a s=>exact λo=>o
   | exc e a s=>exact λo=>o
   | no=>exact λo=>o
 ·have e:i=xs.length:=by omega
  subst e;rw[zBc] at U;exact .inl ⟨E.stop b p t p2 l2 v g2,zh.nx (σ:=q) U v P⟩
theorem uu {tg iter:zF}{body:List zT}{it:M.IM}{g:M.GM}{js:List Nat}{mb:M.SM} (hp:Qs (zN X.prog X.w) X.A X.env X.xe) (n:X.calm=true) (hi:MI X Θ tg iter it) (o:MG X Θ js tg g) (q:MSs X Θ body mb)
  (r:∀ x,yZ iter X.env x=pure x:=by intro _;rfl):MS X Θ (.For tg iter body [] pos) (M.Zo it g mb) :=
 (zC2 hp n hi o q r).imp λD σ H ⟨f,b,S,st,t,h⟩=>⟨f,b,S,st,t,by
  have h':zh X.K Θ f H ((it b S).stm b λp s=>if M.zU p.2 s=true then M.jY p.2 (M.qK g mb) p.1 b s else .no) D:=h;cases hit:it b S with
  | no=>rw[hit] at h';exact h'.elim
  | exc a s=>rw[hit] at h';exact h'
  | ok p e =>
   rw[hit] at h';obtain⟨xs,d⟩:=p;show zE X.K Θ _ f H (if M.zU d e then M.R.ok (xs,d) e else .no) _;have i:zh X.K Θ f H (if M.zU d e=true then M.jY d (M.qK g mb) xs b e else .no) D:=h';by_cases c:M.zU d e=true
   case neg=>rw[if_neg c] at i;exact i.elim
   rw[if_pos c] at i;rw[if_pos c];intro j u J m l1 k (l:ItR X.K Θ j u J xs d);exact U9 l (st.mono m l1) k c (zh.weak i m l1)⟩
theorem w_ms_for {tg iter:zF}{body:List zT}{it:M.IM}{g:M.GM}{js:List Nat}{mb:M.SM} (hp:Qs (zN X.prog X.w) X.A X.env X.xe) (a:X.calm=true) (hi:WI X Θ tg iter it) (b:WG X Θ js tg g) (c:WSs X Θ body mb)
  (d:∀ x,yZ iter X.env x=pure x:=by intro _;rfl):WS X Θ (.For tg iter body [] pos) (M.Zo it g mb):=by with_unfolding_all exact uu (tg:=tg) (iter:=iter) (body:=body) (it:=it) (g:=g) (js:=js) (mb:=mb) hp a hi b c d
theorem zDX {K:PySem.W.Frag}{n:Nat}{it:M.IM}{g:M.GM}{js:List Nat}{tc:M.TM}{r:M.EM}{σ:St}{c:M.St}{S:M.S}{Y:List zA}{H:Hp}{R:List V->Hp->Prop} (st:zw K Y H c σ) (rp:zK K Θ Y S H) (hj:∀ j∈js,σ.length <= j)
  (h:zE K Θ (zL K) Y H (M.qI n it g tc r c S) R) :
  RdI K Θ it σ H λJ H1=>∃ W:Nat->Nat->List V->Hp->Prop,(∃ m,W 0 m [] H1)/\∀ i m ys u,W i m ys u->ys.length <= zV /\
   ((J.stop i u/\R ys u) \/
    (J.go i u/\∀ x H3,J.yld i u x H3->RdG K Θ js g x (σ++zb n none) H3 λF H4=>Wk (σ++zb n none) F/\RdT K Θ tc F H4 λb H5 =>
     if b=true then RdE K Θ r F H5 λy H6=>∃ P,P < m/\W (i+1) P (ys++[y]) H6 else ∃ P,P < m/\W (i+1) P ys H5)):=by
 refine⟨Y,c,S,st,rp,?_⟩;have h':zE K Θ (zL K) Y H ((it c S).bind λp s=>if p.1.length <= M.SZ/\M.zU p.2 s=true then M.qN p.2 (M.j3 n g tc r c) p.1 s else .no) R:=h;cases hit:it c S with
 | no=>rw[hit] at h';exact h'.elim
 | exc a s=>rw[hit] at h';exact h'
 | ok p Q =>
  rw[hit] at h';obtain⟨xs,l⟩:=p;show zE K Θ _ Y H (if M.zU l Q then M.R.ok (xs,l) Q else .no) _;have h2:zE K Θ (zL K) Y H (if xs.length <= M.SZ/\M.zU l Q=true then M.qN l (M.j3 n g tc r c) xs Q else .no) R:=h';by_cases G:xs.length <= M.SZ/\M.zU l Q=true
  case neg=>rw[if_neg G] at h2;exact h2.elim
  rw[if_pos G] at h2;rw[if_pos G.2];intro C H1 J p1 l1 rp1 (Z:ItR K Θ C H1 J xs l);refine⟨λi k ys u=>∃ f w A,C <+: f/\Le H1 u/\zK K Θ f w u/\M.zU l w=true/\zL K f u A ys/\A.length <= i/\k=xs.length - i/\i <= xs.length/\zE K Θ (zL K) f u ((M.qN l (M.j3 n g tc r c) (xs.drop i) w).bind λes s=>.ok (A++es) s) R,
   ⟨xs.length,C,Q,[],jN _,Le.refl _,rp1,G.2,rfl,zl _,rfl,vP _,?_⟩,?_⟩
  ·have B:=zE.weak h2 p1 l1;revert B;show zE K Θ (zL K) C H1 (M.qN l (M.j3 n g tc r c) xs Q) R->_;rw[V7];cases M.qN l (M.j3 n g tc r c) xs Q with
   | ok a s=>exact λB=>B
   | exc e s=>exact λB=>B
   | no=>exact λB=>B
  rintro i k ys u ⟨f,w,A,p2,l2,I,g2,L,hdl,rfl,hi2,B⟩
  refine⟨by rw[<- L.length,<- qv];omega,?_⟩;by_cases N:i < xs.length
  ·refine .inr ⟨Z.go i f w u p2 l2 I g2 N,λx H3 y=>?_⟩;obtain⟨d,ed,rd,ld,rpd⟩:=Z.yld i f w u x H3 p2 l2 I g2 N y;have edr:xs.drop i=d::xs.drop (i+1):=by
    obtain⟨_,e⟩:=List.getElem?_eq_some_iff.mp ed;rw[QB N,e]
   rw[edr] at B;have h4:zE K Θ (zL K) f u (((match g d (c++zb n none) with
     | none=>M.R.no
     | some q=>(tc q w).bind λb s=>if b then (r q s).bind λd s=>.ok (some d) s else .ok none s).bind λo s =>
      if M.zU l s then (M.qN l (M.j3 n g tc r c) (xs.drop (i+1)) s).bind λys s=>.ok (match o with | some y=>y::ys | none=>ys) s else .no).bind λes s=>.ok (A++es) s) R:=B
   cases hgq:g d (c++zb n none) with
   | none=>rw[hgq] at h4;exact h4.elim
   | some q =>
    rw[hgq] at h4;refine⟨f,c++zb n none,w,d,((st.mono (p1.trans p2) (l1.trans (l2.trans ld))).more n),rpd,rd,q,hgq,λH4 F O rp4 st4 hl4 hj4=>⟨⟨hl4.symm,λj v e=>?_⟩,f,q,w,st4,rp4,?_⟩⟩
    ·by_cases hjj:j∈js
     ·rw[yv (hj j hjj),XT] at e;split at e<;>cases e
     ·rw[hj4 j hjj];exact e
    ·have T:=zE.weak h4 (jN _) (ld.trans O);dsimp only at T;cases htc:tc q w with
     | no=>rw[htc] at T;exact T.elim
     | exc a s=>rw[htc] at T;exact T
     | ok b S3 =>
      rw[htc] at T;intro E H5 b' p5 l5 rp5 eb;cases eb;have next:∀ (o:Option M.D) (s:M.S) (t:List zA) (H6:Hp) (zs:List V),f <+: t->Le H4 H6->zK K Θ t s H6->zL K t H6 (match o with | some y=>A++[y] | none=>A) zs ->
        zE K Θ (zL K) t H6 ((if M.zU l s then (M.qN l (M.j3 n g tc r c) (xs.drop (i+1)) s).bind λys s=>.ok (match o with | some y=>y::ys | none=>ys) s else .no).bind λes s=>.ok (A++es) s) R ->
        ∃ P,P < xs.length - i/\∃ f w es,C <+: f/\Le H1 H6/\zK K Θ f w H6/\M.zU l w=true/\zL K f H6 es zs/\es.length <= i+1/\P=xs.length - (i+1)/\i+1 <= xs.length /\
         zE K Θ (zL K) f H6 ((M.qN l (M.j3 n g tc r c) (xs.drop (i+1)) w).bind λfs s=>.ok (es++fs) s) R:=λo s t H6 zs p6 l6 rp6 rz z=>by
       by_cases hs:M.zU l s=true
       case neg=>rw[if_neg hs] at z;exact z.elim
       rw[if_pos hs] at z;refine⟨xs.length - (i+1),by omega,t,s,_,p2.trans p6,l2.trans (ld.trans (O.trans l6)),rp6,hs,rz,?_,rfl,N,?_⟩
       ·cases o<;>simp<;>omega
       ·revert z;cases M.qN l (M.j3 n g tc r c) (xs.drop (i+1)) s with
        | ok a s2 =>
         intro z;cases o with
         | none=>exact z
         | some y =>
          show zE K Θ (zL K) t H6 (.ok (A++[y]++a) s2) R;rw[Xx];exact z
        | exc e s=>exact λz=>z
        | no=>exact λz=>z
      cases b with
      | false=>exact yX (next none S3 E H5 ys p5 l5 rp5 (L.mono p5 (ld.trans (O.trans l5))) (zE.weak T p5 l5))
      | true =>
       refine yn ⟨E,q,S3,st4.mono p5 l5,rp5,?_⟩;have z:=zE.weak T p5 l5;cases hme:r q S3 with
       | no =>
        have U:zE K Θ (zL K) E H5 ((((r q S3).bind λd s=>M.R.ok (some d) s).bind λo s=>if M.zU l s then (M.qN l (M.j3 n g tc r c) (xs.drop (i+1)) s).bind λys s=>.ok (match o with | some y=>y::ys | none=>ys) s else .no).bind λes s=>.ok (A++es) s) R:=z;rw[hme] at U;exact U.elim
       | exc a s =>
        have U:zE K Θ (zL K) E H5 ((((r q S3).bind λd s=>M.R.ok (some d) s).bind λo s=>if M.zU l s then (M.qN l (M.j3 n g tc r c) (xs.drop (i+1)) s).bind λys s=>.ok (match o with | some y=>y::ys | none=>ys) s else .no).bind λes s=>.ok (A++es) s) R:=z;rw[hme] at U;exact U
       | ok y S6 =>
        have U:zE K Θ (zL K) E H5 ((((r q S3).bind λd s=>M.R.ok (some d) s).bind λo s=>if M.zU l s then (M.qN l (M.j3 n g tc r c) (xs.drop (i+1)) s).bind λys s=>.ok (match o with | some y=>y::ys | none=>ys) s else .no).bind λes s=>.ok (A++es) s) R:=z;rw[hme] at U;intro t H6 v p6 l6 rp6 rv;exact next (some y) S6 t H6 (ys++[v]) (p5.trans p6) (l5.trans l6) rp6 ((L.mono (p5.trans p6) (ld.trans (O.trans (l5.trans l6)))).app ⟨v,[],rfl,rv,rfl⟩) (zE.weak U p6 l6)
  ·have e:i=xs.length:=by omega
   subst e;rw[zBc] at B;refine .inl ⟨Z.stop f w u p2 l2 I g2,?_⟩;have h4:zE K Θ (zL K) f u (.ok (A++[]) w) R:=B;rw[jP] at h4;exact h4.here I L
end
end L2
namespace L2
open PySem PySem.Spec PyProof.Rows
section
variable {X:Cx}{Θ:Tab}{pos:Pos}{vars:List Str}{scope:qW}{cl:List (Str×zA)}{tg elt iter:zF}{ifs:List zF}{it:M.IM}{g:M.GM}{js:List Nat}{tc:M.TM}{me:M.EM}
theorem X7 {a:List (zA×Obj)}{s:zD}{σ:St}{H:Hp} (I:Inv X a σ H s) (f:∀ j∈js,X.N.length <= j) {c:List zA}{b:M.St}{S:M.S} (st:zw X.K c H b σ) (i:zK X.K Θ c S H) {Q:VK}{n:Nat}
  (h:zE X.K Θ (zL X.K) c H (M.qI n it g tc me b S) λys e=>∀ D,e D=none->Q (.ref D) (upd e D (.lst ys))) :
  kG n (RdI X.K Θ it) (RdG X.K Θ js g) (RdT X.K Θ tc) (RdE X.K Θ me) σ H Q:=zDX st i (λj d=>by rw[I.len];exact f j d) h
theorem zBD {i:Nat}{y:Str}{py spos:Pos} (B:X.calm=true) (C:j6 X vars scope cl) (F:X.N.Nodup) (o:X.N[i]? = some y) (G:Loc X.env.scope y) (hi:MI X Θ tg iter it) (J:∀ C fp b c,MG (zo X vars scope cl C fp b c) Θ js tg g) (L:∀ C fp b c,qf (zo X vars scope cl C fp b c) ifs (RdT X.K Θ tc))
  (O:∀ C fp b c,ME (zo X vars scope cl C fp b c) Θ elt me) (p:(js.all λj=>decide (X.N.length <= j))=true) (P:∀ x,yZ iter X.env x=pure x:=by intro _;rfl)
  (q:j1 (.ListComp elt [⟨tg,iter,ifs,0⟩] scope pos) (some (.Name y py)) spos.line X.env=pure true:=by rfl)
  (Q:X.fn y=true\/X.env.scope.names.lookup y=some .local:=by first | exact .inl rfl | exact .inr rfl | assumption) :
  MS X Θ (.Assign [.Name y py] (.ListComp elt [⟨tg,iter,ifs,0⟩] scope pos) spos) (M.zq i (M.ZT vars.length it g tc me)):=by
 intro k s σ H D I ⟨r,e,S,st,R,h⟩;have T:∀ j∈js,X.N.length <= j:=λj t=>of_decide_eq_true (List.all_eq_true.mp p j t);refine zAB B C F o G hi J L O P q Q k s σ H D I (X7 I T st R ?_);have h':zh X.K Θ r H (((M.qI vars.length it g tc me e S).bind λys s=>M.alloc (.lst ys) s).stm e λd s=>.nx (e.set i (some d)) s) D:=h;cases u:M.qI vars.length it g tc me e S with
 | no=>rw[u] at h';exact h'.elim
 | exc a s=>rw[u] at h';exact (show qP X.K Θ r H a s from h')
 | ok w m =>
  rw[u] at h';intro f z ys A l1 l U E n;have V:zh X.K Θ r H (.nx (e.set i (some (.ref m.length))) (m++[.lst w])) D:=h';have v:zK X.K Θ (f++[E]) (m++[.lst w]) (upd z E (.lst ys)):=l.alloc n ⟨ys,jr,U.mono (Q0 _ _) (Le.new n _)⟩;exact V (f++[E]) _ _ (A.trans (Q0 _ _)) (l1.trans (Le.new n _)) v (((st.mono A l1).mono (Q0 _ _) (Le.new n _)).set (show zI X.K (f++[E]) (upd z E (.lst ys)) (.ref m.length) (.ref E) from ⟨E,rfl,by rw[<- l.len];simp⟩) i)
theorem w_ms_setcomp {i:Nat}{y:Str}{py spos:Pos} (f:X.calm=true) (C:j6 X vars scope cl) (h:X.N.Nodup) (c:X.N[i]? = some y) (k:Loc X.env.scope y) (hi:WI X Θ tg iter it) (l:∀ C fp a b,WG (zo X vars scope cl C fp a b) Θ js tg g) (m:∀ C fp a b,qf (zo X vars scope cl C fp a b) ifs (RdT X.K Θ tc))
  (n:∀ C fp a b,WE (zo X vars scope cl C fp a b) Θ elt me) (d:(js.all λj=>decide (X.N.length <= j))=true) (o:∀ x,yZ iter X.env x=pure x:=by intro _;rfl)
  (e:j1 (.ListComp elt [⟨tg,iter,ifs,0⟩] scope pos) (some (.Name y py)) spos.line X.env=pure true:=by rfl)
  (p:X.fn y=true\/X.env.scope.names.lookup y=some .local:=by first | exact .inl rfl | exact .inr rfl | assumption) :
  WS X Θ (.Assign [.Name y py] (.ListComp elt [⟨tg,iter,ifs,0⟩] scope pos) spos) (M.zq i (M.ZT vars.length it g tc me)):=by with_unfolding_all exact zBD (i:=i) (y:=y) (py:=py) (spos:=spos) f C h c k hi l m n d o e p
noncomputable def AdK (K:PySem.W.Frag) (Θ:Tab) (k:List M.D->M.S->M.R M.D) (r:List V->Hp->VK->Prop):Prop:=∀ a H S b ys p Q,zK K Θ a S H->zL K a H b ys->SqL K H p ys->zE K Θ (zI K) a H (k b S) Q->r [.ref p] H Q
theorem zFt {x:Str}{p:Pos}{id:String}{pos2:Pos}{k:List M.D->M.S->M.R M.D}{r:List V->Hp->VK->Prop} (d:jo X (.builtin id) r) (ad:AdK X.K Θ k r) (e:Gl X x) (t:X.mg x=none) (u:jk x=some (.builtin id))
  (v:X.calm=true) (C:j6 X vars scope cl) (hi:MI X Θ tg iter it) (w:∀ C fp a b,MG (zo X vars scope cl C fp a b) Θ js tg g) (y:∀ C fp a b,qf (zo X vars scope cl C fp a b) ifs (RdT X.K Θ tc))
  (z:∀ C fp a b,ME (zo X vars scope cl C fp a b) Θ elt me) (f:(js.all λj=>decide (X.N.length <= j))=true) (A:∀ x,yZ iter X.env x=pure x:=by intro _;rfl)
  (hn:x ≠ "__name__" := by decide) (i:(x == ("__debug__" : Str))=false:=by decide)
  :
  ME X Θ (.Call (.Name x p) [.ListComp elt [⟨tg,iter,ifs,0⟩] scope pos] [] pos2) (M.ZU k vars.length it g tc me):=by
 intro c s σ H Q I ⟨P,B,S,st,E,h⟩;have F:∀ j∈js,X.N.length <= j:=λj l=>of_decide_eq_true (List.all_eq_true.mp f j l);refine vy d e t u (vD (v7 (g:=RdG X.K Θ js g) (ti:=RdT X.K Θ tc) (te:=RdE X.K Θ me) v C hi w y z A) KP (qO rfl)) hn i (qO rfl) rfl c s σ H Q I ?_;show kG vars.length _ _ _ _ σ H (λx q=>r [x] q Q);refine X7 I F st E (zE.bind h λm q G ys J T l1 n L O D o=>?_);exact ad m _ J G ys D Q (n.aside o _) (L.mono (jN _) (Le.new o _)) (SqL.of jr) (zE.weak O (jN _) (Le.new o _))
theorem w_me_callC {x:Str}{p:Pos}{id:String}{pos2:Pos}{k:List M.D->M.S->M.R M.D}{r:List V->Hp->VK->Prop} (c:jo X (.builtin id) r) (ad:AdK X.K Θ k r) (d:Gl X x) (h:X.mg x=none) (i:jk x=some (.builtin id))
  (l:X.calm=true) (C:j6 X vars scope cl) (hi:WI X Θ tg iter it) (m:∀ C fp a b,WG (zo X vars scope cl C fp a b) Θ js tg g) (n:∀ C fp a b,qf (zo X vars scope cl C fp a b) ifs (RdT X.K Θ tc))
  (o:∀ C fp a b,WE (zo X vars scope cl C fp a b) Θ elt me) (e:(js.all λj=>decide (X.N.length <= j))=true) (q:∀ x,yZ iter X.env x=pure x:=by intro _;rfl)
  (hn:x ≠ "__name__" := by decide) (f:(x == ("__debug__" : Str))=false:=by decide)
  :
  WE X Θ (.Call (.Name x p) [.ListComp elt [⟨tg,iter,ifs,0⟩] scope pos] [] pos2) (M.ZU k vars.length it g tc me):=by with_unfolding_all exact zFt (x:=x) (p:=p) (id:=id) (pos2:=pos2) (k:=k) (r:=r) c ad d h i l C hi m n o e q hn f
theorem zDt {y:M.T}{z:Str}{j:Nat}{p apos cpos:Pos} (o:z=ofT y) (q:X.calm=true) (C:j6 X vars scope cl) (hi:MI X Θ tg iter it) (r:∀ C fp a b,MG (zo X vars scope cl C fp a b) Θ js tg g) (t:∀ C fp a b,qf (zo X vars scope cl C fp a b) ifs (RdT X.K Θ tc))
  (u:∀ C fp a b,ME (zo X vars scope cl C fp a b) Θ elt me) (i:(js.all λj=>decide (X.N.length <= j))=true) (ad:∀ e H S f ys p Q,zK X.K Θ e S H->zL X.K e H f ys->SqL X.K H p ys->zE X.K Θ (zI X.K) e H (M.qb y f S) Q->xL X.K (.str (ofT y)) [.ref p] H Q) (v:∀ x,yZ iter X.env x=pure x:=by intro _;rfl)
  (c:(apos.endLine == cpos.line)=true:=by rfl)
  :
  ME X Θ (.Call (.Attribute (.Constant (.str z) j p) "join" apos) [.ListComp elt [⟨tg,iter,ifs,0⟩] scope pos] [] cpos) (M.ZU (M.qb y) vars.length it g tc me):=by
 intro d s σ H Q I ⟨e,w,S,st,A,h⟩;have B:∀ j∈js,X.N.length <= j:=λj k=>of_decide_eq_true (List.all_eq_true.mp i j k);subst o;refine VQ PySem.F.plainAttrs_str PySem.F.slot_str_join PySem.F.type_str_join KG Yw (vD (v7 (g:=RdG X.K Θ js g) (ti:=RdT X.K Θ tc) (te:=RdE X.K Θ me) q C hi r t u v) KP (qO rfl)) rfl (Y8 rfl (show 1 < 30 by decide)) c (qO rfl) rfl d s σ H Q I ?_;refine⟨rfl,X7 I B st A (zE.bind h λl L f ys E O l1 m G J D n=>?_)⟩;exact ad l _ E f ys D Q (m.aside n _) (G.mono (jN _) (Le.new n _)) (SqL.of jr) (zE.weak J (jN _) (Le.new n _))
theorem w_me_joinC {y:M.T}{z:Str}{j:Nat}{p apos cpos:Pos} (h:z=ofT y) (i:X.calm=true) (C:j6 X vars scope cl) (hi:WI X Θ tg iter it) (k:∀ C fp a b,WG (zo X vars scope cl C fp a b) Θ js tg g) (l:∀ C fp a b,qf (zo X vars scope cl C fp a b) ifs (RdT X.K Θ tc))
  (m:∀ C fp a b,WE (zo X vars scope cl C fp a b) Θ elt me) (d:(js.all λj=>decide (X.N.length <= j))=true) (ad:∀ e H S f ys p Q,zK X.K Θ e S H->zL X.K e H f ys->SqL X.K H p ys->zE X.K Θ (zI X.K) e H (M.qb y f S) Q->xL X.K (.str (ofT y)) [.ref p] H Q) (n:∀ x,yZ iter X.env x=pure x:=by intro _;rfl)
  (c:(apos.endLine == cpos.line)=true:=by rfl)
  :
  WE X Θ (.Call (.Attribute (.Constant (.str z) j p) "join" apos) [.ListComp elt [⟨tg,iter,ifs,0⟩] scope pos] [] cpos) (M.ZU (M.qb y) vars.length it g tc me):=by with_unfolding_all exact zDt (y:=y) (z:=z) (j:=j) (p:=p) (apos:=apos) (cpos:=cpos) h i C hi k l m d ad n c
end
noncomputable def SpM (K:PySem.W.Frag) (Θ:Tab) (n:Nat) (f:M.F):Sp:=λc H Q _=>∃ a b S,b.length=n/\zL K a H b c/\zK K Θ a S H/\zE K Θ (zI K) a H (f b S) Q
noncomputable def q0 (m:M.AM) (n:Nat):Prop:=∀ σ s xs s',m σ s=.ok xs s'->xs.length=n
theorem jE:q0 M.zM 0:=λσ s xs s' h=>by cases h;rfl
theorem zk {a:M.EM}{r:M.AM}{n:Nat} (h:q0 r n):q0 (M.zH a r) (n+1):=λσ s xs s' e=>by
 have b:((a σ s).bind λx s=>(r σ s).bind λxs s=>M.R.ok (x::xs) s)=.ok xs s':=e;cases ha:a σ s with
 | no=>rw[ha] at b;cases b
 | exc a s=>rw[ha] at b;cases b
 | ok d g =>
  rw[ha] at b;have c:((r σ g).bind λxs s=>M.R.ok (d::xs) s)=.ok xs s':=b;cases f:r σ g with
  | no=>rw[f] at c;cases c
  | exc a s=>rw[f] at c;cases c
  | ok i j =>
   rw[f] at c;cases c;rw[yN,h _ _ _ _ f]
section
variable {X:Cx}{Θ:Tab}{pos p:Pos}{x:Str}{ps:List Str}{e:zF}{es:List zF}{f:M.F}{m:M.AM}{k kk n:Nat}
theorem zF5 (h:Has X.prog X.w X.K X.mg X.base x k ps (SpM X.K Θ n f)) (o:za kk X.A) (q:k <= kk) (r:Gl X x) (ha:MA X Θ (e::es) m) (ar:q0 m n) (t:yF CX0 X E0:=by exact QP) (d:(x == ("__debug__" : Str))=false:=by decide)
  (u:zy e=true:=by rfl) (g:es.all zy=true:=by rfl):ME X Θ (.Call (.Name x p) (e::es) [] pos) (M.zQ f m) :=
 (zEc h o q r ha t d (qO u) (Z9 g)).imp λσ H Q ⟨l,b,S,st,v,h⟩=>⟨l,b,S,st,v,by
  have h':zE X.K Θ (zI X.K) l H ((m b S).bind λxs s=>f xs s) Q:=h;cases c:m b S with
  | no=>rw[c] at h';exact h'.elim
  | exc a s=>rw[c] at h';exact h'
  | ok y z =>
   rw[c] at h';intro i D E B l1 j C;rw[jP];exact⟨i,y,z,ar _ _ _ _ c,C,j,zE.weak h' B l1⟩⟩
theorem w_me_call (h:Has X.prog X.w X.K X.mg X.base x k ps (SpM X.K Θ n f)) (c:za kk X.A) (d:k <= kk) (g:Gl X x) (ha:WA X Θ (e::es) m) (ar:q0 m n) (i:yF CX0 X E0:=by exact QP) (a:(x == ("__debug__" : Str))=false:=by decide)
  (j:zy e=true:=by rfl) (b:es.all zy=true:=by rfl):WE X Θ (.Call (.Name x p) (e::es) [] pos) (M.zQ f m):=by with_unfolding_all exact zF5 h c d g ha ar i a j b
theorem zAf (h:Has X.prog X.w X.K X.mg X.base x k ps (SpM X.K Θ 0 f)) (b:za kk X.A) (c:k <= kk) (d:Gl X x) (g:yF CX0 X E0:=by exact QP) (a:(x == ("__debug__" : Str))=false:=by decide) :
  ME X Θ (.Call (.Name x p) [] [] pos) (M.zQ f M.zM) :=
 (zFF h b c d g a).imp λσ H Q ⟨i,j,S,st,l,h⟩=>⟨i,[],S,rfl,rfl,l,h⟩
theorem w_me_call0 (h:Has X.prog X.w X.K X.mg X.base x k ps (SpM X.K Θ 0 f)) (b:za kk X.A) (c:k <= kk) (d:Gl X x) (g:yF CX0 X E0:=by exact QP) (a:(x == ("__debug__" : Str))=false:=by decide) :
  WE X Θ (.Call (.Name x p) [] [] pos) (M.zQ f M.zM):=by with_unfolding_all exact zAf h b c d g a
end
theorem VT {e:List Nat}:∀ {n:Nat}{d:M.D},M.kyD n (M.D.ren e d)=true->M.D.ren e d=d:=by
 intro n
 induction n with
 | zero=>intro d h;cases d<;>first | rfl | cases h
 | succ n f =>
  intro d h;cases d with
  | tup a =>
   show M.D.tup (M.D.ren.all e a)=_;have h':(M.D.ren.all e a).all (M.kyD n)=true:=h;have:∀ a:List M.D,(M.D.ren.all e a).all (M.kyD n)=true->M.D.ren.all e a=a:=by
    intro a
    induction a with
    | nil=>intro _;rfl
    | cons d a b =>
     intro h;have c:(M.kyD n (M.D.ren e d) && (M.D.ren.all e a).all (M.kyD n))=true:=h;rw[jG] at c;show M.D.ren e d::M.D.ren.all e a=_;rw[f c.1,b c.2]
   rw[this a h']
  | _=>first | rfl | cases h
section
variable {K:PySem.W.Frag}{Θ:Tab}{ρ ρ':List zA}{H:Hp}{e:List Nat}
mutual
theorem zI.unren (b:∀ (i j:Nat) a,e[i]? = some j->ρ[j]? = some a->ρ'[i]? = some a):∀ {d:M.D}{v:V},M.D.cl e.length d=true->zI K ρ H (M.D.ren e d) v->zI K ρ' H d v
 | .non,_,_,h=>h
 | .bl _,_,_,h=>h
 | .int _,_,_,h=>h
 | .str _,_,_,h=>h
 | .ty _,_,_,h=>h
 | .ref i,_,c,⟨a,f,g⟩=>by
  have hi:i < e.length:=of_decide_eq_true c;refine⟨a,f,b i (e.getD i i) a ?_ g⟩;rw[qs,qU hi];rfl
 | .tup _,_,c,⟨a,xs,f,g,k⟩=>⟨a,xs,f,g,zL.unren b c k⟩
 | .ro _,_,c,⟨a,xs,f,g,k⟩=>⟨a,xs,f,g,zL.unren b c k⟩
theorem zL.unren (b:∀ (i j:Nat) a,e[i]? = some j->ρ[j]? = some a->ρ'[i]? = some a):∀ {f:List M.D}{xs:List V},M.D.cl.all e.length f=true->zL K ρ H (M.D.ren.all e f) xs->zL K ρ' H f xs
 | [],_,_,h=>h
 | d::f,_,c,⟨y,ys,k,l,m⟩=>by
  have g:(M.D.cl e.length d && M.D.cl.all e.length f)=true:=c;rw[jG] at g;exact⟨y,ys,k,zI.unren b g.1 l,zL.unren b g.2 m⟩
end
theorem ObR.unren (l:∀ (i j:Nat) a,e[i]? = some j->A[j]? = some a->x[i]? = some a) {a:zA}{o:M.O} (c:M.O.cl e.length o=true) (h:ObR K Θ A H a (M.O.ren e o)):ObR K Θ x H a o:=by
 cases o with
 | lst F=>obtain⟨xs,m,b⟩:=h;exact⟨xs,m,zL.unren l c b⟩
 | dct g =>
  obtain⟨ks,m,b⟩:=h;refine⟨ks,m,?_⟩;have k:∀ p∈g,(M.D.cl e.length p.1 && M.D.cl e.length p.2)=true:=List.all_eq_true.mp c;clear m;revert b k;clear c
  induction g generalizing ks with
  | nil=>intro b k;cases b;exact .nil
  | cons p g r =>
   intro b k;rw[qH] at b;cases b with
   | cons n s =>
    have c1:=k p qT;rw[jG] at c1;refine .cons ⟨?_,zI.unren l c1.2 n.2⟩ (r _ s (λq t=>k q (qD _ t)));have u:=n.1;revert u;cases p.1<;>exact λu=>u
 | fdc g =>
  obtain⟨o,ks,m,b⟩:=h;refine⟨o,ks,m,?_⟩;have k:∀ p∈g,(M.D.cl e.length p.1 && M.D.cl e.length p.2)=true:=List.all_eq_true.mp c;clear m;revert b k;clear c
  induction g generalizing ks with
  | nil=>intro b k;cases b;exact .nil
  | cons p g r =>
   intro b k;rw[qH] at b;cases b with
   | cons n s =>
    have c1:=k p qT;rw[jG] at c1;refine .cons ⟨?_,zI.unren l c1.2 n.2⟩ (r _ s (λq t=>k q (qD _ t)));have u:=n.1;revert u;cases p.1<;>exact λu=>u
 | dtt g =>
  obtain⟨xs,m,b⟩:=h;refine⟨xs,m,?_⟩;have k:∀ p∈g,(M.D.cl e.length p.1 && M.D.cl e.length p.2)=true:=List.all_eq_true.mp c;clear m;revert b k;clear c
  induction g generalizing xs with
  | nil=>intro b k;cases b;exact .nil
  | cons p g r =>
   intro b k;rw[qH] at b;cases b with
   | cons n s =>
    have c1:=k p qT;rw[jG] at c1;obtain⟨a1,a2,a3,v,a4,a5⟩:=n;have y:=VT a2;rw[y] at a1 a2;exact .cons ⟨a1,a2,zI.unren l c1.1 a3,v,zI.unren l c1.2 a4,a5⟩ (r _ s (λq t=>k q (qD _ t)))
 | ftt g =>
  obtain⟨o,xs,m,b⟩:=h;refine⟨o,xs,m,?_⟩;have k:∀ p∈g,(M.D.cl e.length p.1 && M.D.cl e.length p.2)=true:=List.all_eq_true.mp c;clear m;revert b k;clear c
  induction g generalizing xs with
  | nil=>intro b k;cases b;exact .nil
  | cons p g r =>
   intro b k;rw[qH] at b;cases b with
   | cons n s =>
    have c1:=k p qT;rw[jG] at c1;obtain⟨a1,a2,a3,v,a4,a5⟩:=n;have y:=VT a2;rw[y] at a1 a2;exact .cons ⟨a1,a2,zI.unren l c1.1 a3,v,zI.unren l c1.2 a4,a5⟩ (r _ s (λq t=>k q (qD _ t)))
 | ins G fs =>
  obtain⟨C,B,gs,N,m,b,w⟩:=h;refine⟨C,B,gs,N,m,b,by rw[<- w.len];simp,w.nd,w.within,λi f d E z=>?_⟩;obtain⟨v,k1,k2⟩:=w.get i f (M.D.ren e d) E (by rw[ZL,z];rfl);refine⟨v,k1,zI.unren l ?_ k2⟩;have:=List.all_eq_true.mp c (some d) (ZG z);exact this
theorem zE.gc {S t y:M.S}{d:M.D}{Q:VK} (m:M.Emb S.length e t y) (A:M.D.cl t.length d=true) (B:zK K Θ z S H) (h:zE K Θ (zI K) z H (.ok d t) Q):zE K Θ (zI K) z H (.ok (M.D.ren e d) y) Q:=by
 intro c C v E l1 n F;have f:∀ {i j:Nat},e[i]? = some j->j < c.length:=λ{i j} q=>by
  have hi:i < t.length:=by rw[<- m.len];exact (List.getElem?_eq_some_iff.mp q).1
  obtain⟨P,p,u,_⟩:=m.obj i t[i] (by simp[hi]);rw[q] at p;cases p;rw[n.len];exact (List.getElem?_eq_some_iff.mp u).1
 have g:∀ (i j:Nat) a,e[i]? = some j->c[j]? = some a->(e.map λj=>c.getD j 0)[i]? = some a:=λi j a p u=>by
  rw[ZL,p,QS,qs,u];rfl
 refine h (e.map λj=>c.getD j 0) C v ?_ l1 ⟨by rw[j5,m.len],?_,λi o q=>?_⟩ (zI.unren g (by rw[m.len];exact A) F)
 ·refine List.prefix_iff_getElem?.mpr λi hi=>?_;have w:i < S.length:=B.len ▸ hi;exact g i i _ (m.old i w) (JA E (qU hi))
 ·refine zBo λi j x a b=>?_;rw[ZL] at a b;cases r:e[i]? with
  | none=>rw[r] at a;cases a
  | some k =>
   cases s:e[j]? with
   | none=>rw[s] at b;cases b
   | some l =>
    rw[r,QS,qs,qU (f r)] at a;rw[s,QS,qs,qU (f s)] at b;have G:c[k]'(f r)=x:=by simpa using a
    have I:c[l]'(f s)=x:=by simpa using b
    have J:=Uc n.nd (f r) (f s) (G.trans I.symm);subst J;exact Xp m.nd r s
 ·obtain⟨j,p,u,L⟩:=m.obj i o q;obtain⟨a,N,O⟩:=n.obj j _ u;exact⟨a,g i j a p N,ObR.unren g (by rw[m.len];exact L) O⟩
end
section
variable {K:PySem.W.Frag}{Θ:Tab}{ρ:List zA}{H:Hp}
mutual
theorem zI.cl:∀ {d:M.D}{v:V},zI K ρ H d v->M.D.cl ρ.length d=true
 | .non,_,_=>rfl
 | .bl _,_,_=>rfl
 | .int _,_,_=>rfl
 | .str _,_,_=>rfl
 | .ty _,_,_=>rfl
 | .ref _,_,⟨a,_,b⟩=>decide_eq_true (List.getElem?_eq_some_iff.mp b).1
 | .tup _,_,⟨_,_,_,_,h⟩=>zL.cl h
 | .ro _,_,⟨_,_,_,_,h⟩=>zL.cl h
theorem zL.cl:∀ {a:List M.D}{xs:List V},zL K ρ H a xs->M.D.cl.all ρ.length a=true
 | [],_,_=>rfl
 | d::a,_,⟨_,_,_,b,c⟩=>by
  show (M.D.cl ρ.length d && M.D.cl.all ρ.length a)=true;rw[zI.cl b,zL.cl c];rfl
end
theorem zK.cl {S:M.S} (m:zK K Θ e S H):M.clS S.length S=true:=by
 refine List.all_eq_true.mpr λo s=>?_;obtain⟨i,hi,rfl⟩:=List.mem_iff_getElem.mp s;obtain⟨a,z,t⟩:=m.obj i S[i] (by simp[hi]);rw[<- m.len];revert t;cases S[i] with
 | lst A=>exact λ⟨xs,_,r⟩=>r.cl
 | dct b =>
  intro ⟨ks,_,r⟩;refine List.all_eq_true.mpr λp hp=>?_;have:∀ {b:List (M.D×M.D)}{ks:List (Key×V)},Paired (λ(p:M.D×M.D) (q:Key×V)=>yz p.1 q.1/\zI K e H p.2 q.2) b ks->p∈b->(M.D.cl e.length p.1 && M.D.cl e.length p.2)=true:=by
   intro b ks r hp
   induction r with
   | nil=>cases hp
   | cons f k g =>
    rcases List.mem_cons.mp hp with rfl | hp
    ·rw[f.2.cl,uk];have h:=f.1;revert h;cases p.1<;>first | exact λ_=>rfl | exact λh=>h.elim
    ·exact g hp
  exact this r hp
 | fdc b =>
  intro ⟨_,ks,_,r⟩;refine List.all_eq_true.mpr λp hp=>?_;have:∀ {b:List (M.D×M.D)}{ks:List (Key×V)},Paired (λ(p:M.D×M.D) (q:Key×V)=>yz p.1 q.1/\zI K e H p.2 q.2) b ks->p∈b->(M.D.cl e.length p.1 && M.D.cl e.length p.2)=true:=by
   intro b ks r hp
   induction r with
   | nil=>cases hp
   | cons f k g =>
    rcases List.mem_cons.mp hp with rfl | hp
    ·rw[f.2.cl,uk];have h:=f.1;revert h;cases p.1<;>first | exact λ_=>rfl | exact λh=>h.elim
    ·exact g hp
  exact this r hp
 | dtt b =>
  intro ⟨xs,_,r⟩;refine List.all_eq_true.mpr λp hp=>?_;have:∀ {b:List (M.D×M.D)}{xs:List (M.D×zA×zB)},Paired (TDr K e H) b xs->p∈b->(M.D.cl e.length p.1 && M.D.cl e.length p.2)=true:=by
   intro b xs r hp
   induction r with
   | nil=>cases hp
   | cons f k g =>
    rcases List.mem_cons.mp hp with rfl | hp
    ·obtain⟨_,_,a3,v,a4,_⟩:=f;rw[a3.cl,a4.cl];rfl
    ·exact g hp
  exact this r hp
 | ftt b =>
  intro ⟨o,xs,_,r⟩;refine List.all_eq_true.mpr λp hp=>?_;have:∀ {b:List (M.D×M.D)}{xs:List (M.D×zA×zB)},Paired (TDr K e H) b xs->p∈b->(M.D.cl e.length p.1 && M.D.cl e.length p.2)=true:=by
   intro b xs r hp
   induction r with
   | nil=>cases hp
   | cons f k g =>
    rcases List.mem_cons.mp hp with rfl | hp
    ·obtain⟨_,_,a3,v,a4,_⟩:=f;rw[a3.cl,a4.cl];rfl
    ·exact g hp
  exact this r hp
 | ins c fs =>
  intro ⟨C,B,gs,N,_,_,r⟩;refine List.all_eq_true.mpr λu l=>?_;cases u with
  | none=>rfl
  | some d =>
   obtain⟨j,n,w⟩:=List.mem_iff_getElem.mp l;have x:j < N.length:=r.len ▸ n;obtain⟨v,_,y⟩:=r.get j N[j] d (by simp[x]) (by rw[qU n,w]);exact y.cl
end
section
variable {P:zW}{w:zR}{K:PySem.W.Frag}{mg:Str->Option zB}{base:zJ}{Θ:Tab}
theorem va {b:List zA}{H:Hp}{a:List M.D}{c:List V} (r:zL K b H a c) (N:List Str):zw K b H (a.map some++zb (N.length - a.length) none) (yH N c):=by
 have f:=r.length;refine⟨by simp[yH,f],λi d q=>?_⟩;unfold yH;by_cases hi:i < a.length
 ·rw[qe (by simpa using hi),ZL] at q;cases e:a[i]? with
  | none=>rw[e] at q;cases q
  | some d' =>
   rw[e] at q;cases q;obtain⟨v,g,h⟩:=r.get e;refine⟨v,?_,h⟩;rw[qe (by simp;omega),ZL,g];rfl
 ·rw[yv (by simp;omega),XT] at q;split at q<;>cases q
theorem zDQ {x qual:Str}{st:zT}{f:zA}{fd:jU}{N ps:List Str}{k:Nat}{b:M.SM}{q:M.F} (F:Fun K x qual st f fd) (z:jF N ps (zP st)) (B:M.jD ps.length (M.fn N.length b) q)
  (j:∀ (g:zB) (A:zZ) (outer:List Env) (s:zD) (H:Hp) (E:XK),za k (A.deeper (qF qual (zP st) s.heap.objs.size f g)) ->
   MSs (jx CX0 P w K mg base N qual (zP st) f g A outer s H E).nox Θ (z4 st) b):zj P w K mg base CX0 (k+1) f fd ps (SpM K Θ ps.length q):=by
 refine F.ok (k:=k) z (λC H Q E h=>?_) (λg A outer s H C Q E G h=>?_)
 ·obtain⟨m,i,S,n,r,_⟩:=h;rw[<- r.length,n]
 ·obtain⟨m,i,S,n,r,l,h⟩:=h;refine⟨_,j g A outer s H E G,m,_,S,va r N,l,?_⟩;rcases B i S n l.cl (l.len ▸ r.cl) with e | ⟨d,Z,v,y,I,J,o,L⟩
  ·rw[e] at h;exact h.elim
  ·rw[I] at h;have p:=zE.gc o L l h;have c:(b (i.map some++zb (N.length - i.length) none) S).out=.ok (M.D.ren y d) v:=J;show zh K Θ m H (b (i.map some++zb (N.length - i.length) none) S) _;revert c;cases b (i.map some++zb (N.length - i.length) none) S with
   | rt a s=>intro c;cases c;exact p
   | nx a s =>
    intro c;have O:M.R.ok M.D.non s=.ok (M.D.ren y d) v:=c;injection O with T U;subst U;rw[<- T] at p;exact λt V X Y l1 u _=>p t V .non Y l1 u rfl
   | bk a s=>intro c;cases c
   | ct a s=>intro c;cases c
   | exc e a s=>intro c;cases c
   | no=>intro c;cases c
theorem w_fun_M {x qual:Str}{st:zT}{f:zA}{fd:jU}{N ps:List Str}{k:Nat}{b:M.SM}{q:M.F} (F:Fun K x qual st f fd) (d:jF N ps (zP st)) (e:M.jD ps.length (M.fn N.length b) q)
  (a:∀ (c:zB) (A:zZ) (outer:List Env) (s:zD) (H:Hp) (E:XK),za k (A.deeper (qF qual (zP st) s.heap.objs.size f c)) ->
   WSs (jx CX0 P w K mg base N qual (zP st) f c A outer s H E).nox Θ (z4 st) b):zj P w K mg base CX0 (k+1) f fd ps (SpM K Θ ps.length q):=by with_unfolding_all exact zDQ (x:=x) (qual:=qual) (st:=st) (f:=f) (fd:=fd) (N:=N) (ps:=ps) (k:=k) (b:=b) (q:=q) F d e a
end
end L2
namespace L2
open PySem PySem.Spec PyProof.Rows
section
variable {K:PySem.W.Frag}{Θ:Tab}
theorem uM {i:Int} (h:M.qR i=true):-(2 ^ 64) < i/\i < 2 ^ 64:=by
 have h':i.natAbs < 18446744073709551616:=of_decide_eq_true h;exact⟨by omega,by omega⟩
theorem yo:Ad2 K Θ M.qX uX:=by
 intro c H S x y X Y Q d rx ry h;cases x with
 | int i =>
  cases y with
  | int j =>
   cases rx;cases ry;have h':zE K Θ (zI K) c H (if 0 < j/\j.natAbs < 1073741824 then M.R.ok (M.D.int (i / j)) S else .no) Q:=h;by_cases a:0 < j/\j.natAbs < 1073741824
   ·rw[if_pos a] at h';exact⟨⟨a.1,by omega⟩,zE.here (b:=V.int (i / j)) h' d rfl⟩
   ·rw[if_neg a] at h';exact h'.elim
  | _=>exact h.elim
 | _=>exact h.elim
theorem j0:Ad2 K Θ M.jc uo:=by
 intro c H S x y X Y Q d rx ry h;cases x with
 | int i =>
  cases y with
  | int j =>
   cases rx;cases ry;have h':zE K Θ (zI K) c H (if 0 < j then M.R.ok (M.D.int (i % j)) S else .no) Q:=h;by_cases a:0 < j
   ·rw[if_pos a] at h';exact⟨a,zE.here (b:=V.int (i % j)) h' d rfl⟩
   ·rw[if_neg a] at h';exact h'.elim
  | _=>exact h.elim
 | _=>exact h.elim
theorem q7 {d:List zA}{S:M.S}{H:Hp} (f:zK K Θ d S H) {i:Nat}{a:zA} (ha:d[i]? = some a) {xs:List M.D} (q:S[i]? = some (.lst xs)):∃ c,H a=some (.lst c)/\zL K d H xs c:=by
 obtain⟨b,e,c,g,r⟩:=f.obj i _ q;rw[ha] at e;cases e;exact⟨c,g,r⟩
theorem jL:Ad2 K Θ M.z0 (λx y H Q=>Yp x y H Q\/YT K x y H Q):=by
 intro e H S x y X Y Q d rx ry h;cases x with
 | int i =>
  cases y with
  | int j=>cases rx;cases ry;exact .inl (zE.here (b:=V.int (i+j)) h d rfl)
  | _=>exact h.elim
 | str a =>
  cases y with
  | str b =>
   obtain⟨rfl,f⟩:=rx;obtain⟨rfl,g⟩:=ry;have h':zE K Θ (zI K) e H (if a.length+b.length <= M.SZ then M.R.ok (M.D.str (a++b)) S else .no) Q:=h;by_cases c:a.length+b.length <= M.SZ
   ·rw[if_pos c] at h';refine .inl ⟨by rw[jZ,jZ,<- qv];exact c,?_⟩;rw[ue];exact zE.here (b:=V.str (ofT (a++b))) h' d ⟨rfl,ka f g⟩
   ·rw[if_neg c] at h';exact h'.elim
  | _=>exact h.elim
 | tup a =>
  cases y with
  | tup b =>
   obtain⟨l,xs,rfl,m,r⟩:=rx;obtain⟨s,ys,rfl,k,r'⟩:=ry;have h':zE K Θ (zI K) e H (if a≠[]/\a.length+b.length <= M.SZ then M.R.ok (M.D.tup (a++b)) S else .no) Q:=h;by_cases c:a≠[]/\a.length+b.length <= M.SZ
   ·rw[if_pos c] at h';refine .inr ⟨l,s,xs,ys,rfl,rfl,m,k,λz=>c.1 ?_,by rw[<- r.length,<- r'.length,<- qv];exact c.2,λn=>?_,λn p hp=>?_⟩
    ·subst z;have:=r.length;exact List.length_eq_zero_iff.mp this
    ·subst n;have t:b=[]:=List.length_eq_zero_iff.mp r'.length;subst t;rw[jP] at h';exact zE.here h' d ⟨l,xs,rfl,m,r⟩
    ·exact h' e _ _ (jN _) (Le.new hp _) (d.aside hp _) ⟨p,_,rfl,SqT.of jr,(r.app r').mono (jN _) (Le.new hp _)⟩
   ·rw[if_neg c] at h';exact h'.elim
  | _=>exact h.elim
 | ref i =>
  cases y with
  | ref j =>
   obtain⟨a,rfl,u⟩:=rx;obtain⟨b,rfl,v⟩:=ry;have h':zE K Θ (zI K) e H (match S[i]?,S[j]? with
    | some (.lst xs),some (.lst ys)=>if xs.length+ys.length <= M.SZ then M.alloc (.lst (xs++ys)) S else .no
    | _,_=>.no) Q:=h
   split at h'
   ·rename_i xs ys w A;obtain⟨B,C,o⟩:=q7 d u w;obtain⟨E,F,q⟩:=q7 d v A;by_cases c:xs.length+ys.length <= M.SZ
    ·rw[if_pos c] at h';exact .inl ⟨B,E,C,F,by rw[<- o.length,<- q.length,<- qv];exact c,λp hp=>h'.alloc d (o.app q) hp⟩
    ·rw[if_neg c] at h';exact h'.elim
   ·exact h'.elim
  | _=>exact h.elim
 | _=>exact h.elim
theorem XO:Ad1 K Θ M.QW (rU λi=>.int (-i)):=by
 intro c H S x X Q a rx h;cases x with
 | int i=>cases rx;exact⟨i,rfl,zE.here (b:=V.int (-i)) h a rfl⟩
 | _=>exact h.elim
theorem Za:AdC K Θ M.cLt uLt:=by
 intro d H S x y X Y Q c rx ry h;cases x with
 | int i =>
  cases y with
  | int j=>cases rx;cases ry;exact zE.here (b:=decide (i < j)) h c rfl
  | _=>exact h.elim
 | str a =>
  cases y with
  | str b =>
   obtain⟨rfl,_⟩:=rx;obtain⟨rfl,_⟩:=ry;show Q (.bl (decide ((ofT a).cps.toList < (ofT b).cps.toList))) H;rw[yw,yw];exact zE.here (b:=decide (a < b)) h c rfl
  | _=>exact h.elim
 | _=>exact h.elim
theorem yt:AdC K Θ M.cLe uLe:=by
 intro d H S x y X Y Q c rx ry h;cases x with
 | int i =>
  cases y with
  | int j=>cases rx;cases ry;exact zE.here (b:=decide (i <= j)) h c rfl
  | _=>exact h.elim
 | str a =>
  cases y with
  | str b =>
   obtain⟨rfl,_⟩:=rx;obtain⟨rfl,_⟩:=ry;show Q (.bl (!decide ((ofT b).cps.toList < (ofT a).cps.toList))) H;rw[yw,yw];exact zE.here (b:=!decide (b < a)) h c rfl
  | _=>exact h.elim
 | _=>exact h.elim
theorem zBg:AdC K Θ M.cGe uGe:=by
 intro c H S x y X Y Q a rx ry h;cases x with
 | int i =>
  cases y with
  | int j=>cases rx;cases ry;exact zE.here (b:=decide (j <= i)) h a rfl
  | _=>exact h.elim
 | _=>exact h.elim
theorem vY {b:List zA}{H:Hp}{a:List M.D}{xs:List V}{i:Int}{d:M.D} (r:zL K b H a xs) (e:M.atI a i=some d):∃ v,atI xs i=some v/\zI K b H d v:=by
 unfold M.atI at e;cases q:M.ixN a.length i with
 | none=>rw[q] at e;cases e
 | some j =>
  rw[q] at e;obtain⟨v,c,f⟩:=r.get (i:=j) e;have g:ixN xs.length i=some j:=by rw[<- r.length];exact q
  exact⟨v,by unfold atI;rw[g];exact c,f⟩
end
end L2
namespace L2
open PySem PySem.Spec PyProof.Rows
section
variable {K:PySem.W.Frag}{Θ:Tab}
theorem Wi {X:Cx}{a:zF}{ma:M.EM} (ha:ME X Θ a ma) (w:∀ f,isTrue a X.env f=(do let v <- f;standAt a.pos;holding [v] (truthy v)):=by intro _;rfl):MT X Θ a (M.jv ma) :=
 (zCY ha w).imp λσ H Q ⟨y,m,S,st,A,h⟩=>⟨y,m,S,st,A,zE.bind h λB F x G C I l1 e rx d=>by
  cases x with
  | non=>cases rx;exact⟨false,rfl,zE.here (b:=false) d e rfl⟩
  | bl b=>cases rx;exact⟨b,rfl,zE.here (b:=b) d e rfl⟩
  | int i=>cases rx;exact⟨_,rfl,zE.here (b:=(i != 0)) d e (by show decide (i≠0)=(i != 0);by_cases hi:i=0<;>simp[hi])⟩
  | str z =>
   obtain⟨rfl,_⟩:=rx;by_cases s:z.length <= M.SZ
   ·simp only[M.yV,if_pos s] at d;refine⟨_,⟨by rw[jZ,<- qv];exact s,rfl⟩,zE.here (b:=(((ofT z).length:Int) != 0)) d e ?_⟩;show (!z.isEmpty)=_;rw[jZ];cases z<;>simp<;>omega
   ·simp only[M.yV,if_neg s] at d;exact d.elim
  | tup j =>
   obtain⟨l,xs,rfl,t,r⟩:=rx;refine⟨_,.inr (.inl ⟨xs,t,rfl⟩),zE.here (b:=!xs.isEmpty) d e ?_⟩;show (!j.isEmpty)=_;have:=r.length;cases j<;>cases xs<;>first | rfl | cases this
  | ro j =>
   obtain⟨l,xs,rfl,t,r⟩:=rx;refine⟨_,.inl ⟨xs,t.sq,rfl⟩,zE.here (b:=!xs.isEmpty) d e ?_⟩;show (!j.isEmpty)=_;have:=r.length;cases j<;>cases xs<;>first | rfl | cases this
  | ref p =>
   obtain⟨a,rfl,u⟩:=rx;cases q:C[p]? with
   | none=>simp[M.yV,q] at d;exact d.elim
   | some o =>
    cases o with
    | lst xs =>
     simp only[M.yV,q] at d;obtain⟨g,k,r⟩:=q7 e u q;refine⟨_,.inl ⟨g,SqL.of k,rfl⟩,zE.here (b:=!g.isEmpty) d e ?_⟩;show (!xs.isEmpty)=_;have:=r.length;cases xs<;>cases g<;>first | rfl | cases this
    | dct D =>
     simp only[M.yV,q] at d;obtain⟨b,k,g,E,r⟩:=e.obj _ _ q;rw[u] at k;cases k;refine⟨_,.inr (.inr ⟨g,E,rfl⟩),zE.here (b:=!g.isEmpty) d e ?_⟩;cases r<;>rfl
    | fdc _=>simp[M.yV,q] at d;exact d.elim
    | dtt _=>simp[M.yV,q] at d;exact d.elim
    | ftt _=>simp[M.yV,q] at d;exact d.elim
    | ins c fs=>simp[M.yV,q] at d;exact d.elim
  | ty n=>exact d.elim⟩
theorem w_mt_tru {X:Cx}{a:zF}{ma:M.EM} (ha:WE X Θ a ma) (c:∀ b,isTrue a X.env b=(do let v <- b;standAt a.pos;holding [v] (truthy v)):=by intro _;rfl):WT X Θ a (M.jv ma):=by with_unfolding_all exact Wi (X:=X) (a:=a) (ma:=ma) ha c
inductive TyM (K:PySem.W.Frag) (H:Hp):V->String->Prop where
 | of {x:V}{A:String} (h:qp K H x (.type A)):TyM K H x A
 | sqT {a:zA}{xs:List V} (h:SqT K H a xs):TyM K H (.ref a) "tuple"
 | sqL {a:zA}{xs:List V} (h:SqL K H a xs):TyM K H (.ref a) "list"
noncomputable def vf (K:PySem.W.Frag):List V->Hp->VK->Prop:=λxs H Q=>∃ x n A b,xs=[x,.ty n]/\TyM K H x A/\PySem.W.kitOne K (.type A) (.type n)=some b/\Q (.bl b) H
theorem Jg {X:Cx}:jo X (.builtin "isinstance") (vf X.K):=by
 intro g s σ H xs us Q I r h;obtain⟨x,n,A,b,rfl,ty,e,q⟩:=h;obtain⟨u,j,rfl,c,i⟩:=Vq r;cases i;cases ty with
 | of h=>exact qg (n:=1) I.tk (wA I c h e λtk a=>⟨.bl b,H,I.tok tk a,rfl,q⟩)
 | sqT h =>
  cases c;obtain⟨its,_,⟨o,d,f,_⟩,_⟩:=I.tuple h;exact qg (n:=1) I.tk (PySem.W.kia_one PySem.W.kitx_tuple I.kIn ⟨o,d,f⟩ e (λz=>nomatch z) λtk a=>⟨.bl b,H,I.tok tk a,rfl,q⟩)
 | sqL h =>
  cases c;obtain⟨its,_,⟨o,n,d,f,_⟩,_⟩:=I.list h;exact qg (n:=1) I.tk (PySem.W.kia_one PySem.W.kitx_list I.kIn ⟨o,d,f⟩ e (λz=>nomatch z) λtk a=>⟨.bl b,H,I.tok tk a,rfl,q⟩)
theorem zAu (n:M.Kd):PySem.W.kitOne K (.type "NoneType") (.type (ju n))=some false/\PySem.W.kitOne K (.type "bool") (.type (ju n))=some (match n with | .bool=>true | .int=>true | _=>false) /\
  PySem.W.kitOne K (.type "int") (.type (ju n))=some (match n with | .int=>true | _=>false)/\PySem.W.kitOne K (.type "str") (.type (ju n))=some (match n with | .str=>true | _=>false) /\
  PySem.W.kitOne K (.type "tuple") (.type (ju n))=some (match n with | .tuple=>true | _=>false)/\PySem.W.kitOne K (.type "list") (.type (ju n))=some (match n with | .list=>true | _=>false) /\
  PySem.W.kitOne K (.type "dict") (.type (ju n))=some (match n with | .dict=>true | _=>false):=by
 cases n<;>exact⟨QE (by decide +kernel),QE (by decide +kernel),QE (by decide +kernel),QE (by decide +kernel),QE (by decide +kernel),QE (by decide +kernel),QE (by decide +kernel)⟩
theorem Jj:AdN K Θ M.yJ (vf K):=by
 intro w H S xs E Q j rx h
 match xs,rx,h with
 | [x,.ty n],rx,h =>
  obtain⟨v,_,rfl,f,_,_,rfl,rfl,rfl⟩:=rx;obtain⟨k1,k2,k3,k4,k5,k6,k7⟩:=zAu (K:=K) n;have d:∀ {A:String}{b:Bool},M.yi n x S=.ok b S->TyM K H v A->PySem.W.kitOne K (.type A) (.type (ju n))=some b->vf K [v,.ty (ju n)] H Q:=λ{A b} e ty k=>by
   have h':zE K Θ (zI K) w H ((M.yi n x S).bind λb s=>.ok (.bl b) s) Q:=h;rw[e] at h';exact⟨v,ju n,A,b,rfl,ty,k,zE.here (b:=V.bl b) h' j rfl⟩
  cases x with
  | non=>cases f;exact d rfl (.of .non) k1
  | bl b=>cases f;exact d rfl (.of (.bl b)) k2
  | int i=>cases f;exact d rfl (.of (.int i)) k3
  | str z=>obtain⟨rfl,_⟩:=f;exact d rfl (.of (.str _)) k4
  | tup y=>obtain⟨l,ys,rfl,t,r⟩:=f;exact d rfl (.sqT t) k5
  | ro y=>obtain⟨l,ys,rfl,t,r⟩:=f;exact d rfl (.sqL t.sq) k6
  | ty m=>exact h.elim
  | ref p =>
   obtain⟨a,rfl,u⟩:=f;cases q:S[p]? with
   | none=>simp[M.yJ,M.yi,q] at h;exact h.elim
   | some o =>
    cases o with
    | lst xs =>
     obtain⟨B,g,r⟩:=q7 j u q;refine d ?_ (.sqL (SqL.of g)) k6;simp only[M.yi,q]<;>(cases n<;>rfl)
    | dct C =>
     obtain⟨b,g,B,D,r⟩:=j.obj _ _ q;rw[u] at g;cases g;refine d ?_ (.of (.dK D)) k7;simp only[M.yi,q]<;>(cases n<;>rfl)
    | fdc _=>simp[M.yJ,M.yi,q] at h;exact h.elim
    | dtt _=>simp[M.yJ,M.yi,q] at h;exact h.elim
    | ftt _=>simp[M.yJ,M.yi,q] at h;exact h.elim
    | ins c fs=>simp[M.yJ,M.yi,q] at h;exact h.elim
 | [_,.non],_,h=>exact h.elim
 | [_,.bl _],_,h=>exact h.elim
 | [_,.int _],_,h=>exact h.elim
 | [_,.str _],_,h=>exact h.elim
 | [_,.tup _],_,h=>exact h.elim
 | [_,.ro _],_,h=>exact h.elim
 | [_,.ref _],_,h=>exact h.elim
 | [],_,h=>exact h.elim
 | [_],_,h=>exact h.elim
 | _::b::_::_,_,h=>cases b<;>exact h.elim
noncomputable def ofP:M.P->yk
 | .non=>.none
 | .bl b=>.bool b
 | .int i=>.int i
 | .str x=>.str (ofT x)
 | .tup ps=>.tuple (all ps)
 | .lst ps=>.list (all ps)
where all:List M.P->List yk
 | []=>[]
 | p::ps=>ofP p::all ps
theorem Yg (x y:M.T):(ofT x == ofT y)=(x == y):=by
 by_cases h:x=y
 ·subst h;simp
 ·rw[beq_eq_false_iff_ne.mpr h,beq_eq_false_iff_ne.mpr λe=>h (K7 e)]
mutual
theorem KB:∀ p q:M.P,QK (ofP p) (ofP q)=M.P.eqv p q
 | .non,.non=>rfl
 | .non,.bl _=>rfl
 | .non,.int _=>rfl
 | .non,.str _=>rfl
 | .non,.tup _=>rfl
 | .non,.lst _=>rfl
 | .bl _,.non=>rfl
 | .bl _,.bl _=>rfl
 | .bl _,.int _=>rfl
 | .bl _,.str _=>rfl
 | .bl _,.tup _=>rfl
 | .bl _,.lst _=>rfl
 | .int _,.non=>rfl
 | .int _,.bl _=>rfl
 | .int _,.int _=>rfl
 | .int _,.str _=>rfl
 | .int _,.tup _=>rfl
 | .int _,.lst _=>rfl
 | .str _,.non=>rfl
 | .str _,.bl _=>rfl
 | .str _,.int _=>rfl
 | .str x,.str y=>Yg x y
 | .str _,.tup _=>rfl
 | .str _,.lst _=>rfl
 | .tup _,.non=>rfl
 | .tup _,.bl _=>rfl
 | .tup _,.int _=>rfl
 | .tup _,.str _=>rfl
 | .tup ps,.tup a=>KO ps a
 | .tup _,.lst _=>rfl
 | .lst _,.non=>rfl
 | .lst _,.bl _=>rfl
 | .lst _,.int _=>rfl
 | .lst _,.str _=>rfl
 | .lst _,.tup _=>rfl
 | .lst ps,.lst a=>KO ps a
theorem KO:∀ ps a:List M.P,WJ (ofP.all ps) (ofP.all a)=M.P.eqvs ps a
 | [],[]=>rfl
 | [],_::_=>rfl
 | _::_,[]=>rfl
 | p::ps,q::a=>by
  show (QK (ofP p) (ofP q) && WJ (ofP.all ps) (ofP.all a))=(M.P.eqv p q && M.P.eqvs ps a)
  rw[KB p q,KO ps a]
end
mutual
theorem xn:∀ p:M.P,U7 (ofP p)=M.P.dep p
 | .non=>rfl
 | .bl _=>rfl
 | .int _=>rfl
 | .str _=>rfl
 | .tup ps=>by show KW (ofP.all ps)+1=M.P.deps ps+1;rw[Xu ps]
 | .lst ps=>by show KW (ofP.all ps)+1=M.P.deps ps+1;rw[Xu ps]
theorem Xu:∀ ps:List M.P,KW (ofP.all ps)=M.P.deps ps
 | []=>rfl
 | p::ps=>by show max (U7 (ofP p)) (KW (ofP.all ps))=max (M.P.dep p) (M.P.deps ps);rw[xn p,Xu ps]
end
section
variable {ρ:List zA}{H:Hp}
mutual
theorem Kg {g:Nat->Option M.P} (f:∀ i p v,g i=some p->zI K ρ H (.ref i) v->jb K H v (ofP p)/\(ofP p).canLay0=true):∀ {d:M.D}{p:M.P}{v:V},M.qJ g d=some p->zI K ρ H d v->jb K H v (ofP p)/\(ofP p).canLay0=true
 | .non,_,_,e,r=>by cases e;cases r;exact⟨.non,rfl⟩
 | .bl _,_,_,e,r=>by cases e;cases r;exact⟨.bl _,rfl⟩
 | .int _,_,_,e,r=>by cases e;cases r;exact⟨.int _,rfl⟩
 | .str x,_,_,e,r=>by
  cases e;obtain⟨rfl,ok⟩:=r;refine⟨.str _,?_⟩;show zF4 (ofT x)=true;unfold zF4 ofT;have h:x.all (λc=>decide (c < 1114112))=true:=ok;simpa using h
 | .tup b,_,_,e,r=>by
  obtain⟨l,xs,rfl,j,k⟩:=r;have a:(M.qJ.all g b).map M.P.tup=some _:=e;cases q:M.qJ.all g b with
  | none=>rw[q] at a;cases a
  | some ps =>
   rw[q] at a;cases a;obtain⟨m,n⟩:=ku f q k;exact⟨.tup j m,n⟩
 | .ro b,_,_,e,r=>by
  obtain⟨l,xs,rfl,j,k⟩:=r;have a:(M.qJ.all g b).map M.P.lst=some _:=e;cases q:M.qJ.all g b with
  | none=>rw[q] at a;cases a
  | some ps =>
   rw[q] at a;cases a;obtain⟨m,n⟩:=ku f q k;exact⟨.lst j.sq m,n⟩
 | .ref i,_,_,e,r=>f i _ _ e r
 | .ty _,_,_,e,_=>by cases e
theorem ku {g:Nat->Option M.P} (h:∀ i p v,g i=some p->zI K ρ H (.ref i) v->jb K H v (ofP p)/\(ofP p).canLay0=true):∀ {b:List M.D}{ps:List M.P}{xs:List V},M.qJ.all g b=some ps->zL K ρ H b xs->yC K H xs (ofP.all ps)/\zCD (ofP.all ps)=true
 | [],_,_,e,r=>by cases e;cases r;exact⟨.nil,rfl⟩
 | d::b,_,_,e,r=>by
  obtain⟨y,ys,rfl,j,k⟩:=r;have a:(match M.qJ g d,M.qJ.all g b with | some p,some ps=>some (p::ps) | _,_=>none)=some _:=e;cases c:M.qJ g d with
  | none=>rw[c] at a;cases a
  | some p =>
   cases f:M.qJ.all g b with
   | none=>rw[c,f] at a;cases a
   | some ps =>
    rw[c,f] at a;cases a;obtain⟨l,m⟩:=Kg h c j;obtain⟨n,o⟩:=ku h f k;refine⟨.cons l n,?_⟩;show (PyData.canLay0 (ofP p) && zCD (ofP.all ps))=true;rw[m,o];rfl
end
theorem xP {S:M.S} (g:zK K Θ h S H):∀ (n:Nat) {d:M.D}{p:M.P}{v:V},M.toP n S d=some p->zI K h H d v->jb K H v (ofP p)/\(ofP p).canLay0=true
 | 0,_,_,_,e,r=>Kg (λi p v e _=>by cases e) e r
 | n+1,_,_,_,e,r=>Kg (λi p v e r=>by
   obtain⟨a,rfl,k⟩:=r;have b:(match M.z6 S i with | some xs=>(M.qJ.all (λj=>M.toP n S (.ref j)) xs).map M.P.lst | none=>none)=some p:=e;cases q:S[i]? with
   | none=>simp[M.z6,q] at b
   | some o =>
    cases o with
    | lst xs =>
     simp only[M.z6,q] at b;obtain⟨w,l,m⟩:=q7 g k q;cases f:M.qJ.all (λj=>M.toP n S (.ref j)) xs with
     | none=>rw[f] at b;cases b
     | some ps =>
      rw[f] at b;cases b;obtain⟨s,t⟩:=ku (λj p v e r=>xP g n e r) f m;exact⟨.lst (SqL.of l) s,t⟩
    | dct u=>simp[M.z6,q] at b
    | fdc _=>simp[M.z6,q] at b
    | dtt _=>simp[M.z6,q] at b
    | ftt _=>simp[M.z6,q] at b
    | ins c fs=>simp[M.z6,q] at b) e r
end
noncomputable abbrev DR (K:PySem.W.Frag) (a:List zA) (H:Hp):List (M.D×M.D)->List (Key×V)->Prop:=Paired λp q=>yz p.1 q.1/\zI K a H p.2 q.2
theorem we {d e:M.D}{a b:Key} (ha:yz d a) (c:yz e b):(a=b)=(d=e):=by
 cases d with
 | int i =>
  cases ha;cases e with
  | int j=>cases c;exact propext ⟨λz=>by cases z;rfl,λz=>by cases z;rfl⟩
  | str y=>obtain⟨rfl,_⟩:=c;exact propext ⟨λz=>(nomatch z),λz=>(nomatch z)⟩
  | _=>exact c.elim
 | str x =>
  obtain⟨rfl,_⟩:=ha;cases e with
  | int j=>cases c;exact propext ⟨λz=>(nomatch z),λz=>(nomatch z)⟩
  | str y=>obtain⟨rfl,_⟩:=c;exact propext ⟨λz=>by rw[K7 (zBu z)],λz=>by cases z;rfl⟩
  | _=>exact c.elim
 | _=>exact ha.elim
theorem Xd {a:List zA}{H:Hp}{d:M.D}{v:V} (h:M.ZE d=true) (r:zI K a H d v):∃ k,yz d k/\v=kV k:=by
 cases d with
 | int i=>cases r;exact⟨.inl i,rfl,rfl⟩
 | str x=>obtain⟨rfl,ok⟩:=r;exact⟨.inr (ofT x),⟨rfl,ok⟩,rfl⟩
 | _=>cases h
section
variable {ρ:List zA}{H:Hp}{kvs:List (M.D×M.D)}{ks:List (Key×V)}{d:M.D}{k:Key}
theorem DR.val (r:DR K ρ H kvs ks) (b:yz d k):match M.qG d kvs with | some e=>∃ v,j4 ks k=some v/\zI K ρ H e v | none=>j4 ks k=none:=by
 induction r with
 | nil=>exact rfl
 | @cons p q ps f h t c =>
  have e:=we h.1 b;by_cases hd:p.1=d
  ·have a:q.1=k:=e.mpr hd;rw[K5 a,M.qG,ZQ,beq_iff_eq.mpr hd.symm];exact⟨_,rfl,h.2⟩
  ·have a:¬ q.1=k:=λz=>hd (e.mp z);rw[Kw a,M.qG,ZQ,beq_eq_false_iff_ne.mpr (qM hd)];exact c
end
theorem xt {d:List zA}{S:M.S}{H:Hp} (f:zK K Θ d S H) {i:Nat}{a:zA} (ha:d[i]? = some a) {c:List (M.D×M.D)} (q:S[i]? = some (.dct c)):∃ ks,H a=some (.dK ks)/\DR K d H c ks:=by
 obtain⟨b,e,g,h,r⟩:=f.obj i _ q;rw[ha] at e;cases e;exact⟨g,h,r⟩
theorem YG {d:List zA}{S:M.S}{H:Hp} (f:zK K Θ d S H) {i:Nat}{a:zA} (ha:d[i]? = some a) {c:List (M.D×M.D)} (q:S[i]? = some (.fdc c)):∃ o ks,H a=some (.frz o (.dK ks))/\DR K d H c ks:=by
 obtain⟨b,e,o,g,h,r⟩:=f.obj i _ q;rw[ha] at e;cases e;exact⟨o,g,h,r⟩
inductive yR (K:PySem.W.Frag) (H:Hp) (kb:List (Key×V)):List (Key×V)->Bool->Prop where
 | nil:yR K H kb [] true
 | miss {k:Key}{v:V}{r:List (Key×V)} (h:j4 kb k=none):yR K H kb ((k,v)::r) false
 | hit {k:Key}{v y:V}{r:List (Key×V)}{d e:yk}{b:Bool} (h:j4 kb k=some y) (hd:jb K H v d) (he:jb K H y e) (sd:qm d=true) (se:qm e=true) (t:yR K H kb r b):yR K H kb ((k,v)::r) (QK d e && b)
noncomputable def Kn (neg:Bool) (K:PySem.W.Frag):R2:=λx y H Q=>∃ a b c d r,x=.ref a/\y=.ref b/\H a=some (.dK c)/\H b=some (.dK d)/\(c.length=d.length->yR K H d c r)/\Q (.bl (if neg then !(c.length == d.length && r) else (c.length == d.length && r))) H
theorem vG {X:Cx}{c:List (zA×Obj)}{σ:St}{H:Hp}{s:zD}{A:zZ} (I:Inv X c σ H s) (j:A.units+64 < QO) {l:List (Key×V)}{f:List (Key×zB)} (i:KV l f):∀ {m:List (Key×V)}{n:List (Key×zB)}{r:Bool},KV m n->yR X.K H l m r->PySem.W.KeqHits A s f n r
 | _,_,_,d,.nil=>by cases d;exact .nil
 | _,_,_,d,.miss h=>by
  cases d with
  | @cons p q ps u g t =>
   obtain⟨k,v⟩:=q;have b:_=k:=g.1;have a:=i.val k;rw[<- b,h] at a;refine .miss ?_;rw[<- b];cases e:Zl f _ with
   | none=>rfl
   | some w=>rw[e] at a;exact a.elim
 | _,_,_,d,.hit h hd x o y t=>by
  cases d with
  | @cons p q ps u g t1 =>
   obtain⟨k,v⟩:=q;have b:_=k:=g.1;have a:=i.val k;rw[<- b,h] at a;cases e:Zl f k with
   | none=>rw[b,e] at a;exact a.elim
   | some w =>
    rw[b,e] at a;obtain⟨z,B⟩:=hd.reads I g.2;obtain⟨bs,C⟩:=x.reads I a;exact .hit e (SeqAt.eqAt_reads _ _ A s _ _ z bs B C (zDE o) (zDE y) (SeqAt.room_of_shaped o j)) (vG I j i t1 t)
theorem zB2 {X:Cx}{k:Nat} (f:za k X.A):OpR X (zm .Eq) (Kn false X.K):=by
 intro g s σ H x y v u Q I rx ry h;obtain⟨a,b,p,t,r,rfl,rfl,ha,i,j,q⟩:=h;cases rx;cases ry;obtain⟨w,l,z,c,m⟩:=ko I.hok ha;obtain⟨B,n,C,d,o⟩:=ko I.hok i;refine PySem.W.keq_eq l n m o f.units0 (λe=>vG I (by show X.A.units+1+64 < _;have:=f.un;omega) d c (j (by rw[c.length,d.length];exact e))) ⟨.bl _,H,I,rfl,?_⟩;rw[<- c.length,<- d.length];exact q
theorem zB4 {X:Cx}{k:Nat} (f:za k X.A):OpR X (zm .NotEq) (Kn true X.K):=by
 intro g s σ H x y v u Q I rx ry h;obtain⟨a,b,p,t,r,rfl,rfl,ha,i,j,q⟩:=h;cases rx;cases ry;obtain⟨w,l,z,c,m⟩:=ko I.hok ha;obtain⟨B,n,C,d,o⟩:=ko I.hok i;refine PySem.W.keq_ne l n m o f.units0 (λe=>vG I (by show X.A.units+1+64 < _;have:=f.un;omega) d c (j (by rw[c.length,d.length];exact e))) ⟨.bl _,H,I,rfl,?_⟩;rw[<- c.length,<- d.length];exact q
theorem Yy {i:List zA}{H:Hp}{S:M.S} (j:zK K Θ i S H) {c:List (M.D×M.D)}{n:List (Key×V)} (o:DR K i H c n):∀ {ks:List (M.D×M.D)}{l:List (Key×V)}{b:Bool},DR K i H ks l->M.dEq S c ks=some b->yR K H n l b
 | _,_,_,.nil,e=>by cases e;exact .nil
 | (k,v)::ks,(kk,vv)::l,b,.cons h t,e=>by
  have d:=DR.val o h.1;unfold M.dEq at e;cases q:M.qG k c with
  | none =>
   rw[q] at e d;cases e;exact .miss d
  | some w =>
   rw[q] at e d;obtain⟨y,p,ry⟩:=d;dsimp only at e;cases a:M.toP 8 S v with
   | none=>rw[a] at e;cases e
   | some r =>
    cases f:M.toP 8 S w with
    | none=>rw[a,f] at e;cases e
    | some p2 =>
     cases m:M.dEq S c ks with
     | none=>rw[a,f,m] at e;cases e
     | some u =>
      rw[a,f,m] at e;dsimp only at e;by_cases g:M.P.dep r <= 64/\M.P.dep p2 <= 64
      ·rw[if_pos g] at e;cases e;obtain⟨d1,c1⟩:=xP j _ a h.2;obtain⟨s,c2⟩:=xP j _ f ry;rw[<- KB];refine .hit p d1 s ?_ ?_ (Yy j o t m)
       ·unfold qm;rw[c1,Jb,xn];exact decide_eq_true g.1
       ·unfold qm;rw[c2,Jb,xn];exact decide_eq_true g.2
      ·rw[if_neg g] at e;cases e
theorem Y1 {g:List zA}{H:Hp}{S:M.S}{x y:M.D}{k Y:V}{l:Bool->Hp->Prop} (f:zK K Θ g S H) (rx:zI K g H x k) (ry:zI K g H y Y) (h:zE K Θ rB g H (M.XQ x y S) l) :
  ∃ a b c d r,k=.ref a/\Y=.ref b/\H a=some (.dK c)/\H b=some (.dK d)/\(c.length=d.length->yR K H d c r)/\l (c.length == d.length && r) H:=by
 unfold M.XQ at h;split at h
 ·rename_i i j;split at h
  ·rename_i ks z u v;obtain⟨a,rfl,ha⟩:=rx;obtain⟨b,rfl,w⟩:=ry;obtain⟨c,m,n⟩:=xt f ha u;obtain⟨d,o,p⟩:=xt f w v;have l1:=Paired.length n;have l2:=Paired.length p;split at h
   ·rename_i s;split at h
    ·rename_i t q;refine⟨a,b,c,d,t,rfl,rfl,m,o,λ_=>Yy f p n q,?_⟩;rw[show (c.length == d.length)=true by rw[beq_iff_eq];omega,Jb];exact zE.here (b:=t) h f rfl
    ·exact h.elim
   ·rename_i s;refine⟨a,b,c,d,false,rfl,rfl,m,o,λe=>absurd (by omega) s,?_⟩;rw[Bool.and_false];exact zE.here (b:=false) h f rfl
  ·exact h.elim
 ·exact h.elim
noncomputable def kI (K:PySem.W.Frag) (neg:Bool):R2:=λx y H Q=>(Qn x y=true/\Q (.bl (if neg then !decide (x=y) else decide (x=y))) H)\/vb K neg x y H Q\/Kn neg K x y H Q
theorem jl {X:Cx}{k:Nat} (b:za k X.A):OpR X (zm .Eq) (kI X.K false):=by
 intro a s σ H x y v u Q I rx ry h;rcases h with h | h | h
 ·exact zCg a s σ H x y v u Q I rx ry h
 ·exact zBN b a s σ H x y v u Q I rx ry h
 ·exact zB2 b a s σ H x y v u Q I rx ry h
theorem kK {X:Cx}{k:Nat} (b:za k X.A):OpR X (zm .NotEq) (kI X.K true):=by
 intro a s σ H x y v u Q I rx ry h;rcases h with h | h | h
 ·exact u1 a s σ H x y v u Q I rx ry h
 ·exact Uf b a s σ H x y v u Q I rx ry h
 ·exact zB4 b a s σ H x y v u Q I rx ry h
theorem v6 {m:List zA}{H:Hp}{S:M.S}{x y:M.D}{f Y:V}{g:Bool->Hp->Prop} (k:zK K Θ m S H) (rx:zI K m H x f) (ry:zI K m H y Y) (h:zE K Θ rB m H (M.eqD x y S) g) :
  (Qn f Y=true/\g (decide (f=Y)) H)\/(∃ d e,jb K H f d/\jb K H Y e/\qm d=true/\qm e=true/\g (QK d e) H)\/∃ a b i j r,f=.ref a/\Y=.ref b/\H a=some (.dK i)/\H b=some (.dK j)/\(i.length=j.length->yR K H j i r)/\g (i.length == j.length && r) H:=by
 have gen:∀ {p q:M.P},M.toP M.Zk S x=some p->M.toP M.Zk S y=some q->M.P.dep p <= 64/\M.P.dep q <= 64->g (M.P.eqv p q) H->∃ d e,jb K H f d/\jb K H Y e/\qm d=true/\qm e=true/\g (QK d e) H:=λ{p q} l n hd t=>by
  obtain⟨d1,c1⟩:=xP k _ l rx;obtain⟨u,c2⟩:=xP k _ n ry;refine⟨_,_,d1,u,?_,?_,by rw[KB];exact t⟩
  ·unfold qm;rw[c1,Jb,xn];exact decide_eq_true hd.1
  ·unfold qm;rw[c2,Jb,xn];exact decide_eq_true hd.2
 have zt:zE K Θ rB m H (match M.toP M.Zk S x,M.toP M.Zk S y with
   | some p,some q=>if M.P.dep p <= 64/\M.P.dep q <= 64 then M.R.ok (M.P.eqv p q) S else .no
   | _,_=>M.XQ x y S) g->(∃ d e,jb K H f d/\jb K H Y e/\qm d=true/\qm e=true/\g (QK d e) H)\/∃ a b i j r,f=.ref a/\Y=.ref b/\H a=some (.dK i)/\H b=some (.dK j)/\(i.length=j.length->yR K H j i r)/\g (i.length == j.length && r) H:=λh'=>by
  cases l:M.toP M.Zk S x with
  | none=>rw[l] at h';exact .inr (Y1 k rx ry h')
  | some p =>
   cases n:M.toP M.Zk S y with
   | none=>rw[l,n] at h';exact .inr (Y1 k rx ry h')
   | some q =>
    rw[l,n] at h';dsimp only at h';by_cases s:M.P.dep p <= 64/\M.P.dep q <= 64
    ·rw[if_pos s] at h';exact .inl <| gen l n s (zE.here (b:=M.P.eqv p q) h' k rfl)
    ·rw[if_neg s] at h';exact h'.elim
 have o:∀ {b:Bool},Qn f Y=true->decide (f=Y)=b->M.eqD x y S=.ok b S->(Qn f Y=true/\g (decide (f=Y)) H):=λ{b} v w z=>by
  rw[z] at h;rw[w];exact⟨v,zE.here (b:=b) h k rfl⟩
 cases x with
 | str a =>
  cases y with
  | str b =>
   obtain⟨rfl,_⟩:=rx;obtain⟨rfl,_⟩:=ry;refine .inl (o rfl ?_ rfl);by_cases c:a=b
   ·subst c;simp
   ·rw[decide_eq_false c,decide_eq_false λe=>c (K7 (V.str.inj e))]
  | _=>exact .inr (zt h)
 | int a =>
  cases y with
  | int b =>
   cases rx;cases ry;refine .inl (o rfl ?_ rfl);by_cases c:a=b
   ·subst c;simp
   ·rw[decide_eq_false c,decide_eq_false λe=>c (V.int.inj e)]
  | _=>exact .inr (zt h)
 | bl a =>
  cases y with
  | bl b =>
   cases rx;cases ry;refine .inl (o rfl ?_ rfl);by_cases c:a=b
   ·subst c;simp
   ·rw[decide_eq_false c,decide_eq_false λe=>c (V.bl.inj e)]
  | _=>exact .inr (zt h)
 | non =>
  cases y with
  | non=>cases rx;cases ry;exact .inl (o rfl rfl rfl)
  | _=>exact .inr (zt h)
 | _=>exact .inr (zt h)
theorem jh:AdC K Θ M.cEq (kI K false):=by
 intro n H S x y o Y Q c rx ry h;rcases v6 c rx ry h with h | ⟨d,e,f,g,i,j,k⟩ | ⟨a,b,l,m,r,h⟩
 ·exact .inl h
 ·exact .inr (.inl ⟨d,e,f,g,i,j,k⟩)
 ·exact .inr (.inr ⟨a,b,l,m,r,h⟩)
theorem XD:AdC K Θ M.cNe (kI K true):=by
 intro g H S x y s Y Q i rx ry h;have h':zE K Θ rB g H (M.eqD x y S) (λb j=>Q (.bl (!b)) j):=zE.bind h λk t b u v w l1 c e f=>by cases e;exact zE.here (b:=!b) f c rfl
 rcases v6 i rx ry h' with h | ⟨d,e,f,l,m,n,o⟩ | ⟨a,b,p,q,r,h⟩
 ·exact .inl h
 ·exact .inr (.inl ⟨d,e,f,l,m,n,o⟩)
 ·exact .inr (.inr ⟨a,b,p,q,r,h⟩)
end
end L2
namespace L2
open PySem PySem.Spec PyProof.Rows
section
variable {K:PySem.W.Frag}{Θ:Tab}
theorem JB (n d:Nat) (o:Option Int):M.sIx n d o=HT.sIx n d o:=by
 cases o with
 | none=>rfl
 | some v =>
  have:=HT.KH v n d;show (if v < 0 then max (v+(n:Int)) 0 else min v (n:Int)).toNat=_;rw[this];simp
theorem zCM {x:M.T}{lo hi:Option Int}:∀ c∈M.cut x lo hi,c∈x:=λc a=>kS (Xk a)
theorem vT {a:List zA}{H:Hp}{b:List M.D}{xs:List V} (r:zL K a H b xs) (lo hi:Option Int):zL K a H (M.cut b lo hi) (yS xs lo hi):=by
 unfold M.cut yS;rw[JB,JB,r.length];exact (r.drop _).take _
theorem qd:∀ b H S x i l u Q,zK K Θ b S H->zI K b H x i->zE K Θ (zI K) b H (M.slD x l u S) Q->uSl K i l u H Q:=by
 intro b H S x i l u Q d rx h;cases x with
 | str z =>
  obtain⟨rfl,ok⟩:=rx;by_cases j:z.length <= M.SZ
  ·simp only[M.slD,if_pos j] at h;refine⟨by rw[jZ,<- qv];exact j,zE.here h d ⟨?_,xV ok zCM⟩⟩;show V.str (JN (ofT z) l u)=V.str (ofT (M.cut z l u));unfold JN M.cut ofT;have e:(⟨z.toArray⟩:Str).length=z.length:=by simp[vL]
   rw[e,JB,JB]
  ·simp only[M.slD,if_neg j] at h;exact h.elim
 | tup f =>
  obtain⟨a,xs,rfl,k,r⟩:=rx;by_cases g:M.sIx f.length 0 l=0/\M.sIx f.length f.length u=f.length
  ·simp only[M.slD,if_pos g] at h;exact h.elim
  ·simp only[M.slD,if_neg g] at h;refine .inr ⟨xs,k,?_,λp hp=>h b _ _ (jN _) (Le.new hp _) (d.aside hp _) ⟨p,_,rfl,SqT.of jr,(vT r l u).mono (jN _) (Le.new hp _)⟩⟩;rw[JB,JB,r.length] at g;exact g
 | ro f =>
  obtain⟨a,xs,rfl,k,r⟩:=rx;exact .inl ⟨xs,k.sq,λp hp=>zE.alloc h d (vT r l u) hp⟩
 | ref p =>
  obtain⟨a,rfl,m⟩:=rx;cases q:S[p]? with
  | none=>simp[M.slD,M.z6,q] at h;exact h.elim
  | some o =>
   cases o with
   | lst xs =>
    simp only[M.slD,M.z6,q] at h;obtain⟨n,s,r⟩:=q7 d m q;exact .inl ⟨n,SqL.of s,λp hp=>zE.alloc h d (vT r l u) hp⟩
   | dct t=>simp[M.slD,M.z6,q] at h;exact h.elim
   | fdc _=>simp[M.slD,M.z6,q] at h;exact h.elim
   | dtt _=>simp[M.slD,M.z6,q] at h;exact h.elim
   | ftt _=>simp[M.slD,M.z6,q] at h;exact h.elim
   | ins c fs=>simp[M.slD,M.z6,q] at h;exact h.elim
 | _=>exact h.elim
theorem vw {d:List zA}{H:Hp}:∀ {a:List M.D}{ys:List V}{bs:List Bool},M.Zi a=some bs->zL K d H a ys->ys=bs.map V.bl
 | [],_,_,e,r=>by cases e;cases r;rfl
 | .bl b::a,_,_,e,r=>by
  obtain⟨y,ys,rfl,f,g⟩:=r;cases f;have c:(M.Zi a).map (b :: ·)=some _:=e;cases q:M.Zi a with
  | none=>rw[q] at c;cases c
  | some h=>rw[q] at c;cases c;rw[vw q g];rfl
 | .non::_,_,_,e,_=>by cases e
 | .int _::_,_,_,e,_=>by cases e
 | .str _::_,_,_,e,_=>by cases e
 | .tup _::_,_,_,e,_=>by cases e
 | .ro _::_,_,_,e,_=>by cases e
 | .ref _::_,_,_,e,_=>by cases e
 | .ty _::_,_,_,e,_=>by cases e
theorem zAi:AdK K Θ M.Qk (YW K):=by
 intro f H S a ys p Q c r d h;cases e:M.Zi a with
 | none=>simp only[M.Qk,e] at h;exact h.elim
 | some bs =>
  simp only[M.Qk,e] at h;have:=vw e r;subst this;exact⟨p,bs,rfl,d,zE.here (b:=V.bl (bs.all id)) h c rfl⟩
theorem Va {f:List zA}{H:Hp}:∀ {a:List M.D}{ys:List V}{c:List M.T},M.y2 a=some c->zL K f H a ys->ys=(c.map ofT).map V.str/\∀ t∈c,okT t
 | [],_,_,e,r=>by cases e;cases r;exact⟨rfl,λt h=>by cases h⟩
 | .str x::a,_,_,e,r=>by
  obtain⟨y,ys,rfl,g,i⟩:=r;obtain⟨rfl,ok⟩:=g;have b:(M.y2 a).map (x :: ·)=some _:=e;cases q:M.y2 a with
  | none=>rw[q] at b;cases b
  | some l =>
   rw[q] at b;cases b;obtain⟨j,k⟩:=Va q i;refine⟨by rw[j];rfl,λt d=>?_⟩;rcases List.mem_cons.mp d with rfl | d
   ·exact ok
   ·exact k t d
 | .non::_,_,_,e,_=>by cases e
 | .int _::_,_,_,e,_=>by cases e
 | .bl _::_,_,_,e,_=>by cases e
 | .tup _::_,_,_,e,_=>by cases e
 | .ro _::_,_,_,e,_=>by cases e
 | .ref _::_,_,_,e,_=>by cases e
 | .ty _::_,_,_,e,_=>by cases e
theorem VN (x:M.T):∀ (ys:List M.T) (a:M.T),((ys.map ofT).foldl (λa p=>a++(ofT x).cps++p.cps) a.toArray)=(a++(ys.map (x ++ ·)).flatten).toArray
 | [],a=>by simp
 | y::ys,a=>by
  rw[qH,uE];have e:a.toArray++(ofT x).cps++(ofT y).cps=(a++x++y).toArray:=by simp[ofT]
  rw[e,VN x ys];simp
theorem VP (x y:M.T):∀ ys:List M.T,M.yb x (y::ys)=y++(ys.map (x ++ ·)).flatten
 | []=>by simp[M.yb]
 | z::ys=>by
  show y++x++M.yb x (z::ys)=_;rw[VP x z ys];simp
theorem Uu (x:M.T) (ys:List M.T):KA (ofT x) (ys.map ofT)=ofT (M.yb x ys):=by
 cases ys with
 | nil=>rfl
 | cons y ys =>
  show (⟨(((y::ys).map ofT).drop 1).foldl (λa p=>a++(ofT x).cps++p.cps) (((y::ys).map ofT).headD Str.empty).cps⟩:Str)=_;rw[VP,qH,List.drop_one,List.tail_cons];have:=VN x ys y;show (⟨(ys.map ofT).foldl _ y.toArray⟩:Str)=_;rw[this];rfl
theorem v9 {x:M.T} (a:okT x):∀ {ys:List M.T},(∀ t∈ys,okT t)->okT (M.yb x ys)
 | [],_=>rfl
 | [y],h=>h y (by simp)
 | y::z::ys,h=>ka (ka (h y (by simp)) a) (v9 a λt b=>h t (qD _ b))
theorem zEE (a:List M.T):((a.map ofT).map (·.length)).sum=(a.map ZX).sum:=by
 rw[xY];exact congrArg List.sum (Zv λt _=>jZ t)
theorem XX {y:M.T} (f:okT y):∀ a H S b ys p Q,zK K Θ a S H->zL K a H b ys->(SqL K H p ys\/SqT K H p ys)->zE K Θ (zI K) a H (M.qb y b S) Q->xL K (.str (ofT y)) [.ref p] H Q:=by
 intro a H S b ys p Q g r i h;cases e:M.y2 b with
 | none=>simp only[M.qb,e] at h;exact h.elim
 | some c =>
  obtain⟨rfl,ok⟩:=Va e r;by_cases d:(c.map ZX).sum+c.length * y.length <= M.SZ
  ·simp only[M.qb,e,if_pos d] at h;refine⟨ofT y,p,c.map ofT,rfl,rfl,i,?_,?_⟩
   ·rw[zEE,j5,jZ];exact d
   ·rw[Uu];exact zE.here h g ⟨rfl,v9 f ok⟩
  ·simp only[M.qb,e,if_neg d] at h;exact h.elim
theorem uK:AdM K Θ M.yg (xL K):=by
 intro e H S x xs n s Q d rx b h;cases x with
 | str y =>
  obtain⟨rfl,ok⟩:=rx
  match xs,b,h with
  | [.tup f],b,h =>
   obtain⟨_,_,rfl,⟨l,ys,rfl,g,r⟩,rfl⟩:=b;exact XX ok e H S f ys l Q d r (.inr g) h
  | [.ro f],b,h =>
   obtain⟨_,_,rfl,⟨l,ys,rfl,g,r⟩,rfl⟩:=b;exact XX ok e H S f ys l Q d r (.inl g.sq) h
  | [.ref p],b,h =>
   obtain⟨_,_,rfl,⟨a,rfl,i⟩,rfl⟩:=b;cases q:S[p]? with
   | none=>simp[M.yg,M.yr,M.z6,q] at h;exact h.elim
   | some o =>
    cases o with
    | lst xs =>
     simp only[M.yg,M.yr,M.z6,q] at h;obtain⟨j,k,r⟩:=q7 d i q;exact XX ok e H S xs j a Q d r (.inl (SqL.of k)) h
    | dct m=>simp[M.yg,M.yr,M.z6,q] at h;exact h.elim
    | fdc _=>simp[M.yg,M.yr,M.z6,q] at h;exact h.elim
    | dtt _=>simp[M.yg,M.yr,M.z6,q] at h;exact h.elim
    | ftt _=>simp[M.yg,M.yr,M.z6,q] at h;exact h.elim
    | ins c fs=>simp[M.yg,M.yr,M.z6,q] at h;exact h.elim
  | [.non],_,h=>exact h.elim
  | [.bl _],_,h=>exact h.elim
  | [.int _],_,h=>exact h.elim
  | [.str _],_,h=>exact h.elim
  | [.ty _],_,h=>exact h.elim
  | [],_,h=>exact h.elim
  | a::_::_,_,h=>cases a<;>exact h.elim
 | _=>exact h.elim
end
end L2
namespace L2
open PySem PySem.Spec PyProof.Rows
section
variable {K:PySem.W.Frag}{Θ:Tab}
theorem YE (a:M.T):∀ (n:Nat) (b:Array Nat),(zb n a.toArray).foldl (· ++ ·) b=b++((zb n a).flatten).toArray
 | 0,b=>by simp
 | n+1,b=>by
  rw[Zb,uE,YE a n,Zb,Z6];simp
theorem zBw (a:M.T) (n:Int) (f:0 <= n):km (ofT a) n=ofT (zb n.toNat a).flatten:=by
 unfold km;by_cases c:n < 1
 ·have e:n.toNat=0:=by omega
  rw[if_pos c,e];rfl
 ·rw[if_neg c];by_cases b:(n == 1 || (ofT a).length == 0)=true
  ·rw[if_pos b];rw[QY] at b;rcases b with b | b
   ·have e:n=1:=eq_of_beq b;subst e;simp
   ·have e:a.length=0:=by rw[<- jZ];exact eq_of_beq b
    have d:a=[]:=List.length_eq_zero_iff.mp e;subst d;simp[ofT]
  ·rw[if_neg b];have:=YE a n.toNat #[];show (⟨(zb n.toNat a.toArray).foldl (· ++ ·) #[]⟩:Str)=_;rw[this];simp[ofT]
theorem zFv (a:M.T) (n:Int) (d:0 <= n) (e:n <= 1000000) (b:a.length * n.toNat <= 1000000):MulOk (ofT a) n:=by
 refine⟨?_,λc _=>?_,λc _=>?_⟩
 ·rw[Bool.or_eq_false_iff];exact⟨decide_eq_false (by omega),decide_eq_false (by omega)⟩
 ·rw[jZ];have hn:1 <= n.toNat:=by omega
  have ha:a.length <= 1000000:=zx (Nat.le_mul_of_pos_right _ (by omega)) b;have hd:(1000000:Int) <= (2 ^ 63 - 1) / n:=Int.le_ediv_of_mul_le (by omega) (by omega);omega
 ·rw[jZ];unfold zGQ;exact decide_eq_false (by rw[Z0];omega)
noncomputable def VR:R2:=λx y H Q=>Vy x y H Q\/Y9 x y H Q
theorem QD {X:Cx}:OpR X (qC .Mult) VR:=OpR.or zCH w9
theorem zL.flat {a:List zA}{H:Hp}{b:List M.D}{xs:List V} (h:zL K a H b xs):∀ n:Nat,zL K a H (zb n b).flatten (zb n xs).flatten
 | 0=>rfl
 | n+1=>by
  rw[Zb,Zb,Z6,Z6];exact zL.app h (zL.flat h n)
theorem QC:Ad2 K Θ M.q9 VR:=by
 intro g H S x y X Y Q f rx ry h;cases x with
 | int i =>
  cases y with
  | int j =>
   cases rx;cases ry;have h':zE K Θ (zI K) g H (if (M.qR i || M.qR j)=true then M.R.ok (M.D.int (i * j)) S else .no) Q:=h;by_cases d:(M.qR i || M.qR j)=true
   ·rw[if_pos d] at h';refine .inl ⟨?_,zE.here (b:=V.int (i * j)) h' f rfl⟩;rw[QY] at d;rcases d with d | d
    ·exact .inl (uM d)
    ·exact .inr (uM d)
   ·rw[if_neg d] at h';exact h'.elim
  | _=>exact h.elim
 | str a =>
  cases y with
  | int n =>
   obtain⟨rfl,k⟩:=rx;cases ry;have h':zE K Θ (zI K) g H (if 0 <= n/\n.natAbs <= 1000000/\a.length * n.natAbs <= 1000000 then M.R.ok (M.D.str (zb n.toNat a).flatten) S else .no) Q:=h;by_cases d:0 <= n/\n.natAbs <= 1000000/\a.length * n.natAbs <= 1000000
   ·rw[if_pos d] at h';have hn:n.natAbs=n.toNat:=by omega
    refine .inl ⟨zFv a n d.1 (by omega) (by rw[<- hn];exact d.2.2),?_⟩;show Q (.str (km (ofT a) n)) H;rw[zBw a n d.1];refine zE.here h' f ⟨rfl,xV k λc d=>?_⟩;obtain⟨l,s,e⟩:=List.mem_flatten.mp d;rw[(List.mem_replicate.mp s).2] at e;exact e
   ·rw[if_neg d] at h';exact h'.elim
  | _=>exact h.elim
 | ref p =>
  cases y with
  | int n =>
   cases ry;have h':zE K Θ (zI K) g H (match M.z6 S p with | some xs=>if n.natAbs <= 1000/\xs.length * n.natAbs <= 1000000 then M.alloc (.lst (zb n.toNat xs).flatten) S else .no | none=>.no) Q:=h;cases q:S[p]? with
   | none=>simp only[M.z6,q] at h';exact h'.elim
   | some o =>
    cases o with
    | lst m =>
     simp only[M.z6,q] at h';obtain⟨a,rfl,t⟩:=rx;obtain⟨u,v,r⟩:=q7 f t q;by_cases d:n.natAbs <= 1000/\m.length * n.natAbs <= 1000000
     ·rw[if_pos d] at h';have hn:n.toNat <= n.natAbs:=by omega
      refine .inr ⟨a,n,u,rfl,rfl,v,by omega,by omega,?_,λp hp=>zE.alloc h' f (zL.flat r n.toNat) hp⟩;have w:=Nat.mul_le_mul_left m.length hn;rw[<- r.length,Z0];omega
     ·rw[if_neg d] at h';exact h'.elim
    | dct _=>simp only[M.z6,q] at h';exact h'.elim
    | fdc _=>simp only[M.z6,q] at h';exact h'.elim
    | dtt _=>simp only[M.z6,q] at h';exact h'.elim
    | ftt _=>simp only[M.z6,q] at h';exact h'.elim
    | ins _ _=>simp only[M.z6,q] at h';exact h'.elim
  | _=>exact h.elim
 | _=>exact h.elim
noncomputable def ui (K:PySem.W.Frag):R2:=λx y H Q=>uIx K x y H Q\/∃ a v,x=.ref a/\ya H a y (some v)/\Q v H
theorem jw {X:Cx}{k:Nat} (f:za k X.A):IxR X (ui X.K):=by
 refine IxR.or Uj ?_;intro b c e s σ H x y v u Q I rx ry h i;obtain⟨a,j,rfl,g,q⟩:=h;cases rx;exact tail_any (zAT I g) PySem.F.slot_dict_getitem.lookup (zEK (Kx f) I g ry λm n l d=>⟨j,H,l,d,q⟩) i
noncomputable def YC (K:PySem.W.Frag):List V->Hp->VK->Prop:=λxs H Q=>YR K xs H Q\/∃ a b,xs=[V.ref a]/\H a=some (.dK b)/\Q (.int b.length) H
theorem qh {X:Cx}:jo X (.builtin "len") (YC X.K):=jo.or zB8 zGC
theorem jz:Ad2 K Θ M.zu (ui K):=by
 intro A H S x y X Y Q g rx ry h;cases x with
 | str a =>
  cases y with
  | int i =>
   obtain⟨rfl,B⟩:=rx;cases ry;have h':zE K Θ (zI K) A H (if a.length <= M.SZ then (match M.atI a i with | some c=>M.R.ok (M.D.str [c]) S | none=>.no) else .no) Q:=h;by_cases C:a.length <= M.SZ
   ·rw[if_pos C] at h';cases q:M.atI a i with
    | none=>rw[q] at h';exact h'.elim
    | some c =>
     rw[q] at h';refine .inl ⟨c,by rw[jZ,<- qv];exact C,?_,zE.here (b:=V.str (ofT [c])) h' g ⟨rfl,xV B λd hd=>by
      have e:d=c:=by simpa using hd
      rw[e];unfold M.atI at q;cases I:M.ixN a.length i with
      | none=>rw[I] at q;cases q
      | some j=>rw[I] at q;exact ZG q⟩⟩
     rw[yw];exact q
   ·rw[if_neg C] at h';exact h'.elim
  | _=>exact h.elim
 | tup u =>
  cases y with
  | int i =>
   obtain⟨l,xs,rfl,E,r⟩:=rx;cases ry;have h':zE K Θ (zI K) A H (match M.atI u i with | some d=>M.R.ok d S | none=>.no) Q:=h;cases q:M.atI u i with
   | none=>rw[q] at h';exact h'.elim
   | some d =>
    rw[q] at h';obtain⟨v,m,n⟩:=vY r q;exact .inl ⟨xs,v,.inr E,m,zE.here h' g n⟩
  | _=>exact h.elim
 | ro u =>
  cases y with
  | int i =>
   obtain⟨l,xs,rfl,E,r⟩:=rx;cases ry;have h':zE K Θ (zI K) A H (match M.atI u i with | some d=>M.R.ok d S | none=>.no) Q:=h;cases q:M.atI u i with
   | none=>rw[q] at h';exact h'.elim
   | some d =>
    rw[q] at h';obtain⟨v,m,n⟩:=vY r q;exact .inl ⟨xs,v,.inl E.sq,m,zE.here h' g n⟩
  | _=>exact h.elim
 | ref p =>
  obtain⟨a,rfl,F⟩:=rx;cases q:S[p]? with
  | none=>simp[M.zu,q] at h;exact h.elim
  | some o =>
   cases o with
   | lst xs =>
    cases y with
    | int i =>
     cases ry;obtain⟨J,m,r⟩:=q7 g F q;cases f:M.atI xs i with
     | none=>simp[M.zu,q,f] at h;exact h.elim
     | some d =>
      simp[M.zu,q,f] at h;obtain⟨v,w,n⟩:=vY r f;exact .inl ⟨J,v,.inl (SqL.of m),w,zE.here h g n⟩
    | _=>simp[M.zu,q] at h;exact h.elim
   | dct t =>
    by_cases s:M.ZE y=true
    case neg=>simp[M.zu,q,s] at h;exact h.elim
    obtain⟨ks,m,r⟩:=xt g F q;obtain⟨k,G,rfl⟩:=Xd s ry;have z:=r.val G;cases f:M.qG y t with
    | none=>simp[M.zu,q,s,f] at h;exact h.elim
    | some d =>
     simp[M.zu,q,s,f] at h;rw[f] at z;obtain⟨v,w,n⟩:=z;refine .inr ⟨a,v,rfl,?_,zE.here h g n⟩;rw[<- w];exact ya.k m
   | dtt _=>simp[M.zu,q] at h;exact h.elim
   | ftt _=>simp[M.zu,q] at h;exact h.elim
   | fdc t =>
    by_cases s:M.ZE y=true
    case neg=>simp[M.zu,q,s] at h;exact h.elim
    obtain⟨L,ks,m,r⟩:=YG g F q;obtain⟨k,G,rfl⟩:=Xd s ry;have z:=r.val G;cases f:M.qG y t with
    | none=>simp[M.zu,q,s,f] at h;exact h.elim
    | some d =>
     simp[M.zu,q,s,f] at h;rw[f] at z;obtain⟨v,w,n⟩:=z;refine .inr ⟨a,v,rfl,?_,zE.here h g n⟩;rw[<- w];exact (.inl ⟨ks,k,.inr ⟨L,m⟩,rfl,rfl⟩)
   | ins c fs=>simp[M.zu,q] at h;exact h.elim
 | _=>exact h.elim
theorem ql:AdN K Θ M.jg (YC K):=by
 intro m H S xs s Q d rx h
 match xs,rx,h with
 | [.str a],rx,h =>
  obtain⟨_,_,rfl,⟨rfl,_⟩,rfl⟩:=rx;have h':zE K Θ (zI K) m H (if a.length <= M.SZ then M.R.ok (M.D.int a.length) S else .no) Q:=h;by_cases e:a.length <= M.SZ
  ·rw[if_pos e] at h';refine .inl ⟨by rw[jZ,<- qv];exact e,?_⟩;rw[jZ];exact zE.here (b:=V.int a.length) h' d rfl
  ·rw[if_neg e] at h';exact h'.elim
 | [.tup f],rx,h =>
  obtain⟨_,_,rfl,⟨l,ys,rfl,g,r⟩,rfl⟩:=rx;exact .inl ⟨ys,.inr g,by rw[<- r.length];exact zE.here (b:=V.int f.length) h d rfl⟩
 | [.ro f],rx,h =>
  obtain⟨_,_,rfl,⟨l,ys,rfl,g,r⟩,rfl⟩:=rx;exact .inl ⟨ys,.inl g.sq,by rw[<- r.length];exact zE.here (b:=V.int f.length) h d rfl⟩
 | [.ref p],rx,h =>
  obtain⟨_,_,rfl,⟨a,rfl,k⟩,rfl⟩:=rx;cases q:S[p]? with
  | none=>simp[M.jg,q] at h;exact h.elim
  | some o =>
   cases o with
   | lst xs =>
    simp[M.jg,q] at h;obtain⟨n,i,r⟩:=q7 d k q;exact .inl ⟨n,.inl (SqL.of i),by rw[<- r.length];exact zE.here (b:=V.int xs.length) h d rfl⟩
   | dct j =>
    simp[M.jg,q] at h;obtain⟨ks,i,r⟩:=xt d k q;exact .inr ⟨a,ks,rfl,i,by rw[<- Paired.length r];exact zE.here (b:=V.int j.length) h d rfl⟩
   | fdc _=>simp[M.jg,q] at h;exact h.elim
   | dtt _=>simp[M.jg,q] at h;exact h.elim
   | ftt _=>simp[M.jg,q] at h;exact h.elim
   | ins c fs=>simp[M.jg,q] at h;exact h.elim
 | [.non],_,h=>exact h.elim
 | [.bl _],_,h=>exact h.elim
 | [.int _],_,h=>exact h.elim
 | [.ty _],_,h=>exact h.elim
 | [],_,h=>exact h.elim
 | a::_::_,_,h=>cases a<;>exact h.elim
noncomputable def Jr (K:PySem.W.Frag) (neg:Bool):R2:=λx y H Q=>uIn K neg x y H Q\/∃ a o,y=.ref a/\ya H a x o/\Q (.bl (xor neg o.isSome)) H
theorem vU {X:Cx}{k:Nat} (c:za k X.A):OpR X (zm .In) (Jr X.K false):=by
 refine OpR.or zAo ?_;intro b s σ H x y v u Q I rx ry h;obtain⟨a,o,rfl,g,q⟩:=h;cases ry;exact zE3 (Kx c) I g rx λs' d=>⟨.bl o.isSome,H,d,rfl,by rw[Ko] at q;exact q⟩
theorem YD {X:Cx}{k:Nat} (c:za k X.A):OpR X (zm .NotIn) (Jr X.K true):=by
 refine OpR.or wf ?_;intro b s σ H x y v u Q I rx ry h;obtain⟨a,o,rfl,g,q⟩:=h;cases ry;exact zEO (Kx c) I g rx λs' d=>⟨.bl (!o.isSome),H,d,rfl,by rw[vZ] at q;exact q⟩
theorem uB {a:List zA}{H:Hp}{d:M.D}{v:V} (r:zI K a H d v):j2 v=M.flat d:=by
 cases d with
 | non=>cases r;rfl
 | bl _=>cases r;rfl
 | int _=>cases r;rfl
 | str _=>obtain⟨rfl,_⟩:=r;rfl
 | ty _=>cases r;rfl
 | ref _=>obtain⟨_,rfl,_⟩:=r;rfl
 | tup _=>obtain⟨_,_,rfl,_⟩:=r;rfl
 | ro _=>obtain⟨_,_,rfl,_⟩:=r;rfl
theorem zBF {a:List zA}{H:Hp}{d e:M.D}{v u:V} (r:zI K a H d v) (q:zI K a H e u):eqV v u=M.eqF d e:=by
 cases d with
 | non =>
  cases r;cases e with
  | str _=>obtain⟨rfl,_⟩:=q;rfl
  | ref _=>obtain⟨_,rfl,_⟩:=q;rfl
  | tup _=>obtain⟨_,_,rfl,_⟩:=q;rfl
  | ro _=>obtain⟨_,_,rfl,_⟩:=q;rfl
  | _=>cases q;rfl
 | bl _ =>
  cases r;cases e with
  | str _=>obtain⟨rfl,_⟩:=q;rfl
  | ref _=>obtain⟨_,rfl,_⟩:=q;rfl
  | tup _=>obtain⟨_,_,rfl,_⟩:=q;rfl
  | ro _=>obtain⟨_,_,rfl,_⟩:=q;rfl
  | _=>cases q;rfl
 | int _ =>
  cases r;cases e with
  | str _=>obtain⟨rfl,_⟩:=q;rfl
  | ref _=>obtain⟨_,rfl,_⟩:=q;rfl
  | tup _=>obtain⟨_,_,rfl,_⟩:=q;rfl
  | ro _=>obtain⟨_,_,rfl,_⟩:=q;rfl
  | _=>cases q;rfl
 | str x =>
  obtain⟨rfl,_⟩:=r;cases e with
  | str y=>obtain⟨rfl,_⟩:=q;exact Yg x y
  | ref _=>obtain⟨_,rfl,_⟩:=q;rfl
  | tup _=>obtain⟨_,_,rfl,_⟩:=q;rfl
  | ro _=>obtain⟨_,_,rfl,_⟩:=q;rfl
  | _=>cases q;rfl
 | ty _=>cases r;rfl
 | ref _=>obtain⟨_,rfl,_⟩:=r;rfl
 | tup _=>obtain⟨_,_,rfl,_⟩:=r;rfl
 | ro _=>obtain⟨_,_,rfl,_⟩:=r;rfl
theorem YZ {b:List zA}{H:Hp}:∀ {a:List M.D}{xs:List V},zL K b H a xs->xs.all j2=a.all M.flat
 | [],_,r=>by cases r;rfl
 | _::_,_,⟨y,ys,e,c,d⟩=>by subst e;rw[Ze,Ze,uB c,YZ d]
theorem Vz {a:List zA}{H:Hp}{x:M.D}{v:V} (rx:zI K a H x v):∀ {b:List M.D}{xs:List V},zL K a H b xs->inV v xs=M.yK x b
 | [],_,r=>by cases r;rfl
 | _::_,_,⟨y,ys,e,c,d⟩=>by
  subst e;unfold inV M.yK;rw[kc,kc,zBF c rx];have:=Vz rx d;unfold inV M.yK at this;rw[this]
theorem KD (a:M.T):∀ b:M.T,M.qZ a b=true ↔ ∃ i,i+a.length <= b.length/\(b.drop i).take a.length=a
 | []=>by
  simp only[M.qZ,List.isEmpty_iff];constructor
  ·rintro rfl;exact⟨0,by simp,by simp⟩
  ·rintro ⟨i,h,e⟩
   simp at h;exact h.2
 | c::r=>by
  simp only[M.qZ,QY,KD a r];constructor
  ·rintro (h | ⟨i,h,e⟩)
   ·have:=List.isPrefixOf_iff_prefix.mp h;exact⟨0,by simpa using this.length_le,by simpa using (List.prefix_iff_eq_take.mp this).symm⟩
   ·exact⟨i+1,by simp;omega,by simpa using e⟩
  ·rintro ⟨i,h,e⟩
   cases i with
   | zero=>left;exact List.isPrefixOf_iff_prefix.mpr (List.prefix_iff_eq_take.mpr (by simpa using e.symm))
   | succ i=>right;exact⟨i,by simp at h;omega,by simpa using e⟩
theorem uC (a b:M.T) (i:Nat):wy (ofT b) (ofT a) (ofT b).length i↔(i+a.length <= b.length/\(b.drop i).take a.length=a):=by
 unfold wy zGh;rw[jZ,jZ];refine and_congr_right λ_=>?_;rw[beq_iff_eq];constructor
 ·intro h;have:=congrArg YF h;simpa [ofT,zC3] using this
 ·intro h;apply Array.ext';simpa [ofT,zC3] using h
theorem Wp (a b:M.T):(!(Q9 (ofT b) (ofT a) 0 (ofT b).length 1).isEmpty)=M.qZ a b:=by
 rcases StrLaws.occ_head (ofT b) (ofT a) 1 (by decide) with ⟨e,h⟩ | ⟨i,r,e,h,_⟩
 ·rw[e];have:¬ M.qZ a b=true:=λq=>by
   obtain⟨i,q⟩:=(KD a b).mp q;exact h i ((uC a b i).mpr q)
  simpa using this
 ·rw[e];have:=(KD a b).mpr ⟨i,(uC a b i).mp h⟩;simp[this]
theorem vz {neg:Bool}{s:List zA}{H:Hp}{S:M.S}{x y:M.D}{t Y:V}{Q:VK} (j:zK K Θ s S H) (rx:zI K s H x t) (ry:zI K s H y Y) (h:zE K Θ rB s H (M.inD x y S) (λb B=>Q (.bl (xor neg b)) B)):Jr K neg t Y H Q:=by
 have seq:∀ {f:List M.D}{xs:List V}{a:zA},(SqL K H a xs\/SqT K H a xs)->zL K s H f xs->zE K Θ rB s H (if (M.flat x && f.all M.flat)=true then M.R.ok (M.yK x f) S else .no) (λb B=>Q (.bl (xor neg b)) B)->uIn K neg t (.ref a) H Q:=λ{f xs a} u r h'=>by
  by_cases w:(M.flat x && f.all M.flat)=true
  ·rw[if_pos w] at h';rw[jG,<- uB rx,<- YZ r] at w;have:=zE.here (b:=M.yK x f) h' j rfl;rw[<- Vz rx r] at this;have g:∃ xs,(SqL K H a xs\/SqT K H a xs)/\j2 t=true/\xs.all j2=true/\Q (.bl (xor neg (inV t xs))) H:=⟨xs,u,w.1,w.2,this⟩
   cases t<;>exact g
  ·rw[if_neg w] at h';exact h'.elim
 cases y with
 | str b =>
  cases x with
  | str a =>
   obtain⟨rfl,_⟩:=rx;obtain⟨rfl,_⟩:=ry;refine .inl ?_;show Q (.bl (xor neg (!(Q9 (ofT b) (ofT a) 0 (ofT b).length 1).isEmpty))) H;rw[Wp];exact zE.here (b:=M.qZ a b) h j rfl
  | _=>exact h.elim
 | tup f =>
  obtain⟨l,xs,rfl,u,r⟩:=ry;exact .inl (seq (.inr u) r h)
 | ro f =>
  obtain⟨l,xs,rfl,u,r⟩:=ry;exact .inl (seq (.inl u.sq) r h)
 | ref p =>
  obtain⟨a,rfl,C⟩:=ry;cases q:S[p]? with
  | none=>simp[M.inD,q] at h;exact h.elim
  | some o =>
   cases o with
   | lst f =>
    obtain⟨G,z,r⟩:=q7 j C q;refine .inl (seq (.inl (SqL.of z)) r ?_);simp only[M.inD,q] at h;exact h
   | dct e =>
    by_cases m:M.ZE x=true
    case neg=>simp[M.inD,q,m] at h;exact h.elim
    simp only[M.inD,q,if_pos m] at h;obtain⟨ks,z,r⟩:=xt j C q;obtain⟨k,E,rfl⟩:=Xd m rx;have i:=r.val E;refine .inr ⟨a,j4 ks k,rfl,ya.k z,?_⟩;have n:(j4 ks k).isSome=(M.qG x e).isSome:=by
     cases A:M.qG x e with
     | none=>rw[A] at i;rw[i];rfl
     | some d=>rw[A] at i;obtain⟨v,n,_⟩:=i;rw[n];rfl
    rw[n];exact zE.here (b:=(M.qG x e).isSome) h j rfl
   | dtt _=>simp[M.inD,q] at h;exact h.elim
   | ftt _=>simp[M.inD,q] at h;exact h.elim
   | fdc e =>
    by_cases m:M.ZE x=true
    case neg=>simp[M.inD,q,m] at h;exact h.elim
    simp only[M.inD,q,if_pos m] at h;obtain⟨F,ks,z,r⟩:=YG j C q;obtain⟨k,E,rfl⟩:=Xd m rx;have i:=r.val E;refine .inr ⟨a,j4 ks k,rfl,(.inl ⟨ks,k,.inr ⟨F,z⟩,rfl,rfl⟩),?_⟩;have n:(j4 ks k).isSome=(M.qG x e).isSome:=by
     cases A:M.qG x e with
     | none=>rw[A] at i;rw[i];rfl
     | some d=>rw[A] at i;obtain⟨v,n,_⟩:=i;rw[n];rfl
    rw[n];exact zE.here (b:=(M.qG x e).isSome) h j rfl
   | ins c fs=>simp[M.inD,q] at h;exact h.elim
 | _=>exact h.elim
theorem Kv:AdC K Θ M.cIn (Jr K false):=by
 intro d H S x y j Y Q f rx ry h;refine vz f rx ry ?_;have h':zE K Θ rB d H (M.inD x y S) (λb g=>Q (.bl b) g):=h;revert h';cases M.inD x y S with
 | ok b s=>exact λh' a i k p l c e=>by cases e;rw[Ko];exact h' a i b p l c rfl
 | exc e s=>exact λh'=>h'
 | no=>exact λh'=>h'
theorem VE:AdC K Θ M.xN (Jr K true):=by
 intro g H S x y i Y Q c rx ry h;exact vz c rx ry (zE.bind h λd j b k l m l1 a e f=>by cases e;rw[vZ];exact zE.here (b:=!b) f a rfl)
theorem zF6 {X:Cx}{e:zF}{m:M.TM} (h:MW X Θ e m):MT X Θ e m:=PW.pt h
theorem w_mt_ofw {X:Cx}{e:zF}{m:M.TM} (h:WW X Θ e m):WT X Θ e m:=by with_unfolding_all exact zF6 (X:=X) (e:=e) (m:=m) h
theorem Xc {X:Cx}:qf X [] (RdT X.K Θ M.qL):=λa s σ H Q I ⟨e,c,S,st,d,h⟩=>UH a s σ H Q I (zE.here (b:=true) h d rfl)
theorem WF {X:Cx}{c:zF}{t:M.TM} (h:WT X Θ c t):qf X [c] (RdT X.K Θ t):=W6 (by with_unfolding_all exact h)
theorem zFb {g1 g2:M.GM}:∀ f σ d,(M.jn g1 (M.jn g2 M.q8)) f σ=some d->f.length=2:=λf σ d e=>by
 match f,e with
 | [],e=>cases e
 | [a],e =>
  simp[M.jn] at e;split at e<;>cases e
 | [a,b],_=>rfl
 | a::b::c::r,e =>
  simp[M.jn,M.q8] at e;split at e
  ·split at e<;>cases e
  ·cases e
theorem V2 {a:List zA}{H:Hp}:∀ ns:List Int,zL K a H (ns.map .int) (ns.map V.int)
 | []=>rfl
 | n::ns=>⟨_,_,rfl,rfl,V2 ns⟩
theorem zFP {f:M.F} (c:∀ ns:List Int,ns.length <= 63->∃ s,f [.ro (ns.map .int)] []=.ok (.bl true) s) {H:Hp}{a:zA}{ns:List Int}{E:XK} (d:ns.length <= 63) (g:xo H) (j:SqL K H a (ns.map V.int)):SpM K Θ 1 f [.ref a] H (λv _=>v=.bl true) E:=by
 obtain⟨s,e⟩:=c ns d;refine⟨[],[.ro (ns.map .int)],[],rfl,⟨_,_,rfl,⟨a,ns.map V.int,rfl,?_,V2 ns⟩,rfl⟩,⟨rfl,zAS,λi o q=>by simp at q⟩,?_⟩
 ·rcases j with (h | h) | h
  ·rcases g a with z | ⟨o,xs,z⟩
   ·rw[h] at z;cases z
   ·rw[h] at z;cases z
  ·exact .inl h
  ·exact .inr h
 ·rw[e];exact λk l b _ _ _ r=>r
end
section
variable {P:zW}{w:zR}{K:PySem.W.Frag}{mg:Str->Option zB}{base:zJ}{Θ:Tab}
theorem zAz {x qual:Str}{st:zT}{f:zA}{fd:jU}{N ps:List Str}{k:Nat}{b:M.SM} (F:Fun K x qual st f fd) (n:jF N ps (zP st))
  (d:∀ (c:zB) (A:zZ) (outer:List Env) (s:zD) (H:Hp) (E:XK),za k (A.deeper (qF qual (zP st) s.heap.objs.size f c)) ->
   MSs (jx CX0 P w K mg base N qual (zP st) f c A outer s H E).nox Θ (z4 st) b):zj P w K mg base CX0 (k+1) f fd ps (SpM K Θ ps.length (M.fn N.length b)):=by
 refine F.ok (k:=k) n (λo H Q E h=>?_) (λc A outer s H o Q E p h=>?_)
 ·obtain⟨i,g,S,m,r,_⟩:=h;rw[<- r.length,m]
 ·obtain⟨i,g,S,m,r,q,h⟩:=h;refine⟨_,d c A outer s H E p,i,_,S,va r N,q,?_⟩;have h':zE K Θ (zI K) i H (b (g.map some++zb (N.length - g.length) none) S).out Q:=h;show zh K Θ i H (b (g.map some++zb (N.length - g.length) none) S) _;revert h';cases b (g.map some++zb (N.length - g.length) none) S with
  | rt a s=>exact λh'=>h'
  | nx a s=>exact λh' j t u v l1 l _=>h' j t .non v l1 l rfl
  | bk a s=>exact λh'=>h'.elim
  | ct a s=>exact λh'=>h'.elim
  | exc e a s=>exact λh'=>h'
  | no=>exact λh'=>h'
theorem w_fun_M0 {x qual:Str}{st:zT}{f:zA}{fd:jU}{N ps:List Str}{k:Nat}{b:M.SM} (F:Fun K x qual st f fd) (d:jF N ps (zP st))
  (a:∀ (c:zB) (A:zZ) (outer:List Env) (s:zD) (H:Hp) (E:XK),za k (A.deeper (qF qual (zP st) s.heap.objs.size f c)) ->
   WSs (jx CX0 P w K mg base N qual (zP st) f c A outer s H E).nox Θ (z4 st) b):zj P w K mg base CX0 (k+1) f fd ps (SpM K Θ ps.length (M.fn N.length b)):=by with_unfolding_all exact zAz (x:=x) (qual:=qual) (st:=st) (f:=f) (fd:=fd) (N:=N) (ps:=ps) (k:=k) (b:=b) F d a
end
end L2
namespace L2
open PySem PySem.Spec PyProof.Rows PySem.Builtin.Str
section
variable {K:PySem.W.Frag}{Θ:Tab}
theorem V8 {c:List zA}{H:Hp}{S:M.S}{p:Nat}{X:V}{d:List M.D} (g:zK K Θ c S H) (rx:zI K c H (.ref p) X) (e:S[p]? = some (.lst d)):∃ a xs,X=.ref a/\c[p]? = some a/\H a=some (.lst xs)/\zL K c H d xs:=by
 obtain⟨a,rfl,ha⟩:=rx;obtain⟨b,f,xs,h,r⟩:=g.obj p _ e;rw[ha] at f;cases f;exact⟨a,xs,rfl,ha,h,r⟩
theorem XF {H:Hp}{a:zA}{xs:List V} (h:H a=some (.lst xs)):Mut (H a):=by rw[h];trivial
theorem zDI:AdM K Θ M.kL YA:=by
 intro i H S x xs X k Q d rx b h;unfold M.kL at h;split at h
 ·rename_i p y;obtain⟨Y,r,rfl,ry,rfl⟩:=b;split at h
  ·rename_i l e;obtain⟨a,f,rfl,ha,c,g⟩:=V8 d rx e;split at h
   ·rename_i j;have le:=Le.put (XF c) (.lst (f++[Y]));refine⟨a,f,Y,rfl,rfl,c,by rw[<- qv,<- g.length];exact j,?_⟩;exact h i _ _ (jN _) le (d.put ha (XF c) ⟨_,jr,(g.mono (jN _) le).app ⟨_,_,rfl,ry.mono (jN _) le,rfl⟩⟩) rfl
   ·exact h.elim
  ·exact h.elim
 ·exact h.elim
theorem zBm:AdM K Θ M.XN vr:=by
 intro f H S x xs X i Q d rx b h;unfold M.XN at h;split at h
 ·rename_i p;cases b;split at h
  ·rename_i j e;obtain⟨a,g,rfl,ha,c,k⟩:=V8 d rx e;have le:=Le.put (XF c) (.lst []);exact⟨a,g,rfl,rfl,c,h f _ _ (jN _) le (d.put ha (XF c) ⟨_,jr,rfl⟩) rfl⟩
  ·exact h.elim
 ·exact h.elim
end
end L2
namespace L2
open PySem PySem.Spec PyProof.Rows
noncomputable def Ite (K:PySem.W.Frag) (a:zA):It :=
 ⟨λi H=>∃ xs x,SqL K H a xs/\xs[i]? = some x,λi H v b=>∃ p x,H p=none/\v=.ref p/\b=upd H p (.tup [.int (i:Int),x])/\∀ xs,SqL K H a xs->xs[i]? = some x,λi H=>∃ xs,SqL K H a xs/\xs.length <= i⟩
theorem Inv.turned2 {X:Cx}{a:List (zA×Obj)}{σ:St}{H:Hp}{s:zD}{h':zJ}{t':Nat}{e it T:zA}{o:HO} (I:Inv X a σ H s) (h:yA X a H e) (fi:yA X a H it) (j:s.heap.objs.size <= T)
  (k:∀ b q,b≠e->b≠it->s.heap.get? b=some q->h'.get? b=some q) (new:jW X.prog X.w (upd H T o) h' T o) (l:0 < t'):Inv X a σ (upd H T o) { s with heap:=h',toks:=t' }:=by
 have hn:H T=none:=I.hok.fresh j;have p:∀ {b:zA}{q:Obj},s.heap.get? b=some q->b≠T:=λe=>z5 (zv (ze e) j);have f:∀ {b:zA}{u:HO},H b=some u->b≠e/\b≠it:=λq=>⟨(λz=>by rw[z,h.1] at q;cases q),(λz=>by rw[z,fi.1] at q;cases q)⟩
 refine I.step (g':=s.gens) (d':=s.drawn) (ch:=[e,it]) (λb i=>?_) (λb q _ _ d g _=>k b q (λz=>d (by simp[z])) (λz=>d (by simp[z])) g) (λb q _ _ d g _=>⟨q.slots,k b q (λz=>d (by simp[z])) (λz=>d (by simp[z])) g⟩)
  (λb q _ g n=>by rw[zc (p g)];exact n) (λb q d g=>⟨q,k b q (λz=>d (by simp[z])) (λz=>d (by simp[z])) g⟩)
  (λb xs g=>by rw[zc (qw g hn)];exact g) (λb q u g=>by rw[zc (qw g hn)];exact g) (λb ps g=>⟨#[],by rw[zc (qw g hn),g];simp⟩) (λm t=>?_) (λb u g=>?_) I.bare l
 ·rcases List.mem_cons.mp i with rfl | i
  ·exact⟨h.2.2.2.1,h.2.1,h.2.2.2.2.1,h.2.2.2.2.2⟩
  ·have z:b=it:=by simpa using i
   subst z;exact⟨fi.2.2.2.1,fi.2.1,fi.2.2.2.2.1,fi.2.2.2.2.2⟩
 ·obtain⟨q,es,x,y,r⟩:=t;exact⟨q,es,x,k _ q (qM h.2.1) (qM fi.2.1) y,r⟩
 ·by_cases i:b=T
  ·subst i;rw[jr] at g;cases g;exact new
  ·rw[zc i] at g;refine (I.hok b u g).stay (λc v d q=>?_) (λc q=>by rw[zc (qw q hn)];exact q) λc xs q=>by rw[zc (qw q hn)];exact q
   rcases d with z | z
   ·rw[z] at q ⊢;exact k _ _ (f g).1 (f g).2 q
   ·exact k _ _ (f z).1 (f z).2 q
theorem zDL {P:zW}{w:zR}{K:PySem.W.Frag}{elts:List zF}{kt:_}{tp:Pos} (a e it:zA) (m:e≠it):ZZ P w K (.Tuple elts kt tp) (Ite K a) [e,it] e (λi h=>(∃ old,IsEnum h e it (i:Int) old)/\h.IsListIter it a i) where
 mem:=by simp
 obj:=λi h ⟨⟨old,j⟩,hi⟩ b l=>by
  rcases List.mem_cons.mp l with rfl | l
  ·exact⟨_,j,λv z=>by
    have N:zDv _=zFp v:=z;cases N⟩
  ·have z:b=it:=by simpa using l
   subst z;obtain⟨o,g,c,d⟩:=hi;exact⟨o,g,λv z=>by rw[d] at z;cases z⟩
 keep:=λi h h' ⟨⟨old,j⟩,hi⟩ k=>⟨⟨old,k e (by simp) _ j⟩,hi.at λo g=>k it (by simp) o g⟩
 item:=by
  intro X A hw B J i n s σ H E I r ⟨⟨old,j⟩,hi⟩ C;subst A hw B;obtain⟨xs,x,y,D⟩:=C;obtain⟨its,F,p,O⟩:=I.list y;obtain⟨u,Q,R⟩:=F.get D;have S:=r e (by simp);have fi:=r it (by simp);refine wpAny_pyNext_enum_item j hi p.isList (x:=u) (by simpa using Q) m λh' T G U hsz V=>?_;refine⟨_,rfl,wpAny_letOwnedTupleGo_enum T λY t f=>?_⟩;have L:s.heap.objs.size≠e:=ZV (ze j);have Z:s.heap.objs.size≠it:=by obtain⟨o,g,_⟩:=hi;exact ZV (ze g)
  refine⟨.ref s.heap.objs.size,upd H s.heap.objs.size (.tup [.int (i:Int),x]),?_,rfl,⟨s.heap.objs.size,x,I.hok.fresh (zl _),rfl,rfl,λys hy=>by rw[I.list_inj hy y];exact D⟩,⟨⟨u,by simpa using t⟩,G.at λo g=>(f.2 it (qM m)).trans g⟩,λb l=>?_⟩
  ·refine I.turned2 S fi (zl _) (λb q M h2 g=>(f.2 b M).trans (V b q M h2 g)) ?_ (qQ _);exact⟨by show 2 <= zV;decide,[.int (i:Int) s.toks,u],.cons ⟨_,rfl⟩ (.cons R .nil),_,(f.2 _ L).trans U,rfl,_,rfl⟩
  ·rw[zc]
   ·exact (r b l).1
   ·rcases List.mem_cons.mp l with rfl | l
    ·exact qM L
    ·have z:b=it:=by simpa using l
     subst z;exact qM Z
 done:=by
  intro X A hw B J i n s σ H E I r ⟨⟨old,j⟩,hi⟩ C;subst A hw B;obtain⟨xs,y,D⟩:=C;obtain⟨its,F,p,O⟩:=I.list y;obtain⟨f0,f1,f2,f3,f4,f5⟩:=r it (by simp);have hl:=F.length;exact wpAny_pyNext_enum_end (I.ok.hd J) j hi p.isList (by simp;omega) λh' eb=>⟨rfl,I.turned (t':=s.toks) (λb o l g=>eb b o l g) f0 f1 f3 f4 f5⟩
 self:=λ_ _ _ _ _ ⟨⟨_,j⟩,_⟩ h=>wpAny_pyIter_enum j h
noncomputable def zBs (K:PySem.W.Frag) (c:TA):TI:=λσ H R=>c σ H λd b=>∃ a xs,d=[.ref a]/\SqL K b a xs/\R (Ite K a) b
theorem zC0 {X:Cx}{a:zF}{g:TA}{p pos:Pos}{elts:List zF}{kt:_}{tp:Pos} (j:Gl X "enumerate") (k:X.mg "enumerate" = none) (ha:PA X [a] g) (l:zn [a] X.env=[(false,eval a X.env)]:=by rfl):PI X (.Tuple elts kt tp) (.Call (.Name "enumerate" p) [a] [] pos) (zBs X.K g):=by
 intro d s σ H R I h;refine Call_ (Je I j k (show jk "enumerate" = some (.type "enumerate") by kernel_rfl) (uh (thn (ha pos d s σ H _ I h) λus s1 ⟨y,m,c,n,o⟩=>?_) l rfl));obtain⟨r,xs,e,t,q⟩:=o;subst e;obtain⟨u,rfl,v⟩:=ZJ n;cases v;obtain⟨its,A,w,B⟩:=c.list t;refine call_enumerate_list w.isList λh' i hi hsz x=>?_;refine wpAny_pyIter_enum i ⟨s1.heap.objs.size+1,[s1.heap.objs.size+1,s1.heap.objs.size],_,_,m,rfl,c.kept (t':=s1.toks) x,zDL r _ _ (Nat.succ_ne_self _),⟨⟨_,i⟩,hi⟩,λb f=>?_,q⟩;rcases List.mem_cons.mp f with rfl | f
 ·exact c.fpOk (Jw _) (c.hok.fresh (Jw _))
 ·have z:b=s1.heap.objs.size:=by simpa using f
  subst z;exact c.fpOk (zl _) (c.hok.fresh (zl _))
section
variable {Θ:Tab}
theorem kD:∀ (k:Int) (a:List M.D),(M.qE k a).length=a.length
 | _,[]=>rfl
 | k,d::a=>by rw[M.qE,yN,yN,kD]
theorem uJ:∀ (k:Int) (a:List M.D) (i:Nat),(M.qE k a)[i]? = a[i]?.map λd=>.tup [.int (k+i),d]
 | _,[],_=>rfl
 | k,d::a,0=>by simp[M.qE]
 | k,d::a,i+1=>by
  rw[M.qE,zDh,uJ (k+1) a i,zDh];rw[show k+1+(i:Int)=k+((i+1:Nat):Int) by omega]
theorem Y5 {K:PySem.W.Frag}{t:List zA}{H:Hp}{a:zA}{n:List M.D}{g:M.Gd} (f:∀ {b:List zA}{o:M.S}{h:Hp},t <+: b->Le H h->zK K Θ b o h->M.zU g o=true->∃ c,SqL K h a c/\zL K b h n c):ItR K Θ t H (Ite K a) (M.qE 0 n) g:=by
 refine⟨λj b o h p l k g m=>?_,λj b o h v A p l k g m y=>?_,λb o h p l k g=>?_⟩
 ·rw[kD] at m;obtain⟨c,e,r⟩:=f p l k g;obtain⟨v,s,_⟩:=r.get (i:=j) (d:=n[j]) (by simp[m]);exact⟨c,v,e,s⟩
 ·rw[kD] at m;obtain⟨c,e,r⟩:=f p l k g;obtain⟨B,s,w⟩:=r.get (i:=j) (d:=n[j]) (by simp[m]);obtain⟨q,x,hn,rfl,rfl,z⟩:=y;have u:=z c e;rw[s] at u;cases u;refine⟨.tup [.int (j:Int),n[j]],by rw[uJ];simp[m],?_,Le.new hn _,k.aside hn _⟩;exact⟨q,_,rfl,SqT.of jr,_,_,rfl,rfl,_,_,rfl,w.mono (jN _) (Le.new hn _),rfl⟩
 ·obtain⟨c,e,r⟩:=f p l k g;exact⟨c,e,by rw[kD,r.length];exact zl _⟩
theorem zE8 {X:Cx}{e:zF}{m:M.EM}{p pos tp:Pos}{elts:List zF}{kt:_} (y:Gl X "enumerate") (n:X.mg "enumerate" = none) (N:ME X Θ e m) (B:zy e=true:=by rfl):MI X Θ (.Tuple elts kt tp) (.Call (.Name "enumerate" p) [e] [] pos) (M.kz 0 m) :=
 (zC0 y n (vH N vQ B) (qO B)).imp λσ H R ⟨t,f,S,st,P,h⟩=>⟨t,f,S,st,P,by
  have h':zE X.K Θ _ t H (((m f S).bind λx s=>match x with
   | .ro C=>M.R.ok (M.qE 0 C,([]:M.Gd)) s
   | .ref i=>(match s[i]? with | some (.lst xs)=>.ok (M.qE 0 xs,[(i,.lst xs)]) s | _=>.no)
   | _=>.no).bind λp s=>if M.zU p.2 s then .ok p s else .no) R:=h
  show zE X.K Θ _ t H ((m f S).bind λx s=>(M.R.ok [] s).bind λxs s=>.ok (x::xs) s) _;cases n:m f S with
  | no=>rw[n] at h';exact h'.elim
  | exc a s=>rw[n] at h';exact h'
  | ok d k =>
   rw[n] at h';intro u D vs p l j w;obtain⟨v,ys,rfl,w,Q⟩:=w;cases Q;cases d with
   | ro C =>
    obtain⟨a,xs,rfl,E,r⟩:=w;exact⟨a,xs,rfl,E.sq,h' u D _ p l j (Y5 λz F _ _=>⟨xs,(F.rol E).sq,r.mono z F⟩)⟩
   | ref i =>
    obtain⟨a,rfl,G⟩:=w;have g:zE X.K Θ _ t H ((match k[i]? with
     | some (.lst xs)=>M.R.ok (M.qE 0 xs,[(i,M.O.lst xs)]) k
     | _=>.no).bind λp s=>if M.zU p.2 s then .ok p s else .no) R:=h'
    cases q:k[i]? with
    | none=>rw[q] at g;exact g.elim
    | some o =>
     rw[q] at g;cases o with
     | lst xs =>
      obtain⟨b,I,T,U,r⟩:=j.obj i _ q;rw[G] at I;cases I;have y:M.zU [(i,M.O.lst xs)] k=true:=by simp[M.zU,q]
      have J:zE X.K Θ _ t H (if M.zU [(i,M.O.lst xs)] k then M.R.ok (M.qE 0 xs,[(i,M.O.lst xs)]) k else .no) R:=g;rw[if_pos y] at J;refine⟨a,T,rfl,SqL.of U,J u D _ p l j (Y5 λ{V W H'} z _ A g'=>?_)⟩;have g2:W[i]? = some (M.O.lst xs):=by simpa [M.zU] using g'
      obtain⟨b2,L,Y,Z,r2⟩:=A.obj i _ g2;rw[JA z G] at L;cases L;exact⟨Y,SqL.of Z,r2⟩
     | dct kvs=>exact g.elim
     | fdc _=>exact g.elim
     | dtt _=>exact g.elim
     | ftt _=>exact g.elim
     | ins c fs=>exact g.elim
   | _=>exact h'.elim⟩
theorem w_mi_enumerate {X:Cx}{e:zF}{m:M.EM}{p pos tp:Pos}{elts:List zF}{kt:_} (a:Gl X "enumerate") (b:X.mg "enumerate" = none) (c:WE X Θ e m) (d:zy e=true:=by rfl):WI X Θ (.Tuple elts kt tp) (.Call (.Name "enumerate" p) [e] [] pos) (M.kz 0 m):=by with_unfolding_all exact zE8 (X:=X) (e:=e) (m:=m) (p:=p) (pos:=pos) (tp:=tp) (elts:=elts) (kt:=kt) a b c d
end
end L2
namespace L2
open PySem PySem.Spec PyProof.Rows
section
variable {Θ:Tab}
theorem UC {X:Cx}{es:List zF}{g:M.GMs}{js:List Nat}{k:Nat}{pos:Pos}{n:Nat} (d:X.calm=true) (h:MGs X Θ js es g) (e:∀ c σ a,g c σ=some a->c.length=n) (hn:(yL es X.env).length=n:=by rfl) (b:(yL es X.env).findIdx? (·.1)=none:=by rfl):MG X Θ js (.Tuple es k pos) (M.yu g) :=
 zAw (es:=es) (zCF d h hn b) e
theorem w_mg_tupM {X:Cx}{es:List zF}{g:M.GMs}{js:List Nat}{k:Nat}{pos:Pos}{n:Nat} (d:X.calm=true) (h:WGs X Θ js es g) (e:∀ c σ a,g c σ=some a->c.length=n) (hn:(yL es X.env).length=n:=by rfl) (b:(yL es X.env).findIdx? (·.1)=none:=by rfl):WG X Θ js (.Tuple es k pos) (M.yu g):=by with_unfolding_all exact UC (X:=X) (es:=es) (g:=g) (js:=js) (k:=k) (pos:=pos) (n:=n) d h e hn b
end
end L2
namespace L2
open PySem PySem.Spec PyProof.Rows
section
variable {K:PySem.W.Frag}{Θ:Tab}
theorem Yn:∀ {xs:List V}{us:List zB},xs.length=us.length->(∀ (j:Nat) u,us[j]? = some u->∃ x,xs[j]? = some x/\zY x u)->zS xs us
 | [],[],_,_=>.nil
 | [],_::_,h,_=>by simp at h
 | _::_,[],h,_=>by simp at h
 | x::xs,u::us,h,k=>by
  obtain⟨y,e,r⟩:=k 0 u rfl;cases e;exact .cons r (Yn (by simpa using h) λj u a=>by
   obtain⟨y,e,r⟩:=k (j+1) u (by simpa using a);exact⟨y,by simpa using e,r⟩)
end
end L2
namespace L2
open PySem PySem.Spec PyProof.Rows
section
variable {P:zW}{w:zR}{A:zZ}{E:zB->zD->Prop}{s:zD}
noncomputable def zCZ (h:zJ) (z TI TO:zA) (a:zB) (b:Bool):Prop:=h.get? z=some { cls:=.type "zip",dict:=none,data:=.fields #[a,.bool b,.bool false,.ref TI,.ref TO],slots:=#[] }
structure ZSt (z TI TO i1 i2 l1 l2:zA) (xs ys:Array zB) (i:Nat) (h:zJ):Prop where
 zp:∃ f0 b,zCZ h z TI TO f0 b/\((i=0/\f0=.none)\/∃ (T:zA) (o:Obj),f0=rawInt T/\h.get? T=some o)
 ti:kM h TI (.ref i1) (.ref i2)
 to:∃ a b,kM h TO a b
 n1:h.IsTupleIter i1 l1 i
 n2:h.IsTupleIter i2 l2 i
 t1:h.IsTuple l1 xs
 t2:h.IsTuple l2 ys
structure ZLp (lo z TO i1 i2 S:zA) (xs ys:List zB) (h0 h:zJ) (ps:List zA):Prop where
 its:∀ (j:Nat) p,ps[j]? = some p->lo <= p/\∃ x y,xs[j]? = some x/\ys[j]? = some y/\kM h p x y
 keep:∀ b o,b≠S->b≠z->b≠TO->b≠i1->b≠i2->h0.get? b=some o->h.get? b=some o
 nd:ps.Nodup
end
end L2
namespace L2
open PySem PySem.Spec PyProof.Rows
inductive Xz:Hp->List (V×V)->List V->Hp->Prop
 | nil (H:Hp):Xz H [] [] H
 | cons {H H':Hp}{a:zA}{x y:V}{r:List (V×V)}{zs:List V} (h:H a=none) (t:Xz (upd H a (.tup [x,y])) r zs H'):Xz H ((x,y)::r) (.ref a::zs) H'
end L2
namespace L2
open PySem PySem.Spec PyProof.Rows
section
variable {K:PySem.W.Frag}{Θ:Tab}
theorem Ue {X:Cx}{tg e:zF}{g:M.GM}{js:List Nat}{m:M.EM}{pos:Pos} (l:MG X Θ js tg g) (n:ME X Θ e m) (o:uW [tg] e pos.line X.env=pure false:=by rfl) (hw:Vv [tg] e X.env=pure none:=by rfl) (b:(yL [tg] X.env).map (·.2)=[QM tg X.env]:=by rfl):MS X Θ (.Assign [tg] e pos) (M.Kb g m) :=
 (UO n l o hw b).imp λD σ H ⟨p,a,S,st,r,h⟩=>⟨p,a,S,st,r,zh.stm h λc v x w s t l1 d rx b=>by
  cases q:g x a with
  | none=>rw[q] at b;exact b.elim
  | some f =>
   rw[q] at b;exact⟨c,a,s,x,st.mono t l1,d,rx,f,q,λu i le j k _ _=>b c u i (jN _) le j k⟩⟩
theorem w_ms_setG {X:Cx}{tg e:zF}{g:M.GM}{js:List Nat}{m:M.EM}{pos:Pos} (a:WG X Θ js tg g) (b:WE X Θ e m) (c:uW [tg] e pos.line X.env=pure false:=by rfl) (hw:Vv [tg] e X.env=pure none:=by rfl) (d:(yL [tg] X.env).map (·.2)=[QM tg X.env]:=by rfl):WS X Θ (.Assign [tg] e pos) (M.Kb g m):=by with_unfolding_all exact Ue (X:=X) (tg:=tg) (e:=e) (g:=g) (js:=js) (m:=m) (pos:=pos) a b c hw d
theorem wv:∀ (b:List M.D) (σ a:M.St),M.q8 b σ=some a->b.length=0:=λb σ a e=>by
 cases b with
 | nil=>rfl
 | cons _ _=>cases e
theorem K9 {g:M.GM}{r:M.GMs}{n:Nat} (h:∀ (b:List M.D) (σ a:M.St),r b σ=some a->b.length=n):∀ (b:List M.D) (σ a:M.St),M.jn g r b σ=some a->b.length=n+1:=λb σ a e=>by
 cases b with
 | nil=>cases e
 | cons d b =>
  have f:(match g d σ with | some c=>r b c | none=>none)=some a:=e;cases q:g d σ with
  | none=>rw[q] at f;cases f
  | some c=>rw[q] at f;rw[yN,h b c a f]
theorem U6 {g1 g2 c:M.GM}:∀ b σ a,(M.jn g1 (M.jn g2 (M.jn c M.q8))) b σ=some a->b.length=3:=K9 (K9 (K9 wv))
theorem uR:Ad2 K Θ M.xF (λx y H Q=>match x,y with | .int i,.int j=>Q (.int (i+j)) H | .str a,.str b=>a.length+b.length <= zV/\Q (.str (a++b)) H | _,_=>False):=by
 intro e H S x y X Y Q d rx ry h;cases x with
 | int i =>
  cases y with
  | int j=>cases rx;cases ry;exact zE.here (b:=V.int (i+j)) h d rfl
  | _=>exact h.elim
 | str a =>
  cases y with
  | str b =>
   obtain⟨rfl,oa⟩:=rx;obtain⟨rfl,ob⟩:=ry;have h':zE K Θ (zI K) e H (if a.length+b.length <= M.SZ then M.R.ok (M.D.str (a++b)) S else .no) Q:=h;by_cases c:a.length+b.length <= M.SZ
   ·rw[if_pos c] at h';refine⟨by rw[jZ,jZ,<- qv];exact c,?_⟩;rw[ue];exact zE.here h' d ⟨rfl,ka oa ob⟩
   ·rw[if_neg c] at h';exact h'.elim
  | _=>exact h.elim
 | _=>exact h.elim
end
end L2
namespace L2
open PySem PySem.Spec PyProof.Rows
structure zGS (K:PySem.W.Frag) (Θ:Tab) (c:Nat) (C:zA) (N:List Str):Prop where
 tab:Θ c=some (C,N)
 cl:Cls K C
 no:∀ f∈N,zEf K C f
 few:N.length < 999
 nd:N.Nodup
structure zGG (P:zW) (w:zR) (K:PySem.W.Frag) (mg:Str->Option zB) (base:zJ) (C:zA) (m:Str) (k:Nat) (ps:List Str) (sp:Sp):Prop where
 ex:∃ f fd,zj P w K mg base CX0 k f fd ps sp/\qY K fd ps []/\zBd K C m f
structure zGN (P:zW) (w:zR) (K:PySem.W.Frag) (mg:Str->Option zB) (base:zJ) (C:zA) (x:Str) (k:Nat) (ps:List Str) (sp:Sp):Prop where
 ex:∃ f fd,zj P w K mg base CX0 k f fd ps sp/\qY K fd ps []/\Mk K C f/\mg x=some (.ref C)
end L2
namespace L2
open PySem PySem.Spec PyProof.Rows
noncomputable def SIt (b:Bool) (h:zJ) (it a:zA) (i:Nat):Prop:=match b with | true=>h.IsListIter it a i | false=>h.IsTupleIter it a i
section
variable {P:zW}{w:zR}{A:zZ}{E:zB->zD->Prop}{s:zD}
structure ZAt (b1 b2:Bool) (z TI TO i1 i2 l1 l2:zA) (i:Nat) (h:zJ):Prop where
 zp:IsZip h z TI TO .none
 ti:kM h TI (.ref i1) (.ref i2)
 to:∃ a b,kM h TO a b
 n1:SIt b1 h i1 l1 i
 n2:SIt b2 h i2 l2 i
end
end L2
namespace L2
open PySem PySem.Spec PyProof.Rows
section
variable {P:zW}{w:zR}{A:zZ}{E:zB->zD->Prop}{s:zD}
set_option maxHeartbeats 4000000 in
end
end L2
namespace L2
open PySem PySem.Spec PyProof.Rows
noncomputable def wk:HO->Bool
 | .dK _=>true
 | .ext _=>true
 | _=>false
section
variable {K:PySem.W.Frag}{Θ:Tab}{ρ:List zA}{H H':Hp}
section
variable {a:zA}{o:Obj}{u:HO} (hu:wk u=true) (ha:H a=some (.frz o u))
include hu ha
end
end
end L2
namespace L2
open PySem PySem.Spec PyProof.Rows
theorem zEV {a:Type}{σ:List (Option a)}{i j:Nat}{v:a} (h:(σ.set i none)[j]? = some (some v)):j≠i/\σ[j]? = some (some v):=by
 by_cases e:i=j
 ·subst e;by_cases b:i < σ.length
  ·rw[QG b] at h;cases h
  ·rw[kh (by rw[Zz];omega)] at h;cases h
 ·rw[ZR e] at h;exact⟨λz=>e z.symm,h⟩
theorem zw.forget {K:PySem.W.Frag}{b:List zA}{H:Hp}{a:M.St}{σ:St} (h:zw K b H a σ) (i:Nat):zw K b H (a.set i none) (σ.set i none):=⟨by rw[Zz,Zz];exact h.len,λj d e=>by
 obtain⟨ne,c⟩:=zEV e;obtain⟨v,f,g⟩:=h.get j d c;exact⟨v,by rw[ZR (qM ne)];exact f,g⟩⟩
end L2
namespace L2
open PySem PySem.Spec PyProof.Rows PySem.SeqAt
mutual
inductive IsV (h:zJ):Nat->M.D->zB->Prop
 | non {n:Nat}:IsV h n .non .none
 | int {n:Nat}{i:Int}{t:Tok}:IsV h n (.int i) (.int i t)
 | str {n:Nat}{x:M.T}{t:Tok}:IsV h n (.str x) (.str (ofT x) t)
 | tup {n:Nat}{ds:List M.D}{a:zA}{us:List zB}:h.IsTuple a us.toArray->kR h n ds us->IsV h (n+1) (.tup ds) (.ref a)
inductive kR (h:zJ):Nat->List M.D->List zB->Prop
 | nil {n:Nat}:kR h n [] []
 | cons {n:Nat}{d:M.D}{ds:List M.D}{u:zB}{us:List zB}:IsV h n d u->kR h n ds us->kR h n (d::ds) (u::us)
end
section
variable {X:Cx}{pins:List (zA×Obj)}{σ:St}{H:Hp}{s:zD}
noncomputable def uU (K:PySem.W.Frag) (H:Hp) (d:M.D) (x:V):Prop:=M.kyT d=true/\∃ a,zI K a H d x
end
section
variable {X:Cx}{pins:List (zA×Obj)}{σ:St}{H:Hp}{s:zD}{Θ:Tab}{K:PySem.W.Frag}{ρ:List zA}{S:M.S}
structure TDt (K:PySem.W.Frag) (H:Hp) (ha:M.D->Int) (a:zA) (xs:List (M.D×zA×zB)):Prop where
 at':H a=some (.ext (TD ha a xs))
 ks:∀ q∈xs,uU K H q.1 (.ref q.2.1)
structure TDx (K:PySem.W.Frag) (H:Hp) (ha:M.D->Int) (a:zA) (xs:List (M.D×zA×zB)):Prop where
 at':H a=some (.ext (TD ha a xs))\/∃ o,H a=some (.frz o (.ext (TD ha a xs)))
 ks:∀ q∈xs,uU K H q.1 (.ref q.2.1)
end
section
variable {X:Cx}{pins:List (zA×Obj)}{σ:St}{H:Hp}{s:zD}{Θ:Tab}{K:PySem.W.Frag}{ρ:List zA}{S:M.S}
theorem zBB {a:zA}{b:zJ->Prop} (h:H a=some (.ext b)):Mut (H a):=by rw[h];trivial
end
end L2
namespace L2
open PySem PySem.Spec PyProof.Rows PySem.Builtin.Str
theorem zAV (x:M.T) (c:Nat) {i:Int} (s:0 <= i):kP (ofT x) (ofT [c]) i=M.ZO c x i.toNat:=by
 have a:fromIndex (ofT x).length i=i.toNat:=by
  unfold fromIndex;rw[if_neg (by omega)];omega
 have b:∀ v,v < x.length->(ofT x).cps.getD v 0=x[v]?.getD 0:=λv n=>by simp[ofT,Array.getD,n]
 unfold M.ZO;rcases StrLaws.find3_spec (ofT x) c i with ⟨e,h⟩ | ⟨k,e,o,f,g,p⟩
 ·have l:kP (ofT x) (ofT [c]) i = -1:=e;rw[a,jZ] at h;have hn:(x.drop i.toNat).findIdx? (· == c)=none:=by
   rw[List.findIdx?_eq_none_iff];intro d hd;obtain⟨j,m,q⟩:=List.mem_iff_getElem.mp hd;rw[KL] at q;rw[jf] at m;have:=h (i.toNat+j) (by omega) (by omega);rw[b _ (by omega),qU (by omega)] at this;simp only[VI] at this;rw[q] at this;simpa using this
  rw[l,hn]
 ·have l:kP (ofT x) (ofT [c]) i=(k:Int):=e;rw[a] at o;rw[jZ] at f;rw[b _ f,qU f] at g;simp only[VI] at g;have r:(x.drop i.toNat).findIdx? (· == c)=some (k - i.toNat):=by
   rw[List.findIdx?_eq_some_iff_getElem];refine⟨by rw[jf];omega,?_,λj m=>?_⟩
   ·rw[KL];have:i.toNat+(k - i.toNat)=k:=by omega
    simp only[this,g,beq_self_eq_true]
   ·rw[KL];have:=p (i.toNat+j) (by rw[a];omega) (by omega);rw[b _ (by omega),qU (by omega)] at this;simp only[VI] at this;simpa using this
  rw[l,r];show (k:Int)=((i.toNat+(k - i.toNat):Nat):Int)
  congr 1
  omega
section
variable {K:PySem.W.Frag}{Θ:Tab}
theorem zF8:AdM K Θ M.X2 (λx b H Q=>∃ z y i,x=.str z/\b=[.str y,.int i]/\Q (.int (kP z y i)) H):=by
 intro j H S x xs X k Q d rx a h;unfold M.X2 at h;split at h
 ·rename_i z c i;obtain⟨rfl,e⟩:=rx;obtain⟨Y,r,rfl,⟨rfl,f⟩,l,m,rfl,rfl,rfl⟩:=a;split at h
  ·rename_i g;refine⟨ofT z,ofT [c],i,rfl,rfl,?_⟩;rw[zAV _ _ g.2];exact zE.here h d rfl
  ·exact h.elim
 ·exact h.elim
end
theorem Ud (x:M.T) (c:Nat):KZ (ofT x) (ofT [c])=ofT (M.Z3 c x):=by
 unfold KZ;rw[stripBy_eq];have a:(ofT [c]).cps.contains=λd=>d == c:=by
  funext d
  rw[ZN];simp[ofT]
 rw[a];unfold stripLo stripHi strSub M.Z3;simp only[if_true];rw[yw,jZ];simp[ofT]
section
variable {K:PySem.W.Frag}{Θ:Tab}
theorem YI:AdM K Θ M.xQ (λx e H Q=>∃ z y,x=.str z/\e=[.str y]/\z.length <= zV/\Q (.str (KZ z y)) H):=by
 intro j H S x xs X k Q f rx a h;unfold M.xQ at h;split at h
 ·rename_i z c;obtain⟨rfl,b⟩:=rx;obtain⟨Y,r,rfl,⟨rfl,g⟩,rfl⟩:=a;split at h
  ·rename_i i;refine⟨ofT z,ofT [c],rfl,rfl,by rw[jZ];exact i,?_⟩;rw[Ud];exact zE.here h f ⟨rfl,xV b λd hd=>kS (Xk hd)⟩
  ·exact h.elim
 ·exact h.elim
end
noncomputable def VJ:List V->Hp->VK->Prop:=λxs H Q=>∃ z,xs=[.str z]/\z.length <= zV/\∀ p,H p=none->Q (.ref p) (upd H p (.lst (z.cps.toList.map λc=>V.str ⟨#[c]⟩)))
theorem zCI {X:Cx}{k:Nat} (f:za k X.A):jo X (.type "list") VJ:=by
 intro d s σ H xs us Q I r h;obtain⟨z,rfl,e,q⟩:=h;obtain⟨u,rfl,t,rfl⟩:=ZJ r;refine qg (n:=1) I.tk (call_list_str f.hd z t (hn:=e) λh' tk a g keep i it b=>?_);obtain⟨hsz,hit⟩:=it;refine⟨.ref s.heap.objs.size,_,I.laid (t':=tk) (o:=.lst (z.cps.toList.map λc=>V.str ⟨#[c]⟩)) keep (zl _) ⟨by rw[j5,vK];exact e,a.toList,g,Yn (by simp;omega) λj u l=>?_,by simpa using i⟩ b,rfl,q _ (I.hok.fresh (zl _))⟩;obtain⟨c,m,p,rfl⟩:=hit j u (by simpa using l);exact⟨.str ⟨#[c]⟩,by simp[p],⟨m,rfl⟩⟩
section
variable {K:PySem.W.Frag}{Θ:Tab}
theorem VU {a:List zA}{H:Hp}:∀ {z:M.T},okT z->zL K a H (z.map λc=>.str [c]) (z.map λc=>V.str ⟨#[c]⟩)
 | [],_=>rfl
 | c::z,h=>by
  have h':(decide (c < 1114112) && z.all λc=>decide (c < 1114112))=true:=h;rw[jG] at h';exact⟨_,_,rfl,⟨rfl,by simpa using h'.1⟩,VU h'.2⟩
theorem zDq:AdN K Θ M.XJ VJ:=by
 intro e H S xs f Q c a h;unfold M.XJ at h;split at h
 ·rename_i z;obtain⟨Y,r,rfl,⟨rfl,b⟩,rfl⟩:=a;split at h
  ·rename_i d;refine⟨ofT z,rfl,by rw[jZ];exact d,λp hp=>?_⟩;rw[yw];exact zE.alloc h c (VU b) hp
  ·exact h.elim
 ·exact h.elim
end
end L2
namespace TE
open PySem
noncomputable abbrev bare (C p:zA):Obj:={ cls:=.ref C,data:=.fields #[.ref p,.none,.none,.none,.bool false,.none] }
noncomputable def laid (m:zJ) (C:zA) (us:List zB):zJ:=(m.push { cls:=.type "tuple",data:=.seq us.toArray }).push (bare C m.objs.size)
theorem Jz {m:zJ}{C b:zA}{us:List zB}{o:Obj} (e:m.get? b=some o):(laid m C us).get? b=some o :=
 jd _ (jd _ e)
theorem uS {m:zJ}{C:zA}{us:List zB}:(laid m C us).get? (m.objs.size+1)=some (bare C m.objs.size):=by
 unfold laid bare
 heap_get
theorem zCx {m:zJ}{C n:zA}{us:List zB}{f:Str->Option zB} (e:m.Ns n f):(laid m C us).Ns n f:=by
 obtain⟨a,b,c,e,r⟩:=e;exact⟨a,b,c,Jz e,r⟩
structure Cl (m:zJ) (C fi:zA) (B nw ini:String) (tl:List zB):Prop where
 ex:∃ nm q N bs tl' hd sn sub ab col dd k0 k1 k2 k3 k5 mN of,m.get? C=some (Yo nm q C N bs tl' hd sn sub ab col dd k0 k1 k2 k3 k5 nw)/\m.Ns N mN/\mN "__init__" = some (.ref fi)/\OwnTail m tl tl'/\m.get? fi=some of/\of.cls=.type "function"
section
variable {pg:zW}{wo:zR}{Ar:zZ}{Er:zB->zD->Prop}{m:zJ}{gs:Array JP}{dr:JI}{k:Nat}{sy:kg}{C fi:zA}{B nw ini:String}{tl us:List zB}
theorem zCc {Q:PySem.Fin->zD->Prop} (F:Ya B nw ini tl) (c:Cl m C fi B nw ini tl) (z:us.length <= zV)
  (q:wpAny (zN pg wo) Ar (call (.ref fi) (.ref (m.objs.size+1)::us)) (λr s=>r=.none/\Q (.done (.ret (.ref (m.objs.size+1)))) s) Er ⟨laid m C us,gs,dr,k,sy⟩) :
  wpAny (zN pg wo) Ar (Builtin.«type.__call__» ⟨.ref C::us,[]⟩) Q Er ⟨m,gs,dr,k,sy⟩:=by
 obtain⟨n,o,N,bs,d,hd,p,sub,t,h,u,v,k1,k2,k3,k5,w,of,cl,ns,i,f,j,l⟩:=c.ex;have a:(jV C::d).contains (.ref C)=true:=by simp
 have b:=Jz (C:=C) (us:=us) cl
 repeat first
  | (with_reducible refine wpAny_madeBy_exc cl ?_)
  | (with_reducible refine qu cl ?_)
  | wp_step
 apply codeAny_call_builtin_code (WC _ F.quiet);apply wpAny_check_new_subT F f cl;refine codeAny_exc_new_subT F f cl ?_ z
 change wpAny _ _ _ _ _ ⟨laid m C us,gs,dr,k,sy⟩
 unfold Yh
 repeat first
  | (with_reducible refine qu uS ?_)
  | (with_reducible refine kr b ?_;rw[a])
  | wp_step
 change wpAny _ _ (qy (.ref C) _) _ _ _
 apply wpAny_typeLookup_tail b (zCx ns) (f.keeps λ_ _=>Jz) F.mroIs F.init.lookup;rw[i];apply KF;apply wpAny_bind;apply wpAny_bindSpecial_def (Jz j) l;apply wpAny_bind;refine wpAny_mono q (λr s g=>?_) λ_ _ e=>e;rw[g.1]
 wp_walk
 exact g.2
theorem zE7 {Q:zB->zD->Prop} (F:Ya B nw ini tl) (c:Cl m C fi B nw ini tl) (z:us.length <= zV)
  (q:wpAny (zN pg wo) (Ar.under (.builtin "type.__call__" ⟨.ref C::us,[]⟩)) (call (.ref fi) (.ref (m.objs.size+1)::us)) (λr s=>r=.none/\Q (.ref (m.objs.size+1)) s) Er ⟨laid m C us,gs,dr,k,sy⟩) :
  wpAny (zN pg wo) Ar (call (.ref C) us) Q Er ⟨m,gs,dr,k,sy⟩:=by
 obtain⟨d,e,N,bs,a,hd,f,sub,g,b,h,i,k1,k2,k3,k5,j,of,cl,_⟩:=c.ex;have l1:=tc_lookup;have l2:=tc_bind (.ref C);have ty:Shared.TypeIs ⟨m,gs,dr,k,sy⟩ (.ref C) "type" := ⟨_,cl,rfl⟩
 apply Xt;apply codeAny_of_tree
 change wpAny _ _ (callAny (.ref C) _) _ _ _
 repeat any_goals first
  | assumption
  | (with_reducible refine qu cl ?_)
  | wp_step
 constructor
 ·rfl
 ·exact codeAny_call_builtin_at (WC _ (by decide +kernel)) entry_typeCall (wpAny_check_type_call_sub cl (zCc F c z q))
end
noncomputable def IsX (m:zJ) (C:zA):Prop:=∃ c q N bs b hd d sub e a f g k1 k2 k3 k5 h,m.get? C=some (Yo c q C N bs b hd d sub e a f g k1 k2 k3 k5 h)/\b.contains (.type "BaseException")=true
noncomputable def Yi (m:zJ) (C e:zA):Prop:=∃ a b p,m.get? e=some { cls:=.ref C,dict:=a,data:=.fields #[.ref p,.none,.none,.none,.bool false,.none],slots:=b }
theorem wK {mo:yT}{a:zZ}{b:zB->zD->Prop}{c:Env}{s:zD}{x:Sem zB}{Q:Flow->zD->Prop}{C:zA} (d:a.handled=none)
  (f:wpAny mo a x (λv s'=>∃ e,v=.ref e/\IsX s'.heap C/\Yi s'.heap C e/\b v s') b s):wpAny mo a (raiseStmt c (some x) none) Q b s:=by
 unfold raiseStmt;apply wpAny_bind;refine wpAny_mono f (λv s' g=>?_) λ_ _ z=>z;obtain⟨e,rfl,⟨l,q,N,bs,h,hd,n,sub,o,i,r,t,k1,k2,k3,k5,u,cl,j⟩,⟨w,y,p,at'⟩,ok⟩:=g;have sb:(jV C::h).contains (.type "BaseException")=true:=by
  rw[ZY,j];exact xA _
 obtain⟨m,gs,A,k,B⟩:=s'
 repeat first
  | (with_reducible refine qu at' ?_)
  | (with_reducible refine qu cl ?_)
  | (with_reducible refine kr cl ?_;rw[sb])
  | wp_step
 exact wpAny_raiseNew_none d ok
section
variable {pg:zW}{wo:zR}{Ar:zZ}{Er:zB->zD->Prop}{s:zD}{en:Env}{C fi:zA}{B nw ini:String}{tl:List zB}
theorem zEl {x:Str}{np cp pos:Pos}{es:List zF}{Q:Flow->zD->Prop} (F:Ya B nw ini tl) (g:Ar.handled=none) (h:(ja cp (zn es en)).any (·.1)=false)
  (i:wpAny (zN pg wo) Ar (eval (.Name x np) en) (λv s1=>v=.ref C/\wpAny (zN pg wo) Ar (evalArgs (.ref C) true (ja cp (zn es en)) []) (λa s2=>a.kw=[]/\a.pos.length <= zV/\Cl s2.heap C fi B nw ini tl /\
   wpAny (zN pg wo) (Ar.under (.builtin "type.__call__" ⟨.ref C::a.pos,[]⟩)) (call (.ref fi) (.ref (s2.heap.objs.size+1)::a.pos)) (λr b=>r=.none/\IsX b.heap C/\Yi b.heap C (s2.heap.objs.size+1)/\Er (.ref (s2.heap.objs.size+1)) b) Er { s2 with heap:=laid s2.heap C a.pos }) Er s1) Er s) :
  wpAny (zN pg wo) Ar (exec (.Raise (some (.Call (.Name x np) es [] cp)) none pos) en) Q Er s:=by
 rw[arm_exec_Raise];simp only[evalOpt,XM];apply wpAny_bind;apply kY;apply wK (C:=C) g;apply wpAny_bind;refine wpAny_mono (wpAny_Call_ofName (wpAny_mono i (λv s1 f=>?_) λ_ _ z=>z)) (λv b e=>wpAny_bind (kY (wpAny_pure e))) λ_ _ z=>z;rw[f.1];unfold callWith;apply wpAny_bind;apply KF;refine wpAny_mono f.2 (λa s2 j=>wpAny_bind (kY ?_)) λ_ _ z=>z;obtain⟨ps,o⟩:=a;obtain⟨rfl,z,c,e⟩:=j;obtain⟨m,gs,p,k,q⟩:=s2;obtain⟨t,u,N,bs,l,hd,w,sub,y,n,A,D,k1,k2,k3,k5,E,of,cl,_⟩:=id c.ex;simp only[h];apply wpAny_bind;apply wpAny_keeperOf_exc cl;apply wpAny_bind;refine zE7 F c z (wpAny_mono e (λr b d=>⟨d.1,?_⟩) λ_ _ z=>z);apply wpAny_bind;apply KF;apply wpAny_point;exact wpAny_pure ⟨_,rfl,d.2.1,d.2.2.1,d.2.2.2⟩
end
end TE
namespace TE
open PySem PySem.Builtin PySem.Builtin.ObjectAttr
structure Two (m:zJ) (C Y:zA) (B:String) (tl:List zB) (mC mY:Str->Option zB):Prop where
 up:mroOf (.type B)=pure tl
 lo:∃ nm q N bs sn sub ab col dd k0 k1 k2 k3 k5 nw,m.get? C=some (Yo nm q C N bs (.ref Y::tl) true sn sub ab col dd k0 k1 k2 k3 k5 nw)/\m.Ns N mC
 hi:∃ c dd cd sl,m.get? Y=some { cls:=c,dict:=dd,data:=.cls cd,slots:=sl }/\m.Ns cd.ns mY
section
variable {mo:yT}{Ar:zZ}{Er:zB->zD->Prop}{m:zJ}{gs:Array JP}{dr:JI}{k:Nat}{sy:kg}{C Y:zA}{B:String}{tl:List zB}{mC mY:Str->Option zB}
theorem Two.look {n:Str}{o:Option zB}{Q:Option zB->zD->Prop} (T:Two m C Y B tl mC mY) (n1:mC n=none) (n2:mY n=none) (a:qy (.type B) n=pure o) (q:Q o ⟨m,gs,dr,k,sy⟩):wpAny mo Ar (qy (.ref C) n) Q Er ⟨m,gs,dr,k,sy⟩:=by
 obtain⟨e,f,N,bs,g,sub,h,b,i,j,k1,k2,k3,k5,l,cl,ns⟩:=T.lo;obtain⟨c,p,r,s,d,ny⟩:=T.hi;rw[typeLookup_eq,T.up] at a;rw[typeLookup_eq];apply wpAny_bind;apply zDH cl;rw[zF1];apply wpAny_bind;apply wpAny_classOwn_exc cl ns;rw[n1]
 change wpAny mo Ar (lookupAlong (.ref Y::tl) n) _ _ _
 rw[zF1];apply wpAny_bind;apply wpAny_classOwn_cls d ny;rw[n2];exact wpAny_of_eq a q
end
theorem zCL {mo:yT}{h:zZ}{i:zB->zD->Prop}{m:zJ}{gs:Array JP}{c:JI}{k:Nat}{d:kg}{p:zA}{f:Str->Option zB}{n:Str}{tk:Tok}{v:zB}{Q:PySem.Fin->zD->Prop}{ks:List Str} (e:m.Ns1 p f) (j:Within f ks) (z:ks.length <= 100)
  (q:∀ a l,a.Ns1 p (λy=>if y=n then some v else f y)->(∀ b,b≠p->a.get? b=m.get? b)->Q (.done (.ret .none)) ⟨a,gs,c,l,d⟩):wpAny mo h (storeInDict p (.str n tk) n v) Q i ⟨m,gs,c,k,d⟩:=by
 unfold storeInDict newKeyGuard;apply wpAny_bind;apply wpAny_pure;apply wpAny_bind;refine wpAny_nsSet1 e λa g sb=>?_;obtain⟨u,es,w,o,r,s⟩:=g.count (Within.cons n v j);apply wpAny_bind;refine wpAny_lookBehind o ?_ ?_
 ·rw[r];exact pastItsLine_dict (zx s (by rw[yN,Z0];omega))
 ·wp_walk
  exact q a _ g λb t=>sb.2 b t
section
variable {pg:zW}{wo:zR}{Ar:zZ}{Er:zB->zD->Prop}{m:zJ}{gs:Array JP}{dr:JI}{k:Nat}{sy:kg}{C Y x:zA}{B sa ow:String}{tl:List zB}{mC mY:Str->Option zB}{n:Str}{v:zB}{o:Obj}
theorem zCK {tk:Tok}{Q:PySem.Fin->zD->Prop} (T:Two m C Y B tl mC mY) (S:uP B tl sa ow) (n1:mC n=none) (n2:mY n=none) (t:qy (.type B) n=pure none)
  (g:m.get? x=some o) (w:o.cls=.ref C) (z:∀ c,o.data≠.cls c) (nd:o.dict=none)
  (q:∀ d i,d.get? x=some { o with dict:=some m.objs.size }->d.Ns1 m.objs.size (λy=>if y=n then some v else none)->(∀ b u,b≠x->m.get? b=some u->d.get? b=some u)->Q (.done (.ret .none)) ⟨d,gs,dr,i,sy⟩) :
  wpAny (zN pg wo) Ar (Builtin.«object.__setattr__» ⟨[.ref x,.str n tk,v],[]⟩) Q Er ⟨m,gs,dr,k,sy⟩:=by
 obtain⟨G,H,N,bs,I,sub,J,A,K,L,k1,k2,k3,k5,M,cl,ns⟩:=T.lo;have ps:=S.passes (.ref x);have p:x < m.objs.size:=ze g;unfold Builtin.«object.__setattr__»
 repeat first
  | rw[refuse_eq]
  | (rw[w5,w5,ps])
  | (with_reducible refine qu g ?_;rw[w])
  | (with_reducible refine zDH cl ?_)
  | (with_reducible refine T.look n1 n2 t ?_)
  | wp_step
 rw[nd];dsimp only;rw[if_neg (show ¬ (!true || !typeHasDict (.ref C))=true by simp[typeHasDict])];split
 ·rename_i c e;exact absurd e (z c)
 ·apply wpAny_bind;apply wpAny_alloc';apply wpAny_bind;have r:(m.push { cls:=.type "dict",data:=.dict #[] }).get? x=some o:=jd _ g;apply wpAny_update' r;apply wpAny_pure;generalize f:(m.push { cls:=.type "dict",data:=.dict #[] }).update x (λo=>{ cls:=o.cls,dict:=some m.objs.size,data:=o.data,slots:=o.slots })=h;have far:∀ b,b≠x->h.get? b=(m.push { cls:=.type "dict",data:=.dict #[] }).get? b:=λb j=>by
   rw[<- f];exact Heap.get?_update_ne _ _ _ _ j
  have dn:h.get? m.objs.size=some { cls:=.type "dict",data:=.dict #[] }:=by
   rw[far _ (ZV p)];exact Heap.get?_push_at rfl rfl
  have l:h.get? x=some { o with dict:=some m.objs.size }:=by
   rw[<- f];refine kj _ r ?_;have fr:=(Heap.get?_some_iff.mp g).2;obtain⟨a,b,c,e⟩:=o;cases c<;>first | rfl | exact fr
  have D:h.Ns1 m.objs.size (λ_=>none):=Heap.Ns1.of_empty ⟨_,#[],_,dn,rfl,λy E=>absurd E (by simp),λ_=>rfl⟩;refine zCL D Within.nil (by simp) λd i F st=>?_;refine q d i ?_ F λb u j s=>?_
  ·rw[st x (z5 p)];exact l
  ·have:=ze s;rw[st b (z5 this),far b j];exact jd _ s
theorem zEz {a:zB}{Q:Unit->zD->Prop} (T:Two m C Y B tl mC mY) (S:uP B tl sa ow) (b:m.get? x=some o) (c:o.cls=.ref C) (q:Q () ⟨m,gs,dr,k,sy⟩):wpAny (zN pg wo) Ar (vg sa ⟨[.ref x,a,v],[]⟩) Q Er ⟨m,gs,dr,k,sy⟩:=by
 obtain⟨f,h,N,bs,i,sub,j,d,l,p,k1,k2,k3,k5,r,cl,ns⟩:=T.lo;have sb:(jV C::.ref Y::tl).contains (.type ow)=true:=by
  rw[ZY,ZY,S.hasOwner,xA,xA]
 have ar:=S.args (.ref x) a v;simp only[vg,S.kind,S.split];apply wpAny_bind;unfold Yh
 repeat first
  | (with_reducible refine qu b ?_;rw[c])
  | (with_reducible refine kr cl ?_;rw[sb])
  | wp_step
 cases e:Manifest.signature? sa with
 | none=>exact wpAny_pure q
 | some g =>
  simp only[argsOk,e] at ar
  change wpAny _ _ (Bind.checkArgs sa g _) _ _ _
  exact wpAny_of_eq ar q
theorem zBv {Q:Unit->zD->Prop} (T:Two m C Y B tl mC mY) (S:uP B tl sa ow) (s1:mC "__setattr__" = none) (s2:mY "__setattr__" = none) (n1:mC n=none) (n2:mY n=none) (g:qy (.type B) n=pure none)
  (d:m.get? x=some o) (e:o.cls=.ref C) (h:∀ c,o.data≠.cls c) (nd:o.dict=none)
  (q:∀ a f,a.get? x=some { o with dict:=some m.objs.size }->a.Ns1 m.objs.size (λy=>if y=n then some v else none)->(∀ b u,b≠x->m.get? b=some u->a.get? b=some u)->Q () ⟨a,gs,dr,f,sy⟩) :
  wpAny (zN pg wo) Ar (setAttr (.ref x) n v) Q Er ⟨m,gs,dr,k,sy⟩:=by
 have bd:=S.slot.bind (.ref x);unfold setAttr callSpecial? specialOf
 repeat any_goals first
  | assumption
  | (with_reducible refine qu d ?_;rw[e])
  | (with_reducible refine T.look s1 s2 S.slot.lookup ?_)
  | wp_step
 apply wE S.slot.plain S.entry;apply zEz T S d e;refine zCK T S n1 n2 g d e h nd λa f i j l=>?_
 repeat any_goals first
  | assumption
  | wp_step
 exact q a f i j l
end
end TE
namespace TE
open PySem
noncomputable def Tr (m:zJ) (e:zA) (b:Obj):Option zA->Prop
 | none=>∃ a,m.get? e=some b/\b.data=.fields a/\a[1]? = some .none
 | some T=>∃ a c d,m.get? e=some b/\b.data=.fields a/\a[1]? = some (.ref T)/\T≠e/\m.get? T=some c/\c.data=.fields d/\d[3]? = some .none
theorem Tr.at {m:zJ}{e:zA}{f:Obj}{t:Option zA} (h:Tr m e f t):∃ d,m.get? e=some f/\f.data=.fields d/\1 < d.size:=by
 cases t with
 | none=>obtain⟨d,a,b,c⟩:=h;exact⟨d,a,b,(Array.getElem?_eq_some_iff.mp c).1⟩
 | some T=>obtain⟨d,_,_,a,b,c,_⟩:=h;exact⟨d,a,b,(Array.getElem?_eq_some_iff.mp c).1⟩
structure kX (l:List Env) (e:zA) (t:Option zA) (oe:Obj) (m m':zJ):Prop where
 size:m.objs.size <= m'.objs.size
 far:∀ b o,m.get? b=some o->b≠e->t≠some b->b∉l.filterMap (·.frame)->m'.get? b=some o
 fra:∀ b o,m.get? b=some o->b≠e->t≠some b->b∈l.filterMap (·.frame)->∃ sl,m'.get? b=some { o with slots:=sl }
 exc:∃ oe' T,oe'.cls=oe.cls/\oe'.dict=oe.dict/\Tr m' e oe' (some T)/\m.objs.size <= T
 old:∀ b,t=some b->∃ o,m'.get? b=some o
section
variable {M:yT}{A:zZ}{E:zB->zD->Prop}{s:zD}{base:zJ}{env:Env}{outer:List Env}{L e:zA}{oe:Obj}
theorem YS {g:zB}{r:Bool}{t:Array zB}{Q:Unit->zD->Prop} (u:A.frames=some (env::outer)) (z:s.heap.FunFrames base (env::outer)) (N:env.frame=some L) (B:s.heap.get? e=some oe) (hd:oe.data=.fields t) (v:1 < t.size)
  (q:∀ C,kX (env::outer) e none oe s.heap C->Q () { s with heap:=C }) :
  wpAny M A (do let a <- frameOf env;let i <- entryPlaceOf L r;let b <- zFV g a .none (rawInt L) .none i;setField (.ref e) 1 b) (λ_ s'=>wpAny M A (xC (.ref e) none) Q E s') E s:=by
 have ne:e∉(env::outer).filterMap (·.frame):=λO=>by
  obtain⟨_,o,D,w⟩:=z.mem O;rw[B] at D;cases D;exact w t hd
 apply wpAny_bind;refine wpAny_frameOf_fun u z N λd s1=>?_;apply wpAny_bind;refine wpAny_entryPlaceOf λi hp=>?_;unfold zFV newFields;apply wpAny_bind;refine J9 ?_ (hp.sizeOk5 _ _ _ _ _);obtain⟨h,k⟩:∃ h:Obj,h={ cls:=.type "traceback",dict:=none,data:=.fields ([g,.ref L,.none,rawInt L,.none]++(if i.isEmpty then zb 6 jt else i)).toArray }:=⟨_,rfl⟩
 rw[<- k];have m:h.data=.fields ([g,.ref L,.none,rawInt L,.none]++(if i.isEmpty then zb 6 jt else i)).toArray:=by rw[k]
 have F:d.get? e=some oe:=(s1.2.1 e ne).trans B;have G:(d.push h).get? e=some oe:=jd _ F;have fr:h.isFreed=false:=by rw[k];rfl
 have t2:(d.push h).get? d.objs.size=some h:=yQ _ fr;have te:d.objs.size≠e:=ZV (ze F);refine Ka G hd v ?_;have y:=vO hd (·.setIfInBounds 1 (jV d.objs.size));obtain⟨l,n⟩:∃ l,l=(d.push h).update e (Zn (·.setIfInBounds 1 (jV d.objs.size))):=⟨_,rfl⟩
 have H:l.get? e=some (Zn (·.setIfInBounds 1 (jV d.objs.size)) oe):=by rw[n];exact kj _ G (K2 y)
 have I:l.get? d.objs.size=some h:=by rw[n,Qc _ _ te.symm];exact t2
 change wpAny _ _ (xC (.ref e) none) _ _ { s with heap:=(d.push h).update e _ }
 rw[<- n];unfold xC;apply wpAny_bind;refine QI H y (x:=.ref d.objs.size) (by simp[v]) ?_;rw[if_pos (show (jV d.objs.size != jt)=true by simp)];have P:3 < ([g,.ref L,.none,rawInt L,.none]++(if i.isEmpty then zb 6 jt else i)).toArray.size:=by
  simp only[ji,yc,yN,Wa];omega
 refine Ka I m P (q _ ?_);have sz:d.objs.size=s.heap.objs.size:=s1.1;have keep:∀ b o,b≠e->d.get? b=some o->(l.update d.objs.size (Zn (·.setIfInBounds 3 ((none:Option zA).elim jt λf=>rawInt f)))).get? b=some o:=λb o p j=>by
  have R:d.objs.size≠b:=ZV (ze j);rw[Qc _ _ R,n,Qc _ _ p.symm];exact jd _ j
 have J:=vO m (·.setIfInBounds 3 ((none:Option zA).elim jt λf=>rawInt f));refine⟨?_,λb o j p _ w=>keep b o p ((s1.2.1 b w).trans j),λb o j p _ _=>?_,?_,λb j=>by cases j⟩
 ·have:(l.update d.objs.size (Zn (·.setIfInBounds 3 ((none:Option zA).elim jt λf=>rawInt f)))).objs.size=d.objs.size+1:=by
   rw[Vk,n,Vk,x9]
  show s.heap.objs.size <= (l.update d.objs.size (Zn (·.setIfInBounds 3 ((none:Option zA).elim jt λf=>rawInt f)))).objs.size;omega
 ·obtain⟨K,S⟩:=s1.2.2 b o j;exact⟨K,keep b _ p S⟩
 ·refine⟨Zn (·.setIfInBounds 1 (jV d.objs.size)) oe,d.objs.size,Obj.cls_mapFields _ _,?_,⟨_,_,_,?_,y,by simp[v],te,kj _ I (K2 J),J,by simp⟩,by omega⟩
  ·obtain⟨c,U,T,K⟩:=oe;cases T<;>rfl
  ·rw[Qc _ _ te];exact H
theorem Y4 {t:Option zA}{Q:Unit->zD->Prop} (j:A.frames=some (env::outer)) (r:s.heap.FunFrames base (env::outer)) (u:env.frame=some L) (h:Tr s.heap e oe t)
  (q:∀ k,kX (env::outer) e t oe s.heap k->Q () { s with heap:=k }):wpAny M A (VF (.ref e) env) (λ_ s'=>wpAny M A (xC (.ref e) none) Q E s') E s:=by
 unfold VF;simp only[u];cases t with
 | none =>
  obtain⟨J,l,hd,m⟩:=h;apply wpAny_bind;refine QI l hd m ?_;rw[if_neg (by decide)];exact YS j r u l hd (Array.getElem?_eq_some_iff.mp m).1 q
 | some T =>
  obtain⟨J,K,D,l,hd,m,F,n,a,G⟩:=h;apply wpAny_bind;refine QI l hd m ?_;rw[if_pos (show (jV T != jt)=true by simp)];apply wpAny_bind;refine QI n a G ?_;rw[if_neg (show ¬ (jt == rawInt L)=true by simp[rawInt])];apply wpAny_bind;have N:=(Array.getElem?_eq_some_iff.mp G).1;refine Ka n a N ?_;obtain⟨d,p⟩:∃ d,d=s.heap.update T (Zn (·.setIfInBounds 3 jt)):=⟨_,rfl⟩
  change wpAny _ _ _ _ _ { s with heap:=s.heap.update T _ }
  rw[<- p];have f:∀ b,b≠T->d.get? b=s.heap.get? b:=λb c=>by rw[p];exact Qc _ _ c.symm
  have dT:=vO a (·.setIfInBounds 3 jt);have O:d.get? T=some (Zn (·.setIfInBounds 3 jt) K):=by rw[p];exact kj _ n (K2 dT)
  have v:T∉(env::outer).filterMap (·.frame):=λw=>by
   obtain⟨_,o,H,i⟩:=r.mem w;rw[n] at H;cases H;exact i D a
  have x:d.FunFrames base (env::outer):=r.of_keeps λb o c i=>⟨o,(f b λz=>by rw[z,n] at c;cases c;exact i D a).trans c,rfl⟩
  refine YS (s:={ s with heap:=d }) j x u ((f e F.symm).trans l) hd (Array.getElem?_eq_some_iff.mp m).1 λk g=>q k ?_;have sz:d.objs.size=s.heap.objs.size:=by rw[p,Vk]
  have gs:d.objs.size <= k.objs.size:=g.size;refine⟨by omega,λb o c y B i=>g.far b o ((f b λz=>B (by rw[z])).trans c) y (by simp) i,λb o c y B i=>g.fra b o ((f b λz=>B (by rw[z])).trans c) y (by simp) i,?_,λb c=>?_⟩
  ·obtain⟨C,I,a1,a2,a3,a4⟩:=g.exc;have P:d.objs.size <= I:=a4;exact⟨C,I,a1,a2,a3,by omega⟩
  ·cases c;exact⟨_,g.far T _ O F (by simp) v⟩
theorem left {t:Option zA}{Q:Unit->zD->Prop} (a:A.frames=some (env::outer)) (c:s.heap.FunFrames base (env::outer)) (d:env.frame=some L) (h:Tr s.heap e oe t)
  (q:∀ b,kX (env::outer) e t oe s.heap b->Q () { s with heap:=b }):wpAny M A (K8 env (.ref e)) Q E s:=by
 unfold K8;apply wpAny_bind;exact Y4 a c d h q
theorem kT {T:zA}{Q:Unit->zD->Prop} (h:Tr s.heap e oe (some T))
  (q:∀ d,(∀ b o,s.heap.get? b=some o->b≠T->d.get? b=some o)->Tr d e oe (some T)->Q () { s with heap:=d }):wpAny M A (xC (.ref e) none) Q E s:=by
 obtain⟨n,u,v,g,hd,i,j,k,a,p⟩:=h;unfold xC;apply wpAny_bind;refine QI g hd i ?_;rw[if_pos (show (jV T != jt)=true by simp)];have l:=(Array.getElem?_eq_some_iff.mp p).1;have m:=vO a (·.setIfInBounds 3 ((none:Option zA).elim jt λf=>rawInt f));have c:∀ b o,s.heap.get? b=some o->b≠T->(s.heap.update T (Zn (·.setIfInBounds 3 ((none:Option zA).elim jt λf=>rawInt f)))).get? b=some o:=λb o r t=>by
  rw[Qc _ _ t.symm];exact r
 exact Ka k a l (q _ c ⟨n,_,_,c e _ g j.symm,hd,i,j,kj _ k (K2 m),m,by simp[l]⟩)
end
end TE
namespace TE
open PySem PySem.Builtin
section
variable {pg:zW}{wo:zR}{Ar:zZ}{Er:zB->zD->Prop}{m:zJ}{gs:Array JP}{dr:JI}{k:Nat}{sy:kg}{C Y x p:zA}{tl:List zB}{mC mY f:Str->Option zB}{n:Str}{v:zB}{o:Obj}
theorem zDf {tk:Tok}{Q:PySem.Fin->zD->Prop} (T:Two m C Y "ValueError" tl mC mY) (n1:mC n=none) (n2:mY n=none) (d:qy (.type "ValueError") n=pure none) (b:m.get? x=some o) (a:o.cls=.ref C) (g:∀ c,o.data≠.cls c) (hd:o.dict=some p) (e:m.Ns1 p f) (h:f n=some v)
  (q:Q (.done (.ret v)) ⟨m,gs,dr,k,sy⟩):wpAny (zN pg wo) Ar (Builtin.«object.__getattribute__» ⟨[.ref x,.str n tk],[]⟩) Q Er ⟨m,gs,dr,k,sy⟩:=by
 obtain⟨j,l,N,bs,r,sub,s,i,t,u,k1,k2,k3,k5,w,cl,ns⟩:=T.lo;unfold Builtin.«object.__getattribute__»
 repeat any_goals first
  | assumption
  | (with_reducible refine qu b ?_;rw[a])
  | (with_reducible refine T.look n1 n2 d ?_)
  | wp_step
 split
 ·rename_i c z;exact absurd z (g c)
 ·unfold instanceDict
  repeat any_goals first
   | assumption
   | (with_reducible refine qu b ?_;first | rw[hd] | rw[a])
   | (with_reducible refine kr cl ?_)
   | wp_step
  rw[a]
  repeat any_goals first
   | assumption
   | (with_reducible refine qu cl ?_)
   | (change wpAny _ _ (nsGet p n) _ _ _;refine wpAny_nsGet e.ns ?_;rw[h])
   | wp_step
  all_goals exact q
theorem zA2 {c:zB}{Q:Unit->zD->Prop} (T:Two m C Y "ValueError" tl mC mY) (d:tl.contains (.type "BaseException")=true) (e:m.get? x=some o) (g:o.cls=.ref C) (q:Q () ⟨m,gs,dr,k,sy⟩):wpAny (zN pg wo) Ar (vg "BaseException.__getattribute__" ⟨[.ref x,c],[]⟩) Q Er ⟨m,gs,dr,k,sy⟩:=by
 obtain⟨i,j,N,bs,l,sub,r,h,s,t,k1,k2,k3,k5,u,cl,ns⟩:=T.lo;have sb:(jV C::.ref Y::tl).contains (.type "BaseException")=true:=by
  rw[ZY,ZY,d,xA,xA]
 have a:builtinKind "BaseException.__getattribute__" = some .slot:=by decide +kernel
 have b:splitId "BaseException.__getattribute__" = some ("BaseException","__getattribute__"):=by decide +kernel
 have ar:=F.args_bexc_ga (.ref x) c;simp only[vg,a,b];apply wpAny_bind;unfold Yh
 repeat first
  | (with_reducible refine qu e ?_;rw[g])
  | (with_reducible refine kr cl ?_;rw[sb])
  | wp_step
 exact q
theorem zDT {ex:Bool}{Q:zB->zD->Prop} (T:Two m C Y "ValueError" tl mC mY) (g:tl.contains (.type "BaseException")=true) (g1:mC "__getattribute__" = none) (g2:mY "__getattribute__" = none) (h:mC "__getattr__" = none) (i:mY "__getattr__" = none) (j:Yu v=pure v) (n1:mC n=none) (n2:mY n=none) (l:qy (.type "ValueError") n=pure none) (a:m.get? x=some o) (b:o.cls=.ref C) (r:∀ c,o.data≠.cls c) (hd:o.dict=some p) (e:m.Ns1 p f) (s:f n=some v)
  (q:Q v ⟨m,gs,dr,k+1,sy⟩):wpAny (zN pg wo) Ar (getAttr (.ref x) n ex) Q Er ⟨m,gs,dr,k,sy⟩:=by
 have d:=F.attr_ValueError;have bd:=d.ga.bind (.ref x);have u:(ex && onTheHeap (ke "BaseException.__getattribute__"))=false:=by cases ex<;>rfl
 have t:(ke "BaseException.__getattribute__" == ke "object.__getattribute__")=false:=by decide +kernel
 have x1:(onTheHeap (jV C) && ke "BaseException.__getattribute__" == ke "object.__getattribute__")=false:=by rw[t];rfl
 unfold getAttr
 repeat any_goals first
  | assumption
  | (with_reducible refine qu a ?_;rw[b])
  | (with_reducible refine T.look g1 g2 d.ga.lookup ?_)
  | (with_reducible refine T.look h i F.attrBase_ValueError.noGetattr ?_)
  | wp_step
 refine wE d.ga.plain F.entry_bexc_ga (zA2 T g a b (zDf T n1 n2 l a b r hd e s ?_))
 repeat any_goals first
  | assumption
  | wp_step
 try (rw[j];exact wpAny_pure q)
end
end TE
namespace L2
open PySem PySem.Spec PyProof.Rows
noncomputable def XAt (n:Nat) (H:Hp) (h:zJ) (x C:zA) (b:Option zA):Prop:=∃ a t,TE.Tr h x a t/\a.cls=.ref C/\a.dict=b/\n <= x/\H x=none/\∀ T,t=some T->n <= T/\H T=none
theorem XAt.mono {n m:Nat}{H:Hp}{h:zJ}{x C:zA}{b:Option zA} (a:XAt n H h x C b) (l:m <= n):XAt m H h x C b:=by
 obtain⟨c,t,a1,a2,a3,a4,a5,a6⟩:=a;exact⟨c,t,a1,a2,a3,zx l a4,a5,λT e=>⟨zx l (a6 T e).1,(a6 T e).2⟩⟩
noncomputable def CX1 (P:zW) (w:zR):CXT:=λouter H s E e s'=>∃ x C b a,e=.ref x/\s'.os=s.os/\y8 s'.gens/\Un (frs outer) [] H a s.heap s'.heap/\HOk P w a s'.heap/\0 < s'.toks/\XAt s.heap.objs.size a s'.heap x C b/\E (.ref C) b a
structure jH (X:Cx) (E:XK):Prop where
 xe:∃ Er:zB->zD->Prop,X.xe=λe s'=>wpAny (zN X.prog X.w) X.A (K8 X.env e) (λ_ s''=>CX1 X.prog X.w X.outer X.H₀ X.s₀ E e s'') Er s'
 st:X.stack=X.env::X.outer
 fr:X.env.frame=some X.env.locals
 ex:X.ex=[]
theorem zGA {P:zW}{w:zR}{K:PySem.W.Frag}{mg:Str->Option zB}{base:zJ}{N:List Str}{qual:Str}{scope:qW}{f:zA}{a:zB}{A:zZ}{outer:List Env}{s:zD}{H:Hp}{E:XK}:jH (jx (CX1 P w) P w K mg base N qual scope f a A outer s H E) E:=⟨⟨_,rfl⟩,rfl,rfl,rfl⟩
section
variable {X:Cx}{pins:List (zA×Obj)}{σ:St}{H:Hp}{s:zD}{E:XK}{x C:zA}{od:Option zA}
theorem jH.leave (W:jH X E) (I:Inv X pins σ H s) (a:XAt X.s₀.heap.objs.size H s.heap x C od) (q:E (.ref C) od H):X.xe (.ref x) s:=by
 obtain⟨Y,M⟩:=W.xe;obtain⟨Z,t,N,a2,a3,a4,a5,a6⟩:=a;rw[M];have i:=I.ok.frames;have J:=I.stack;have j:=I.stkFree;rw[W.st] at i J j;have O:X.s₀.heap.objs.size <= X.env.locals:=I.ok.above;have r:∀ b,b∈frs (X.env::X.outer)->b=X.env.locals\/b∈frs X.outer:=λb d=>by
  unfold frs at d;rw[JX,W.fr] at d;exact List.mem_cons.mp d
 refine TE.left i J W.fr N λK g=>?_;have far:∀ b o,s.heap.get? b=some o->b≠x->t≠some b->b∉frs (X.env::X.outer)->K.get? b=some o:=g.far;have fra:∀ b o,s.heap.get? b=some o->b≠x->t≠some b->∃ w,K.get? b=some { o with slots:=w }:=λb o d n1 n2=>by
  by_cases p:b∈frs (X.env::X.outer)
  ·exact g.fra b o d n1 n2 p
  ·exact⟨o.slots,far b o d n1 n2 p⟩
 have f:∀ b o,X.s₀.heap.get? b=some o->b≠x/\t≠some b/\b≠X.env.locals:=λb o d=>by
  have:=ze d;exact⟨z5 (zv this a4),λz=>qc _ (zv this (a6 b z).1),z5 (zv this O)⟩
 have ne:∀ b,b∉X.ex:=λb d=>by rw[W.ex] at d;cases d
 refine⟨x,C,od,H,rfl,I.os,I.bare,⟨?_,?_,?_,?_,I.base.tups,I.base.frzs,I.base.tbls⟩,?_,I.tk,?_,q⟩
 ·intro b o d n L _;obtain⟨k,l,y⟩:=f b o d;exact far b o (I.base.keep b o d n L (ne b)) k l λz=>(r b z).elim y L
 ·intro b o d n p _;obtain⟨k,l,y⟩:=f b o d;obtain⟨w,A⟩:=I.base.slot b o d n p (ne b);obtain⟨B,D⟩:=fra b _ A k l;exact⟨B,D⟩
 ·intro b o d n _;exact I.base.free b o d n (ne b)
 ·intro b o d _;obtain⟨k,l,y⟩:=f b o d;obtain⟨P,A⟩:=I.base.there b o d (ne b);obtain⟨w,D⟩:=fra b P A k l;exact⟨_,D⟩
 ·intro b u e;refine (I.hok b u e).stay (λc v F Q=>?_) (λ_ z=>z) λ_ _ z=>z;have tk:∃ u,H c=some u:=by
   rcases F with rfl | F
   ·exact⟨u,e⟩
   ·exact⟨_,F⟩
  obtain⟨u',h⟩:=tk;refine far c v Q (λz=>by rw[z,a5] at h;cases h) (λz=>by rw[(a6 c z).2] at h;cases h) λz=>by rw[j c z] at h;cases h
 ·obtain⟨G,T,R,S,U,V⟩:=g.exc;refine⟨G,some T,U,R.trans a2,S.trans a3,a4,a5,λT' e=>?_⟩;cases e;have m:s.heap.objs.size <= T:=V;exact⟨zx I.sz m,I.hok.fresh m⟩
theorem jH.passes (W:jH X E):yF (CX1 X.prog X.w) X E:=by
 intro pins σ H s e s' I ⟨x,C,od,d,c,os,bare,un,hok,tk,a,q⟩;subst c;exact W.leave (I.call' os un hok bare (λb z=>absurd z (by simp)) tk) (a.mono I.sz) q
theorem jH.own (W:jH X E):Qs (zN X.prog X.w) X.A X.env X.xe:=by
 obtain⟨b,a⟩:=W.xe;rw[a];exact PassesOwn.leaving
end
end L2
namespace L2
open PySem PySem.Spec PyProof.Rows
noncomputable abbrev Tab.w (Θ:Tab) (E:XK):Tab:={ Θ with x:=E }
noncomputable def SpX (K:PySem.W.Frag) (Θ:Tab) (n:Nat) (f:M.F):Sp:=λc H Q E=>∃ a b S,b.length=n/\zL K a H b c/\zK K (Θ.w E) a S H/\zE K (Θ.w E) (zI K) a H (f b S) Q
structure Z8 (P:zW) (w:zR) (K:PySem.W.Frag) (mg:Str->Option zB) (base:zJ) (x:Str) (k:Nat) (ps:List Str) (sp:Sp):Prop where
 ex:∃ f fd,zj P w K mg base (CX1 P w) k f fd ps sp/\qY K fd ps []/\PySem.W.keepIn K (.ref f)=true/\mg x=some (.ref f)
section
variable {X:Cx}{Θ:Tab}{E:XK}{pos p:Pos}{x:Str}{ps:List Str}{e:zF}{es:List zF}{f:M.F}{m:M.AM}{k kk n:Nat}
theorem WD (h:Z8 X.prog X.w X.K X.mg X.base x k ps (SpX X.K Θ n f)) (W:jH X E) (o:za kk X.A) (q:k <= kk) (r:Gl X x) (ha:MA X (Θ.w E) (e::es) m) (ar:q0 m n) (d:(x == ("__debug__" : Str))=false:=by decide)
  (t:zy e=true:=by rfl) (g:es.all zy=true:=by rfl):ME X (Θ.w E) (.Call (.Name x p) (e::es) [] pos) (M.zQ f m):=by
 obtain⟨a,fd,F,u,kp,c⟩:=h.ex;exact (Vf F (o.mono q) r c kp u .nil W.passes ha d (qO t) (Z9 g)).imp λσ H Q ⟨l,b,S,st,v,h⟩=>⟨l,b,S,st,v,by
  have h':zE X.K (Θ.w E) (zI X.K) l H ((m b S).bind λxs s=>f xs s) Q:=h;cases c:m b S with
  | no=>rw[c] at h';exact h'.elim
  | exc a s=>rw[c] at h';exact h'
  | ok y z =>
   rw[c] at h';intro i D G B l1 j C;rw[jP];exact⟨i,y,z,ar _ _ _ _ c,C,j,zE.weak h' B l1⟩⟩
theorem w_me_callX (h:Z8 X.prog X.w X.K X.mg X.base x k ps (SpX X.K Θ n f)) (W:jH X E) (c:za kk X.A) (d:k <= kk) (g:Gl X x) (ha:WA X (Θ.w E) (e::es) m) (ar:q0 m n) (a:(x == ("__debug__" : Str))=false:=by decide)
  (i:zy e=true:=by rfl) (b:es.all zy=true:=by rfl):WE X (Θ.w E) (.Call (.Name x p) (e::es) [] pos) (M.zQ f m):=by with_unfolding_all exact WD h W c d g ha ar a i b
end
section
variable {P:zW}{w:zR}{K:PySem.W.Frag}{mg:Str->Option zB}{base:zJ}{Θ:Tab}
theorem zFc {x qual:Str}{st:zT}{f:zA}{fd:jU}{N ps:List Str}{k:Nat}{b:M.SM} (F:Fun K x qual st f fd) (o:jF N ps (zP st))
  (d:∀ (c:zB) (A:zZ) (outer:List Env) (s:zD) (H:Hp) (E:XK),za k (A.deeper (qF qual (zP st) s.heap.objs.size f c)) ->
   jH (jx (CX1 P w) P w K mg base N qual (zP st) f c A outer s H E) E->MSs (jx (CX1 P w) P w K mg base N qual (zP st) f c A outer s H E) (Θ.w E) (z4 st) b):zj P w K mg base (CX1 P w) (k+1) f fd ps (SpX K Θ ps.length (M.fn N.length b)):=by
 obtain⟨D,G,kV,p,pm,I,c,ct,q,rfl,t,j⟩:=F.ex;refine Yf t j o (λu H Q E h=>?_) λA outer s H u Q E v h=>?_
 ·obtain⟨i,g,S,n,r,_⟩:=h;rw[<- r.length,n]
 ·obtain⟨i,g,S,n,r,y,h⟩:=h;refine⟨_,d c A outer s H E v zGA,i,_,S,va r N,y,?_⟩;have h':zE K (Θ.w E) (zI K) i H (b (g.map some++zb (N.length - g.length) none) S).out Q:=h;show zh K (Θ.w E) i H (b (g.map some++zb (N.length - g.length) none) S) _;revert h';cases b (g.map some++zb (N.length - g.length) none) S with
  | rt a s=>exact λh'=>h'
  | nx a s=>exact λh' l z B C l1 m _=>h' l z .non C l1 m rfl
  | bk a s=>exact λh'=>h'.elim
  | ct a s=>exact λh'=>h'.elim
  | exc e a s=>exact λh'=>h'
  | no=>exact λh'=>h'.elim
end
end L2
namespace L2
open PySem PySem.Spec PyProof.Rows
noncomputable abbrev tlV:List zB:=[.type "ValueError",.type "Exception",.type "BaseException",.type "object"]
noncomputable def Qd (C x p:zA) (h:zJ):Prop:=h.get? x=some (TE.bare C p)
noncomputable def Zd (C x p a:zA) (h:zJ):Prop:=h.get? x=some { TE.bare C p with dict:=some a }
structure XCls (K:PySem.W.Frag) (C Y fi:zA) (mC mY:Str->Option zB):Prop where
 two:∀ h:zJ,K.In h->TE.Two h C Y "ValueError" tlV mC mY
 cl:∀ h:zJ,K.In h->TE.Cl h C fi "ValueError" "ValueError.__new__" "ValueError.__init__" tlV
 s1:mC "__setattr__" = none
 s2:mY "__setattr__" = none
section
variable {X:Cx}{pins:List (zA×Obj)}{σ:St}{H:Hp}{s:zD}
noncomputable def dn (H:Hp) (x:zA):Hp:=λb=>if b=x then none else H b
theorem vq (H:Hp) (x:zA):dn H x x=none:=if_pos rfl
theorem Z4 {H:Hp}{x b:zA} (h:b≠x):dn H x b=H b:=if_neg h
theorem kZ {H:Hp}{x b:zA} (h:H b=none):dn H x b=none:=by
 unfold dn;split
 ·rfl
 ·exact h
theorem Inv.drop {x:zA}{a:zJ->Prop} (I:Inv X pins σ H s) (e:H x=some (.ext a)):Inv X pins σ (dn H x) s:=by
 have ne:∀ {b u},H b=some u->(∀ a,u≠.ext a)->b≠x:=λ{b u} q n z=>by
  rw[z,e] at q;cases q;exact n _ rfl
 refine⟨I.ok,I.os,I.bare,⟨I.base.keep,I.base.slot,λb ob q n d=>kZ (I.base.free b ob q n d),I.base.there,λb xs q=>?_,λb ob u q=>?_,λb ps q=>?_⟩,I.loc,I.cell,kZ I.free,λy c q=>kZ (I.freeC y c q),λp hp=>?_,λb u q=>?_,I.len,I.tk⟩
 ·have z:=I.base.tups b xs q;rw[Z4 (ne z λ_=>nofun)];exact z
 ·have z:=I.base.frzs b ob u q;rw[Z4 (ne z λ_=>nofun)];exact z
 ·obtain⟨mo,z⟩:=I.base.tbls b ps q;exact⟨mo,by rw[Z4 (ne z λ_=>nofun)];exact z⟩
 ·obtain⟨a1,a2,a3⟩:=I.pin p hp;exact⟨a1,kZ a2,a3⟩
 ·have f:b≠x:=λz=>by rw[z,vq] at q;cases q
  rw[Z4 f] at q;exact (I.hok b u q).stay (λ_ _ _ z=>z) (λc z=>by rw[Z4 (ne z λ_=>nofun)];exact z) λc xs z=>by rw[Z4 (ne z λ_=>nofun)];exact z
end
section
variable {X:Cx}{C Y fi:zA}{mC mY:Str->Option zB}{f:Str}{o value:zF}{pos pos':Pos}{ta tv:TE}
noncomputable def uN (C:zA) (f:Str) (ta tv:TE):TS:=λD σ H=>tv σ H λy d=>ta σ d λx c=>∃ a p,x=.ref a/\c a=some (.ext (Qd C a p))/\∀ b,c b=none->b≠a->D.nx σ (upd (upd c a (.ext (Zd C a p b))) b (.xd [(f,y)]))
theorem zCa (j:XCls X.K C Y fi mC mY) (n1:mC f=none) (n2:mY f=none) (L:qy (.type "ValueError") f=pure none) (ha:PE X o ta) (l:PE X value tv) (M:j1 value (some (.Attribute o f pos')) pos.line X.env=pure false) :
  PS X (.Assign [.Attribute o f pos'] value pos) (uN C f ta tv):=by
 intro b s σ H D I h;refine plainObj_wpAny_Assign_Attribute (thn (l b s σ H _ I h) λu s1 ⟨y,N,O,ry,P⟩=>thn (ha b s1 σ N _ O P) λQ s2 ⟨x,i,d,rx,a,p,ex,w,R⟩=>?_) M;subst ex;obtain rfl:Q=jV a:=rx;have A:Qd C a p s2.heap:=(d.hok a _ w).1;have S:=d.tk;refine qg (n:=s2.toks) (zl _) ?_;obtain⟨m,gs,B,k,E⟩:=s2;have lt:a < m.objs.size:=ze A;have hn:i m.objs.size=none:=d.hok.fresh (zl _);refine TE.zBv (j.two m d.kIn) PySem.F.store_ValueError j.s1 j.s2 n1 n2 L A rfl (λc z=>by cases z) rfl λG J r T U tk=>?_;have nd:m.objs.size≠a:=ZV lt;have W:Inv X b σ (upd i a (.ext (Zd C a p m.objs.size))) { (⟨m,gs,B,k,E⟩:zD) with heap:=G,toks:=J }:=d.write (zBB w) (.inl rfl) U ⟨_,r⟩ ⟨r,⟨_,r⟩,λh1 h2 Z z2=>z2 _ Z⟩ (zv S tk);have t:upd i a (.ext (Zd C a p m.objs.size)) m.objs.size=none:=by rw[zc nd];exact hn
 have Ib:Inv X b σ (upd (upd i a (.ext (Zd C a p m.objs.size))) m.objs.size (.xd [(f,y)])) { (⟨m,gs,B,k,E⟩:zD) with heap:=G,toks:=J } :=
  W.track d.sz t (λz=>by
   have:=d.lt;rw[<- z] at this;exact qc _ this) (λy c e=>by obtain⟨v,l⟩:=d.cell y c e;exact z5 l.lt) (λq hq=>z5 (ze (d.pin q hq).1))
   ⟨_,T,λg=>by
    by_cases z:g=f
    ·subst z;rw[if_pos rfl,show ([(g,y)]:List (Str×V)).lookup g=some y by simp];exact ry
    ·rw[if_neg z,show ([(f,y)]:List (Str×V)).lookup g=none by simp[ZQ,beq_eq_false_iff_ne.mpr z]];trivial⟩
 exact⟨σ,_,Ib,R _ hn nd⟩
end
end L2
namespace L2
open PySem PySem.Spec PyProof.Rows
noncomputable def spI (C:zA) (f:Str):Sp:=λb H Q _=>∃ x p y,b=[.ref x,y]/\H x=some (.ext (Qd C x p))/\∀ a,H a=none->a≠x->Q .non (upd (upd H x (.ext (Zd C x p a))) a (.xd [(f,y)]))
theorem zAv {P:zW}{w:zR}{K:PySem.W.Frag}{mg:Str->Option zB}{base:zJ}{qual:Str}{st:zT}{f fi:zA}{fd:jU}{a b n:Str}{C Y:zA}{d g:Str->Option zB}{i p2 pos pos':Pos} (F:Fun K "__init__" qual st f fd) (j:jF [a,b] [a,b] (zP st))
  (l:z4 st=[.Assign [.Attribute (.Name a i) n pos'] (.Name b p2) pos]) (m:XCls K C Y fi d g) (n1:d n=none) (n2:g n=none) (o:qy (.type "ValueError") n=pure none)
  (r:Vis (zP st) a) (t:Vis (zP st) b) (d1:(a == ("__debug__" : Str))=false) (u:(b == ("__debug__" : Str))=false) (c1:(a == ("__classdict__" : Str))=false) (c2:(b == ("__classdict__" : Str))=false)
  (v:∀ (c:zB) (loc:zA),j1 (.Name b p2) (some (.Attribute (.Name a i) n pos')) pos.line (qF qual (zP st) loc f c)=pure false):zj P w K mg base CX0 1 f fd [a,b] (spI C n):=by
 refine F.ok (k:=0) j (λz H Q E h=>?_) (λc A outer s H z Q E B h=>?_)
 ·obtain⟨x,p,y,rfl,_⟩:=h;rfl
 ·obtain⟨x,p,y,rfl,e,q⟩:=h;rw[l];refine⟨uN C n (X3 0) (X3 1),vx (zCa m n1 n2 o (Kq rfl r d1 c1) (Kq rfl t u c2) (v c _)),?_⟩;exact⟨y,rfl,.ref x,rfl,x,p,rfl,e,q⟩
end L2
namespace L2
open PySem PySem.Spec PyProof.Rows
noncomputable def zDV (C:zA) (n:Str) (E:XK) (t:TA):TS:=λ_ σ H=>t σ H λc b=>∃ y,c=[y]/\∀ a,b a=none->E (.ref C) (some a) (upd b a (.xd [(n,y)]))
theorem zAm {X:Cx}{E:XK}{C Y fi:zA}{mC mY:Str->Option zB}{n x:Str}{k:Nat}{fd:jU}{ps:List Str}{e:zF}{es:List zF}{t:TA}{np cp pos:Pos} (W:jH X E) (hc:X.calm=true) (xc:XCls X.K C Y fi mC mY) (F:zj X.prog X.w X.K X.mg X.base CX0 k fi fd ps (spI C n)) (hr:za (k+1) X.A) (hb:qY X.K fd ps []) (hg:Gl X x) (hm:X.mg x=some (.ref C)) (ha:PA X (e::es) t) (L:(x == ("__debug__" : Str))=false:=by decide)
  (he:zn (e::es) X.env=(false,eval e X.env)::zn es X.env:=by rfl) (M:(ja cp (zn (e::es) X.env)).any (·.1)=false:=by rfl):PS X (.Raise (some (.Call (.Name x np) (e::es) [] cp)) none pos) (zDV C n E t):=by
 intro f s σ H D I h;refine TE.zEl (fi:=fi) PySem.F.excBase_ValueError (I.ok.hd hc) M (kF I hg hm ⟨rfl,?_⟩ L);have j:=ha cp f s σ H _ I h;rw[he] at j ⊢;refine zDd (thn j λus s1 ⟨vs,g,G,r,y,hv,q⟩=>?_);subst hv;obtain⟨u,rfl,ru⟩:=ZJ r;refine⟨rfl,by rw[Z0];simp,xc.cl s1.heap G.kIn,?_⟩;have O:g (s1.heap.objs.size+1)=none:=G.hok.fresh (Jw _);have P:=TE.uS (m:=s1.heap) (C:=C) (us:=[u]);have i:Inv X f σ (upd g (s1.heap.objs.size+1) (.ext (Qd C (s1.heap.objs.size+1) s1.heap.objs.size))) { s1 with heap:=TE.laid s1.heap C [u],toks:=s1.toks } :=
  G.laid (λb ob q=>TE.Jz q) (Jw _) ⟨P,⟨_,P⟩,λh1 h2 z1 l=>l _ z1⟩
 obtain⟨a,o⟩:∃ a,a=s1.heap.objs.size+1:=⟨_,rfl⟩
 rw[<- o] at i O P ⊢;have p:([.ref a,u]:List zB).length=ps.length:=by
  have:=F.len [.ref a,y] (upd g a (.ext (Qd C a s1.heap.objs.size))) (λ_ _=>True) E0 ⟨a,s1.heap.objs.size,y,rfl,jr,λ_ _ _=>trivial⟩;rw[<- this];rfl
 have run:=F.run (X.A.under (.builtin "type.__call__" ⟨.ref C::[u],[]⟩)) X.stack _ _ ⟨[.ref a,u],[]⟩ [.ref a,u] [.ref a,y] (λv J=>v=.non/\∃ c,g c=none/\c≠a/\J=upd (upd (upd g a (.ext (Qd C a s1.heap.objs.size))) a (.ext (Zd C a s1.heap.objs.size c))) c (.xd [(n,y)])) E0 (hr.make C [u] []) (i.env0.make C [u] []) (.inl i.tk)
  (by have:=hb { s1 with heap:=TE.laid s1.heap C [u],toks:=s1.toks } [.ref a,u] i.kIn (by rw[jP];exact p);rwa [jP] at this) (.cons rfl (.cons ru .nil))
  ⟨a,s1.heap.objs.size,y,rfl,jr,λc Q d=>⟨rfl,c,by rwa [zc d] at Q,d,rfl⟩⟩
 refine Xt (x8 (ua (n:=1) i.tk run) λres s' ⟨R,B⟩=>?_);cases res with
 | error e=>exact zd B
 | ok fl =>
  cases fl with
  | ret v =>
   obtain⟨v',J,S,rv,U,c,Q,d,hH⟩:=i.after B R;subst U;have e3:J a=some (.ext (Zd C a s1.heap.objs.size c)):=by rw[hH,zc d.symm,jr]
   have ob:Zd C a s1.heap.objs.size c s'.heap:=(S.hok a _ e3).1;have V:dn J a=upd g c (.xd [(n,y)]):=by
    funext b
    by_cases z:b=a
    ·rw[z,vq,zc d.symm,O]
    ·rw[Z4 z,hH];by_cases l:b=c
     ·rw[l,jr,jr]
     ·rw[zc l,zc l,zc z,zc z]
   refine⟨rv,?_,⟨some c,#[],s1.heap.objs.size,ob⟩,?_⟩
   ·obtain⟨nm,q,N,bs,sn,sub,ab,Z,dd,k0,k1,k2,k3,k5,nw,cl,_⟩:=(xc.two s'.heap S.kIn).lo;exact⟨nm,q,N,bs,_,true,sn,sub,ab,Z,dd,k0,k1,k2,k3,k5,nw,cl,by simp⟩
   ·have I4:=S.drop e3;rw[V] at I4;refine W.leave I4 ⟨_,none,⟨_,ob,rfl,rfl⟩,rfl,rfl,?_,?_,λT z=>by cases z⟩ (q c Q)
    ·rw[o];exact zx G.sz (Jw _)
    ·rw[zc d.symm];exact O
  | next=>exact zd B
  | brk=>exact zd B
  | cont=>exact zd B
end L2
namespace L2
open PySem PySem.Spec PyProof.Rows
section
variable {X:Cx}{Θ:Tab}{E:XK}
theorem u2 {C Y fi:zA}{B G:Str->Option zB}{n x:Str}{k c:Nat}{fd:jU}{ps:List Str}{e:zF}{es:List zF}{m:M.AM}{np cp pos:Pos} (W:jH X E) (I:X.calm=true) (J:XCls X.K C Y fi B G) (F:zj X.prog X.w X.K X.mg X.base CX0 k fi fd ps (spI C n)) (j:Θ c=some (C,[n])) (L:za (k+1) X.A) (N:qY X.K fd ps []) (O:Gl X x) (f:X.mg x=some (.ref C)) (ha:MA X (Θ.w E) (e::es) m) (ar:q0 m 1) (o:(x == ("__debug__" : Str))=false:=by decide)
  (P:zy e=true:=by rfl) (p:(ja cp (zn (e::es) X.env)).any (·.1)=false:=by rfl):MS X (Θ.w E) (.Raise (some (.Call (.Name x np) (e::es) [] cp)) none pos) (M.Qv c m) :=
 (zAm W I J F L N O f ha o (qO P) p).imp λD σ H ⟨g,b,S,st,Q,h⟩=>⟨g,b,S,st,Q,by
  have h':zh X.K (Θ.w E) g H ((m b S).stm b λxs s=>.exc (.tup (.int c::xs)) b s) D:=h;cases f:m b S with
  | no=>rw[f] at h';exact h'.elim
  | exc a s=>rw[f] at h';exact (show qP X.K (Θ.w E) g H a s from h')
  | ok u R =>
   rw[f] at h';have q:qP X.K (Θ.w E) g H (.tup (.int c::u)) R:=h';intro r V T U l1 t i;have l:=ar _ _ _ _ f;have l2:=i.length
   match u,T,l,l2,i,q with
   | [d],[y],_,_,i,q =>
    refine⟨y,rfl,λv z=>?_⟩;have le:=Le.new z (.xd [(n,y)]);exact q r _ C (some v) U (l1.trans le) (t.aside z _) ⟨c,[d],[n],rfl,j,.inr ⟨v,[y],rfl,jr,rfl,i.mono (jN _) le⟩⟩⟩
end
section
variable {X:Cx}{pins:List (zA×Obj)}{σ:St}{H:Hp}{s:zD}{x:zA}{oe:Obj}{t:Option zA}
theorem Inv.gone0 {j:zJ} (I:Inv X pins σ H s) (st:X.stack=X.env::X.outer) (fr:X.env.frame=some X.env.locals) (K:TE.Tr s.heap x oe t) (R:X.s₀.heap.objs.size <= x) (S:H x=none) (Q:∀ T,t=some T->X.s₀.heap.objs.size <= T/\H T=none)
  (U:∀ p∈X.pn++pins,p.1≠x/\t≠some p.1)
  (far:∀ b o,s.heap.get? b=some o->b≠x->t≠some b->b∉frs (X.env::X.outer)->j.get? b=some o) (k:∀ b o,s.heap.get? b=some o->b≠x->t≠some b->b∈frs (X.env::X.outer)->∃ h,j.get? b=some { o with slots:=h }):Inv X pins σ H { s with heap:=j }:=by
 have l:=I.stkFree;rw[st] at l;obtain⟨V,W,Y,_⟩:=K.at;have q:∀ b o,s.heap.get? b=some o->(∀ L,o.data≠.fields L)->b≠x/\t≠some b:=λb o a w=>by
  refine⟨λz=>?_,λz=>?_⟩
  ·rw[z,W] at a;cases a;exact w V Y
  ·rw[z] at K;obtain⟨_,ot,Z,_,_,_,_,gT,dT,_⟩:=K;rw[gT] at a;cases a;exact w Z dT
 have fra:∀ b o,s.heap.get? b=some o->b≠x->t≠some b->∃ h,j.get? b=some { o with slots:=h }:=λb o a n1 n2=>by
  by_cases G:b∈frs (X.env::X.outer)
  ·exact k b o a n1 n2 G
  ·exact⟨o.slots,far b o a n1 n2 G⟩
 have L0:X.s₀.heap.objs.size <= X.env.locals:=I.ok.above;have A:∀ b,b∈frs (X.env::X.outer)->b=X.env.locals\/b∈frs X.outer:=λb a=>by
  unfold frs at a;rw[JX,fr] at a;exact List.mem_cons.mp a
 have d:∀ b o,X.s₀.heap.get? b=some o->b≠x/\t≠some b/\b≠X.env.locals:=λb o a=>by
  have:=ze a;exact⟨z5 (zv this R),λz=>qc _ (zv this (Q b z).1),z5 (zv this L0)⟩
 have tracked:∀ b u,H b=some u->∀ o,s.heap.get? b=some o->j.get? b=some o:=λb u e o a=>far b o a (λz=>by rw[z,S] at e;cases e) (λz=>by rw[(Q b z).2] at e;cases e) λz=>by rw[l b z] at e;cases e
 have f:∀ c v,s.heap.IsCell c v->j.IsCell c v:=λc v ⟨o,B,hd⟩=>by
  obtain⟨n1,n2⟩:=q c o B λL z=>by rw[hd] at z;cases z
  obtain⟨h,e⟩:=fra c o B n1 n2;exact⟨_,e,hd⟩
 refine⟨I.ok,I.os,I.bare,⟨?_,?_,I.base.free,?_,I.base.tups,I.base.frzs,I.base.tbls⟩,?_,?_,I.free,I.freeC,λp hp=>?_,λb u e=>?_,I.len,I.tk⟩
 ·intro b o a n w g;obtain⟨C,D,M⟩:=d b o a;exact far b o (I.base.keep b o a n w g) C D λz=>(A b z).elim M w
 ·intro b o a n G g;obtain⟨C,D,M⟩:=d b o a;obtain⟨h,N⟩:=I.base.slot b o a n G g;obtain⟨O,E⟩:=fra b _ N C D;exact⟨O,E⟩
 ·intro b o a g;obtain⟨C,D,M⟩:=d b o a;obtain⟨o',N⟩:=I.base.there b o a g;obtain⟨h,E⟩:=fra b o' N C D;exact⟨_,E⟩
 ·obtain⟨m,⟨o,es,ep,B,hd,r⟩,lk⟩:=I.loc;obtain⟨n1,n2⟩:=q _ o B λL z=>by rw[hd] at z;cases z
  obtain⟨h,E⟩:=fra _ o B n1 n2;refine⟨m,⟨_,es,ep,E,hd,r⟩,λi y v a1 a2 a3=>?_⟩;obtain⟨u,b1,F⟩:=lk i y v a1 a2 a3;refine⟨u,b1,?_⟩;rcases F with F | ⟨F,c,b3,b4⟩
  ·exact .inl F
  ·exact .inr ⟨F,c,b3,f c _ b4⟩
 ·intro y c e;obtain⟨v,J⟩:=I.cell y c e;exact⟨v,f c v J⟩
 ·obtain⟨a1,a2,a3,a4,a5⟩:=I.pin p hp;obtain⟨n1,n2⟩:=U p hp;refine⟨far p.1 p.2 a1 n1 n2 λz=>(A p.1 z).elim a3 a4,a2,a3,a4,a5⟩
 ·refine (I.hok b u e).stay (λc v P J=>?_) (λ_ z=>z) λ_ _ z=>z;rcases P with rfl | P
  ·exact tracked _ u e v J
  ·exact tracked c _ P v J
theorem Inv.gone {a:zJ} (I:Inv X pins σ H s) (st:X.stack=X.env::X.outer) (fr:X.env.frame=some X.env.locals) (b:TE.Tr s.heap x oe t) (c:X.s₀.heap.objs.size <= x) (d:H x=none) (e:∀ T,t=some T->X.s₀.heap.objs.size <= T/\H T=none)
  (f:∀ p∈X.pn++pins,p.1≠x/\t≠some p.1) (g:TE.kX (X.env::X.outer) x t oe s.heap a):Inv X pins σ H { s with heap:=a }:=I.gone0 st fr b c d e f g.far g.fra
end
end L2
namespace L2
open PySem PySem.Spec PyProof.Rows
noncomputable abbrev Cx.xw (X:Cx) (xe:zB->zD->Prop):Cx:={ X with xe:=xe }
section
variable {X:Cx}{pins:List (zA×Obj)}{σ:St}{H:Hp}{s:zD}{xe:zB->zD->Prop}
theorem Inv.xw (I:Inv X pins σ H s):Inv (X.xw xe) pins σ H s :=
 have o:=I.ok
 ⟨⟨o.mod,o.kind,o.glob,o.blt,o.above,o.inj,o.has,o.cab,o.hd,o.frames,o.stk,o.exf,o.bs,o.bsz,o.noex,o.exfs,o.funs,o.frf⟩,I.os,I.bare,I.base,I.loc,I.cell,I.free,I.freeC,I.pin,I.hok,I.len,I.tk⟩
theorem Inv.unxw (I:Inv (X.xw xe) pins σ H s):Inv X pins σ H s :=
 have o:=I.ok
 ⟨⟨o.mod,o.kind,o.glob,o.blt,o.above,o.inj,o.has,o.cab,o.hd,o.frames,o.stk,o.exf,o.bs,o.bsz,o.noex,o.exfs,o.funs,o.frf⟩,I.os,I.bare,I.base,I.loc,I.cell,I.free,I.freeC,I.pin,I.hok,I.len,I.tk⟩
theorem wx {M:yT}{A:zZ}{E:zB->zD->Prop}{j:Nat}{x:Str}{pos:Pos}{Q:Unit->zD->Prop} (I:Inv X pins σ H s) (F:X.N.Nodup) (hi:X.N[j]? = some x) (G:X.env.scope.names.lookup x=some .local)
  (h:∀ s',Inv X pins (σ.set j none) H s'->Q () s'):wpAny M A (do bindName X.env x .none;unbindBehindTheSuite X.env x pos) Q E s:=by
 obtain⟨m,hn,J⟩:=id I.loc;have g:(X.env.scope.kind == .class || (X.env.scope.kind == .module && X.env.locals != X.env.globals))=false:=by rw[I.ok.kind];rfl
 have l:j < σ.length:=by rw[I.len];exact (List.getElem?_eq_some_iff.mp hi).1
 have cne:=I.cne;refine wpAny_nameGoes_keeps G hn g λh' v w a=>?_;refine h _ ⟨I.ok,I.os,I.bare,⟨λb o e n B r=>?_,λb o e n B r=>?_,I.base.free,λb o e r=>?_,I.base.tups,I.base.frzs,I.base.tbls⟩,⟨_,w,λi y K f t L=>?_⟩,λy c e=>?_,I.free,I.freeC,λp hp=>?_,λb ob e=>?_,by simpa using I.len,qQ _⟩
 ·exact (a.2 b (z5 (zv (ze e) I.ok.above))).trans (I.base.keep b o e n B r)
 ·obtain⟨O,f⟩:=I.base.slot b o e n B r;exact⟨O,(a.2 b (z5 (zv (ze e) I.ok.above))).trans f⟩
 ·obtain⟨P,f⟩:=I.base.there b o e r;exact⟨P,(a.2 b (z5 (zv (ze e) I.ok.above))).trans f⟩
 ·by_cases C:i=j
  ·subst C;rw[QG l] at t;cases t
  ·rw[ZR (qM C)] at t;obtain⟨R,r',q⟩:=J i y K f t L;refine⟨R,r',?_⟩;rcases q with ⟨k,e⟩ | ⟨k,c,e,z⟩
   ·refine .inl ⟨k,?_⟩;have:y≠x:=λe=>C (Xv F f (e ▸ hi));simp[this,e]
   ·exact .inr ⟨k,c,e,z.sameBut a (cne y c e)⟩
 ·obtain⟨D,z⟩:=I.cell y c e;exact⟨D,z.sameBut a (cne y c e)⟩
 ·obtain⟨e,n,ne,S,d⟩:=I.pin p hp;exact⟨(a.2 p.1 ne).trans e,n,ne,S,d⟩
 ·refine (I.hok b ob e).stay (λc D u q=>(a.2 c ?_).trans q) (λ_ q=>q) λ_ _ q=>q
  rintro rfl
  have fr:=I.free;rcases u with z | u
  ·rw[<- z,fr] at e;cases e
  ·rw[fr] at u;cases u
end
theorem zEi {v:V}{u:zB} (r:zY v u):Yu u=pure u:=by
 have h:=W3 r;cases u<;>first | rfl | (unfold PySem.W.handedIn at h;simp_all [Yu])
noncomputable def PX (X:Cx) (e:zF) (te:XK->TE):Prop :=
 ∀ (a:List (zA×Obj)) (s:zD) (σ:St) (H:Hp) (Q:VK) (E:XK) (b:zB->zD->Prop),Inv X a σ H s->te E σ H Q ->
  (∀ c s1 v s',Inv X a σ c s1->CX1 X.prog X.w X.stack c s1 E v s'->b v s')->wpAny (zN X.prog X.w) X.A (eval e X.env) (EP X a σ Q) b s
section
variable {X:Cx}{k:Nat}{f:zA}{fd:jU}{ps:List Str}{sp:Sp}{x:Str}{p pos:Pos}{e:zF}{es:List zF}{t:TA}
theorem zCy (F:zj X.prog X.w X.K X.mg X.base (CX1 X.prog X.w) k f fd ps sp) (v:za k X.A) (y:Gl X x) (z:X.mg x=some (.ref f)) (B:PySem.W.keepIn X.K (.ref f)=true) (C:qY X.K fd ps [])
  (ha:∀ xe,PA (X.xw xe) (e::es) t) (d:(x == ("__debug__" : Str))=false:=by decide) (D:zn (e::es) X.env=(false,eval e X.env)::zn es X.env:=by rfl) (g:(ja pos (zn es X.env)).any (·.1)=false:=by rfl) :
  PX X (.Call (.Name x p) (e::es) [] pos) (λE=>Jt sp [] E t):=by
 intro b s σ H Q E G I h J;refine kQ (kF I y z ?_ d);refine PySem.W.callWith_K (h₀:=X.base) I.ok.mod.kin B (thn (ha G pos b s σ H _ I.xw h) λus s1 ⟨m,i,j,r,q⟩=>?_) D g;have a:=j.unxw;refine⟨a.kIn,?_⟩;have L:us.length=ps.length:=by
  have o:=F.len _ _ _ _ q;rw[jP] at o;rw[<- r.length];exact o
 have q:sp (m++[]) i Q E:=q;rw[jP] at q;refine Xt (x8 (ua (n:=1) a.tk (F.run X.A X.stack s1 i ⟨us,[]⟩ us m Q E v a.env0 (.inl a.tk) (by have:=C s1 us a.kIn (by rw[jP];exact L);rwa [jP] at this) r q)) λr s' ⟨l,c⟩=>?_);cases r with
 | error e=>exact J i s1 e s' a c
 | ok fl =>
  cases fl with
  | ret u=>exact a.after c l
  | next=>exact zd c
  | brk=>exact zd c
  | cont=>exact zd c
end
noncomputable def zDa (C:zA) (f:Str) (iy je iz:Nat) (te:XK->TE):TS:=λD σ H =>
 te (λcls c a=>∃ b v,cls=.ref C/\c=some b/\a b=some (.xd [(f,v)])/\D.nx ((σ.set je none).set iz (some v)) a) σ H λv a=>D.nx (σ.set iy (some v)) a
section
variable {X:Cx}{C Y fi:zA}{mC mY:Str->Option zB}{f c n y z:Str}{iy je iz:Nat}{e:zF}{te:XK->TE}{yp ap cp zp np fp bp hp pos:Pos}
theorem zAK (st:X.stack=X.env::X.outer) (fr:X.env.frame=some X.env.locals) (he:PX X e te) (xc:XCls X.K C Y fi mC mY) (hg:Gl X c) (hm:X.mg c=some (.ref C)) (P:X.N.Nodup)
  (hy:X.N[iy]? = some y) (ly:Loc X.env.scope y) (fy:X.fn y=true\/X.env.scope.names.lookup y=some .local)
  (hz:X.N[iz]? = some z) (lz:Loc X.env.scope z) (fz:X.fn z=true\/X.env.scope.names.lookup z=some .local)
  (hn:X.N[je]? = some n) (B:X.env.scope.names.lookup n=some .local) (F:je≠iz)
  (g1:mC "__getattribute__" = none) (g2:mY "__getattribute__" = none) (h1:mC "__getattr__" = none) (h2:mY "__getattr__" = none) (n1:mC f=none) (n2:mY f=none) (n3:qy (.type "ValueError") f=pure none)
  (R:(c == ("__debug__" : Str))=false) (S:(n == ("__debug__" : Str))=false)
  (U:j1 e (some (.Name y yp)) ap.line X.env=pure false) (V:j1 (.Attribute (.Name n np) f fp) (some (.Name z zp)) bp.line X.env=pure false)
  (W:q1 (.Name n np) f X.env (eval (.Name n np) X.env)=eval (.Name n np) X.env) :
  PS X (.Try [.Assign [.Name y yp] e ap] [.ExceptHandler (some (.Name c cp)) (some n) [.Assign [.Name z zp] (.Attribute (.Name n np) f fp) bp] hp] [] [] pos) (zDa C f iy je iz te):=by
 intro d s σ H D I h;refine wpAny_Try_except (vJ (uH (thn (he d s σ H _ _ _ I h λH1 s1 v s' G Z=>?_) λu s1 ⟨v,H1,G,r,q⟩=>xk G P hy ly r (λs2 k=>?_) fy) U))
 ·obtain⟨x,C',od,J,rfl,os,bare,un,hok,tk,⟨oe,t,tr,a2,a3,a4,a5,a6⟩,dx,v,hC,hod,hdx,q⟩:=Z;cases hC;subst hod;have k:Inv X d σ J s':=G.call' os un hok bare (λb z=>absurd z (by simp)) tk;have L:=k.ok.frames;have hl:=k.stack;rw[st] at L hl;have L0:X.s₀.heap.objs.size <= s1.heap.objs.size:=G.sz;have pl:∀ p∈X.pn++d,p.1 < s1.heap.objs.size:=λp hp=>ze (G.pin p hp).1;refine TE.Y4 L hl fr tr λm' g=>?_;have E:Inv X d σ J { s' with heap:=m' }:=k.gone st fr tr (zx L0 a4) a5 (λT z=>⟨zx L0 (a6 T z).1,(a6 T z).2⟩) (λp hp=>⟨z5 (zv (pl p hp) a4),λz=>qc _ (zv (pl p hp) (a6 _ z).1)⟩) g;obtain⟨oe3,T,b1,b2,l,b4⟩:=g.exc;have A:s'.heap.objs.size <= T:=b4;have hB:tlV.contains (.type "BaseException")=true:=by decide
  have hT:J T=none:=k.hok.fresh A;obtain⟨ve,ge,de,_⟩:=l.at;refine wpAny_handleBy_cons (codeAny_handlers_test (Y3 E.ok.kind hg (zB0 (by rw[E.ok.glob];exact E.mod.glob.keeps E.bk) hm ?_) R)) (by intro q;cases q);obtain⟨nm,qn,N,bs,sn,sub,ab,col,dd,k0,k1,k2,k3,k5,nw,cl,ns⟩:=(xc.two _ E.kIn).lo;refine wpAny_excMatches_sub_self cl ge (b1.trans a2) (by rw[ZY,hB,xA]) (codeAny_handlers_suite_as ?_);refine TE.kT l λm4 k4 tr4=>?_;have I4:Inv X d σ J { s' with heap:=m4 }:=Inv.gone0 (s:={ s' with heap:=m' }) E st fr l (zx L0 a4) a5 (λT' z=>by cases z;exact⟨zx k.sz A,hT⟩)
   (λp hp=>⟨z5 (zv (pl p hp) a4),λz=>by cases z;exact qc _ (zv (ze (k.pin p hp).1) A)⟩)
   (λb o hb _ nT _=>k4 b o hb λz=>nT (by rw[z])) (λb o hb _ nT _=>⟨o.slots,k4 b o hb λz=>nT (by rw[z])⟩)
  obtain⟨v4,j,i,_⟩:=tr4.at;refine KQ (v:=.ref x) I4 P hn (.inl B) rfl (λs5 M ⟨a,hsb,ha⟩=>?_) (.inr B);have ax:x≠a:=λz=>by
   rw[z] at j;rcases ha with z2 | z2
   ·obtain⟨m,⟨o,es,ep,Q,hd,_⟩,_⟩:=I4.loc;rw[<- z2] at Q;have:=Q.symm.trans j;cases this;rw[hd] at i;cases i
   ·obtain⟨w,o,Q,hd⟩:=I4.cell n a z2;have:=Q.symm.trans j;cases this;rw[hd] at i;cases i
  have ge5:s5.heap.get? x=some oe3:=(hsb.2 x ax).trans j;have lσ:je < σ.length:=by rw[I.len];exact (List.getElem?_eq_some_iff.mp hn).1
  obtain⟨m5,hn5,hl5⟩:=M.loc;obtain⟨u,ru,lk⟩:=hl5 je n (.ref x) hn (QG lσ) (.inl B);obtain rfl:u=jV x:=ru;obtain⟨mA,ns1,ro⟩:=M.hok dx _ hdx;obtain⟨u',hu,O⟩:=qt.some_of (v:=v) (o:=mA f) (by have:=ro f;simpa using this);have hk:X.env.kindOf n=some .local/\m5 n=some (.ref x):=by
   rcases lk with z | ⟨z | z,_⟩
   ·exact z
   ·have:=z.symm.trans B;cases this
   ·have:=z.symm.trans B;cases this
  refine vJ (uH (zFC W (vd (uV M.ok.kind hk.1 hn5 hk.2 ?_) S)) V);refine TE.zDT (xc.two _ M.kIn) hB g1 g2 h1 h2 (zEi O) n1 n2 n3 ge5 (b1.trans a2) (λc z=>by rw[i] at z;cases z) (b2.trans a3) ns1 hu ?_;refine xk (M.tok _) P hz lz O (λs6 I6=>?_) fz;refine wpAny_execs_nil ?_;refine wx I6 P hn B λs7 I7=>⟨_,J,I7,?_⟩
  rw[UF _ _ F,List.set_set,UF _ _ F.symm];exact q
 ·exact wpAny_execs_nil (wpAny_execs_nil ⟨_,H1,k,q⟩)
end
end L2
namespace L2
open PySem PySem.Spec PyProof.Rows
theorem ObR.w {K:PySem.W.Frag}{Θ:Tab}{E:XK}{b:List zA}{H:Hp}{a:zA}{o:M.O}:ObR K (Θ.w E) b H a o↔ObR K Θ b H a o:=by cases o<;>exact Iff.rfl
theorem zK.w {K:PySem.W.Frag}{Θ:Tab}{E:XK}{b:List zA}{S:M.S}{H:Hp} (h:zK K Θ b S H):zK K (Θ.w E) b S H:=⟨h.len,h.nd,λi o e=>let ⟨a,x,y⟩:=h.obj i o e;⟨a,x,ObR.w.mpr y⟩⟩
theorem zK.unw {K:PySem.W.Frag}{Θ:Tab}{E:XK}{b:List zA}{S:M.S}{H:Hp} (h:zK K (Θ.w E) b S H):zK K Θ b S H:=⟨h.len,h.nd,λi o e=>let ⟨a,x,y⟩:=h.obj i o e;⟨a,x,ObR.w.mp y⟩⟩
noncomputable def RdX (K:PySem.W.Frag) (Θ:Tab) (m:M.EM):XK->TE:=λE σ H Q=>∃ b a S,zw K b H a σ/\zK K (Θ.w E) b S H/\zE K (Θ.w E) (zI K) b H (m a S) Q
noncomputable abbrev MX (X:Cx) (Θ:Tab) (e:zF) (m:M.EM):Prop:=PX X e (RdX X.K Θ m)
@[irreducible] noncomputable def WX (X:Cx) (Θ:Tab) (e:zF) (m:M.EM):Prop:=MX X Θ e m
section
variable {X:Cx}{Θ:Tab}{pos p:Pos}{x:Str}{ps:List Str}{e:zF}{es:List zF}{f:M.F}{m:M.AM}{k kk n:Nat}
theorem wW (h:Z8 X.prog X.w X.K X.mg X.base x k ps (SpX X.K Θ n f)) (q:za kk X.A) (r:k <= kk) (u:Gl X x) (ha:∀ xe E,MA (X.xw xe) (Θ.w E) (e::es) m) (ar:q0 m n) (i:(x == ("__debug__" : Str))=false:=by decide)
  (v:zy e=true:=by rfl) (j:es.all zy=true:=by rfl):MX X Θ (.Call (.Name x p) (e::es) [] pos) (M.zQ f m):=by
 obtain⟨a,fd,F,y,kp,c⟩:=h.ex;intro g s σ H Q E z I ⟨d,b,S,st,B,h⟩ C;refine zCy (t:=λσ H Q=>∃ d b S,zw X.K d H b σ/\zK X.K (Θ.w E) d S H/\zE X.K (Θ.w E) (zL X.K) d H (m b S) Q) F (q.mono r) u c kp y (λxe=>ha xe E) i (qO v) (Z9 j) g s σ H Q E z I ⟨d,b,S,st,B,?_⟩ C;have h':zE X.K (Θ.w E) (zI X.K) d H ((m b S).bind λxs s=>f xs s) Q:=h;cases c:m b S with
 | no=>rw[c] at h';exact h'.elim
 | exc a s=>rw[c] at h';exact h'
 | ok D G =>
  rw[c] at h';intro l N O J l1 o L;rw[jP];exact⟨l,D,G,ar _ _ _ _ c,L,o,zE.weak h' J l1⟩
theorem w_mx_call (h:Z8 X.prog X.w X.K X.mg X.base x k ps (SpX X.K Θ n f)) (c:za kk X.A) (d:k <= kk) (g:Gl X x) (ha:∀ xe E,WA (X.xw xe) (Θ.w E) (e::es) m) (ar:q0 m n) (a:(x == ("__debug__" : Str))=false:=by decide)
  (i:zy e=true:=by rfl) (b:es.all zy=true:=by rfl):WX X Θ (.Call (.Name x p) (e::es) [] pos) (M.zQ f m):=by with_unfolding_all exact wW h c d g ha ar a i b
end
section
variable {X:Cx}{Θ:Tab}{C Y fi:zA}{mC mY:Str->Option zB}{f c n y z:Str}{iy je iz cn:Nat}{e:zF}{m:M.EM}{yp ap cp zp np fp bp hp pos:Pos}
theorem zDZ (st:X.stack=X.env::X.outer) (fr:X.env.frame=some X.env.locals) (Q:MX X Θ e m) (t:Θ cn=some (C,[f])) (R:XCls X.K C Y fi mC mY) (T:Gl X c) (U:X.mg c=some (.ref C)) (V:X.N.Nodup)
  (W:X.N[iy]? = some y) (Z:Loc X.env.scope y) (fy:X.fn y=true\/X.env.scope.names.lookup y=some .local)
  (hz:X.N[iz]? = some z) (lz:Loc X.env.scope z) (fz:X.fn z=true\/X.env.scope.names.lookup z=some .local)
  (hn:X.N[je]? = some n) (ln:X.env.scope.names.lookup n=some .local) (u:je≠iz)
  (g1:mC "__getattribute__" = none) (g2:mY "__getattribute__" = none) (h1:mC "__getattr__" = none) (h2:mY "__getattr__" = none) (n1:mC f=none) (n2:mY f=none) (n3:qy (.type "ValueError") f=pure none)
  (x:(c == ("__debug__" : Str))=false) (A:(n == ("__debug__" : Str))=false)
  (B:j1 e (some (.Name y yp)) ap.line X.env=pure false) (E:j1 (.Attribute (.Name n np) f fp) (some (.Name z zp)) bp.line X.env=pure false)
  (F:q1 (.Name n np) f X.env (eval (.Name n np) X.env)=eval (.Name n np) X.env) :
  MS X Θ (.Try [.Assign [.Name y yp] e ap] [.ExceptHandler (some (.Name c cp)) (some n) [.Assign [.Name z zp] (.Attribute (.Name n np) f fp) bp] hp] [] [] pos) (M.ZC cn iy je iz m):=by
 refine (zAK st fr Q R T U V W Z fy hz lz fz hn ln u g1 g2 h1 h2 n1 n2 n3 x A B E F).imp λD σ H ⟨G,g,S,I,rp,h⟩=>⟨G,g,S,I,rp.w,?_⟩
 unfold M.ZC at h;cases J:m g S with
 | no=>rw[J] at h;exact h.elim
 | ok d L =>
  rw[J] at h;intro i O b p l r o;exact h i O _ p l r.unw ((I.mono p l).set o iy)
 | exc a L =>
  rw[J] at h;show qP X.K _ G H a L;intro i O C' od p l r ⟨k,ds,N,ea,q,P⟩;subst ea;rcases P with ⟨rfl,_⟩ | ⟨dx,vs,rfl,j,hl,o⟩
  ·exact h.elim
  ·match ds,h with
   | [d],h =>
    have s:zh X.K Θ G H (if (k:Int)=cn then .nx ((g.set je none).set iz (some d)) L else .no) D:=h;by_cases z:(k:Int)=cn
    ·rw[if_pos z] at s;obtain rfl:k=cn:=Int.ofNat.inj z;have q:Θ k=some (C',N):=q;rw[t] at q;cases q
     match vs,o,hl,j with
     | [v],o,_,j =>
      obtain⟨w,ws,ev,rv,_⟩:=o;cases ev;exact⟨dx,v,rfl,rfl,j,s i O _ p l r.unw (((I.mono p l).forget je).set rv iz)⟩
    ·rw[if_neg z] at s;exact s.elim
end
end L2
namespace L2
open PySem PySem.Spec PyProof.Rows
theorem qP.gc {K:PySem.W.Frag}{Θ:Tab}{f:List zA}{H:Hp}{S g:M.S}{d:M.D} (c:M.clS S.length S=true) (x:M.D.cl S.length d=true) (m:zK K Θ f S H) (h:qP K Θ f H d S):qP K Θ f H d (S++g):=by
 intro n y C z p l A ⟨k,u,N,v,B,r⟩;have b:∀ (i j:Nat) a,(jA S.length)[i]? = some j->n[j]? = some a->f[i]? = some a:=λi j a E F=>by
  obtain⟨hi,e⟩:=List.getElem?_eq_some_iff.mp E;have s:i < S.length:=by simpa using hi
  have G:i=j:=by simpa using e
  subst G;have w:i < f.length:=by rw[m.len];exact s
  have:=JA p (qU w);rw[F] at this;rw[qU w,<- this]
 refine h f y C z (jN _) l ⟨m.len,m.nd,λi o q=>?_⟩ ⟨k,u,N,v,B,r.imp id λ⟨I,J,a1,a2,a3,a4⟩=>⟨I,J,a1,a2,a3,?_⟩⟩
 ·have hi:i < S.length:=(List.getElem?_eq_some_iff.mp q).1;obtain⟨a,x1,L⟩:=A.obj i o (by rw[qe hi];exact q);refine⟨a,b i i a (by rw[xT hi]) x1,ObR.unren (e:=jA S.length) b (by rw[Zm];exact M.Ki c q) (by rw[M.O.ren_id (M.Xb _)];exact L)⟩
 ·refine zL.unren (e:=jA S.length) b ?_ (by rw[M.D.rens_id (M.Xb _)];exact a4);rw[Zm];subst v;have t:(M.D.cl S.length (.int k) && M.D.cl.all S.length u)=true:=x;exact (jG _ _ ▸ t).2
section
variable {P:zW}{w:zR}{K:PySem.W.Frag}{mg:Str->Option zB}{base:zJ}{Θ:Tab}
theorem zAR {x qual:Str}{st:zT}{f:zA}{fd:jU}{N ps:List Str}{k:Nat}{b:M.SM}{q:M.F} (F:Fun K x qual st f fd) (t:jF N ps (zP st)) (u:M.JL ps.length (M.fn N.length b) q)
  (a:∀ (c:zB) (A:zZ) (outer:List Env) (s:zD) (H:Hp) (E:XK),za k (A.deeper (qF qual (zP st) s.heap.objs.size f c)) ->
   jH (jx (CX1 P w) P w K mg base N qual (zP st) f c A outer s H E) E->MSs (jx (CX1 P w) P w K mg base N qual (zP st) f c A outer s H E) (Θ.w E) (z4 st) b):zj P w K mg base (CX1 P w) (k+1) f fd ps (SpX K Θ ps.length q):=by
 refine (zFc (Θ:=Θ) F t a).imp λy H Q E ⟨v,o,S,p,r,i,h⟩=>⟨v,o,S,p,r,i,?_⟩
 rcases u o S p i.cl (i.len ▸ r.cl) with e | ⟨d,z,B,C,j,l,m,n⟩ | ⟨d,g,j,l,n⟩
 ·rw[e] at h;exact h.elim
 ·rw[j] at h;rw[l];exact zE.gc m n i h
 ·rw[j] at h;rw[l];exact qP.gc i.cl n i h
theorem w_fun_XR {x qual:Str}{st:zT}{f:zA}{fd:jU}{N ps:List Str}{k:Nat}{b:M.SM}{q:M.F} (F:Fun K x qual st f fd) (d:jF N ps (zP st)) (e:M.JL ps.length (M.fn N.length b) q)
  (a:∀ (c:zB) (A:zZ) (outer:List Env) (s:zD) (H:Hp) (E:XK),za k (A.deeper (qF qual (zP st) s.heap.objs.size f c)) ->
   jH (jx (CX1 P w) P w K mg base N qual (zP st) f c A outer s H E) E->WSs (jx (CX1 P w) P w K mg base N qual (zP st) f c A outer s H E) (Θ.w E) (z4 st) b):zj P w K mg base (CX1 P w) (k+1) f fd ps (SpX K Θ ps.length q):=by with_unfolding_all exact zAR (x:=x) (qual:=qual) (st:=st) (f:=f) (fd:=fd) (N:=N) (ps:=ps) (k:=k) (b:=b) (q:=q) F d e a
theorem Has.wish {x:Str}{k n:Nat}{ps:List Str}{f q:M.F}{E:XK} (h:Has P w K mg base x k ps (SpM K Θ n q)) (o:M.jD n f q):Has P w K mg base x k ps (SpM K (Θ.w E) n q):=by
 obtain⟨a,fd,F,z⟩:=h.ex;refine⟨a,fd,F.imp λy H Q A ⟨s,j,S,m,r,c,h⟩=>⟨s,j,S,m,r,c.unw,?_⟩,z⟩;rcases o j S m c.unw.cl (c.len ▸ r.cl) with e | ⟨d,B,C,D,t,_⟩
 ·rw[e] at h;exact h.elim
 ·rw[t] at h ⊢;intro g u b p l i v;exact h g u b p l i.w v
end
section
variable {X:Cx}{Θ:Tab}{e:zF}{m:M.EM}
theorem zDO (h:MX X Θ e m) (i:∀ a b c,¬ Θ.x a b c):ME X Θ e m:=λd s σ H Q I ⟨j,f,S,st,k,q⟩=>h d s σ H Q Θ.x X.xe I ⟨j,f,S,st,k,q⟩ λl s1 v s' _ g=>by
 obtain⟨_,_,_,_,_,_,_,_,_,_,_,z⟩:=g;exact (i _ _ _ z).elim
theorem w_me_ofX (h:WX X Θ e m) (d:∀ a b c,¬ Θ.x a b c):WE X Θ e m:=by with_unfolding_all exact zDO h d
end
end L2
namespace L2
open PySem PySem.Spec PyProof.Rows
noncomputable def isS:zB->Bool
 | .str _ _=>true
 | _=>false
noncomputable def kE (K:PySem.W.Frag) (N:zA):Bool:=match K.lookup N with
 | some ⟨_,_,.dict es _,_⟩=>es.toList.all λe=>isS e.key
 | _=>false
noncomputable def xNo (K:PySem.W.Frag) (N:zA) (n:Str):Bool:=match PySem.W.nsIn K N n with
 | some none=>true
 | _=>false
noncomputable def qq (f:Str):List Str:=["__setattr__","__getattribute__","__getattr__",f]
noncomputable def xIn (K:PySem.W.Frag) (C Y fi:zA) (f:Str):Bool:=match K.lookup C with
 | some ⟨.type "type",_,.cls b,d⟩=>(match b.mro,d.toList with
  | [.ref e,.ref g,.type "ValueError",.type "Exception",.type "BaseException",.type "object"],[_,_,_,_,some (.builtin h),_]=>(match K.lookup Y with
   | some ⟨_,_,.cls c,_⟩=>e == C && g == Y && h == "ValueError.__new__" && !b.hasDel && b.hasDict && kE K b.ns && kE K c.ns && (qq f).all (xNo K b.ns) && (qq f).all (xNo K c.ns) && xNo K c.ns "__init__" &&
    (match PySem.W.nsIn K b.ns "__init__" with | some (some (.ref a))=>a == fi | _=>false) && (match K.lookup fi with | some ⟨.type "function",_,_,_⟩=>true | _=>false)
   | _=>false)
  | _,_=>false)
 | _=>false
theorem V4 {K:PySem.W.Frag}{N:zA} (q:kE K N=true):∃ m,(∀ h:zJ,K.In h->h.Ns N m)/\∀ n r,PySem.W.nsIn K N n=some r->m n=r:=by
 unfold kE at q;split at q
 ·rename_i c d es b i a;refine⟨nsFind es,λh X=>⟨_,es,b,X _ _ a,rfl,λe f=>?_,λ_=>rfl⟩,λn r e=>?_⟩
  ·have:=List.all_eq_true.mp q e (Array.mem_toList_iff.mpr f);cases g:e.key<;>rw[g] at this<;>first | exact⟨_,_,rfl⟩ | cases this
  ·obtain⟨l⟩:=es;unfold PySem.W.nsIn at e;rw[a] at e;dsimp only at e;unfold nsFind findBy;rw[List.find?_toArray];split at e
   ·rename_i j h';rw[h'];exact yf e
   ·rename_i h';rw[h'];split at e
    ·cases e
    ·exact yf e
 ·cases q
theorem KU {K:PySem.W.Frag}{N:zA}{n:Str} (q:xNo K N n=true):PySem.W.nsIn K N n=some none:=by
 unfold xNo at q;split at q
 ·assumption
 ·cases q
structure Yc (K:PySem.W.Frag) (C Y fi:zA) (mC mY:Str->Option zB) (f:Str):Prop extends XCls K C Y fi mC mY where
 g1:mC "__getattribute__" = none
 g2:mY "__getattribute__" = none
 a1:mC "__getattr__" = none
 a2:mY "__getattr__" = none
 n1:mC f=none
 n2:mY f=none
theorem Wo {K:PySem.W.Frag}{C Y fi:zA}{f:Str} (q:xIn K C Y fi f=true):∃ d g,Yc K C Y fi d g f:=by
 unfold xIn at q;split at q
 ·rename_i w M x y;split at q
  ·rename_i C' Y' o k1 k2 k3 nw k5 z A;split at q
   ·rename_i N O P p B;simp only[jG,beq_iff_eq,Bool.not_eq_true'] at q;obtain⟨⟨⟨⟨⟨⟨⟨⟨⟨⟨⟨rfl,rfl⟩,rfl⟩,c⟩,b⟩,Q⟩,R⟩,r⟩,s⟩,S⟩,t⟩,i⟩:=q;obtain⟨d,u,D⟩:=V4 Q;obtain⟨g,E,G⟩:=V4 R;have k:∀ n∈qq f,d n=none:=λn hn=>D n none (KU (List.all_eq_true.mp r n hn));have m:∀ n∈qq f,g n=none:=λn hn=>G n none (KU (List.all_eq_true.mp s n hn));have T:g "__init__" = none:=G _ none (KU S);have U:d "__init__" = some (.ref fi):=by
     split at t
     ·rename_i a ha;have e:a=fi:=by simpa using t
      subst e;exact D _ _ ha
     ·cases t
    obtain⟨H,bs,V,ns,I,hd,J,sub,L,j,Z⟩:=M;dsimp only at z c b u;subst z c b;have v:x = #[o,k1,k2,k3,some (.builtin "ValueError.__new__"),k5]:=by
     obtain⟨l⟩:=x;simp only at A;rw[A]
    subst v;refine⟨d,g,⟨⟨λh X=>⟨PySem.F.excBase_ValueError.mroIs,⟨H,I,ns,bs,J,sub,L,j,w,o,k1,k2,k3,k5,_,X _ _ y,u h X⟩,⟨N,O,P,p,X _ _ B,E h X⟩⟩,λh X=>?_,k _ (by simp[qq]),m _ (by simp[qq])⟩,k _ (by simp[qq]),m _ (by simp[qq]),k _ (by simp[qq]),m _ (by simp[qq]),k _ (by simp[qq]),m _ (by simp[qq])⟩⟩;split at i
    ·rename_i x1 x2 x3 hf;exact⟨⟨H,I,ns,bs,_,true,J,sub,L,j,w,o,k1,k2,k3,k5,d,_,X _ _ y,u h X,U,.own (X _ _ B) (E h X) T .base,X _ _ hf,rfl⟩⟩
    ·cases i
   ·cases q
  ·cases q
 ·cases q
structure J5 (P:zW) (w:zR) (K:PySem.W.Frag) (mg:Str->Option zB) (base:zJ) (C:zA) (x:Str) (k:Nat) (ps:List Str) (f:Str):Prop where
 ex:∃ Y fi fd mC mY,Yc K C Y fi mC mY f/\zj P w K mg base CX0 k fi fd ps (spI C f)/\qY K fd ps []/\mg x=some (.ref C)/\qy (.type "ValueError") f=pure none
section
variable {X:Cx}{Θ:Tab}{E:XK}{C:zA}
theorem zFB {n x:Str}{k kk c:Nat}{ps:List Str}{e:zF}{es:List zF}{m:M.AM}{np cp pos:Pos} (h:J5 X.prog X.w X.K X.mg X.base C x k ps n) (W:jH X E) (f:X.calm=true) (a:Θ c=some (C,[n])) (g:za kk X.A) (i:k+1 <= kk) (j:Gl X x) (ha:MA X (Θ.w E) (e::es) m) (ar:q0 m 1) (b:(x == ("__debug__" : Str))=false:=by decide)
  (l:zy e=true:=by rfl) (d:(ja cp (zn (e::es) X.env)).any (·.1)=false:=by rfl):MS X (Θ.w E) (.Raise (some (.Call (.Name x np) (e::es) [] cp)) none pos) (M.Qv c m):=by
 obtain⟨Y,fi,fd,r,s,o,F,p,q,_⟩:=h.ex;exact u2 W f o.toXCls F a (g.mono i) p j q ha ar b l d
theorem w_ms_raiseE {n x:Str}{k kk c:Nat}{ps:List Str}{e:zF}{es:List zF}{m:M.AM}{np cp pos:Pos} (h:J5 X.prog X.w X.K X.mg X.base C x k ps n) (W:jH X E) (f:X.calm=true) (a:Θ c=some (C,[n])) (g:za kk X.A) (i:k+1 <= kk) (j:Gl X x) (ha:WA X (Θ.w E) (e::es) m) (ar:q0 m 1) (b:(x == ("__debug__" : Str))=false:=by decide)
  (l:zy e=true:=by rfl) (d:(ja cp (zn (e::es) X.env)).any (·.1)=false:=by rfl):WS X (Θ.w E) (.Raise (some (.Call (.Name x np) (e::es) [] cp)) none pos) (M.Qv c m):=by with_unfolding_all exact zFB (n:=n) (x:=x) (k:=k) (kk:=kk) (c:=c) (ps:=ps) (e:=e) (es:=es) (m:=m) (np:=np) (cp:=cp) (pos:=pos) h W f a g i j ha ar b l d
theorem zEh {f c n y z:Str}{iy je iz cn k:Nat}{ps:List Str}{e:zF}{m:M.EM}{yp ap cp zp np fp bp hp pos:Pos} (h:J5 X.prog X.w X.K X.mg X.base C c k ps f) (st:X.stack=X.env::X.outer) (fr:X.env.frame=some X.env.locals) (p:MX X Θ e m) (b:Θ cn=some (C,[f])) (q:Gl X c) (r:X.N.Nodup)
  (s:X.N[iy]? = some y) (t:Loc X.env.scope y)
  (u:X.N[iz]? = some z) (v:Loc X.env.scope z)
  (hn:X.N[je]? = some n) (x:X.env.scope.names.lookup n=some .local) (d:je≠iz)
  (g:q1 (.Name n np) f X.env (eval (.Name n np) X.env)=eval (.Name n np) X.env)
  (A:X.fn y=true\/X.env.scope.names.lookup y=some .local:=by first | exact .inl rfl | exact .inr rfl) (B:X.fn z=true\/X.env.scope.names.lookup z=some .local:=by first | exact .inl rfl | exact .inr rfl)
  (i:(c == ("__debug__" : Str))=false:=by decide) (j:(n == ("__debug__" : Str))=false:=by decide)
  (l:j1 e (some (.Name y yp)) ap.line X.env=pure false:=by rfl) (o:j1 (.Attribute (.Name n np) f fp) (some (.Name z zp)) bp.line X.env=pure false:=by rfl) :
  MS X Θ (.Try [.Assign [.Name y yp] e ap] [.ExceptHandler (some (.Name c cp)) (some n) [.Assign [.Name z zp] (.Attribute (.Name n np) f fp) bp] hp] [] [] pos) (M.ZC cn iy je iz m):=by
 obtain⟨Y,fi,fd,H,I,a,F,J,D,G⟩:=h.ex;exact zDZ st fr p b a.toXCls q D r s t A u v B hn x d a.g1 a.g2 a.a1 a.a2 a.n1 a.n2 G i j l o g
theorem w_ms_tryE {f c n y z:Str}{iy je iz cn k:Nat}{ps:List Str}{e:zF}{m:M.EM}{yp ap cp zp np fp bp hp pos:Pos} (h:J5 X.prog X.w X.K X.mg X.base C c k ps f) (st:X.stack=X.env::X.outer) (fr:X.env.frame=some X.env.locals) (o:WX X Θ e m) (a:Θ cn=some (C,[f])) (p:Gl X c) (q:X.N.Nodup)
  (r:X.N[iy]? = some y) (s:Loc X.env.scope y)
  (t:X.N[iz]? = some z) (u:Loc X.env.scope z)
  (hn:X.N[je]? = some n) (v:X.env.scope.names.lookup n=some .local) (b:je≠iz)
  (d:q1 (.Name n np) f X.env (eval (.Name n np) X.env)=eval (.Name n np) X.env)
  (x:X.fn y=true\/X.env.scope.names.lookup y=some .local:=by first | exact .inl rfl | exact .inr rfl) (A:X.fn z=true\/X.env.scope.names.lookup z=some .local:=by first | exact .inl rfl | exact .inr rfl)
  (g:(c == ("__debug__" : Str))=false:=by decide) (i:(n == ("__debug__" : Str))=false:=by decide)
  (j:j1 e (some (.Name y yp)) ap.line X.env=pure false:=by rfl) (l:j1 (.Attribute (.Name n np) f fp) (some (.Name z zp)) bp.line X.env=pure false:=by rfl) :
  WS X Θ (.Try [.Assign [.Name y yp] e ap] [.ExceptHandler (some (.Name c cp)) (some n) [.Assign [.Name z zp] (.Attribute (.Name n np) f fp) bp] hp] [] [] pos) (M.ZC cn iy je iz m):=by with_unfolding_all exact zEh (f:=f) (c:=c) (n:=n) (y:=y) (z:=z) (iy:=iy) (je:=je) (iz:=iz) (cn:=cn) (k:=k) (ps:=ps) (e:=e) (m:=m) (yp:=yp) (ap:=ap) (cp:=cp) (zp:=zp) (np:=np) (fp:=fp) (bp:=bp) (hp:=hp) (pos:=pos) h st fr o a p q r s t u hn v b d x A g i j l
end
end L2
set_option maxHeartbeats 4000000
namespace M
noncomputable section
noncomputable def wsg (c:Nat):Bool:=(decide (97 <= c) && decide (c <= 122)) || c == 46 || c == 42
noncomputable def rsg (c:Nat):Bool:=(decide (32 <= c) && decide (c <= 36)) || (decide (38 <= c) && decide (c <= 126))
theorem q3 (a b:Nat):(([a]:T) < [b])↔a < b:=by simp[List.cons_lt_cons_iff]
noncomputable def qwr:T->Bool
 | []=>true
 | c::r=>if c=34 then false else if c=10 \/ ¬ (32 <= c/\c <= 126) then true else qwr r
theorem zC9 {a:EM}{tg:GM}{b:SM}{σ:St}{s:S}{x:T} (h:a σ s=.ok (.str x) s) (d:x.length <= SZ):Zo (iE a) tg b σ s=jY [] (qK tg b) (x.map λc=>.str [c]) σ s:=by
 unfold Zo iE;rw[h];simp only[R.bind_ok,itD,if_pos d,R.stm_ok];rw[if_pos (by simp[zU])]
theorem zX {a b:SM}{σ:St}{s:S}{r:RS} (h:a σ s=r):zO a b σ s=r.then b:=by
 unfold zO;rw[h]
theorem Jl {c:Type} (xs:List c) {a b:Nat} (ha:a <= xs.length) (f:b <= xs.length):cut xs (some (a:Int)) (some (b:Int))=(xs.drop a).take (b - a):=by
 have e:∀ (n d k:Nat),k <= n->sIx n d (some (k:Int))=k:=λn d k h=>by
  unfold sIx;simp;omega
 unfold cut;rw[e _ _ _ ha,e _ _ _ f]
noncomputable def quo (r:T):Option T:=match r.findIdx? (· == 34) with
 | none=>none
 | some j=>if (r.take j).all rsg=true then some (r.take j) else none
noncomputable abbrev kBr:T:=[98,114,97,99,107,101,116]
noncomputable abbrev kQu:T:=[113,117,111,116,101]
noncomputable abbrev kWo:T:=[119,111,114,100]
noncomputable def qj (x:T) (p:Nat):Option (T×T):=match x[p]? with
 | none=>none
 | some c=>if c=40\/c=41 then some (kBr,[c]) else if c=34 then (quo (x.drop (p+1))).map λw=>(kQu,w) else if wsg c=true then some (kWo,(x.drop p).takeWhile wsg) else none
noncomputable def jO (k w:T) (p:Nat):Nat:=p+w.length+if k=kQu then 2 else 0
noncomputable def tkD (k w:T) (p:Nat):D:=.tup [.str k,.str w,.int p]
inductive Cov (x:T):Nat->List D->Nat->Prop
 | nil (p:Nat):Cov x p [] p
 | blank {p e:Nat}{ts:List D}:x[p]? = some 32->Cov x (p+1) ts e->Cov x p ts e
 | tok {p e:Nat}{k w:T}{ts:List D}:x[p]? ≠ some 32->qj x p=some (k,w)->Cov x (jO k w p) ts e->Cov x p (tkD k w p::ts) e
noncomputable def Bad (x:T) (e:Nat):Prop:=e < x.length/\x[e]? ≠ some 32/\qj x e=none
theorem JW {x:T}{p:Nat}{k w:T} (h:qj x p=some (k,w)):p < jO k w p/\jO k w p <= x.length/\w.length <= x.length:=by
 unfold qj at h;cases a:x[p]? with
 | none=>rw[a] at h;cases h
 | some c =>
  obtain⟨hp,e⟩:=List.getElem?_eq_some_iff.mp a;rw[a] at h;dsimp only at h;split at h
  ·cases h;have:([c]:T).length=1:=rfl;refine⟨?_,?_,?_⟩<;>simp[jO,kBr,kQu]<;>omega
  ·split at h
   ·unfold quo at h;cases b:(x.drop (p+1)).findIdx? (· == 34) with
    | none=>rw[b] at h;cases h
    | some j =>
     have d:j < (x.drop (p+1)).length:=(List.findIdx?_eq_some_iff_getElem.mp b).1;rw[jf] at d;rw[b] at h;dsimp only at h;split at h
     ·cases h;have:((x.drop (p+1)).take j).length=j:=by rw[qk,jf];omega
      unfold jO;rw[this,if_pos rfl];omega
     ·cases h
   ·split at h
    ·rename_i hw;cases h;have f:((x.drop p).takeWhile wsg).length <= x.length - p:=by
      have:=(X6 (l:=x.drop p) wsg).length_le
      rwa [jf] at this
     have g:0 < ((x.drop p).takeWhile wsg).length:=by
      rw[QB hp,ym,e,hw];simp
     unfold jO;rw[if_neg (by decide)];omega
    ·cases h
theorem Cov.cl {x:T}{n:Nat}:∀ {p e:Nat}{a:List D},Cov x p a e->D.cl.all n a=true:=by
 intro p e a h
 induction h with
 | nil=>rfl
 | blank _ _ b=>exact b
 | tok _ _ _ b=>exact b
theorem vN {a:Type}{x:List a}{e p:Nat} (h:p < e):(x.take e)[p]? = x[p]? := by
 rw[List.getElem?_take,if_pos h]
theorem Kp {a:Type} (x:List a) (e p:Nat):(x.take e).drop p=(x.drop p).take (e - p):=List.drop_take ..
theorem YB (f:Nat->Bool):∀ (l:T) (n:Nat),(l.takeWhile f).length <= n->(l.take n).takeWhile f=l.takeWhile f
 | [],n,_=>by simp
 | a::l,0,h=>by
  cases b:f a with
  | true=>rw[ym,b] at h;simp at h
  | false=>simp[ym,b]
 | a::l,n+1,h=>by
  rw[Kr,ym,ym];cases b:f a with
  | true =>
   rw[ym,b] at h;simp at h;simp[YB f l n h]
  | false=>rfl
theorem U0 {x:T}{p e:Nat}{k w:T} (h:qj x p=some (k,w)) (a:jO k w p <= e):qj (x.take e) p=some (k,w):=by
 have n:=JW h;have b:p < e:=by omega
 unfold qj at h ⊢;rw[vN b];cases d:x[p]? with
 | none=>rw[d] at h;cases h
 | some c =>
  obtain⟨hp,t⟩:=List.getElem?_eq_some_iff.mp d;rw[d] at h;dsimp only at h ⊢;by_cases c1:c=40\/c=41
  ·rw[if_pos c1] at h ⊢;exact h
  rw[if_neg c1] at h ⊢;by_cases c2:c=34
  ·rw[if_pos c2] at h ⊢;unfold quo at h ⊢;cases f:(x.drop (p+1)).findIdx? (· == 34) with
   | none=>rw[f] at h;cases h
   | some j =>
    rw[f] at h;dsimp only at h;obtain⟨o,q,r⟩:=List.findIdx?_eq_some_iff_getElem.mp f;have g:=o;rw[jf] at g;by_cases ha:((x.drop (p+1)).take j).all rsg=true
    ·rw[if_pos ha] at h;cases h;have l:((x.drop (p+1)).take j).length=j:=by rw[qk,jf];omega
     unfold jO at a;rw[l,if_pos rfl] at a;have m:((x.take e).drop (p+1)).findIdx? (· == 34)=some j:=by
      rw[Kp];refine List.findIdx?_eq_some_iff_getElem.mpr ⟨by rw[qk,jf];omega,by rw[Vs];exact q,λi hi=>by rw[Vs];exact r i hi⟩
     have s:((x.take e).drop (p+1)).take j=(x.drop (p+1)).take j:=by
      rw[Kp,List.take_take,zD8 (by omega)]
     rw[m];dsimp only;rw[s,if_pos ha];rfl
    ·rw[if_neg ha] at h;cases h
  rw[if_neg c2] at h ⊢;by_cases c3:wsg c=true
  ·rw[if_pos c3] at h ⊢;cases h;unfold jO at a;rw[if_neg (by decide)] at a;rw[Kp];rw[YB wsg _ _ (by omega)]
  ·rw[if_neg c3] at h;cases h
theorem Cov.le {x:T}{p e:Nat}{a:List D} (h:Cov x p a e):p <= e:=by
 induction h with
 | nil=>exact zl _
 | blank _ _ b=>omega
 | tok _ c _ b=>have:=JW c;omega
theorem Cov.take {x:T}{p e:Nat}{d:List D} (h:Cov x p d e):Cov (x.take e) p d e:=by
 induction h with
 | nil=>exact .nil _
 | blank a b c=>exact .blank (by have:=b.le;rw[vN (by omega)];exact a) c
 | tok a f b c =>
  have g:=b.le;have i:=JW f;exact .tok (by rw[vN (by omega)];exact a) (U0 f g) c
theorem Cov.det {x:T}{p e j:Nat}{l b:List D} (h:Cov x p l e) (k:e=x.length) (h':Cov x p b j) (d:Bad x j):False:=by
 induction h generalizing b with
 | nil p =>
  have:=h'.le;have:=d.1;omega
 | blank a m f =>
  cases h' with
  | nil=>exact d.2.1 a
  | blank _ g=>exact f k g
  | tok hn _ _=>exact hn a
 | tok hn i m f =>
  cases h' with
  | nil=>rw[d.2.2] at i;cases i
  | blank a _=>exact hn a
  | tok _ c g =>
   rw[i] at c;cases c;exact f k g
theorem Yz (c:Nat) (r:T):quo (c::r)=if c=34 then some [] else if rsg c=true then (quo r).map (c :: ·) else none:=by
 unfold quo;rw[List.findIdx?_cons];by_cases h:c=34
 ·subst h;simp
 ·have h':(c == 34)=false:=by simpa using h
  rw[h',if_neg h];cases b:r.findIdx? (· == 34) with
  | none=>by_cases a:rsg c=true<;>simp[a]
  | some j =>
   by_cases a:rsg c=true
   ·by_cases ha:(r.take j).all rsg=true<;>simp[a,ha,Kr]
   ·simp[a,Kr]
theorem X5:∀ r:T,37∉r->qwr r=(quo r).isNone
 | [],_=>rfl
 | c::r,h=>by
  have e:=X5 r (λz=>h (qD _ z));have f:c≠37:=λz=>h (by rw[z];exact qT);rw[Yz];unfold qwr;by_cases b:c=34
  ·simp[b]
  ·rw[if_neg b,if_neg b];by_cases a:rsg c=true
   ·have d:¬ (c=10 \/ ¬ (32 <= c/\c <= 126)):=by
     unfold rsg at a;simp at a;omega
    rw[if_neg d,if_pos a,e];cases quo r<;>rfl
   ·have d:c=10 \/ ¬ (32 <= c/\c <= 126):=by
     unfold rsg at a;simp at a;omega
    rw[if_pos d,if_neg a];rfl
theorem YK:∀ {r w:T},quo r=some w->∃ t,r=w++34::t/\34∉w
 | [],w,h=>by cases h
 | c::r,w,h=>by
  rw[Yz] at h;by_cases a:c=34
  ·rw[if_pos a] at h;cases h;exact⟨r,by rw[a];rfl,by simp⟩
  ·rw[if_neg a] at h;by_cases d:rsg c=true
   ·rw[if_pos d] at h;cases b:quo r with
    | none=>rw[b] at h;cases h
    | some v =>
     rw[b] at h;cases h;obtain⟨t,e,f⟩:=YK b;exact⟨t,by rw[e];rfl,by simp;exact⟨λz=>a z.symm,f⟩⟩
   ·rw[if_neg d] at h;cases h
theorem xI (c:Nat):∀ w:T,qZ [c] w=w.contains c
 | []=>rfl
 | d::w=>by
  rw[qZ,xI c w,ZY];simp[List.isPrefixOf]
theorem v1 (f:Nat->Bool):∀ (l:T) (d:Nat),l[(l.takeWhile f).length]? = some d->f d=false
 | [],d,h=>by simp at h
 | a::l,d,h=>by
  rw[ym] at h;cases b:f a with
  | true=>simp[b] at h;exact v1 f l d h
  | false=>simp[b] at h;rw[<- h];exact b
noncomputable def ki:SM :=
  (zi (xr (zQ yJ (zH (zC 0) (zH (eC (.ty .int)) zM))) (vm (zQ yJ (zH (zC 0) (zH (eC (.ty .bool)) zM))))))
noncomputable def vR:F:=fn 1 ki
noncomputable def JK:F:=chS vR
theorem UB:jD 1 vR JK:=qx _
theorem YP (i:Int) (s:S):JK [.int i] s=.ok (.bl true) s:=j7 (g:=[]) (by rw[jP];simp[vR,ki]) rfl
noncomputable def Jm:SM :=
  (zO (Zo (iE (eSl (zC 0) (jI (eOp z0 (zC 1) (eC (.int 1)))) yO)) (jM 2)
  (zO (sIf (zg cEq (zC 2) (eC (.str [34])))
  (zi (eC (.bl false)))
  jC)
  (sIf (tOr (zg cEq (zC 2) (eC (.str [10]))) (qB (Zp cLe cLe (eC (.str [32])) (zC 2) (eC (.str [126])))))
  (zi (eC (.bl true)))
  jC)))
  (zi (eC (.bl true))))
noncomputable def uf:F:=fn 3 Jm
noncomputable def Qw:F:=chS uf
theorem zCr:jD 2 uf Qw:=qx _
theorem YY (x:T) (i:Int) (s:S):∀ (r:T) (v:Option D),∃ e,jY [] (qK (jM 2)
  (zO (sIf (zg cEq (zC 2) (eC (.str [34])))
  (zi (eC (.bl false)))
  jC)
  (sIf (tOr (zg cEq (zC 2) (eC (.str [10]))) (qB (Zp cLe cLe (eC (.str [32])) (zC 2) (eC (.str [126])))))
  (zi (eC (.bl true)))
  jC))) (r.map λc=>.str [c]) [some (.str x),some (.int i),v] s=(if qwr r=false then .rt (.bl false) s else if r.all (λc=>decide (c≠10/\32 <= c/\c <= 126))=true then .nx [some (.str x),some (.int i),e] s else .rt (.bl true) s)
 | [],v=>⟨v,by simp[jY,qwr]⟩
 | c::r,v=>by
  obtain⟨e,h⟩:=YY x i s r (some (.str [c]));by_cases b:c=34
  ·subst b;exact⟨v,by simp[jY,qwr]⟩
  by_cases a:c=10
  ·subst a;exact⟨v,by simp[jY,qwr]⟩
  by_cases d:32 <= c
  ·by_cases f:c <= 126
   ·have a1:¬ (([c]:T) < [32]):=by rw[q3];omega
    have a2:¬ (([126]:T) < [c]):=by rw[q3];omega
    refine⟨e,?_⟩;have g:qwr (c::r)=qwr r:=by simp[qwr,b,a,d,f]
    have ha:(c::r).all (λc=>decide (c≠10/\32 <= c/\c <= 126))=r.all (λc=>decide (c≠10/\32 <= c/\c <= 126)):=by simp[a,d,f]
    rw[g,ha,<- h];simp[jY,b,a,a1,a2,zU]
   ·have a1:¬ (([c]:T) < [32]):=by rw[q3];omega
    have a2:(([126]:T) < [c]):=by rw[q3];omega
    exact⟨v,by simp[jY,qwr,b,a,d,f,a1,a2]⟩
  ·have a1:(([c]:T) < [32]):=by rw[q3];omega
   exact⟨v,by simp[jY,qwr,b,a,d,a1]⟩
theorem ug (x:T) (p:Nat) (s:S) (a:x.length <= SZ):Qw [.str x,.int p] s=.ok (.bl (qwr (x.drop (p+1)))) s:=by
 obtain⟨f,h⟩:=YY x p s (x.drop (p+1)) none;have b:(x.drop (p+1)).length <= SZ:=by rw[jf];omega
 have c:cut x (some ((p:Int)+1)) none=x.drop (p+1):=by rw[kW _ (by omega)];congr 1
 refine j7 (g:=[]) ?_ rfl;rw[jP];have e:Jm [some (.str x),some (.int p),none] s=_:=zX ((zC9 (by simp[c,a]) b).trans h);show (Jm [some (.str x),some (.int p),none] s).out=_;rw[e];by_cases e:qwr (x.drop (p+1))=false
 ·simp[e]
 ·have d:qwr (x.drop (p+1))=true:=by simpa using e
  rw[d,if_neg (by decide)];split<;>simp
noncomputable def xv:SM :=
  (sIf (tOr (qB (jv (zQ yJ (zH (zC 1) (zH (eC (.ty .tuple)) zM))))) (tOr (zg cNe (zQ jg (zH (zC 1) zM)) (eC (.int 3))) (tOr (qB (jv (zQ yJ (zH (eOp zu (zC 1) (eC (.int 1))) (zH (eC (.ty .str)) zM))))) (qB (jv (zQ JK (zH (eOp zu (zC 1) (eC (.int 2))) zM)))))))
  (zi (eUn QW (eC (.int 1))))
  jC)
noncomputable def xJ:SM :=
  (Kb (yu (jn (jM 2) (jn (jM 3) (jn (jM 4) q8)))) (zC 1))
noncomputable def Zg:SM :=
  (sIf (yd (zg cEq (zC 2) (eC (.str [113,117,111,116,101]))) (yd (zg cGe (zC 4) (eC (.int 0))) (zg cEq (eSl (zC 0) (jI (zC 4)) (jI (eOp z0 (eOp z0 (zC 4) (zQ jg (zH (zC 3) zM))) (eC (.int 2))))) (eOp z0 (eOp z0 (eC (.str [34])) (zC 3)) (eC (.str [34]))))))
  (zi (eIf (tOr (zg cIn (eC (.str [34])) (zC 3)) (jv (zQ Qw (zH (zC 0) (zH (zC 4) zM))))) (eUn QW (eC (.int 1))) (eOp z0 (eOp z0 (zC 4) (zQ jg (zH (zC 3) zM))) (eC (.int 2)))))
  jC)
noncomputable def JD:SM :=
  (sIf (tOr (zg cLt (zC 4) (eC (.int 0))) (tOr (zg cEq (zC 3) (eC (.str []))) (zg cNe (eSl (zC 0) (jI (zC 4)) (jI (eOp z0 (zC 4) (zQ jg (zH (zC 3) zM))))) (zC 3))))
  (zi (eUn QW (eC (.int 1))))
  jC)
noncomputable def y1:SM :=
  (sIf (yd (zg cEq (zC 2) (eC (.str [98,114,97,99,107,101,116]))) (yd (zg cIn (zC 3) (eC (.str [40,41]))) (zg cEq (zQ jg (zH (zC 3) zM)) (eC (.int 1)))))
  (zi (eOp z0 (zC 4) (eC (.int 1))))
  jC)
noncomputable def QF:SM :=
  (zq 5 (ZT 1 (iE (zC 3)) (jM 7) (zg xN (zC 7) (eC (.str [97,98,99,100,101,102,103,104,105,106,107,108,109,110,111,112,113,114,115,116,117,118,119,120,121,122,46,42]))) (zC 7)))
noncomputable def Zt:SM :=
  (zq 6 (eOp z0 (zC 4) (zQ jg (zH (zC 3) zM))))
noncomputable def JC:SM :=
  (sIf (tOr (zg cNe (zC 2) (eC (.str [119,111,114,100]))) (tOr (jv (zC 5)) (zg cIn (eSl (zC 0) (jI (zC 6)) (jI (eOp z0 (zC 6) (eC (.int 1))))) (zQ XJ (zH (eC (.str [97,98,99,100,101,102,103,104,105,106,107,108,109,110,111,112,113,114,115,116,117,118,119,120,121,122,46,42])) zM)))))
  (zi (eUn QW (eC (.int 1))))
  jC)
noncomputable def QZ:SM :=
  (zi (zC 6))
noncomputable def ZK:SM:=(zO xv (zO xJ (zO Zg (zO JD (zO y1 (zO QF (zO Zt (zO JC QZ))))))))
noncomputable def YJ:F:=fn 7 ZK
noncomputable def y7:F:=chS YJ
theorem zCo:jD 2 YJ y7:=qx _
noncomputable abbrev jR:T:=[97,98,99,100,101,102,103,104,105,106,107,108,109,110,111,112,113,114,115,116,117,118,119,120,121,122,46,42]
theorem vX (c:Nat):jR.contains c=wsg c:=by
 rw[ZN];unfold wsg;simp only[jR,ZY,List.contains_nil,QY,beq_iff_eq,jG,decide_eq_true_eq,wL];omega
theorem UR {c:Type} (xs:List c) {a b:Nat} (ha:a <= xs.length):cut xs (some (a:Int)) (some (b:Int))=(xs.drop a).take (b - a):=by
 have d:sIx xs.length 0 (some (a:Int))=a:=by
  unfold sIx;simp;omega
 have e:sIx xs.length xs.length (some (b:Int))=min b xs.length:=by
  unfold sIx;simp;omega
 unfold cut;rw[d,e];by_cases h:b <= xs.length
 ·rw[zD8 h]
 ·rw[Nat.min_eq_right (by omega),Q5 (by rw[jf];omega),Q5 (by rw[jf];omega)]
section
variable {x:T}{p:Nat}{k w:T}{s:S}
theorem Y7 (d:x.length <= SZ) (hw:w.length <= SZ):ZK [some (.str x),some (tkD k w p),none,none,none,none,none] s=zO Zg (zO JD (zO y1 (zO QF (zO Zt (zO JC QZ))))) [some (.str x),some (tkD k w p),some (.str k),some (.str w),some (.int p),none,none] s:=by
 have a:xv [some (.str x),some (tkD k w p),none,none,none,none,none] s=.nx [some (.str x),some (tkD k w p),none,none,none,none,none] s:=by
  simp[xv,tkD,atI,ixN,YP]
 have b:xJ [some (.str x),some (tkD k w p),none,none,none,none,none] s=.nx [some (.str x),some (tkD k w p),some (.str k),some (.str w),some (.int p),none,none] s:=by
  simp[xJ,tkD]
 have c:ZK [some (.str x),some (tkD k w p),none,none,none,none,none] s=_:=zX a;rw[c,RS.then_nx,zX b,RS.then_nx]
theorem wX (o:x.length <= 1000) (e:37∉x) (hp:x[p]? = some 34) (l:quo (x.drop (p+1))=some w):y7 [.str x,tkD kQu w p] s=.ok (.int ((jO kQu w p:Nat):Int)) s:=by
 have f:x.length <= SZ:=zx o (by decide);obtain⟨t,q,r⟩:=YK l;obtain⟨h,i⟩:=List.getElem?_eq_some_iff.mp hp;have hd:x.drop p=34::(w++34::t):=by rw[QB h,i,q]
 have C:x.length - p=w.length+t.length+2:=by
  have:=congrArg ZX hd;simp at this;omega
 have u:cut x (some (p:Int)) (some ((p:Int)+w.length+2))=34::(w++[34]):=by
  have:=Jl x (a:=p) (b:=p+w.length+2) (by omega) (by omega);have v:((p+w.length+2:Nat):Int)=(p:Int)+w.length+2:=by omega
  rw[v] at this;rw[this,hd];have y:p+w.length+2 - p=w.length+2:=by omega
  rw[y,Kr]
  congr 1
  rw[show w++34::t=(w++[34])++t by simp,List.take_left' (by simp)]
 have hw:w.length <= SZ:=by omega
 have c:=ug x p s f;have d:37∉x.drop (p+1):=λz=>e (kS z);rw[X5 _ d,l] at c;have A:qZ [34] w=false:=by rw[xI];simpa using r
 refine j7 (g:=[]) ?_ rfl;rw[jP];show (ZK [some (.str x),some (tkD kQu w p),none,none,none,none,none] s).out=_;rw[Y7 f hw];have j:¬ ((p:Int) < 0):=by omega
 have B:Zg [some (.str x),some (tkD kQu w p),some (.str kQu),some (.str w),some (.int p),none,none] s=.rt (.int ((jO kQu w p:Nat):Int)) s:=by
  have n:w.length+2 <= SZ:=zx (m:=1000) (by omega) (by decide);simp[Zg,j,f,u,hw,A,c,jO];rw[if_pos (by omega),if_pos (by omega)]
 rw[zX B];rfl
theorem YU (g:k≠kQu) (f:x.length <= SZ) (hw:0 < w.length) (h:p+w.length <= x.length) (hd:(x.drop p).take w.length=w):ZK [some (.str x),some (tkD k w p),none,none,none,none,none] s=zO y1 (zO QF (zO Zt (zO JC QZ))) [some (.str x),some (tkD k w p),some (.str k),some (.str w),some (.int p),none,none] s:=by
 have c:w.length <= SZ:=by omega
 have d:¬ ((p:Int) < 0):=by omega
 have i:cut x (some (p:Int)) (some ((p:Int)+w.length))=w:=by
  have:=Jl x (a:=p) (b:=p+w.length) (by omega) h;rw[K4,hd,vA] at this;exact this
 have e:w≠[]:=λz=>by rw[z] at hw;cases hw
 have j:Zg [some (.str x),some (tkD k w p),some (.str k),some (.str w),some (.int p),none,none] s=.nx [some (.str x),some (tkD k w p),some (.str k),some (.str w),some (.int p),none,none] s:=by
  simp[Zg,g]
 have l:JD [some (.str x),some (tkD k w p),some (.str k),some (.str w),some (.int p),none,none] s=.nx [some (.str x),some (tkD k w p),some (.str k),some (.str w),some (.int p),none,none] s:=by
  simp[JD,d,e,i,f,c]
 rw[Y7 f c,zX j,RS.then_nx,zX l,RS.then_nx]
theorem wM {c:Nat} (d:x.length <= 1000) (e:c=40\/c=41) (hp:x[p]? = some c):y7 [.str x,tkD kBr [c] p] s=.ok (.int ((jO kBr [c] p:Nat):Int)) s:=by
 have f:x.length <= SZ:=zx d (by decide);obtain⟨a,b⟩:=List.getElem?_eq_some_iff.mp hp;refine j7 (g:=[]) ?_ rfl;rw[jP];show (ZK [some (.str x),some (tkD kBr [c] p),none,none,none,none,none] s).out=_;rw[YU (by decide) f (by simp) (by simp;omega) (by rw[QB a,b];rfl)];have h:qZ [c] [40,41]=true:=by rw[xI];rcases e with rfl | rfl<;>rfl
 have i:y1 [some (.str x),some (tkD kBr [c] p),some (.str kBr),some (.str [c]),some (.int p),none,none] s=.rt (.int ((jO kBr [c] p:Nat):Int)) s:=by
  simp[y1,h,jO,(by decide:2 <= SZ),(by decide:1 <= SZ)]
 rw[zX i];rfl
noncomputable def p8 (ls:T):SM :=
  (sIf (tOr (zg cNe (zC 2) (eC (.str [119,111,114,100]))) (tOr (jv (zC 5)) (zg cIn (eSl (zC 0) (jI (zC 6)) (jI (eOp z0 (zC 6) (eC (.int 1))))) (zQ XJ (zH (eC (.str ls)) zM)))))
  (zi (eUn QW (eC (.int 1))))
  jC)
theorem wd {ls:T}{d1:D}{w:T}{e:D}{i:Int} (f:x.length <= SZ) (g:ls.length <= SZ) (h:(ls.map λc=>[c]).contains (cut x (some i) (some (i+1)))=false):p8 ls [some (.str x),some d1,some (.str kWo),some (.str w),some e,some (.ref s.length),some (.int i)] (s++[.lst []])=.nx [some (.str x),some d1,some (.str kWo),some (.str w),some e,some (.ref s.length),some (.int i)] (s++[.lst []]++[.lst (ls.map λc=>.str [c])]):=by
 have a:yK (.str (cut x (some i) (some (i+1)))) (ls.map λc=>.str [c])=false:=by
  have:=uT (cut x (some i) (some (i+1))) (ls.map λc=>[c]);rw[xY] at this;rw[<- h,<- this];rfl
 have j:(ls.map λc=>D.str [c]).all flat=true:=by
  rw[List.all_eq_true];intro d hd;obtain⟨c,_,rfl⟩:=List.mem_map.mp hd;rfl
 have b:∀ y:T,flat (.str y)=true:=λ_=>rfl;simp only[p8];simp[f,g,a,b,-Vn]
theorem U3 (t:x.length <= 1000) (hp:p < x.length) (hw:wsg x[p]=true):y7 [.str x,tkD kWo ((x.drop p).takeWhile wsg) p] s=.ok (.int ((jO kWo ((x.drop p).takeWhile wsg) p:Nat):Int)) s:=by
 have r:x.length <= SZ:=zx t (by decide);obtain⟨w,f⟩:∃ w,w=(x.drop p).takeWhile wsg:=⟨_,rfl⟩
 rw[<- f];have h:w <+: x.drop p:=by rw[f];exact X6 _
 have F:w.length <= x.length - p:=by
  have:=h.length_le
  rwa [jf] at this
 have u:0 < w.length:=by
  rw[f,QB hp,ym,hw];simp
 have j:∀ c∈w,wsg c=true:=λc m=>by
  rw[f] at m;exact List.all_eq_true.mp List.all_takeWhile c m
 have v:=YU (s:=s) (p:=p) (k:=kWo) (w:=w) (x:=x) (by decide) r u (by omega) (List.prefix_iff_eq_take.mp h).symm;have i:w.length <= SZ:=by omega
 have y:y1 [some (.str x),some (tkD kWo w p),some (.str kWo),some (.str w),some (.int p),none,none] s=.nx [some (.str x),some (tkD kWo w p),some (.str kWo),some (.str w),some (.int p),none,none] s:=by
  simp[y1]
 have o:qI 1 (iE (zC 3)) (jM 7) (zg xN (zC 7) (eC (.str jR))) (zC 7) [some (.str x),some (tkD kWo w p),some (.str kWo),some (.str w),some (.int p),none,none] s=.ok [] s:=by
  have:=zBz (n:=1) (it:=iE (zC 3)) (tg:=jM 7) (c:=zg xN (zC 7) (eC (.str jR))) (e:=zC 7) (σ:=[some (.str x),some (tkD kWo w p),some (.str kWo),some (.str w),some (.int p),none,none]) (s:=s) (xs:=w.map λc=>.str [c]) (g:=[]) (λ_=>false) id (by simp[i]) (by simpa using i) (by simp[zU]) (λd hd=>by
   obtain⟨c,m,rfl⟩:=List.mem_map.mp hd;have:qZ [c] jR=true:=by rw[xI,vX];exact j c m
   simp[this])
  rw[this];simp
 have z:QF [some (.str x),some (tkD kWo w p),some (.str kWo),some (.str w),some (.int p),none,none] s=.nx [some (.str x),some (tkD kWo w p),some (.str kWo),some (.str w),some (.int p),some (.ref s.length),none] (s++[.lst []]):=by
  simp only[QF,zq,ZT];rw[o];simp
 have A:Zt [some (.str x),some (tkD kWo w p),some (.str kWo),some (.str w),some (.int p),some (.ref s.length),none] (s++[.lst []])=.nx [some (.str x),some (tkD kWo w p),some (.str kWo),some (.str w),some (.int p),some (.ref s.length),some (.int ((p:Int)+w.length))] (s++[.lst []]):=by
  simp[Zt,i]
 have q:(jR.map λc=>[c]).contains (cut x (some ((p:Int)+w.length)) (some ((p:Int)+w.length+1)))=false:=by
  have l:=UR x (a:=p+w.length) (b:=p+w.length+1) (by omega);rw[show ((p+w.length+1:Nat):Int)=(p:Int)+w.length+1 by omega,vA] at l;rw[l,K4];cases hd:x[p+w.length]? with
  | none =>
   have:x.length <= p+w.length:=by simpa using hd
   rw[List.drop_eq_nil_of_le this];rfl
  | some d =>
   obtain⟨B,C⟩:=List.getElem?_eq_some_iff.mp hd;have D:wsg d=false:=v1 wsg (x.drop p) d (by rw[ut,<- f];exact hd);rw[QB B,C];show (jR.map λc=>[c]).contains [d]=false;rw[<- D,<- vX,ZN];simp[-qH,-XS]
 have E:JC [some (.str x),some (tkD kWo w p),some (.str kWo),some (.str w),some (.int p),some (.ref s.length),some (.int ((p:Int)+w.length))] (s++[.lst []])=_:=wd (ls:=jR) r (by decide) q;refine j7 (g:=[.lst []]++[.lst (jR.map λc=>.str [c])]) ?_ rfl;rw[<- Xx];show (ZK [some (.str x),some (tkD kWo w p),none,none,none,none,none] s).out=_;rw[v,zX y,RS.then_nx,zX z,RS.then_nx,zX A,RS.then_nx,zX E,RS.then_nx];simp[QZ,jO]
end
theorem zAD {x:T}{p:Nat}{k w:T} (s:S) (b:x.length <= 1000) (d:37∉x) (h:qj x p=some (k,w)):y7 [.str x,tkD k w p] s=.ok (.int ((jO k w p:Nat):Int)) s:=by
 unfold qj at h;cases a:x[p]? with
 | none=>rw[a] at h;cases h
 | some c =>
  obtain⟨hp,f⟩:=List.getElem?_eq_some_iff.mp a;rw[a] at h;dsimp only at h;split at h
  ·rename_i c1;cases h;exact wM b c1 a
  ·split at h
   ·rename_i c2;cases e:quo (x.drop (p+1)) with
    | none=>rw[e] at h;cases h
    | some v =>
     rw[e] at h;cases h;exact wX b d (by rw[a,c2]) e
   ·split at h
    ·rename_i c3;cases h;exact U3 b hp (by rw[f];exact c3)
    ·cases h
noncomputable def JY:SM :=
  (sIf (qB (jv (zQ yJ (zH (zC 1) (zH (eC (.ty .list)) zM)))))
  (zi (eC (.bl false)))
  jC)
noncomputable def xx:SM :=
  (zq 2 (eC (.int 0)))
noncomputable def Xf:SM :=
  (Zo (iE (zC 1)) (jM 3)
  (zO (zq 4 (zQ y7 (zH (zC 0) (zH (zC 3) zM))))
  (zO (sIf (tOr (zg cLt (zC 4) (eC (.int 0))) (tOr (zg cLt (eOp zu (zC 3) (eC (.int 2))) (zC 2)) (zg cNe (eM .str xQ (eSl (zC 0) (jI (zC 2)) (jI (eOp zu (zC 3) (eC (.int 2))))) (zH (eC (.str [32])) zM)) (eC (.str [])))))
  (zi (eC (.bl false)))
  jC)
  (zq 2 (zC 4)))))
noncomputable def Xl:SM :=
  (zi (Qg cEq (eM .str xQ (eSl (zC 0) (jI (zC 2)) yO) (zH (eC (.str [32])) zM)) (eC (.str []))))
noncomputable def xM:SM:=(zO JY (zO xx (zO Xf Xl)))
noncomputable def Yv:F:=fn 5 xM
noncomputable def yM:F:=chS Yv
theorem zFW:jD 2 Yv yM:=qx _
theorem um {y:T} (h:∀ c∈y,c=32):Z3 32 y=[]:=by
 have:y.takeWhile (· == 32)=y:=by
  induction y with
  | nil=>rfl
  | cons c y a =>
   have b:=h c qT;rw[ym,b,a λd hd=>h d (qD _ hd)];rfl
 unfold Z3;rw[this];simp
theorem Y2 {x:T}{a p:Nat} (b:∀ i,a <= i->i < p->x[i]? = some 32):∀ c∈(x.drop a).take (p - a),c=32:=λc d=>by
 obtain⟨i,hi,e⟩:=List.mem_iff_getElem.mp d;rw[qk,jf] at hi;rw[Vs,KL] at e;have:=b (a+i) (by omega) (by omega);rw[qU (by omega),e] at this;exact yf this
noncomputable abbrev cvB:SM :=
  (zO (zq 4 (zQ y7 (zH (zC 0) (zH (zC 3) zM))))
  (zO (sIf (tOr (zg cLt (zC 4) (eC (.int 0))) (tOr (zg cLt (eOp zu (zC 3) (eC (.int 2))) (zC 2)) (zg cNe (eM .str xQ (eSl (zC 0) (jI (zC 2)) (jI (eOp zu (zC 3) (eC (.int 2))))) (zH (eC (.str [32])) zM)) (eC (.str [])))))
  (zi (eC (.bl false)))
  jC)
  (zq 2 (zC 4))))
theorem wS {x:T}{s:S}{d1:D}{g:Gd} (v:x.length <= 1000) (o:37∉x) (C:zU g s=true):∀ {p e:Nat}{n:List D},Cov x p n e->e <= x.length->∀ (a:Nat) (b c:Option D),a <= p->(∀ i,a <= i->i < p->x[i]? = some 32) ->
  ∃ (h:Nat) (d f:Option D),jY g (qK (jM 3) cvB) n [some (.str x),some d1,some (.int a),b,c] s=.nx [some (.str x),some d1,some (.int h),d,f] s/\h <= e/\∀ i,h <= i->i < e->x[i]? = some 32:=by
 have E:x.length <= SZ:=zx v (by decide);intro p e n F
 induction F with
 | nil p=>exact λ_ a b c ha j=>⟨a,b,c,rfl,ha,j⟩
 | blank y G q =>
  intro r a b c ha j;refine q r a b c (by omega) λi A H=>?_;rename_i p _ _;by_cases z:i=p
  ·rw[z];exact y
  ·exact j i A (by omega)
 | tok y B G q =>
  intro r a b c ha j;rename_i p e k w n;obtain⟨g1,g2,M⟩:=JW B;obtain⟨h,d,f,I,J,K⟩:=q r (jO k w p) (some (tkD k w p)) (some (.int (jO k w p))) (zl _) (λi A H=>by omega);refine⟨h,d,f,?_,J,K⟩;have l:=zAD s v o B;have m:cut x (some (a:Int)) (some (p:Int))=(x.drop a).take (p - a):=Jl x (by omega) (by omega);have t:Z3 32 ((x.drop a).take (p - a))=[]:=um (Y2 j);have L:((x.drop a).take (p - a)).length <= SZ:=by rw[qk,jf];omega
  have n1:¬ ((jO k w p:Int) < 0):=by omega
  have n2:¬ ((p:Int) < (a:Int)):=by omega
  have u:qK (jM 3) cvB (tkD k w p) [some (.str x),some d1,some (.int a),b,c] s=.nx [some (.str x),some d1,some (.int (jO k w p)),some (tkD k w p),some (.int (jO k w p))] s:=by
   unfold tkD at l ⊢;simp[l,n1,n2,atI,ixN,E,m,t];omega
  rw[jY,u];simp only[C,if_true];exact I
theorem XB {x:T}{b:List D}{q:Nat} (s:S) (h:x.length <= 1000) (d:37∉x) (l:Cov x 0 b x.length) (e:s[q]? = some (.lst b)):yM [.str x,.ref q] s=.ok (.bl true) s:=by
 have m:x.length <= SZ:=zx h (by decide);have j:zU [(q,.lst b)] s=true:=by simp[zU,e]
 obtain⟨a,n,o,r,z,k⟩:=wS (d1:=.ref q) h d j l (zl _) 0 none none (zl _) (λi k A=>by omega);have t:JY [some (.str x),some (.ref q),none,none,none] s=.nx [some (.str x),some (.ref q),none,none,none] s:=by simp[JY,e]
 have u:xx [some (.str x),some (.ref q),none,none,none] s=.nx [some (.str x),some (.ref q),some (.int 0),none,none] s:=by simp[xx]
 have v:Xf [some (.str x),some (.ref q),some (.int 0),none,none] s=.nx [some (.str x),some (.ref q),some (.int a),n,o] s:=by
  rw[<- r];show Zo (iE (zC 1)) (jM 3) cvB _ _=_;unfold Zo;have:iE (zC 1) [some (.str x),some (.ref q),some (.int 0),none,none] s=.ok (b,[(q,.lst b)]) s:=by simp[e]
  rw[this,R.stm_ok,if_pos j];rfl
 have c:cut x (some (a:Int)) none=x.drop a:=by rw[kW _ (by omega)];rfl
 have f:Z3 32 (x.drop a)=[]:=um (by
  have:=Y2 (x:=x) (a:=a) (p:=x.length) k
  rwa [Q5 (by rw[jf];omega)] at this)
 refine j7 (g:=[]) ?_ rfl;rw[jP];have w:xM [some (.str x),some (.ref q),none,none,none] s=_:=zX t;show (xM [some (.str x),some (.ref q),none,none,none] s).out=_;rw[w,RS.then_nx,zX u,RS.then_nx,zX v,RS.then_nx];have y:x.length - a <= SZ:=by omega
 simp[Xl,m,c,f];omega
noncomputable def XU:SM :=
  (zO (zq 2 (eOp jc (eOp q9 (eOp z0 (zC 0) (eOp q9 (eC (.int 7919)) (zC 1))) (eC (.int 48271))) (eC (.int 2147483647))))
  (zi (eOp jc (eOp q9 (zC 2) (eOp z0 (eOp z0 (zC 2) (eOp q9 (eC (.int 2)) (zC 1))) (eC (.int 1)))) (eC (.int 2147483629)))))
noncomputable def ub:F:=fn 3 XU
noncomputable def kC (c k:Int):Int:=(c+7919 * k) * 48271 % 2147483647 * ((c+7919 * k) * 48271 % 2147483647+2 * k+1) % 2147483629
theorem UP (c k:Int):0 <= kC c k:=yE _ (by decide)
noncomputable def xl:F
 | [.int c,.int k],s=>.ok (.int (kC c k)) s
 | _,_=>.no
theorem zBn:jD 2 ub xl:=jD.pure λd S e c j=>by
 match d,e with
 | [.int c,.int k],_ =>
  have f:qR 7919=true:=by decide
  have g:qR 48271=true:=by decide
  have h:qR 2=true:=by decide
  have i:qR ((c+7919 * k) * 48271 % 2147483647)=true:=by
   have a:=yE ((c+7919 * k) * 48271) (show (2147483647:Int)≠0 by decide);have b:=yj ((c+7919 * k) * 48271) (show (0:Int) < 2147483647 by decide);exact decide_eq_true (by omega)
  exact .inr ⟨_,[],rfl,by simp[ub,XU,f,g,h,i,kC],rfl⟩
 | [.str _,_],_=>exact .inl rfl
 | [.non,_],_=>exact .inl rfl
 | [.bl _,_],_=>exact .inl rfl
 | [.ref _,_],_=>exact .inl rfl
 | [.ty _,_],_=>exact .inl rfl
 | [.tup _,_],_=>exact .inl rfl
 | [.ro _,_],_=>exact .inl rfl
 | [.int _,.str _],_=>exact .inl rfl
 | [.int _,.non],_=>exact .inl rfl
 | [.int _,.bl _],_=>exact .inl rfl
 | [.int _,.ref _],_=>exact .inl rfl
 | [.int _,.ty _],_=>exact .inl rfl
 | [.int _,.tup _],_=>exact .inl rfl
 | [.int _,.ro _],_=>exact .inl rfl
noncomputable def kf:SM :=
  (zO (zq 0 (eC (.str [32,33,35,36,38,39,40,41,42,43,44,45,46,47,48,49,50,51,52,53,54,55,56,57,58,59,60,61,62,63,64,65,66,67,68,69,70,71,72,73,74,75,76,77,78,79,80,81,82,83,84,85,86,87,88,89,90,91,92,93,94,95,96])))
  (zi (eOp z0 (zC 0) (eC (.str [97,98,99,100,101,102,103,104,105,106,107,108,109,110,111,112,113,114,115,116,117,118,119,120,121,122,123,124,125,126])))))
noncomputable def v8:F:=fn 1 kf
noncomputable def yq:T:=[32,33,35,36]++(jA 89).map (· + 38)
noncomputable def Jp:F
 | [],s=>.ok (.str yq) s
 | _,_=>.no
theorem zCu:jD 0 v8 Jp:=jD.pure λa S b c d=>by
 match a,b with
 | [],_=>exact .inr ⟨_,[],rfl,by simp[v8,kf,SZ];rfl,rfl⟩
noncomputable def Xh:SM :=
  (zq 1 (zQ xl (zH (zC 0) (zH (eC (.int 2)) zM))))
noncomputable def Ji:SM :=
  (zq 2 (eC (.str [97,98,99,100,101,102,103,104,105,106,107,108,109,110,111,112,113,114,115,116,117,118,119,120,121,122,46,42])))
noncomputable def qz:SM :=
  (sIf (zg cEq (eOp jc (zC 1) (eC (.int 3))) (eC (.int 0)))
  (zi (eOp zu (QH (zH (eC (.str [40])) (zH (eC (.str [41])) (zH (eC (.str [32])) (zH (eC (.str [32,32])) (zH (eC (.str [40,41,32])) (zH (eC (.str [32,40])) zM))))))) (eOp jc (eOp qX (zC 1) (eC (.int 3))) (eC (.int 6)))))
  jC)
noncomputable def Zs:SM :=
  (sIf (zg cEq (eOp jc (zC 1) (eC (.int 3))) (eC (.int 1)))
  (zi (ZU (qb []) 1 (Q3 (eOp z0 (eC (.int 1)) (eOp jc (eOp qX (zC 1) (eC (.int 3))) (eC (.int 9))))) (jM 6) qL (eOp zu (zC 2) (eOp jc (eOp z0 (eOp qX (zC 1) (eC (.int 11))) (eOp q9 (eC (.int 5)) (zC 6))) (eC (.int 28))))))
  jC)
noncomputable def xZ:SM :=
  (zq 3 (eOp jc (eOp qX (zC 1) (eC (.int 3))) (eC (.int 10))))
noncomputable def xK:SM :=
  (sIf (zg cEq (eOp jc (eOp qX (zC 1) (eC (.int 30))) (eC (.int 9))) (eC (.int 1)))
  (zq 3 (eOp jc (eOp qX (zC 1) (eC (.int 270))) (eC (.int 81))))
  jC)
noncomputable def Jy:SM :=
  (zq 4 (zQ Jp zM))
noncomputable def xj:SM :=
  (zq 5 (ZT 1 (Q3 (zC 3)) (jM 6) qL (eOp zu (zC 4) (eOp jc (eOp z0 (eOp qX (zC 1) (eC (.int 7))) (eOp q9 (zC 6) (eOp z0 (eC (.int 1)) (eOp jc (zC 1) (eC (.int 5)))))) (eC (.int 93))))))
noncomputable def JZ:SM :=
  (zi (eOp z0 (eOp z0 (eC (.str [34])) (eM .str yg (eC (.str [])) (zH (zC 5) zM))) (eC (.str [34]))))
noncomputable def J8:SM:=(zO Xh (zO Ji (zO qz (zO Zs (zO xZ (zO xK (zO Jy (zO xj JZ))))))))
noncomputable def K6:F:=fn 6 J8
noncomputable def QL:F:=chS K6
theorem zFe:jD 1 K6 QL:=qx _
theorem YX {t:T}{n:Nat} (hn:t.length=n) (c:0 < n) (i:Int):∃ d∈t,atI t (i % n)=some d:=by
 have e:=yE i (show (n:Int)≠0 by omega);have a1:=yj i (show (0:Int) < n by omega);obtain⟨j,b⟩:∃ j:Nat,i % n=(j:Int):=⟨(i % n).toNat,by omega⟩
 have a:j < t.length:=by omega
 refine⟨t[j],zD1 a,?_⟩;rw[b,JO (by omega) (by omega) 0];simp[a]
theorem vo (c:Int) (s:S):∃ w,QL [.int c] s=.ok (.str w) s/\37∉w/\w.length <= 100:=by
 obtain⟨m,u⟩:∃ m,m=kC c 2:=⟨_,rfl⟩
 have I:0 <= m:=by rw[u];exact UP _ _
 have a:K6 [.int c] s=(J8 [some (.int c),none,none,none,none,none] s).out:=rfl;have A:J8 [some (.int c),none,none,none,none,none] s=_:=zX (r:=.nx [some (.int c),some (.int m),none,none,none,none] s) (by simp[Xh,xl,u]);have B:Ji [some (.int c),some (.int m),none,none,none,none] s=.nx [some (.int c),some (.int m),some (.str jR),none,none,none] s:=by simp[Ji]
 have t:(6:Nat) <= SZ:=by decide
 by_cases b:m % 3=0
 ·have F:=yE (m / 3) (show (6:Int)≠0 by decide);have a1:=yj (m / 3) (show (0:Int) < 6 by decide);have J:∃ w,qz [some (.int c),some (.int m),some (.str jR),none,none,none] s=.rt (.str w) (s++[.lst [.str [40],.str [41],.str [32],.str [32,32],.str [40,41,32],.str [32,40]]])/\37∉w/\w.length <= 100:=by
   generalize jR=os;rcases (by omega:m / 3 % 6=0\/m / 3 % 6=1\/m / 3 % 6=2\/m / 3 % 6=3\/m / 3 % 6=4\/m / 3 % 6=5) with q | q | q | q | q | q
   ·exact⟨[40],by simp[qz,b,q,t,atI,ixN],by decide,by decide⟩
   ·exact⟨[41],by simp[qz,b,q,t,atI,ixN],by decide,by decide⟩
   ·exact⟨[32],by simp[qz,b,q,t,atI,ixN],by decide,by decide⟩
   ·exact⟨[32,32],by simp[qz,b,q,t,atI,ixN],by decide,by decide⟩
   ·exact⟨[40,41,32],by simp[qz,b,q,t,atI,ixN],by decide,by decide⟩
   ·exact⟨[32,40],by simp[qz,b,q,t,atI,ixN],by decide,by decide⟩
  obtain⟨w,x,v,C⟩:=J;refine⟨w,j7 (g:=[.lst [.str [40],.str [41],.str [32],.str [32,32],.str [40,41,32],.str [32,40]]]) ?_ rfl,v,C⟩;rw[a,A,RS.then_nx,zX B,RS.then_nx,zX x];rfl
 ·have x:qz [some (.int c),some (.int m),some (.str jR),none,none,none] s=.nx [some (.int c),some (.int m),some (.str jR),none,none,none] s:=by
   generalize jR=os;simp[qz,b]
  by_cases G:m % 3=1
  ·have F:=yE (m / 3) (show (9:Int)≠0 by decide);have a1:=yj (m / 3) (show (0:Int) < 9 by decide);have h:jR.length <= SZ:=by decide
   have i:∀ k:Nat,∃ d∈jR,atI jR ((m / 11+5 * (k:Int)) % 28)=some d:=λk=>YX (n:=28) rfl (by decide) _
   let f:Nat->Nat:=λk=>(i k).choose
   have j:∀ k,f k∈jR:=λk=>(i k).choose_spec.1;have l:∀ k:Nat,atI jR ((m / 11+5 * (k:Int)) % 28)=some (f k):=λk=>(i k).choose_spec.2;have o:(37:Nat)∉jR:=by decide
   clear_value f
   generalize jR=ls at *;have hit:Q3 (eOp z0 (eC (.int 1)) (eOp jc (eOp qX (zC 1) (eC (.int 3))) (eC (.int 9)))) [some (.int c),some (.int m),some (.str ls),none,none,none] s=.ok (qi 0 (1+m / 3 % 9),[]) s:=by simp;omega
   have D:qR 5=true:=by decide
   have e:=VH (n:=1) (tg:=jM 6) (e:=(eOp zu (zC 2) (eOp jc (eOp z0 (eOp qX (zC 1) (eC (.int 11))) (eOp q9 (eC (.int 5)) (zC 6))) (eC (.int 28))))) (λk=>.str [f k]) hit (by unfold SZ;omega) λk _=>by
    simp[D,h,l]
   rw[show (1+m / 3 % 9 - 0).toNat=(1+m / 3 % 9).toNat by omega] at e;have p:(jA (1+m / 3 % 9).toNat).length <= SZ:=by rw[Zm];unfold SZ;omega
   have v:Zs [some (.int c),some (.int m),some (.str ls),none,none,none] s=.rt (.str ((jA (1+m / 3 % 9).toNat).map f)) s:=by
    simp only[Zs];simp[G,e,uZ _ _ _ p]
   refine⟨(jA (1+m / 3 % 9).toNat).map f,j7 (g:=[]) ?_ rfl,?_,by rw[j5,Zm];omega⟩
   ·rw[jP,a,A,RS.then_nx,zX B,RS.then_nx,zX x,RS.then_nx,zX v];rfl
   ·intro z;obtain⟨k,_,E⟩:=List.mem_map.mp z;exact o (E ▸ j k)
  ·obtain⟨z,H⟩:∃ z,z=if m / 30 % 9=1 then m / 270 % 81 else m / 3 % 10:=⟨_,rfl⟩
   have U:0 <= z/\z <= 80:=by
    have F:=yE (m / 270) (show (81:Int)≠0 by decide);have a1:=yj (m / 270) (show (0:Int) < 81 by decide);have a2:=yE (m / 3) (show (10:Int)≠0 by decide);have a3:=yj (m / 3) (show (0:Int) < 10 by decide);rw[H];split<;>omega
   have V:=yE m (show (5:Int)≠0 by decide);have W:=yj m (show (0:Int) < 5 by decide);have D:qR (1+m % 5)=true:=decide_eq_true (by omega);have h:yq.length <= SZ:=by decide
   have i:∀ k:Nat,∃ d∈yq,atI yq ((m / 7+(k:Int) * (1+m % 5)) % 93)=some d:=λk=>YX (n:=93) rfl (by decide) _
   let f:Nat->Nat:=λk=>(i k).choose
   have j:∀ k,f k∈yq:=λk=>(i k).choose_spec.1;have l:∀ k:Nat,atI yq ((m / 7+(k:Int) * (1+m % 5)) % 93)=some (f k):=λk=>(i k).choose_spec.2;have o:(37:Nat)∉yq:=by decide
   clear_value f
   generalize jR=ls at *;have v:Zs [some (.int c),some (.int m),some (.str ls),none,none,none] s=.nx [some (.int c),some (.int m),some (.str ls),none,none,none] s:=by
    simp only[Zs];simp[G]
   have C:xZ [some (.int c),some (.int m),some (.str ls),none,none,none] s=.nx [some (.int c),some (.int m),some (.str ls),some (.int (m / 3 % 10)),none,none] s:=by simp[xZ]
   have K:xK [some (.int c),some (.int m),some (.str ls),some (.int (m / 3 % 10)),none,none] s=.nx [some (.int c),some (.int m),some (.str ls),some (.int z),none,none] s:=by
    by_cases q:m / 30 % 9=1<;>simp[xK,q,H]
   have L:Jy [some (.int c),some (.int m),some (.str ls),some (.int z),none,none] s=.nx [some (.int c),some (.int m),some (.str ls),some (.int z),some (.str yq),none] s:=by simp[Jy,Jp]
   generalize yq=y at *;have hit:Q3 (zC 3) [some (.int c),some (.int m),some (.str ls),some (.int z),some (.str y),none] s=.ok (qi 0 z,[]) s:=by simp;omega
   have e:=VH (n:=1) (tg:=jM 6) (e:=(eOp zu (zC 4) (eOp jc (eOp z0 (eOp qX (zC 1) (eC (.int 7))) (eOp q9 (zC 6) (eOp z0 (eC (.int 1)) (eOp jc (zC 1) (eC (.int 5)))))) (eC (.int 93))))) (λk=>.str [f k]) hit (by unfold SZ;omega) λk X=>by
    have M:qR (k:Int)=true:=decide_eq_true (by omega);simp[D,M,h,l]
   rw[show (z - 0).toNat=z.toNat by omega] at e;have p:(jA z.toNat).length <= SZ:=by rw[Zm];unfold SZ;omega
   have N:xj [some (.int c),some (.int m),some (.str ls),some (.int z),some (.str y),none] s=.nx [some (.int c),some (.int m),some (.str ls),some (.int z),some (.str y),some (.ref s.length)] (s++[.lst ((jA z.toNat).map λk=>.str [f k])]):=by
    simp only[xj,zq,ZT];rw[e];simp
   have O:((jA z.toNat).map f).length <= 80:=by rw[j5,Zm];omega
   have P:JZ [some (.int c),some (.int m),some (.str ls),some (.int z),some (.str y),some (.ref s.length)] (s++[.lst ((jA z.toNat).map λk=>.str [f k])])=.rt (.str (34::((jA z.toNat).map f++[34]))) (s++[.lst ((jA z.toNat).map λk=>.str [f k])]):=by
    have Q:=uZ f (jA z.toNat) (s++[.lst ((jA z.toNat).map λk=>.str [f k])]) p;have R:1+z.toNat <= SZ:=by unfold SZ;omega
    have T:z.toNat+1+1 <= SZ:=by unfold SZ;omega
    simp only[JZ];simp[yr,Q,R,T,-xY]
   refine⟨34::((jA z.toNat).map f++[34]),j7 (g:=[.lst ((jA z.toNat).map λk=>.str [f k])]) ?_ rfl,?_,by simp;omega⟩
   ·rw[a,A,RS.then_nx,zX B,RS.then_nx,zX x,RS.then_nx,zX v,RS.then_nx,zX C,RS.then_nx,zX K,RS.then_nx,zX L,RS.then_nx,zX N,RS.then_nx,P];rfl
   ·intro q;simp at q;obtain⟨k,_,E⟩:=q;exact o (E ▸ j k)
noncomputable def Xo:SM :=
  (zi (Jh cLe cLe (eC (.str [97])) (zC 0) (eC (.str [122]))))
noncomputable def VX:F:=fn 1 Xo
noncomputable def QA:F
 | [.str x],s=>.ok (.bl (Jx x)) s
 | _,_=>.no
theorem zA5:jD 1 VX QA:=jD.pure λb S d c e=>by
 match b,d with
 | [a],_ =>
  cases a with
  | str x=>exact .inr ⟨_,[],rfl,by by_cases h:x < [97]<;>simp[VX,Xo,Jx,h],rfl⟩
  | _=>exact .inl rfl
noncomputable def XY:SM :=
  (zi (eOr (zQ QA (zH (zC 0) zM)) (eOr (Qg cEq (zC 0) (eC (.str [46]))) (Qg cEq (zC 0) (eC (.str [42]))))))
noncomputable def vj:F:=fn 1 XY
noncomputable def Zw:F:=chS vj
theorem VB:jD 1 vj Zw:=qx _
theorem Xi (c:Nat) (s:S):Zw [.str [c]] s=.ok (.bl (wsg c)) s:=by
 refine j7 (g:=[]) ?_ rfl;rw[jP];have d:Jx [c]=(decide (97 <= c) && decide (c <= 122)):=by
  have e:decide (([c]:T) < [97])=decide (c < 97):=by rw[decide_eq_decide];exact q3 _ _
  have f:decide (([122]:T) < [c])=decide (122 < c):=by rw[decide_eq_decide];exact q3 _ _
  unfold Jx;rw[e,f];by_cases a:c < 97<;>by_cases b:122 < c<;>simp[a,b]<;>omega
 simp only[vj,XY,fn];by_cases a:Jx [c]=true
 ·simp[QA,a,wsg,<- d]
 ·by_cases b:c=46
  ·simp[QA,a,b,wsg]
  ·have h:(c == 46)=false:=by simpa using b
   have i:(c == 42)=decide (c=42):=rfl;simp[QA,a,b,wsg,<- d,h,i]
noncomputable def Xa:SM :=
  (zi (eOr (Jh cLe cLe (eC (.str [32])) (zC 0) (eC (.str [36]))) (Jh cLe cLe (eC (.str [38])) (zC 0) (eC (.str [126])))))
noncomputable def Vx:F:=fn 1 Xa
noncomputable def kn (x:T):Bool:=(!decide (x < [32]) && !decide ([36] < x)) || (!decide (x < [38]) && !decide ([126] < x))
noncomputable def Ql:F
 | [.str x],s=>.ok (.bl (kn x)) s
 | _,_=>.no
theorem V0:jD 1 Vx Ql:=jD.pure λb S d c e=>by
 match b,d with
 | [a],_ =>
  cases a with
  | str x=>exact .inr ⟨_,[],rfl,by simp[Vx,Xa,kn],rfl⟩
  | _=>exact .inl rfl
noncomputable def xO:SM :=
  (zq 2 (eM .str X2 (zC 0) (zH (eC (.str [34])) (zH (eOp z0 (zC 1) (eC (.int 1))) zM))))
noncomputable def QU:SM :=
  (sIf (zg cLt (zC 2) (eC (.int 0)))
  (Qv 21 (zH (zC 1) zM))
  jC)
noncomputable def Qh:SM :=
  (zq 3 (eSl (zC 0) (jI (eOp z0 (zC 1) (eC (.int 1)))) (jI (zC 2))))
noncomputable def y0:SM :=
  (sIf (qB (jv (ZU Qk 1 (iE (zC 3)) (jM 4) qL (zQ Ql (zH (zC 4) zM)))))
  (Qv 21 (zH (zC 1) zM))
  jC)
noncomputable def QV:SM :=
  (zi (zC 3))
noncomputable def y4:SM:=(zO xO (zO QU (zO Qh (zO y0 QV))))
noncomputable def kv:F:=fn 4 y4
noncomputable def xi:F:=chX chS kv
theorem zBW:JL 2 kv xi:=KS (qx _)
theorem wt (c:Nat):kn [c]=rsg c:=by
 have a:decide (([c]:T) < [32])=decide (c < 32):=by rw[decide_eq_decide];exact q3 _ _
 have b:decide (([36]:T) < [c])=decide (36 < c):=by rw[decide_eq_decide];exact q3 _ _
 have d:decide (([c]:T) < [38])=decide (c < 38):=by rw[decide_eq_decide];exact q3 _ _
 have e:decide (([126]:T) < [c])=decide (126 < c):=by rw[decide_eq_decide];exact q3 _ _
 unfold kn rsg;rw[a,b,d,e,ZN];simp
theorem zDA (x:T) (p:Nat) (s:S) (r:x.length <= 1000) (hp:p < x.length):xi [.str x,.int p] s=match quo (x.drop (p+1)) with
  | some w=>.ok (.str w) s
  | none=>.exc (.tup [.int 21,.int p]) s:=by
 have m:x.length <= SZ:=zx r (by decide);have t:¬ ((p:Int)+1 < 0):=by omega
 have u:((p:Int)+1).toNat=p+1:=by omega
 have v:xO [some (.str x),some (.int p),none,none] s=.nx [some (.str x),some (.int p),some (.int (ZO 34 x (p+1))),none] s:=by
  simp[xO,m,u];omega
 have f:y4 [some (.str x),some (.int p),none,none] s=_:=zX v;unfold quo;cases h:(x.drop (p+1)).findIdx? (· == 34) with
 | none =>
  have e:ZO 34 x (p+1) = -1:=by unfold ZO;rw[h]
  refine Xj (g:=[]) ?_ rfl;rw[jP];show (y4 [some (.str x),some (.int p),none,none] s).out=_;rw[f,e];simp[QU]
 | some j =>
  have y:j < (x.drop (p+1)).length:=(List.findIdx?_eq_some_iff_getElem.mp h).1;rw[jf] at y;have e:ZO 34 x (p+1)=((p+1+j:Nat):Int):=by unfold ZO;rw[h]
  have z:QU [some (.str x),some (.int p),some (.int ((p+1+j:Nat):Int)),none] s=.nx [some (.str x),some (.int p),some (.int ((p+1+j:Nat):Int)),none] s:=by
   have:¬ (((p+1+j:Nat):Int) < 0):=by omega
   simp only[QU];simp;omega
  have A:cut x (some ((p:Int)+1)) (some ((p+1+j:Nat):Int))=(x.drop (p+1)).take j:=by
   have:=Jl x (a:=p+1) (b:=p+1+j) (by omega) (by omega);rw[K4] at this;exact this
  have B:Qh [some (.str x),some (.int p),some (.int ((p+1+j:Nat):Int)),none] s=.nx [some (.str x),some (.int p),some (.int ((p+1+j:Nat):Int)),some (.str ((x.drop (p+1)).take j))] s:=by
   simp only[Qh,zq,eSl,zC,jI,eOp];simp[m,A,-vA]
  have i:((x.drop (p+1)).take j).length <= SZ:=by rw[qk,jf];omega
  have d:qI 1 (iE (zC 3)) (jM 4) qL (zQ Ql (zH (zC 4) zM)) [some (.str x),some (.int p),some (.int ((p+1+j:Nat):Int)),some (.str ((x.drop (p+1)).take j))] s=.ok (((x.drop (p+1)).take j).map λc=>.bl (rsg c)) s :=
   wC _ (by simp only[iE,zC];simp[-KN,-XV];omega) i λc _=>by simp[Ql,wt]
  have n:=zX (b:=(zO Qh (zO y0 QV))) z;have o:=zX (b:=(zO y0 QV)) B;by_cases ha:((x.drop (p+1)).take j).all rsg=true
  ·have k:y0 [some (.str x),some (.int p),some (.int ((p+1+j:Nat):Int)),some (.str ((x.drop (p+1)).take j))] s=.nx [some (.str x),some (.int p),some (.int ((p+1+j:Nat):Int)),some (.str ((x.drop (p+1)).take j))] s:=by
    simp only[y0,sIf,qB,jv,ZU];rw[d];simp[all_map,ha,-KN,-XV]
   have l:y4 [some (.str x),some (.int p),none,none] s=.rt (.str ((x.drop (p+1)).take j)) s:=by
    rw[f,e,RS.then_nx,n,RS.then_nx,o,RS.then_nx,zX k,RS.then_nx];simp[QV]
   have q:kv [.str x,.int p] s=.ok (.str ((x.drop (p+1)).take j)) s:=by
    show (y4 [some (.str x),some (.int p),none,none] s).out=_;rw[l];rfl
   dsimp only;rw[if_pos ha];show chX chS kv _ _=_;rw[Kh q];exact j7 (g:=[]) (by rw[jP];exact q) rfl
  ·have k:y0 [some (.str x),some (.int p),some (.int ((p+1+j:Nat):Int)),some (.str ((x.drop (p+1)).take j))] s=.exc (.tup [.int 21,.int p]) [some (.str x),some (.int p),some (.int ((p+1+j:Nat):Int)),some (.str ((x.drop (p+1)).take j))] s:=by
    simp only[y0,sIf,qB,jv,ZU];rw[d];simp[all_map,ha,-KN,-XV]
   have l:y4 [some (.str x),some (.int p),none,none] s=.exc (.tup [.int 21,.int p]) [some (.str x),some (.int p),some (.int ((p+1+j:Nat):Int)),some (.str ((x.drop (p+1)).take j))] s:=by
    rw[f,e,RS.then_nx,n,RS.then_nx,o,RS.then_nx,zX k];rfl
   dsimp only;rw[if_neg ha];refine Xj (g:=[]) ?_ rfl;rw[jP];show (y4 [some (.str x),some (.int p),none,none] s).out=_;rw[l];rfl
noncomputable def xg:SM :=
  (zO (zq 2 (zC 1))
  (zO (Ju (yd (zg cLt (zC 2) (zQ jg (zH (zC 0) zM))) (jv (zQ Zw (zH (eOp zu (zC 0) (zC 2)) zM))))
  (QJ xF 2 (eC (.int 1))))
  (zi (eSl (zC 0) (jI (zC 1)) (jI (zC 2))))))
noncomputable def YL:F:=fn 3 xg
noncomputable def Jo:F:=chS YL
theorem Vm:jD 2 YL Jo:=qx _
theorem zAp (x:T) (p:Int) (s:S) (c:x.length <= SZ):∀ (n a i:Nat),x.length - i <= n->n < a->i <= x.length->jp a (yd (zg cLt (zC 2) (zQ jg (zH (zC 0) zM))) (jv (zQ Zw (zH (eOp zu (zC 0) (zC 2)) zM)))) (QJ xF 2 (eC (.int 1))) [some (.str x),some (.int p),some (.int i)] s=.nx [some (.str x),some (.int p),some (.int (i+((x.drop i).takeWhile wsg).length:Nat))] s:=by
 intro n
 induction n with
 | zero =>
  intro a i d g h;obtain⟨f,rfl⟩:∃ f,a=f+1:=⟨a - 1,by omega⟩
  have e:i=x.length:=by omega
  subst e;simp[jp,c]
 | succ n j =>
  intro a i d g h;obtain⟨f,rfl⟩:∃ f,a=f+1:=⟨a - 1,by omega⟩
  by_cases hi:i < x.length
  ·have hd:x.drop i=x[i]::x.drop (i+1):=(QB hi)
   have ha:atI x (i:Int)=some x[i]:=by
    rw[JO (by omega) (by omega) 0];simp[hi]
   have b:(i:Int) < (x.length:Int):=by omega
   cases hw:wsg x[i] with
   | true =>
    have:=j f (i+1) (by omega) (by omega) (by omega);rw[jp];simp[ha,b,Xi,hw,hi,c];rw[show ((i:Int)+1)=((i+1:Nat):Int) by omega,this,hd];rw[ym,hw];simp;omega
   | false =>
    rw[jp];simp only[hd,ym,hw];simp[ha,b,Xi,hw,hi,c]
  ·have e:i=x.length:=by omega
   subst e;simp[jp,c]
theorem zA0 (x:T) (p:Nat) (s:S) (d:x.length <= 1000) (hp:p <= x.length):Jo [.str x,.int p] s=.ok (.str ((x.drop p).takeWhile wsg)) s:=by
 refine j7 (g:=[]) ?_ rfl;rw[jP];have a:x.length <= SZ:=zx d (by decide);have h:=zAp x p s a x.length JM p (by omega) (by unfold JM;omega) hp;have e:xg [some (.str x),some (.int p),none] s=_:=zX (r:=.nx [some (.str x),some (.int p),some (.int p)] s) (by simp);show (xg [some (.str x),some (.int p),none] s).out=_;rw[e,RS.then_nx];have f:=zX (b:=zi (eSl (zC 0) (jI (zC 1)) (jI (zC 2)))) (show Ju _ _ [some (.str x),some (.int p),some (.int p)] s=_ from h);rw[f,RS.then_nx];have c:cut x (some (p:Int)) (some ((p+((x.drop p).takeWhile wsg).length:Nat):Int))=(x.drop p).takeWhile wsg:=by
  have i:((x.drop p).takeWhile wsg).length <= x.length - p:=by
   have:=(X6 (l:=x.drop p) wsg).length_le
   rwa [jf] at this
  rw[Jl _ hp (by omega)];rw[K4];exact (List.prefix_iff_eq_take.mp (X6 wsg)).symm
 rw[vA] at c;simp[c,a]
noncomputable def xU:SM :=
  (zq 2 (eOp zu (zC 0) (zC 1)))
noncomputable def JT:SM :=
  (sIf (tOr (zg cEq (zC 2) (eC (.str [40]))) (zg cEq (zC 2) (eC (.str [41]))))
  (zi (x4 (zH (eC (.str [98,114,97,99,107,101,116])) (zH (zC 2) (zH (zC 1) zM)))))
  jC)
noncomputable def Zj:SM :=
  (sIf (zg cEq (zC 2) (eC (.str [34])))
  (zi (x4 (zH (eC (.str [113,117,111,116,101])) (zH (zQ xi (zH (zC 0) (zH (zC 1) zM))) (zH (zC 1) zM)))))
  jC)
noncomputable def QN:SM :=
  (sIf (jv (zQ Zw (zH (zC 2) zM)))
  (zi (x4 (zH (eC (.str [119,111,114,100])) (zH (zQ Jo (zH (zC 0) (zH (zC 1) zM))) (zH (zC 1) zM)))))
  jC)
noncomputable def Qi:SM :=
  (Qv 21 (zH (zC 1) zM))
noncomputable def J3:SM:=(zO xU (zO JT (zO Zj (zO QN Qi))))
noncomputable def Ky:F:=fn 3 J3
noncomputable def Qr:F:=chX chS Ky
theorem zCi:JL 2 Ky Qr:=KS (qx _)
theorem Ke {m:F}{a:List D}{s:S}{d:D} (h:m a s=.ok d s) (k:D.cl s.length d=true):chX chS m a s=.ok d s:=by
 rw[Kh h];exact j7 (g:=[]) (by rw[jP];exact h) k
theorem VA {r:F->F}{m:F}{a:List D}{s:S}{d:D} (h:m a s=.exc d s) (k:D.cl s.length d=true):chX r m a s=.exc d s:=Xj (g:=[]) (by rw[jP];exact h) k
theorem zB6 (x:T) (p:Nat) (s:S) (g:x.length <= 1000) (hp:p < x.length):Qr [.str x,.int p] s=match qj x p with
  | some (k,w)=>.ok (.tup [.str k,.str w,.int p]) s
  | none=>.exc (.tup [.int 21,.int p]) s:=by
 have i:x.length <= SZ:=zx g (by decide);have ha:atI x (p:Int)=some x[p]:=by
  rw[JO (by omega) (by omega) 0];simp[hp]
 have j:xU [some (.str x),some (.int p),none] s=.nx [some (.str x),some (.int p),some (.str [x[p]])] s:=by
  simp[xU,i,ha]
 have a:J3 [some (.str x),some (.int p),none] s=_:=zX j;have c:Ky [.str x,.int p] s=(J3 [some (.str x),some (.int p),none] s).out:=rfl;unfold qj;rw[qU hp];dsimp only;by_cases c1:x[p]=40\/x[p]=41
 ·rw[if_pos c1];refine Ke ?_ rfl;rw[c,a,RS.then_nx];rcases c1 with c1 | c1<;>simp[c1,JT,(by decide:3 <= SZ)]
 ·rw[if_neg c1];have d:x[p]≠40/\x[p]≠41:=⟨λz=>c1 (.inl z),λz=>c1 (.inr z)⟩
  have l:JT [some (.str x),some (.int p),some (.str [x[p]])] s=.nx [some (.str x),some (.int p),some (.str [x[p]])] s:=by
   simp[JT,d.1,d.2]
  have e:=zX (b:=(zO Zj (zO QN Qi))) l;by_cases c2:x[p]=34
  ·rw[if_pos c2];have f:=zDA x p s g hp;cases hw:quo (x.drop (p+1)) with
   | none =>
    rw[hw] at f;refine VA ?_ rfl;rw[c,a,RS.then_nx,e,RS.then_nx];simp[Zj,c2,f,(by decide:3 <= SZ)]
   | some w =>
    rw[hw] at f;refine Ke ?_ rfl;rw[c,a,RS.then_nx,e,RS.then_nx];simp[Zj,c2,f,(by decide:3 <= SZ)]
  ·rw[if_neg c2];have m:Zj [some (.str x),some (.int p),some (.str [x[p]])] s=.nx [some (.str x),some (.int p),some (.str [x[p]])] s:=by
    simp[Zj,c2]
   have h:=zX (b:=(zO QN Qi)) m;by_cases c3:wsg x[p]=true
   ·rw[if_pos c3];refine Ke ?_ rfl;rw[c,a,RS.then_nx,e,RS.then_nx,h,RS.then_nx];simp[QN,Xi,c3,zA0 x p s g (by omega),(by decide:3 <= SZ)]
   ·rw[if_neg c3];refine VA ?_ rfl;rw[c,a,RS.then_nx,e,RS.then_nx,h,RS.then_nx];simp[QN,Qi,Xi,c3]
noncomputable def x5:SM :=
  (zO (zq 1 (eIf (zg cEq (eOp zu (zC 0) (eC (.int 0))) (eC (.str [113,117,111,116,101]))) (eC (.int 2)) (eC (.int 0))))
  (zi (eOp z0 (eOp z0 (eOp zu (zC 0) (eC (.int 2))) (zQ jg (zH (eOp zu (zC 0) (eC (.int 1))) zM))) (zC 1))))
noncomputable def kq:F:=fn 2 x5
noncomputable def Qe:F:=chS kq
theorem uY:jD 1 kq Qe:=qx _
theorem zDB (k w:T) (p:Int) (s:S) (hw:w.length <= SZ):Qe [.tup [.str k,.str w,.int p]] s=.ok (.int (p+w.length+if k=[113,117,111,116,101] then 2 else 0)) s:=by
 refine j7 (g:=[]) ?_ rfl;rw[jP];by_cases h:k=[113,117,111,116,101]
 ·simp[kq,x5,h,atI,ixN,hw]
 ·simp[kq,x5,h,atI,ixN,hw]
noncomputable def XA:SM :=
  (zq 1 (QH zM))
noncomputable def xp:SM :=
  (zq 2 (eC (.int 0)))
noncomputable def Qy:SM :=
  (Ju (zg cLt (zC 2) (zQ jg (zH (zC 0) zM)))
  (sIf (zg cEq (eOp zu (zC 0) (zC 2)) (eC (.str [32])))
  (QJ xF 2 (eC (.int 1)))
  (zO (zq 3 (zQ Qr (zH (zC 0) (zH (zC 2) zM))))
  (zO (ZS (eM .list kL (zC 1) (zH (zC 3) zM)))
  (zq 2 (zQ Qe (zH (zC 3) zM)))))))
noncomputable def Zx:SM :=
  (zi (zC 1))
noncomputable def Jd:SM:=(zO XA (zO xp (zO Qy Zx)))
noncomputable def xR:F:=fn 4 Jd
noncomputable def qS:F:=chX chN xR
theorem zEU:JL 1 xR qS:=KS (zBU _)
noncomputable abbrev tkC:TM:=(zg cLt (zC 2) (zQ jg (zH (zC 0) zM)))
noncomputable abbrev tkB:SM :=
  (sIf (zg cEq (eOp zu (zC 0) (zC 2)) (eC (.str [32])))
  (QJ xF 2 (eC (.int 1)))
  (zO (zq 3 (zQ Qr (zH (zC 0) (zH (zC 2) zM))))
  (zO (ZS (eM .list kL (zC 1) (zH (zC 3) zM)))
  (zq 2 (zQ Qe (zH (zC 3) zM))))))
theorem zFa (x:T) (s:S) (t:x.length <= 1000):∀ (n b p:Nat) (a:List D) (v:Option D),x.length - p <= n->n < b->p <= x.length->a.length <= p ->
  ∃ c e,Cov x p c e/\((e=x.length/\∃ z,jp b tkC tkB [some (.str x),some (.ref s.length),some (.int p),v] (s++[.lst a])=.nx [some (.str x),some (.ref s.length),some (.int e),z] (s++[.lst (a++c)]))\/(Bad x e/\∃ σ g,jp b tkC tkB [some (.str x),some (.ref s.length),some (.int p),v] (s++[.lst a])=.exc (.tup [.int 21,.int e]) σ (s++g))):=by
 intro n;have d:x.length <= SZ:=zx t (by decide)
 induction n with
 | zero =>
  intro b p a v A B C E;obtain⟨f,rfl⟩:∃ f,b=f+1:=⟨b - 1,by omega⟩
  have e:p=x.length:=by omega
  subst e;exact⟨[],_,.nil _,.inl ⟨rfl,v,by simp[jp,d]⟩⟩
 | succ n u =>
  intro b p a v A B C E;obtain⟨f,rfl⟩:∃ f,b=f+1:=⟨b - 1,by omega⟩
  by_cases hp:p < x.length
  ·have ha:atI x (p:Int)=some x[p]:=by
    rw[JO (by omega) (by omega) 0];simp[hp]
   have F:(p:Int) < (x.length:Int):=by omega
   have l:x[p]? = some x[p]:=qU hp;by_cases c1:x[p]=32
   ·obtain⟨c,e,o,h⟩:=u f (p+1) a v (by omega) (by omega) (by omega) (by omega);refine⟨c,e,.blank (by rw[l,c1]) o,?_⟩;rw[jp];simp[ha,d,hp,c1];rw[show ((p:Int)+1)=((p+1:Nat):Int) by omega];simpa using h
   ·have j:=zB6 x p (s++[.lst a]) t hp;cases i:qj x p with
    | none =>
     rw[i] at j;refine⟨[],p,.nil _,.inr ⟨⟨hp,by rw[l];simpa using c1,i⟩,[some (.str x),some (.ref s.length),some (.int p),v],[.lst a],?_⟩⟩;rw[jp];simp[ha,d,hp,c1,j]
    | some G =>
     obtain⟨k,w⟩:=G;rw[i] at j;obtain⟨g1,g2,I⟩:=JW i;obtain⟨c,e,o,h⟩:=u f (jO k w p) (a++[tkD k w p]) (some (tkD k w p)) (by omega) (by omega) g2 (by rw[yc];simp;omega);refine⟨tkD k w p::c,e,.tok (by rw[l];simpa using c1) i o,?_⟩;have hsz:a.length < SZ:=zx (m:=1000) (by omega) (by decide);have y:=zDB k w p (s++[.lst (a++[tkD k w p])]) (by omega);have H:((p:Int)+w.length+if k=kQu then 2 else 0)=(jO k w p:Int):=by
      unfold jO;split<;>simp
     have q:tkB [some (.str x),some (.ref s.length),some (.int p),v] (s++[.lst a])=.nx [some (.str x),some (.ref s.length),some (.int (jO k w p)),some (tkD k w p)] (s++[.lst (a++[tkD k w p])]):=by
      rw[<- H];unfold tkD at y ⊢;simp[ha,d,c1,j,hsz,y]
     have r:tkC [some (.str x),some (.ref s.length),some (.int p),v] (s++[.lst a])=.ok true (s++[.lst a]):=by simp[d,hp]
     have step:jp (f+1) tkC tkB [some (.str x),some (.ref s.length),some (.int p),v] (s++[.lst a])=jp f tkC tkB [some (.str x),some (.ref s.length),some (.int (jO k w p)),some (tkD k w p)] (s++[.lst (a++[tkD k w p])]):=by
      rw[jp,r,R.stm_ok,if_pos rfl,q]
     rw[step];rw[Xx] at h;exact h
  ·have e:p=x.length:=by omega
   subst e;exact⟨[],_,.nil _,.inl ⟨rfl,v,by simp[jp,d]⟩⟩
theorem uI (x:T) (s:S) (m:x.length <= 1000):∃ c e,Cov x 0 c e/\((e=x.length/\qS [.str x] s=alloc (.lst c) s)\/(Bad x e/\qS [.str x] s=.exc (.tup [.int 21,.int e]) s)):=by
 obtain⟨c,e,f,h⟩:=zFa x s m x.length JM 0 [] none (by omega) (by unfold JM;omega) (by omega) (by simp);refine⟨c,e,f,?_⟩;have i:Jd [some (.str x),none,none,none] s=_:=zX (r:=.nx [some (.str x),some (.ref s.length),none,none] (s++[.lst []])) (by simp[XA]);have j:=zX (a:=xp) (b:=zO Qy Zx) (σ:=[some (.str x),some (.ref s.length),none,none]) (s:=s++[.lst []]) (r:=.nx [some (.str x),some (.ref s.length),some (.int 0),none] (s++[.lst []])) (by simp[xp]);have k:xR [.str x] s=(Jd [some (.str x),none,none,none] s).out:=rfl;rcases h with ⟨n,p,h⟩ | ⟨o,σ,g,h⟩
 ·refine .inl ⟨n,?_⟩;have d:=zX (b:=Zx) (show Qy [some (.str x),some (.ref s.length),some (.int 0),none] (s++[.lst []])=_ from h);have l:xR [.str x] s=.ok (.ref s.length) (s++[.lst c]):=by
   rw[k,i,RS.then_nx,j,RS.then_nx,d,RS.then_nx];simp[Zx]
  show chX chN xR _ _=_;rw[Kh l];exact zCh l (by simp) (zl _) f.cl
 ·refine .inr ⟨o,?_⟩;have d:=zX (b:=Zx) (show Qy [some (.str x),some (.ref s.length),some (.int 0),none] (s++[.lst []])=_ from h);refine Xj (g:=g) ?_ rfl;rw[k,i,RS.then_nx,j,RS.then_nx,d];rfl
noncomputable def J0:SM :=
  (zO (sIf (zg cLt (zC 1) (zQ jg (zH (zC 0) zM)))
  (zi (eOp zu (zC 0) (zC 1)))
  jC)
  (zi (eC (.int 0))))
noncomputable def Km:F:=fn 2 J0
noncomputable def Zu (xs:List D) (k:Int):D:=xs.getD k.toNat (.int 0)
noncomputable def yh:F
 | [.ro xs,.int k],s=>if 0 <= k then .ok (Zu xs k) s else .no
 | _,_=>.no
theorem zEA {a:Type}{xs:List a}{k:Int} (b:0 <= k) (h:k < xs.length) (d:a):atI xs k=some (xs.getD k.toNat d):=by
 unfold atI ixN;rw[if_pos b,if_pos h];have c:k.toNat < xs.length:=by omega
 simp[qs,c]
theorem zFH {n:Nat}{xs:List D} (h:D.cl.all n xs=true) (k:Nat) (d:D) (hd:D.cl n d=true):D.cl n (xs.getD k d)=true:=by
 induction xs generalizing k with
 | nil=>exact hd
 | cons x xs a =>
  have h':(D.cl n x && D.cl.all n xs)=true:=h;rw[jG] at h';cases k with
  | zero=>exact h'.1
  | succ k=>exact a h'.2 k
theorem zFT:jD 2 Km yh:=jD.pure λf S g c i=>by
 match f,g with
 | [a,b],_ =>
  cases a with
  | ro xs =>
   cases b with
   | int k =>
    by_cases e:0 <= k
    ·refine .inr ⟨Zu xs k,[],by simp[yh,e],?_,?_⟩
     ·by_cases h:k < (xs.length:Int)
      ·simp[Km,J0,h,zEA e h (.int 0),Zu]
      ·have j:Zu xs k=.int 0:=by unfold Zu;rw[qs,kh (by omega)];rfl
       simp[Km,J0,h,j]
     ·have d:(D.cl.all S.length xs && true)=true:=i;rw[uk] at d;exact zFH d _ _ rfl
    ·exact .inl (by simp[yh,e])
   | _=>exact .inl rfl
  | _=>exact .inl rfl
noncomputable def Jv:SM :=
  (zO (sIf (zg cEq (eOp zu (zC 0) (zC 1)) (eC (.str [34])))
  (zi (zQ Qw (zH (zC 0) (zH (zC 1) zM))))
  jC)
  (zi (Qg xN (eOp zu (zC 0) (zC 1)) (eC (.str [97,98,99,100,101,102,103,104,105,106,107,108,109,110,111,112,113,114,115,116,117,118,119,120,121,122,46,42,40,41,32])))))
noncomputable def kA:F:=fn 2 Jv
noncomputable def xD:F:=chS kA
theorem u4:jD 2 kA xD:=qx _
theorem zAW {x:T}{e:Nat} (s:S) (n:x.length <= 1000) (c:37∉x) (h:Bad x e):xD [.str x,.int e] s=.ok (.bl true) s:=by
 have d:x.length <= SZ:=zx n (by decide);obtain⟨j,k,a⟩:=h;have ha:atI x (e:Int)=some x[e]:=by
  rw[JO (by omega) (by omega) 0];simp[j]
 unfold qj at a;rw[qU j] at a k;dsimp only at a;have f:x[e]≠32:=λz=>k (by rw[z]);refine j7 (g:=[]) ?_ rfl;rw[jP];by_cases c1:x[e]=40\/x[e]=41
 ·rw[if_pos c1] at a;cases a
 rw[if_neg c1] at a;by_cases c2:x[e]=34
 ·rw[if_pos c2] at a;have i:quo (x.drop (e+1))=none:=by
   cases i:quo (x.drop (e+1)) with
   | none=>rfl
   | some w=>rw[i] at a;cases a
  have b:=ug x e s d;rw[X5 _ (λz=>c (kS z)),i] at b;simp[kA,Jv,d,ha,c2,b]
 ·rw[if_neg c2] at a;by_cases c3:wsg x[e]=true
  ·rw[if_pos c3] at a;cases a
  ·have o:qZ [x[e]] [97,98,99,100,101,102,103,104,105,106,107,108,109,110,111,112,113,114,115,116,117,118,119,120,121,122,46,42,40,41,32]=false:=by
    rw[xI];have l:=vX x[e];rw[Bool.not_eq_true] at c3;rw[c3] at l;have p:([97,98,99,100,101,102,103,104,105,106,107,108,109,110,111,112,113,114,115,116,117,118,119,120,121,122,46,42,40,41,32]:T)=jR++[40,41,32]:=rfl;have m:x[e]≠40/\x[e]≠41:=⟨λz=>c1 (.inl z),λz=>c1 (.inr z)⟩
    have q:([40,41,32]:T).contains x[e]=false:=by simp[m.1,m.2,f]
    have r:(jR++[40,41,32]).contains x[e]=(jR.contains x[e] || ([40,41,32]:T).contains x[e]):=by
     rw[ZN];simp only[List.contains_iff_mem,QY,zEG]
    rw[p,r,l,q];rfl
   simp[kA,Jv,d,ha,c2,o]
noncomputable def XG:SM :=
  (zq 1 (eC (.str [33,35,36,38,39,43,44,45,47,48,49,50,51,52,53,54,55,56,57,58,59,60,61,62,63,64,65,66,67,68,69,70,71,72,73,74,75,76,77,78,79,80,81,82,83,84,85,86,87,88,89,90,91,92,93,94,95,96,123,124,125,126,9,10])))
noncomputable def Q1:SM :=
  (sIf (zg cEq (eOp jc (zC 0) (eC (.int 3))) (eC (.int 0)))
  (zi (eOp zu (zC 1) (eOp jc (eOp qX (zC 0) (eC (.int 3))) (zQ jg (zH (zC 1) zM)))))
  jC)
noncomputable def ZD:SM :=
  (sIf (zg cEq (eOp jc (zC 0) (eC (.int 3))) (eC (.int 1)))
  (zi (eOp zu (QH (zH (eC (.str [34])) (zH (eC (.str [34,97])) (zH (eC (.str [34,40,98])) zM)))) (eOp jc (eOp qX (zC 0) (eC (.int 3))) (eC (.int 3)))))
  jC)
noncomputable def Zf:SM :=
  (zi (eOp zu (QH (zH (eC (.str [34,10,34])) (zH (eC (.str [34,97,9,98,34])) (zH (eC (.str [34,97,10,34])) (zH (eC (.str [34,9,34])) zM))))) (eOp jc (eOp qX (zC 0) (eC (.int 3))) (eC (.int 4)))))
noncomputable def Jf:SM:=(zO XG (zO Q1 (zO ZD Zf)))
noncomputable def vl:F:=fn 2 Jf
noncomputable def Qz:F:=chS vl
theorem zC1:jD 1 vl Qz:=qx _
noncomputable abbrev jm:T:=[33,35,36,38,39,43,44,45,47,48,49,50,51,52,53,54,55,56,57,58,59,60,61,62,63,64,65,66,67,68,69,70,71,72,73,74,75,76,77,78,79,80,81,82,83,84,85,86,87,88,89,90,91,92,93,94,95,96,123,124,125,126,9,10]
theorem zBY (c:Int) (s:S):∃ w,Qz [.int c] s=.ok (.str w) s/\37∉w/\w.length <= 5:=by
 have h:Jf [some (.int c),none] s=_:=zX (r:=.nx [some (.int c),some (.str jm)] s) (by simp[XG]);have j:vl [.int c] s=(Jf [some (.int c),none] s).out:=rfl;have k:(3:Nat) <= SZ:=by decide
 have e:(4:Nat) <= SZ:=by decide
 by_cases o:c % 3=0
 ·have u:jm.length <= SZ:=by decide
  have v:(jm.length:Int)=64:=by decide
  have p:=yE (c / 3) (show (64:Int)≠0 by decide);have a1:=yj (c / 3) (show (0:Int) < 64 by decide);obtain⟨i,hi⟩:∃ i:Nat,c / 3 % 64=(i:Int):=⟨(c / 3 % 64).toNat,by omega⟩
  have b:i < jm.length:=by rw[show jm.length=64 by decide];omega
  have ha:atI jm (i:Int)=some jm[i]:=by
   rw[JO (by omega) (by omega) 0];simp only[Int.toNat_natCast];rw[qs,qU b];rfl
  have a:jm[i]∈jm:=zD1 b;generalize jm[i]=d at *;refine⟨[d],j7 (g:=[]) ?_ rfl,?_,by simp⟩
  ·rw[jP,j,h,RS.then_nx];generalize jm=os at *;simp[Q1,o,u,v,hi,ha]
  ·intro z;have:37=d:=by simpa using z
   rw[<- this] at a;exact absurd a (by decide)
 ·have t:Q1 [some (.int c),some (.str jm)] s=.nx [some (.int c),some (.str jm)] s:=by
   generalize jm=os;simp[Q1,o]
  by_cases f:c % 3=1
  ·have p:=yE (c / 3) (show (3:Int)≠0 by decide);have a1:=yj (c / 3) (show (0:Int) < 3 by decide);have l:∃ w,ZD [some (.int c),some (.str jm)] s=.rt (.str w) (s++[.lst [.str [34],.str [34,97],.str [34,40,98]]])/\37∉w/\w.length <= 5:=by
    generalize jm=os;rcases (by omega:c / 3 % 3=0\/c / 3 % 3=1\/c / 3 % 3=2) with q | q | q
    ·exact⟨[34],by simp[ZD,f,q,k,atI,ixN],by decide,by decide⟩
    ·exact⟨[34,97],by simp[ZD,f,q,k,atI,ixN],by decide,by decide⟩
    ·exact⟨[34,40,98],by simp[ZD,f,q,k,atI,ixN],by decide,by decide⟩
   obtain⟨w,m,x,n⟩:=l;refine⟨w,j7 (g:=[.lst [.str [34],.str [34,97],.str [34,40,98]]]) ?_ rfl,x,n⟩;rw[j,h,RS.then_nx,zX t,RS.then_nx,zX m];rfl
  ·have m:ZD [some (.int c),some (.str jm)] s=.nx [some (.int c),some (.str jm)] s:=by
    generalize jm=os;simp[ZD,f]
   have p:=yE (c / 3) (show (4:Int)≠0 by decide);have a1:=yj (c / 3) (show (0:Int) < 4 by decide);have l:∃ w,Zf [some (.int c),some (.str jm)] s=.rt (.str w) (s++[.lst [.str [34,10,34],.str [34,97,9,98,34],.str [34,97,10,34],.str [34,9,34]]])/\37∉w/\w.length <= 5:=by
    generalize jm=os;rcases (by omega:c / 3 % 4=0\/c / 3 % 4=1\/c / 3 % 4=2\/c / 3 % 4=3) with q | q | q | q
    ·exact⟨[34,10,34],by simp[Zf,q,e,atI,ixN],by decide,by decide⟩
    ·exact⟨[34,97,9,98,34],by simp[Zf,q,e,atI,ixN],by decide,by decide⟩
    ·exact⟨[34,97,10,34],by simp[Zf,q,e,atI,ixN],by decide,by decide⟩
    ·exact⟨[34,9,34],by simp[Zf,q,e,atI,ixN],by decide,by decide⟩
   obtain⟨w,n,y,A⟩:=l;refine⟨w,j7 (g:=[.lst [.str [34,10,34],.str [34,97,9,98,34],.str [34,97,10,34],.str [34,9,34]]]) ?_ rfl,y,A⟩;rw[j,h,RS.then_nx,zX t,RS.then_nx,zX m,RS.then_nx,n];rfl
noncomputable def xW:SM :=
  (zq 1 (ZT 2 (kz 0 (eSl (zC 0) (jI (eC (.int 3))) yO)) (yu (jn (jM 8) (jn (jM 9) q8))) qL (zQ QL (zH (eOp z0 (zC 9) (eOp q9 (eC (.int 7919)) (zC 8))) zM))))
noncomputable def JE:SM :=
  (sIf (zg cEq (eOp jc (zQ yh (zH (zC 0) (zH (eC (.int 0)) zM))) (eC (.int 3))) (eC (.int 1)))
  (zO (zq 2 (eOp jc (zQ yh (zH (zC 0) (zH (eC (.int 1)) zM))) (eOp z0 (zQ jg (zH (zC 1) zM)) (eC (.int 1)))))
  (zq 1 (eOp z0 (eOp z0 (eSl (zC 1) yO (jI (zC 2))) (QH (zH (zQ Qz (zH (zQ yh (zH (zC 0) (zH (eC (.int 2)) zM))) zM)) zM))) (eSl (zC 1) (jI (zC 2)) yO))))
  jC)
noncomputable def J6:SM :=
  (zq 3 (eSl (eM .str yg (eC (.str [])) (zH (zC 1) zM)) yO (jI (eC (.int 900)))))
noncomputable def Jk:SM :=
  (zq 4 (eC .non))
noncomputable def xm:SM :=
  (zq 5 (eC .non))
noncomputable def Zc:SM :=
  (ZC 21 5 6 4 (zQ qS (zH (zC 3) zM)))
noncomputable def Zq:SM :=
  (sIf (x6 (zC 5))
  (zO (zq 7 (zQ qS (zH (zC 3) zM)))
  (zO (sIf (qB (jv (zQ yM (zH (zC 3) (zH (zC 5) zM)))))
  (zi (eC (.bl false)))
  jC)
  (zO (ZS (eM .list XN (zC 5) zM))
  (zO (ZS (zQ qS (zH (eC (.str [97,32,40,98,41])) zM)))
  (zi (xr (zQ yM (zH (zC 3) (zH (zQ qS (zH (zC 3) zM)) zM))) (zQ yM (zH (zC 3) (zH (zC 7) zM)))))))))
  jC)
noncomputable def JG:SM :=
  (sIf (tOr (qB (jv (zQ JK (zH (zC 4) zM)))) (tOr (qB (Zp cLe cLt (eC (.int 0)) (zC 4) (zQ jg (zH (zC 3) zM)))) (qB (jv (zQ xD (zH (zC 3) (zH (zC 4) zM)))))))
  (zi (eC (.bl false)))
  jC)
noncomputable def Js:SM :=
  (zi (zQ yM (zH (eSl (zC 3) yO (jI (zC 4))) (zH (zQ qS (zH (eSl (zC 3) yO (jI (zC 4))) zM)) zM))))
noncomputable def xa:SM:=(zO xW (zO JE (zO J6 (zO Jk (zO xm (zO Zc (zO Zq (zO JG Js))))))))
noncomputable def X9:F:=fn 8 xa
theorem XW {x:T}{d:List D} (f:x.length <= 1000) (g:Cov x 0 d x.length) (s:S):∃ a,Cov x 0 a x.length/\qS [.str x] s=.ok (.ref s.length) (s++[.lst a]):=by
 obtain⟨a,e,c,b⟩:=uI x s f;rcases b with ⟨h,b⟩ | ⟨i,_⟩
 ·subst h;exact⟨a,c,b⟩
 ·exact (g.det rfl c i).elim
theorem wH (s:S):∃ d,qS [.str [97,32,40,98,41]] s=.ok (.ref s.length) (s++[.lst d]):=by
 have a:Cov [97,32,40,98,41] 0 [tkD kWo [97] 0,tkD kBr [40] 2,tkD kWo [98] 3,tkD kBr [41] 4] 5 :=
  .tok (by decide) rfl (.blank rfl (.tok (by decide) rfl (.tok (by decide) rfl (.tok (by decide) rfl (.nil 5)))))
 obtain⟨d,_,h⟩:=XW (x:=[97,32,40,98,41]) (by decide) a s;exact⟨d,h⟩
theorem Wq {x:T} (L:x.length <= 900) (j:37∉x) (a d1:D) (f:Option D) (s:S):∃ s',(zO Zc (zO Zq (zO JG Js))) [some a,some d1,f,some (.str x),some .non,some .non,none,none] s=.rt (.bl true) s':=by
 have i:x.length <= 1000:=by omega
 have J:x.length <= SZ:=zx L (by decide);obtain⟨k,e,v,h⟩:=uI x s i;rcases h with ⟨M,h⟩ | ⟨K,h⟩
 ·subst M;have w:Zc [some a,some d1,f,some (.str x),some .non,some .non,none,none] s=.nx [some a,some d1,f,some (.str x),some .non,some (.ref s.length),none,none] (s++[.lst k]):=by
   unfold Zc;rw[zAI (d:=.ref s.length) (s':=s++[.lst k]) (by simp[h])];rfl
  obtain⟨t2,c2,k2⟩:=XW i v (s++[.lst k]);obtain⟨m,n⟩:∃ m:S,m=s++[O.lst k]++[O.lst t2]:=⟨_,rfl⟩
  obtain⟨g,p⟩:∃ g:S,g=s++[O.lst [],O.lst t2]:=⟨_,rfl⟩
  have g1:m[s.length]? = some (.lst k):=by rw[n];simp
  have r:m.set s.length (.lst [])=g:=by rw[n,p];simp
  have g2:g[s.length+1]? = some (.lst t2):=by rw[p];simp
  have y:=XB (q:=s.length) m i j v g1;obtain⟨l,k3⟩:=wH g;obtain⟨o,c4,k4⟩:=XW i v (g++[O.lst l]);have A:=XB (q:=(g++[O.lst l]).length) (g++[O.lst l]++[O.lst o]) i j c4 (by simp);have B:=XB (q:=s.length+1) (g++[O.lst l]++[O.lst o]) i j c2 (Vp (Vp g2 _) _);refine⟨g++[O.lst l]++[O.lst o],?_⟩;rw[zX w,RS.then_nx];have C:(s++[O.lst k]).length=s.length+1:=by simp
  rw[C,<- n] at k2;have E:Zq [some a,some d1,f,some (.str x),some .non,some (.ref s.length),none,none] (s++[.lst k])=.rt (.bl true) (g++[O.lst l]++[O.lst o]):=by
   simp only[Zq];have a1:zq 7 (zQ qS (zH (zC 3) zM)) [some a,some d1,f,some (.str x),some .non,some (.ref s.length),none,none] (s++[O.lst k])=.nx [some a,some d1,f,some (.str x),some .non,some (.ref s.length),none,some (.ref (s.length+1))] m:=by
    simp[k2]
   have a2:sIf (qB (jv (zQ yM (zH (zC 3) (zH (zC 5) zM))))) (zi (eC (.bl false))) jC [some a,some d1,f,some (.str x),some .non,some (.ref s.length),none,some (.ref (s.length+1))] m=.nx [some a,some d1,f,some (.str x),some .non,some (.ref s.length),none,some (.ref (s.length+1))] m:=by
    simp[y]
   have a3:ZS (eM .list XN (zC 5) zM) [some a,some d1,f,some (.str x),some .non,some (.ref s.length),none,some (.ref (s.length+1))] m=.nx [some a,some d1,f,some (.str x),some .non,some (.ref s.length),none,some (.ref (s.length+1))] g:=by
    simp[g1,r]
   have a4:ZS (zQ qS (zH (eC (.str [97,32,40,98,41])) zM)) [some a,some d1,f,some (.str x),some .non,some (.ref s.length),none,some (.ref (s.length+1))] g=.nx [some a,some d1,f,some (.str x),some .non,some (.ref s.length),none,some (.ref (s.length+1))] (g++[O.lst l]):=by
    simp[k3]
   have a5:zi (xr (zQ yM (zH (zC 3) (zH (zQ qS (zH (zC 3) zM)) zM))) (zQ yM (zH (zC 3) (zH (zC 7) zM)))) [some a,some d1,f,some (.str x),some .non,some (.ref s.length),none,some (.ref (s.length+1))] (g++[O.lst l])=.rt (.bl true) (g++[O.lst l]++[O.lst o]):=by
    generalize g++[O.lst l]=N at *;generalize N++[O.lst o]=U at *;simp[k4,A,B]
   have P:∀ {c:TM}{b d:SM}{σ:St}{s s1:S},c σ s=.ok true s1->sIf c b d σ s=b σ s1:=λ{c b d σ s s1} h=>by simp[h]
   rw[P (s1:=s++[O.lst k]) (by simp),zX a1,RS.then_nx,zX a2,RS.then_nx,zX a3,RS.then_nx,zX a4,RS.then_nx,a5]
  rw[zX E];rfl
 ·have w:Zc [some a,some d1,f,some (.str x),some .non,some .non,none,none] s=.nx [some a,some d1,f,some (.str x),some (.int e),some .non,none,none] s:=by
   unfold Zc;rw[UJ (d:=.int e) (s':=s) (by simp[h])];rfl
  have F:e < x.length:=K.1;have E:Zq [some a,some d1,f,some (.str x),some (.int e),some .non,none,none] s=.nx [some a,some d1,f,some (.str x),some (.int e),some .non,none,none] s:=by
   simp[Zq]
  have G:=zAW s i j K;have Q:JG [some a,some d1,f,some (.str x),some (.int e),some .non,none,none] s=.nx [some a,some d1,f,some (.str x),some (.int e),some .non,none,none] s:=by
   have n1:(0:Int) <= (e:Int):=by omega
   simp[JG,YP,J,F,G,n1]
  have H:=v.take;have I:(x.take e).length=e:=by rw[qk];omega
  have t:Cov (x.take e) 0 k (x.take e).length:=by rw[I];exact H
  obtain⟨t2,c2,k2⟩:=XW (x:=x.take e) (by omega) t s;have R:=XB (q:=s.length) (s++[.lst t2]) (by omega:(x.take e).length <= 1000) (λz=>j (Xk z)) c2 (by simp);have u:cut x none (some (e:Int))=x.take e:=by rw[Xs _ (by omega)];rfl
  refine⟨s++[.lst t2],?_⟩;rw[zX w,RS.then_nx,zX E,RS.then_nx,zX Q,RS.then_nx];simp[Js,J,u,k2,R]
theorem Jn:∀ (ns:List Int) (k:Int),qE k (ns.map .int)=(jA ns.length).map λ(i:Nat)=>.tup [.int (k+i),.int (ns.getD i 0)]
 | [],k=>rfl
 | n::ns,k=>by
  rw[qH,qE,Jn ns (k+1),yN,zD2,qH,xY]
  congr 1
  ·simp
  ·apply Zv;intro i _;simp;omega
theorem V1 {P:T->Prop}:∀ (L:List D),(∀ d∈L,∃ w,d=.str w/\P w)->∃ a:List T,L=a.map .str/\∀ w∈a,P w
 | [],_=>⟨[],rfl,by simp⟩
 | d::L,h=>by
  obtain⟨w,e,hw⟩:=h d qT;obtain⟨a,c,f⟩:=V1 L λd hd=>h d (qD _ hd);exact⟨w::a,by rw[e,c];rfl,λv b=>by rcases List.mem_cons.mp b with rfl | b;exact hw;exact f v b⟩
theorem ul (m:Nat):∀ xs:List Nat,(∀ x∈xs,x <= m)->xs.sum <= xs.length * m
 | [],_=>by simp
 | x::xs,h=>by
  have b:=h x (by simp);have c:=ul m xs λy a=>h y (by simp[a]);rw[zCs,yN,Nat.add_mul];omega
noncomputable def Pw (w:T):Prop:=37∉w/\w.length <= 100
theorem zFN (ns:List Int) (u:ns.length <= 63):∃ (b:List T) (s:S),xW [some (.ro (ns.map .int)),none,none,none,none,none,none,none] []=.nx [some (.ro (ns.map .int)),some (.ref 1),none,none,none,none,none,none] (s++[.lst (b.map .str)])/\s.length=1/\b.length <= 63/\∀ w∈b,Pw w:=by
 obtain⟨xs,h⟩:∃ xs,xs=ns.drop 3:=⟨_,rfl⟩
 have q:xs.length <= 63:=by rw[h,jf];omega
 have j:cut (ns.map D.int) (some 3) none=xs.map .int:=by rw[kW _ (by decide),h,XV];rfl
 obtain⟨s1,a⟩:∃ s1:S,s1=[O.lst (xs.map .int)]:=⟨_,rfl⟩
 let f:Int->T:=λc=>(vo c s1).choose
 have r:∀ c,QL [.int c] s1=.ok (.str (f c)) s1:=λc=>(vo c s1).choose_spec.1;have t:∀ c,Pw (f c):=λc=>(vo c s1).choose_spec.2
 clear_value f
 have l:qR 7919=true:=by decide
 have o:=u3 (n:=2) (it:=kz 0 (eSl (zC 0) (jI (eC (.int 3))) yO)) (tg:=yu (jn (jM 8) (jn (jM 9) q8))) (e:=zQ QL (zH (eOp z0 (zC 9) (eOp q9 (eC (.int 7919)) (zC 8))) zM)) (σ:=[some (.ro (ns.map .int)),none,none,none,none,none,none,none]) (s:=[]) (s1:=s1) (xs:=qE 0 (xs.map .int)) (g:=[(0,.lst (xs.map .int))]) (λd=>match d with | .tup [.int i,.int c]=>.str (f (c+7919 * i)) | _=>.non) (by simp[j,a]) (by rw[Jn,j5,Zm];unfold SZ;omega) (by simp[zU,a]) (λd hd=>by
  rw[Jn] at hd;obtain⟨i,_,rfl⟩:=List.mem_map.mp hd;simp[l,r])
 obtain⟨b,p,hw⟩:=V1 (P:=Pw) ((qE 0 (xs.map .int)).map (λd=>match d with | .tup [.int i,.int c]=>.str (f (c+7919 * i)) | _=>.non)) λd hd=>by
  obtain⟨d',k,rfl⟩:=List.mem_map.mp hd;rw[Jn] at k;obtain⟨i,_,rfl⟩:=List.mem_map.mp k;exact⟨_,rfl,t _⟩
 rw[p] at o;have m:b.length <= 63:=by
  have:=congrArg ZX p;rw[j5,j5,Jn,j5,Zm] at this;omega
 refine⟨b,s1,?_,by rw[a];rfl,m,hw⟩;simp only[xW,zq,ZT];rw[o];simp[a]
theorem v0 (ns:List Int) (k:Int):Zu (ns.map .int) k=.int (ns.getD k.toNat 0):=by
 unfold Zu;rw[qs,ZL,qs];cases ns[k.toNat]?<;>rfl
theorem We (ns:List Int) (b:List T) (s:S) (g:s.length=1) (u:b.length <= 63) (hw:∀ w∈b,Pw w):∃ (q:Nat) (m:Option D) (s2:S) (e:List T),JE [some (.ro (ns.map .int)),some (.ref 1),none,none,none,none,none,none] (s++[.lst (b.map .str)])=.nx [some (.ro (ns.map .int)),some (.ref q),m,none,none,none,none,none] s2/\s2[q]? = some (.lst (e.map .str))/\e.length <= 64/\∀ w∈e,Pw w:=by
 obtain⟨s1,c⟩:∃ s1:S,s1=s++[O.lst (b.map .str)]:=⟨_,rfl⟩
 have g1:s1[1]? = some (.lst (b.map .str)):=by rw[c,<- g];simp
 have l1:s1.length=2:=by rw[c];simp[g]
 rw[<- c];by_cases h:ns.getD 0 0 % 3=1
 ·have x:=yE (ns.getD 1 0) (show ((b.length:Int)+1)≠0 by omega);have a1:=yj (ns.getD 1 0) (show (0:Int) < ((b.length:Int)+1) by omega);obtain⟨a,ha⟩:∃ a:Nat,ns.getD 1 0 % ((b.length:Int)+1)=(a:Int):=⟨(ns.getD 1 0 % ((b.length:Int)+1)).toNat,by omega⟩
  obtain⟨w,i,j,n⟩:=zBY (ns.getD 2 0) (s1++[.lst ((b.take a).map .str)]);have c1:cut (b.map D.str) none (some (a:Int))=(b.take a).map .str:=by rw[Xs _ (by omega),KN];rfl
  have c2:cut (b.map D.str) (some (a:Int)) none=(b.drop a).map .str:=by rw[kW _ (by omega),XV];rfl
  have p:(1:Nat) <= SZ:=by decide
  have hsz:b.length+1 <= SZ:=by unfold SZ;omega
  refine⟨6,some (.int a),s1++[.lst ((b.take a).map .str)]++[.lst [.str w]]++[.lst ((b.take a).map .str++[.str w])]++[.lst ((b.drop a).map .str)]++[.lst ((b.take a).map .str++[.str w]++(b.drop a).map .str)],b.take a++[w]++b.drop a,?_,?_,?_,?_⟩
  ·have h':ns[0]?.getD 0 % 3=1:=by simpa using h
   have k:ns[1]?.getD 0 % ((b.length:Int)+1)=(a:Int):=by simpa using ha
   obtain⟨o,rfl⟩:∃ o,s=[o]:=by
    match s,g with
    | [o],_=>exact⟨o,rfl⟩
   subst c;clear g1 l1;have r:((b.take a).map D.str).length+1 <= SZ:=by
    rw[j5,qk];unfold SZ;omega
   have t:((b.take a).map D.str).length+1+((b.drop a).map D.str).length <= SZ:=by
    rw[j5,qk,j5,jf];unfold SZ;omega
   generalize (b.take a).map D.str=l at *;generalize (b.drop a).map D.str=y at *;have f:Qz [.int (ns[2]?.getD 0)] [o,.lst (b.map .str),.lst l]=.ok (.str w) [o,.lst (b.map .str),.lst l]:=by simpa using i
   simp only[JE];simp[yh,v0,h',k,c1,c2,f,p,r,t]
  ·simp[l1]
  ·rw[yc,yc,qk,jf];simp;omega
  ·intro v d;rcases List.mem_append.mp d with d | d
   ·rcases List.mem_append.mp d with d | d
    ·exact hw v (Xk d)
    ·have:v=w:=by simpa using d
     rw[this];exact⟨j,by omega⟩
   ·exact hw v (kS d)
 ·refine⟨1,none,s1,b,?_,g1,by omega,hw⟩;have h':¬ ns[0]?.getD 0 % 3=1:=by simpa using h
  simp[JE,yh,v0,h']
theorem zED (ns:List Int) (h:ns.length <= 63):∃ s,X9 [.ro (ns.map .int)] []=.ok (.bl true) s:=by
 obtain⟨i,s,j,k,e,hw⟩:=zFN ns h;obtain⟨q,b,s2,a,l,g2,m,c⟩:=We ns i s k e hw;have d:(a.map ZX).sum <= 6400:=by
  have:=ul 100 (a.map ZX) λy n=>by
   obtain⟨t,f,rfl⟩:=List.mem_map.mp n;exact (c t f).2
  rw[j5] at this;omega
 have g:a.flatten.length <= 6400:=by rw[zF7];exact d
 have o:a.flatten.length <= SZ:=zx g (by decide);have p:J6 [some (.ro (ns.map .int)),some (.ref q),b,none,none,none,none,none] s2=.nx [some (.ro (ns.map .int)),some (.ref q),b,some (.str (a.flatten.take 900)),none,none,none,none] s2:=by
  have r:qb [] (a.map .str) s2=.ok (.str a.flatten) s2:=by
   unfold qb;rw[zAh];dsimp only;have u:6400 <= SZ:=by decide
   rw[if_pos (by simp only[Wa,Nat.mul_zero,Nat.add_zero];omega),v2]
  have v:cut a.flatten none (some (900:Int))=a.flatten.take 900:=by rw[Xs _ (by decide)];rfl
  simp only[J6];simp[g2,r,o,v,-zF7]
 obtain⟨s',w⟩:=Wq (x:=a.flatten.take 900) (by rw[qk];omega) (λz=>by
  obtain⟨t,f,A⟩:=List.mem_flatten.mp (Xk z);exact (c t f).1 A) (.ro (ns.map .int)) (.ref q) b s2
 refine⟨s',?_⟩;have B:xa [some (.ro (ns.map .int)),none,none,none,none,none,none,none] []=_:=zX j;show (xa [some (.ro (ns.map .int)),none,none,none,none,none,none,none] []).out=_;rw[B,RS.then_nx,zX l,RS.then_nx,zX p,RS.then_nx];have C:Jk [some (.ro (ns.map .int)),some (.ref q),b,some (.str (a.flatten.take 900)),none,none,none,none] s2=.nx [some (.ro (ns.map .int)),some (.ref q),b,some (.str (a.flatten.take 900)),some .non,none,none,none] s2:=by simp[Jk]
 have D:xm [some (.ro (ns.map .int)),some (.ref q),b,some (.str (a.flatten.take 900)),some .non,none,none,none] s2=.nx [some (.ro (ns.map .int)),some (.ref q),b,some (.str (a.flatten.take 900)),some .non,some .non,none,none] s2:=by simp[xm]
 rw[zX C,RS.then_nx,zX D,RS.then_nx,w];rfl
end
end M
namespace My
open PySem L2 PyProof.Rows
noncomputable def top (i:Nat):zT:=PySem.Challenge.pw_thingyard_k14_whole_tokens_cover.main.body.getD i (.Pass ⟨0,0,0,0⟩)
theorem vv {X:Cx}{Θ:Tab}{pos:Pos}{x:Str} (i:Nat) (a:X.N[i]? = some x:=by rfl) (b:Vis X.env.scope x:=by exact zf (by kernel_rfl)) (c:(x == ("__debug__" : Str))=false:=by kernel_rfl) (d:(x == ("__classdict__" : Str))=false:=by kernel_rfl):WE X Θ (.Name x pos) (M.zC i):=w_me_var i a b c d
theorem vc {X:Cx}{Θ:Tab}{pos:Pos}{x:Str} (i:Nat) (a:X.N[i]? = some x:=by rfl) (b:Vis X.env.scope x:=by exact ZF (zf (by kernel_rfl))) (c:(x == ("__debug__" : Str))=false:=by kernel_rfl) (d:(x == ("__classdict__" : Str))=false:=by kernel_rfl):WE X Θ (.Name x pos) (M.zC i):=w_me_var i a b c d
theorem zz {X:Cx}{Θ:Tab}{pos:Pos}{y:M.T}{x:Str}{j:Nat} (h:x=ofT y:=by decide +kernel) (ok:okT y:=by decide +kernel):WE X Θ (.Constant (.str x) j pos) (M.eC (.str y)):=w_me_str h ok
theorem gk {X:Cx}{x:Str} (h:X.env.kindOf x=some .globalImplicit:=by kernel_rfl):Gl X x:=h
noncomputable abbrev cX (P:zW) (w:zR) (K:PySem.W.Frag) (mg:Str->Option zB) (base:zJ) (N:List Str) (n:Str) (st:zT) (f:zA) (a:zB) (A:zZ) (outer:List Env) (s:zD) (H:Hp) (E:XK):Cx:=(jx CX0 P w K mg base N n (zP st) f a A outer s H E).nox
noncomputable abbrev cX1 (P:zW) (w:zR) (K:PySem.W.Frag) (mg:Str->Option zB) (base:zJ) (N:List Str) (n:Str) (st:zT) (f:zA) (a:zB) (A:zZ) (outer:List Env) (s:zD) (H:Hp) (E:XK):Cx:=jx (CX1 P w) P w K mg base N n (zP st) f a A outer s H E
noncomputable abbrev RM (k:Nat) (n:Str) (st:zT) (A:zZ) (s:zD) (f:zA) (a:zB):Prop:=za k (A.deeper (qF n (zP st) s.heap.objs.size f a))
noncomputable abbrev bd (st:zT) (j:Nat):zT:=(z4 st).getD j (.Pass ⟨0,0,0,0⟩)
noncomputable def XE (K:PySem.W.Frag):Sp:=λa H Q E=>∀ Θ:Tab,SpM K Θ 1 M.X9 a H Q E
theorem u9 {K:PySem.W.Frag}{H:Hp}{a:zA}{ns:List Int}{E:XK} (b:ns.length <= 63) (c:xo H) (d:SqL K H a (ns.map V.int)):XE K [.ref a] H (λv _=>v=.bl true) E:=λ_=>zFP M.zED b c d
noncomputable def Θ1 (a:zA):Tab:=⟨λc=>if c=21 then some (a,["place"]) else none,λ_=>0,λ_ _ _=>False⟩
section
variable (P:zW) (w:zR) (K:PySem.W.Frag) (mg:Str->Option zB) (base:zJ) (zG:zA)
noncomputable abbrev xE:Prop:=Has P w K mg base "_law_whole" 1 ["_law_found"] (SpM K (Θ1 zG) 1 M.JK)
noncomputable abbrev XI:Prop:=Has P w K mg base "_law_quote_wrong" 1 ["_law_text","_law_at"] (SpM K (Θ1 zG) 2 M.Qw)
noncomputable abbrev Kk:Prop:=Has P w K mg base "_law_token_end" 2 ["_law_text","_law_token"] (SpM K (Θ1 zG) 2 M.y7)
noncomputable abbrev Xe:Prop:=Has P w K mg base "_law_covered" 3 ["_law_text","_law_found"] (SpM K (Θ1 zG) 2 M.yM)
noncomputable abbrev vn:Prop:=Has P w K mg base "_law_mixed" 1 ["_law_cell_here","_law_k"] (SpM K (Θ1 zG) 2 M.xl)
noncomputable abbrev Xw:Prop:=Has P w K mg base "_law_signs" 1 [] (SpM K (Θ1 zG) 0 M.Jp)
noncomputable abbrev vE:Prop:=Has P w K mg base "_law_piece" 2 ["_law_cell_here"] (SpM K (Θ1 zG) 1 M.QL)
noncomputable abbrev v5:Prop:=Has P w K mg base "is_letter" 1 ["sign"] (SpM K (Θ1 zG) 1 M.QA)
noncomputable abbrev kN:Prop:=Has P w K mg base "is_word_sign" 2 ["sign"] (SpM K (Θ1 zG) 1 M.Zw)
noncomputable abbrev vp:Prop:=Has P w K mg base "is_row_sign" 1 ["sign"] (SpM K (Θ1 zG) 1 M.Ql)
noncomputable abbrev Ks:Prop:=Z8 P w K mg base "quoted_at" 3 ["text","place"] (SpX K (Θ1 zG) 2 M.xi)
noncomputable abbrev Xr:Prop:=Has P w K mg base "word_at" 3 ["text","place"] (SpM K (Θ1 zG) 2 M.Jo)
noncomputable abbrev KY:Prop:=Z8 P w K mg base "token_at" 4 ["text","place"] (SpX K (Θ1 zG) 2 M.Qr)
noncomputable abbrev KM:Prop:=Has P w K mg base "place_behind" 1 ["token"] (SpM K (Θ1 zG) 1 M.Qe)
noncomputable abbrev xG:Prop:=Z8 P w K mg base "tokens_of" 5 ["text"] (SpX K (Θ1 zG) 1 M.qS)
noncomputable abbrev vS:Prop:=Has P w K mg base "_law_cell" 1 ["_law_script","_law_k"] (SpM K (Θ1 zG) 2 M.yh)
noncomputable abbrev KR:Prop:=Has P w K mg base "_law_begins_none" 2 ["_law_text","_law_at"] (SpM K (Θ1 zG) 2 M.xD)
noncomputable abbrev vi:Prop:=Has P w K mg base "_law_odd" 1 ["_law_cell_here"] (SpM K (Θ1 zG) 1 M.Qz)
end
variable {P:zW}{w:zR}{K:PySem.W.Frag}{mg:Str->Option zB}{base:zJ}{f:zA}{fd:jU}{cdv:zB}{A:zZ}{outer:List Env}{s:zD}{H:Hp}{E:XK}{zG:zA}
noncomputable abbrev ZM (P:zW) (w:zR) (K:PySem.W.Frag) (mg:Str->Option zB) (base:zJ) (zG:zA):Prop:=J5 P w K mg base zG "BadRecipe" 1 ["self","place"] "place"
noncomputable abbrev Qj:zT:=top 21
noncomputable abbrev zBH:List Str:=["_law_found"]
theorem Ut:jF zBH ["_law_found"] (zP Qj):=⟨rfl,rfl,rfl,by decide +kernel,rfl,by decide +kernel,by decide +kernel⟩
theorem zAy (F:Fun K "_law_whole" "_law_whole" Qj f fd) (a:mg "isinstance" = none) (d:mg "int" = none) (c:mg "bool" = none) :
  zj P w K mg base CX0 1 f fd ["_law_found"] (SpM K (Θ1 zG) 1 M.JK):=by
 refine w_fun_M (b:=M.ki) F Ut M.UB λcdv A outer s H E e=>?_;unfold M.ki;exact (w_mss_one (w_ms_ret (w_me_and (w_me_callB Jg Jj gk a xf (w_ma_cons (vv 0) (w_ma_cons (w_me_ty .int gk d U2) w_ma_nil))) (w_me_one (w_me_not (w_me_callB Jg Jj gk a xf (w_ma_cons (vv 0) (w_ma_cons (w_me_ty .bool gk c zEL) w_ma_nil))))))))
noncomputable abbrev Q2:zT:=top 19
noncomputable abbrev Ur:List Str:=["_law_text","_law_at","_law_sign"]
theorem V6:jF Ur ["_law_text","_law_at"] (zP Q2):=⟨rfl,rfl,rfl,by decide +kernel,rfl,by decide +kernel,by decide +kernel⟩
theorem zBG (F:Fun K "_law_quote_wrong" "_law_quote_wrong" Q2 f fd) :
  zj P w K mg base CX0 1 f fd ["_law_text","_law_at"] (SpM K (Θ1 zG) 2 M.Qw):=by
 refine w_fun_M (b:=M.Jm) F V6 M.zCr λcdv A outer s H E a=>?_;unfold M.Jm;exact (w_mss_cons (w_ms_for YM rfl (w_mi_e (w_me_sl qa qd (vv 0) (w_mo_some (w_me_op (OpR.or jJ jK) jL (vv 1) w_me_int)) w_mo_none)) (w_mg_name (i:=2) V6.nd rfl (zf (by kernel_rfl)) (.inl rfl))
  (w_mss_cons (w_ms_if (w_mt_cmp (jl a) jh (vv 2) zz (z8 _))
  (w_mss_one (w_ms_ret w_me_bl))
  w_mss_nil)
  (w_mss_one (w_ms_if (w_mt_ofw (w_mw_or (w_mt_cmp (jl a) jh (vv 2) zz (z8 _)) (w_mw_one_or (w_mt_not (w_mt_chain yy yy yt yt zz (vv 2) zz)))))
  (w_mss_one (w_ms_ret w_me_bl))
  w_mss_nil))))
  (w_mss_one (w_ms_ret w_me_bl)))
noncomputable abbrev z9:zT:=top 22
noncomputable abbrev yW:List Str:=["_law_text","_law_token","_law_kind","_law_word","_law_at","_law_odd_here","_law_end"]
theorem Q6:jF yW ["_law_text","_law_token"] (zP z9):=⟨rfl,rfl,rfl,by decide +kernel,rfl,by decide +kernel,by decide +kernel⟩
theorem Wd:(["_law_text","_law_token","_law_kind","_law_word","_law_at","_law_odd_here","_law_end","_law_sign"]:List Str).Nodup:=by decide +kernel
theorem zAC (b:xE P w K mg base zG) (d:mg "len" = none) (a:mg "isinstance" = none) (c:mg "tuple" = none) (e:mg "str" = none) (g:RM 1 "_law_token_end" z9 A s f cdv):WS (cX P w K mg base yW "_law_token_end" z9 f cdv A outer s H E) (Θ1 zG) (bd z9 0) M.xv:=by
 unfold M.xv;exact (w_ms_if (w_mt_ofw (w_mw_or (w_mt_not (w_mt_tru (w_me_callB Jg Jj gk a xf (w_ma_cons (vv 1) (w_ma_cons (w_me_ty .tuple gk c zAG) w_ma_nil))))) (w_mw_or (w_mt_cmp (kK g) XD (w_me_callB qh ql gk d qo (w_ma_cons (vv 1) w_ma_nil)) w_me_int (z8 _)) (w_mw_or (w_mt_not (w_mt_tru (w_me_callB Jg Jj gk a xf (w_ma_cons (w_me_ix (jw g) jz (vv 1) w_me_int) (w_ma_cons (w_me_ty .str gk e zCP) w_ma_nil))))) (w_mw_one_or (w_mt_not (w_mt_tru (w_me_call b g (by decide) gk (w_ma_cons (w_me_ix (jw g) jz (vv 1) w_me_int) w_ma_nil) (zk jE)))))))))
  (w_mss_one (w_ms_ret (w_me_un kJ XO w_me_int)))
  w_mss_nil)
theorem Ui (c:RM 1 "_law_token_end" z9 A s f cdv):WS (cX P w K mg base yW "_law_token_end" z9 f cdv A outer s H E) (Θ1 zG) (bd z9 1) M.xJ:=by
 unfold M.xJ;exact (w_ms_setG (w_mg_tupM (n:=3) rfl (w_mgs_cons (w_mg_name (i:=2) Q6.nd rfl (zf (by kernel_rfl)) (.inl rfl)) (w_mgs_cons (w_mg_name (i:=3) Q6.nd rfl (zf (by kernel_rfl)) (.inl rfl)) (w_mgs_cons (w_mg_name (i:=4) Q6.nd rfl (zf (by kernel_rfl)) (.inl rfl)) w_mgs_nil (λa b=>xq a b)) (λa b=>xq a b)) (λa b=>xq a b)) (U6)) (vv 1))
theorem wP (a:XI P w K mg base zG) (b:mg "len" = none) (c:RM 1 "_law_token_end" z9 A s f cdv):WS (cX P w K mg base yW "_law_token_end" z9 f cdv A outer s H E) (Θ1 zG) (bd z9 2) M.Zg:=by
 unfold M.Zg;exact (w_ms_if (w_mt_ofw (w_mw_and (w_mt_cmp (jl c) jh (vv 2) zz (z8 _)) (w_mw_and (w_mt_cmp uy zBg (vv 4) w_me_int (z8 _)) (w_mw_one_and (w_mt_cmp (jl c) jh (w_me_sl qa qd (vv 0) (w_mo_some (vv 4)) (w_mo_some (w_me_op (OpR.or jJ jK) jL (w_me_op (OpR.or jJ jK) jL (vv 4) (w_me_callB qh ql gk b qo (w_ma_cons (vv 3) w_ma_nil))) w_me_int))) (w_me_op (OpR.or jJ jK) jL (w_me_op (OpR.or jJ jK) jL zz (vv 3)) zz) (z8 _))))))
  (w_mss_one (w_ms_ret (w_me_ifExp (w_mt_ofw (w_mw_or (w_mt_cmp (vU c) Kv zz (vv 3) (by rfl)) (w_mw_one_or (w_mt_tru (w_me_call a c (by decide) gk (w_ma_cons (vv 0) (w_ma_cons (vv 4) w_ma_nil)) (zk (zk jE))))))) (w_me_un kJ XO w_me_int) (w_me_op (OpR.or jJ jK) jL (w_me_op (OpR.or jJ jK) jL (vv 4) (w_me_callB qh ql gk b qo (w_ma_cons (vv 3) w_ma_nil))) w_me_int))))
  w_mss_nil)
theorem zCp (a:mg "len" = none) (b:RM 1 "_law_token_end" z9 A s f cdv):WS (cX P w K mg base yW "_law_token_end" z9 f cdv A outer s H E) (Θ1 zG) (bd z9 3) M.JD:=by
 unfold M.JD;exact (w_ms_if (w_mt_ofw (w_mw_or (w_mt_cmp Zh Za (vv 4) w_me_int (z8 _)) (w_mw_or (w_mt_cmp (jl b) jh (vv 3) zz (z8 _)) (w_mw_one_or (w_mt_cmp (kK b) XD (w_me_sl qa qd (vv 0) (w_mo_some (vv 4)) (w_mo_some (w_me_op (OpR.or jJ jK) jL (vv 4) (w_me_callB qh ql gk a qo (w_ma_cons (vv 3) w_ma_nil))))) (vv 3) (z8 _))))))
  (w_mss_one (w_ms_ret (w_me_un kJ XO w_me_int)))
  w_mss_nil)
theorem zFu (a:mg "len" = none) (b:RM 1 "_law_token_end" z9 A s f cdv):WS (cX P w K mg base yW "_law_token_end" z9 f cdv A outer s H E) (Θ1 zG) (bd z9 4) M.y1:=by
 unfold M.y1;exact (w_ms_if (w_mt_ofw (w_mw_and (w_mt_cmp (jl b) jh (vv 2) zz (z8 _)) (w_mw_and (w_mt_cmp (vU b) Kv (vv 3) zz (by rfl)) (w_mw_one_and (w_mt_cmp (jl b) jh (w_me_callB qh ql gk a qo (w_ma_cons (vv 3) w_ma_nil)) w_me_int (z8 _))))))
  (w_mss_one (w_ms_ret (w_me_op (OpR.or jJ jK) jL (vv 4) w_me_int)))
  w_mss_nil)
theorem Wh (a:RM 1 "_law_token_end" z9 A s f cdv):WS (cX P w K mg base yW "_law_token_end" z9 f cdv A outer s H E) (Θ1 zG) (bd z9 5) M.QF:=by
 unfold M.QF;exact (w_ms_setcomp (vars:=["_law_sign"]) (i:=5) rfl ⟨rfl,rfl,(by kernel_rfl),(by kernel_rfl),(by decide +kernel),trivial,(by kernel_rfl)⟩ Q6.nd rfl (zf (by kernel_rfl)) (w_mi_e (vv 3)) (λ_ _ _ _=>(w_mg_name (i:=7) Wd rfl (zf (by kernel_rfl)) (.inr (by kernel_rfl)))) (λ_ _ _ _=>(WF (w_mt_cmp (YD a) VE (vv 7) zz (by rfl)))) (λ_ _ _ _=>(vv 7)) (by kernel_rfl))
theorem zCl (a:mg "len" = none) (b:RM 1 "_law_token_end" z9 A s f cdv):WS (cX P w K mg base yW "_law_token_end" z9 f cdv A outer s H E) (Θ1 zG) (bd z9 6) M.Zt:=by
 unfold M.Zt;exact (w_ms_set (i:=6) Q6.nd rfl (zf (by kernel_rfl)) (w_me_op (OpR.or jJ jK) jL (vv 4) (w_me_callB qh ql gk a qo (w_ma_cons (vv 3) w_ma_nil))))
theorem zDD (a:mg "list" = none) (b:RM 1 "_law_token_end" z9 A s f cdv):WS (cX P w K mg base yW "_law_token_end" z9 f cdv A outer s H E) (Θ1 zG) (bd z9 7) M.JC:=by
 unfold M.JC;exact (w_ms_if (w_mt_ofw (w_mw_or (w_mt_cmp (kK b) XD (vv 2) zz (z8 _)) (w_mw_or (w_mt_tru (vv 5)) (w_mw_one_or (w_mt_cmp (vU b) Kv (w_me_sl qa qd (vv 0) (w_mo_some (vv 6)) (w_mo_some (w_me_op (OpR.or jJ jK) jL (vv 6) w_me_int))) (w_me_callTy (zCI b) zDq gk a V3 (w_ma_cons zz w_ma_nil)) (by rfl))))))
  (w_mss_one (w_ms_ret (w_me_un kJ XO w_me_int)))
  w_mss_nil)
theorem zDs (a:RM 1 "_law_token_end" z9 A s f cdv):WS (cX P w K mg base yW "_law_token_end" z9 f cdv A outer s H E) (Θ1 zG) (bd z9 8) M.QZ:=by
 unfold M.QZ;exact (w_ms_ret (vv 6))
theorem zB3 (F:Fun K "_law_token_end" "_law_token_end" z9 f fd) (d:xE P w K mg base zG) (a:XI P w K mg base zG) (c:mg "len" = none) (e:mg "isinstance" = none) (g:mg "tuple" = none) (j:mg "str" = none) (h:mg "list" = none) :
  zj P w K mg base CX0 2 f fd ["_law_text","_law_token"] (SpM K (Θ1 zG) 2 M.y7):=by
 refine w_fun_M (b:=M.ZK) F Q6 M.zCo λcdv A outer s H E i=>?_;unfold M.ZK;exact (w_mss_cons (zAC d c e g j i) (w_mss_cons (Ui i) (w_mss_cons (wP a c i) (w_mss_cons (zCp c i) (w_mss_cons (zFu c i) (w_mss_cons (Wh i) (w_mss_cons (zCl c i) (w_mss_cons (zDD h i) (w_mss_one (zDs i))))))))))
noncomputable abbrev qA:zT:=top 23
noncomputable abbrev xX:List Str:=["_law_text","_law_found","_law_at","_law_token","_law_end"]
theorem Ja:jF xX ["_law_text","_law_found"] (zP qA):=⟨rfl,rfl,rfl,by decide +kernel,rfl,by decide +kernel,by decide +kernel⟩
theorem zBp (a:mg "isinstance" = none) (b:mg "list" = none) (c:RM 2 "_law_covered" qA A s f cdv):WS (cX P w K mg base xX "_law_covered" qA f cdv A outer s H E) (Θ1 zG) (bd qA 0) M.JY:=by
 unfold M.JY;exact (w_ms_if (w_mt_not (w_mt_tru (w_me_callB Jg Jj gk a xf (w_ma_cons (vv 1) (w_ma_cons (w_me_ty .list gk b V3) w_ma_nil)))))
  (w_mss_one (w_ms_ret w_me_bl))
  w_mss_nil)
theorem Wt (a:RM 2 "_law_covered" qA A s f cdv):WS (cX P w K mg base xX "_law_covered" qA f cdv A outer s H E) (Θ1 zG) (bd qA 1) M.xx:=by
 unfold M.xx;exact (w_ms_set (i:=2) Ja.nd rfl (zf (by kernel_rfl)) w_me_int)
theorem wj (a:Kk P w K mg base zG) (b:RM 2 "_law_covered" qA A s f cdv):WS (cX P w K mg base xX "_law_covered" qA f cdv A outer s H E) (Θ1 zG) (bd qA 2) M.Xf:=by
 unfold M.Xf;exact (w_ms_for YM rfl (w_mi_e (vv 1)) (w_mg_name (i:=3) Ja.nd rfl (zf (by kernel_rfl)) (.inl rfl))
  (w_mss_cons (w_ms_set (i:=4) Ja.nd rfl (zf (by kernel_rfl)) (w_me_call a b (by decide) gk (w_ma_cons (vv 0) (w_ma_cons (vv 3) w_ma_nil)) (zk (zk jE))))
  (w_mss_cons (w_ms_if (w_mt_ofw (w_mw_or (w_mt_cmp Zh Za (vv 4) w_me_int (z8 _)) (w_mw_or (w_mt_cmp Zh Za (w_me_ix (jw b) jz (vv 3) w_me_int) (vv 2) (z8 _)) (w_mw_one_or (w_mt_cmp (kK b) XD (w_me_m PySem.F.plainAttrs_str PySem.F.slot_str_strip PySem.F.type_str_strip Vg YI rfl (w_me_sl qa qd (vv 0) (w_mo_some (vv 2)) (w_mo_some (w_me_ix (jw b) jz (vv 3) w_me_int))) (w_ma_cons zz w_ma_nil)) zz (z8 _))))))
  (w_mss_one (w_ms_ret w_me_bl))
  w_mss_nil)
  (w_mss_one (w_ms_set (i:=2) Ja.nd rfl (zf (by kernel_rfl)) (vv 4))))))
theorem zFA (a:RM 2 "_law_covered" qA A s f cdv):WS (cX P w K mg base xX "_law_covered" qA f cdv A outer s H E) (Θ1 zG) (bd qA 3) M.Xl:=by
 unfold M.Xl;exact (w_ms_ret (w_me_cmp (jl a) jh (w_me_m PySem.F.plainAttrs_str PySem.F.slot_str_strip PySem.F.type_str_strip Vg YI rfl (w_me_sl qa qd (vv 0) (w_mo_some (vv 2)) w_mo_none) (w_ma_cons zz w_ma_nil)) zz (z8 _)))
theorem zC7 (F:Fun K "_law_covered" "_law_covered" qA f fd) (a:Kk P w K mg base zG) (c:mg "isinstance" = none) (d:mg "list" = none) :
  zj P w K mg base CX0 3 f fd ["_law_text","_law_found"] (SpM K (Θ1 zG) 2 M.yM):=by
 refine w_fun_M (b:=M.xM) F Ja M.zFW λcdv A outer s H E e=>?_;unfold M.xM;exact (w_mss_cons (zBp c d e) (w_mss_cons (Wt e) (w_mss_cons (wj a e) (w_mss_one (zFA e)))))
noncomputable abbrev Q7:zT:=top 15
noncomputable abbrev WR:List Str:=["_law_cell_here","_law_k","_law_number"]
theorem YH:jF WR ["_law_cell_here","_law_k"] (zP Q7):=⟨rfl,rfl,rfl,by decide +kernel,rfl,by decide +kernel,by decide +kernel⟩
theorem u7 (F:Fun K "_law_mixed" "_law_mixed" Q7 f fd) :
  zj P w K mg base CX0 1 f fd ["_law_cell_here","_law_k"] (SpM K (Θ1 zG) 2 M.xl):=by
 refine w_fun_M (b:=M.XU) F YH M.zBn λcdv A outer s H E a=>?_;unfold M.XU;exact (w_mss_cons (w_ms_set (i:=2) YH.nd rfl (zf (by kernel_rfl)) (w_me_op jy j0 (w_me_op QD QC (w_me_op (OpR.or jJ jK) jL (vv 0) (w_me_op QD QC w_me_int (vv 1))) w_me_int) w_me_int))
  (w_mss_one (w_ms_ret (w_me_op jy j0 (w_me_op QD QC (vv 2) (w_me_op (OpR.or jJ jK) jL (w_me_op (OpR.or jJ jK) jL (vv 2) (w_me_op QD QC w_me_int (vv 1))) w_me_int)) w_me_int))))
noncomputable abbrev Qu:zT:=top 16
noncomputable abbrev zES:List Str:=["_law_some"]
theorem Yq:jF zES [] (zP Qu):=⟨rfl,rfl,rfl,by decide +kernel,rfl,by decide +kernel,by decide +kernel⟩
theorem zEj (F:Fun K "_law_signs" "_law_signs" Qu f fd) :
  zj P w K mg base CX0 1 f fd [] (SpM K (Θ1 zG) 0 M.Jp):=by
 refine w_fun_M (b:=M.kf) F Yq M.zCu λcdv A outer s H E a=>?_;unfold M.kf;exact (w_mss_cons (w_ms_set (i:=0) Yq.nd rfl (zf (by kernel_rfl)) zz)
  (w_mss_one (w_ms_ret (w_me_op (OpR.or jJ jK) jL (vv 0) zz))))
noncomputable abbrev jB:zT:=top 17
noncomputable abbrev yU:List Str:=["_law_cell_here","_law_left","_law_letters","_law_size","_law_some","_law_inner"]
theorem Zy:jF yU ["_law_cell_here"] (zP jB):=⟨rfl,rfl,rfl,by decide +kernel,rfl,by decide +kernel,by decide +kernel⟩
theorem zEZ:(["_law_cell_here","_law_left","_law_letters","_law_size","_law_some","_law_inner","_law_j"]:List Str).Nodup:=by decide +kernel
theorem Uo:(["_law_cell_here","_law_left","_law_letters","_law_size","_law_some","_law_inner","_law_j"]:List Str).Nodup:=by decide +kernel
theorem zEY (a:vn P w K mg base zG) (b:RM 1 "_law_piece" jB A s f cdv):WS (cX P w K mg base yU "_law_piece" jB f cdv A outer s H E) (Θ1 zG) (bd jB 0) M.Xh:=by
 unfold M.Xh;exact (w_ms_set (i:=1) Zy.nd rfl (ZF (by kernel_rfl)) (w_me_call a b (by decide) gk (w_ma_cons (vv 0) (w_ma_cons w_me_int w_ma_nil)) (zk (zk jE))))
theorem zCw (a:RM 1 "_law_piece" jB A s f cdv):WS (cX P w K mg base yU "_law_piece" jB f cdv A outer s H E) (Θ1 zG) (bd jB 1) M.Ji:=by
 unfold M.Ji;exact (w_ms_set (i:=2) Zy.nd rfl (ZF (by kernel_rfl)) zz)
theorem zD5 (a:RM 1 "_law_piece" jB A s f cdv):WS (cX P w K mg base yU "_law_piece" jB f cdv A outer s H E) (Θ1 zG) (bd jB 2) M.qz:=by
 unfold M.qz;exact (w_ms_if (w_mt_cmp (jl a) jh (w_me_op jy j0 (vc 1) w_me_int) w_me_int (z8 _))
  (w_mss_one (w_ms_ret (w_me_ix (jw a) jz (w_me_lst (w_ma_cons zz (w_ma_cons zz (w_ma_cons zz (w_ma_cons zz (w_ma_cons zz (w_ma_cons zz w_ma_nil))))))) (w_me_op jy j0 (w_me_op yY yo (vc 1) w_me_int) w_me_int))))
  w_mss_nil)
theorem Ub (a:mg "range" = none) (b:RM 1 "_law_piece" jB A s f cdv):WS (cX P w K mg base yU "_law_piece" jB f cdv A outer s H E) (Θ1 zG) (bd jB 3) M.Zs:=by
 unfold M.Zs;exact (w_ms_if (w_mt_cmp (jl b) jh (w_me_op jy j0 (vc 1) w_me_int) w_me_int (z8 _))
  (w_mss_one (w_ms_ret (w_me_joinC (by decide +kernel) (vars:=["_law_j"]) rfl ⟨rfl,rfl,(by kernel_rfl),(by kernel_rfl),(by decide +kernel),⟨(by kernel_rfl),(by kernel_rfl),trivial⟩,(by kernel_rfl)⟩ (w_mi_range1 gk a (w_me_op (OpR.or jJ jK) jL w_me_int (w_me_op jy j0 (w_me_op yY yo (vc 1) w_me_int) w_me_int))) (λ_ _ _ _=>(w_mg_name (i:=6) zEZ rfl (zf (by kernel_rfl)) (.inr (by kernel_rfl)))) (λ_ _ _ _=>Xc) (λ_ _ _ _=>(w_me_ix (jw b) jz (vc 2) (w_me_op jy j0 (w_me_op (OpR.or jJ jK) jL (w_me_op yY yo (vc 1) w_me_int) (w_me_op QD QC w_me_int (vv 6))) w_me_int))) (by kernel_rfl) (λc H S d ys p Q e r g h=>XX (by decide +kernel) c H S d ys p Q e r (.inl g) h))))
  w_mss_nil)
theorem zFO (a:RM 1 "_law_piece" jB A s f cdv):WS (cX P w K mg base yU "_law_piece" jB f cdv A outer s H E) (Θ1 zG) (bd jB 4) M.xZ:=by
 unfold M.xZ;exact (w_ms_set (i:=3) Zy.nd rfl (zf (by kernel_rfl)) (w_me_op jy j0 (w_me_op yY yo (vc 1) w_me_int) w_me_int))
theorem zAJ (a:RM 1 "_law_piece" jB A s f cdv):WS (cX P w K mg base yU "_law_piece" jB f cdv A outer s H E) (Θ1 zG) (bd jB 5) M.xK:=by
 unfold M.xK;exact (w_ms_if (w_mt_cmp (jl a) jh (w_me_op jy j0 (w_me_op yY yo (vc 1) w_me_int) w_me_int) w_me_int (z8 _))
  (w_mss_one (w_ms_set (i:=3) Zy.nd rfl (zf (by kernel_rfl)) (w_me_op jy j0 (w_me_op yY yo (vc 1) w_me_int) w_me_int)))
  w_mss_nil)
theorem zEx (a:Xw P w K mg base zG) (b:RM 1 "_law_piece" jB A s f cdv):WS (cX P w K mg base yU "_law_piece" jB f cdv A outer s H E) (Θ1 zG) (bd jB 6) M.Jy:=by
 unfold M.Jy;exact (w_ms_set (i:=4) Zy.nd rfl (ZF (by kernel_rfl)) (w_me_call0 a b (by decide) gk))
theorem Wl (a:mg "range" = none) (b:RM 1 "_law_piece" jB A s f cdv):WS (cX P w K mg base yU "_law_piece" jB f cdv A outer s H E) (Θ1 zG) (bd jB 7) M.xj:=by
 unfold M.xj;exact (w_ms_setcomp (vars:=["_law_j"]) (i:=5) rfl ⟨rfl,rfl,(by kernel_rfl),(by kernel_rfl),(by decide +kernel),⟨(by kernel_rfl),(by kernel_rfl),trivial⟩,(by kernel_rfl)⟩ Zy.nd rfl (zf (by kernel_rfl)) (w_mi_range1 gk a (vv 3)) (λ_ _ _ _=>(w_mg_name (i:=6) Uo rfl (zf (by kernel_rfl)) (.inr (by kernel_rfl)))) (λ_ _ _ _=>Xc) (λ_ _ _ _=>(w_me_ix (jw b) jz (vc 4) (w_me_op jy j0 (w_me_op (OpR.or jJ jK) jL (w_me_op yY yo (vc 1) w_me_int) (w_me_op QD QC (vv 6) (w_me_op (OpR.or jJ jK) jL w_me_int (w_me_op jy j0 (vc 1) w_me_int)))) w_me_int))) (by kernel_rfl))
theorem zBe (a:RM 1 "_law_piece" jB A s f cdv):WS (cX P w K mg base yU "_law_piece" jB f cdv A outer s H E) (Θ1 zG) (bd jB 8) M.JZ:=by
 unfold M.JZ;exact (w_ms_ret (w_me_op (OpR.or jJ jK) jL (w_me_op (OpR.or jJ jK) jL zz (w_me_m PySem.F.plainAttrs_str PySem.F.slot_str_join PySem.F.type_str_join KG uK rfl zz (w_ma_cons (vv 5) w_ma_nil))) zz))
theorem zDN (F:Fun K "_law_piece" "_law_piece" jB f fd) (a:vn P w K mg base zG) (c:Xw P w K mg base zG) (d:mg "range" = none) :
  zj P w K mg base CX0 2 f fd ["_law_cell_here"] (SpM K (Θ1 zG) 1 M.QL):=by
 refine w_fun_M (b:=M.J8) F Zy M.zFe λcdv A outer s H E e=>?_;unfold M.J8;exact (w_mss_cons (zEY a e) (w_mss_cons (zCw e) (w_mss_cons (zD5 e) (w_mss_cons (Ub d e) (w_mss_cons (zFO e) (w_mss_cons (zAJ e) (w_mss_cons (zEx c e) (w_mss_cons (Wl d e) (w_mss_one (zBe e))))))))))
noncomputable abbrev Qb:zT:=top 5
noncomputable abbrev U4:List Str:=["sign"]
theorem W9:jF U4 ["sign"] (zP Qb):=⟨rfl,rfl,rfl,by decide +kernel,rfl,by decide +kernel,by decide +kernel⟩
theorem zBy (F:Fun K "is_letter" "is_letter" Qb f fd) :
  zj P w K mg base CX0 1 f fd ["sign"] (SpM K (Θ1 zG) 1 M.QA):=by
 refine w_fun_M (b:=M.Xo) F W9 M.zA5 λcdv A outer s H E a=>?_;unfold M.Xo;exact (w_mss_one (w_ms_ret (w_me_chain yy yy yt yt zz (vv 0) zz)))
noncomputable abbrev Qa:zT:=top 7
noncomputable abbrev zBZ:List Str:=["sign"]
theorem zFj:jF zBZ ["sign"] (zP Qa):=⟨rfl,rfl,rfl,by decide +kernel,rfl,by decide +kernel,by decide +kernel⟩
theorem zEP (F:Fun K "is_word_sign" "is_word_sign" Qa f fd) (a:v5 P w K mg base zG) :
  zj P w K mg base CX0 2 f fd ["sign"] (SpM K (Θ1 zG) 1 M.Zw):=by
 refine w_fun_M (b:=M.XY) F zFj M.VB λcdv A outer s H E c=>?_;unfold M.XY;exact (w_mss_one (w_ms_ret (w_me_or (w_me_call a c (by decide) gk (w_ma_cons (vv 0) w_ma_nil) (zk jE)) (w_me_or (w_me_cmp (jl c) jh (vv 0) zz (z8 _)) (w_me_one (w_me_cmp (jl c) jh (vv 0) zz (z8 _)))))))
noncomputable abbrev JH:zT:=top 4
noncomputable abbrev zAc:List Str:=["sign"]
theorem zD3:jF zAc ["sign"] (zP JH):=⟨rfl,rfl,rfl,by decide +kernel,rfl,by decide +kernel,by decide +kernel⟩
theorem zCv (F:Fun K "is_row_sign" "is_row_sign" JH f fd) :
  zj P w K mg base CX0 1 f fd ["sign"] (SpM K (Θ1 zG) 1 M.Ql):=by
 refine w_fun_M (b:=M.Xa) F zD3 M.V0 λcdv A outer s H E a=>?_;unfold M.Xa;exact (w_mss_one (w_ms_ret (w_me_or (w_me_chain yy yy yt yt zz (vv 0) zz) (w_me_one (w_me_chain yy yy yt yt zz (vv 0) zz)))))
noncomputable abbrev jQ:zT:=top 9
noncomputable abbrev yB:List Str:=["text","place","end","inner"]
theorem X0:jF yB ["text","place"] (zP jQ):=⟨rfl,rfl,rfl,by decide +kernel,rfl,by decide +kernel,by decide +kernel⟩
theorem ur:(["text","place","end","inner","sign"]:List Str).Nodup:=by decide +kernel
theorem zEJ (a:RM 2 "quoted_at" jQ A s f cdv) (W:jH (cX1 P w K mg base yB "quoted_at" jQ f cdv A outer s H E) E):WS (cX1 P w K mg base yB "quoted_at" jQ f cdv A outer s H E) ((Θ1 zG).w E) (bd jQ 0) M.xO:=by
 unfold M.xO;exact (w_ms_set (i:=2) X0.nd rfl (zf (by kernel_rfl)) (w_me_m PySem.F.plainAttrs_str PySem.F.slot_str_find PySem.F.type_str_find W7 zF8 rfl (vv 0) (w_ma_cons zz (w_ma_cons (w_me_op (OpR.or jJ jK) jL (vv 1) w_me_int) w_ma_nil))))
theorem wm (a:ZM P w K mg base zG) (b:RM 2 "quoted_at" jQ A s f cdv) (W:jH (cX1 P w K mg base yB "quoted_at" jQ f cdv A outer s H E) E):WS (cX1 P w K mg base yB "quoted_at" jQ f cdv A outer s H E) ((Θ1 zG).w E) (bd jQ 1) M.QU:=by
 unfold M.QU;exact (w_ms_if (w_mt_cmp Zh Za (vv 2) w_me_int (z8 _))
  (w_mss_one (w_ms_raiseE a W rfl rfl b (by decide) gk (w_ma_cons (vv 1) w_ma_nil) (zk jE)))
  w_mss_nil)
theorem UE (a:RM 2 "quoted_at" jQ A s f cdv) (W:jH (cX1 P w K mg base yB "quoted_at" jQ f cdv A outer s H E) E):WS (cX1 P w K mg base yB "quoted_at" jQ f cdv A outer s H E) ((Θ1 zG).w E) (bd jQ 2) M.Qh:=by
 unfold M.Qh;exact (w_ms_set (i:=3) X0.nd rfl (zf (by kernel_rfl)) (w_me_sl qa qd (vv 0) (w_mo_some (w_me_op (OpR.or jJ jK) jL (vv 1) w_me_int)) (w_mo_some (vv 2))))
theorem zBI (b:ZM P w K mg base zG) (a:vp P w K mg base zG) (c:mg "all" = none) (d:RM 2 "quoted_at" jQ A s f cdv) (W:jH (cX1 P w K mg base yB "quoted_at" jQ f cdv A outer s H E) E):WS (cX1 P w K mg base yB "quoted_at" jQ f cdv A outer s H E) ((Θ1 zG).w E) (bd jQ 3) M.y0:=by
 unfold M.y0;exact (w_ms_if (w_mt_not (w_mt_tru (w_me_callC (W0 rfl) zAi gk c zBl (vars:=["sign"]) rfl ⟨rfl,rfl,(by kernel_rfl),(by kernel_rfl),(by decide +kernel),trivial,(by kernel_rfl)⟩ (w_mi_e (vv 3)) (λ_ _ _ _=>(w_mg_name (i:=4) ur rfl (zf (by kernel_rfl)) (.inr (by kernel_rfl)))) (λ_ _ _ _=>Xc) (λ_ _ _ _=>(w_me_call (Has.wish a M.V0) d (by decide) gk (w_ma_cons (vv 4) w_ma_nil) (zk jE))) (by kernel_rfl))))
  (w_mss_one (w_ms_raiseE b W rfl rfl d (by decide) gk (w_ma_cons (vv 1) w_ma_nil) (zk jE)))
  w_mss_nil)
theorem zE2 (a:RM 2 "quoted_at" jQ A s f cdv) (W:jH (cX1 P w K mg base yB "quoted_at" jQ f cdv A outer s H E) E):WS (cX1 P w K mg base yB "quoted_at" jQ f cdv A outer s H E) ((Θ1 zG).w E) (bd jQ 4) M.QV:=by
 unfold M.QV;exact (w_ms_ret (vv 3))
theorem zAt (F:Fun K "quoted_at" "quoted_at" jQ f fd) (a:ZM P w K mg base zG) (c:vp P w K mg base zG) (d:mg "all" = none) :
  zj P w K mg base (CX1 P w) 3 f fd ["text","place"] (SpX K (Θ1 zG) 2 M.xi):=by
 refine w_fun_XR (b:=M.y4) F X0 M.zBW λcdv A outer s H E e W=>?_;unfold M.y4;exact (w_mss_cons (zEJ e W) (w_mss_cons (wm a e W) (w_mss_cons (UE e W) (w_mss_cons (zBI a c d e W) (w_mss_one (zE2 e W))))))
noncomputable abbrev JS:zT:=top 8
noncomputable abbrev Um:List Str:=["text","place","end"]
theorem Ku:jF Um ["text","place"] (zP JS):=⟨rfl,rfl,rfl,by decide +kernel,rfl,by decide +kernel,by decide +kernel⟩
theorem zDk (F:Fun K "word_at" "word_at" JS f fd) (a:kN P w K mg base zG) (c:mg "len" = none) :
  zj P w K mg base CX0 3 f fd ["text","place"] (SpM K (Θ1 zG) 2 M.Jo):=by
 refine w_fun_M (b:=M.xg) F Ku M.Vm λcdv A outer s H E d=>?_;unfold M.xg;exact (w_mss_cons (w_ms_set (i:=2) Ku.nd rfl (zf (by kernel_rfl)) (vv 1))
  (w_mss_cons (w_ms_while YM (w_mt_ofw (w_mw_and (w_mt_cmp Zh Za (vv 2) (w_me_callB qh ql gk c qo (w_ma_cons (vv 0) w_ma_nil)) (z8 _)) (w_mw_one_and (w_mt_tru (w_me_call a d (by decide) gk (w_ma_cons (w_me_ix (jw d) jz (vv 0) (vv 2)) w_ma_nil) (zk jE))))))
  (w_mss_one (w_ms_aug (i:=2) Ku.nd rfl (zf (by kernel_rfl)) w_me_int Vh uR)))
  (w_mss_one (w_ms_ret (w_me_sl qa qd (vv 0) (w_mo_some (vv 1)) (w_mo_some (vv 2)))))))
noncomputable abbrev jS:zT:=top 10
noncomputable abbrev yI:List Str:=["text","place","sign"]
theorem YN:jF yI ["text","place"] (zP jS):=⟨rfl,rfl,rfl,by decide +kernel,rfl,by decide +kernel,by decide +kernel⟩
theorem zDG (a:RM 3 "token_at" jS A s f cdv) (W:jH (cX1 P w K mg base yI "token_at" jS f cdv A outer s H E) E):WS (cX1 P w K mg base yI "token_at" jS f cdv A outer s H E) ((Θ1 zG).w E) (bd jS 0) M.xU:=by
 unfold M.xU;exact (w_ms_set (i:=2) YN.nd rfl (zf (by kernel_rfl)) (w_me_ix (jw a) jz (vv 0) (vv 1)))
theorem zAa (a:RM 3 "token_at" jS A s f cdv) (W:jH (cX1 P w K mg base yI "token_at" jS f cdv A outer s H E) E):WS (cX1 P w K mg base yI "token_at" jS f cdv A outer s H E) ((Θ1 zG).w E) (bd jS 1) M.JT:=by
 unfold M.JT;exact (w_ms_if (w_mt_ofw (w_mw_or (w_mt_cmp (jl a) jh (vv 2) zz (z8 _)) (w_mw_one_or (w_mt_cmp (jl a) jh (vv 2) zz (z8 _)))))
  (w_mss_one (w_ms_ret (w_me_tup (w_ma_cons zz (w_ma_cons (vv 2) (w_ma_cons (vv 1) w_ma_nil))))))
  w_mss_nil)
theorem zBX (a:Ks P w K mg base zG) (b:RM 3 "token_at" jS A s f cdv) (W:jH (cX1 P w K mg base yI "token_at" jS f cdv A outer s H E) E):WS (cX1 P w K mg base yI "token_at" jS f cdv A outer s H E) ((Θ1 zG).w E) (bd jS 2) M.Zj:=by
 unfold M.Zj;exact (w_ms_if (w_mt_cmp (jl b) jh (vv 2) zz (z8 _))
  (w_mss_one (w_ms_ret (w_me_tup (w_ma_cons zz (w_ma_cons (w_me_callX a W b (by decide) gk (w_ma_cons (vv 0) (w_ma_cons (vv 1) w_ma_nil)) (zk (zk jE))) (w_ma_cons (vv 1) w_ma_nil))))))
  w_mss_nil)
theorem wO (a:kN P w K mg base zG) (b:Xr P w K mg base zG) (c:RM 3 "token_at" jS A s f cdv) (W:jH (cX1 P w K mg base yI "token_at" jS f cdv A outer s H E) E):WS (cX1 P w K mg base yI "token_at" jS f cdv A outer s H E) ((Θ1 zG).w E) (bd jS 3) M.QN:=by
 unfold M.QN;exact (w_ms_if (w_mt_tru (w_me_call (Has.wish a M.VB) c (by decide) gk (w_ma_cons (vv 2) w_ma_nil) (zk jE)))
  (w_mss_one (w_ms_ret (w_me_tup (w_ma_cons zz (w_ma_cons (w_me_call (Has.wish b M.Vm) c (by decide) gk (w_ma_cons (vv 0) (w_ma_cons (vv 1) w_ma_nil)) (zk (zk jE))) (w_ma_cons (vv 1) w_ma_nil))))))
  w_mss_nil)
theorem zFw (a:ZM P w K mg base zG) (b:RM 3 "token_at" jS A s f cdv) (W:jH (cX1 P w K mg base yI "token_at" jS f cdv A outer s H E) E):WS (cX1 P w K mg base yI "token_at" jS f cdv A outer s H E) ((Θ1 zG).w E) (bd jS 4) M.Qi:=by
 unfold M.Qi;exact (w_ms_raiseE a W rfl rfl b (by decide) gk (w_ma_cons (vv 1) w_ma_nil) (zk jE))
theorem wa (F:Fun K "token_at" "token_at" jS f fd) (c:ZM P w K mg base zG) (a:kN P w K mg base zG) (d:Ks P w K mg base zG) (e:Xr P w K mg base zG) :
  zj P w K mg base (CX1 P w) 4 f fd ["text","place"] (SpX K (Θ1 zG) 2 M.Qr):=by
 refine w_fun_XR (b:=M.J3) F YN M.zCi λcdv A outer s H E g W=>?_;unfold M.J3;exact (w_mss_cons (zDG g W) (w_mss_cons (zAa g W) (w_mss_cons (zBX d g W) (w_mss_cons (wO a e g W) (w_mss_one (zFw c g W))))))
noncomputable abbrev Qm:zT:=top 11
noncomputable abbrev ww:List Str:=["token","around"]
theorem Vb:jF ww ["token"] (zP Qm):=⟨rfl,rfl,rfl,by decide +kernel,rfl,by decide +kernel,by decide +kernel⟩
theorem UA (F:Fun K "place_behind" "place_behind" Qm f fd) (a:mg "len" = none) :
  zj P w K mg base CX0 1 f fd ["token"] (SpM K (Θ1 zG) 1 M.Qe):=by
 refine w_fun_M (b:=M.x5) F Vb M.uY λcdv A outer s H E c=>?_;unfold M.x5;exact (w_mss_cons (w_ms_set (i:=1) Vb.nd rfl (zf (by kernel_rfl)) (w_me_ifExp (w_mt_cmp (jl c) jh (w_me_ix (jw c) jz (vv 0) w_me_int) zz (z8 _)) w_me_int w_me_int))
  (w_mss_one (w_ms_ret (w_me_op (OpR.or jJ jK) jL (w_me_op (OpR.or jJ jK) jL (w_me_ix (jw c) jz (vv 0) w_me_int) (w_me_callB qh ql gk a qo (w_ma_cons (w_me_ix (jw c) jz (vv 0) w_me_int) w_ma_nil))) (vv 1)))))
noncomputable abbrev jj:zT:=top 12
noncomputable abbrev ZH:List Str:=["text","tokens","place","token"]
theorem QX:jF ZH ["text"] (zP jj):=⟨rfl,rfl,rfl,by decide +kernel,rfl,by decide +kernel,by decide +kernel⟩
theorem zEw (a:RM 4 "tokens_of" jj A s f cdv) (W:jH (cX1 P w K mg base ZH "tokens_of" jj f cdv A outer s H E) E):WS (cX1 P w K mg base ZH "tokens_of" jj f cdv A outer s H E) ((Θ1 zG).w E) (bd jj 0) M.XA:=by
 unfold M.XA;exact (w_ms_set (i:=1) QX.nd rfl (zf (by kernel_rfl)) (w_me_lst w_ma_nil))
theorem wl (a:RM 4 "tokens_of" jj A s f cdv) (W:jH (cX1 P w K mg base ZH "tokens_of" jj f cdv A outer s H E) E):WS (cX1 P w K mg base ZH "tokens_of" jj f cdv A outer s H E) ((Θ1 zG).w E) (bd jj 1) M.xp:=by
 unfold M.xp;exact (w_ms_set (i:=2) QX.nd rfl (zf (by kernel_rfl)) w_me_int)
theorem zBV (b:KY P w K mg base zG) (a:KM P w K mg base zG) (c:mg "len" = none) (d:RM 4 "tokens_of" jj A s f cdv) (W:jH (cX1 P w K mg base ZH "tokens_of" jj f cdv A outer s H E) E):WS (cX1 P w K mg base ZH "tokens_of" jj f cdv A outer s H E) ((Θ1 zG).w E) (bd jj 2) M.Qy:=by
 unfold M.Qy;exact (w_ms_while W.own (w_mt_cmp Zh Za (vv 2) (w_me_callB qh ql gk c qo (w_ma_cons (vv 0) w_ma_nil)) (z8 _))
  (w_mss_one (w_ms_if (w_mt_cmp (jl d) jh (w_me_ix (jw d) jz (vv 0) (vv 2)) zz (z8 _))
  (w_mss_one (w_ms_aug (i:=2) QX.nd rfl (zf (by kernel_rfl)) w_me_int Vh uR))
  (w_mss_cons (w_ms_set (i:=3) QX.nd rfl (zf (by kernel_rfl)) (w_me_callX b W d (by decide) gk (w_ma_cons (vv 0) (w_ma_cons (vv 2) w_ma_nil)) (zk (zk jE))))
  (w_mss_cons (w_ms_expr (w_me_m PySem.F.plainAttrs_list PySem.F.slot_list_append PySem.F.type_list_append zAH zDI rfl (vv 1) (w_ma_cons (vv 3) w_ma_nil)))
  (w_mss_one (w_ms_set (i:=2) QX.nd rfl (zf (by kernel_rfl)) (w_me_call (Has.wish a M.uY) d (by decide) gk (w_ma_cons (vv 3) w_ma_nil) (zk jE)))))))))
theorem zBJ (a:RM 4 "tokens_of" jj A s f cdv) (W:jH (cX1 P w K mg base ZH "tokens_of" jj f cdv A outer s H E) E):WS (cX1 P w K mg base ZH "tokens_of" jj f cdv A outer s H E) ((Θ1 zG).w E) (bd jj 3) M.Zx:=by
 unfold M.Zx;exact (w_ms_ret (vv 1))
theorem zAe (F:Fun K "tokens_of" "tokens_of" jj f fd) (c:KY P w K mg base zG) (a:KM P w K mg base zG) (d:mg "len" = none) :
  zj P w K mg base (CX1 P w) 5 f fd ["text"] (SpX K (Θ1 zG) 1 M.qS):=by
 refine w_fun_XR (b:=M.Jd) F QX M.zEU λcdv A outer s H E e W=>?_;unfold M.Jd;exact (w_mss_cons (zEw e W) (w_mss_cons (wl e W) (w_mss_cons (zBV c a d e W) (w_mss_one (zBJ e W)))))
noncomputable abbrev QQ:zT:=top 14
noncomputable abbrev zAN:List Str:=["_law_script","_law_k"]
theorem zBC:jF zAN ["_law_script","_law_k"] (zP QQ):=⟨rfl,rfl,rfl,by decide +kernel,rfl,by decide +kernel,by decide +kernel⟩
theorem zFs (F:Fun K "_law_cell" "_law_cell" QQ f fd) (a:mg "len" = none) :
  zj P w K mg base CX0 1 f fd ["_law_script","_law_k"] (SpM K (Θ1 zG) 2 M.yh):=by
 refine w_fun_M (b:=M.J0) F zBC M.zFT λcdv A outer s H E c=>?_;unfold M.J0;exact (w_mss_cons (w_ms_if (w_mt_cmp Zh Za (vv 1) (w_me_callB qh ql gk a qo (w_ma_cons (vv 0) w_ma_nil)) (z8 _))
  (w_mss_one (w_ms_ret (w_me_ix (jw c) jz (vv 0) (vv 1))))
  w_mss_nil)
  (w_mss_one (w_ms_ret w_me_int)))
noncomputable abbrev QT:zT:=top 20
noncomputable abbrev zEa:List Str:=["_law_text","_law_at"]
theorem zFg:jF zEa ["_law_text","_law_at"] (zP QT):=⟨rfl,rfl,rfl,by decide +kernel,rfl,by decide +kernel,by decide +kernel⟩
theorem UI (F:Fun K "_law_begins_none" "_law_begins_none" QT f fd) (a:XI P w K mg base zG) :
  zj P w K mg base CX0 2 f fd ["_law_text","_law_at"] (SpM K (Θ1 zG) 2 M.xD):=by
 refine w_fun_M (b:=M.Jv) F zFg M.u4 λcdv A outer s H E c=>?_;unfold M.Jv;exact (w_mss_cons (w_ms_if (w_mt_cmp (jl c) jh (w_me_ix (jw c) jz (vv 0) (vv 1)) zz (z8 _))
  (w_mss_one (w_ms_ret (w_me_call a c (by decide) gk (w_ma_cons (vv 0) (w_ma_cons (vv 1) w_ma_nil)) (zk (zk jE)))))
  w_mss_nil)
  (w_mss_one (w_ms_ret (w_me_cmp (YD c) VE (w_me_ix (jw c) jz (vv 0) (vv 1)) zz (by rfl)))))
noncomputable abbrev j8:zT:=top 18
noncomputable abbrev xu:List Str:=["_law_cell_here","_law_some"]
theorem VW:jF xu ["_law_cell_here"] (zP j8):=⟨rfl,rfl,rfl,by decide +kernel,rfl,by decide +kernel,by decide +kernel⟩
theorem zF3 (a:RM 0 "_law_odd" j8 A s f cdv):WS (cX P w K mg base xu "_law_odd" j8 f cdv A outer s H E) (Θ1 zG) (bd j8 0) M.XG:=by
 unfold M.XG;exact (w_ms_set (i:=1) VW.nd rfl (zf (by kernel_rfl)) zz)
theorem wc (a:mg "len" = none) (b:RM 0 "_law_odd" j8 A s f cdv):WS (cX P w K mg base xu "_law_odd" j8 f cdv A outer s H E) (Θ1 zG) (bd j8 1) M.Q1:=by
 unfold M.Q1;exact (w_ms_if (w_mt_cmp (jl b) jh (w_me_op jy j0 (vv 0) w_me_int) w_me_int (z8 _))
  (w_mss_one (w_ms_ret (w_me_ix (jw b) jz (vv 1) (w_me_op jy j0 (w_me_op yY yo (vv 0) w_me_int) (w_me_callB qh ql gk a qo (w_ma_cons (vv 1) w_ma_nil))))))
  w_mss_nil)
theorem U1 (a:RM 0 "_law_odd" j8 A s f cdv):WS (cX P w K mg base xu "_law_odd" j8 f cdv A outer s H E) (Θ1 zG) (bd j8 2) M.ZD:=by
 unfold M.ZD;exact (w_ms_if (w_mt_cmp (jl a) jh (w_me_op jy j0 (vv 0) w_me_int) w_me_int (z8 _))
  (w_mss_one (w_ms_ret (w_me_ix (jw a) jz (w_me_lst (w_ma_cons zz (w_ma_cons zz (w_ma_cons zz w_ma_nil)))) (w_me_op jy j0 (w_me_op yY yo (vv 0) w_me_int) w_me_int))))
  w_mss_nil)
theorem uv (a:RM 0 "_law_odd" j8 A s f cdv):WS (cX P w K mg base xu "_law_odd" j8 f cdv A outer s H E) (Θ1 zG) (bd j8 3) M.Zf:=by
 unfold M.Zf;exact (w_ms_ret (w_me_ix (jw a) jz (w_me_lst (w_ma_cons zz (w_ma_cons zz (w_ma_cons zz (w_ma_cons zz w_ma_nil))))) (w_me_op jy j0 (w_me_op yY yo (vv 0) w_me_int) w_me_int)))
theorem zBM (F:Fun K "_law_odd" "_law_odd" j8 f fd) (a:mg "len" = none) :
  zj P w K mg base CX0 1 f fd ["_law_cell_here"] (SpM K (Θ1 zG) 1 M.Qz):=by
 refine w_fun_M (b:=M.Jf) F VW M.zC1 λcdv A outer s H E c=>?_;unfold M.Jf;exact (w_mss_cons (zF3 c) (w_mss_cons (wc a c) (w_mss_cons (U1 c) (w_mss_one (uv c)))))
noncomputable abbrev z3:zT:=top 24
noncomputable abbrev yD:List Str:=["_law_script","_law_pieces","_law_at","_law_text","_law_place","_law_found","e","_law_held"]
theorem ZI:jF yD ["_law_script"] (zP z3):=⟨rfl,rfl,rfl,by decide +kernel,rfl,by decide +kernel,by decide +kernel⟩
theorem VS:(["_law_script","_law_pieces","_law_at","_law_text","_law_place","_law_found","e","_law_held","_law_k","_law_cell_here"]:List Str).Nodup:=by decide +kernel
theorem zB1 (c:vE P w K mg base zG) (d:mg "enumerate" = none) (e:RM 5 "law" z3 A s f cdv):WS (cX P w K mg base yD "law" z3 f cdv A outer s H E) (Θ1 zG) (bd z3 0) M.xW:=by
 unfold M.xW;exact (w_ms_setcomp (vars:=["_law_k","_law_cell_here"]) (i:=1) rfl ⟨rfl,rfl,(by kernel_rfl),(by kernel_rfl),(by decide +kernel),trivial,(by kernel_rfl)⟩ ZI.nd rfl (zf (by kernel_rfl)) (w_mi_enumerate gk d (w_me_sl qa qd (vv 0) (w_mo_some w_me_int) w_mo_none)) (λ_ _ _ _=>(w_mg_tupM (n:=2) rfl (w_mgs_cons (w_mg_name (i:=8) VS rfl (zf (by kernel_rfl)) (.inr (by kernel_rfl))) (w_mgs_cons (w_mg_name (i:=9) VS rfl (zf (by kernel_rfl)) (.inr (by kernel_rfl))) w_mgs_nil (λa b=>xq a b)) (λa b=>xq a b)) (zFb))) (λ_ _ _ _=>Xc) (λ_ _ _ _=>(w_me_call c e (by decide) gk (w_ma_cons (w_me_op (OpR.or jJ jK) jL (vv 9) (w_me_op QD QC w_me_int (vv 8))) w_ma_nil) (zk jE))) (by kernel_rfl))
theorem WL (a:vS P w K mg base zG) (b:vi P w K mg base zG) (c:mg "len" = none) (d:RM 5 "law" z3 A s f cdv):WS (cX P w K mg base yD "law" z3 f cdv A outer s H E) (Θ1 zG) (bd z3 1) M.JE:=by
 unfold M.JE;exact (w_ms_if (w_mt_cmp (jl d) jh (w_me_op jy j0 (w_me_call a d (by decide) gk (w_ma_cons (vv 0) (w_ma_cons w_me_int w_ma_nil)) (zk (zk jE))) w_me_int) w_me_int (z8 _))
  (w_mss_cons (w_ms_set (i:=2) ZI.nd rfl (zf (by kernel_rfl)) (w_me_op jy j0 (w_me_call a d (by decide) gk (w_ma_cons (vv 0) (w_ma_cons w_me_int w_ma_nil)) (zk (zk jE))) (w_me_op (OpR.or jJ jK) jL (w_me_callB qh ql gk c qo (w_ma_cons (vv 1) w_ma_nil)) w_me_int)))
  (w_mss_one (w_ms_set (i:=1) ZI.nd rfl (zf (by kernel_rfl)) (w_me_op (OpR.or jJ jK) jL (w_me_op (OpR.or jJ jK) jL (w_me_sl qa qd (vv 1) w_mo_none (w_mo_some (vv 2))) (w_me_lst (w_ma_cons (w_me_call b d (by decide) gk (w_ma_cons (w_me_call a d (by decide) gk (w_ma_cons (vv 0) (w_ma_cons w_me_int w_ma_nil)) (zk (zk jE))) w_ma_nil) (zk jE)) w_ma_nil))) (w_me_sl qa qd (vv 1) (w_mo_some (vv 2)) w_mo_none)))))
  w_mss_nil)
theorem wu (a:RM 5 "law" z3 A s f cdv):WS (cX P w K mg base yD "law" z3 f cdv A outer s H E) (Θ1 zG) (bd z3 2) M.J6:=by
 unfold M.J6;exact (w_ms_set (i:=3) ZI.nd rfl (zf (by kernel_rfl)) (w_me_sl qa qd (w_me_m PySem.F.plainAttrs_str PySem.F.slot_str_join PySem.F.type_str_join KG uK rfl zz (w_ma_cons (vv 1) w_ma_nil)) w_mo_none (w_mo_some w_me_int)))
theorem zCq (a:RM 5 "law" z3 A s f cdv):WS (cX P w K mg base yD "law" z3 f cdv A outer s H E) (Θ1 zG) (bd z3 3) M.Jk:=by
 unfold M.Jk;exact (w_ms_set (i:=4) ZI.nd rfl (zf (by kernel_rfl)) w_me_non)
theorem zEu (a:RM 5 "law" z3 A s f cdv):WS (cX P w K mg base yD "law" z3 f cdv A outer s H E) (Θ1 zG) (bd z3 4) M.xm:=by
 unfold M.xm;exact (w_ms_set (i:=5) ZI.nd rfl (zf (by kernel_rfl)) w_me_non)
theorem zEn (a:ZM P w K mg base zG) (b:xG P w K mg base zG) (c:RM 5 "law" z3 A s f cdv):WS (cX P w K mg base yD "law" z3 f cdv A outer s H E) (Θ1 zG) (bd z3 5) M.Zc:=by
 unfold M.Zc;exact (w_ms_tryE (iy:=5) (je:=6) (iz:=4) (cn:=21) a rfl rfl (w_mx_call b c (by decide) gk (λxe E=>(w_ma_cons (vv 3) w_ma_nil)) (zk jE)) rfl gk ZI.nd rfl (zf (by kernel_rfl)) rfl (zf (by kernel_rfl)) rfl (by kernel_rfl) (by decide) rfl)
theorem uw (a:Xe P w K mg base zG) (b:xG P w K mg base zG) (c:RM 5 "law" z3 A s f cdv):WS (cX P w K mg base yD "law" z3 f cdv A outer s H E) (Θ1 zG) (bd z3 6) M.Zq:=by
 unfold M.Zq;exact (w_ms_if (w_mt_notN (vv 5))
  (w_mss_cons (w_ms_set (i:=7) ZI.nd rfl (zf (by kernel_rfl)) (w_me_ofX (w_mx_call b c (by decide) gk (λxe E=>(w_ma_cons (vv 3) w_ma_nil)) (zk jE)) (λ_ _ _ z=>z)))
  (w_mss_cons (w_ms_if (w_mt_not (w_mt_tru (w_me_call a c (by decide) gk (w_ma_cons (vv 3) (w_ma_cons (vv 5) w_ma_nil)) (zk (zk jE)))))
  (w_mss_one (w_ms_ret w_me_bl))
  w_mss_nil)
  (w_mss_cons (w_ms_expr (w_me_m0 PySem.F.plainAttrs_list PySem.F.slot_list_clear PySem.F.type_list_clear zD9 zBm rfl (vv 5)))
  (w_mss_cons (w_ms_expr (w_me_ofX (w_mx_call b c (by decide) gk (λxe E=>(w_ma_cons zz w_ma_nil)) (zk jE)) (λ_ _ _ z=>z)))
  (w_mss_one (w_ms_ret (w_me_and (w_me_call a c (by decide) gk (w_ma_cons (vv 3) (w_ma_cons (w_me_ofX (w_mx_call b c (by decide) gk (λxe E=>(w_ma_cons (vv 3) w_ma_nil)) (zk jE)) (λ_ _ _ z=>z)) w_ma_nil)) (zk (zk jE))) (w_me_one (w_me_call a c (by decide) gk (w_ma_cons (vv 3) (w_ma_cons (vv 7) w_ma_nil)) (zk (zk jE)))))))))))
  w_mss_nil)
theorem zDK (b:xE P w K mg base zG) (a:KR P w K mg base zG) (c:mg "len" = none) (d:RM 5 "law" z3 A s f cdv):WS (cX P w K mg base yD "law" z3 f cdv A outer s H E) (Θ1 zG) (bd z3 7) M.JG:=by
 unfold M.JG;exact (w_ms_if (w_mt_ofw (w_mw_or (w_mt_not (w_mt_tru (w_me_call b d (by decide) gk (w_ma_cons (vv 4) w_ma_nil) (zk jE)))) (w_mw_or (w_mt_not (w_mt_chain yy Zh yt Za w_me_int (vv 4) (w_me_callB qh ql gk c qo (w_ma_cons (vv 3) w_ma_nil)))) (w_mw_one_or (w_mt_not (w_mt_tru (w_me_call a d (by decide) gk (w_ma_cons (vv 3) (w_ma_cons (vv 4) w_ma_nil)) (zk (zk jE)))))))))
  (w_mss_one (w_ms_ret w_me_bl))
  w_mss_nil)
theorem Wv (a:Xe P w K mg base zG) (b:xG P w K mg base zG) (c:RM 5 "law" z3 A s f cdv):WS (cX P w K mg base yD "law" z3 f cdv A outer s H E) (Θ1 zG) (bd z3 8) M.Js:=by
 unfold M.Js;exact (w_ms_ret (w_me_call a c (by decide) gk (w_ma_cons (w_me_sl qa qd (vv 3) w_mo_none (w_mo_some (vv 4))) (w_ma_cons (w_me_ofX (w_mx_call b c (by decide) gk (λxe E=>(w_ma_cons (w_me_sl qa qd (vv 3) w_mo_none (w_mo_some (vv 4))) w_ma_nil)) (zk jE)) (λ_ _ _ z=>z)) w_ma_nil)) (zk (zk jE))))
theorem zDr (F:Fun K "law" "law" z3 f fd) (h:ZM P w K mg base zG) (c:Xe P w K mg base zG) (e:vE P w K mg base zG) (a:xG P w K mg base zG) (i:vS P w K mg base zG) (g:xE P w K mg base zG) (d:KR P w K mg base zG) (k:vi P w K mg base zG) (j:mg "enumerate" = none) (l:mg "len" = none) :
  zj P w K mg base CX0 6 f fd ["_law_script"] (SpM K (Θ1 zG) 1 M.X9):=by
 refine w_fun_M0 (N:=yD) (b:=M.xa) F ZI λcdv A outer s H E m=>?_;unfold M.xa;exact (w_mss_cons (zB1 e j m) (w_mss_cons (WL i k l m) (w_mss_cons (wu m) (w_mss_cons (zCq m) (w_mss_cons (zEu m) (w_mss_cons (zEn h a m) (w_mss_cons (uw c a m) (w_mss_cons (zDK g d l m) (w_mss_one (Wv c a m))))))))))
noncomputable abbrev JV:zT:=zDl (top 2) 0
theorem zBE:jF ["self","place"] ["self","place"] (zP JV):=⟨rfl,rfl,rfl,by decide +kernel,rfl,by decide +kernel,by decide +kernel⟩
theorem Ww {l:PySem.W.OpenLaw}{w:zR}{K:PySem.W.Frag}{h:zJ}{mg:Str->Option zB}{fa f1 f2 f3 f4 f5 f6 f7 f8 f9 f10 f11 f12 f13 f14 f15 f16 f17 f18 f19:zA}{zG:zA} (X:K.In h) (G:h.Ns zr mg) (hfa:mg "law" = some (.ref fa))
  {od1 an1 od2 an2 od3 an3 od4 an4 od5 an5 od6 an6 od7 an7 od8 an8 od9 an9 od10 an10 od11 an11 od12 an12 od13 an13 od14 an14 od15 an15 od16 an16 od17 an17 od18 an18 od19 an19:Option zA}{sl1 sl2 sl3 sl4 sl5 sl6 sl7 sl8 sl9 sl10 sl11 sl12 sl13 sl14 sl15 sl16 sl17 sl18 sl19:Array (Option zB)}{oc1 kV1 dc1 pm1 cd1 ct1 oc2 kV2 dc2 pm2 cd2 ct2 oc3 kV3 dc3 pm3 cd3 ct3 oc4 kV4 dc4 pm4 cd4 ct4 oc5 kV5 dc5 pm5 cd5 ct5 oc6 kV6 dc6 pm6 cd6 ct6 oc7 kV7 dc7 pm7 cd7 ct7 oc8 kV8 dc8 pm8 cd8 ct8 oc9 kV9 dc9 pm9 cd9 ct9 oc10 kV10 dc10 pm10 cd10 ct10 oc11 kV11 dc11 pm11 cd11 ct11 oc12 kV12 dc12 pm12 cd12 ct12 oc13 kV13 dc13 pm13 cd13 ct13 oc14 kV14 dc14 pm14 cd14 ct14 oc15 kV15 dc15 pm15 cd15 ct15 oc16 kV16 dc16 pm16 cd16 ct16 oc17 kV17 dc17 pm17 cd17 ct17 oc18 kV18 dc18 pm18 cd18 ct18 oc19 kV19 dc19 pm19 cd19 ct19:zB}
  {q a:zA}{z B:Option zA}{C:Array (Option zB)}{D F I J m L:zB} (K0:PySem.W.nsIn K zr "BadRecipe" = some (some (.ref zG))) (aY_BadRecipe:PySem.W.nsIn K zr "YardError" = some (some (.ref q))) (V5:PySem.W.findIn K (.ref zG) "__init__" = some (some (.ref a))) (l_BadRecipe:K.lookup a=some ⟨D,z,.func (PySem.W.fnOf "__init__" "BadRecipe.__init__" (jT JV) (z4 JV) (zP JV) .none F I J B m L),C⟩) (X8:PySem.W.codeIn K m "BadRecipe.__init__" = true) (k_BadRecipe:PySem.W.keepIn K (.ref a)=true) (x_BadRecipe:xIn K zG q a "place" = true)
  (a1:PySem.W.nsIn K zr "_law_whole" = some (some (.ref f1))) (l1:K.lookup f1=some ⟨oc1,od1,.func (PySem.W.fnOf "_law_whole" "_law_whole" (jT Qj) (z4 Qj) (zP Qj) .none kV1 dc1 pm1 an1 cd1 ct1),sl1⟩) (c1:PySem.W.codeIn K cd1 "_law_whole" = true) (k1:PySem.W.keepIn K (.ref f1)=true)
  (a2:PySem.W.nsIn K zr "_law_quote_wrong" = some (some (.ref f2))) (l2:K.lookup f2=some ⟨oc2,od2,.func (PySem.W.fnOf "_law_quote_wrong" "_law_quote_wrong" (jT Q2) (z4 Q2) (zP Q2) .none kV2 dc2 pm2 an2 cd2 ct2),sl2⟩) (c2:PySem.W.codeIn K cd2 "_law_quote_wrong" = true) (k2:PySem.W.keepIn K (.ref f2)=true)
  (a3:PySem.W.nsIn K zr "_law_token_end" = some (some (.ref f3))) (l3:K.lookup f3=some ⟨oc3,od3,.func (PySem.W.fnOf "_law_token_end" "_law_token_end" (jT z9) (z4 z9) (zP z9) .none kV3 dc3 pm3 an3 cd3 ct3),sl3⟩) (c3:PySem.W.codeIn K cd3 "_law_token_end" = true) (k3:PySem.W.keepIn K (.ref f3)=true)
  (a4:PySem.W.nsIn K zr "_law_covered" = some (some (.ref f4))) (l4:K.lookup f4=some ⟨oc4,od4,.func (PySem.W.fnOf "_law_covered" "_law_covered" (jT qA) (z4 qA) (zP qA) .none kV4 dc4 pm4 an4 cd4 ct4),sl4⟩) (c4:PySem.W.codeIn K cd4 "_law_covered" = true) (k4:PySem.W.keepIn K (.ref f4)=true)
  (a5:PySem.W.nsIn K zr "_law_mixed" = some (some (.ref f5))) (l5:K.lookup f5=some ⟨oc5,od5,.func (PySem.W.fnOf "_law_mixed" "_law_mixed" (jT Q7) (z4 Q7) (zP Q7) .none kV5 dc5 pm5 an5 cd5 ct5),sl5⟩) (c5:PySem.W.codeIn K cd5 "_law_mixed" = true) (k5:PySem.W.keepIn K (.ref f5)=true)
  (a6:PySem.W.nsIn K zr "_law_signs" = some (some (.ref f6))) (l6:K.lookup f6=some ⟨oc6,od6,.func (PySem.W.fnOf "_law_signs" "_law_signs" (jT Qu) (z4 Qu) (zP Qu) .none kV6 dc6 pm6 an6 cd6 ct6),sl6⟩) (c6:PySem.W.codeIn K cd6 "_law_signs" = true) (k6:PySem.W.keepIn K (.ref f6)=true)
  (a7:PySem.W.nsIn K zr "_law_piece" = some (some (.ref f7))) (l7:K.lookup f7=some ⟨oc7,od7,.func (PySem.W.fnOf "_law_piece" "_law_piece" (jT jB) (z4 jB) (zP jB) .none kV7 dc7 pm7 an7 cd7 ct7),sl7⟩) (c7:PySem.W.codeIn K cd7 "_law_piece" = true) (k7:PySem.W.keepIn K (.ref f7)=true)
  (a8:PySem.W.nsIn K zr "is_letter" = some (some (.ref f8))) (l8:K.lookup f8=some ⟨oc8,od8,.func (PySem.W.fnOf "is_letter" "is_letter" (jT Qb) (z4 Qb) (zP Qb) .none kV8 dc8 pm8 an8 cd8 ct8),sl8⟩) (c8:PySem.W.codeIn K cd8 "is_letter" = true) (k8:PySem.W.keepIn K (.ref f8)=true)
  (a9:PySem.W.nsIn K zr "is_word_sign" = some (some (.ref f9))) (l9:K.lookup f9=some ⟨oc9,od9,.func (PySem.W.fnOf "is_word_sign" "is_word_sign" (jT Qa) (z4 Qa) (zP Qa) .none kV9 dc9 pm9 an9 cd9 ct9),sl9⟩) (c9:PySem.W.codeIn K cd9 "is_word_sign" = true) (k9:PySem.W.keepIn K (.ref f9)=true)
  (a10:PySem.W.nsIn K zr "is_row_sign" = some (some (.ref f10))) (l10:K.lookup f10=some ⟨oc10,od10,.func (PySem.W.fnOf "is_row_sign" "is_row_sign" (jT JH) (z4 JH) (zP JH) .none kV10 dc10 pm10 an10 cd10 ct10),sl10⟩) (c10:PySem.W.codeIn K cd10 "is_row_sign" = true) (k10:PySem.W.keepIn K (.ref f10)=true)
  (a11:PySem.W.nsIn K zr "quoted_at" = some (some (.ref f11))) (l11:K.lookup f11=some ⟨oc11,od11,.func (PySem.W.fnOf "quoted_at" "quoted_at" (jT jQ) (z4 jQ) (zP jQ) .none kV11 dc11 pm11 an11 cd11 ct11),sl11⟩) (c11:PySem.W.codeIn K cd11 "quoted_at" = true) (k11:PySem.W.keepIn K (.ref f11)=true)
  (a12:PySem.W.nsIn K zr "word_at" = some (some (.ref f12))) (l12:K.lookup f12=some ⟨oc12,od12,.func (PySem.W.fnOf "word_at" "word_at" (jT JS) (z4 JS) (zP JS) .none kV12 dc12 pm12 an12 cd12 ct12),sl12⟩) (c12:PySem.W.codeIn K cd12 "word_at" = true) (k12:PySem.W.keepIn K (.ref f12)=true)
  (a13:PySem.W.nsIn K zr "token_at" = some (some (.ref f13))) (l13:K.lookup f13=some ⟨oc13,od13,.func (PySem.W.fnOf "token_at" "token_at" (jT jS) (z4 jS) (zP jS) .none kV13 dc13 pm13 an13 cd13 ct13),sl13⟩) (c13:PySem.W.codeIn K cd13 "token_at" = true) (k13:PySem.W.keepIn K (.ref f13)=true)
  (a14:PySem.W.nsIn K zr "place_behind" = some (some (.ref f14))) (l14:K.lookup f14=some ⟨oc14,od14,.func (PySem.W.fnOf "place_behind" "place_behind" (jT Qm) (z4 Qm) (zP Qm) .none kV14 dc14 pm14 an14 cd14 ct14),sl14⟩) (c14:PySem.W.codeIn K cd14 "place_behind" = true) (k14:PySem.W.keepIn K (.ref f14)=true)
  (a15:PySem.W.nsIn K zr "tokens_of" = some (some (.ref f15))) (l15:K.lookup f15=some ⟨oc15,od15,.func (PySem.W.fnOf "tokens_of" "tokens_of" (jT jj) (z4 jj) (zP jj) .none kV15 dc15 pm15 an15 cd15 ct15),sl15⟩) (c15:PySem.W.codeIn K cd15 "tokens_of" = true) (k15:PySem.W.keepIn K (.ref f15)=true)
  (a16:PySem.W.nsIn K zr "_law_cell" = some (some (.ref f16))) (l16:K.lookup f16=some ⟨oc16,od16,.func (PySem.W.fnOf "_law_cell" "_law_cell" (jT QQ) (z4 QQ) (zP QQ) .none kV16 dc16 pm16 an16 cd16 ct16),sl16⟩) (c16:PySem.W.codeIn K cd16 "_law_cell" = true) (k16:PySem.W.keepIn K (.ref f16)=true)
  (a17:PySem.W.nsIn K zr "_law_begins_none" = some (some (.ref f17))) (l17:K.lookup f17=some ⟨oc17,od17,.func (PySem.W.fnOf "_law_begins_none" "_law_begins_none" (jT QT) (z4 QT) (zP QT) .none kV17 dc17 pm17 an17 cd17 ct17),sl17⟩) (c17:PySem.W.codeIn K cd17 "_law_begins_none" = true) (k17:PySem.W.keepIn K (.ref f17)=true)
  (a18:PySem.W.nsIn K zr "_law_odd" = some (some (.ref f18))) (l18:K.lookup f18=some ⟨oc18,od18,.func (PySem.W.fnOf "_law_odd" "_law_odd" (jT j8) (z4 j8) (zP j8) .none kV18 dc18 pm18 an18 cd18 ct18),sl18⟩) (c18:PySem.W.codeIn K cd18 "_law_odd" = true) (k18:PySem.W.keepIn K (.ref f18)=true)
  (a19:PySem.W.nsIn K zr "law" = some (some (.ref f19))) (l19:K.lookup f19=some ⟨oc19,od19,.func (PySem.W.fnOf "law" "law" (jT z3) (z4 z3) (zP z3) .none kV19 dc19 pm19 an19 cd19 ct19),sl19⟩) (c19:PySem.W.codeIn K cd19 "law" = true) (k19:PySem.W.keepIn K (.ref f19)=true)
  (z_isinstance:PySem.W.nsIn K zr "isinstance" = some none)
  (z_int:PySem.W.nsIn K zr "int" = some none)
  (z_bool:PySem.W.nsIn K zr "bool" = some none)
  (z_len:PySem.W.nsIn K zr "len" = some none)
  (z_tuple:PySem.W.nsIn K zr "tuple" = some none)
  (z_str:PySem.W.nsIn K zr "str" = some none)
  (z_list:PySem.W.nsIn K zr "list" = some none)
  (z_range:PySem.W.nsIn K zr "range" = some none)
  (z_all:PySem.W.nsIn K zr "all" = some none)
  (z_enumerate:PySem.W.nsIn K zr "enumerate" = some none)
  : ∃ fd:jU,(∀ (s:zD) (v:zB),Qx s fd ⟨[v],[]⟩ [("_law_script",v)])/\fd.scope.names.lookup ("_law_script" : Str)=some .local/\∀ base:zJ,K.In base->base.Ns zr mg->zj l.prog w K mg base CX0 6 fa fd ["_law_script"] (XE K):=by
 have e:=hfa.symm.trans (PySem.W.mg_of X G a19);cases e;have F1:=jq (x := "_law_whole") (qual := "_law_whole") (st:=Qj) l1 c1 k1;have B1:=F1.binds (ps:=["_law_found"]) λ_ _ _ _ _ _ us j=>match us,j with | [_],_=>rfl
 have F2:=jq (x := "_law_quote_wrong") (qual := "_law_quote_wrong") (st:=Q2) l2 c2 k2;have B2:=F2.binds (ps:=["_law_text","_law_at"]) λ_ _ _ _ _ _ us j=>match us,j with | [_,_],_=>rfl
 have F3:=jq (x := "_law_token_end") (qual := "_law_token_end") (st:=z9) l3 c3 k3;have B3:=F3.binds (ps:=["_law_text","_law_token"]) λ_ _ _ _ _ _ us j=>match us,j with | [_,_],_=>rfl
 have F4:=jq (x := "_law_covered") (qual := "_law_covered") (st:=qA) l4 c4 k4;have B4:=F4.binds (ps:=["_law_text","_law_found"]) λ_ _ _ _ _ _ us j=>match us,j with | [_,_],_=>rfl
 have F5:=jq (x := "_law_mixed") (qual := "_law_mixed") (st:=Q7) l5 c5 k5;have B5:=F5.binds (ps:=["_law_cell_here","_law_k"]) λ_ _ _ _ _ _ us j=>match us,j with | [_,_],_=>rfl
 have F6:=jq (x := "_law_signs") (qual := "_law_signs") (st:=Qu) l6 c6 k6;have B6:=F6.binds (ps:=[]) λ_ _ _ _ _ _ us j=>match us,j with | [],_=>rfl
 have F7:=jq (x := "_law_piece") (qual := "_law_piece") (st:=jB) l7 c7 k7;have B7:=F7.binds (ps:=["_law_cell_here"]) λ_ _ _ _ _ _ us j=>match us,j with | [_],_=>rfl
 have F8:=jq (x := "is_letter") (qual := "is_letter") (st:=Qb) l8 c8 k8;have B8:=F8.binds (ps:=["sign"]) λ_ _ _ _ _ _ us j=>match us,j with | [_],_=>rfl
 have F9:=jq (x := "is_word_sign") (qual := "is_word_sign") (st:=Qa) l9 c9 k9;have B9:=F9.binds (ps:=["sign"]) λ_ _ _ _ _ _ us j=>match us,j with | [_],_=>rfl
 have F10:=jq (x := "is_row_sign") (qual := "is_row_sign") (st:=JH) l10 c10 k10;have B10:=F10.binds (ps:=["sign"]) λ_ _ _ _ _ _ us j=>match us,j with | [_],_=>rfl
 have F11:=jq (x := "quoted_at") (qual := "quoted_at") (st:=jQ) l11 c11 k11;have B11:=F11.binds (ps:=["text","place"]) λ_ _ _ _ _ _ us j=>match us,j with | [_,_],_=>rfl
 have F12:=jq (x := "word_at") (qual := "word_at") (st:=JS) l12 c12 k12;have B12:=F12.binds (ps:=["text","place"]) λ_ _ _ _ _ _ us j=>match us,j with | [_,_],_=>rfl
 have F13:=jq (x := "token_at") (qual := "token_at") (st:=jS) l13 c13 k13;have B13:=F13.binds (ps:=["text","place"]) λ_ _ _ _ _ _ us j=>match us,j with | [_,_],_=>rfl
 have F14:=jq (x := "place_behind") (qual := "place_behind") (st:=Qm) l14 c14 k14;have B14:=F14.binds (ps:=["token"]) λ_ _ _ _ _ _ us j=>match us,j with | [_],_=>rfl
 have F15:=jq (x := "tokens_of") (qual := "tokens_of") (st:=jj) l15 c15 k15;have B15:=F15.binds (ps:=["text"]) λ_ _ _ _ _ _ us j=>match us,j with | [_],_=>rfl
 have F16:=jq (x := "_law_cell") (qual := "_law_cell") (st:=QQ) l16 c16 k16;have B16:=F16.binds (ps:=["_law_script","_law_k"]) λ_ _ _ _ _ _ us j=>match us,j with | [_,_],_=>rfl
 have F17:=jq (x := "_law_begins_none") (qual := "_law_begins_none") (st:=QT) l17 c17 k17;have B17:=F17.binds (ps:=["_law_text","_law_at"]) λ_ _ _ _ _ _ us j=>match us,j with | [_,_],_=>rfl
 have F18:=jq (x := "_law_odd") (qual := "_law_odd") (st:=j8) l18 c18 k18;have B18:=F18.binds (ps:=["_law_cell_here"]) λ_ _ _ _ _ _ us j=>match us,j with | [_],_=>rfl
 have F19:=jq (x := "law") (qual := "law") (st:=z3) l19 c19 k19;have d:=PySem.W.mg_none_of X G z_isinstance;have zFM:=PySem.W.mg_none_of X G z_int;have zDm:=PySem.W.mg_none_of X G z_bool;have p:=PySem.W.mg_none_of X G z_len;have WQ:=PySem.W.mg_none_of X G z_tuple;have Ul:=PySem.W.mg_none_of X G z_str;have Yr:=PySem.W.mg_none_of X G z_list;have zF9:=PySem.W.mg_none_of X G z_range;have zAL:=PySem.W.mg_none_of X G z_all;have R:=PySem.W.mg_none_of X G z_enumerate;have n:=jq (x := "__init__") (qual := "BadRecipe.__init__") (st:=JV) l_BadRecipe X8 k_BadRecipe;have M:=n.binds (ps:=["self","place"]) λ_ _ _ _ _ _ us j=>match us,j with | [_,_],_=>rfl
 obtain⟨mC_BadRecipe,mY_BadRecipe,b⟩:=Wo x_BadRecipe;refine⟨(PySem.W.fnOf "law" "law" (jT z3) (z4 z3) (zP z3) .none kV19 dc19 pm19 an19 cd19 ct19),λs v=>.of_eq rfl,by kernel_rfl,λbase _ _=>?_⟩;have g:ZM l.prog w K mg base zG:=⟨⟨_,_,_,_,_,b,zAv n zBE rfl b.toXCls b.n1 b.n2 rfl (zf (by kernel_rfl)) (zf (by kernel_rfl)) (by kernel_rfl) (by kernel_rfl) (by kernel_rfl) (by kernel_rfl) (λ_ _=>rfl),M,PySem.W.mg_of X G K0,rfl⟩⟩
 have o:xE l.prog w K mg base zG:=⟨⟨_,_,zAy F1 d zFM zDm,B1,k1,PySem.W.mg_of X G a1⟩⟩
 have c:XI l.prog w K mg base zG:=⟨⟨_,_,zBG F2,B2,k2,PySem.W.mg_of X G a2⟩⟩
 have r:Kk l.prog w K mg base zG:=⟨⟨_,_,zB3 F3 o c p d WQ Ul Yr,B3,k3,PySem.W.mg_of X G a3⟩⟩
 have t:Xe l.prog w K mg base zG:=⟨⟨_,_,zC7 F4 r d Yr,B4,k4,PySem.W.mg_of X G a4⟩⟩
 have N:vn l.prog w K mg base zG:=⟨⟨_,_,u7 F5,B5,k5,PySem.W.mg_of X G a5⟩⟩
 have O:Xw l.prog w K mg base zG:=⟨⟨_,_,zEj F6,B6,k6,PySem.W.mg_of X G a6⟩⟩
 have Q:vE l.prog w K mg base zG:=⟨⟨_,_,zDN F7 N O zF9,B7,k7,PySem.W.mg_of X G a7⟩⟩
 have S:v5 l.prog w K mg base zG:=⟨⟨_,_,zBy F8,B8,k8,PySem.W.mg_of X G a8⟩⟩
 have i:kN l.prog w K mg base zG:=⟨⟨_,_,zEP F9 S,B9,k9,PySem.W.mg_of X G a9⟩⟩
 have y:vp l.prog w K mg base zG:=⟨⟨_,_,zCv F10,B10,k10,PySem.W.mg_of X G a10⟩⟩
 have T:Ks l.prog w K mg base zG:=⟨⟨_,_,zAt F11 g y zAL,B11,k11,PySem.W.mg_of X G a11⟩⟩
 have zB7:Xr l.prog w K mg base zG:=⟨⟨_,_,zDk F12 i p,B12,k12,PySem.W.mg_of X G a12⟩⟩
 have Y:KY l.prog w K mg base zG:=⟨⟨_,_,wa F13 g i T zB7,B13,k13,PySem.W.mg_of X G a13⟩⟩
 have u:KM l.prog w K mg base zG:=⟨⟨_,_,UA F14 p,B14,k14,PySem.W.mg_of X G a14⟩⟩
 have U:xG l.prog w K mg base zG:=⟨⟨_,_,zAe F15 Y u p,B15,k15,PySem.W.mg_of X G a15⟩⟩
 have V:vS l.prog w K mg base zG:=⟨⟨_,_,zFs F16 p,B16,k16,PySem.W.mg_of X G a16⟩⟩
 have k:KR l.prog w K mg base zG:=⟨⟨_,_,UI F17 c,B17,k17,PySem.W.mg_of X G a17⟩⟩
 have Z:vi l.prog w K mg base zG:=⟨⟨_,_,zBM F18 p,B18,k18,PySem.W.mg_of X G a18⟩⟩
 exact (zDr F19 g t Q U V o k Z R p).imp λ_ _ _ _ h=>h _
theorem zFU {l:PySem.W.OpenLaw}{q:zW}{a:List Str}{g:(Str->Option zB)->zJ->Prop}{c:zR->zJ->Prop}{d:DefRec}{K:Params->PySem.W.Frag} (hn:l.most=some 63) (b:d.params.defaults=[])
  (i:∀ (w:zR) (h:zJ),c w h->(K w.params).In h)
  (F:∀ (w:zR) (mg:Str->Option zB) (e:zA) (h:zJ),(K w.params).In h->h.Ns zr mg->mg d.name=some (.ref e) ->
   ∃ fd:jU,(∀ (s:zD) (u:zB),Qx s fd ⟨[u],[]⟩ [("_law_script",u)])/\fd.scope.names.lookup ("_law_script" : Str)=some .local/\∀ base:zJ,(K w.params).In base->base.Ns zr mg->zj l.prog w (K w.params) mg base CX0 6 e fd ["_law_script"] (XE (K w.params))) :
  PySem.W.WalkO q a g c l.row.toRowW d [] (λf j=>PySem.call f j) :=
 L2.UY (n:=63) (k:=6) (x := "_law_script") (CX:=λ_=>CX0) (sp:=λw=>XE (K w.params)) hn (by decide) b ⟨rfl,by decide,by decide⟩ i F (λ_ _ _ _ m o p=>u9 m o p) λ_ _ _ _ _ z=>z
end My
theorem PySem.W.Fast.tw16460770138177905636:True:=trivial
theorem PySem.W.Fast.tw16356245916837687726:True:=trivial
theorem PySem.W.Fast.tw13413136707100722179:True:=trivial
theorem PySem.W.Fast.tw16396390566629792713:True:=trivial
theorem PySem.W.Fast.tw2444340434762732799:True:=trivial
theorem PySem.W.Fast.tw5387832184542609702:True:=trivial
theorem PySem.W.Fast.tw17335529875396531423:True:=trivial
theorem PySem.W.Fast.tw2442785540410287459:True:=trivial
theorem PySem.W.Fast.tw3521153808060195075:True:=trivial
theorem PySem.W.Fast.tw16357808773069504943:True:=trivial
theorem PySem.W.Fast.tw9881887682555797757:True:=trivial
theorem PySem.W.Fast.tw3251041726954373637:True:=trivial
theorem PySem.W.Fast.tw3845007551110830503:True:=trivial
theorem PySem.W.Fast.tw8978417853661639262:True:=trivial
theorem PySem.W.Fast.tw4981391461502880977:True:=trivial
theorem PySem.W.Fast.tw15170461243527930551:True:=trivial
theorem PySem.W.Fast.tw12216180467195803872:True:=trivial
theorem PySem.W.Fast.tw11631927709910280564:True:=trivial
theorem PySem.W.Fast.tw13326208602293386316:True:=trivial
theorem PySem.W.Fast.tw13460236901296393185:True:=trivial
theorem PySem.W.Fast.tw14224375077701375168:True:=trivial
theorem PySem.W.Fast.tw8472047965386456924:True:=trivial
theorem PySem.W.Fast.tw12424451612041290616:True:=trivial
theorem PySem.W.Fast.tw18179760172223068378:True:=trivial
theorem PySem.W.Fast.tw17298952461197420863:True:=trivial
theorem PySem.W.Fast.tw15617130890417935251:True:=trivial
theorem PySem.W.Fast.tw8706167287891094611:True:=trivial
theorem PySem.W.Fast.tw9820083932354995298:True:=trivial
theorem PySem.W.Fast.tw5784656496565129494:True:=trivial
theorem PySem.W.Fast.tw120280303920257826:True:=trivial
theorem PySem.W.Fast.tw15252983111618495971:True:=trivial
theorem PySem.W.Fast.tw3369537665366195648:True:=trivial
theorem PySem.W.Fast.tw12788652088091357381:True:=trivial
theorem PySem.W.Fast.tw10659396085085846490:True:=trivial
theorem PySem.W.Fast.tw1943267134662299536:True:=trivial
theorem PySem.W.Fast.tw17606038942306414296:True:=trivial
theorem PySem.W.Fast.tw13476874140594080154:True:=trivial
theorem PySem.W.Fast.tw7571500829585762126:True:=trivial
theorem PySem.W.Fast.tw8133461327050559347:True:=trivial
theorem PySem.W.Fast.tw3897442780093128250:True:=trivial
open PySem PySem.W PyProof.Rows
set_option maxRecDepth 100000 in
set_option maxHeartbeats 0 in
theorem PySem.Challenge.cw_thingyard_k14_whole_tokens_cover_holds : PySem.Challenge.rw_thingyard_k14_whole_tokens_cover.Holds := by
 w_on;o_law;k_head;(case hw=>w_witness2)
 k_fill
 refine My.zFU (l:=PySem.Challenge.rw_thingyard_k14_whole_tokens_cover) rfl rfl (λw h Y=>PySem.W.kIn_of Y) ?F
 case F =>
  intro w mg fa h KX G hmg;refine' My.Ww KX G hmg ?K0 ?aY_BadRecipe ?V5 ?l_BadRecipe ?X8 ?k_BadRecipe ?x_BadRecipe ?a1 ?l1 ?c1 ?k1 ?a2 ?l2 ?c2 ?k2 ?a3 ?l3 ?c3 ?k3 ?a4 ?l4 ?c4 ?k4 ?a5 ?l5 ?c5 ?k5 ?a6 ?l6 ?c6 ?k6 ?a7 ?l7 ?c7 ?k7 ?a8 ?l8 ?c8 ?k8 ?a9 ?l9 ?c9 ?k9 ?a10 ?l10 ?c10 ?k10 ?a11 ?l11 ?c11 ?k11 ?a12 ?l12 ?c12 ?k12 ?a13 ?l13 ?c13 ?k13 ?a14 ?l14 ?c14 ?k14 ?a15 ?l15 ?c15 ?k15 ?a16 ?l16 ?c16 ?k16 ?a17 ?l17 ?c17 ?k17 ?a18 ?l18 ?c18 ?k18 ?a19 ?l19 ?c19 ?k19 ?z_isinstance ?z_int ?z_bool ?z_len ?z_tuple ?z_str ?z_list ?z_range ?z_all ?z_enumerate
  (case K0=>k_is)
  (case aY_BadRecipe=>k_is)
  (case V5=>k_is)
  (case l_BadRecipe=>k_is)
  (case X8=>k_is)
  (case k_BadRecipe=>k_is)
  (case x_BadRecipe=>first | rfl | kernel_rfl)
  (case a1=>k_is)
  (case l1=>k_is)
  (case c1=>k_is)
  (case k1=>k_is)
  (case a2=>k_is)
  (case l2=>k_is)
  (case c2=>k_is)
  (case k2=>k_is)
  (case a3=>k_is)
  (case l3=>k_is)
  (case c3=>k_is)
  (case k3=>k_is)
  (case a4=>k_is)
  (case l4=>k_is)
  (case c4=>k_is)
  (case k4=>k_is)
  (case a5=>k_is)
  (case l5=>k_is)
  (case c5=>k_is)
  (case k5=>k_is)
  (case a6=>k_is)
  (case l6=>k_is)
  (case c6=>k_is)
  (case k6=>k_is)
  (case a7=>k_is)
  (case l7=>k_is)
  (case c7=>k_is)
  (case k7=>k_is)
  (case a8=>k_is)
  (case l8=>k_is)
  (case c8=>k_is)
  (case k8=>k_is)
  (case a9=>k_is)
  (case l9=>k_is)
  (case c9=>k_is)
  (case k9=>k_is)
  (case a10=>k_is)
  (case l10=>k_is)
  (case c10=>k_is)
  (case k10=>k_is)
  (case a11=>k_is)
  (case l11=>k_is)
  (case c11=>k_is)
  (case k11=>k_is)
  (case a12=>k_is)
  (case l12=>k_is)
  (case c12=>k_is)
  (case k12=>k_is)
  (case a13=>k_is)
  (case l13=>k_is)
  (case c13=>k_is)
  (case k13=>k_is)
  (case a14=>k_is)
  (case l14=>k_is)
  (case c14=>k_is)
  (case k14=>k_is)
  (case a15=>k_is)
  (case l15=>k_is)
  (case c15=>k_is)
  (case k15=>k_is)
  (case a16=>k_is)
  (case l16=>k_is)
  (case c16=>k_is)
  (case k16=>k_is)
  (case a17=>k_is)
  (case l17=>k_is)
  (case c17=>k_is)
  (case k17=>k_is)
  (case a18=>k_is)
  (case l18=>k_is)
  (case c18=>k_is)
  (case k18=>k_is)
  (case a19=>k_is)
  (case l19=>k_is)
  (case c19=>k_is)
  (case k19=>k_is)
  (case z_isinstance=>k_is)
  (case z_int=>k_is)
  (case z_bool=>k_is)
  (case z_len=>k_is)
  (case z_tuple=>k_is)
  (case z_str=>k_is)
  (case z_list=>k_is)
  (case z_range=>k_is)
  (case z_all=>k_is)
  (case z_enumerate=>k_is)
