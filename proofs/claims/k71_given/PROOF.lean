import PyProof.Rows.All
import Wide.All
import OpenK.AllK
import Wide.FinOn
import Lean
import PyProof.EqAt
import PyProof.EqKinds
import PyProof.TupleCall
import PyProof.ExcClass2
import PyProof.InstSpecial
import PyProof.InstStore
import PyProof.InstStoreFacts
import PyProof.StationsW
import PyProof.ExcArgsOwn
import PyProof.ExcAttrAll.ValueError
import PySem.Challenge.RW_thingyard_k71_given
set_option Elab.async false
set_option linter.all false
set_option maxRecDepth 100000
set_option compiler.extract_closed false
structure PySem.W.Fast:Prop where
 (tw10633161057329551188 tw12473678870489309559 tw17399875604520499632 tw16240425298780951733 tw6321864135655782653 tw7727546166851430588 tw2107134041426853528 tw16201197427676673642 tw6852930295173521813 tw8179486801537570938 tw15717244971085688591 tw16290098846747052109 tw5837479892179375939 tw6280594941932434873 tw2663134497348703037 tw17083370886569888742 tw12677344974938045004 tw11022694215718012626 tw11248988081684991203 tw5416607550076441886 tw6465531011122379346 tw6281340670697316992 tw5167630084960178459 tw9368862102656551090 tw375796720682275900 tw2116134117729638886 tw10090267596471999100 tw11864481283852459449 tw3302800907444480161 tw12870291100258304757 tw4945696910181145738 tw17759688965483310268 tw7229778699586512183 tw2844391378526281104 tw13017110340180144987 tw15626438215767364297 tw7364513994641629708 tw7796275956793532655 tw3638776332105225423 tw6684246931789439219 tw10161101658817549611 tw18161863927980586380 tw9786956760759234903 tw12050249529847185294 tw15239431277977537466 tw7999140774069320643 tw14816152224454907432 tw15641121621597736938 tw15556859418065378706 tw8472552250005803850 tw10705916518616691294 tw10071336280972448324 tw1462876106846248189 tw3710899236078637123 tw911546204027424441 tw12086304291783455732 tw8910238888265124953 tw6823336974982378398 tw13565342266460988664 tw11241784717404113592 tw4998378868181964220 tw10226805609177620437 tw11429753012899440513 tw16909928029683473083 tw10934534130727672278 tw18133444387820545777 tw3525870815162789921 tw1516984220946874056 tw3043594352750699216 tw2667845087509704984 tw14661304836092294630 tw6797686944119386817 tw7628517622463246403 tw8822675430000383945 tw11495667384750630848 tw14213863945305726602 tw5555882063923173011 tw17321313666982465563 tw11684968763453306792 tw13139607706576591228 tw555224512777196709 tw7350230886168056836 tw11149769947533312824 tw9425893862980610349 tw1929649262345978189 tw8047293218686611342 tw18084742735986362504 tw6176342036495935953 tw11493728400987821377 tw3115782701454796461 tw16260925912512855970 tw985299984812179961 tw9067431137996129974 tw12732305860837895686 tw9289646308057276970 tw1465344996612593478 tw5727146036347214722 tw1410845572575450181 tw16671656765224999657 tw6904042868320053861 tw16053474179407470792 tw3019804113327870093 tw5434740266287076646 tw12708977148499765342 tw12626630976004486890 tw4087206373667485235 tw10688059505977959039 tw15098822266063582555 tw14972485598542880202 tw9021754870494236408 tw5472453233943662872 tw16141889674802571339 tw981816797675697407 tw7277085803532977429 tw13707227528605727538 tw671726764031430844 tw7865535686187807908 tw16554919039600049835 tw5183835740710425471 tw3916154650032958175 tw9364509456023299297 tw13806005938606116666 tw16156403739984099444 tw7349583704332860755 tw2892751755933715187 tw8094041998869912850 tw9419729269623698746 tw13914457605311417299 tw3829538928701075469 tw3826831195200214875 tw4744998357756567513 tw17444010266883156889 tw15329939269000645752 tw8886063228545124322 tw8264657247545211073 tw16825682249661477424 tw131296072504910853 tw10491091718325126814 tw9876074290042493308 tw12783750587914696299 tw3414255953753146940 tw9633311548777665249 tw12526683263387463141 tw10043834060374601056 tw6477704123259549262 tw4027473891062512156 tw15653835715604660495 tw7235272156691483774 tw9809649108375484683 tw222458587159506817 tw15889324608312700293 tw18217624933342418077 tw14045901001655840600 tw4308123785879055931 tw5650425753510067581 tw7808419170863544587 tw4344812326457667244 tw7033885769069035575 tw914831012822313769 tw16712392565524124088 tw17217970531173427943 tw1507609442733245862 tw11469334421339384107 tw9415157710891198989 tw6034497367434170786 tw10083664870954640556 tw3762208554546127370 tw7645258650218140736 tw11992136843937911535 tw1160264754289278182 tw12565116417426402174 tw2840007371278507421 tw13479723464530289419 tw4203518752531648031 tw14861688156016419067 tw384973378813085268 tw16677388620687204974 tw13531973729058331039 tw9552503058129630110 tw11964638069331594483 tw11183994510384506652 tw5732727361320981485 tw4376666790780293573 tw10528329575175989489 tw14037694604911994256 tw1349905137090614705 tw7586320794767148349 tw16036673980134197800 tw14611094822155963434 tw10805403942848629616 tw16878814770282555312 tw6938226429006530355 tw13285231125306735014 tw14425723784880356386 tw10260296675146067156 tw6116943059598056762 tw7785981886933687848 tw1465708796042303730 tw3555194043904400604 tw3948255085804589675 tw477278278626943094 tw17809396691638616227 tw17076747114588981916 tw15358937108892317646 tw14339529208003565878 tw14483600696691279221 tw15071724856088404432 tw10416174477018928935 tw1779273105678936920 tw18106976920301515360 tw3528013538013971682 tw14113223640659395834 tw1467994975604170842 tw17527557582173027222 tw17836874879314658419 tw13041258484249540081 tw10189033864390663457 tw2715866790098733509 tw7715333846864757483 tw9224841968368721995 tw6372668014499622775 tw7275969713943708967 tw5413866021262110790 tw7940532275191891328 tw12944220621207166836 tw7638029746692563511 tw7467753989346700087 tw5170460286932454552 tw4086363726205133295 tw14124977497012925699 tw2299233272354304024 tw15118314276396539117 tw17868999167509565493 tw6630336408239595940 tw6190388798503830724 tw4500691669505503544 tw5655332429124515980 tw6077499935447954906 tw14231576204047518865 tw12871458346896916827 tw16748815379967743920 tw2008336460036441271 tw17517028834443792642 tw539165466725907729 tw17754988292827325677 tw9545677033634119560 tw370803645986365769 tw10444837847935687599 tw4946081294891487769 tw9009534156491715023 tw1496200957944681917 tw3044744007141094489 tw15138787931238286840 tw4911765688553384493 tw2351359136580117084 tw14599097043566413667 tw9313678287823712741 tw46659475569477864 tw9697083327175095579 tw8513843907617977689 tw7014686596129358684 tw13951857243440974962 tw5810566510885588398 tw297965977825827826 tw15641323515649296801 tw10869830542240766839 tw3700853599767707752 tw11299914399528532252 tw6013732886842322007 tw9886328818518206503 tw7712762406256171547 tw10384670766574601406 tw9049749497260347918 tw6273172440714868666 tw3741209900485371430 tw10952994608498245626 tw1636437973035628045 tw4738987676439515428 tw8434112633483761001 tw6973801746104949609 tw11885337044681347712 tw10995651232587989834 tw2043623902123591976 tw17389216623424936419 tw1589190380818394744 tw7368937477807007525 tw3916074203404696829 tw5159616916181145683 tw12028743017661600286 tw13563583082654832532 tw3969250894227179933 tw12418259020175671862 tw17955232290739182439 tw12426052869174793394 tw13899944232051003570 tw7855795817619962177 tw91947965078982000 tw17830953411015406513 tw17017755892732321124 tw12255901566760406382 tw16580270385799344236 tw13887473436585583451 tw2778151937358783031 tw2380342486378015795 tw8016877248948876644 tw11912097832835978016 tw13866638131056147642 tw10938018014435182142 tw5165780678010383114 tw11054543857941024968 tw8585629855265468073 tw12904656035697260165 tw11631105909110695692 tw14476009228837146043 tw363980548297943482 tw6943184647599026698 tw8196195666580471532 tw11686963771818812140 tw16215864124867796395 tw6122326299920364318 tw8624135704834114526 tw4749207477608351045 tw10168504299432429697 tw6929076949109133105 tw10006582616897081145 tw4011706918219570954 tw18221830004154766593 tw17298196609032280142 tw6790562522424087259 tw12427022705369136595 tw16340282690891976690 tw2554079015289280438 tw17858954200107095028 tw5871307247605145587 tw12442507581731680388 tw16853438514282736921 tw4832970407122756139 tw16106661314011732197 tw11521155813914306415 tw2823218241643833243 tw8880720381182217416 tw17268214254302873091 tw8989653417589357570 tw7245079168013137116 tw15210103149303601221 tw7188669894045983040 tw3236508703107490396 tw17213230738094973150 tw18025804117994279613 tw281868720151742204 tw4231929121640659826 tw15496865891324584498 tw15164099935642053320 tw401417926503145327 tw6501409733905135063 tw14278721121879484307 tw4929926100484989938 tw13180975090946161985 tw13314157105547786094 tw5978766333128093565 tw3522287730576087764 tw6408443403292322495 tw15985725084759361858 tw6879716474125807417 tw14244929757763930201 tw11071721414799752341 tw7488204136346739021 tw2060093095754886338 tw7897391535873041441 tw5829103969164765508 tw5987025077669952134 tw15550395546444344677 tw2732959237604595312 tw10175519660188412948 tw16497453227249234804 tw8339565155586882332 tw17290626408819549184 tw7807990021108084410 tw6349290374882104938 tw16782821198975624923 tw11595738105026493926 tw14067189340372096623 tw4927535716514783986 tw6418483596956911958 tw3223615243358497203 tw13934730676978542823 tw17380516682149962902 tw1480682046573785024 tw7109714559965887517 tw7381200142091711864 tw58612674032507383 tw7977794342955682822 tw13206720408412351461 tw10195637963642378447 tw11918246226216699592 tw15672370121530850237 tw9968051797247515319 tw13850882643452378455 tw5157502798958528302 tw7188401581925013579 tw1692538474823543231 tw12627421171124063205 tw14371409363198916170 tw11471884708804156318 tw5905509030685813972 tw18109648350625233462 tw4941843304271800102 tw12242222213486742322 tw4237670547070261814 tw4796192761890567958 tw14261452386098972803 tw16201593536667548781 tw17307588596435193192 tw16107221019204325350 tw5412049953655793860 tw8936227584187247927 tw3196137874506830087 tw17479714110049439535 tw18402503875819851723 tw11916951040987797420 tw1206379959009987378 tw18208447904073296009 tw13587964385947212200 tw16999141421049566156 tw8832715558813534435 tw8020977201601199811 tw18199137605383415019 tw8542094600361641608 tw1814626334847212032 tw5672547405323772981 tw8624868952174817289 tw8600557507895329149 tw11762917190253580436 tw10442546300085311859 tw9161689773448852310 tw8776029938350492028 tw8868488882318539053 tw3411596638082297792 tw8483685591764765786 tw11388076477907486706 tw5164063540684049101 tw8459117424907809461 tw10482323458273015561 tw9589199473157553303 tw1738233000529920708 tw7182779277224028906 tw11452328438514742185 tw9842378578504455674 tw11890324914301870751 tw9745935007860005973 tw2440075008448826070 tw298925625389723243 tw9141454669790785883 tw17582219185184112015 tw15734536420943091406 tw760409659177780899 tw18379752661891000333 tw7800085278030674796 tw546971731354713280 tw17668679984935129271 tw7735482860449094295 tw3382440880337130079 tw4588056040855864944 tw13820681682972496382 tw14514543466827227449 tw9842376671963889120 tw10327497372781438896 tw14836572322668871277 tw12620514996812984089 tw7148295454120910900 tw15639583599661027831 tw2912400441702662340 tw18302184784766915574 tw4613764679103239277 tw5995192374423406488 tw17620953267484890228 tw3292670265324021637 tw17114145999218666600 tw9685680176302667883 tw17446296588662470293 tw17468297817502648733 tw16927073087975929608 tw4475576468256114070 tw8252374570068673091 tw3399240241072472226 tw8644613022422349133 tw2546795140805272379 tw17361147053875696187 tw156342817987602843 tw17188269948510150740 tw5773054313373984418 tw8697031073810984478 tw12977991655926069676 tw16887163771052780296 tw14992042843048749033 tw827148840346132957 tw6666055740885245584 tw4477864456999864330 tw4297135302237353696 tw3198938382642224233 tw9850520396733823719 tw1062103308630133138 tw13487527402836528897 tw876569405706298237 tw12576237991058623779 tw8743108799883092619 tw16827200615688235312 tw5438357004193673070 tw3016690221707334435 tw13007760711156625030 tw2536582618829195918 tw6361000828667738668 tw17898399596242269774 tw1212376883321189987 tw809796384997942291 tw11114921764023263783 tw4869086171750391434 tw12440187044038970300 tw9660949609913966290 tw14208060857474826712 tw14940115427892341404 tw7517775779223633266 tw10942086484818056136 tw1677068694084802194 tw15744411293790043410 tw6726663527243980429 tw5716982454859158193 tw11325041499828652596 tw3425171795472137295 tw14719661963090997294 tw737881727186764813 tw529691815740900181 tw7022391993117799046 tw15614492861457961214 tw15023245814173504321 tw6265387951185507505 tw4998655460440428007 tw8982420299935477573 tw12960195535640050003 tw8193402940787932771 tw15112384769819411543 tw13402041822106253394 tw18255815230087850520 tw2841314786694905409 tw12609034296511471414 tw6432848312892399917 tw5475802118832822006 tw10433549006405951553 tw15624762206580042730 tw4738775717100575198 tw9428148072186820022 tw6532239828156430930 tw17027726166344325689 tw5362536032899354938 tw4996172181576693186 tw14036979097664768302 tw7404934951911347034 tw12076688181718082838 tw17547753092186004261 tw5159513636947022031 tw12483998635333524673 tw14515963496080035399 tw2853086883597479623 tw11586968903077176358 tw9434875360923448441 tw17080886935247574102 tw9296847748262480191 tw14910672799628012047 tw7631260789870217380 tw17949666876302861902 tw14699641577863020939 tw10975230027063856509 tw14392420240391603019 tw4820427285033400859 tw1629893846111181018 tw18126674058654952359 tw2896430669633411467 tw10474666521694032582 tw9739086475797309589 tw16484311770739754936 tw15107327348238297039 tw11360826213934868760 tw17294976941693058905 tw11975833834695290116 tw2947918256922867389 tw10691031087044726588 tw11648680089876626646 tw8818395774482017170 tw9916127165355668668 tw9518974979205503129 tw7426354709600069829 tw8005552170826888049 tw10015760947165633457 tw1899598952973206598 tw2346602064133063048 tw8778838546011754718 tw10863621215818539760 tw6228774313593831639 tw8049304981197349663 tw12821891566565334036 tw16598607801869944132 tw17869100874154100443 tw1839102745406097740 tw6711851111474263147 tw6655168715848327040 tw5139305809461173535 tw1961209561103793294 tw7833679472602841347 tw2862618617363835189 tw10083870706524780608 tw8607234383639824262 tw7914713952261147461 tw14518516438648630533 tw12050517869389805755 tw7974917573254088409 tw15026401981757515284 tw10170819592754808821 tw2916538489196049707 tw3324926841966890301 tw14813592899886377723 tw9011144584019686691 tw10066240485820054861 tw8799586604180027850 tw1937104760223350871 tw14776526003212129389 tw13769298546329784236 tw16286061358655561718 tw15389253134036980332 tw146183131472475080 tw17123430581194283249 tw4795335650853294849 tw1555947547337145111 tw7679058497505850404 tw16340178687470517294 tw6639857709777765325 tw2802658947019070618 tw7737518418984350608 tw7113230368253658645 tw4514982646309503215 tw17340719287877184623 tw9015288284444098402 tw15351699718407505202 tw8017648044418923487 tw13873993565998871997 tw3031501884124686621 tw15826905367738269670 tw15926931520056028731 tw4089018583678893572 tw12007329889543925844 tw10923397143439269628 tw11599189149893874428 tw9241660914816359340:True)
set_option maxHeartbeats 0 in
open_top PySem.Challenge.hd for PySem.Challenge.rw_thingyard_k71_given
open Option renaming some->zA,none->zB,map_some->Xb,isSome_none->av,isSome_iff_exists->A2,isSome_some->bP,isSome_map->bt
open Bool renaming true->zC,false->zP,and_eq_true->j8,false_ne_true->qU,false_eq_true->qj,not_true->J0,not_eq_true'->kq,true_and->Xd,true_xor->V9,eq_iff_iff->YD,or_eq_true->YX,and_true->US,false_xor->Ay,and_self->Eb,not_eq_false'->Eu,false_and->g9,not_false->HE,or_false->iC,or_true->LJ
open PySem renaming Addr->zN,Value->zO,Shared->zU,model->za,wpAny->zc,Heap->zg,Expr->zi,Stmt->zo,wpAny_bind->zw,sizeLine->z5,World->z7,Program->jF,starEach->jS,mainGlobals->jY,Around->jf,compareOp->jt,wpAny_pure->jx,backTo->qT,bootBuiltins->yB,binaryOp->y4,wpAny_mono->ZD,rawInt->ZF,wpAny_with_toks->ZL,sizeLine_eq->Zc,sysModules->Zk,cLine->Zu,rule->Z4,Scope->QF,bindL->QQ,bindC->QS,wpAny_holding->QV,standAt->Qh,compEnvC->Qm,valueAt->Qx,PyData->Q0,Model->Q9,attributeBase->JI,wpAny_truthy_bool->Jn,FuncData->Jr,behindInMarks->Jt,backToKw->Jw,keywordEach->J5,assignEach->J9,codeAny->xB,call_meets->xJ,swapsWith->xR,mem_of_lookup->xS,atKey->xa,callWith->kF,NameKind->kh,assign->kn,getMethod->XO,tupleKind->XY,codeAny_mono->Xf,call_meetsIn->Xn,wpAny_standAt->Xo,wpAny_rule->Xr,wpAny_passesOwn->KJ,callerA->KW,foldedSetIterable->Kc,wpAny_execs_nil->Kt,wpAny_Call_Name_kw->K3,BindsTo->K8,tupleKind_room_in1->vE,wpAny_pyIter_list->vS,wpAny_call->vx,cellsFrom->VN,setFlight->VQ,wpAny_field->VT,Keyword->Vc,typeIs_str->Vf,setItem->V7,wpAny_loadPart_at->YK,Result->Yp,PassesOwn->uJ,pyNext->u2,InCallC->Ut,lastMarks->Uu,PlainAttrs->wU,excClassObj->W2,bindArgs->aX,leaving->az,wpAny_setField->A5,noteFrame->BB,codeAny_builtin->Bf,storeName->Bn,builtinsNs->Bo,Within->Bq,newFunctionEnv->cV,ExcBaseFacts->Ce,wpAny_Name->Cq,swapsWithSole->dN,seqIndex_neg->dX,typeLookup->dY,wpAny_call_entry->d9,call->DV,typeIs_int->Dc,wpAny_execs_cons->Dr,swappedStores->eE,codeAny_call_builtin->eU,seqIndex_of->eW,letOwnedTupleGo->EG,codeAny_toks_of->EN,recursionLimit->Ea,wpAny_Call_method0_late->GC,evalArgs_none->Gm,getattributeRaised->HD,wpAny_Return_some->Hr,wpAny_isSubtype_exc->Hu,wpAny_Call_method_late->Hv,noFill_tuple_add->lO,wpAny_nextOf_list_end->MD,wpAny_pyIter_enum->Mm,wpAny_storeName_local->ng,wpAny_newObj_type->Nk,pushCells_keeps->Np,codeAny_of_tree->pf,wpAny_isTrue_Compare1->pj,wpAny_Compare1->PD
open PySem.W renaming Frag->zV,findIn->jb,nsIn->j2,keepIn->yX,mg_none_of->Zy,kia_one->QD,fnOf->QJ,plainGet->Qf,makesIn->JO,kitOne->JT,hasDictIn->JU,plainOver->J8,emptyDict->xO,mg_of->xx,instObj->kZ,codeIn->VY,isFn->YF,mroIn->aL,callWith_K->AK,lookIn->A8,plainGet_of->BF,takerIn->BK,methodCall_KW->BS,kitx_list->Dp,methodObj->Ds,OpenLaw->Ee,handedIn->GY,WalkO->Ge,callWith_K0->hG,kitx_dict->IJ,kitx_tuple->l7,cellsFrom_some->La,kdl_dict->Lr
open PyProof.Rows renaming Keyed->zX,arrOf->zY,SortSt->zj,wpS_bind->zr,wpS_pure->z1,pendingOf->jk,oneType'->qm,elem'->yG,wpS_mono->yo,envOfC->y8,wpS_forRange->ZA,seqObj->Qc,wpS_get->Qw,AllBare->Je,failedOf->Jv,wpS_modify->kH,pairsOf->Xe,setArr->X5,wpS_lift->Ke,StrsAre->v9,IntsAre->Vz,KK_congr->uh,sortedS->wj,Constant_none->wm,minRun'->W3,wpS_reverse->aD,reverseSlice'->ae,setPending->ah,pairsOf_size->AF,KK_mirror_equal->BE,SortedToK->cx,seqEpoch_at->Dd,callWith_type1->ee,listUpdate_at->EW,subscriptTail_builtinR->I7,callWith_builtin1->rE
open List renaming replicate->zm,all_eq_true->ja,mem_cons->jc,prefix_refl->jd,mem_cons_of_mem->jj,map_cons->ju,length_cons->qL,mem_cons_self->qM,getElem?_cons_zero->qO,size_toArray->qY,length_map->qd,append_nil->qo,getElem?_cons_succ->qw,getElem?_append_left->yQ,range->yT,getElem?_append_right->yi,getElem?_eq_some_iff->yp,append_assoc->yr,getElem?_map->y9,length_append->ZI,mem_of_getElem?->ZW,mem_map->Zn,mem_append_right->Zt,lookup_cons->Zz,map_id->Z0,getElem?_set_self->Z3,getD_eq_getElem?_getD->QB,set_cons_zero->Qa,getElem?_set_ne->Qd,mem_iff_getElem->Qo,set_cons_succ->Qq,nodup_cons->Q4,map_map->JA,all_cons->JJ,length_nil->Jb,map_congr_left->Jd,mem_singleton->Jg,any_cons->Jk,mem_append->Jl,length_take->xD,length_set->xK,replicate_succ->xU,lookup->xk,getElem?_eq_getElem->xl,flatten_cons->kK,length_filter_le->kP,prefix_append->kU,getElem?_range->XB,nil_append->Xw,mem_filter->X3,getElem?_replicate->KS,getElem?_eq_none->Kx,extract_eq_take_drop->Kz,not_mem_nil->vP,map_nil->vU,find?_cons->vf,drop_eq_getElem_cons->vg,pairwise_cons->VD,filterMap_cons->uF,length_range->UB,drop_zero->UV,nodup_nil->Ud,filter_cons->Ug,foldl_cons->Uw,pairwise_reverse->wX,length_replicate->w4,cons_append->Ws,set_append_right->Al,reverse_perm->bL,take_of_length_le->bR,pairwise_append->bS,map_append->BM,nodup_range->B2,take_append_drop->cB,isPrefixOf_iff_prefix->cO,mem_range->c6,prefix_iff_eq_take->c8,any_eq_true->CW,foldl->dG,mem_reverse->dO,nodup_append->DC,mem_append_left->DL,length_eq_zero_iff->DN,contains_cons->Du,of_mem_zip->Dy,all_map->eZ,reverse_append->fK,length_drop->gb,not_lt->gu,take_succ_eq_append_getElem->GW,getElem?_take_of_lt->HM,mem_filterMap->Ik,filter_eq_self->lu,dropLast_eq_take->Li,any_map->mJ,set_set->nG,all_nil->nQ,ext_getElem?->OW,lookup_eq_none_iff->O7,drop_length->pX,pairwise_iff_getElem->pY
open Nat renaming le_refl->jB,ne_of_lt->je,lt_of_lt_of_le->j6,le_trans->qe,succ_pos->yt,lt_irrefl->Zq,ne_of_gt->QZ,zero_add->Qs,le_succ->Jy,zero_le->XF,le_of_eq->Kk,add_assoc->Vm,lt_succ_self->u6,add_sub_cancel->wA,lt_succ_of_lt->WN,le_of_lt->Wh,lt_trans->Wi,add_zero->ba,add_sub_cancel_left->c7,reduceAdd->m3
open PySem.Heap renaming lt_size->jM,get?_push_of_some->j0,get?_push_size->yV,size_push->JV,get?_update_other->xM,SameBut->X2,get?_update_self->Vg,size_after_update->Ez,size_update->Mt,get?_push_ne->OO
open Or renaming inl->jO,inr->vX
open False renaming elim->jZ
open PySem.Value renaming ref->jv,none->qx,bool->xv,str->XD,int->KR,type->K4,float->Dn,isStrOf->fo,isInt->Hc,bytes->OS
open PySem.Builtin renaming iter->qB,globals->af
open Array renaming length_toList->qH,getElem?_eq_some_iff->yq,toList_append->Qb,size_extract->X4,getElem?_toList->vR,toList_push->YS,getElem_toList->Yu,toList_reverse->uK,toList_extract->ag,toList->EB,perm_iff_toList_perm->Eh,toList_setIfInBounds->Hg,size_map->iQ,getElem_extract->i6,mem_toList_iff->Oo
open Ne renaming symm->yJ
open PyProof.Rows.KeyOrd renaming kle_trans->yv,kle_of_klt->QI,kle_refl->xV,kle_antisymm->Hw
open PySem.SeqAt renaming shaped->Zj,EqAt->ON,canLay_of_shaped->OY
open Option.some renaming inj->QA,injEq->mG
open PySem.Str renaming empty->QL,join->B9
open True renaming intro->QT
open PySem.PassesOwn renaming never->JM
open Int renaming emod_nonneg->Ju,emod_lt_of_pos->xY
open PySem.Obj renaming mapFields->xf,mapSeq->kT,data_mapFields->aO,isFreed_of_fields->AH
open PySem.Txt renaming partition->xj,split->XT,replace->uv,mul->UT,startswith->AB,join->Ak
open PySem.PyData renaming eqv->kJ,depthAll->bM,strOk->fR,canLayAll0->Ff,eqvAll->IH,depth->ni
open PySem.F renaming plainAttrs_str->kQ,plainAttrs_dict->kY,slot_dict_pop->KA,slot_dict_get->VE,plainAttrs_list->Y8,type_dict_pop->uc,entry_dict_get->W1,slot_list_append->BU,type_list_append->D7,type_str_split->El,slot_str_split->E2,type_list_pop->FI,args_dict_pop_3->gG,slot_list_pop->gL,args_dict_get_2->G0,entry_dict_pop->HZ,args_tuple_add_2->Hf,slot_str_partition->iw,type_dict_get->i0,slot_dict_itemiterator_iter->Ie,entry_tuple_add->Ig,slot_dict_items->Lc,slot_enumerate_next->L4,type_str_partition->Mu,args_dict_get_3->NT,slot_tuple_add->Pf
open PySem.Builtin.Str renaming occurrences->kr,occurrences->uS,partsBetween->En,subAt->rZ,tooLong->RH
open PySem.NameKind renaming free->XQ,cell->vq
open Sum renaming inr->Xk,inl->X6
open ForInStep renaming yield->X9,done->V1
open PySem.StrLaws renaming At->UH,occ_head->p0,split_free->PO,join_split->PU
open PySem.AutoSeq1 renaming wpAny_loadPart'->W7
open List.Pairwise renaming nil->aY
open PySem.Calls renaming callWith_builtin->ak,Name_function_global->b6,Constant_str->cG,spliced_cons->Ek,evalArgs_plain->Es,loadGlobal_global->lN,spliced_nil->mL
open Classical renaming propDecidable->Aj
open PySem.Code renaming isFrame->b8,quiet_builtin->Ex,frames->n8
open PySem.Builtin.List renaming listTooLong->BO,listFitsIndex->RK
open PySem.Around renaming under->dR,under_plainId->o6
open PyProof.Rows.IsTup renaming new->dm
open PyProof.Rows.SortSt renaming mk'->eB
open Function renaming comp->eK
open PySem.SeqAt.EqAt renaming str_int->f9,int_str->N4,int_int->rF,int_bool->rM,bool_bool->rN,none_bool->rQ,bool_str->rR,bool_int->rm,bool_none->r9,int_none->RN,str_str->RP,str_none->RQ,none_int->RV,str_bool->Ra,none_str->Rn,same->Rr
open Sum.inr renaming inj->FP
open PySem.CmpOp renaming NotIn->GA,In->mQ
open PySem.Data renaming cell->hX,fields->NK
open PySem.Builtin.Dict renaming updateFrom->Hi,addKeywords->rC,pairItems->rh,selfAndRest->Ru
open PySem.Walks renaming list->IL
open PySem.EntryCells renaming newEntry->Lx
open PySem.W.WShape renaming has->mT
open List.cons renaming inj->MU
open PySem.Heap.DictOf renaming new->NW
open Array.Perm renaming refl->pV,trans->RT
open PySem.W.WData renaming int->pa
open PySem.EqNone renaming eq_none_int->rG,ne_none_none->rH,ne_none_int->rO,eq_none_str->rS,ne_str_none->rX,eq_str_none->rY,ne_int_none->rf,eq_none_none->RD,ne_none_bool->RF,eq_bool_none->Rc,eq_none_bool->Rm,eq_int_none->Ro,ne_none_str->Rq,ne_bool_none->Rt
open PySem.Builtin.Range renaming rangeSize->rg
open PySem.EqMixed renaming eq_str_int->rj,ne_bool_str->rr,eq_bool_str->RJ,ne_str_bool->RO,ne_int_str->RX,eq_int_str->RZ,eq_str_bool->Rf,ne_str_int->Rv
open PySem.W.Looks renaming here->RG
open PySem.Within renaming cons->RU
noncomputable section
namespace L2
open PySem PySem.Spec PyProof.Rows
abbrev Key:=Sum Int Str
noncomputable def Kg:Key->zO->Bool
 | .inl k,v=>Hc k v
 | .inr x,v=>fo x v
noncomputable def P5 (w:z7):Key->Int
 | .inl k=>hashInt k
 | .inr x=>hashStr w x
theorem Qj:∀ {k:Key}{v:zO},Kg k v=zC->(∃ i t,k=X6 i/\v=KR i t)\/(∃ x t,k=Xk x/\v=XD x t)
 | .inl i,v,h=>by
  obtain⟨t,e⟩:=Value.isInt_shape (k:=i) (v:=v) h;exact .inl ⟨i,t,rfl,e⟩
 | .inr x,v,h=>by
  obtain⟨t,e⟩:=Value.isStrOf_shape (x:=x) (v:=v) h;exact .inr ⟨x,t,rfl,e⟩
theorem LB (i:Int) (t:Tok):Kg (.inl i) (.int i t)=zC:=by simp[Kg,Hc]
theorem gx (x:Str) (t:Tok):Kg (.inr x) (.str x t)=zC:=by simp[Kg,fo]
theorem Oc (a b:Int):decide ((X6 a:Key)=X6 b)=(a == b):=by
 by_cases e:a=b
 ·subst e;simp
 ·have h:¬ (X6 a:Key)=X6 b:=λq=>e (Sum.inl.inj q);rw[decide_eq_false h];exact (beq_eq_false_iff_ne.mpr e).symm
theorem gw (a b:Str):decide ((Xk a:Key)=Xk b)=decide (a=b):=by
 by_cases e:a=b
 ·subst e;simp
 ·have h:¬ (Xk a:Key)=Xk b:=λq=>e (FP q);rw[decide_eq_false h,decide_eq_false e]
theorem gI (a:Int) (b:Str):decide ((X6 a:Key)=Xk b)=zP:=decide_eq_false (λq=>nomatch q)
theorem OP (a:Str) (b:Int):decide ((Xk a:Key)=X6 b)=zP:=decide_eq_false (λq=>nomatch q)
def jm (prog:jF) (w:z7):PySem.KeyKind prog w Key where
 is:=Kg
 hash:=P5 w
 inj:=λv a b ha f=>by
  rcases Qj ha with ⟨i,t,rfl,rfl⟩ | ⟨x,t,rfl,rfl⟩
  ·rcases Qj f with ⟨j,u,rfl,e⟩ | ⟨y,u,rfl,e⟩
   ·injection e with c _;rw[c]
   ·exact nomatch e
  ·rcases Qj f with ⟨j,u,rfl,e⟩ | ⟨y,u,rfl,e⟩
   ·exact nomatch e
   ·injection e with c _;rw[c]
 byValue:=λk v h=>by
  rcases Qj h with ⟨i,t,rfl,rfl⟩ | ⟨x,t,rfl,rfl⟩<;>rfl
 pyHash:=λd h=>by
  rcases Qj d with ⟨i,t,rfl,rfl⟩ | ⟨x,t,rfl,rfl⟩
  ·exact wpAny_pyHash_int h
  ·exact wpAny_pyHash_str h
 eqBool:=λg d h=>by
  rcases Qj g with ⟨i,t,rfl,rfl⟩ | ⟨x,t,rfl,rfl⟩
  ·rcases Qj d with ⟨j,u,rfl,rfl⟩ | ⟨y,u,rfl,rfl⟩
   ·rw[Oc] at h;exact wpAny_eqBool_int h
   ·rw[gI] at h;exact N4 i t y u _ _ _ _ h
  ·rcases Qj d with ⟨j,u,rfl,rfl⟩ | ⟨y,u,rfl,rfl⟩
   ·rw[OP] at h;exact f9 x t j u _ _ _ _ h
   ·rw[gw] at h;exact wpAny_eqBool_str h
 «strs» := λk x t v h=>by
  rcases Qj h with ⟨i,u,rfl,e⟩ | ⟨y,u,rfl,e⟩
  ·exact nomatch e
  ·injection e with c _;subst c;cases v<;>rfl
theorem F6 (prog:jF) (w:z7) (i:Int) (t:Tok):(jm prog w).is (.inl i) (.int i t)=zC:=LB i t
theorem nK (prog:jF) (w:z7) (x:Str) (t:Tok):(jm prog w).is (.inr x) (.str x t)=zC:=gx x t
inductive V where
 | non | bl (b:Bool) | int (i:Int) | str (x:Str) | byt (b:Array UInt8) | flt (b:UInt64) | ref (a:zN) | ty (n:String)
 deriving DecidableEq
noncomputable def zx:V->zO->Prop
 | .non,u=>u=qx
 | .bl b,u=>u=xv b
 | .int i,u=>∃ t,u=KR i t
 | .str x,u=>∃ t,u=XD x t
 | .byt b,u=>∃ t,u=OS b t
 | .flt b,u=>∃ t,u=Dn b t
 | .ref a,u=>u=jv a
 | .ty n,u=>u=K4 n
abbrev z6:List V->List zO->Prop:=Paired zx
theorem z6.length (r:z6 xs us):xs.length=us.length:=Paired.length r
theorem z6.get:∀ {xs:List V}{us:List zO}{i:Nat}{x:V},z6 xs us->xs[i]? = zA x->∃ u,us[i]? = zA u/\zx x u
 | _,_,_,_,.nil,e=>by simp at e
 | _,_,0,_,.cons r _,e=>by simp at e;subst e;exact⟨_,rfl,r⟩
 | _,_,i+1,x,.cons _ t,e=>by
  obtain⟨u,c,d⟩:=z6.get (i:=i) (x:=x) t (by simpa using e);exact⟨u,by simpa using c,d⟩
theorem z6.set (r:zx x u):∀ {xs:List V}{us:List zO} (i:Nat),z6 xs us->z6 (xs.set i x) (us.set i u)
 | _,_,_,.nil=>.nil
 | _,_,0,.cons _ t=>.cons r t
 | _,_,i+1,.cons q t=>.cons q (z6.set r i t)
theorem z6.append:∀ {xs c:List V}{us d:List zO},z6 xs us->z6 c d->z6 (xs++c) (us++d)
 | _,_,_,_,.nil,s=>s
 | _,_,_,_,.cons r t,s=>.cons r (z6.append t s)
def yP:Option V->Option zO->Prop
 | some v,zA u=>zx v u
 | none,zB=>True
 | _,_=>False
def KV {c:Type}:List (c×V)->List (c×zO)->Prop:=Paired λ(p:c×V) (q:c×zO)=>p.1=q.1/\zx p.2 q.2
noncomputable def kV:Key->V
 | .inl i=>.int i
 | .inr x=>.str x
inductive HO where
 | lst (xs:List V)
 | tup (xs:List V)
 | dK (kvs:List (Key×V)) | dT (kvs:List (List Key×V))
 | set (S:Int->Bool) (n:Nat)
 | ins (C dx:zN) (fs:List (Str×V))
 | own (x:zN)
 | xd (fs:List (Str×V))
 | met (f x:zN)
 | rng (lo hi:Int)
 | frz (o:Obj) (u:HO)
 | tbl (ps:Array zO)
 | ext (φ:zg->Prop)
abbrev Hp:=zN->Option HO
noncomputable def upd (H:Hp) (a:zN) (o:HO):Hp:=λb=>if b=a then zA o else H b
theorem qD {a:zN}:upd H a o a=zA o:=by unfold upd;rw[if_pos rfl]
theorem jA {a b:zN} (h:b≠a):upd H a o b=H b:=by unfold upd;rw[if_neg h]
theorem oA {H:Hp}{a b:zN}{o u:HO} (h:H a=zA o) (h':H b=zA u) (d:o≠u):a≠b:=by
 intro e;subst e;rw[h] at h';exact d (QA h')
theorem Z1 {H:Hp}{a b:zN}{o:HO} (h:H a=zA o) (h':H b=zB):a≠b:=by
 intro e;subst e;rw[h] at h';cases h'
section
variable (P:jF) (w:z7)
def jz (H:Hp) (h:zg) (a:zN):HO->Prop
 | .lst xs=>xs.length <= z5/\∃ (c:List zO) (n:Nat),z6 xs c/\h.get? a=zA { cls:=.type "list",data:=.seq c.toArray n }
 | .tup xs=>xs.length <= z5/\∃ c:List zO,z6 xs c/\IsTup h a c.toArray
 | .dK kvs=>kvs.length <= z5/\(a == Zk)=zP/\∃ vs,KV kvs vs/\h.DictOf (jm P w) a vs
 | .dT kvs=>kvs.length <= z5/\(a == Zk)=zP/\∃ xs:List (List Key×zN×zO),
   Paired (λ(p:List Key×V) (q:List Key×zN×zO)=>p.1=q.1/\H q.2.1=zA (.tup (p.1.map kV))/\zx p.2 q.2.2) kvs xs /\
   ∃ o es l,h.get? a=zA o/\o.ExactDict/\o.data=.dict es l/\es.toList=xs.map (entryOfKey (XY (jm P w)))/\(xs.map (·.1)).Nodup
 | .set S n=>h.SetOf (intKind P w) a S n
 | .ins C e fs=>H e=zA (.own a)/\fs.length <= 1000/\e≠a/\h.get? a=zA (kZ C e) /\
   ∃ d,h.Ns1 e d/\(∀ f,yP (fs.lookup f) (d f))/\Bq d (fs.map (·.1))
 | .own _=>∃ o,h.get? a=zA o
 | .xd fs=>∃ d,h.Ns1 a d/\∀ f,yP (fs.lookup f) (d f)
 | .rng lo hi=>∃ t u v,h.get? a=zA { cls:=.type "range",data:=.fields #[.int lo t,.int hi u,.int 1 v] }
 | .frz o u=>h.get? a=zA o/\jz H h a u
 | .tbl ps=>h.get? a=zA { cls:=.none,data:=.fields ps }
 | .met f x=>h.get? a=zA (Ds (.ref f) (.ref x))
 | .ext g=>g h/\(∃ o,h.get? a=zA o)/\∀ i j:zg,g i->(∀ o,i.get? a=zA o->j.get? a=zA o)->g j
def HOk (H:Hp) (h:zg):Prop:=∀ a o,H a=zA o->jz P w H h a o
end
section
variable {P:jF}{w:z7}{H H':Hp}{h h':zg}{a:zN}{o:HO}
theorem jz.lt (x:jz P w H h a o):a < h.objs.size:=by
 cases o with
 | lst xs=>obtain⟨_,_,_,_,e⟩:=x;exact jM e
 | tup xs=>obtain⟨_,_,_,p⟩:=x;exact p.lt
 | dK kvs=>obtain⟨_,_,_,_,o,_,_,e,_⟩:=x;exact jM e
 | dT kvs=>obtain⟨_,_,_,_,o,_,_,e,_⟩:=x;exact jM e
 | set S n=>obtain⟨o,_,_,_,e,_⟩:=x;exact jM e
 | ins C c fs=>obtain⟨_,_,_,e,_⟩:=x;exact jM e
 | own y=>obtain⟨_,e⟩:=x;exact jM e
 | xd fs=>obtain⟨_,⟨_,_,_,e,_⟩,_⟩:=x;exact jM e
 | rng lo hi=>obtain⟨_,_,_,e⟩:=x;exact jM e
 | frz ob u=>obtain⟨e,_⟩:=x;exact jM e
 | tbl ps=>exact jM (show h.get? a=zA _ from x)
 | met f y=>exact jM (show h.get? a=zA _ from x)
 | ext d=>obtain⟨_,⟨_,e⟩,_⟩:=x;exact jM e
theorem Paired.mapP {d e:Type}{F G:d->e->Prop}:∀ {c:List d}{l₂:List e},Paired F c l₂->(∀ a b,F a b->G a b)->Paired G c l₂
 | _,_,.nil,_=>.nil
 | _,_,.cons r t,f=>.cons (f _ _ r) (Paired.mapP t f)
theorem jz.stay (x:jz P w H h a o) (k:∀ b u,(b=a\/H b=zA (.own a))->h.get? b=zA u->h'.get? b=zA u)
  (m:∀ b,H b=zA (.own a)->H' b=zA (.own a)) (s:∀ b xs,H b=zA (.tup xs)->H' b=zA (.tup xs)):jz P w H' h' a o:=by
 induction o with
 | lst xs=>obtain⟨z,i,n,r,e⟩:=x;exact⟨z,i,n,r,k _ _ (.inl rfl) e⟩
 | tup xs=>obtain⟨z,i,r,ob,e,c⟩:=x;exact⟨z,i,r,ob,k _ _ (.inl rfl) e,c⟩
 | dK kvs=>obtain⟨z,y,vs,r,ob,es,g,e,c⟩:=x;exact⟨z,y,vs,r,ob,es,g,k _ _ (.inl rfl) e,c⟩
 | dT kvs =>
  obtain⟨z,y,xs,r,ob,es,g,e,c⟩:=x;exact⟨z,y,xs,Paired.mapP r λp q z=>⟨z.1,s _ _ z.2.1,z.2.2⟩,ob,es,g,k _ _ (.inl rfl) e,c⟩
 | set S n=>obtain⟨ob,es,g,t,e,c⟩:=x;exact⟨ob,es,g,t,k _ _ (.inl rfl) e,c⟩
 | ins C E fs =>
  obtain⟨d,z,ne,e,j,⟨l,es,g,A,c⟩,r⟩:=x;exact⟨m _ d,z,ne,k _ _ (.inl rfl) e,j,⟨l,es,g,k _ _ (.inr d) A,c⟩,r⟩
 | own y=>obtain⟨ob,e⟩:=x;exact⟨ob,k _ _ (.inl rfl) e⟩
 | xd fs=>obtain⟨j,⟨l,es,g,e,c⟩,r⟩:=x;exact⟨j,⟨l,es,g,k _ _ (.inl rfl) e,c⟩,r⟩
 | rng lo hi=>obtain⟨t,u,v,e⟩:=x;exact⟨t,u,v,k _ _ (.inl rfl) e⟩
 | frz ob u B=>obtain⟨e,q⟩:=x;exact⟨k _ _ (.inl rfl) e,B q⟩
 | tbl ps =>
  have e:h.get? a=zA { cls:=.none,data:=.fields ps }:=x;show h'.get? a=zA { cls:=.none,data:=.fields ps };exact k a _ (.inl rfl) e
 | met f y =>
  have e:h.get? a=zA (Ds (.ref f) (.ref y)):=x;show h'.get? a=zA (Ds (.ref f) (.ref y));exact k a _ (.inl rfl) e
 | ext G=>obtain⟨p,⟨o,e⟩,st⟩:=x;exact⟨st _ _ p λo q=>k _ _ (.inl rfl) q,⟨o,k _ _ (.inl rfl) e⟩,st⟩
theorem HOk.lt (x:HOk P w H h) (e:H a=zA o):a < h.objs.size:=(x a o e).lt
theorem HOk.fresh (x:HOk P w H h) (e:h.objs.size <= a):H a=zB:=by
 cases q:H a with
 | none=>rfl
 | some u=>exact absurd (j6 (x.lt q) e) (Zq _)
theorem HOk.kept (x:HOk P w H h) (k:∀ b u,h.get? b=zA u->h'.get? b=zA u):HOk P w H h':=λa o e =>
 (x a o e).stay (λb u _ q=>k b u q) (λ_ q=>q) λ_ _ q=>q
theorem HOk.laid (x:HOk P w H h) (k:∀ b u,h.get? b=zA u->h'.get? b=zA u) (g:h.objs.size <= a) (new:jz P w (upd H a o) h' a o):HOk P w (upd H a o) h':=λb u e=>by
 have d:=x.fresh g;by_cases f:b=a
 ·subst f;rw[qD] at e;cases e;exact new
 ·rw[jA f] at e;exact (x b u e).stay (λc v _ q=>k c v q) (λc q=>by rw[jA (Z1 q d)];exact q) λc xs q=>by rw[jA (Z1 q d)];exact q
end
def Rd (H:Hp) (a:zN) (u:HO):Prop:=H a=zA u\/∃ o,H a=zA (.frz o u)
theorem Rd.ok {P:jF}{w:z7}{a:zN} (r:Rd H a u) (x:HOk P w H h):jz P w H h a u:=by
 rcases r with r | ⟨o,r⟩
 ·exact x a u r
 ·obtain⟨_,q⟩:=x a _ r;exact q
noncomputable def Mut:Option HO->Prop
 | some (.lst _)=>True
 | some (.dK _)=>True
 | some (.dT _)=>True
 | some (.set _ _)=>True
 | some (.ins _ _ _)=>True
 | some (.ext _)=>True
 | _=>False
section
variable {P:jF}{w:z7}{H:Hp}{h h':zg}{x e:zN}{o':HO}
theorem HOk.write (ok:HOk P w H h) (i:Mut (H x)) (n:e=x\/H e=zA (.own x)) (k:∀ b u,b≠e->h.get? b=zA u->h'.get? b=zA u) (m:∃ u,h'.get? e=zA u)
  (new:jz P w (upd H x o') h' x o'):HOk P w (upd H x o') h':=λb u q=>by
 have f:∀ c y,H c=zA (.own y)->c≠x:=λc y r z=>by subst z;rw[r] at i;exact i
 have g:∀ c xs,H c=zA (.tup xs)->c≠x:=λc xs r z=>by subst z;rw[r] at i;exact i
 by_cases j:b=x
 ·subst j;rw[qD] at q;cases q;exact new
 ·rw[jA j] at q;by_cases d:b=e
  ·have o:H b=zA (.own x):=by
    rcases n with z | z
    ·exact absurd (d.trans z) j
    ·rw[d];exact z
   rw[q] at o;cases o;obtain⟨v,p⟩:=m;exact⟨v,by rw[d];exact p⟩
  ·refine (ok b u q).stay (λc v l r=>k c v ?_ r) (λc r=>by rw[jA (f c b r)];exact r) λc xs r=>by rw[jA (g c xs r)];exact r
   rcases l with rfl | l
   ·exact d
   ·rintro rfl
    rcases n with z | z
    ·exact f c b l z
    ·rw[l] at z;cases z;exact j rfl
end
structure Un (fs ex:List zN) (H H':Hp) (h h':zg):Prop where
 keep:∀ b o,h.get? b=zA o->H b=zB->b∉fs->b∉ex->h'.get? b=zA o
 slot:∀ b o,h.get? b=zA o->H b=zB->b∈fs->b∉ex->∃ sl,h'.get? b=zA { o with slots:=sl }
 free:∀ b o,h.get? b=zA o->H b=zB->b∉ex->H' b=zB
 there:∀ b o,h.get? b=zA o->b∉ex->∃ o',h'.get? b=zA o'
 tups:∀ b xs,H b=zA (.tup xs)->H' b=zA (.tup xs)
 frzs:∀ b o u,H b=zA (.frz o u)->H' b=zA (.frz o u)
 tbls:∀ b ps,H b=zA (.tbl ps)->∃ more,H' b=zA (.tbl (ps++more))
section
variable {fs fs' ex ex':List zN}{H H1 H2:Hp}{h h1 h2 h':zg}{a x e:zN}{o:HO}
theorem Un.any (u:Un fs ex H H1 h h1) {b:zN}{ob:Obj} (q:h.get? b=zA ob) (n:H b=zB) (hx:b∉ex):∃ d,h1.get? b=zA { ob with slots:=d }:=by
 by_cases c:b∈fs
 ·exact u.slot b ob q n c hx
 ·exact⟨ob.slots,u.keep b ob q n c hx⟩
theorem Un.kept (k:∀ b u,h.get? b=zA u->h'.get? b=zA u):Un fs ex H H h h' :=
 ⟨λb ob q _ _ _=>k b ob q,λb ob q _ _ _=>⟨ob.slots,k b ob q⟩,λ_ _ _ n _=>n,λb ob q _=>⟨ob,k b ob q⟩,λ_ _ q=>q,λ_ _ _ q=>q,λ_ ps q=>⟨#[],by rw[q];simp⟩⟩
theorem Un.refl:Un fs ex H H h h:=Un.kept λ_ _ q=>q
theorem Un.laid (k:∀ b u,h.get? b=zA u->h'.get? b=zA u) (d:h.objs.size <= a) (c:H a=zB):Un fs ex H (upd H a o) h h' where
 keep:=λb u q _ _ _=>k b u q
 slot:=λb u q _ _ _=>⟨u.slots,k b u q⟩
 free:=λb u q n _=>by rw[jA (je (j6 (jM q) d))];exact n
 there:=λb u q _=>⟨u,k b u q⟩
 tups:=λb xs q=>by rw[jA (Z1 q c)];exact q
 frzs:=λb u xs q=>by rw[jA (Z1 q c)];exact q
 tbls:=λb ps q=>⟨#[],by rw[jA (Z1 q c),q];simp⟩
theorem Un.write (d:Mut (H x)) (i:e=x\/H e=zA (.own x)) (k:∀ b u,b≠e->h.get? b=zA u->h'.get? b=zA u) (f:∃ u,h'.get? e=zA u):Un fs ex H (upd H x o) h h':=by
 have hx:∀ b,H b=zB->b≠x:=λb n z=>by subst z;rw[n] at d;exact d
 have g:∀ b,H b=zB->b≠e:=λb n z=>by
  subst z;rcases i with r | r
  ·exact hx b n r
  ·rw[n] at r;cases r
 have hm:∀ b u,H b=zA u -> ¬ Mut (zA u)->b≠x:=λb u q nm z=>by subst z;rw[q] at d;exact nm d
 refine⟨λb u q n _ _=>k b u (g b n) q,λb u q n _ _=>⟨u.slots,k b u (g b n) q⟩,λb u q n _=>by rw[jA (hx b n)];exact n,λb u q _=>?_,
  λb xs q=>by rw[jA (hm b _ q λz=>z)];exact q,λb u xs q=>by rw[jA (hm b _ q λz=>z)];exact q,λb ps q=>⟨#[],by rw[jA (hm b _ q λz=>z),q];simp⟩⟩
 by_cases c:b=e
 ·subst c;exact f
 ·exact⟨u,k b u c q⟩
end
noncomputable def trk (h:zg) (H:Hp):List zN:=(yT h.objs.size).filter λa=>(H a).isSome
def Jp (h:zg) (H:Hp):zg:=PySem.W.hideAll h (trk h H)
theorem nJ (h:zg) (H:Hp):(Jp h H).objs.size=h.objs.size:=PySem.W.hideAll_size _ _
theorem LC {h:zg}{H:Hp}{b:zN}{o:Obj} (e:h.get? b=zA o) (n:H b=zB):(Jp h H).get? b=zA o :=
 PySem.W.hideAll_get _ e λhm=>by
  have q:(H b).isSome=zC:=(X3.mp hm).2;rw[n] at q;simp at q
theorem mx {b:zN}{o:Obj} (e:(Jp h H).get? b=zA o):h.get? b=zA o/\H b=zB:=by
 have c:h.get? b=zA o:=PySem.W.of_hideAll (trk h H) e;refine⟨c,?_⟩;cases q:H b with
 | none=>rfl
 | some x =>
  have hm:b∈trk h H:=X3.mpr ⟨c6.mpr (jM c),by simp[q]⟩;have z:(Jp h H).get? b=zB:=PySem.W.hideAll_none (trk h H) hm;rw[z] at e;cases e
noncomputable def lB (g h:zg) (L:zN):List (zN×Obj):=(yT h.objs.size).filterMap λa=>if a=L\/(g.get? a).isSome=zC then zB else (h.get? a).map λo=>(a,o)
def jo (g h:zg) (L d:zN):List (zN×Obj):=(lB g h L).filter λp=>decide (p.1≠d)
structure Mod (K:zV) (mg:Str->Option zO) (base:zg):Prop where
 kin:K.In base
 glob:base.Ns jY mg
 blt:∃ mb,base.Ns Bo mb/\∀ x:Str,x ≠ "__name__" -> mb x=yB x
 nolimit:base.NoLimit
structure Cx where
 prog:jF
 w:z7
 K:zV
 mg:Str->Option zO
 base:zg
 A:jf
 N:List Str
 s₀:zU
 H₀:Hp
 env:Env
 outer:List Env
 stack:List Env
 ex:List zN
 fn:Str->Bool
 calm:Bool
 pn:List (zN×Obj)
 xe:zO->zU->Prop
noncomputable def frs (l:List Env):List zN:=l.filterMap (·.frame)
abbrev Cx.fs (X:Cx):List zN:=frs X.outer
def Vis (c:QF) (x:Str):Prop:=c.names.lookup x=zA .local\/c.names.lookup x=zA .cell\/c.names.lookup x=zA .free
def Loc (c:QF) (x:Str):Prop:=c.names.lookup x=zA .local\/c.names.lookup x=zA .cell
def Hh (env:Env) (h:zg) (m:Str->Option zO) (x:Str) (u:zO):Prop :=
 (env.kindOf x=zA .local/\m x=zA u)\/((env.kindOf x=zA .cell\/env.kindOf x=zA .free)/\∃ c,env.cells.lookup x=zA c/\h.IsCell c (zA u))
structure Cx.Ok (X:Cx):Prop where
 mod:Mod X.K X.mg X.base
 kind:X.env.scope.kind=.function
 glob:X.env.globals=jY
 blt:X.env.builtins=Bo
 above:X.s₀.heap.objs.size <= X.env.locals
 inj:∀ x y c,X.env.cells.lookup x=zA c->X.env.cells.lookup y=zA c->x=y
 has:∀ x,(X.env.kindOf x=zA .cell\/X.env.kindOf x=zA .free)->∃ c,X.env.cells.lookup x=zA c
 cab:∀ x c,X.fn x=zC->X.env.cells.lookup x=zA c->X.s₀.heap.objs.size <= c
 hd:X.calm=zC->X.A.handled=zB
 frames:X.A.frames=zA X.stack
 stk:X.stack=X.outer\/(X.stack=X.env::X.outer/\X.env.frame=zA X.env.locals)
 exf:∀ b∈X.ex,b≠X.env.locals/\∀ x c,X.env.cells.lookup x=zA c->c≠b
 bs:∀ b o,X.base.get? b=zA o->X.s₀.heap.get? b=zA o/\X.H₀ b=zB
 bsz:X.base.objs.size <= X.s₀.heap.objs.size
 noex:∀ b o,X.base.get? b=zA o->b∉X.ex
 exfs:∀ b∈X.ex,b∉X.fs
 funs:X.s₀.heap.FunFrames X.base X.outer
 frf:∀ b∈X.fs,X.H₀ b=zB
structure Inv (X:Cx) (pins:List (zN×Obj)) (σ:List (Option V)) (H:Hp) (s:zU):Prop where
 ok:X.Ok
 os:s.os=X.s₀.os
 bare:Je s.gens
 base:Un X.fs X.ex X.H₀ H X.s₀.heap s.heap
 loc:∃ m,s.heap.Ns X.env.locals m/\∀ (i:Nat) (x:Str) (v:V),X.N[i]? = zA x->σ[i]? = zA (zA v)->Vis X.env.scope x->∃ u,zx v u/\Hh X.env s.heap m x u
 cell:∀ x c,X.env.cells.lookup x=zA c->∃ v,s.heap.IsCell c v
 free:H X.env.locals=zB
 freeC:∀ x c,X.env.cells.lookup x=zA c->H c=zB
 pin:∀ p∈X.pn++pins,s.heap.get? p.1=zA p.2/\H p.1=zB/\p.1≠X.env.locals/\p.1∉X.fs/\∀ v,p.2.data≠.cell v
 hok:HOk X.prog X.w H s.heap
 len:σ.length=X.N.length
 tk:0 < s.toks
section
variable {X:Cx}{pins:List (zN×Obj)}{σ:List (Option V)}{H H':Hp}{s:zU}{h':zg}
theorem Cx.Ok.nofr (ok:X.Ok) {b:zN}{o:Obj} (e:X.base.get? b=zA o):b∉X.fs:=λc=>by
 have:=(ok.funs.mem c).1;rw[e] at this;cases this
theorem Inv.bs (I:Inv X pins σ H s):∀ b o,X.base.get? b=zA o->s.heap.get? b=zA o/\H b=zB:=λb o e =>
 ⟨I.base.keep b o (I.ok.bs b o e).1 (I.ok.bs b o e).2 (I.ok.nofr e) (I.ok.noex b o e),I.base.free b o (I.ok.bs b o e).1 (I.ok.bs b o e).2 (I.ok.noex b o e)⟩
theorem Inv.bk (I:Inv X pins σ H s):∀ b o,X.base.get? b=zA o->s.heap.get? b=zA o:=λb o e=>(I.bs b o e).1
theorem Inv.mod (I:Inv X pins σ H s):Mod X.K X.mg X.base:=I.ok.mod
theorem Inv.kIn (I:Inv X pins σ H s):X.K.In s.heap:=I.ok.mod.kin.keeps I.bk
theorem Inv.lt (I:Inv X pins σ H s):X.env.locals < s.heap.objs.size:=let ⟨_,c,_⟩:=I.loc;c.lt
theorem Inv.sz (I:Inv X pins σ H s):X.s₀.heap.objs.size <= s.heap.objs.size:=qe I.ok.above (Wh I.lt)
theorem Inv.nofs (I:Inv X pins σ H s) {a:zN} (h:s.heap.objs.size <= a):a∉X.fs:=λc=>by
 obtain⟨_,o,d,_⟩:=I.ok.funs.mem c;exact absurd (j6 (jM d) (qe I.sz h)) (Zq _)
theorem Inv.cne (I:Inv X pins σ H s):∀ x c,X.env.cells.lookup x=zA c->c≠X.env.locals:=λx c e z=>by
 obtain⟨v,o,g,hd⟩:=I.cell x c e;obtain⟨m,⟨h,es,i,d,f,_⟩,_⟩:=I.loc;rw[z,d] at g;cases g;rw[f] at hd;cases hd
theorem Inv.funs (I:Inv X pins σ H s):s.heap.FunFrames X.base X.outer:=by
 have all:∀ (l:List Env),(∀ b∈frs l,b∈X.fs)->X.s₀.heap.FunFrames X.base l->s.heap.FunFrames X.base l:=by
  intro l
  induction l with
  | nil=>intro _ _;trivial
  | cons env r h =>
   intro g i;obtain⟨j,⟨L,o,c,m,n,hd⟩,p⟩:=i;have d:L∈X.fs:=g L (by unfold frs;rw[uF,c];exact qM);obtain⟨q,e⟩:=I.base.slot L o n (I.ok.frf L d) d λz=>I.ok.exfs L z d;exact⟨j,⟨L,_,c,m,e,hd⟩,h (λb f=>g b (by unfold frs;rw[uF,c];exact jj _ f)) p⟩
 exact all X.outer (λ_ f=>f) I.ok.funs
theorem Inv.stack (I:Inv X pins σ H s):s.heap.FunFrames X.base X.stack:=by
 rcases I.ok.stk with e | ⟨e,c⟩
 ·rw[e];exact I.funs
 ·rw[e];obtain⟨m,d,_⟩:=I.loc;refine .cons (by rw[I.ok.kind];decide) c d ?_ I.funs;exact Heap.get?_none_of_le (qe I.ok.bsz I.ok.above)
theorem Inv.stkSub (I:Inv X pins σ H s):∀ b∈frs X.stack,b∈X.env.locals::X.fs:=λb c=>by
 rcases I.ok.stk with e | ⟨e,d⟩
 ·rw[e] at c;exact jj _ c
 ·rw[e] at c;unfold frs at c;rw[uF,d] at c;exact c
theorem Inv.stkFree (I:Inv X pins σ H s):∀ b∈frs X.stack,H b=zB:=λb c=>by
 rcases jc.mp (I.stkSub b c) with e | c
 ·rw[e];exact I.free
 ·obtain⟨_,o,d,_⟩:=I.ok.funs.mem c;exact I.base.free b o d (I.ok.frf b c) λz=>I.ok.exfs b z c
theorem Inv.step {t':Nat}{d':Drawn}{ch:List zN} (I:Inv X pins σ H s)
  (f:∀ b∈ch,(b∈X.ex\/X.s₀.heap.objs.size <= b)/\b≠X.env.locals/\(∀ x c,X.env.cells.lookup x=zA c->c≠b)/\∀ p∈X.pn++pins,p.1≠b)
  (keep:∀ b o,b≠X.env.locals->b∉X.fs->b∉ch->s.heap.get? b=zA o->H b=zB->h'.get? b=zA o)
  (slot:∀ b o,b≠X.env.locals->b∈X.fs->b∉ch->s.heap.get? b=zA o->H b=zB->∃ E,h'.get? b=zA { o with slots:=E }) (free:∀ b o,b∉ch->s.heap.get? b=zA o->H b=zB->H' b=zB)
  (there:∀ b o,b∉ch->s.heap.get? b=zA o->∃ A,h'.get? b=zA A)
  (tups:∀ b xs,H b=zA (.tup xs)->H' b=zA (.tup xs)) (frzs:∀ b o u,H b=zA (.frz o u)->H' b=zA (.frz o u)) (tbls:∀ b ps,H b=zA (.tbl ps)->∃ more,H' b=zA (.tbl (ps++more)))
  (ns:∀ m,s.heap.Ns X.env.locals m->h'.Ns X.env.locals m) (hok:HOk X.prog X.w H' h') (N:Je g') (Q:0 < t':=by first | exact yt _ | assumption | exact Inv.tk (by assumption) | lia) :
  Inv X pins σ H' { s with heap:=h',gens:=g',drawn:=d',toks:=t' }:=by
 have B:∀ b o,X.s₀.heap.get? b=zA o->b≠X.env.locals:=λb o e=>je (j6 (jM e) I.ok.above);have h:∀ b o,X.s₀.heap.get? b=zA o->b∉X.ex->b∉ch:=λb o e hx t=>by
  rcases (f b t).1 with z | z
  ·exact hx z
  ·exact absurd (j6 (jM e) z) (Zq _)
 have ye:∀ x c,X.env.cells.lookup x=zA c->∀ v,s.heap.IsCell c v->h'.IsCell c v:=λx c e v ⟨o,y,hd⟩=>by
  have g:c∉ch:=λz=>(f c z).2.2.1 x c e rfl;by_cases J:c∈X.fs
  ·obtain⟨E,q⟩:=slot c o (I.cne x c e) J g y (I.freeC x c e);exact⟨_,q,hd⟩
  ·exact⟨o,keep c o (I.cne x c e) J g y (I.freeC x c e),hd⟩
 refine⟨I.ok,I.os,N,⟨λb o e n t hx=>?_,λb o e n t hx=>?_,λb o e n hx=>?_,λb o e hx=>?_,λb xs e=>tups b xs (I.base.tups b xs e),λb o xs e=>frzs b o xs (I.base.frzs b o xs e),λb ps e=>?_⟩,?_,λx c e=>?_,?_,λx c e=>?_,λp L=>?_,hok,I.len,Q⟩
 ·exact keep b o (B b o e) t (h b o e hx) (I.base.keep b o e n t hx) (I.base.free b o e n hx)
 ·obtain⟨E,j⟩:=I.base.slot b o e n t hx;obtain⟨G,C⟩:=slot b _ (B b o e) t (h b o e hx) j (I.base.free b o e n hx);exact⟨G,C⟩
 ·obtain⟨A,j⟩:=I.base.there b o e hx;exact free b A (h b o e hx) j (I.base.free b o e n hx)
 ·obtain⟨A,j⟩:=I.base.there b o e hx;exact there b A (h b o e hx) j
 ·obtain⟨U,j⟩:=I.base.tbls b ps e;obtain⟨Y,C⟩:=tbls b _ j;exact⟨U++Y,by rw[C,Array.append_assoc]⟩
 ·obtain⟨m,hn,hl⟩:=I.loc;refine⟨m,ns m hn,λi x v j C e3=>?_⟩;obtain⟨u,r,l⟩:=hl i x v j C e3;refine⟨u,r,?_⟩;rcases l with l | ⟨k,c,e,z⟩
  ·exact .inl l
  ·exact .inr ⟨k,c,e,ye x c e _ z⟩
 ·obtain⟨v,z⟩:=I.cell x c e;exact⟨v,ye x c e v z⟩
 ·obtain⟨m,⟨o,_,_,y,_⟩,_⟩:=I.loc;exact free _ o (λz=>(f _ z).2.1 rfl) y I.free
 ·obtain⟨v,o,y,hd⟩:=I.cell x c e;exact free c o (λz=>(f c z).2.2.1 x c e rfl) y (I.freeC x c e)
 ·obtain⟨e,n,ne,M,d⟩:=I.pin p L;have g:p.1∉ch:=λz=>(f p.1 z).2.2.2 p L rfl;exact⟨keep p.1 p.2 ne M g e n,free p.1 p.2 g e n,ne,M,d⟩
theorem Inv.un {t':Nat} (I:Inv X pins σ H s) (u:Un X.fs [] H H' s.heap h') (hok:HOk X.prog X.w H' h') (i:0 < t':=by first | exact yt _ | assumption | exact Inv.tk (by assumption) | lia):Inv X pins σ H' { s with heap:=h',toks:=t' }:=by
 obtain⟨m,⟨o,es,p,h,r⟩,_⟩:=id I.loc;obtain⟨q,j⟩:=u.any h I.free (by simp);exact I.step (g':=s.gens) (d':=s.drawn) (ch:=[]) (λ_ z=>nomatch z) (λb o _ d _ e n=>u.keep b o e n d (by simp)) (λb o _ d _ e n=>u.slot b o e n d (by simp)) (λb o _ e n=>u.free b o e n (by simp)) (λb o _ e=>u.there b o e (by simp)) u.tups u.frzs u.tbls (λt hm=>by
  obtain⟨v,f,g,c,l⟩:=hm;rw[h] at c;cases c;exact⟨_,f,g,j,l⟩) hok I.bare i
theorem Inv.call {t':Nat}{d':Drawn} (I:Inv X pins σ H s) (u:Un (frs X.stack) ch H H' s.heap h') (hok:HOk X.prog X.w H' h') (q:Je g')
  (f:∀ b∈ch,(b∈X.ex\/X.s₀.heap.objs.size <= b)/\b≠X.env.locals/\(∀ x c,X.env.cells.lookup x=zA c->c≠b)/\∀ p∈X.pn++pins,p.1≠b) (t:0 < t':=by first | exact yt _ | assumption | exact Inv.tk (by assumption) | lia) :
  Inv X pins σ H' { s with heap:=h',gens:=g',drawn:=d',toks:=t' }:=by
 obtain⟨m,⟨o,es,A,l,r⟩,_⟩:=id I.loc;obtain⟨B,h⟩:=u.any l I.free λz=>(f _ z).2.1 rfl;exact I.step (ch:=ch) f (λb o h v d e n=>u.keep b o e n (λz=>(jc.mp (I.stkSub b z)).elim h v) d) (λb o _ _ d e n=>u.any e n d) (λb o d e n=>u.free b o e n d) (λb o d e=>u.there b o e d) u.tups u.frzs u.tbls (λC hm=>by
  obtain⟨E,i,j,g,y⟩:=hm;rw[l] at g;cases g;exact⟨_,i,j,h,y⟩) hok q t
theorem Inv.turned {t':Nat}{it:zN} (I:Inv X pins σ H s) (k:∀ b o,b≠it->s.heap.get? b=zA o->h'.get? b=zA o) (h:H it=zB) (g:it≠X.env.locals)
  (i:it∈X.ex\/X.s₀.heap.objs.size <= it) (j:∀ x c,X.env.cells.lookup x=zA c->c≠it) (l:∀ p∈X.pn++pins,p.1≠it) (t:0 < t':=by first | exact yt _ | assumption | exact Inv.tk (by assumption) | lia):Inv X pins σ H { s with heap:=h',toks:=t' }:=by
 have f:∀ b u,H b=zA u->b≠it:=λb u e z=>by rw[z,h] at e;cases e
 refine I.step (g':=s.gens) (d':=s.drawn) (ch:=[it]) (λb y=>?_) (λb o _ _ d e _=>k b o (λz=>d (by simp[z])) e) (λb o _ _ d e _=>⟨o.slots,k b o (λz=>d (by simp[z])) e⟩) (λ_ _ _ _ n=>n)
  (λb o d e=>⟨o,k b o (λz=>d (by simp[z])) e⟩) (λ_ _ e=>e) (λ_ _ _ e=>e) (λb ps e=>⟨#[],by rw[e];simp⟩) (λm hm=>?_) (λb u e=>?_) I.bare t
 ·have e:b=it:=by simpa using y
  subst e;exact⟨i,g,j,l⟩
 ·obtain⟨o,es,A,B,r⟩:=hm;exact⟨o,es,A,k _ o (yJ g) B,r⟩
 ·refine (I.hok b u e).stay (λc v d q=>k c v ?_ q) (λ_ q=>q) λ_ _ q=>q;rcases d with z | z
  ·rw[z];exact f b u e
  ·exact f c _ z
theorem Inv.tok (I:Inv X pins σ H s) (t:Nat) (c:0 < t:=by first | exact yt _ | assumption | exact Inv.tk (by assumption) | lia):Inv X pins σ H { s with toks:=t }:=I.un (h':=s.heap) (t':=t) Un.refl I.hok c
theorem Inv.kept {t':Nat} (I:Inv X pins σ H s) (k:∀ b u,s.heap.get? b=zA u->h'.get? b=zA u) (c:0 < t':=by first | exact yt _ | assumption | exact Inv.tk (by assumption) | lia):Inv X pins σ H { s with heap:=h',toks:=t' }:=I.un (Un.kept k) (I.hok.kept k) c
theorem Inv.laid {a:zN}{t':Nat} (I:Inv X pins σ H s) (k:∀ b u,s.heap.get? b=zA u->h'.get? b=zA u) (c:s.heap.objs.size <= a) (new:jz X.prog X.w (upd H a o) h' a o) (d:0 < t':=by first | exact yt _ | assumption | exact Inv.tk (by assumption) | lia) :
  Inv X pins σ (upd H a o) { s with heap:=h',toks:=t' }:=I.un (Un.laid k c (I.hok.fresh c)) (I.hok.laid k c new) d
theorem Inv.write {x e:zN}{t':Nat} (I:Inv X pins σ H s) (d:Mut (H x)) (f:e=x\/H e=zA (.own x)) (k:∀ b u,b≠e->s.heap.get? b=zA u->h'.get? b=zA u) (c:∃ u,h'.get? e=zA u)
  (new:jz X.prog X.w (upd H x o) h' x o) (g:0 < t':=by first | exact yt _ | assumption | exact Inv.tk (by assumption) | lia):Inv X pins σ (upd H x o) { s with heap:=h',toks:=t' }:=I.un (Un.write d f k c) (I.hok.write d f k c new) g
theorem Inv.weak {c:List (Option V)} (I:Inv X pins σ H s) (e:c.length=σ.length) (w:∀ (i:Nat) v,c[i]? = zA (zA v)->σ[i]? = zA (zA v)):Inv X pins c H s :=
 ⟨I.ok,I.os,I.bare,I.base,let ⟨m,f,d⟩:=I.loc;⟨m,f,λi x v g h j=>d i x v g (w i v h) j⟩,I.cell,I.free,I.freeC,I.pin,I.hok,e.trans I.len,I.tk⟩
theorem Inv.pins_of {pins':List (zN×Obj)} (I:Inv X pins σ H s) (h:∀ p∈pins',s.heap.get? p.1=zA p.2/\H p.1=zB/\p.1≠X.env.locals/\p.1∉X.fs/\∀ v,p.2.data≠.cell v):Inv X pins' σ H s :=
 ⟨I.ok,I.os,I.bare,I.base,I.loc,I.cell,I.free,I.freeC,λp c=>(Jl.mp c).elim (λz=>I.pin p (DL _ z)) (h p),I.hok,I.len,I.tk⟩
theorem Bs {N:List Str} (c:N.Nodup) {i j:Nat}{x:Str} (a:N[i]? = zA x) (b:N[j]? = zA x):i=j:=by
 obtain⟨f,d⟩:=yp.mp a;obtain⟨g,e⟩:=yp.mp b;exact (List.getElem_inj c).mp (d.trans e.symm)
theorem Ih {M:Q9}{i:Nat}{x:Str}{Q:Unit->zU->Prop} (I:Inv X pins σ H s) (hN:X.N.Nodup) (hi:X.N[i]? = zA x) (hx:Loc X.env.scope x) (r:zx v u)
  (h:∀ s',Inv X pins (σ.set i (zA v)) H s'->(∃ a,X2 a s.heap s'.heap/\(a=X.env.locals\/X.env.cells.lookup x=zA a))->Q () s') (hf:X.fn x=zC\/X.env.scope.names.lookup x=zA .local:=by first | exact .inl rfl | exact .inr rfl | assumption):zc M A (Bn X.env x u) Q E s:=by
 obtain⟨m,hn,hl⟩:=id I.loc;have Y:(X.env.scope.kind == .class || (X.env.scope.kind == .module && X.env.locals != X.env.globals))=zP:=by rw[I.ok.kind];rfl
 have C:i < σ.length:=by rw[I.len];exact (yp.mp hi).1
 have cne:=I.cne;have tracked:∀ {a:zN}{h':zg},(∃ o,s.heap.get? a=zA o/\H a=zB)->X2 a s.heap h'->HOk X.prog X.w H h':=λ{a h'} ha f b ob e=>by
  obtain⟨_,_,t⟩:=ha;refine (I.hok b ob e).stay (λc w' l q=>(f.2 c ?_).trans q) (λ_ q=>q) λ_ _ q=>q
  rintro rfl
  rcases l with rfl | l
  ·rw[t] at e;cases e
  ·rw[t] at l;cases l
 rcases hx with G | G
 ·refine ng G hn (λh' hn' f=>?_) Y;obtain⟨oL,_,_,hoL,_⟩:=id hn;refine h _ ⟨I.ok,I.os,I.bare,⟨λb o e n J hx=>?_,λb o e n J hx=>?_,I.base.free,λb o e hx=>?_,I.base.tups,I.base.frzs,I.base.tbls⟩,⟨_,hn',λj y v' g B e3=>?_⟩,λy c e=>?_,I.free,I.freeC,λp hp=>?_,tracked ⟨oL,hoL,I.free⟩ f,by simpa using I.len,yt _⟩ ⟨_,f,.inl rfl⟩
  ·exact (f.2 b (je (j6 (jM e) I.ok.above))).trans (I.base.keep b o e n J hx)
  ·obtain⟨sl,g⟩:=I.base.slot b o e n J hx;exact⟨sl,(f.2 b (je (j6 (jM e) I.ok.above))).trans g⟩
  ·obtain⟨o',g⟩:=I.base.there b o e hx;exact⟨o',(f.2 b (je (j6 (jM e) I.ok.above))).trans g⟩
  ·by_cases L:j=i
   ·subst L;rw[hi] at g;cases g;rw[Z3 C] at B;cases B;exact⟨u,r,.inl ⟨G,by simp⟩⟩
   ·rw[Qd (yJ L)] at B;obtain⟨u',r',q⟩:=hl j y v' g B e3;refine⟨u',r',?_⟩;rcases q with ⟨k,e⟩ | ⟨k,c,e,z⟩
    ·refine .inl ⟨k,?_⟩;have:y≠x:=λe=>L (Bs hN g (e ▸ hi));simp[this,e]
    ·exact .inr ⟨k,c,e,z.sameBut f (cne y c e)⟩
  ·obtain⟨w',z⟩:=I.cell y c e;exact⟨w',z.sameBut f (cne y c e)⟩
  ·obtain⟨e,n,ne,nf,d⟩:=I.pin p hp;exact⟨(f.2 p.1 ne).trans e,n,ne,nf,d⟩
 ·have U:X.fn x=zC:=by
   rcases hf with z | z
   ·exact z
   ·rw[z] at G;cases G
  obtain⟨c,l⟩:=I.ok.has x (.inl G);obtain⟨w',z⟩:=I.cell x c l;refine wpAny_storeName_cell I.ok.kind G l z (λh' hc' f=>?_);obtain⟨oc,hoc,hocd⟩:=id z;refine h { s with heap:=h' } ⟨I.ok,I.os,I.bare,⟨λb o e n J hx=>?_,λb o e n J hx=>?_,I.base.free,λb o e hx=>?_,I.base.tups,I.base.frzs,I.base.tbls⟩,⟨m,hn.sameBut f (yJ (cne x c l)),λj y v' g B e3=>?_⟩,λy c' e=>?_,I.free,I.freeC,λp hp=>?_,tracked ⟨oc,hoc,I.freeC x c l⟩ f,by simpa using I.len,I.tk⟩ ⟨c,f,.inr l⟩
  ·exact (f.2 b (je (j6 (jM e) (I.ok.cab x c U l)))).trans (I.base.keep b o e n J hx)
  ·obtain⟨sl,g⟩:=I.base.slot b o e n J hx;exact⟨sl,(f.2 b (je (j6 (jM e) (I.ok.cab x c U l)))).trans g⟩
  ·obtain⟨o',g⟩:=I.base.there b o e hx;exact⟨o',(f.2 b (je (j6 (jM e) (I.ok.cab x c U l)))).trans g⟩
  ·by_cases L:j=i
   ·subst L;rw[hi] at g;cases g;rw[Z3 C] at B;cases B;exact⟨u,r,.inr ⟨.inl G,c,l,hc'⟩⟩
   ·rw[Qd (yJ L)] at B;obtain⟨u',r',q⟩:=hl j y v' g B e3;refine⟨u',r',?_⟩;rcases q with q | ⟨k,c',e,z'⟩
    ·exact .inl q
    ·refine .inr ⟨k,c',e,z'.sameBut f ?_⟩
     rintro rfl
     exact L (Bs hN g (I.ok.inj _ _ _ e l ▸ hi))
  ·by_cases hcc:c'=c
   ·subst hcc;exact⟨_,hc'⟩
   ·obtain⟨w2,z2⟩:=I.cell y c' e;exact⟨w2,z2.sameBut f hcc⟩
  ·obtain⟨e,n,ne,nf,d⟩:=I.pin p hp;refine⟨(f.2 p.1 ?_).trans e,n,ne,nf,d⟩;intro q;rw[q,hoc] at e;have q':oc=p.2:=QA e;exact d w' (by rw[<- q'];exact hocd)
theorem Cc {M:Q9}{i:Nat}{x:Str}{Q:Unit->zU->Prop} (I:Inv X pins σ H s) (c:X.N.Nodup) (hi:X.N[i]? = zA x) (hx:Loc X.env.scope x) (r:zx v u)
  (h:∀ s',Inv X pins (σ.set i (zA v)) H s'->Q () s') (d:X.fn x=zC\/X.env.scope.names.lookup x=zA .local:=by first | exact .inl rfl | exact .inr rfl | assumption):zc M A (Bn X.env x u) Q E s :=
 Ih I c hi hx r (λs' e _=>h s' e) d
theorem Inv.call' {s':zU} (I:Inv X pins σ H s) (f:s'.os=s.os) (u:Un (frs X.stack) ch H H' s.heap s'.heap) (hok:HOk X.prog X.w H' s'.heap) (g:Je s'.gens)
  (d:∀ b∈ch,(b∈X.ex\/X.s₀.heap.objs.size <= b)/\b≠X.env.locals/\(∀ x c,X.env.cells.lookup x=zA c->c≠b)/\∀ p∈X.pn++pins,p.1≠b) (h:0 < s'.toks):Inv X pins σ H' s':=by
 obtain⟨h',g',d',t',i⟩:=s';have e:i=s.os:=f;subst e;exact I.call (g':=g') (t':=t') (d':=d') u hok g d h
end
abbrev XK:=zO->Option zN->Hp->Prop
abbrev St:=List (Option V)
abbrev VK:=V->Hp->Prop
abbrev TE:=St->Hp->VK->Prop
abbrev TT:=St->Hp->(Bool->Hp->Prop)->Prop
abbrev TA:=St->Hp->(List V->Hp->Prop)->Prop
structure ZU where
 nx:St->Hp->Prop
 rt:VK
 bk:St->Hp->Prop:=λ_ _=>False
 ct:St->Hp->Prop:=λ_ _=>False
abbrev TS:=ZU->St->Hp->Prop
def EP (X:Cx) (c:List (zN×Obj)) (σ:St) (Q:VK) (u:zO) (s':zU):Prop:=∃ v d,Inv X c σ d s'/\zx v u/\Q v d
def TP (X:Cx) (c:List (zN×Obj)) (σ:St) (Q:Bool->Hp->Prop) (b:Bool) (s':zU):Prop:=∃ d,Inv X c σ d s'/\Q b d
def AP (X:Cx) (c:List (zN×Obj)) (σ:St) (Q:List V->Hp->Prop) (us:List zO) (s':zU):Prop:=∃ vs d,Inv X c σ d s'/\z6 vs us/\Q vs d
def SP (X:Cx) (d:List (zN×Obj)) (D:ZU) (f:Flow) (s':zU):Prop :=
 match f with
 | .next=>∃ c e,Inv X d c e s'/\D.nx c e
 | .brk=>∃ c e,Inv X d c e s'/\D.bk c e
 | .cont=>∃ c e,Inv X d c e s'/\D.ct c e
 | .ret u=>∃ v c e,Inv X d c e s'/\zx v u/\D.rt v e
def PE (X:Cx) (e:zi) (t:TE):Prop :=
 ∀ (c:List (zN×Obj)) (s:zU) (σ:St) (H:Hp) (Q:VK),Inv X c σ H s->t σ H Q->zc (za X.prog X.w) X.A (eval e X.env) (EP X c σ Q) X.xe s
def PT (X:Cx) (e:zi) (t:TT):Prop :=
 ∀ (c:List (zN×Obj)) (s:zU) (σ:St) (H:Hp) (Q:Bool->Hp->Prop),Inv X c σ H s->t σ H Q->zc (za X.prog X.w) X.A (isTrue e X.env (eval e X.env)) (TP X c σ Q) X.xe s
def PW (X:Cx) (e:zi) (t:TT):Prop :=
 ∀ (d:Sem zO) (c:List (zN×Obj)) (s:zU) (σ:St) (H:Hp) (Q:Bool->Hp->Prop),Inv X c σ H s->t σ H Q->zc (za X.prog X.w) X.A (isTrue e X.env d) (TP X c σ Q) X.xe s
theorem PW.pt {X:Cx} (h:PW X e t):PT X e t:=h _
def PA (X:Cx) (es:List zi) (t:TA):Prop :=
 ∀ (pos:Pos) (c:List (zN×Obj)) (s:zU) (σ:St) (H:Hp) (Q:List V->Hp->Prop),Inv X c σ H s->t σ H Q->zc (za X.prog X.w) X.A (spliced (qT pos (jS es X.env))) (AP X c σ Q) X.xe s
def PS (X:Cx) (st:zo) (t:TS):Prop :=
 ∀ (c:List (zN×Obj)) (s:zU) (σ:St) (H:Hp) (D:ZU),Inv X c σ H s->t D σ H->zc (za X.prog X.w) X.A (exec st X.env) (SP X c D) X.xe s
def PSs (X:Cx) (st:List zo) (t:TS):Prop :=
 ∀ (c:List (zN×Obj)) (s:zU) (σ:St) (H:Hp) (D:ZU),Inv X c σ H s->t D σ H->zc (za X.prog X.w) X.A (execs st X.env) (SP X c D) X.xe s
theorem thn {c:Type}{t:Sem c}{Q d:c->zU->Prop}{M:Q9}{A:jf}{E:zO->zU->Prop}{s:zU} (h:zc M A t Q E s) (e:∀ a s,Q a s->d a s):zc M A t d E s:=ZD h e λ_ _ x=>x
theorem jC {d e f:Type}{t:Sem d}{a b c:d->zU->e->f->Prop}{Q:d->zU->Prop}{M:Q9}{A:jf}{E:zO->zU->Prop}{s:zU} (h:zc M A t (λv s=>∃ x y,a v s x y/\b v s x y/\c v s x y) E s) (q:∀ v s x y,a v s x y->b v s x y->c v s x y->Q v s):zc M A t Q E s:=thn h λv s z=>by
 obtain⟨x,y,i,j,k⟩:=z;exact q v s x y i j k
section
variable {X:Cx}
def ig (i:Nat):TE:=λσ H Q=>∃ v,σ[i]? = zA (zA v)/\Q v H
def tC (v:V):TE:=λ_ H Q=>Q v H
theorem NM {i:Nat}{x:Str}{pos:Pos} (o:X.N[i]? = zA x) (p:Vis X.env.scope x) (hd:(x == ("__debug__" : Str))=zP:=by decide) (j:(x == ("__classdict__" : Str))=zP:=by decide):PE X (.Name x pos) (ig i):=by
 intro g s σ H Q I h;obtain⟨v,e,h⟩:=h;obtain⟨m,q,t⟩:=I.loc;obtain⟨u,r,l⟩:=t i x v o e p;have fin:EP X g σ Q u s:=⟨v,H,I,r,h⟩
 rcases l with ⟨f,hm⟩ | ⟨f,c,n,d⟩
 ·exact Cq (wpAny_loadName_local I.ok.kind f q hm fin) hd
 ·rcases f with f | f
  ·exact Cq (wpAny_loadName_cell I.ok.kind f n d fin) hd
  ·exact Cq (wpAny_loadName_free I.ok.kind f n d fin j) hd
theorem EO {i j pos}:PE X (.Constant (.int i) j pos) (tC (.int i)):=λ_ _ _ H _ I h=>wpAny_Constant_int ⟨.int i,H,I.tok _,⟨_,rfl⟩,h⟩
theorem gN {b j pos}:PE X (.Constant (.bool b) j pos) (tC (.bl b)):=λ_ _ _ H _ I h=>Constant_bool ⟨.bl b,H,I,rfl,h⟩
theorem Pw {j pos}:PE X (.Constant .none j pos) (tC .non):=λ_ _ _ H _ I h=>wm ⟨.non,H,I,rfl,h⟩
theorem CO {x j pos}:PE X (.Constant (.str x) j pos) (tC (.str x)):=λ_ _ _ H _ I h=>cG ⟨.str x,H,I.tok _,⟨_,rfl⟩,h⟩
def Gl (X:Cx) (x:Str):Prop:=X.env.kindOf x=zA .globalImplicit
theorem VL {u:zO}{pos:Pos}{Q:zO->zU->Prop} (I:Inv X c σ H s) (d:Gl X x) (hm:X.mg x=zA u) (h:Q u s)
  (hd:(x == ("__debug__" : Str))=zP:=by decide):zc (za X.prog X.w) X.A (eval (.Name x pos) X.env) Q E s :=
 b6 I.ok.kind d (lN (by rw[I.ok.glob];exact I.mod.glob.keeps I.bk) hm h) hd
theorem KZ {u:zO}{pos:Pos}{Q:zO->zU->Prop} (I:Inv X c σ H s) (d:Gl X x) (hm:X.mg x=zB) (e:yB x=zA u) (h:Q u s)
  (f:x ≠ "__name__" := by decide) (hd:(x == ("__debug__" : Str))=zP:=by decide):zc (za X.prog X.w) X.A (eval (.Name x pos) X.env) Q E s:=by
 obtain⟨j,g,i⟩:=I.mod.blt;exact b6 I.ok.kind d (Calls.loadGlobal_builtin (by rw[I.ok.glob];exact I.mod.glob.keeps I.bk) hm (by rw[I.ok.blt];exact g.keeps I.bk) ((i x f).trans e) h) hd
theorem md {u:zO}{pos:Pos} (c:Gl X x) (hm:X.mg x=zA u) (r:zx v u) (hd:(x == ("__debug__" : Str))=zP:=by decide):PE X (.Name x pos) (tC v) :=
 λ_ _ _ H _ I h=>VL I c hm ⟨v,H,I,r,h⟩ hd
theorem Hk {u:zO}{pos:Pos} (c:Gl X x) (hm:X.mg x=zB) (d:yB x=zA u) (r:zx v u) (e:x ≠ "__name__" := by decide) (hd:(x == ("__debug__" : Str))=zP:=by decide):PE X (.Name x pos) (tC v) :=
 λ_ _ _ H _ I h=>KZ I c hm d ⟨v,H,I,r,h⟩ e hd
variable {a b:zi}{ta tb:TE}{pos:Pos}
def PC (X:Cx) (f:CmpOp) (a b:zi) (t:TE):Prop :=
 ∀ (c:List (zN×Obj)) (s:zU) (σ:St) (H:Hp) (Q:VK),Inv X c σ H s->t σ H Q ->
  zc (za X.prog X.w) X.A (eval a X.env) (λv d=>zc (za X.prog X.w) X.A (eval b X.env) (λu e=>zc (za X.prog X.w) X.A (jt f v u) (EP X c σ Q) X.xe e) X.xe d) X.xe s
theorem BX (b:zi) {c:CmpOp} (h:c≠.In) (d:c≠.NotIn):Jt c b=zP:=by
 have e:(c == mQ)=zP:=by cases c<;>first | rfl | exact absurd rfl h
 have f:(c == GA)=zP:=by cases c<;>first | rfl | exact absurd rfl d
 cases b<;>simp[Jt,e,f]
def xr (ta:TE):TE:=λσ H Q=>ta σ H λx c=>Q (.bl (decide (x=.non))) c
def x9 (ta:TE):TE:=λσ H Q=>ta σ H λx c=>Q (.bl (!decide (x=.non))) c
theorem zx.none_iff (r:zx x v):(v == qx)=decide (x=.non):=by
 cases x with
 | non=>cases r;rfl
 | bl _=>cases r;rfl
 | int _=>obtain⟨t,rfl⟩:=r;rfl
 | str _=>obtain⟨t,rfl⟩:=r;rfl
 | byt _=>obtain⟨t,rfl⟩:=r;rfl
 | flt _=>obtain⟨t,rfl⟩:=r;rfl
 | ref _=>cases r;rfl
 | ty _=>cases r;rfl
theorem lP {j pos'} (ha:PE X a ta):PC X .Is a (.Constant .none j pos') (xr ta):=by
 intro c s σ H Q I h;refine jC (ha c s σ H _ I h) λv s1 x d e f g=>?_;exact wm (is_none_gen ⟨.bl _,d,e,by rw[f.none_iff];rfl,g⟩)
theorem gP {j pos'} (ha:PE X a ta):PC X .IsNot a (.Constant .none j pos') (x9 ta):=by
 intro c s σ H Q I h;refine jC (ha c s σ H _ I h) λv s1 x d e f g=>?_;exact wm (isnot_none_gen ⟨.bl _,d,e,by rw[f.none_iff];rfl,g⟩)
def tB (t:TE):TT:=λσ H Q=>t σ H λx d=>∃ c,x=.bl c/\Q c d
theorem D5 (h:PC X g a b t) (f:Jt g b=zP:=by first | exact BX _ (by decide) (by decide) | rfl):PT X (.Compare a [g] [b] pos) (tB t):=by
 intro e s σ H Q I hw;refine pj (thn (h e s σ H _ I hw) λv s1 f=>thn f λu s2 i=>thn i λc s3 ⟨x,j,l,m,n⟩=>?_) f;obtain⟨d,rfl,q⟩:=n;cases m;exact Jn ⟨j,l,q⟩
variable {tA tB':TT}{jo:List zi}
def tOr (t u:TT):TT:=λσ H Q=>t σ H λc d=>if c=zC then Q zC d else u σ d Q
def q0 (t:TT):TT:=λσ H Q=>t σ H λc d=>Q (!c) d
theorem HU (ha:PT X a tA):PW X (.BoolOp .Or [a] pos) tA:=by
 intro f d s σ H Q I h;refine isTrue_or (thn (ha d s σ H Q I h) λc s1 e=>?_);cases c with
 | false=>exact isTrue_or_nil e
 | true=>exact e
theorem OB (ha:PT X a tA) (i:PW X (.BoolOp .Or (b::jo) pos) tB'):PW X (.BoolOp .Or (a::b::jo) pos) (tOr tA tB'):=by
 intro j d s σ H Q I h;refine isTrue_or (thn (ha d s σ H _ I h) λc s1 ⟨e,f,g⟩=>?_);cases c with
 | true=>exact⟨e,f,g⟩
 | false=>exact i j d s1 σ e Q f g
theorem gp (ha:PT X a tA):PT X (.UnaryOp .Not a pos) (q0 tA):=by
 intro d s σ H Q I h;exact isTrue_not (ha d s σ H (λc e=>Q (!c) e) I h)
def Dk (ta tb:TE):TE:=λσ H Q=>ta σ H λx d=>∃ c,x=.bl c/\if c=zC then tb σ d Q else Q (.bl zP) d
def Gj (ta tb:TE):TE:=λσ H Q=>ta σ H λx d=>∃ c,x=.bl c/\if c=zC then Q (.bl zC) d else tb σ d Q
theorem Lg {d} (h:PE X a t):PE X (.BoolOp d [a] pos) t:=λc s σ H Q I hw=>BoolOp_one (h c s σ H Q I hw)
theorem lV (ha:PE X a ta) (i:PE X (.BoolOp .And (b::jo) pos) tb):PE X (.BoolOp .And (a::b::jo) pos) (Dk ta tb):=by
 intro d s σ H Q I h;refine BoolOp_and (jC (ha d s σ H _ I h) λv s1 x f g j e=>?_);obtain⟨c,rfl,e⟩:=e;cases j;refine Jn ?_;cases c with
 | true=>exact i d s1 σ f Q g e
 | false=>exact⟨.bl zP,f,g,rfl,e⟩
theorem pO (ha:PE X a ta) (i:PE X (.BoolOp .Or (b::jo) pos) tb):PE X (.BoolOp .Or (a::b::jo) pos) (Gj ta tb):=by
 intro d s σ H Q I h;refine BoolOp_or (jC (ha d s σ H _ I h) λv s1 x f g j e=>?_);obtain⟨c,rfl,e⟩:=e;cases j;refine Jn ?_;cases c with
 | false=>exact i d s1 σ f Q g e
 | true=>exact⟨.bl zC,f,g,rfl,e⟩
end
def SqL (K:zV) (H:Hp) (a:zN) (xs:List V):Prop :=
 Rd H a (.lst xs) \/
  ∃ (o:Obj) (c:Array zO) (n:Nat),K.lookup a=zA o/\o.cls=.type "list" /\ o.dict=zB/\o.data=.seq c n/\c.size <= z5/\z6 xs c.toList
def SqT (K:zV) (H:Hp) (a:zN) (xs:List V):Prop :=
 Rd H a (.tup xs) \/
  ∃ (o:Obj) (c:Array zO) (n:Nat),K.lookup a=zA o/\o.cls=.type "tuple" /\ o.data=.seq c n/\c.size <= z5/\z6 xs c.toList
noncomputable def mf:zO->Option V
 | .none=>zA .non
 | .bool b=>zA (.bl b)
 | .int i _=>zA (.int i)
 | .str x _=>zA (.str x)
 | .bytes b _=>zA (.byt b)
 | .float b _=>zA (.flt b)
 | .ref a=>zA (.ref a)
 | .type n=>zA (.ty n)
 | _=>zB
theorem zx.abs (r:zx x u):mf u=zA x:=by
 cases x with
 | non=>cases r;rfl
 | bl _=>cases r;rfl
 | int _=>obtain⟨t,rfl⟩:=r;rfl
 | str _=>obtain⟨t,rfl⟩:=r;rfl
 | byt _=>obtain⟨t,rfl⟩:=r;rfl
 | flt _=>obtain⟨t,rfl⟩:=r;rfl
 | ref _=>cases r;rfl
 | ty _=>cases r;rfl
theorem zx.inj {y:V} (r:zx x u) (q:zx y u):x=y:=QA (r.abs.symm.trans q.abs)
theorem z6.inj:∀ {xs c:List V}{us:List zO},z6 xs us->z6 c us->xs=c
 | _,_,_,.nil,.nil=>rfl
 | _,_,_,.cons r t,.cons d t'=>by rw[r.inj d,z6.inj t t']
section
variable {X:Cx}{pins:List (zN×Obj)}{σ:St}{H:Hp}{s:zU}{a:zN}{xs ys:List V}
theorem SqL.of {K:zV} (h:H a=zA (.lst xs)):SqL K H a xs:=.inl (.inl h)
theorem SqT.of {K:zV} (h:H a=zA (.tup xs)):SqT K H a xs:=.inl (.inl h)
theorem Inv.list (I:Inv X pins σ H s) (h:SqL X.K H a xs):∃ c:List zO,z6 xs c/\PlainL s.heap a c.toArray/\xs.length <= z5:=by
 rcases h with h | ⟨o,c,n,d,f,hd,g,i,r⟩
 ·obtain⟨z,c,n,r,e⟩:=h.ok I.hok;exact⟨c,r,⟨_,n,e,rfl,rfl,rfl⟩,z⟩
 ·refine⟨c.toList,r,⟨o,n,I.kIn a o d,f,hd,by simpa using g⟩,?_⟩;have e:=r.length;simp only[qH] at e
  lia
theorem Inv.tuple (I:Inv X pins σ H s) (h:SqT X.K H a xs):∃ c:List zO,z6 xs c/\IsTup s.heap a c.toArray/\xs.length <= z5:=by
 rcases h with h | ⟨o,c,n,d,f,g,i,r⟩
 ·obtain⟨z,c,r,p⟩:=h.ok I.hok;exact⟨c,r,p,z⟩
 ·refine⟨c.toList,r,⟨o,I.kIn a o d,f,n,by simpa using g⟩,?_⟩;have e:=r.length;simp only[qH] at e
  lia
theorem Inv.list_inj (I:Inv X pins σ H s) (h:SqL X.K H a xs) (h':SqL X.K H a ys):xs=ys:=by
 obtain⟨c,r,⟨o,n,e,_,_,d⟩,_⟩:=I.list h;obtain⟨its',g,⟨j,l,f,_,_,d'⟩,_⟩:=I.list h';rw[e] at f;cases f;rw[d] at d';injection d' with i _;have:c=its':=by simpa using congrArg EB i
 subst this;exact r.inj g
theorem Inv.tuple_inj (I:Inv X pins σ H s) (h:SqT X.K H a xs) (h':SqT X.K H a ys):xs=ys:=by
 obtain⟨c,r,⟨o,e,_,n,d⟩,_⟩:=I.tuple h;obtain⟨its',g,⟨j,f,_,l,d'⟩,_⟩:=I.tuple h';rw[e] at f;cases f;rw[d] at d';injection d' with i _;have:c=its':=by simpa using congrArg EB i
 subst this;exact r.inj g
end
noncomputable abbrev Cx.wish (X:Cx) (E:zO->zU->Prop):Cx:={ X with xe:=E }
abbrev Cx.nox (X:Cx):Cx:=X.wish λ_ _=>False
theorem Cx.Ok.wish {X:Cx} (ok:X.Ok) (E:zO->zU->Prop):(X.wish E).Ok :=
 ⟨ok.mod,ok.kind,ok.glob,ok.blt,ok.above,ok.inj,ok.has,ok.cab,ok.hd,ok.frames,ok.stk,ok.exf,ok.bs,ok.bsz,ok.noex,ok.exfs,ok.funs,ok.frf⟩
theorem Cx.Ok.unwish {X:Cx}{E:zO->zU->Prop} (ok:(X.wish E).Ok):X.Ok :=
 ⟨ok.mod,ok.kind,ok.glob,ok.blt,ok.above,ok.inj,ok.has,ok.cab,ok.hd,ok.frames,ok.stk,ok.exf,ok.bs,ok.bsz,ok.noex,ok.exfs,ok.funs,ok.frf⟩
section
variable {X:Cx}{pins:List (zN×Obj)}{σ:St}{H:Hp}{s:zU}{E:zO->zU->Prop}
theorem Inv.wish (I:Inv X pins σ H s) (E:zO->zU->Prop):Inv (X.wish E) pins σ H s:=⟨I.ok.wish E,I.os,I.bare,I.base,I.loc,I.cell,I.free,I.freeC,I.pin,I.hok,I.len,I.tk⟩
theorem Inv.unwish (I:Inv (X.wish E) pins σ H s):Inv X pins σ H s:=⟨I.ok.unwish,I.os,I.bare,I.base,I.loc,I.cell,I.free,I.freeC,I.pin,I.hok,I.len,I.tk⟩
theorem SP.unwish {D:ZU} (h:SP (X.wish E) pins D f s'):SP X pins D f s':=by
 cases f with
 | next=>obtain⟨c,d,I,q⟩:=h;exact⟨c,d,I.unwish,q⟩
 | brk=>obtain⟨c,d,I,q⟩:=h;exact⟨c,d,I.unwish,q⟩
 | cont=>obtain⟨c,d,I,q⟩:=h;exact⟨c,d,I.unwish,q⟩
 | ret u=>obtain⟨v,c,d,I,r,q⟩:=h;exact⟨v,c,d,I.unwish,r,q⟩
theorem PSs.nox {st:List zo} (h:PSs X.nox st t):PSs X st t:=λpins s σ H D I hw =>
 ZD (h pins s σ H D (I.wish _) hw) (λ_ _ q=>q.unwish) λ_ _ z=>jZ z
end
section
variable {X:Cx}{st:zo}{jo:List zo}{t u:TS}{e:zi}{te:TE}{pos:Pos}
def fL:TS:=λD σ H=>D.nx σ H
def iY (t u:TS):TS:=λD σ H=>t { D with nx:=u D } σ H
theorem Oj:PSs X [] fL:=λ_ _ σ H _ I h=>Kt ⟨σ,H,I,h⟩
theorem pR (g:PS X st t) (i:PSs X jo u):PSs X (st::jo) (iY t u):=by
 intro c s σ H D I h;refine Dr (thn (g c s σ H { D with nx:=u D } I h) λf s1 q=>?_);cases f with
 | next =>
  obtain⟨d,j,l,q⟩:=q;exact i c s1 d j D l q
 | ret v=>exact q
 | brk=>exact q
 | cont=>exact q
theorem fU (d:PS X st t):PSs X [st] t:=by
 intro c s σ H D I h;refine Dr (thn (d c s σ H D I h) λf s1 q=>?_);cases f with
 | next=>exact Kt q
 | ret v=>exact q
 | brk=>exact q
 | cont=>exact q
def Gs:TS:=λD σ H=>D.ct σ H
theorem il:PS X (.Continue pos) Gs:=λ_ _ σ H _ I h=>wpAny_Continue ⟨σ,H,I,h⟩
theorem Inv.quiet (I:Inv X c σ H s):interactive X.env=zP:=by simp[interactive,I.ok.kind]
def gD (te:TE):TS:=λD σ H=>te σ H λ_ c=>D.nx σ c
theorem GG (d:PE X e te) (f:xR e zB pos.line X.env=pure zP:=by rfl):PS X (.Expr e pos) (gD te):=by
 intro c s σ H D I h;exact wpAny_Expr_any (jC (d c s σ H _ I h) λv s1 x g i l j=>⟨σ,g,i,j⟩) I.quiet f
def di (te:TE):TS:=λD σ H=>te σ H D.rt
theorem L1 (d:PE X e te):PS X (.Return (zA e) pos) (di te):=by
 intro c s σ H D I h;exact Hr (jC (d c s σ H _ I h) λv s1 x f g i j=>⟨x,σ,f,g,i,j⟩)
def OD:TS:=λD _ H=>D.rt .non H
theorem Ft:PS X (.Return zB pos) OD:=λ_ _ σ H _ I h=>wpAny_Return_none ⟨.non,σ,H,I,rfl,h⟩
def FY (c:TT) (t u:TS):TS:=λD σ H=>c σ H λb d=>if b=zC then t D σ d else u D σ d
theorem mH {a b:List zo} (l:PT X c m) (ha:PSs X a t) (n:PSs X b u):PS X (.If c a b pos) (FY m t u):=by
 intro f s σ H D I h;refine wpAny_If (thn (l f s σ H _ I h) λd s1 ⟨g,i,j⟩=>?_);cases d with
 | true=>exact ha f s1 σ g D i j
 | false=>exact n f s1 σ g D i j
def OL:TS:=λ_ _ _=>False
theorem mR:PS X st OL:=λ_ _ _ _ _ _ h=>h.elim
end
abbrev TG:=V->St->Hp->(St->Hp->Prop)->Prop
abbrev TGs:=List V->St->Hp->(St->Hp->Prop)->Prop
def PG (X:Cx) (c:zi) (t:TG):Prop :=
 ∀ (d:List (zN×Obj)) (s:zU) (σ:St) (H:Hp) (v:V) (u:zO) (Q:St->Hp->Prop),Inv X d σ H s->zx v u->t v σ H Q ->
  zc (za X.prog X.w) X.A (kn c X.env u) (λ_ s'=>∃ e f,Inv X d e f s'/\Q e f) X.xe s
def PGs (X:Cx) (ts:List zi) (t:TGs):Prop :=
 ∀ (c:List (zN×Obj)) (s:zU) (σ:St) (H:Hp) (vs:List V) (us:List zO) (Q:St->Hp->Prop),Inv X c σ H s->z6 vs us->t vs σ H Q ->
  zc (za X.prog X.w) X.A (assignInOrder ((J9 ts X.env).map (·.2)) us) (λ_ s'=>∃ d e,Inv X c d e s'/\Q d e) X.xe s
abbrev CY:=V->V->V->Hp->(Hp->Prop)->Prop
def da (X:Cx) (t:CY):Prop :=
 ∀ (c:List (zN×Obj)) (s:zU) (σ:St) (H:Hp) (o i v:V) (d e u:zO) (Q:Hp->Prop),Inv X c σ H s->zx o d->zx i e->zx v u->t o i v H Q ->
  zc (za X.prog X.w) X.A (V7 d e u) (λ_ s'=>∃ f,Inv X c σ f s'/\Q f) X.xe s
section
variable {X:Cx}{pos:Pos}
def jL (i:Nat):TG:=λv σ H Q=>Q (σ.set i (zA v)) H
theorem nv {i:Nat}{x:Str} (d:X.N.Nodup) (hi:X.N[i]? = zA x) (hx:Loc X.env.scope x) (e:X.fn x=zC\/X.env.scope.names.lookup x=zA .local:=by first | exact .inl rfl | exact .inr rfl | assumption):PG X (.Name x pos) (jL i):=by
 intro c s σ H v u Q I r h;exact wpAny_assign_Name (Cc I d hi hx r (λs' f=>⟨_,H,f,h⟩) e)
noncomputable def Zf:TGs:=λvs σ H Q=>vs=[]/\Q σ H
noncomputable def qq (t:TG) (u:TGs):TGs:=λvs σ H Q=>∃ v r,vs=v::r/\t v σ H λc d=>u r c d Q
theorem Mc:PGs X [] Zf:=by
 intro c s σ H vs us Q I r h;obtain⟨e,h⟩:=h;subst e;cases r;exact assignInOrder_nil ⟨σ,H,I,h⟩
theorem XZ (f:PG X e t) (g:PGs X es u)
  (i:(J9 (e::es) X.env).map (·.2)=kn e X.env::(J9 es X.env).map (·.2):=by rfl):PGs X (e::es) (qq t u):=by
 intro c s σ H vs us Q I r h;obtain⟨v,p,j,h⟩:=h;subst j;cases r with
 | cons r l =>
  rw[i];refine assignInOrder_cons (thn (f c s σ H _ _ _ I r h) λ_ s1 ⟨d,m,n,o⟩=>?_);exact g c s1 d m _ _ Q n l o
def Zo (K:zV) (n:Nat) (t:TGs):TG:=λv σ H Q=>∃ a xs,v=.ref a/\SqT K H a xs/\xs.length=n/\t xs σ H Q
theorem LR {k:Nat}{n:Nat} (g:X.calm=zC) (h:PGs X es t)
  (i:(J9 es X.env).length=n:=by rfl) (d:(J9 es X.env).findIdx? (·.1)=zB:=by rfl):PG X (.Tuple es k pos) (Zo X.K n t):=by
 intro c s σ H v u Q I r hw;obtain⟨a,xs,j,l,m,hw⟩:=hw;subst j;cases r;obtain⟨p,f,q,y⟩:=I.tuple l;refine assign_Tuple_tuple (I.ok.hd g) q (by simp[i,<- m,f.length]) d λh' hx=>?_;have x:Inv X c σ H { s with heap:=h' }:=I.kept (t':=s.toks) λb o e=>hx b o (je (jM e)) e;exact h c _ σ H xs _ Q x (by simpa using f) hw
def gO (to ti:TE) (t:CY):TG:=λv σ H Q=>to σ H λo c=>ti σ c λi d=>t o i v d λe=>Q σ e
theorem NS {to:TE} (f:PE X o to) (hi:PE X i ti) (g:da X t)
  (ha:∀ v,kn (.Subscript o i pos) X.env v=(do
   let d <- holding [v] (eval o X.env)
   let e <- holding [v,d] (eval i X.env)
   Qh pos
   holding [v,d,e] (V7 d e v)
   release [v,d,e] []):=by intro _;rfl):PG X (.Subscript o i pos) (gO to ti t):=by
 intro c s σ H v u Q I r h;rw[ha];refine zw (QV (jC (f c s σ H _ I h) λd s1 x j l m n=>?_));refine zw (QV (jC (hi c s1 σ j _ l n) λe s2 y p q z A=>?_));refine zw (Xo (zw (QV (thn (g c s2 σ p x y v d e u _ q m z r A) λ_ s3 ⟨B,C,E⟩=>?_))));exact wpAny_release ⟨σ,B,C,E⟩
def dW (te:TE) (g:TG):TS:=λD σ H=>te σ H λx c=>g x σ c D.nx
theorem h8 (d:PE X e te) (f:PG X tg g) (i:dN [tg] e pos.line X.env=pure zP:=by rfl) (hw:eE [tg] e X.env=pure zB:=by rfl)
  (j:(J9 [tg] X.env).map (·.2)=[kn tg X.env]:=by rfl):PS X (.Assign [tg] e pos) (dW te g):=by
 intro c s σ H D I h;refine wpAny_Assign_stores (jC (d c s σ H _ I h) λv s1 x l m n o=>?_) i hw;rw[j];exact thn (f c s1 σ l x v _ m n o) λ_ s2 q=>q
theorem NJ {i:Nat}{x:Str}{pos':Pos} (d:X.N.Nodup) (hi:X.N[i]? = zA x) (hx:Loc X.env.scope x) (f:PE X e te) (g:xR e (zA (.Name x pos')) pos.line X.env=pure zP:=by rfl) (j:X.fn x=zC\/X.env.scope.names.lookup x=zA .local:=by first | exact .inl rfl | exact .inr rfl | assumption) :
  PS X (.Assign [.Name x pos'] e pos) (dW te (jL i)):=by
 intro c s σ H D I h;refine wpAny_Assign_Name (jC (f c s σ H _ I h) λv s1 y l m n o=>?_) g;exact Cc m d hi hx n (λs2 p=>⟨_,l,p,o⟩) j
end
section
variable {X:Cx}{pos:Pos}
def G9 (c:TT) (tb:TS):TS:=λD σ H=>∃ W:Nat->St->Hp->Prop,(∃ m,W m σ H)/\∀ m σ H,W m σ H ->
 c σ H λb e=>if b=zC then ∃ N:St->Hp->Prop,(∀ d f,N d f->∃ g,g < m/\W g d f)/\tb { D with nx:=N,ct:=N,bk:=D.nx } σ e else D.nx σ e
theorem HK (x:uJ (za X.prog X.w) X.A X.env X.xe) (G:PT X c J) (L:PSs X i tb):PS X (.While c i [] pos) (G9 J tb):=by
 intro d s σ H D I h;obtain⟨W,⟨M,Q⟩,j⟩:=h;refine wpAny_While (codeAny_whileLoop (λn s'=>∃ l y,Inv X d l y s'/\W n l y) ?_ M ⟨σ,H,I,Q⟩)
 rintro n s1 ⟨g,z,U,Y⟩
 refine KJ x (thn (G d s1 g z _ U (j n g z Y)) λb s2 ⟨B,C,o⟩=>?_);cases b with
 | true =>
  obtain⟨N,E,o⟩:=o;rw[if_pos rfl];refine KJ x (thn (L d s2 g B _ C o) λf s3 p=>?_);cases f with
  | next =>
   obtain⟨e,m,q,r⟩:=p;obtain⟨t,hm,u⟩:=E e m r;exact⟨t,hm,e,m,q,u⟩
  | cont =>
   obtain⟨e,m,q,r⟩:=p;obtain⟨t,hm,u⟩:=E e m r;exact⟨t,hm,e,m,q,u⟩
  | brk=>exact p
  | ret v=>exact p
 | false =>
  rw[if_neg qU];exact Kt ⟨g,B,C,o⟩
end
structure It where
 go:Nat->Hp->Prop
 yld:Nat->Hp->V->Hp->Prop
 stop:Nat->Hp->Prop
def QG (X:Cx) (d:List (zN×Obj)) (H:Hp) (b:zN):Prop :=
 H b=zB/\b≠X.env.locals/\b∉X.fs/\(b∈X.ex\/X.s₀.heap.objs.size <= b)/\(∀ x c,X.env.cells.lookup x=zA c->c≠b)/\∀ p∈X.pn++d,p.1≠b
theorem Inv.fpOk {X:Cx}{g:Hp}{b:zN} (I:Inv X d σ H s) (f:s.heap.objs.size <= b) (h:g b=zB):QG X d g b:=by
 refine⟨h,QZ (j6 I.lt f),I.nofs f,.inr (qe I.sz f),λx c e z=>?_,λp i z=>?_⟩
 ·obtain⟨v,q⟩:=I.cell x c e;exact absurd (j6 q.lt (by rw[z];exact f)) (Zq _)
 ·exact absurd (j6 (jM (I.pin p i).1) (by rw[z];exact f)) (Zq _)
structure JF (P:jF) (w:z7) (K:zV) (tg:zi) (J:It) (fp:List zN) (it:zN) (tn:Nat->zg->Prop):Prop where
 mem:it∈fp
 obj:∀ i h,tn i h->∀ b∈fp,∃ o,h.get? b=zA o/\∀ v,o.data≠.cell v
 keep:∀ i h h',tn i h->(∀ b∈fp,∀ o,h.get? b=zA o->h'.get? b=zA o)->tn i h'
 item:∀ (X:Cx),X.prog=P->X.w=w->X.K=K->X.calm=zC->∀ (i:Nat) (pins:List (zN×Obj)) (s:zU) (σ:St) (H:Hp) (E:zO->zU->Prop),Inv X pins σ H s->(∀ b∈fp,QG X pins H b)->tn i s.heap->J.go i H ->
  zc (za P w) X.A (u2 (.ref it)) (λr s1=>∃ u,r=zA u /\
   zc (za P w) X.A (EG tg (.ref it) u) (λ_ s2=>∃ x H',Inv X pins σ H' s2/\zx x u/\J.yld i H x H'/\tn (i+1) s2.heap/\∀ b∈fp,H' b=zB) E s1) E s
 done:∀ (X:Cx),X.prog=P->X.w=w->X.K=K->X.calm=zC->∀ (i:Nat) (pins:List (zN×Obj)) (s:zU) (σ:St) (H:Hp) (E:zO->zU->Prop),Inv X pins σ H s->(∀ b∈fp,QG X pins H b)->tn i s.heap->J.stop i H ->
  zc (za P w) X.A (u2 (.ref it)) (λr s1=>r=zB/\Inv X pins σ H s1) E s
 self:∀ (A:jf) (i:Nat) (s:zU) (Q:zO->zU->Prop) (E:zO->zU->Prop),tn i s.heap->Q (.ref it) s->zc (za P w) A (pyIter (.ref it)) Q E s
abbrev TI:=St->Hp->(It->Hp->Prop)->Prop
def PIE (X:Cx) (c:List (zN×Obj)) (σ:St) (tg:zi) (R:It->Hp->Prop) (d:zO) (s2:zU):Prop :=
 ∃ (it:zN) (f:List zN) (g:Nat->zg->Prop) (J:It) (e:Hp),d=.ref it/\Inv X c σ e s2/\JF X.prog X.w X.K tg J f it g/\g 0 s2.heap/\(∀ b∈f,QG X c e b)/\R J e
def PI (X:Cx) (tg qB:zi) (d:TI):Prop :=
 ∀ (c:List (zN×Obj)) (s:zU) (σ:St) (H:Hp) (R:It->Hp->Prop),Inv X c σ H s->d σ H R ->
  zc (za X.prog X.w) X.A (eval qB X.env) (λv s1=>zc (za X.prog X.w) X.A (pyIter v) (PIE X c σ tg R) X.xe s1) X.xe s
theorem Xu {M:Q9}{s:zU}{it:zN}{o:Obj}{n:String}{vs:Array zO}{Q:Unit->zU->Prop} (d:s.heap.get? it=zA o) (e:o.cls=.type n) (hd:o.data=.fields vs)
  (f:["enumerate","zip","dict_itemiterator","dict_reverseitemiterator","odict_iterator","itertools.zip_longest","itertools.pairwise"].contains n=zP) (c:Q () s):zc M A (EG tg (.ref it) u) Q E s:=by
 unfold EG;cases tg<;>first
  | exact jx c
  | (cases u<;>first
      | exact jx c
      | (refine zw (wpAny_load d ?_)
         rw[e,hd];show zc M A (if (["enumerate","zip","dict_itemiterator","dict_reverseitemiterator","odict_iterator","itertools.zip_longest","itertools.pairwise"].contains n && vs[0]? == zA (ZF _))=zC then _ else _) Q E s;rw[if_neg (by intro h;rw[f,g9] at h;cases h)];exact jx c))
noncomputable def Itl (K:zV) (a:zN):It :=
 ⟨λi H=>∃ xs x,SqL K H a xs/\xs[i]? = zA x,λi H x c=>c=H/\∀ xs,SqL K H a xs->xs[i]? = zA x,λi H=>∃ xs,SqL K H a xs/\xs.length <= i⟩
noncomputable def Itt (K:zV) (a:zN):It :=
 ⟨λi H=>∃ xs x,SqT K H a xs/\xs[i]? = zA x,λi H x c=>c=H/\∀ xs,SqT K H a xs->xs[i]? = zA x,λi H=>∃ xs,SqT K H a xs/\xs.length <= i⟩
noncomputable def Itr (lo:Int) (n:Nat):It:=⟨λi _=>i < n,λi H x c=>c=H/\x=.int (lo+i),λi _=>n <= i⟩
theorem Hj {P:jF}{w:z7}{K:zV} (a it:zN):JF P w K tg (Itl K a) [it] it (λi h=>h.IsListIter it a i) where
 mem:=by simp
 obj:=λi h st b g=>by
  have e:b=it:=by simpa using g
  subst e;obtain⟨o,e,c,d⟩:=st;exact⟨o,e,λv z=>by rw[d] at z;cases z⟩
 keep:=λi h h' st k=>st.at λo e=>k it (by simp) o e
 item:=by
  intro X n hw q L i f s σ H E I l st r;subst n hw q;obtain⟨xs,x,m,hx⟩:=r;obtain⟨t,y,p,M⟩:=I.list m;obtain⟨u,N,Q⟩:=y.get hx;obtain⟨A,B,U,C,G,J⟩:=l it (by simp);refine wpAny_pyNext_list_item st p.isList (x:=u) (by simpa using N) λh' j sb=>?_;have Y:Inv X f σ H { s with heap:=h' }:=I.turned (t':=s.toks) (λb o g e=>(sb.2 b g).trans e) A B C G J;obtain⟨o,e,c,d⟩:=id j;exact⟨u,rfl,Xu (s:={ s with heap:=h' }) e c d (by decide) ⟨x,H,Y,Q,⟨rfl,λys hy=>by rw[I.list_inj hy m];exact hx⟩,j,λb g=>(l b g).1⟩⟩
 done:=by
  intro X n hw q L i f s σ H E I l st r;subst n hw q;obtain⟨xs,m,hx⟩:=r;obtain⟨t,y,p,M⟩:=I.list m;obtain⟨A,B,U,C,G,J⟩:=l it (by simp);have hl:=y.length;exact wpAny_pyNext_list_end (I.ok.hd L) st p.isList (by simp;lia) λh' eb=>⟨rfl,I.turned (t':=s.toks) (λb o g e=>eb b o g e) A B C G J⟩
 self:=λ_ _ _ _ _ st h=>wpAny_pyIter_listiter st h
theorem FK {P:jF}{w:z7}{K:zV} (a it:zN):JF P w K tg (Itt K a) [it] it (λi h=>h.IsTupleIter it a i) where
 mem:=by simp
 obj:=λi h st b g=>by
  have e:b=it:=by simpa using g
  subst e;obtain⟨o,e,c,d⟩:=st;exact⟨o,e,λv z=>by rw[d] at z;cases z⟩
 keep:=λi h h' st k=>st.at λo e=>k it (by simp) o e
 item:=by
  intro X q hw r L i f s σ H E I m st t;subst q hw r;obtain⟨xs,x,n,hx⟩:=t;obtain⟨j,y,p,M⟩:=I.tuple n;obtain⟨u,N,Q⟩:=y.get hx;obtain⟨A,B,U,C,G,J⟩:=m it (by simp);refine wpAny_pyNext_tuple_item st (show s.heap.IsTuple a j.toArray from p) (x:=u) (by simpa using N) λh' l sb=>?_;have Y:Inv X f σ H { s with heap:=h' }:=I.turned (t':=s.toks) (λb o g e=>(sb.2 b g).trans e) A B C G J;obtain⟨o,e,c,d⟩:=id l;exact⟨u,rfl,Xu (s:={ s with heap:=h' }) e c d (by decide) ⟨x,H,Y,Q,⟨rfl,λys hy=>by rw[I.tuple_inj hy n];exact hx⟩,l,λb g=>(m b g).1⟩⟩
 done:=by
  intro X q hw r L i f s σ H E I m st t;subst q hw r;obtain⟨xs,n,hx⟩:=t;obtain⟨j,y,p,M⟩:=I.tuple n;obtain⟨A,B,U,C,G,J⟩:=m it (by simp);have hl:=y.length;exact wpAny_pyNext_tuple_end (I.ok.hd L) st (show s.heap.IsTuple a j.toArray from p) (by simp;lia) λh' eb=>⟨rfl,I.turned (t':=s.toks) (λb o g e=>eb b o g e) A B C G J⟩
 self:=λ_ _ _ _ _ st h=>wpAny_pyIter_tupleiter st h
theorem nY {P:jF}{w:z7}{K:zV} (it:zN) (lo:Int) (n:Nat):JF P w K tg (Itr lo n) [it] it (λi h=>IsRangeIter h it (lo+(i:Nat) * 1) ((n:Int) - (i:Nat)) 1) where
 mem:=by simp
 obj:=λi h st b d=>by
  have e:b=it:=by simpa using d
  subst e;exact⟨_,st,λv z=>by
   have A:NK _=hX v:=z;cases A⟩
 keep:=λi h h' st k=>k it (by simp) _ st
 item:=by
  intro X j hw l m i c s σ H E I g st p;subst j hw l;obtain⟨q,r,B,u,x,y⟩:=g it (by simp);have W:=Walks.range (prog:=X.prog) (w:=X.w) (I.ok.hd m) it lo 1 n;refine ZL (n:=1) I.tk (W.item i s _ _ p st λv h' tk C f G J=>?_);obtain⟨t,rfl⟩:=C;have L:Inv X c σ H { s with heap:=h',toks:=tk }:=I.turned (λb o d e=>G b o (by simpa using d) e) q r u x y;refine⟨_,rfl,Xu (s:={ s with heap:=h',toks:=tk }) (n := "range_iterator") f rfl rfl (by decide) ⟨.int (lo+i),H,L,⟨t,?_⟩,⟨rfl,rfl⟩,f,λb d=>(g b d).1⟩⟩;rw[Int.mul_one]
 done:=by
  intro X j hw l m i c s σ H E I g st p;subst j hw l;obtain⟨q,r,B,u,x,y⟩:=g it (by simp);exact wpAny_pyNext_range_end (I.ok.hd m) st (by have:n <= i:=p;lia) λh' M=>⟨rfl,I.turned (t':=s.toks) (λb o d e=>M b o d e) q r u x y⟩
 self:=λ_ _ _ _ _ st h=>wpAny_pyIter_rangeiter st h
section
variable {X:Cx}{tg:zi}
def gE (K:zV) (d:TE):TI:=λσ H R=>d σ H λx c=>∃ a,x=.ref a/\(∃ xs,SqL K c a xs)/\R (Itl K a) c
def MP (K:zV) (d:TE):TI:=λσ H R=>d σ H λx c=>∃ a,x=.ref a/\(∃ xs,SqT K c a xs)/\R (Itt K a) c
theorem fZ (f:PE X l g):PI X tg l (gE X.K g):=by
 intro c s σ H R I h;refine jC (f c s σ H _ I h) λv s1 x i d j m=>?_;obtain⟨a,e,⟨xs,n⟩,q⟩:=m;subst e;cases j;obtain⟨r,u,p,y⟩:=d.list n;refine vS p.isList ?_;refine⟨s1.heap.objs.size,[s1.heap.objs.size],_,_,i,rfl,d.kept (t':=s1.toks) λb o e=>j0 _ e,Hj a _,⟨_,yV _ rfl,rfl,rfl⟩,λb t=>?_,q⟩;have e:b=s1.heap.objs.size:=by simpa using t
 subst e;exact d.fpOk (jB _) (d.hok.fresh (jB _))
theorem NQ (g:PE X l i):PI X tg l (MP X.K i):=by
 intro c s σ H R I h;refine jC (g c s σ H _ I h) λv s1 x j d m n=>?_;obtain⟨a,e,⟨xs,r⟩,q⟩:=n;subst e;cases m;obtain⟨f,u,p,y⟩:=d.tuple r;refine wpAny_pyIter_tuple (show s1.heap.IsTuple a f.toArray from p) ?_;refine⟨s1.heap.objs.size,[s1.heap.objs.size],_,_,j,rfl,d.kept (t':=s1.toks) λb o e=>j0 _ e,FK a _,⟨_,yV _ rfl,rfl,rfl⟩,λb t=>?_,q⟩;have e:b=s1.heap.objs.size:=by simpa using t
 subst e;exact d.fpOk (jB _) (d.hok.fresh (jB _))
theorem fA {R:It->Hp->Prop}{lo hi:Int}{t u v:Tok}{tk:Nat} (I:Inv X c σ H s) (f:-(2 ^ 62) <= lo) (g:lo < 2 ^ 62) (h:-(2 ^ 62) <= hi) (i:hi < 2 ^ 62)
  (q:R (Itr lo (hi - lo).toNat) H) (j:0 < tk:=by first | exact yt _ | assumption | exact Inv.tk (by assumption) | lia):zc (za X.prog X.w) X.A (pyIter (.ref s.heap.objs.size)) (PIE X c σ tg R) E { s with heap:=s.heap.push { cls:=.type "range",data:=.fields #[.int lo t,.int hi u,.int 1 v] },toks:=tk }:=by
 refine wpAny_pyIter_range (IsRange.new ..) (small_one f g h i) ?_;have d:Inv X c σ H { s with heap:=s.heap.push { cls:=.type "range",data:=.fields #[.int lo t,.int hi u,.int 1 v] },toks:=tk }:=I.kept λb o e=>j0 _ e;refine⟨(s.heap.push { cls:=.type "range",data:=.fields #[.int lo t,.int hi u,.int 1 v] }).objs.size,[(s.heap.push { cls:=.type "range",data:=.fields #[.int lo t,.int hi u,.int 1 v] }).objs.size],_,_,H,rfl,
  d.kept (t':=tk) λb o e=>j0 _ e,nY _ lo (hi - lo).toNat,?_,λb l=>?_,q⟩
 ·have m:lo+((0:Nat):Int) * 1=lo:=by simp
  have n:(((hi - lo).toNat:Nat):Int) - ((0:Nat):Int)=rg lo hi 1:=by rw[rangeSize_one];split<;>lia
  show IsRangeIter _ _ (lo+((0:Nat):Int) * 1) ((((hi - lo).toNat:Nat):Int) - ((0:Nat):Int)) 1;rw[m,n];exact yV _ rfl
 ·have e:b=(s.heap.push { cls:=.type "range",data:=.fields #[.int lo t,.int hi u,.int 1 v] }).objs.size:=by simpa using l
  subst e;exact d.fpOk (jB _) (d.hok.fresh (jB _))
def ij (c:TA):TI:=λσ H R=>c σ H λvs d=>∃ j:Int,vs=[.int j] /\ -(2 ^ 62) <= j/\j < 2 ^ 62/\R (Itr 0 j.toNat) d
def o5 (c:TA):TI:=λσ H R=>c σ H λvs d=>∃ i j:Int,vs=[.int i,.int j]/\(-(2 ^ 62) <= i/\i < 2 ^ 62 /\ -(2 ^ 62) <= j/\j < 2 ^ 62)/\R (Itr i (j - i).toNat) d
theorem Mv {a:zi}{p pos:Pos} (f:Gl X "range") (hm:X.mg "range" = zB) (ha:PA X [a] g) (i:jS [a] X.env=[(zP,eval a X.env)]:=by rfl):PI X tg (.Call (.Name "range" p) [a] [] pos) (ij g):=by
 intro c s σ H R I h;refine Call_ (KZ I f hm boot_range (ee (jC (ha pos c s σ H _ I h) λus s1 vs u l m d=>?_) i rfl));obtain⟨j,e,d,n,q⟩:=d;subst e;cases m with
 | cons r o =>
  cases o;obtain⟨t,rfl⟩:=r;exact call_range_1 (fA l (by lia) (by lia) d n (by simpa using q))
theorem ND {a b:zi}{p pos:Pos} (l:Gl X "range") (hm:X.mg "range" = zB) (ha:PA X [a,b] m) (n:jS [a,b] X.env=[(zP,eval a X.env),(zP,eval b X.env)]:=by rfl) (c:jS [b] X.env=[(zP,eval b X.env)]:=by rfl) :
  PI X tg (.Call (.Name "range" p) [a,b] [] pos) (o5 m):=by
 intro d s σ H R I h;refine Call_ (KZ I l hm boot_range (ee (jC (ha pos d s σ H _ I h) λus s1 vs A o u f=>?_) (by rw[n,c]) (by rw[c];rfl)));obtain⟨i,j,e,⟨f,v,x,y⟩,q⟩:=f;subst e;cases u with
 | cons r g =>
  cases g with
  | cons z g =>
   cases g;obtain⟨t,rfl⟩:=r;obtain⟨t',rfl⟩:=z;exact call_range_2 (fA o f v x y q)
def LI (f:TI) (g:TG) (tb:TS):TS:=λD σ H=>f σ H λJ h=>∃ W:Nat->Nat->St->Hp->Prop,(∃ m,W 0 m σ h)/\∀ i m σ H,W i m σ H ->
 (J.stop i H/\D.nx σ H)\/(J.go i H/\∃ N:St->Hp->Prop,(∀ c d,N c d->∃ e,e < m/\W (i+1) e c d)/\∀ x d,J.yld i H x d->g x σ d λσ2 j=>tb { D with nx:=N,ct:=N,bk:=D.nx } σ2 j)
noncomputable def JW (c:List zN) (h:zg):List (zN×Obj):=c.filterMap λb=>(h.get? b).map λo=>(b,o)
theorem uk {c:List zN}{h:zg}{b:zN}{o:Obj} (d:b∈c) (e:h.get? b=zA o):(b,o)∈JW c h:=Ik.mpr ⟨b,d,by rw[e];rfl⟩
theorem CG {p:zN×Obj} (c:p∈JW d h):p.1∈d/\h.get? p.1=zA p.2:=by
 obtain⟨b,f,e⟩:=Ik.mp c;cases q:h.get? b with
 | none=>rw[q] at e;cases e
 | some o =>
  rw[q] at e;have g:(b,o)=p:=QA e;subst g;exact⟨f,q⟩
theorem Inv.pinned {f:List zN} (I:Inv X c σ H s) (i:∀ b∈f,QG X c H b) (j:∀ b∈f,∃ o,s.heap.get? b=zA o/\∀ v,o.data≠.cell v):Inv X (c++JW f s.heap) σ H s :=
 I.pins_of λp l=>(Jl.mp l).elim (λz=>I.pin p (Zt _ z)) λz=>by
  obtain⟨g,e⟩:=CG z;obtain⟨m,n,q,_⟩:=i p.1 g;obtain⟨o,h,d⟩:=j p.1 g;rw[e] at h;cases h;exact⟨e,m,n,q,d⟩
theorem Inv.unpinned {c pl:List (zN×Obj)} (I:Inv X (c++pl) σ H s):Inv X c σ H s:=I.pins_of λp d=>I.pin p (Zt _ (DL _ d))
theorem DB {qB:zi}{pos:Pos} (E:uJ (za X.prog X.w) X.A X.env X.xe) (hc:X.calm=zC) (hi:PI X tg qB wi) (hg:PG X tg g) (l:PSs X G tb)
  (hs:∀ x,Kc qB X.env x=pure x:=by intro _;rfl):PS X (.For tg qB G [] pos) (LI wi g tb):=by
 intro c s σ H D I h;refine wpAny_For (thn (hi c s σ H _ I h) λv s1 h1=>thn h1 λitv s2 h2=>?_) hs;obtain⟨it,L,tn,J,H2,e,I2,T,st2,f2,W,⟨m0,w0⟩,M⟩:=h2;subst e;have p:∀ {z:Hp},(∀ b∈L,z b=zB)->∀ b∈L,QG X c z b:=λhn b l=>⟨hn b l,(f2 b l).2⟩
 refine codeAny_forLoop_any (λn s'=>∃ i q z,Inv X c q z s'/\tn i s'.heap/\(∀ b∈L,z b=zB)/\W i n q z) ?_ m0 ⟨0,σ,H2,I2,st2,λb l=>(f2 b l).1,w0⟩
 rintro n s3 ⟨i,t,Y,I3,st3,Q,w3⟩
 rcases M i n t Y w3 with ⟨stop,qn⟩ | ⟨go,N,hN,step⟩
 ·refine KJ E (thn (T.done X rfl rfl rfl hc i c s3 t Y X.xe I3 (p Q) st3 stop) λr s4 ⟨hr,I4⟩=>?_);subst hr;exact Kt ⟨t,Y,I4,qn⟩
 ·refine KJ E (thn (T.item X rfl rfl rfl hc i c s3 t Y X.xe I3 (p Q) st3 go) λr s4 ⟨u,hr,h4⟩=>?_);subst hr;refine KJ E (thn h4 λ_ s5 ⟨x,H5,I5,r5,y5,C,fr5⟩=>?_);have I5':=I5.pinned (p fr5) (T.obj _ _ C);refine KJ E (thn (hg _ s5 t H5 x u _ I5' r5 (step x H5 y5)) λ_ s6 ⟨σ6,H6,I6,q6⟩=>?_);refine KJ E (thn (l _ s6 σ6 H6 _ I6 q6) λf s7 B=>?_);have again:∀ {j:St}{H7:Hp},Inv X (c++JW L s5.heap) j H7 s7->N j H7->∃ m,m < n/\∃ i q z,Inv X c q z s7/\tn i s7.heap/\(∀ b∈L,z b=zB)/\W i m q z:=λ{j H7} y U=>by
   obtain⟨m',hm,w7⟩:=hN j H7 U;refine⟨m',hm,i+1,j,H7,y.unpinned,T.keep _ _ _ C λb l o e=>(y.pin (b,o) (Zt _ (Zt _ (uk l e)))).1,λb l=>?_,w7⟩;obtain⟨o,e,d⟩:=T.obj _ _ C b l;exact (y.pin (b,o) (Zt _ (Zt _ (uk l e)))).2.1
  cases f with
  | next=>obtain⟨j,H7,y,U⟩:=B;exact again y U
  | cont=>obtain⟨j,H7,y,U⟩:=B;exact again y U
  | brk=>obtain⟨j,H7,y,B⟩:=B;exact⟨j,H7,y.unpinned,B⟩
  | ret v=>obtain⟨x7,j,H7,y,r7,B⟩:=B;exact⟨x7,j,H7,y.unpinned,r7,B⟩
end
abbrev R2:=V->V->Hp->VK->Prop
def OpR (X:Cx) (f:zO->zO->Sem zO) (r:R2):Prop :=
 ∀ (c:List (zN×Obj)) (s:zU) (σ:St) (H:Hp) (x y:V) (v u:zO) (Q:VK),Inv X c σ H s->zx x v->zx y u->r x y H Q ->
  zc (za X.prog X.w) X.A (f v u) (EP X c σ Q) X.xe s
def UnR (X:Cx) (f:zO->Sem zO) (r:V->Hp->VK->Prop):Prop :=
 ∀ (c:List (zN×Obj)) (s:zU) (σ:St) (H:Hp) (x:V) (v:zO) (Q:VK),Inv X c σ H s->zx x v->r x H Q ->
  zc (za X.prog X.w) X.A (f v) (EP X c σ Q) X.xe s
def qp (X:Cx) (f:zO) (r:List V->Hp->VK->Prop):Prop :=
 ∀ (c:List (zN×Obj)) (s:zU) (σ:St) (H:Hp) (xs:List V) (us:List zO) (Q:VK),Inv X c σ H s->z6 xs us->r xs H Q ->
  zc (za X.prog X.w) X.A (call f us) (EP X c σ Q) X.xe s
def ly (X:Cx) (r:V->Hp->(Bool->Hp->Prop)->Prop):Prop :=
 ∀ (c:List (zN×Obj)) (s:zU) (σ:St) (H:Hp) (x:V) (v:zO) (Q:Bool->Hp->Prop),Inv X c σ H s->zx x v->r x H Q ->
  zc (za X.prog X.w) X.A (truthy v) (TP X c σ Q) X.xe s
def tOp (r:R2) (c tb:TE):TE:=λσ H Q=>c σ H λx d=>tb σ d λy e=>r x y e Q
def tUn (r:V->Hp->VK->Prop) (c:TE):TE:=λσ H Q=>c σ H λx d=>r x d Q
def rI (C:Int->Int->Prop) (g:Int->Int->V):R2:=λx y H Q=>∃ i j,x=.int i/\y=.int j/\C i j/\Q (g i j) H
def rI0 (g:Int->Int->V):R2:=λx y H Q=>∃ i j,x=.int i/\y=.int j/\Q (g i j) H
noncomputable def rU (g:Int->V):V->Hp->VK->Prop:=λx H Q=>∃ i,x=.int i/\Q (g i) H
section
variable {X:Cx}{a b c:zi}{ta tb tc:TE}{pos:Pos}
theorem wb (ha:PE X a ta) (l:PE X b tb) {R:V->V->Hp->Prop} (I:Inv X d σ H s)
  (h:ta σ H λx j=>tb σ j λy e=>R x y e) {f:zO->zO->Sem zO}
  (m:∀ v u s2 x y e,Inv X d σ e s2->zx x v->zx y u->R x y e->zc (za X.prog X.w) X.A (f v u) Q X.xe s2) :
  zc (za X.prog X.w) X.A (eval a X.env) (λv g=>zc (za X.prog X.w) X.A (eval b X.env) (λu i=>zc (za X.prog X.w) X.A (f v u) Q X.xe i) X.xe g) X.xe s:=by
 refine jC (ha d s σ H _ I h) λv s1 x j n o p=>?_;refine jC (l d s1 σ j _ n p) λu s2 y e q r t=>?_;exact m v u s2 x y e q o r t
theorem LH (e:OpR X (y4 f) r) (ha:PE X a ta) (g:PE X b tb):PE X (.BinOp a f b pos) (tOp r ta tb):=by
 intro d s σ H Q I h;exact wpAny_BinOp (wb ha g I h λv u s2 x y i j rx ry q=>e d s2 σ i x y v u Q j rx ry q)
theorem OZ (e:UnR X (unaryOp f) r) (ha:PE X a ta):PE X (.UnaryOp f a pos) (tUn r ta):=by
 intro d s σ H Q I h;exact UnaryOp_ (jC (ha d s σ H _ I h) λv s1 x g i j l=>e d s1 σ g x v Q i j l)
theorem opI {f:zO->zO->Sem zO}{C:Int->Int->Prop}{g:Int->Int->Int}
  (Z4:∀ (i j:Int) (t u:Tok) (s:zU) (Q:zO->zU->Prop) (E:zO->zU->Prop),C i j->Q (.int (g i j) s.toks) { s with toks:=s.toks+1 }->zc (za X.prog X.w) X.A (f (.int i t) (.int j u)) Q E s) :
  OpR X f (rI C λi j=>.int (g i j)):=by
 intro d s σ H x y v u Q I rx ry h;obtain⟨i,j,rfl,rfl,e,q⟩:=h;obtain⟨t,rfl⟩:=rx;obtain⟨t',rfl⟩:=ry;exact Z4 i j t t' s _ _ e ⟨.int (g i j),H,I.tok _,⟨_,rfl⟩,q⟩
theorem G4 {f:zO->zO->Sem zO}{g:Int->Int->Int}
  (Z4:∀ (i j:Int) (t u:Tok) (s:zU) (Q:zO->zU->Prop) (E:zO->zU->Prop),Q (.int (g i j) s.toks) { s with toks:=s.toks+1 }->zc (za X.prog X.w) X.A (f (.int i t) (.int j u)) Q E s) :
  OpR X f (rI0 λi j=>.int (g i j)):=by
 intro d s σ H x y v u Q I rx ry h;obtain⟨i,j,rfl,rfl,q⟩:=h;obtain⟨t,rfl⟩:=rx;obtain⟨t',rfl⟩:=ry;exact Z4 i j t t' s _ _ ⟨.int (g i j),H,I.tok _,⟨_,rfl⟩,q⟩
theorem AE {f:zO->zO->Sem zO}{g:Int->Int->Bool}
  (Z4:∀ (i j:Int) (t u:Tok) (s:zU) (Q:zO->zU->Prop) (E:zO->zU->Prop),Q (.bool (g i j)) s->zc (za X.prog X.w) X.A (f (.int i t) (.int j u)) Q E s) :
  OpR X f (rI0 λi j=>.bl (g i j)):=by
 intro d s σ H x y v u Q I rx ry h;obtain⟨i,j,rfl,rfl,q⟩:=h;obtain⟨t,rfl⟩:=rx;obtain⟨t',rfl⟩:=ry;exact Z4 i j t t' s _ _ ⟨.bl (g i j),H,I,rfl,q⟩
def oK (i j:Int):Prop:=0 < j/\j < 1073741824
def YY (i j:Int):Prop:=(-(2 ^ 64) < i/\i < 2 ^ 64)\/(-(2 ^ 64) < j/\j < 2 ^ 64)
theorem YY.ok (h:YY i j):IntMulOk i j:=by
 rcases h with ⟨d,e⟩ | ⟨d,e⟩
 ·exact .of_left (intBits_le_64 d e)
 ·exact .of_right (intBits_le_64 d e)
theorem FW:OpR X (y4 .Add) (rI0 λi j=>.int (i+j)):=G4 λ_ _ _ _ _ _ _ q=>add_int q
theorem oC:OpR X (y4 .Mult) (rI YY λi j=>.int (i * j)):=opI λ_ _ _ _ _ _ _ d q=>mul_int q d.ok
theorem LD:OpR X (y4 .FloorDiv) (rI oK λi j=>.int (i / j)):=opI λi j _ _ _ _ _ d q=>by
 have e:(0:Int) < j:=d.1;have f:j < 1073741824:=d.2;exact floordiv_int (by lia) (by rw[Int.fdiv_eq_ediv_of_nonneg i (by lia)];exact q) (.inl (PyProof.noPylong_small (by lia)))
theorem Ip:OpR X (y4 .Mod) (rI (λ_ j=>0 < j) λi j=>.int (i % j)):=opI λi j _ _ _ _ _ d q=>by
 have e:(0:Int) < j:=d;exact mod_int' (by lia) (by rw[Int.fmod_eq_emod_of_nonneg i (by lia)];exact q)
theorem unI {f:zO->Sem zO}{g:Int->Int}
  (Z4:∀ (i:Int) (t:Tok) (s:zU) (Q:zO->zU->Prop) (E:zO->zU->Prop),Q (.int (g i) s.toks) { s with toks:=s.toks+1 }->zc (za X.prog X.w) X.A (f (.int i t)) Q E s) :
  UnR X f (rU λi=>.int (g i)):=by
 intro d s σ H x v Q I rx h;obtain⟨i,rfl,q⟩:=h;obtain⟨t,rfl⟩:=rx;exact Z4 i t s _ _ ⟨.int (g i),H,I.tok _,⟨_,rfl⟩,q⟩
theorem fc:UnR X (unaryOp .USub) (rU λi=>.int (-i)):=unI λ_ _ _ _ _ q=>neg_int q
end
noncomputable def Xc:V->V->Bool
 | .non,.non=>zC | .non,.int _=>zC | .int _,.non=>zC | .non,.bl _=>zC | .bl _,.non=>zC | .non,.str _=>zC | .str _,.non=>zC
 | .int _,.int _=>zC | .bl _,.bl _=>zC | .str _,.str _=>zC | .byt _,.byt _=>zC
 | .int _,.str _=>zC | .str _,.int _=>zC | .bl _,.str _=>zC | .str _,.bl _=>zC
 | _,_=>zP
def rEq:R2:=λx y H Q=>Xc x y=zC/\Q (.bl (decide (x=y))) H
def rNe:R2:=λx y H Q=>Xc x y=zC/\Q (.bl (!decide (x=y))) H
theorem DE {i j:Int}:decide (V.int i=V.int j)=(i == j):=by
 rw[YD];simp
theorem CK {i j:Bool}:decide (V.bl i=V.bl j)=(i == j):=by
 rw[YD];simp
theorem Cd {i j:Str}:decide (V.str i=V.str j)=(i == j):=by
 rw[YD];simp
theorem CS {i j:Array UInt8}:decide (V.byt i=V.byt j)=(i.toList == j.toList):=by
 rw[YD];cases i;cases j;simp
section
variable {X:Cx}{a b c:zi}{ta tb tc:TE}{pos:Pos}
theorem j5 {Q:VK}{k f:Bool} (I:Inv X d σ H s) (q:Q (.bl k) H) (e:k=f):EP X d σ Q (.bool f) s:=by
 subst e;exact⟨.bl k,H,I,rfl,q⟩
theorem mF:OpR X (jt .Eq) rEq:=by
 intro e s σ H x y v u Q I rx ry h;obtain⟨d,q⟩:=h;cases x with
 | non =>
  cases rx;cases y with
  | non=>cases ry;exact RD (j5 I q (by simp))
  | bl j=>cases ry;exact Rm (j5 I q (by simp))
  | int j=>obtain⟨t',rfl⟩:=ry;exact rG (j5 I q (by simp))
  | str j=>obtain⟨t',rfl⟩:=ry;exact rS (j5 I q (by simp))
  | _=>exact absurd (show zP=zC from d) qU
 | bl i =>
  cases rx;cases y with
  | non=>cases ry;exact Rc (j5 I q (by simp))
  | bl j=>cases ry;exact eq_bool (j5 I q CK)
  | str j=>obtain⟨t',rfl⟩:=ry;exact RJ (j5 I q (by simp))
  | _=>exact absurd (show zP=zC from d) qU
 | int i =>
  obtain⟨t,rfl⟩:=rx;cases y with
  | non=>cases ry;exact Ro (j5 I q (by simp))
  | int j=>obtain⟨t',rfl⟩:=ry;exact eq_int (j5 I q DE)
  | str j=>obtain⟨t',rfl⟩:=ry;exact RZ (j5 I q (by simp))
  | _=>exact absurd (show zP=zC from d) qU
 | str i =>
  obtain⟨t,rfl⟩:=rx;cases y with
  | non=>cases ry;exact rY (j5 I q (by simp))
  | bl j=>cases ry;exact Rf (j5 I q (by simp))
  | int j=>obtain⟨t',rfl⟩:=ry;exact rj (j5 I q (by simp))
  | str j=>obtain⟨t',rfl⟩:=ry;exact eq_str (j5 I q Cd)
  | _=>exact absurd (show zP=zC from d) qU
 | byt i =>
  obtain⟨t,rfl⟩:=rx;cases y with
  | byt j=>obtain⟨t',rfl⟩:=ry;exact PySem.W.eq_bytes (j5 I q CS)
  | _=>exact absurd (show zP=zC from d) qU
 | _=>cases y<;>exact absurd (show zP=zC from d) qU
theorem N0:OpR X (jt .NotEq) rNe:=by
 intro e s σ H x y v u Q I rx ry h;obtain⟨d,q⟩:=h;cases x with
 | non =>
  cases rx;cases y with
  | non=>cases ry;exact rH (j5 I q (by simp))
  | bl j=>cases ry;exact RF (j5 I q (by simp))
  | int j=>obtain⟨t',rfl⟩:=ry;exact rO (j5 I q (by simp))
  | str j=>obtain⟨t',rfl⟩:=ry;exact Rq (j5 I q (by simp))
  | _=>exact absurd (show zP=zC from d) qU
 | bl i =>
  cases rx;cases y with
  | non=>cases ry;exact Rt (j5 I q (by simp))
  | bl j=>cases ry;exact ne_bool (j5 I q (congrArg not CK))
  | str j=>obtain⟨t',rfl⟩:=ry;exact rr (j5 I q (by simp))
  | _=>exact absurd (show zP=zC from d) qU
 | int i =>
  obtain⟨t,rfl⟩:=rx;cases y with
  | non=>cases ry;exact rf (j5 I q (by simp))
  | int j=>obtain⟨t',rfl⟩:=ry;exact ne_int (j5 I q (congrArg not DE))
  | str j=>obtain⟨t',rfl⟩:=ry;exact RX (j5 I q (by simp))
  | _=>exact absurd (show zP=zC from d) qU
 | str i =>
  obtain⟨t,rfl⟩:=rx;cases y with
  | non=>cases ry;exact rX (j5 I q (by simp))
  | bl j=>cases ry;exact RO (j5 I q (by simp))
  | int j=>obtain⟨t',rfl⟩:=ry;exact Rv (j5 I q (by simp))
  | str j=>obtain⟨t',rfl⟩:=ry;exact ne_str (j5 I q (congrArg not Cd))
  | _=>exact absurd (show zP=zC from d) qU
 | byt i =>
  obtain⟨t,rfl⟩:=rx;cases y with
  | byt j=>obtain⟨t',rfl⟩:=ry;exact PySem.W.ne_bytes (j5 I q (congrArg not CS))
  | _=>exact absurd (show zP=zC from d) qU
 | _=>cases y<;>exact absurd (show zP=zC from d) qU
theorem NN:OpR X (jt .Lt) (rI0 λi j=>.bl (decide (i < j))):=AE λ_ _ _ _ _ _ _ q=>lt_int q
theorem HN:OpR X (jt .LtE) (rI0 λi j=>.bl (decide (i <= j))):=AE λ_ _ _ _ _ _ _ q=>le_int q
theorem Nq:OpR X (jt .Gt) (rI0 λi j=>.bl (decide (j < i))):=AE λ_ _ _ _ _ _ _ q=>gt_int q
theorem iI:OpR X (jt .Lt) (λx y H Q=>∃ i j,x=.str i/\y=.str j/\Q (.bl (decide (i.cps.toList < j.cps.toList))) H):=by
 intro d s σ H x y v u Q I rx ry h;obtain⟨i,j,rfl,rfl,q⟩:=h;obtain⟨t,rfl⟩:=rx;obtain⟨t',rfl⟩:=ry;exact lt_str (j5 I q rfl)
theorem PV:OpR X (jt .In) (λx y H Q=>∃ i j,x=.str i/\y=.str j/\Q (.bl (!(kr j i 0 j.length 1).isEmpty)) H):=by
 intro d s σ H x y v u Q I rx ry h;obtain⟨i,j,rfl,rfl,q⟩:=h;obtain⟨t,rfl⟩:=rx;obtain⟨t',rfl⟩:=ry;exact in_str (j5 I q rfl)
theorem IQ:OpR X (jt .NotIn) (λx y H Q=>∃ i j,x=.str i/\y=.str j/\Q (.bl (!(!(kr j i 0 j.length 1).isEmpty))) H):=by
 intro d s σ H x y v u Q I rx ry h;obtain⟨i,j,rfl,rfl,q⟩:=h;obtain⟨t,rfl⟩:=rx;obtain⟨t',rfl⟩:=ry;exact notIn_str (j5 I q rfl)
theorem OpR.or (h:OpR X f r) (h':OpR X f e):OpR X f (λx y H Q=>r x y H Q\/e x y H Q):=by
 intro d s σ H x y v u Q I rx ry q;rcases q with q | q
 ·exact h d s σ H x y v u Q I rx ry q
 ·exact h' d s σ H x y v u Q I rx ry q
theorem qy (b:zi) {d:CmpOp} (h:d≠.In:=by decide) (e:d≠.NotIn:=by decide):Jt d b=zP:=by
 have f:(d == mQ)=zP:=by cases d<;>first | rfl | exact absurd rfl h
 have g:(d == GA)=zP:=by cases d<;>first | rfl | exact absurd rfl e
 cases b<;>simp[Jt,f,g]
theorem fP (f:OpR X (jt e) r) (ha:PE X a ta) (g:PE X b tb) (hm:Jt e b=zP):PE X (.Compare a [e] [b] pos) (tOp r ta tb):=by
 intro d s σ H Q I h;exact PD (wb ha g I h λv u s2 x y i j rx ry q=>f d s2 σ i x y v u Q j rx ry q) hm
def DX (t:TE):TT:=λσ H Q=>t σ H λx d=>∃ k,x=.bl k/\Q k d
theorem F5 (g:OpR X (jt f) r) (ha:PE X a ta) (i:PE X b tb) (hm:Jt f b=zP):PT X (.Compare a [f] [b] pos) (DX (tOp r ta tb)):=by
 intro d s σ H Q I h;refine pj (jC (ha d s σ H _ I h) λv s1 x j l m n=>jC (i d s1 σ j _ l n) λu s2 y o p q t =>
  jC (g d s2 σ o x y v u _ p m q t) λc s3 z A B C ⟨k,e,E⟩=>?_) hm
 subst e;cases C;exact Jn ⟨A,B,E⟩
def Ku (r e:R2) (ta tb tc:TE):TE:=λσ H Q=>ta σ H λx f=>tb σ f λy g=>r x y g λz d=>∃ k,z=.bl k /\
 (if k=zC then tc σ d λh i=>e y h i Q else Q (.bl zP) d)
theorem oJ (p:OpR X (jt j) r) (i:OpR X (jt g) q) (ha:PE X a ta) (t:PE X b tb) (A:PE X c tc)
  (hm:Uu [j,g] [b,c]=zP:=by with_unfolding_all rfl):PE X (.Compare a [j,g] [b,c] pos) (Ku r q ta tb tc):=by
 intro f s σ H Q I h;refine Compare_chain (jC (ha f s σ H _ I h) λv s1 x B C E G=>chain_link (jC (t f s1 σ B _ C G) λu s2 y J L l M =>
  jC (p f s2 σ J x y v u _ L E l M) λd s3 z m n N ⟨k,e,o⟩=>?_)) hm
 subst e;cases N;refine Jn ?_;cases k with
 | false=>exact ite_ff ⟨.bl zP,m,n,rfl,o⟩
 | true=>exact ite_tt (chain_last (jC (A f s3 σ m _ n o) λU Y z' H4 I4 r4 q4=>i f Y σ H4 y z' u U Q I4 l r4 q4))
theorem nt (p:OpR X (jt j) r) (i:OpR X (jt g) q) (ha:PE X a ta) (t:PE X b tb) (A:PE X c tc)
  (hm:Uu [j,g] [b,c]=zP:=by with_unfolding_all rfl):PT X (.Compare a [j,g] [b,c] pos) (DX (Ku r q ta tb tc)):=by
 intro f s σ H Q I h;refine isTrue_chain (jC (ha f s σ H _ I h) λv s1 x B C E G=>test_link (jC (t f s1 σ B _ C G) λu s2 y J L l M =>
  jC (p f s2 σ J x y v u _ L E l M) λd s3 z m n N ⟨k,e,o⟩=>?_)) hm
 subst e;cases N;refine Jn ?_;cases k with
 | false =>
  obtain⟨k',U,Y⟩:=o;cases U;exact ite_ff ⟨m,n,Y⟩
 | true =>
  refine ite_tt (test_last (jC (A f s3 σ m _ n o) λw' s4 z' H4 I4 r4 q4=>jC (i f s4 σ H4 y z' u w' _ I4 l r4 q4) λd' s5 z2 H5 I5 r5 ⟨k2,e2,q5⟩=>?_));subst e2;cases r5;exact Jn ⟨H5,I5,q5⟩
def Ba (K:zV) (x:V) (H:Hp) (k:Bool):Prop :=
 match x with
 | .non=>k=zP
 | .bl b=>k=b
 | .int i=>k=(i != 0)
 | .str y=>y.length <= z5/\k=((y.length:Int) != 0)
 | .byt y=>y.size <= z5/\k=((y.size:Int) != 0)
 | .ref p=>(∃ xs,SqL K H p xs/\k = !xs.isEmpty)\/(∃ xs,SqT K H p xs/\k = !xs.isEmpty)\/∃ kvs,H p=zA (.dK kvs)/\k = !kvs.isEmpty
 | _=>False
theorem Nl {d:Type}{kvs:List (d×V)}{vs:List (d×zO)} (r:KV kvs vs):(!vs.isEmpty) = !kvs.isEmpty:=by
 cases r<;>rfl
theorem ew (r:z6 xs d):(!d.toArray.isEmpty) = !xs.isEmpty:=by
 cases r<;>simp
theorem XN:(z5:Nat) < 2 ^ 63:=by rw[Zc];decide
theorem Iw:ly X (λx H Q=>∃ k,Ba X.K x H k/\Q k H):=by
 intro j s σ H x v Q I rx h;obtain⟨k,e,q⟩:=h;have u:=XN;have z:z5=16777216:=Zc;cases x with
 | non =>
  cases rx;have d:k=zP:=e;subst d;exact truthy_none ⟨H,I,q⟩
 | bl b =>
  cases rx;have d:k=b:=e;subst d;exact Jn ⟨H,I,q⟩
 | int i =>
  obtain⟨t,rfl⟩:=rx;have d:k=(i != 0):=e;subst d;exact PySem.P.truthy_int ⟨H,I,q⟩
 | str y =>
  obtain⟨t,rfl⟩:=rx;obtain⟨n,d⟩:y.length <= z5/\k=((y.length:Int) != 0):=e;subst d;exact PySem.P.truthy_str (by lia) ⟨H,I.tok _,q⟩
 | byt y =>
  obtain⟨t,rfl⟩:=rx;obtain⟨n,d⟩:y.size <= z5/\k=((y.size:Int) != 0):=e;subst d;exact PySem.W.truthy_bytes (by lia) ⟨H,I.tok _,q⟩
 | ref p =>
  cases rx;have d:(∃ xs,SqL X.K H p xs/\k = !xs.isEmpty)\/(∃ xs,SqT X.K H p xs/\k = !xs.isEmpty)\/∃ kvs,H p=zA (.dK kvs)/\k = !kvs.isEmpty:=e;rcases d with ⟨xs,hx,d⟩ | ⟨xs,hx,d⟩ | ⟨kvs,hx,d⟩
  ·subst d;obtain⟨g,r,pl,l⟩:=I.list hx;have f:=r.length;exact wpAny_truthy_list pl.isList (by simp only[qY];lia) ⟨H,I.tok _,by rw[ew r];exact q⟩
  ·subst d;obtain⟨g,r,pl,l⟩:=I.tuple hx;have f:=r.length;exact truthy_tuple pl (by simp only[qY];lia) ⟨H,I.tok _,by rw[ew r];exact q⟩
  ·subst d;obtain⟨l,o,vs,r,m⟩:kvs.length <= z5/\(p == Zk)=zP/\∃ vs,KV kvs vs/\s.heap.DictOf (jm X.prog X.w) p vs:=I.hok p _ hx;have f:kvs.length=vs.length:=Paired.length r;exact wpAny_truthy_dict o m (by lia) ⟨H,I.tok _,by rw[Nl r];exact q⟩
 | _=>exact (show False from e).elim
theorem OU (ha:PE X a ta) (g:∀ d,isTrue a X.env d=(do let v <- d;Qh a.pos;holding [v] (truthy v))) :
  PT X a (λσ H Q=>ta σ H λx f=>∃ k,Ba X.K x f k/\Q k f):=by
 intro e s σ H Q I h;exact isTrue_plain (jC (ha e s σ H _ I h) λv s1 x i j l m=>Iw e s1 σ i x v Q j l m) (g _)
theorem LF:OpR X (y4 .Add) (λx y H Q=>∃ i j,x=.str i/\y=.str j/\i.length+j.length <= z5/\Q (.str (i++j)) H):=by
 intro e s σ H x y v u Q I rx ry h;obtain⟨i,j,rfl,rfl,f,q⟩:=h;obtain⟨t,rfl⟩:=rx;obtain⟨t',rfl⟩:=ry;exact ZL (n:=1) I.tk (add_str (λt' tk d=>⟨.str (i++j),H,I.tok _ d,⟨_,rfl⟩,q⟩) f)
theorem ZN {x:V} (r:z6 [x] us):∃ u,us=[u]/\zx x u:=by
 cases r with
 | cons d e=>cases e;exact⟨_,rfl,d⟩
theorem B5 {x y:V} (r:z6 [x,y] us):∃ u d,us=[u,d]/\zx x u/\zx y d:=by
 cases r with
 | cons e f =>
  cases f with
  | cons g h=>cases h;exact⟨_,_,rfl,e,g⟩
theorem F1 (g:X.calm=zC):qp X (.builtin "min") (λxs H Q=>∃ i j,xs=[.int i,.int j]/\Q (.int (if j < i then j else i)) H):=by
 intro f s σ H xs us Q I r h;obtain⟨i,j,rfl,q⟩:=h;obtain⟨u,l,rfl,⟨t,rfl⟩,⟨t',rfl⟩⟩:=B5 r;refine ZL (n:=1) I.tk (min_two_ints (I.ok.hd g) λh' tk k e=>⟨_,H,I.kept k e,?_,q⟩);by_cases d:j < i
 ·rw[if_pos d,if_pos d];exact⟨_,rfl⟩
 ·rw[if_neg d,if_neg d];exact⟨_,rfl⟩
end
structure k8 (h:zg) (x dx C:zN) (mA:Str->Option zO):Prop where
 obj:h.get? x=zA (kZ C dx)
 ns:h.Ns1 dx mA
 ne:dx≠x
theorem O6 {h:zg}{d:zN}{f:Str->Option zO} (n:h.Ns1 d f):∃ g,h.get? d=zA g/\∀ name,A8 name g=zA (f name):=by
 obtain⟨o,es,p,i,hd,j,_,hm⟩:=n;refine⟨o,i,λname=>?_⟩;have e:=hm name;unfold nsFind findBy at e;rw[<- Array.find?_toList] at e;unfold A8;rw[hd];dsimp only;split
 ·rename_i y q;rw[q] at e;exact congrArg zA e
 ·rename_i q;rw[q] at e;have a:es.toList.any (·.refKey)=zP:=by
   rw[List.any_eq_false];intro y l;obtain⟨z,t,c⟩:=j y (Oo.mp l);simp[DictEntry.refKey,c]
  have m:¬ es.toList.any (·.refKey)=zC:=by rw[a];exact qU
  rw[if_neg m];exact congrArg zA e
theorem k8.look (I:k8 h x d C e):∃ c,PySem.W.InstAt h x (kZ C d) C (zA c)/\∀ name,A8 name c=zA (e name) :=
 let ⟨c,f,g⟩:=O6 I.ns
 ⟨c,⟨I.obj,rfl,rfl,f⟩,g⟩
section
variable {prog:jF}{w:z7}{A:jf}{E:zO->zU->Prop}{s:zU}{K:zV}{x dx C f:zN}{mA:Str->Option zO}{name:Str}{v:zO}
theorem PQ {Q:zO->zU->Prop} (X:K.In s.heap) (I:k8 s.heap x dx C mA) (e:Qf K C name=zC) (g:JU K C=zC)
  (ha:jb K (.ref C) name=zA zB) (i:mA name=zA v) (c:GY v=zC) (h:Q v { s with toks:=s.toks+1 }) :
  zc (za prog w) A (getAttr (.ref x) name d) Q E s:=by
 obtain⟨l,J,j⟩:=I.look;exact PySem.W.get_value X J (BF e).1 (PySem.W.findObj_own g ha rfl (by rw[j,i])) c h
theorem IF {Q:zO×List zO->zU->Prop} (X:K.In s.heap) (I:k8 s.heap x dx C mA) (c:Qf K C name=zC)
  (d:jb K (.ref C) name=zA (zA (.ref f))) (e:YF K (.ref f)=zC) (g:mA name=zB) (h:Q (.ref f,[.ref x]) s) :
  zc (za prog w) A (XO (.ref x) name pl) Q E s:=by
 obtain⟨i,J,j⟩:=I.look;exact PySem.W.method_fn X J (BF c).1 (BF c).2 d (beq_iff_eq.mp e) (by show (A8 name i).map (·.isSome)=zA zP;rw[j,g];rfl) h
theorem gy {ns:List Str}{Q:Unit->zU->Prop} (X:K.In s.heap) (I:k8 s.heap x dx C mA)
  (l:jb K (.ref C) "__setattr__" = zA (zA (.builtin "object.__setattr__"))) (m:J8 K C=zC) (n:BK K C name=zA zB) (o:JU K C=zC)
  (hw:Bq mA ns) (hsz:ns.length <= z5)
  (h:∀ h',k8 h' x dx C (λy=>if y=name then zA v else mA y)->X2 dx s.heap h'->Q () { s with heap:=h',toks:=s.toks+2 }) :
  zc (za prog w) A (setAttr (.ref x) name v) Q E s:=by
 obtain⟨u,J,z⟩:=I.look;refine PySem.W.set_plain X J l (PySem.W.osa_open (s:={ s with toks:=s.toks+1 }) (r:=none) X J m n λb=>?_);obtain⟨B,p,e⟩:=PySem.W.any_some o;have hx:s.heap.get? x=zA ⟨.ref C,zA dx,.plain,#[]⟩:=I.obj;refine zw (jx (zw (zw (wpAny_loadPart hx (zw (RG (s:={ s with toks:=s.toks+1 }) (PySem.W.looks_clsIn X p) ?_))))));rw[e];refine jx (a:=some dx) (zw (jx (zw ?_)));refine wpAny_nsSet1 (s:={ s with toks:=s.toks+1 }) I.ns λh' c d=>?_;obtain⟨G,q,t,g,i,j⟩:=c.count (RU name v hw);refine zw (wpAny_lookBehind g (by rw[i];exact pastItsLine_dict (qe j (by rw[qL];lia))) ?_);exact jx (h _ ⟨(d.2 _ (yJ I.ne)).trans I.obj,c,I.ne⟩ d)
theorem p8 {R:Yp->zU->Prop}{vs:List zO}{c:List (Str×zO)} (X:K.In s.heap) (hm:JO K C=zC)
  (hi:jb K (.ref C) "__init__" = zA (zA (.ref f))) (e:PySem.W.typeIn K (.ref f)=zA (.type "function"))
  (h:xB (za prog w) (A.under (.builtin "type.__call__" ⟨.ref C::vs,c⟩)) (.call (.ref f) ⟨.ref (s.heap.objs.size+1)::vs,c⟩) (PySem.W.InitBack (s.heap.objs.size+1) R)
   { s with heap:=(s.heap.push xO).push (kZ C s.heap.objs.size) }) :
  xB (za prog w) A (.call (.ref C) ⟨vs,c⟩) R s:=by
 obtain⟨i,g,d,t,os⟩:=s;exact PySem.W.make_core (PySem.W.makes_of X hm) (PySem.W.looks_findIn X hi) (λself=>PySem.W.bind_fn X self e) (.inl rfl) h
end
noncomputable def qi (f:Str) (v:V):List (Str×V)->List (Str×V)
 | []=>[(f,v)]
 | (g,x)::r=>if g=f then (g,v)::r else (g,x)::qi f v r
theorem aw (f g:Str) (v:V):∀ fs:List (Str×V),(qi f v fs).lookup g=if g=f then zA v else fs.lookup g
 | []=>by
  show xk g [(f,v)]=_;by_cases h:g=f
  ·have c:(g == f)=zC:=beq_iff_eq.mpr h;simp only[xk,c,if_pos h]
  ·have c:(g == f)=zP:=beq_eq_false_iff_ne.mpr h;simp only[xk,c,if_neg h]
 | (k,x)::r=>by
  have i:=aw f g v r;rw[show qi f v ((k,x)::r)=(if k=f then (k,v)::r else (k,x)::qi f v r) from rfl];by_cases d:k=f
  ·rw[if_pos d];by_cases h:g=k
   ·have c:(g == k)=zC:=beq_iff_eq.mpr h;simp only[xk,c,if_pos (h.trans d)]
   ·have c:(g == k)=zP:=beq_eq_false_iff_ne.mpr h;simp only[xk,c,if_neg (λe:g=f=>h (e.trans d.symm))]
  ·rw[if_neg d];by_cases h:g=k
   ·have c:(g == k)=zC:=beq_iff_eq.mpr h;simp only[xk,c,if_neg (λe:g=f=>d (h.symm.trans e))]
   ·have c:(g == k)=zP:=beq_eq_false_iff_ne.mpr h;simp only[xk,c];exact i
theorem Wj (f:Str) (v:V):∀ fs:List (Str×V),f∈(qi f v fs).map (·.1)/\∀ g,g∈fs.map (·.1)->g∈(qi f v fs).map (·.1)
 | []=>⟨by simp[qi],λg h=>by simp at h⟩
 | (k,x)::r=>by
  obtain⟨d,i⟩:=Wj f v r;rw[show qi f v ((k,x)::r)=(if k=f then (k,v)::r else (k,x)::qi f v r) from rfl];by_cases c:k=f
  ·rw[if_pos c];subst c;exact⟨by simp,λg h=>by simpa using h⟩
  ·rw[if_neg c];refine⟨?_,λg h=>?_⟩
   ·rw[ju];exact jj _ d
   ·rw[ju] at h ⊢;rcases jc.mp h with e | e
    ·exact jc.mpr (.inl e)
    ·exact jj _ (i g e)
theorem d4 (f:Str) (v:V):∀ fs:List (Str×V),(qi f v fs).length <= fs.length+1
 | []=>by simp[qi]
 | (k,x)::r=>by
  have d:=d4 f v r;rw[show qi f v ((k,x)::r)=(if k=f then (k,v)::r else (k,x)::qi f v r) from rfl];by_cases c:k=f
  ·rw[if_pos c,qL,qL];lia
  ·rw[if_neg c,qL,qL];lia
theorem yP.some_of {v:V} (r:yP (zA v) o):∃ u,o=zA u/\zx v u:=by
 cases o with
 | none=>exact (show False from r).elim
 | some u=>exact⟨u,rfl,r⟩
theorem yP.none_of (r:yP zB o):o=zB:=by
 cases o with
 | none=>rfl
 | some u=>exact (show False from r).elim
theorem nR (r:zx v u):GY u=zC:=by
 cases v with
 | non=>cases (show u=qx from r);rfl
 | bl b=>cases (show u=xv b from r);rfl
 | int i=>obtain⟨t,e⟩:=(show ∃ t,u=KR i t from r);cases e;rfl
 | str x=>obtain⟨t,e⟩:=(show ∃ t,u=XD x t from r);cases e;rfl
 | byt b=>obtain⟨t,e⟩:=(show ∃ t,u=OS b t from r);cases e;rfl
 | flt b=>obtain⟨t,e⟩:=(show ∃ t,u=Dn b t from r);cases e;rfl
 | ref a=>cases (show u=jv a from r);rfl
 | ty n=>cases (show u=K4 n from r);rfl
section
variable {P:jF}{w:z7}{H H':Hp}{h h':zg}{a C dx:zN}{fs fs':List (Str×V)}
theorem Ym (hok:HOk P w H h) (e:H a=zA (.ins C dx fs)):∃ c,k8 h a dx C c/\(∀ f,yP (fs.lookup f) (c f))/\Bq c (fs.map (·.1))/\fs.length <= 1000/\H dx=zA (.own a):=by
 obtain⟨d,z,ne,ob,c,n,r,q⟩:=(show jz P w H h a (.ins C dx fs) from hok a _ e)
 exact⟨c,⟨ob,n,ne⟩,r,q,z,d⟩
end
structure Cls (K:zV) (C:zN):Prop where
 pg:Qf K C QL=zC
 hd:JU K C=zC
 po:J8 K C=zC
 sa:jb K (.ref C) "__setattr__" = zA (zA (.builtin "object.__setattr__"))
theorem Cls.get {K:zV} (c:Cls K C) (f:Str):Qf K C f=zC:=c.pg
def XH (K:zV) (C:zN) (f:Str):Prop:=jb K (.ref C) f=zA zB
theorem XH.taker {K:zV} (n:XH K C f):BK K C f=zA zB:=by
 unfold BK;rw[show jb K (.ref C) f=zA zB from n];rfl
structure KP (K:zV) (C:zN) (m:Str) (f:zN):Prop where
 at_:jb K (.ref C) m=zA (zA (.ref f))
 fn:YF K (.ref f)=zC
 kp:yX K (.ref f)=zC
section
variable {X:Cx}{pins:List (zN×Obj)}{σ:St}{H:Hp}{s:zU}{a C dx:zN}{fs:List (Str×V)}{f:Str}{v:V}{A:jf}{E:zO->zU->Prop}
theorem Nr {b:Bool}{Q:zO->zU->Prop} (I:Inv X pins σ H s) (e:H a=zA (.ins C dx fs)) (c:Cls X.K C) (n:XH X.K C f) (l:fs.lookup f=zA v)
  (h:∀ u s',Inv X pins σ H s'->zx v u->Q u s'):zc (za X.prog X.w) A (getAttr (.ref a) f b) Q E s:=by
 obtain⟨g,O,r,_,_,_⟩:=Ym I.hok e;obtain⟨u,i,d⟩:=yP.some_of (v:=v) (o:=g f) (by rw[<- l];exact r f);exact PQ I.kIn O (c.get f) c.hd n i (nR d) (h u _ (I.tok _) d)
theorem Wt {Q:zO×List zO->zU->Prop} (I:Inv X pins σ H s) (e:H a=zA (.ins C dx fs)) (c:Cls X.K C) (k:KP X.K C m g) (l:fs.lookup m=zB)
  (h:Q (.ref g,[.ref a]) s):zc (za X.prog X.w) A (XO (.ref a) m pl) Q E s:=by
 obtain⟨d,O,r,_,_,_⟩:=Ym I.hok e;have i:d m=zB:=yP.none_of (by rw[<- l];exact r m);exact IF I.kIn O (c.get m) k.at_ k.fn i h
theorem Ib {y:V}{Q:Unit->zU->Prop} (I:Inv X pins σ H s) (e:H a=zA (.ins C dx fs)) (c:Cls X.K C) (n:XH X.K C f) (G:fs.length < 1000) (ry:zx y u)
  (h:∀ s',Inv X pins σ (upd H a (.ins C dx (qi f y fs))) s'->Q () s'):zc (za X.prog X.w) A (setAttr (.ref a) f u) Q E s:=by
 obtain⟨i,O,r,j,_,l⟩:=Ym I.hok e;have m:(fs.map (·.1)).length <= z5:=by rw[qd,Zc];lia
 refine gy I.kIn O c.sa c.po n.taker c.hd j m λh' d sb=>h _ ?_;have hd:∃ o,h'.get? dx=zA o:=let ⟨o,_,_,p,_⟩:=d.ns;⟨o,p⟩;refine I.write (x:=a) (e:=dx) (by rw[e];exact QT) (.inr l) (λb q t z=>(sb.2 b t).trans z) hd ?_;refine⟨by rw[jA O.ne];exact l,?_,O.ne,d.obj,_,d.ns,λg=>?_,λg B=>?_⟩
 ·have:=d4 f y fs;lia
 ·show yP ((qi f y fs).lookup g) (if g=f then zA u else i g);rw[aw];by_cases q:g=f
  ·rw[if_pos q,if_pos q];exact ry
  ·rw[if_neg q,if_neg q];exact r g
 ·by_cases q:g=f
  ·rw[q];exact (Wj f y fs).1
  ·refine (Wj f y fs).2 g (j g λz=>B ?_);show (if g=f then zA u else i g)=zB;rw[if_neg q];exact z
theorem Inv.made (I:Inv X pins σ H s):Inv X pins σ (upd (upd H s.heap.objs.size (.own (s.heap.objs.size+1))) (s.heap.objs.size+1) (.ins C s.heap.objs.size []))
  { s with heap:=(s.heap.push xO).push (kZ C s.heap.objs.size) }:=by
 have c:(s.heap.push xO).get? s.heap.objs.size=zA xO:=yV s.heap rfl;have d:((s.heap.push xO).push (kZ C s.heap.objs.size)).get? (s.heap.objs.size+1)=zA (kZ C s.heap.objs.size):=by
  have:=yV (s.heap.push xO) (o:=kZ C s.heap.objs.size) rfl
  rwa [JV] at this
 have g:(s.heap.push xO).Ns s.heap.objs.size (λ_=>zB):=⟨xO,#[],_,c,rfl,(λe h=>absurd h (by simp)),λ_=>rfl⟩
 have i:=I.laid (a:=s.heap.objs.size) (o:=.own (s.heap.objs.size+1)) (h':=s.heap.push xO) (t':=s.toks) (λb u q=>j0 _ q) (jB _) ⟨_,c⟩;refine i.laid (a:=s.heap.objs.size+1) (o:=.ins C s.heap.objs.size []) (t':=s.toks) (λb u q=>j0 _ q) (Kk (JV _ _)) ?_;have ne:s.heap.objs.size≠s.heap.objs.size+1:=je (u6 _);refine⟨by rw[jA ne,qD],XF _,ne,d,λ_=>zB,(Heap.Ns1.of_empty g).at λo q=>j0 _ q,λ_=>QT,λy j=>absurd rfl j⟩
theorem ml {w:z7}{f:Str}{pos:Pos}{s:zU} (d:JI e f env (eval e env)=eval e env)
  (h:zc (za prog w) A (eval e env) (λo c=>zc (za prog w) A (getAttr o f zC) Q E c) E s):zc (za prog w) A (eval (.Attribute e f pos) env) Q E s :=
 Attribute_any_ h (by rw[arm_eval_Attribute,d])
end
def o9 (K:zV) (d:TE) (f:Str):TE:=λσ H Q=>d σ H λx c=>∃ a C e fs v,x=.ref a/\c a=zA (.ins C e fs)/\Cls K C/\XH K C f/\fs.lookup f=zA v/\Q v c
def j4 (K:zV) (e g:TE) (f:Str):TS:=λD σ H=>g σ H λy h=>e σ h λx c=>∃ a C d fs,x=.ref a/\c a=zA (.ins C d fs)/\Cls K C/\XH K C f/\fs.length < 1000 /\
 D.nx σ (upd c a (.ins C d (qi f y fs)))
section
variable {X:Cx}{o e value:zi}{f:Str}{pos pos' tpos:Pos}{ta tv:TE}
theorem LO (g:PE X e ta) (i:JI e f X.env (eval e X.env)=eval e X.env):PE X (.Attribute e f pos) (o9 X.K ta f):=by
 intro d s σ H Q I h;refine ml i (jC (g d s σ H _ I h) λu s1 x j m rx ⟨a,C,y,fs,v,ex,p,c,n,l,q⟩=>?_);subst ex;obtain rfl:u=jv a:=rx;exact Nr m p c n l λz s2 r t=>⟨v,j,r,t,q⟩
theorem hH (ha:PE X o ta) (g:PE X value tv) (i:xR value (zA (.Attribute o f pos')) pos.line X.env=pure zP):PS X (.Assign [.Attribute o f pos'] value pos) (j4 X.K ta tv f):=by
 intro d s σ H D I h;refine plainObj_wpAny_Assign_Attribute (jC (g d s σ H _ I h) λu s1 y j m ry q=>jC (ha d s1 σ j _ m q) λp s2 x A r rx ⟨a,C,B,fs,ex,t,c,n,l,v⟩=>?_) i;subst ex;obtain rfl:p=jv a:=rx;exact Ib r t c n l ry λs3 z=>⟨σ,_,z,v⟩
end
section
variable {X:Cx}{pins:List (zN×Obj)}{σ:St}{H:Hp}{s:zU}{A:jf}{E:zO->zU->Prop}{Q:zO->zU->Prop}{c:zO}{b:Bool}
inductive Zl (K:zV) (H:Hp):V->zO->Prop where
 | non:Zl K H .non (.type "NoneType")
 | bl (x:Bool):Zl K H (.bl x) (.type "bool")
 | int (i:Int):Zl K H (.int i) (.type "int")
 | str (x:Str):Zl K H (.str x) (.type "str")
 | flt (x:UInt64):Zl K H (.flt x) (.type "float")
 | lst {a:zN}{xs:List V} (e:H a=zA (.lst xs)):Zl K H (.ref a) (.type "list")
 | frz {a:zN}{o:Obj}{xs:List V} (e:H a=zA (.frz o (.lst xs))):Zl K H (.ref a) (.type "list")
 | tup {a:zN}{xs:List V} (e:H a=zA (.tup xs)):Zl K H (.ref a) (.type "tuple")
 | dK {a:zN}{kvs:List (Key×V)} (e:H a=zA (.dK kvs)):Zl K H (.ref a) (.type "dict")
 | dT {a:zN}{kvs:List (List Key×V)} (e:H a=zA (.dT kvs)):Zl K H (.ref a) (.type "dict")
 | ins {a C dx:zN}{fs:List (Str×V)} (e:H a=zA (.ins C dx fs)) (cl:Cls K C) (ha:jb K (.ref C) "__class__" = zA (zA (.builtin "object.__class__")))
   (hn:PySem.W.specialIn K (.builtin "object.__class__") "__get__" = zA (zA (.builtin "getset_descriptor.__get__"))) (htk:PySem.W.takesIn K (.builtin "object.__class__")=zA zC)
   (hm:aL K C (.type "object")=zA zC):Zl K H (.ref a) (.ref C)
theorem mE (I:Inv X pins σ H s) (rx:zx x u) (ty:Zl X.K H x t) (e:JT X.K t c=zA b) (h:∀ tk,Q (.bool b) { s with toks:=tk }) :
  zc (za X.prog X.w) A (call (.builtin "isinstance") [u,c]) Q E s:=by
 cases ty with
 | non=>cases (show u=qx from rx);exact QD PySem.W.kitx_none I.kIn QT e (λz=>nomatch z) h
 | bl y=>cases (show u=xv y from rx);exact QD PySem.W.kitx_bool I.kIn QT e (λz=>nomatch z) h
 | int i=>obtain⟨t,q⟩:=(show ∃ t,u=KR i t from rx);cases q;exact QD PySem.W.kitx_int I.kIn QT e (λz=>nomatch z) h
 | str y=>obtain⟨t,q⟩:=(show ∃ t,u=XD y t from rx);cases q;exact QD PySem.W.kitx_str I.kIn QT e (λz=>nomatch z) h
 | flt y=>obtain⟨t,q⟩:=(show ∃ t,u=Dn y t from rx);cases q;exact QD PySem.W.kitx_float I.kIn QT e (λz=>nomatch z) h
 | @lst a xs d =>
  cases (show u=jv a from rx);obtain⟨_,_,n,_,f⟩:=(show jz X.prog X.w H s.heap a (.lst xs) from I.hok a _ d)
  exact QD Dp I.kIn ⟨_,f,rfl⟩ e (λz=>nomatch z) h
 | @frz a ob xs d =>
  cases (show u=jv a from rx);obtain⟨_,_,_,n,_,f⟩:=(show jz X.prog X.w H s.heap a (.frz ob (.lst xs)) from I.hok a _ d)
  exact QD Dp I.kIn ⟨_,f,rfl⟩ e (λz=>nomatch z) h
 | @tup a xs d =>
  cases (show u=jv a from rx);obtain⟨_,_,_,p⟩:=(show jz X.prog X.w H s.heap a (.tup xs) from I.hok a _ d)
  obtain⟨o,f,g,_⟩:=p;exact QD l7 I.kIn ⟨o,f,g⟩ e (λz=>nomatch z) h
 | @dK a kvs d =>
  cases (show u=jv a from rx);obtain⟨_,_,vs,_,p⟩:=(show jz X.prog X.w H s.heap a (.dK kvs) from I.hok a _ d)
  obtain⟨o,es,l,f,g,_⟩:=p;exact QD IJ I.kIn ⟨o,f,g.1⟩ e (λz=>nomatch z) h
 | @dT a kvs d =>
  cases (show u=jv a from rx);obtain⟨_,_,xs,_,o,es,l,f,g,_⟩:=(show jz X.prog X.w H s.heap a (.dT kvs) from I.hok a _ d)
  exact QD IJ I.kIn ⟨o,f,g.1⟩ e (λz=>nomatch z) h
 | @ins a C r fs d cl ha m j hm =>
  cases (show u=jv a from rx);obtain⟨v,O,_⟩:=Ym I.hok d;obtain⟨B,J,_⟩:=O.look;exact QD (PySem.W.kitx_own (cl.get _) cl.hd ha m j hm) I.kIn J e (λz=>nomatch z) h
end
structure jE (k:Nat) (A:jf):Prop where
 hd:A.handled=zB
 dp:A.depth+3 * k+5 < Ea
 un:A.units+16 * k+200 < Zu
theorem jE.mono {j k:Nat} (r:jE k A) (h:j <= k):jE j A:=⟨r.hd,by have:=r.dp;lia,by have:=r.un;lia⟩
theorem jE.deeper {k:Nat} (r:jE (k+1) A) (env:Env):jE k (A.deeper env) :=
 ⟨r.hd,by have:=r.dp;show A.depth+1+3 * k+5 < _;lia,by have:=r.un;show A.units+3+16 * k+200 < _;lia⟩
theorem Na {A:jf}{C:zN}{us:List zO}{c:List (Str×zO)}:(A.under (.builtin "type.__call__" ⟨.ref C::us,c⟩)).depth=A.depth+1:=by
 first | rfl | simp[dR,Code.weight,Code.isCreation,Code.isGuard,Code.isCaller,n8,b8,guardIds]
theorem FU {A:jf}{C:zN}{us:List zO}{c:List (Str×zO)}:(A.under (.builtin "type.__call__" ⟨.ref C::us,c⟩)).units=A.units+1:=by
 first | rfl | simp[dR,Code.cUnits,n8,b8]
theorem jE.make {k:Nat} (r:jE (k+1) A) (C:zN) (us:List zO) (c:List (Str×zO)):jE k (A.under (.builtin "type.__call__" ⟨.ref C::us,c⟩)) :=
 ⟨r.hd,by have:=r.dp;rw[Na];lia,by have:=r.un;rw[FU];lia⟩
theorem jE.depth {k:Nat} (r:jE k A):A.depth < Ea:=by have:=r.dp;lia
theorem jE.units {k:Nat} (r:jE k A):A.units+64 < Zu:=by have:=r.un;lia
theorem jE.units0 {k:Nat} (r:jE k A):A.units < Zu:=by have:=r.un;lia
def Uq:TA:=λ_ H Q=>Q [] H
def Cz (c:TE) (d:TA):TA:=λσ H Q=>c σ H λx e=>d σ e λxs f=>Q (x::xs) f
section
variable {X:Cx}{e:zi}{es:List zi}{te:TE}{t:TA}{pos:Pos}
theorem WZ:PA X [] Uq:=λ_ _ _ _ H Q I h=>mL ⟨[],H,I,.nil,h⟩
theorem WO (ha:PE X e te) (d:PA X es t) (f:jS (e::es) X.env=(zP,eval e X.env)::jS es X.env:=by rfl):PA X (e::es) (Cz te t):=by
 intro pos c s σ H Q I h;rw[f];show zc _ _ (spliced ((zP,eval e X.env)::qT pos (jS es X.env))) _ _ s;refine Ek (jC (ha c s σ H _ I h) λu s1 x g i j l=>?_);exact jC (d pos c s1 σ g _ i l) λus s2 xs m n o p=>⟨x::xs,m,n,.cons j o,p⟩
def lb (t:TA):TE:=λσ H Q=>t σ H λxs c=>xs.length <= z5/\∀ p,c p=zB->Q (.ref p) (upd c p (.tup xs))
def Hs (t:TA):TE:=λσ H Q=>t σ H λxs c=>xs.length <= z5/\∀ p,c p=zB->Q (.ref p) (upd c p (.lst xs))
theorem Lk {g} (h:PA X es t):PE X (.Tuple es g pos) (lb t):=by
 intro c s σ H Q I i;refine wpAny_Tuple_spliced (jC (h pos c s σ H _ I i) λus s1 xs d f r ⟨z,q⟩=>⟨by rw[<- r.length];exact z,?_⟩);have j:d s1.heap.objs.size=zB:=f.hok.fresh (jB _);refine⟨.ref s1.heap.objs.size,upd d s1.heap.objs.size (.tup xs),f.laid (t':=s1.toks) (λb u e=>j0 _ e) (jB _) ?_,rfl,q _ j⟩;exact⟨z,us,r,⟨_,yV _ rfl,rfl,_,rfl⟩⟩
theorem Ot (h:PA X es t):PE X (.List es pos) (Hs t):=by
 intro c s σ H Q I g;refine wpAny_List_spliced (jC (h pos c s σ H _ I g) λus s1 xs d f r ⟨z,q⟩=>⟨by rw[<- r.length];exact z,?_⟩);have i:d s1.heap.objs.size=zB:=f.hok.fresh (jB _);refine⟨.ref s1.heap.objs.size,upd d s1.heap.objs.size (.lst xs),f.laid (t':=s1.toks) (λb u e=>j0 _ e) (jB _) ?_,rfl,q _ i⟩;exact⟨z,us,0,r,yV _ rfl⟩
end
abbrev Sp:=List V->Hp->VK->XK->Prop
abbrev CXT:=List Env->Hp->zU->XK->zO->zU->Prop
structure ke (P:jF) (w:z7) (K:zV) (mg:Str->Option zO) (base:zg) (A:jf) (outer:List Env) (s:zU) (H:Hp):Prop where
 frames:A.frames=zA outer
 mod:Mod K mg base
 bs:∀ b o,base.get? b=zA o->s.heap.get? b=zA o/\H b=zB
 bsz:base.objs.size <= s.heap.objs.size
 funs:s.heap.FunFrames base outer
 frf:∀ b∈frs outer,H b=zB
 hok:HOk P w H s.heap
 bare:Je s.gens
def CE (outer:List Env) (P:jF) (w:z7) (H:Hp) (s:zU) (Q:VK) (u:zO) (s':zU):Prop :=
 ∃ v c,s'.os=s.os/\Je s'.gens/\Un (frs outer) [] H c s.heap s'.heap/\HOk P w c s'.heap/\zx v u/\Q v c
def CR (CX:CXT) (outer:List Env) (P:jF) (w:z7) (H:Hp) (s:zU) (Q:VK) (E:XK) (r:Yp) (s':zU):Prop :=
 match r with
 | .ok (.ret u)=>CE outer P w H s Q u s'
 | .ok _=>False
 | .error e=>CX outer H s E e s'
structure z4 (P:jF) (w:z7) (K:zV) (mg:Str->Option zO) (base:zg) (CX:CXT) (k:Nat) (f:zN) (fd:Jr) (ps:List Str) (sp:Sp):Prop where
 len:∀ vs H Q E,sp vs H Q E->vs.length=ps.length
 run:∀ (A:jf) (outer:List Env) (s:zU) (H:Hp) (args:Args) (us:List zO) (vs:List V) (Q:VK) (E:XK),jE k A->ke P w K mg base A outer s H->(0 < s.toks\/∃ p∈ps,fd.scope.names.lookup p=zA .local)->K8 s fd args (ps.zip us)->z6 vs us->sp vs H Q E ->
  xB (za P w) A (.call (.ref f) args) (CR CX outer P w H s Q E) s
theorem z4.imp {P:jF}{w:z7}{K:zV}{mg:Str->Option zO}{base:zg}{k:Nat}{sp c:Sp} (F:z4 P w K mg base CX k f fd ps sp)
  (h:∀ vs H Q E,c vs H Q E->sp vs H Q E):z4 P w K mg base CX k f fd ps c :=
 ⟨λvs H Q E q=>F.len vs H Q E (h _ _ _ _ q),λA outer s H args us vs Q E d e g i j l=>F.run A outer s H args us vs Q E d e g i j (h _ _ _ _ l)⟩
theorem ke.make {P:jF}{w:z7}{K:zV}{mg:Str->Option zO}{base:zg}{outer:List Env} (e:ke P w K mg base A outer s H) (C:zN) (us:List zO) (c:List (Str×zO)) :
  ke P w K mg base (A.under (.builtin "type.__call__" ⟨.ref C::us,c⟩)) outer s H:=⟨by first | exact e.frames | (simpa [dR,Code.envs,b8,pushEnvs] using e.frames),e.mod,e.bs,e.bsz,e.funs,e.frf,e.hok,e.bare⟩
section
variable {X:Cx}{pins:List (zN×Obj)}{σ:St}{H:Hp}{s s':zU}
theorem Inv.env0 (I:Inv X pins σ H s):ke X.prog X.w X.K X.mg X.base X.A X.stack s H :=
 ⟨I.ok.frames,I.ok.mod,I.bs,qe I.ok.bsz I.sz,I.stack,I.stkFree,I.hok,I.bare⟩
theorem Inv.after (I:Inv X pins σ H s) (h:CE X.stack X.prog X.w H s Q u s') (e:0 < s'.toks):EP X pins σ Q u s':=by
 obtain⟨v,f,os,bare,un,hok,r,q⟩:=h;obtain⟨i,g,d,t,c⟩:=s';obtain rfl:c=s.os:=os;exact⟨v,f,I.call (h':=i) (g':=g) (d':=d) (t':=t) (ch:=[]) un hok bare (λb z=>absurd z (by simp)) e,r,q⟩
end
def DQ (sp:Sp) (c:List V) (E:XK) (t:TA):TE:=λσ H Q=>t σ H λvs d=>sp (vs++c) d Q E
def wy (C:zN) (m:Str) (sp:Sp) (c:List V) (E:XK) (e:TE) (t:TA):TE:=λσ H Q=>e σ H λx d=>∃ a f fs,x=.ref a/\d a=zA (.ins C f fs)/\fs.lookup m=zB /\
 t σ d λvs g=>sp (x::(vs++c)) g Q E
def Bi (C:zN) (sp:Sp) (d:List V) (E:XK) (t:TA):TE:=λσ H Q=>t σ H λvs e=>∀ x c,e x=zB->e c=zB->c≠x ->
 sp (.ref x::(vs++d)) (upd (upd e c (.own x)) x (.ins C c [])) (λv f=>v=.non/\Q (.ref x) f) E
def yx (K:zV) (fd:Jr) (ps:List Str) (ds:List zO):Prop :=
 ∀ (s:zU) (us:List zO),K.In s.heap->(us++ds).length=ps.length->K8 s fd ⟨us,[]⟩ (ps.zip (us++ds))
theorem yx.all {K:zV}{ps:List Str} (h:∀ us:List zO,us.length=ps.length->aX fd ⟨us,[]⟩=pure (ps.zip us)):yx K fd ps []:=λs us _ c=>by
 rw[qo] at c ⊢;exact .of_eq (h us c)
def ZV (CX:CXT) (X:Cx) (E:XK):Prop:=∀ (c:List (zN×Obj)) (σ:St) (H:Hp) (s:zU) (e:zO) (s':zU),Inv X c σ H s->CX X.stack H s E e s'->X.xe e s'
section
variable {X:Cx}{CX:CXT}{k:Nat}{f C:zN}{fd:Jr}{ps:List Str}{sp:Sp}{dvs:List V}{ds:List zO}{E:XK}{x m:Str}{p pos apos:Pos}{e o:zi}{es:List zi}{ta:TE}{t:TA}
theorem ay {Q:VK} (F:z4 X.prog X.w X.K X.mg X.base CX k f fd ps sp) (j:jE k X.A) (l:yx X.K fd ps ds) (hd:z6 dvs ds) (hx:ZV CX X E)
  (I:Inv X c σ H s) (r:z6 vs us) (h:sp (vs++dvs) H Q E):zc (za X.prog X.w) X.A (call (.ref f) us) (EP X c σ Q) X.xe s:=by
 have i:z6 (vs++dvs) (us++ds):=r.append hd;have q:(us++ds).length=ps.length:=by rw[<- i.length];exact F.len _ _ _ _ h
 refine vx (Xf (EN (n:=1) I.tk (F.run X.A X.stack s H ⟨us,[]⟩ (us++ds) (vs++dvs) Q E j I.env0 (.inl I.tk) (l s us I.kIn q) i h)) λr s' ⟨g,d⟩=>?_);cases r with
 | error e=>exact hx c σ H s e s' I d
 | ok fl =>
  cases fl with
  | ret u=>exact I.after d g
  | next=>exact jZ d
  | brk=>exact jZ d
  | cont=>exact jZ d
theorem HV (F:z4 X.prog X.w X.K X.mg X.base CX k f fd ps sp) (j:jE k X.A) (l:Gl X x) (hm:X.mg x=zA (.ref f)) (n:yX X.K (.ref f)=zC) (u:yx X.K fd ps ds) (hd:z6 dvs ds) (hx:ZV CX X E)
  (ha:PA X (e::es) t) (d:(x == ("__debug__" : Str))=zP:=by decide) (v:jS (e::es) X.env=(zP,eval e X.env)::jS es X.env:=by rfl) (g:(qT pos (jS es X.env)).any (·.1)=zP:=by rfl) :
  PE X (.Call (.Name x p) (e::es) [] pos) (DQ sp dvs E t):=by
 intro c s σ H Q I h;refine K3 (VL I l hm ?_ d);refine AK (h₀:=X.base) I.ok.mod.kin n (jC (ha pos c s σ H _ I h) λus s1 vs y i r q=>⟨i.kIn,?_⟩) v g;exact ay F j u hd hx i r q
theorem N7 (y:PE X o ta) (c:Cls X.K C) (hm:KP X.K C m f) (F:z4 X.prog X.w X.K X.mg X.base CX k f fd ps sp) (z:jE k X.A) (B:yx X.K fd ps ds) (hd:z6 dvs ds) (hx:ZV CX X E) (ha:PA X (e::es) t)
  (g:jS (e::es) X.env=(zP,eval e X.env)::jS es X.env:=by rfl) (i:(qT pos (jS es X.env)).any (·.1)=zP:=by rfl)
  (G:eval (.Call (.Attribute o m apos) (e::es) [] pos) X.env=(do
   let j <- eval o X.env
   Qh apos.atName
   let (f,first) <- holding [j] (XO j m pl)
   kF pos f first (qT pos (jS (e::es) X.env)) (Jw pos (J5 [] X.env))):=by rfl) :
  PE X (.Call (.Attribute o m apos) (e::es) [] pos) (wy C m sp dvs E ta t):=by
 intro d s σ H Q I h;refine BS (pl:=pl) (jC (y d s σ H _ I h) λu s1 x J n rx ⟨a,N,fs,ex,L,l,q⟩=>?_) G;subst ex;obtain rfl:u=jv a:=rx;refine Wt n L c hm l ?_;refine AK (first:=[.ref a]) (h₀:=X.base) I.ok.mod.kin hm.kp (jC (ha pos d s1 σ J _ n q) λus s2 vs U v r M=>⟨v.kIn,?_⟩) g i;exact ay (us:=.ref a::us) (vs:=.ref a::vs) F z B hd hx v (.cons rfl r) M
theorem nB (j:PE X o ta) (c:Cls X.K C) (hm:KP X.K C m f) (F:z4 X.prog X.w X.K X.mg X.base CX k f fd ps sp) (n:jE k X.A) (r:yx X.K fd ps ds) (hd:z6 dvs ds) (hx:ZV CX X E)
  (v:eval (.Call (.Attribute o m apos) [] [] pos) X.env=(do
   let i <- eval o X.env
   Qh apos.atName
   let (f,first) <- holding [i] (XO i m pl)
   kF pos f first (qT pos (jS [] X.env)) (Jw pos (J5 [] X.env))):=by rfl) :
  PE X (.Call (.Attribute o m apos) [] [] pos) (wy C m sp dvs E ta Uq):=by
 intro d s σ H Q I h;refine BS (pl:=pl) (jC (j d s σ H _ I h) λu s1 x z g rx ⟨a,B,fs,ex,y,l,q⟩=>?_) v;subst ex;obtain rfl:u=jv a:=rx;refine Wt g y c hm l ?_;exact hG (first:=[.ref a]) g.kIn hm.kp (ay (us:=[.ref a]) (vs:=[.ref a]) F n r hd hx g (.cons rfl .nil) q)
structure Mk (K:zV) (C f:zN):Prop where
 makes:JO K C=zC
 init:jb K (.ref C) "__init__" = zA (zA (.ref f))
 fn:YF K (.ref f)=zC
 kp:yX K (.ref C)=zC
theorem cj {Q:VK} (M:Mk X.K C f) (F:z4 X.prog X.w X.K X.mg X.base CX k f fd ps sp) (y:jE (k+1) X.A) (z:yx X.K fd ps ds) (hd:z6 dvs ds)
  (hx:ZV CX X E) (I:Inv X d σ H s) (r:z6 vs us)
  (h:∀ x i,H x=zB->H i=zB->i≠x->sp (.ref x::(vs++dvs)) (upd (upd H i (.own x)) x (.ins C i [])) (λv B=>v=.non/\Q (.ref x) B) E) :
  zc (za X.prog X.w) X.A (call (.ref C) us) (EP X d σ Q) X.xe s:=by
 have l:=h (s.heap.objs.size+1) s.heap.objs.size (I.hok.fresh (Jy _)) (I.hok.fresh (jB _)) (je (u6 _));have g:=Inv.made (C:=C) I;have q:z6 (V.ref (s.heap.objs.size+1)::(vs++dvs)) (jv (s.heap.objs.size+1)::(us++ds)):=.cons rfl (r.append hd);have G:(jv (s.heap.objs.size+1)::us++ds).length=ps.length:=by
  have e:=q.length;rw[F.len _ _ _ _ l] at e;exact e.symm
 refine vx (p8 (f:=f) I.kIn M.makes M.init (beq_iff_eq.mp M.fn) (Xf (EN (n:=1) g.tk (F.run _ X.stack _ _ ⟨jv (s.heap.objs.size+1)::us,[]⟩ (jv (s.heap.objs.size+1)::(us++ds)) _ _ E (y.make C us [])
  (g.env0.make C us []) (.inl g.tk) (z _ (jv (s.heap.objs.size+1)::us) g.kIn G) q l)) λr s' ⟨j,c⟩=>?_))
 cases r with
 | error e=>exact hx d σ _ _ e s' g c
 | ok fl =>
  cases fl with
  | ret u =>
   obtain⟨v,J,L,N,U,Y⟩:=g.after c j;subst U;exact⟨N,⟨V.ref (s.heap.objs.size+1),J,L,rfl,Y⟩⟩
  | next=>exact jZ c
  | brk=>exact jZ c
  | cont=>exact jZ c
theorem N5 (M:Mk X.K C f) (F:z4 X.prog X.w X.K X.mg X.base CX k f fd ps sp) (j:jE (k+1) X.A) (l:Gl X x) (hm:X.mg x=zA (.ref C)) (n:yx X.K fd ps ds) (hd:z6 dvs ds) (hx:ZV CX X E)
  (ha:PA X (e::es) t) (d:(x == ("__debug__" : Str))=zP:=by decide) (u:jS (e::es) X.env=(zP,eval e X.env)::jS es X.env:=by rfl) (g:(qT pos (jS es X.env)).any (·.1)=zP:=by rfl) :
  PE X (.Call (.Name x p) (e::es) [] pos) (Bi C sp dvs E t):=by
 intro c s σ H Q I h;refine K3 (VL I l hm ?_ d);refine AK (h₀:=X.base) I.ok.mod.kin M.kp (jC (ha pos c s σ H _ I h) λus s1 vs v i r q=>⟨i.kIn,?_⟩) u g;exact cj M F j n hd hx i r q
theorem hD (M:Mk X.K C f) (F:z4 X.prog X.w X.K X.mg X.base CX k f fd ps sp) (g:jE (k+1) X.A) (i:Gl X x) (hm:X.mg x=zA (.ref C)) (j:yx X.K fd ps ds) (hd:z6 dvs ds) (hx:ZV CX X E)
  (c:(x == ("__debug__" : Str))=zP:=by decide):PE X (.Call (.Name x p) [] [] pos) (Bi C sp dvs E Uq):=by
 intro d s σ H Q I h;refine K3 (VL I i hm ?_ c);exact hG I.kIn M.kp (cj (us:=[]) M F g j hd hx I .nil h)
end
def PK (X:Cx) (d:List Vc) (t:TA):Prop :=
 ∀ (pos:Pos) (c:List (zN×Obj)) (s:zU) (σ:St) (H:Hp) (Q:List V->Hp->Prop),Inv X c σ H s->t σ H Q->zc (za X.prog X.w) X.A (evalAll ((Jw pos (J5 d X.env)).map (·.2))) (AP X c σ Q) X.xe s
section
variable {X:Cx}{CX:CXT}{k:Nat}{f C:zN}{fd:Jr}{ps ks:List Str}{sp:Sp}{E:XK}{x m:Str}{p pos apos kpos:Pos}{e o:zi}{es:List zi}{kws:List Vc}{te ta:TE}{t tk:TA}{nm:Option Str}
theorem pe:PK X [] Uq:=λ_ _ _ _ H Q I h=>wpAny_evalAll_nil ⟨[],H,I,.nil,h⟩
theorem MY (ha:PE X e te) (d:PK X kws t):PK X (⟨nm,e,kpos⟩::kws) (Cz te t):=by
 intro pos c s σ H Q I h;show zc _ _ (evalAll ((do let v <- eval e X.env;Qh pos;pure v)::(Jw pos (J5 kws X.env)).map (·.2))) _ _ s;refine wpAny_evalAll_cons (zw (jC (ha c s σ H _ I h) λu s1 x g i j l=>zw (Xo (jx ?_))));exact jC (d pos c s1 σ g _ i l) λus s2 xs n q r y=>⟨x::xs,n,q,.cons j r,y⟩
variable {g:List zO->List zO->List zO}{gV:List V->List V->List V}
end
structure jG (N P:List Str) (sc:QF):Prop where
 kind:sc.kind=.function
 co:sc.isCoroutine=zP
 gen:sc.isGenerator=zP
 nd:N.Nodup
 pre:N.take P.length=P
 par:∀ x∈P,sc.names.lookup x=zA .local\/sc.names.lookup x=zA .cell
 nofree:∀ y∈sc.names,y.2≠.free
theorem Do {kindOf:Str->Option kh}{x:Str}:∀ {binds:List (Str×zO)}{m:Str->Option zO},(∀ v,(x,v)∉binds)->QQ kindOf binds m x=m x
 | [],_,_=>rfl
 | (n,v)::r,m,h=>by
  unfold QQ;rw[Do λw hw=>h w (jj _ hw)];split
  ·have:x≠n:=by rintro rfl;exact h v qM
   simp[this]
  ·rfl
theorem cF {kindOf:Str->Option kh}{x:Str}:∀ {binds:List (Str×zO)}{m:Str->Option zO},(∀ v,(x,v)∉binds)->QS kindOf binds m x=m x
 | [],_,_=>rfl
 | (n,v)::r,m,h=>by
  unfold QS;rw[cF λw hw=>h w (jj _ hw)];split
  ·rfl
  ·have:x≠n:=by rintro rfl;exact h v qM
   simp[this]
theorem DO {kindOf:Str->Option kh}{x:Str}{v:zO}:∀ {P:List Str}{vs:List zO}{i:Nat}{m:Str->Option zO},P.Nodup->P[i]? = zA x->vs[i]? = zA v->kindOf x=zA .local ->
  QQ kindOf (P.zip vs) m x=zA v
 | [],_,_,_,_,h,_,_=>by simp at h
 | _::_,[],_,_,_,_,h,_=>by simp at h
 | p::P,w::vs,0,m,nd,c,d,e=>by
  simp at c d;subst c;subst d;show QQ kindOf ((p,w)::P.zip vs) m p=_;unfold QQ;rw[Do λv f=>(Q4.mp nd).1 (Dy f).1,if_pos e];simp
 | p::P,w::vs,i+1,m,nd,c,d,e=>by
  show QQ kindOf ((p,w)::P.zip vs) m x=_;unfold QQ;exact DO (i:=i) (Q4.mp nd).2 (by simpa using c) (by simpa using d) e
theorem Em {kindOf:Str->Option kh}{x:Str}{v:zO}:∀ {P:List Str}{vs:List zO}{i:Nat}{m:Str->Option zO},P.Nodup->P[i]? = zA x->vs[i]? = zA v->kindOf x≠zA .local ->
  QS kindOf (P.zip vs) m x=zA v
 | [],_,_,_,_,h,_,_=>by simp at h
 | _::_,[],_,_,_,_,h,_=>by simp at h
 | p::P,w::vs,0,m,nd,c,d,e=>by
  simp at c d;subst c;subst d;show QS kindOf ((p,w)::P.zip vs) m p=_;unfold QS;rw[cF λv f=>(Q4.mp nd).1 (Dy f).1,if_neg e];simp
 | p::P,w::vs,i+1,m,nd,c,d,e=>by
  show QS kindOf ((p,w)::P.zip vs) m x=_;unfold QS;exact Em (i:=i) (Q4.mp nd).2 (by simpa using c) (by simpa using d) e
noncomputable def Ql (N:List Str) (vs:List V):St:=vs.map zA++zm (N.length - vs.length) zB
noncomputable def yf (CX:CXT) (P:jF) (w:z7) (K:zV) (mg:Str->Option zO) (base:zg) (N:List Str) (qual:Str) (scope:QF) (f:zN) (d:zO) (A:jf) (outer:List Env) (s:zU) (H:Hp) (E:XK):Cx where
 prog:=P
 w:=w
 K:=K
 mg:=mg
 base:=base
 A:=A.deeper (y8 qual scope s.heap.objs.size f d)
 N:=N
 s₀:=s
 H₀:=H
 env:=y8 qual scope s.heap.objs.size f d
 outer:=outer
 stack:=y8 qual scope s.heap.objs.size f d::outer
 ex:=[]
 calm:=true
 fn:=λ_=>zC
 pn:=[]
 xe:=λe s'=>zc (za P w) (A.deeper (y8 qual scope s.heap.objs.size f d)) (az (y8 qual scope s.heap.objs.size f d) e) (λ_ c=>CX outer H s E e c) (λg c=>CX outer H s E g c) s'
theorem E1 {d:QF}{x:Str} (h:d.names.lookup x=zA .cell):∃ c,(VN n d.names []).lookup x=zA c:=by
 have q:=La d.names n [] (.inl h);exact A2.mp q
theorem bN {M:Q9}{env:Env} (f:Str×zO->PUnit->Sem (ForInStep PUnit)) (H:∀ n v u,f (n,v) u=(do Bn env n v;pure (.yield ⟨⟩))) (G:env.scope.kind=.function) :
  ∀ (binds:List (Str×zO)) (m q:Str->Option zO) (s:zU) (Q:PUnit->zU->Prop),Ut s₀ env.locals m env.cells q s ->
   (∀ x∈binds,env.kindOf x.1=zA .local\/(env.kindOf x.1=zA .cell/\(env.cells.lookup x.1).isSome=zC)) ->
   (∀ s',Ut s₀ env.locals (QQ env.kindOf binds m) env.cells (QS env.kindOf binds q) s'->((0 < s.toks\/∃ b∈binds,env.kindOf b.1=zA .local)->0 < s'.toks)->Q ⟨⟩ s')->zc M A (forIn binds ⟨⟩ f) Q E s
 | [],m,q,s,Q,x,_,h=>by
  rw[List.forIn_nil];exact jx (h s x λz=>z.elim id λ⟨b,t,_⟩=>absurd t (by simp))
 | (n,v)::r,m,q,s,Q,x,d,h=>by
  rw[List.forIn_cons,H];have N:∀ y∈r,env.kindOf y.1=zA .local\/(env.kindOf y.1=zA .cell/\(env.cells.lookup y.1).isSome=zC):=λy Y=>d y (jj _ Y);rcases d (n,v) qM with l | ⟨l,p⟩
  ·refine zw (zw (ng l x.toInCall.ns (λh' I B=>jx (bN f H G r (λy=>if y=n then zA v else m y) q _ Q ⟨⟨?_,I,λb o e=>?_,x.toInCall.fresh⟩,λk c p=>?_,x.apart,x.above⟩ N λg i J=>h g ?_ λ_=>J (.inl (yt _)))) (by rw[G];rfl)))
   ·obtain⟨U,tk,rfl⟩:=x.toInCall.same;exact⟨h',_,rfl⟩
   ·exact B.extBut b o (je (j6 (jM e) x.toInCall.fresh)) (x.toInCall.keep b o e)
   ·exact (x.cell k c p).sameBut B (QZ (x.above k c (xS p)))
   ·unfold QQ QS;rw[if_pos l,if_pos l];exact i
  ·obtain⟨c,p⟩:=A2.mp p;have j:¬ env.kindOf n=zA .local:=by rw[l];decide
   refine zw (zw (ZL (n:=s.toks) (jB _) (stCC x G l p λs' x' L=>jx (bN f H G r m _ s' Q x' N λg i J=>h g ?_ λz=>J ?_))))
   ·unfold QQ QS;rw[if_neg j,if_neg j];exact i
   ·rcases z with z | ⟨b,t,C⟩
    ·exact .inl (j6 z L)
    ·rcases jc.mp t with rfl | t
     ·exact absurd C j
     ·exact .inr ⟨b,t,C⟩
theorem iy {M:Q9}{s:zU}{scope:QF}{af:zN}{binds:List (Str×zO)}{code:zO}{Q:Env->zU->Prop}
  (i:scope.kind=.function)
  (g:∀ x∈binds,scope.names.lookup x.1=zA .local\/(scope.names.lookup x.1=zA .cell/\((VN (s.heap.objs.size+1) scope.names []).lookup x.1).isSome=zC))
  (j:∀ env,env=newEnv scope s.heap.objs.size af (VN (s.heap.objs.size+1) scope.names []) qual f code zB d ->
   ∀ s',Ut s env.locals (QQ env.kindOf binds λ_=>zB) env.cells (QS env.kindOf binds λ_=>zB) s'->((0 < s.toks\/∃ b∈binds,scope.names.lookup b.1=zA .local)->0 < s'.toks)->Q env s') :
  zc M A (cV scope af [] binds qual f code zB d) Q E s:=by
 simp only[cV,av,qj,if_false];refine zw (wpAny_alloc ?_);refine zw (wpAny_layCells _ (λname kind cells=>by cases h:kind == vq<;>simp[h]) _ _ _ _ ?_);have ok:=cellsFrom_ok scope.names (s.heap.push { cls:=.type "frame",data:=.dict #[] }) (s.heap.objs.size+1) [] ⟨λ_ _ hm=>(nomatch hm),aY⟩ (by rw[JV];exact jB _);rw[JV] at ok;rw[show ({ s with heap:=s.heap.push { cls:=.type "frame",data:=.dict #[] } }:zU).heap.objs.size=s.heap.objs.size+1 from JV ..];refine zw (bN (s₀:=s) (env:=newEnv scope s.heap.objs.size af (VN (s.heap.objs.size+1) scope.names []) qual f code zB d)
  _ (λ_ _ _=>rfl) i binds (λ_=>zB) (λ_=>zB) _ _
  ⟨⟨⟨_,_,rfl⟩,(Heap.Ns.new s.heap (.type "frame")).keeps (Np _ _),λb o e=>Np _ _ b o (j0 _ e),jB _⟩,
   λn c l=>(ok.empty n c (xS l)).1,ok.apart,λn c hm=>(ok.empty n c hm).2⟩
  g λs' x m=>jx (j _ rfl s' x m))
theorem gr {P:jF}{w:z7}{K:zV}{mg:Str->Option zO}{base:zg}{A:jf}{outer:List Env}{vs:List V}
  (S:jG N ps scope) (hd:A.handled=zB) (g:ke P w K mg base A outer s H) (M:vs.length=ps.length) (r:z6 vs us)
  (x:Ut s s.heap.objs.size (QQ (y8 qual scope s.heap.objs.size f B).kindOf (ps.zip us) λ_=>zB) (VN (s.heap.objs.size+1) scope.names []) (QS (y8 qual scope s.heap.objs.size f B).kindOf (ps.zip us) λ_=>zB) s1) (I:0 < s1.toks) :
  Inv (yf CX P w K mg base N qual scope f B A outer s H E) [] (Ql N vs) H s1:=by
 have J:ps.length <= N.length:=by have:=congrArg List.length S.pre;rw[xD] at this;lia
 obtain⟨t,tk,rfl,C⟩:=x.done;have j:∀ b:zN,b∉(yf CX P w K mg base N qual scope f B A outer s H E).ex:=λb z=>absurd (show b∈([]:List zN) from z) (by simp);refine⟨⟨g.mod,S.kind,rfl,rfl,jB _,λy z c t d=>?_,λy l=>?_,λy c _ h=>?_,λ_=>hd,Around.frames_deeper g.frames,.inr ⟨rfl,rfl⟩,λb z=>absurd z (j b),g.bs,g.bsz,λb _ _=>j b,λb z=>absurd z (j b),g.funs,g.frf⟩,
  rfl,g.bare,Un.kept C,⟨_,x.toInCall.ns,λi y v t d Q=>?_⟩,λy c h=>⟨_,x.cell y c h⟩,g.hok.fresh (jB _),λy c h=>?_,λp m=>absurd (show p∈([]:List (zN×Obj)) from m) (by simp),g.hok.kept C,?_,I⟩
 ·exact name_of_addr x.apart (xS t) (xS d)
 ·have l:scope.names.lookup y=zA .cell\/scope.names.lookup y=zA .free:=l;rcases l with l | l
  ·exact E1 l
  ·exact absurd rfl (S.nofree _ (xS l))
 ·exact Wh (x.above y c (xS h))
 ·have hi:i < vs.length:=by
   unfold Ql at d;by_cases hi:i < vs.length
   ·exact hi
   ·rw[yi (by simpa using hi)] at d;rw[KS] at d;split at d<;>cases d
  have ha:vs[i]? = zA v:=by
   unfold Ql at d;rw[yQ (by simpa using hi),y9] at d;cases e:vs[i]? with
   | none=>rw[e] at d;cases d
   | some a=>rw[e] at d;cases d;rfl
  obtain⟨u,G,L⟩:=r.get ha;have m:ps[i]? = zA y:=by
   rw[<- S.pre,HM (by lia)];exact t
  have o:ps.Nodup:=by rw[<- S.pre];exact S.nd.sublist (List.take_sublist _ _)
  refine⟨u,L,?_⟩;rcases S.par y (ZW m) with k | k
  ·exact .inl ⟨k,DO o m G k⟩
  ·obtain⟨c,e⟩:=E1 (n:=s.heap.objs.size+1) k;refine .inr ⟨.inl k,c,e,?_⟩;have q:=x.cell y c e;rw[Em o m G (by show scope.names.lookup y≠_;rw[k];decide)] at q;exact q
 ·exact g.hok.fresh (Wh (x.above y c (xS h)))
 ·unfold Ql;show _=N.length;rw[ZI,qd,w4]
  lia
theorem EC {P:jF}{w:z7}{K:zV}{mg:Str->Option zO}{base:zg}{k:Nat}{f:zN}{kV pm oc:zO}{od:Option zN}
  {L:Array (Option zO)}{sp:Sp} (lk:K.lookup f=zA ⟨oc,od,.func (QJ name qual d h scope dV kV M pm an c ct),L⟩) (U:VY K c qual=zC) (S:jG N ps scope)
  (len:∀ vs H Q E,sp vs H Q E->vs.length=ps.length)
  (l:∀ (A:jf) (outer:List Env) (s:zU) (H:Hp) (vs:List V) (Q:VK) (E:XK),jE k (A.deeper (y8 qual scope s.heap.objs.size f c))->sp vs H Q E ->
   ∃ t,PSs (yf CX P w K mg base N qual scope f c A outer s H E) h t/\t { nx:=λ_ j=>Q .non j,rt:=Q } (Ql N vs) H) :
  z4 P w K mg base CX (k+1) f (QJ name qual d h scope dV kV M pm an c ct) ps sp:=by
 refine⟨len,λA outer s H args us vs Q E Y B htk hb r C=>?_⟩;have hl:=len _ _ _ _ C;have KX:K.In s.heap:=B.mod.kin.keeps λb o e=>(B.bs b o e).1;have lim:s.heap.NoLimit:=B.mod.nolimit.keeps λb o e=>(B.bs b o e).1;have m:∀ y∈ps.zip us,scope.names.lookup y.1=zA .local\/(scope.names.lookup y.1=zA .cell/\((VN (s.heap.objs.size+1) scope.names []).lookup y.1).isSome=zC):=λ⟨n,v⟩ hy=>by
  rcases S.par n (Dy hy).1 with q | q
  ·exact .inl q
  ·exact .inr ⟨q,La _ _ _ (.inl q)⟩
 refine codeAny_call_function Y.depth (KX _ _ lk) rfl S.co S.gen rfl (PySem.W.codeRec_of KX U) (hb _ _ _ _ ?_);refine iy S.kind m λenv he s1 x G=>?_;subst he;refine⟨lim.keeps x.toInCall.keep,codeAny_func ?_⟩;obtain⟨t,ht,hq⟩:=l A outer s H vs Q E (Y.deeper _) C;have I:Inv (yf CX P w K mg base N qual scope f c A outer s H E) [] (Ql N vs) H s1:=gr S Y.hd B hl r x (G (htk.imp id λ⟨p,hp,hpl⟩=>by
  obtain⟨i,hi,e⟩:=Qo.mp hp;have hu:i < us.length:=by rw[<- r.length,hl];exact hi
  exact⟨(p,us[i]),Qo.mpr ⟨i,by rw[List.length_zip];lia,by rw[List.getElem_zip,e]⟩,hpl⟩))
 refine ZD (ht [] s1 (Ql N vs) H _ I hq) (λfl s' z=>?_) λe s' z=>z;have fin:∀ {g:St}{j:Hp}{v:V}{u:zO},Inv (yf CX P w K mg base N qual scope f c A outer s H E) [] g j s'->zx v u->Q v j->CE outer P w H s Q u s' :=
  λ{g j v u} J rv q=>⟨v,j,J.os,J.bare,J.base,J.hok,rv,q⟩
 cases fl with
 | ret u =>
  obtain⟨v,g,j,J,rv,q⟩:=z;exact fin J rv q
 | next =>
  obtain⟨g,j,J,q⟩:=z;exact fin (v:=V.non) (u:=qx) J rfl q
 | brk =>
  obtain⟨_,_,_,q⟩:=z;exact jZ q
 | cont =>
  obtain⟨_,_,_,q⟩:=z;exact jZ q
section
variable {X:Cx}{x:Str}{p pos:Pos}{e:zi}{es:List zi}{t:TA}{id T:String}{r:List V->Hp->VK->Prop}
def tCB (r:List V->Hp->VK->Prop) (t:TA):TE:=λσ H Q=>t σ H λvs c=>r vs c Q
theorem eH (g:qp X (.builtin id) r) (i:Gl X x) (hm:X.mg x=zB) (j:yB x=zA (.builtin id)) (ha:PA X (e::es) t) (l:x ≠ "__name__" := by decide) (d:(x == ("__debug__" : Str))=zP:=by decide)
  (m:jS (e::es) X.env=(zP,eval e X.env)::jS es X.env:=by rfl) (f:(qT pos (jS es X.env)).any (·.1)=zP:=by rfl):PE X (.Call (.Name x p) (e::es) [] pos) (tCB r t):=by
 intro c s σ H Q I h;refine K3 (KZ I i hm j ?_ l d);exact rE (jC (ha pos c s σ H _ I h) λus s1 vs n o q u=>g c s1 σ n vs us Q o q u) m f
theorem HL (g:qp X (.type T) r) (i:Gl X x) (hm:X.mg x=zB) (j:yB x=zA (.type T)) (ha:PA X (e::es) t) (l:x ≠ "__name__" := by decide) (d:(x == ("__debug__" : Str))=zP:=by decide)
  (m:jS (e::es) X.env=(zP,eval e X.env)::jS es X.env:=by rfl) (f:(qT pos (jS es X.env)).any (·.1)=zP:=by rfl):PE X (.Call (.Name x p) (e::es) [] pos) (tCB r t):=by
 intro c s σ H Q I h;refine K3 (KZ I i hm j ?_ l d);exact ee (jC (ha pos c s σ H _ I h) λus s1 vs n o q u=>g c s1 σ n vs us Q o q u) m f
end
end L2
namespace HT
open PySem PyProof.Rows
section
variable {prog:jF}{w:z7}{A:jf}{E:zO->zU->Prop}{s:zU}
theorem Gi {b:zN}{vs c:List zO}{Q:zO->zU->Prop} (r:IsTup s.heap t vs.toArray) (u:IsTup s.heap b c.toArray) (l:vs≠[])
  (v:c=[]->Q (.ref t) s) (x:c≠[]->Q (.ref s.heap.objs.size) { s with heap:=s.heap.push { cls:=.type "tuple",data:=.seq (vs++c).toArray } })
  (hsz:vs.length+c.length <= z5):zc (za prog w) A (y4 .Add (.ref t) (.ref b)) Q E s:=by
 obtain⟨⟨cls,m,data,o⟩,j,p,n,hd⟩:=id r;obtain⟨⟨q,f,data2,g⟩,d,h,n2,i⟩:=id u;simp only at p hd h i;subst p hd h i;have e:vs.toArray++c.toArray=(vs++c).toArray:=by simp
 by_cases hw:c=[]
 ·exact concat_meets ⟨_,j,rfl⟩ ⟨_,d,rfl⟩ lO seq_tuple_add Pf Ig (Hf _ _)
   (tuple_addW1 t b vs.toArray c.toArray n n2 m f o g (by simpa using l) (by simp[hw])) ⟨j,d,v hw⟩
 ·refine concat_meets ⟨_,j,rfl⟩ ⟨_,d,rfl⟩ lO seq_tuple_add Pf Ig (Hf _ _)
   (tuple_addW2 t b vs.toArray c.toArray n n2 m f o g (by simpa using l) (by simpa using hw) (by rw[qY,qY];exact hsz)) ⟨j,d,?_⟩
  rw[e];exact x hw
end
end HT
namespace L2
open PySem PySem.Spec PyProof.Rows
abbrev TO:=St->Hp->(Option Int->Hp->Prop)->Prop
section
variable {X:Cx}{e:zi}{te:TE}{lo hi:Option zi}{tl th:TO}{pos p2:Pos}
def dP (K:zV):R2:=λx y H Q=>∃ a b xs c,x=.ref a/\y=.ref b/\SqT K H a xs/\SqT K H b c/\xs≠[]/\xs.length+c.length <= z5 /\
 (c=[]->Q (.ref a) H)/\(c≠[]->∀ p,H p=zB->Q (.ref p) (upd H p (.tup (xs++c))))
theorem z6.nil_iff (r:z6 xs us):us=[]↔xs=[]:=by
 cases r with
 | nil=>simp
 | cons _ _=>simp
theorem kE:OpR X (y4 .Add) (dP X.K):=by
 intro f s σ H x y v u Q I rx ry h;obtain⟨a,b,xs,j,rfl,rfl,ha,l,hx,g,m,n⟩:=h;cases rx;cases ry;obtain⟨p,d,r,_⟩:=I.tuple ha;obtain⟨i,c,p2,_⟩:=I.tuple l;refine HT.Gi r p2 (λz=>hx (d.nil_iff.mp z)) (λz=>⟨.ref a,H,I,rfl,m (c.nil_iff.mp z)⟩) (λz=>?_) (by rw[<- d.length,<- c.length];exact g);refine⟨.ref s.heap.objs.size,_,I.laid (t':=s.toks) (o:=.tup (xs++j)) (λb ob q=>j0 _ q) (jB _) ?_,rfl,n (λw=>z (c.nil_iff.mpr w)) _ (I.hok.fresh (jB _))⟩;exact⟨by rw[ZI];exact g,_,d.append c,dm _ _⟩
end
noncomputable def ixN (n:Nat) (i:Int):Option Nat:=if 0 <= i then (if i < n then zA i.toNat else zB) else if -(n:Int) <= i then zA (i+n).toNat else zB
def atI {c:Type} (xs:List c) (i:Int):Option c:=(ixN xs.length i).bind λj=>xs[j]?
theorem eQ {j:Nat} (h:ixN n i=zA j):seqIndex? i n=zA j/\j < n /\ -(n:Int) <= i/\i < n:=by
 unfold ixN at h;by_cases d:0 <= i
 ·rw[if_pos d] at h;by_cases c:i < n
  ·rw[if_pos c] at h;have e:i.toNat=j:=QA h;exact⟨by rw[eW d c,e],by lia,by lia,c⟩
  ·rw[if_neg c] at h;cases h
 ·rw[if_neg d] at h;by_cases c:-(n:Int) <= i
  ·rw[if_pos c] at h;have e:(i+n).toNat=j:=QA h;exact⟨by rw[dX (by lia) c,e],by lia,c,by lia⟩
  ·rw[if_neg c] at h;cases h
theorem Wp {c:Type}{xs:List c}{i:Int}{v:c} (h:atI xs i=zA v):∃ j,seqIndex? i xs.length=zA j/\xs[j]? = zA v/\j < xs.length /\ -(xs.length:Int) <= i/\i < xs.length:=by
 unfold atI at h;cases e:ixN xs.length i with
 | none=>rw[e] at h;cases h
 | some j =>
  rw[e] at h;obtain⟨d,f,g,l⟩:=eQ e;exact⟨j,d,h,f,g,l⟩
def cH (b:zi):Prop:=∀ o i,subscripted b zP o i=operate [o,i] (getItem o i)
def IxR (X:Cx) (r:R2):Prop :=
 ∀ (e c:zi) (d:List (zN×Obj)) (s:zU) (σ:St) (H:Hp) (x y:V) (v u:zO) (Q:VK),Inv X d σ H s->zx x v->zx y u->r x y H Q ->
  subscripted c zP v u=operate [v,u] (getItem v u)->zc (za X.prog X.w) X.A (subscriptTail e c v u) (EP X d σ Q) X.xe s
def MtR (X:Cx) (id:String) (r:V->List V->Hp->VK->Prop):Prop :=
 ∀ (c:List (zN×Obj)) (s:zU) (σ:St) (H:Hp) (x:V) (xs:List V) (v:zO) (us:List zO) (Q:VK),Inv X c σ H s->zx x v->z6 xs us->r x xs H Q ->
  zc (za X.prog X.w) X.A (call (.builtin id) (v::us)) (EP X c σ Q) X.xe s
section
variable {X:Cx}{a b:zi}{ta tb:TE}{pos:Pos}
theorem IxR.or (h:IxR X r) (h':IxR X g):IxR X (λx y H Q=>r x y H Q\/g x y H Q):=by
 intro c d e s σ H x y v u Q I rx ry q f;rcases q with q | q
 ·exact h c d e s σ H x y v u Q I rx ry q f
 ·exact h' c d e s σ H x y v u Q I rx ry q f
theorem pB (d:IxR X r) (ha:PE X a ta) (e:PE X b tb) (f:cH b):PE X (.Subscript a b pos) (tOp r ta tb):=by
 intro c s σ H Q I h;exact Subscript_ (wb ha e I h λv u s2 x y g i rx ry q=>d a b c s2 σ g x y v u Q i rx ry q (f _ _))
def mK (K:zV):R2:=λx y H Q=>∃ p xs i v,x=.ref p/\y=.int i/\SqL K H p xs/\atI xs i=zA v/\Q v H
def PY (K:zV):R2:=λx y H Q=>∃ p xs i v,x=.ref p/\y=.int i/\SqT K H p xs/\atI xs i=zA v/\Q v H
def nZ:R2:=λx y H Q=>∃ z i c,x=.str z/\y=.int i/\z.length <= z5/\atI z.cps.toList i=zA c/\Q (.str ⟨#[c]⟩) H
theorem oG:IxR X (mK X.K):=by
 intro e f c s σ H x y v u Q I rx ry h n;obtain⟨p,xs,i,z,rfl,rfl,B,C,q⟩:=h;cases rx;obtain⟨t,rfl⟩:=ry;obtain⟨g,r,pl,M⟩:=I.list B;obtain⟨j,d,E,N,G,J⟩:=Wp C;obtain⟨w,o,l⟩:=r.get E;have L:=r.length;have U:=XN;have fin:EP X c σ Q w s:=⟨z,H,I,l,q⟩
 by_cases A:0 <= i
 ·have m:i.toNat=j:=by
   rw[eW A J] at d;exact QA d
  exact item_listR pl.isList A (by lia) (by rw[m];simpa using o) fin n
 ·have m:(i+(g.toArray.size:Int)).toNat=j:=by
   rw[dX (by lia) G] at d;rw[qY,<- L];exact QA d
  exact I7 (x:=w) pl.isList.typeIs slot_list_getitem.lookup
   (wpAny_getItem_list_neg (Q:=λr s'=>r=w/\EP X c σ Q r s') pl.isList (by lia) (by rw[qY]<;>lia) (by lia) (by rw[m];simpa using o) ⟨rfl,fin⟩) n
theorem m9:IxR X (PY X.K):=by
 intro d e c s σ H x y v u Q I rx ry h g;obtain⟨p,xs,i,z,rfl,rfl,l,m,q⟩:=h;cases rx;obtain⟨t,rfl⟩:=ry;obtain⟨n,r,pl,E⟩:=I.tuple l;obtain⟨j,o,A,G,J,L⟩:=Wp m;obtain⟨w,B,f⟩:=r.get A;have C:=r.length;have M:=XN;have fin:EP X c σ Q w s:=⟨z,H,I,f,q⟩
 exact I7 (x:=w) pl.typeIs slot_tuple_getitem.lookup
  (getItem_tuple (j:=j) (Q:=λr s'=>r=w/\EP X c σ Q r s') pl (by lia) (by lia) (by rw[qY,<- C];exact o) (by simpa using B) ⟨rfl,fin⟩) g
theorem nj:IxR X nZ:=by
 intro d e f s σ H x y v u Q I rx ry h l;obtain⟨z,i,c,rfl,rfl,C,m,q⟩:=h;obtain⟨t,rfl⟩:=rx;obtain⟨t',rfl⟩:=ry;obtain⟨j,g,n,E,o,p⟩:=Wp m;have r:z.cps.toList.length=z.length:=by simp[Str.length]
 rw[r] at g o p;have G:=XN;exact tail_any (Vf s z t) slot_str_getitem.lookup (getItem_str (c:=c) (by
  have A:decide (i < -(2 ^ 63:Int))=zP:=decide_eq_false (by lia);have B:decide (i ≥ 2 ^ 63)=zP:=decide_eq_false (by lia);rw[A,B,iC]) (by rw[g];simpa using n) ⟨.str ⟨#[c]⟩,H,I.tok _,⟨_,rfl⟩,q⟩) l
theorem pE (c:List zO) (n j:Nat) (u:zO):kT (·.setIfInBounds j u) { cls:=.type "list",data:=.seq c.toArray n }={ cls:=.type "list",data:=.seq (c.set j u).toArray n }:=by
 simp[kT]
theorem Inv.lst {d:List (zN×Obj)}{σ:St}{H:Hp}{s:zU}{p:zN}{xs:List V} (I:Inv X d σ H s) (h:H p=zA (.lst xs)) :
  ∃ (c:List zO) (n:Nat),z6 xs c/\s.heap.get? p=zA { cls:=.type "list",data:=.seq c.toArray n }/\xs.length <= z5:=by
 obtain⟨z,c,n,r,e⟩:=I.hok p _ h;exact⟨c,n,r,e,z⟩
theorem Inv.lstUpd {p:zN}{xs:List V}{c its':List zO}{n g:Nat}{f:Obj->Obj} (I:Inv X d σ H s) (h:H p=zA (.lst xs))
  (l:s.heap.get? p=zA { cls:=.type "list",data:=.seq c.toArray n }) (i:f { cls:=.type "list",data:=.seq c.toArray n }={ cls:=.type "list",data:=.seq its'.toArray g }) (r:z6 j its') (m:j.length <= z5) (t:Nat) (v:0 < t:=by first | exact yt _ | assumption | exact Inv.tk (by assumption) | lia) :
  Inv X d σ (upd H p (.lst j)) { s with heap:=s.heap.update p f,toks:=t }:=by
 have e:(s.heap.update p f).get? p=zA { cls:=.type "list",data:=.seq its'.toArray g }:=by
  rw[Vg f l (by rw[i]<;>rfl),i]
 refine I.write (x:=p) (e:=p) (by rw[h];trivial) (.inl rfl) (λb u o q=>(xM _ _ (yJ o)).trans q) ⟨_,e⟩ ?_;exact⟨m,its',g,r,e⟩
def FX:V->V->V->Hp->(Hp->Prop)->Prop:=λo i v H Q=>∃ p xs k j,o=.ref p/\i=.int k/\H p=zA (.lst xs)/\ixN xs.length k=zA j/\Q (upd H p (.lst (xs.set j v)))
theorem Iz:da X FX:=by
 intro c s σ H o i v J L u Q I ro B C h;obtain⟨p,xs,k,j,rfl,rfl,m,E,q⟩:=h;cases ro;obtain⟨t,rfl⟩:=B;obtain⟨d,n,r,f,G⟩:=I.lst m;obtain⟨e,M,x,y⟩:=eQ E;have g:=r.length;have N:=XN;have z:Inv X c σ (upd H p (.lst (xs.set j v))) { s with heap:=s.heap.update p (kT (·.setIfInBounds j u)) } :=
  I.lstUpd m f (pE d n j u) (r.set C j) (by rw[xK];exact G) s.toks
 by_cases A:0 <= k
 ·have l:k.toNat=j:=by
   rw[eW A y] at e;exact QA e
  exact PySem.W.ki_setAt f A (by lia) (by rw[qY,<- g];exact y) (by rw[l];exact⟨_,z,q⟩)
 ·have l:(k+(d.toArray.size:Int)).toNat=j:=by
   rw[dX (by lia) x] at e;rw[qY,<- g];exact QA e
  exact PySem.W.ki_setBack f (by lia) (by rw[qY,<- g];exact x) (by lia) (by rw[l];exact⟨_,z,q⟩)
noncomputable def yw:V->Bool
 | .non=>zC
 | .bl _=>zC
 | .int _=>zC
 | .str _=>zC
 | _=>zP
noncomputable def eqV:V->V->Bool
 | .non,.non=>zC
 | .bl a,.bl b=>a == b
 | .bl a,.int b=>(if a then 1 else 0) == b
 | .int a,.bl b=>a == (if b then 1 else 0)
 | .int a,.int b=>a == b
 | .str a,.str b=>a == b
 | _,_=>zP
theorem HW {y:V} (ry:zx y u) (rx:zx x v) (d:yw y=zC) (c:yw x=zC):ON A s u v (eqV y x):=by
 cases y with
 | non =>
  cases ry;cases x with
  | non=>cases rx;exact Rr _
  | bl b=>cases rx;exact rQ b
  | int b=>obtain⟨t,rfl⟩:=rx;exact RV b t
  | str b=>obtain⟨t,rfl⟩:=rx;exact Rn b t
  | _=>exact absurd (show zP=zC from c) qU
 | bl a =>
  cases ry;cases x with
  | non=>cases rx;exact r9 a
  | bl b=>cases rx;exact rN a b
  | int b=>obtain⟨t,rfl⟩:=rx;exact rm a b t
  | str b=>obtain⟨t,rfl⟩:=rx;exact rR a b t
  | _=>exact absurd (show zP=zC from c) qU
 | int a =>
  obtain⟨t',rfl⟩:=ry;cases x with
  | non=>cases rx;exact RN a t'
  | bl b=>cases rx;exact rM a t' b
  | int b=>obtain⟨t,rfl⟩:=rx;exact rF a t' b t
  | str b=>obtain⟨t,rfl⟩:=rx;exact N4 a t' b t
  | _=>exact absurd (show zP=zC from c) qU
 | str a =>
  obtain⟨t',rfl⟩:=ry;cases x with
  | non=>cases rx;exact RQ a t'
  | bl b=>cases rx;exact Ra a t' b
  | int b=>obtain⟨t,rfl⟩:=rx;exact f9 a t' b t
  | str b=>obtain⟨t,rfl⟩:=rx;exact RP a t' b t
  | _=>exact absurd (show zP=zC from c) qU
 | _=>exact absurd (show zP=zC from d) qU
def eqU (x:V) (u:zO):Bool:=match u with
 | .none=>eqV .non x
 | .bool b=>eqV (.bl b) x
 | .int i _=>eqV (.int i) x
 | .str z _=>eqV (.str z) x
 | _=>zP
theorem ED {y:V} (r:zx y u) (f:yw y=zC):eqU x u=eqV y x:=by
 cases y with
 | non=>cases r;rfl
 | bl b=>cases r;rfl
 | int i=>obtain⟨t,rfl⟩:=r;rfl
 | str z=>obtain⟨t,rfl⟩:=r;rfl
 | _=>exact absurd (show zP=zC from f) qU
theorem K6:∀ {xs:List V}{us:List zO},z6 xs us->xs.all yw=zC->us.any (eqU x)=xs.any λy=>eqV y x
 | _,_,.nil,_=>rfl
 | y::xs,u::us,.cons r t,f=>by
  rw[JJ,j8] at f;rw[Jk,Jk,ED r f.1,K6 t f.2]
theorem v8 (rx:zx x v) (d:yw x=zC):∀ {xs:List V}{us:List zO},z6 xs us->xs.all yw=zC->∀ u∈us,ON A s u v (eqU x u)
 | _,_,.nil,_=>λu c=>by cases c
 | y::xs,u::us,.cons r t,f=>λe c=>by
  rw[JJ,j8] at f;rcases jc.mp c with rfl | c
  ·rw[ED r f.1];exact HW r rx f.1 d
  ·exact v8 rx d t f.2 e c
def inV (x:V) (xs:List V):Bool:=xs.any λy=>eqV y x
def rIn (K:zV) (neg:Bool):R2:=λx y H Q=>∃ p xs,y=.ref p/\(SqL K H p xs\/SqT K H p xs)/\yw x=zC/\xs.all yw=zC/\Q (.bl (if neg then !inV x xs else inV x xs)) H
theorem m8:OpR X (jt .In) (rIn X.K zP):=by
 intro e s σ H x y v u Q I rx ry h;obtain⟨p,xs,rfl,d,f,fs,q⟩:=h;cases ry;rcases d with d | d
 ·obtain⟨c,r,pl,g⟩:=I.list d;refine SeqAt.in_listAt (eqU x) pl.isList (λw hw=>v8 rx f r fs w (by simpa using hw)) ⟨.bl _,H,I,rfl,?_⟩;rw[show c.toArray.any (eqU x)=c.any (eqU x) by simp,K6 r fs];exact q
 ·obtain⟨c,r,pl,g⟩:=I.tuple d;refine SeqAt.in_tupleAt (eqU x) pl (λw hw=>v8 rx f r fs w (by simpa using hw)) ⟨.bl _,H,I,rfl,?_⟩;rw[show c.toArray.any (eqU x)=c.any (eqU x) by simp,K6 r fs];exact q
theorem Lj:OpR X (jt .NotIn) (rIn X.K zC):=by
 intro e s σ H x y v u Q I rx ry h;obtain⟨p,xs,rfl,d,f,fs,q⟩:=h;cases ry;rcases d with d | d
 ·obtain⟨c,r,pl,g⟩:=I.list d;refine SeqAt.notIn_listAt (eqU x) pl.isList (λw hw=>v8 rx f r fs w (by simpa using hw)) ⟨.bl _,H,I,rfl,?_⟩;rw[show c.toArray.any (eqU x)=c.any (eqU x) by simp,K6 r fs];exact q
 ·obtain⟨c,r,pl,g⟩:=I.tuple d;refine SeqAt.notIn_tupleAt (eqU x) pl (λw hw=>v8 rx f r fs w (by simpa using hw)) ⟨.bl _,H,I,rfl,?_⟩;rw[show c.toArray.any (eqU x)=c.any (eqU x) by simp,K6 r fs];exact q
theorem Pr:qp X (.builtin "len") (λxs H Q=>∃ p d,xs=[.ref p]/\(SqL X.K H p d\/SqT X.K H p d)/\Q (.int d.length) H):=by
 intro i s σ H xs us Q I r h;obtain⟨p,d,rfl,e,q⟩:=h;obtain⟨u,rfl,rx⟩:=ZN r;cases rx;have l:=XN;rcases e with e | e
 ·obtain⟨f,g,pl,j⟩:=I.list e;have c:=g.length;exact Calls.call_len_list pl.isList (by simp only[qY]<;>lia) ⟨.int d.length,H,I.tok _,⟨s.toks+1,by rw[qY,c]⟩,q⟩
 ·obtain⟨f,g,pl,j⟩:=I.tuple e;have c:=g.length;exact len_tuple pl (by simp only[qY]<;>lia) ⟨.int d.length,H,I.tok _,⟨s.toks+1,by rw[qY,c]⟩,q⟩
theorem FJ:qp X (.builtin "len") (λxs H Q=>∃ z,xs=[.str z]/\z.length <= z5/\Q (.int z.length) H):=by
 intro c s σ H xs us Q I r h;obtain⟨z,rfl,d,q⟩:=h;obtain⟨u,rfl,t,rfl⟩:=ZN r;have e:=XN;exact len_str (by lia) ⟨.int z.length,H,I.tok _,⟨_,rfl⟩,q⟩
theorem qp.or (h:qp X f r) (h':qp X f e):qp X f (λxs H Q=>r xs H Q\/e xs H Q):=by
 intro c s σ H xs us Q I d q;rcases q with q | q
 ·exact h c s σ H xs us Q I d q
 ·exact h' c s σ H xs us Q I d q
theorem LM:qp X (.type "list") (λxs H Q=>∃ p d,xs=[.ref p]/\(SqL X.K H p d\/SqT X.K H p d)/\∀ l,H l=zB->Q (.ref l) (upd H l (.lst d))):=by
 intro i s σ H xs us Q I r h;obtain⟨p,d,rfl,j,q⟩:=h;obtain⟨u,rfl,rx⟩:=ZN r;cases rx;have fin:∀ (c:List zO),z6 d c->d.length <= z5->∀ (h':zg) (f:Nat),(∀ b y,s.heap.get? b=zA y->h'.get? b=zA y) ->
   h'.get? s.heap.objs.size=zA { cls:=.type "list",dict:=none,data:=.seq c.toArray f,slots:=#[] }->EP X i σ Q (.ref s.heap.objs.size) { s with heap:=h' }:=λc g m h' f kp e =>
  ⟨.ref s.heap.objs.size,_,I.laid (t':=s.toks) kp (jB _) (show jz X.prog X.w _ h' _ (.lst d) from ⟨m,c,f,g,e⟩),rfl,q _ (I.hok.fresh (jB _))⟩
 rcases j with j | j
 ·obtain⟨c,g,pl,m⟩:=I.list j;have t:=g.length;obtain⟨o,v,x,n,hd⟩:=pl.isList;exact call_list_seq p (.inl rfl) v x hd (λh' f kp e=>fin c g m h' f kp e) (by simp only[qY]<;>lia)
 ·obtain⟨c,g,pl,m⟩:=I.tuple j;have t:=g.length;obtain⟨o,v,x,n,hd⟩:=pl;exact call_list_seq p (.inr rfl) v x hd (λh' f kp e=>fin c g m h' f kp e) (by simp only[qY]<;>lia)
theorem Mj:qp X (.type "tuple") (λxs H Q=>∃ p f,xs=[.ref p]/\((SqL X.K H p f/\∀ l,H l=zB->Q (.ref l) (upd H l (.tup f)))\/(SqT X.K H p f/\Q (.ref p) H))):=by
 intro c s σ H xs us Q I r h;obtain⟨p,f,rfl,h⟩:=h;obtain⟨u,rfl,rx⟩:=ZN r;cases rx;rcases h with ⟨g,q⟩ | ⟨g,q⟩
 ·obtain⟨d,i,pl,j⟩:=I.list g;have m:=i.length;refine call_tuple_list pl.isList (λh' kp=>?_) (by simp only[qY]<;>lia);have n:Inv X c σ H { s with heap:=h' }:=I.kept (t':=s.toks) kp;have t:Inv X c σ (upd H h'.objs.size (.tup f)) { s with heap:=h'.push { cls:=.type "tuple",data:=.seq d.toArray } } :=
   n.laid (t':=s.toks) (λb o e=>j0 _ e) (jB _) (show jz X.prog X.w _ _ _ (.tup f) from ⟨j,d,i,dm _ _⟩)
  exact⟨.ref h'.objs.size,_,t,rfl,q _ (n.hok.fresh (jB _))⟩
 ·obtain⟨d,i,pl,j⟩:=I.tuple g;exact call_tuple_same pl ⟨.ref p,H,I,rfl,q⟩
def tyV (K:zV) (T:String) (x:V) (H:Hp):Prop:=match x with
 | .str _=>T = "str"
 | .int _=>T = "int"
 | .ref p=>(T = "list" /\ ∃ xs,SqL K H p xs)\/(T = "tuple" /\ ∃ o,K.lookup p=zA o/\o.cls=.type "tuple" /\ o.dict=zB) \/
   (T = "dict" /\ ((∃ kvs,H p=zA (.dK kvs))\/(∃ kvs,H p=zA (.dT kvs))\/∃ c:zg->Prop,H p=zA (.ext c)/\∀ h,c h->∃ o,h.get? p=zA o/\o.ExactDict))\/(T = "set" /\ ∃ S n,H p=zA (.set S n))
 | _=>False
theorem wh {T:String} (I:Inv X g σ H s) (r:zx x v) (ty:tyV X.K T x H) :
  s.TypeIs v T/\∀ a,v=.ref a->∃ ob,s.heap.get? a=zA ob/\ob.dict=zB:=by
 cases x with
 | str z =>
  obtain⟨t,rfl⟩:=r;cases (show T = "str" from ty);exact⟨Vf s z t,λ_ e=>nomatch e⟩
 | int i =>
  obtain⟨t,rfl⟩:=r;cases (show T = "int" from ty);exact⟨Dc s i t,λ_ e=>nomatch e⟩
 | ref p =>
  cases r;rcases ty with ⟨rfl,xs,h⟩ | ⟨rfl,o,d,j,hd⟩ | ⟨rfl,d⟩ | ⟨rfl,S,n,d⟩
  ·obtain⟨l,_,pl,_⟩:=I.list h;refine⟨pl.isList.typeIs,λa e=>?_⟩;cases e;obtain⟨o,n,e,c,hd,_⟩:=pl;exact⟨o,e,hd⟩
  ·refine⟨⟨o,I.kIn p o d,j⟩,λa e=>?_⟩;cases e;exact⟨o,I.kIn _ o d,hd⟩
  ·have z:∃ o,s.heap.get? p=zA o/\o.ExactDict:=by
    rcases d with ⟨kvs,d⟩ | ⟨kvs,d⟩ | ⟨q,d,m⟩
    ·obtain⟨_,_,_,_,o,_,_,e,ex,_⟩:=I.hok p _ d;exact⟨o,e,ex⟩
    ·obtain⟨_,_,_,_,o,_,_,e,ex,_⟩:=I.hok p _ d;exact⟨o,e,ex⟩
    ·exact m _ (I.hok p _ d).1
   obtain⟨o,e,ex⟩:=z;refine⟨⟨o,e,ex.1⟩,λa f=>?_⟩;cases f;exact⟨o,e,ex.2.1⟩
  ·obtain⟨o,_,_,_,e,ex,_⟩:=I.hok p _ d;refine⟨⟨o,e,ex.1⟩,λa f=>?_⟩;cases f;exact⟨o,e,ex.2.1⟩
 | _=>exact jZ ty
def Mz (K:zV) (T:String) (r:V->List V->Hp->VK->Prop) (to:TE):TE:=λσ H Q=>to σ H λx c=>tyV K T x c/\r x [] c Q
def tBM (K:zV) (T:String) (r:V->List V->Hp->VK->Prop) (to:TE) (t:TA):TE:=λσ H Q=>to σ H λx c=>tyV K T x c/\t σ c λxs d=>r x xs d Q
variable {o e:zi}{es:List zi}{to:TE}{t:TA}{name:Str}{apos cpos:Pos}{T id:String}{r:V->List V->Hp->VK->Prop}
theorem HQ (l:wU T) (slot:Slot T name id) (g:typeOf (.builtin id)=pure (.type "method_descriptor")) (hm:MtR X id r) (m:PE X o to)
  (d:JI o name X.env (eval o X.env)=eval o X.env:=by rfl) (f:(apos.endLine == cpos.line)=zC:=by rfl):PE X (.Call (.Attribute o name apos) [] [] cpos) (Mz X.K T r to):=by
 intro c s σ H Q I h;refine GC d f (jC (m c s σ H _ I h) λv s1 x n i j ⟨ty,p⟩=>?_);obtain⟨q,u⟩:=wh i j ty;exact⟨T,id,l,slot,g,q,u,ak rfl (Gm (hm c s1 σ n x [] v [] Q i j .nil p))⟩
theorem Ew (p:wU T) (slot:Slot T name id) (j:typeOf (.builtin id)=pure (.type "method_descriptor")) (hm:MtR X id r) (q:PE X o to) (ha:PA X (e::es) t)
  (f:JI o name X.env (eval o X.env)=eval o X.env:=by rfl)
  (i:((qT cpos (jS (e::es) X.env)).all (λx=>!x.1) && (Jw cpos (J5 [] X.env)).all (λx=>x.1.isSome)
   && decide ((e::es).length+([]:List Vc).length+(if ([]:List Vc).isEmpty then 0 else 1) < 30))=zC:=by rfl)
  (g:(apos.endLine == cpos.line)=zC:=by rfl) (u:jS (e::es) X.env=(zP,eval e X.env)::jS es X.env:=by rfl) (d:(qT cpos (jS es X.env)).any (·.1)=zP:=by rfl) :
  PE X (.Call (.Attribute o name apos) (e::es) [] cpos) (tBM X.K T r to t):=by
 intro c s σ H Q I h;refine Hv f i g rfl (jC (q c s σ H _ I h) λv s1 x y l m ⟨ty,z⟩=>?_);obtain⟨A,B⟩:=wh l m ty;refine⟨T,id,p,slot,j,A,B,?_⟩;have n:=ha cpos c s1 σ y _ l z;rw[u] at n ⊢;refine ak (by show (zP || (qT cpos (jS es X.env)).any (·.1))=zP;rw[d]<;>rfl) (Es ?_);exact thn n λus s2 ⟨vs,C,E,G,J⟩=>hm c s2 σ C x vs v us Q E m G J
end
def MtM (X:Cx) (id:String) (r:V->List V->Hp->VK->Prop):Prop :=
 ∀ (c:List (zN×Obj)) (s:zU) (σ:St) (H:Hp) (x:V) (xs:List V) (v:zO) (us:List zO) (Q:VK),Inv X c σ H s->zx x v->z6 xs us->r x xs H Q ->
  zc (za X.prog X.w) X.A (call (.builtin id) (v::us)) (EP X c σ Q) X.xe s
theorem z6.one:∀ {x:V}{us:List zO},z6 [x] us->∃ u,us=[u]/\zx x u
 | _,_,.cons r .nil=>⟨_,rfl,r⟩
theorem z6.zero:∀ {us:List zO},z6 [] us->us=[]
 | _,.nil=>rfl
theorem z6.dropLast (h:z6 xs us):z6 xs.dropLast us.dropLast:=by
 induction h with
 | nil=>exact .nil
 | cons r t c =>
  cases t with
  | nil=>exact .nil
  | cons q t'=>exact .cons r c
theorem z6.rep (h:z6 xs us):∀ k:Nat,z6 (zm k xs).flatten (zm k us).flatten
 | 0=>.nil
 | k+1=>by
  rw[xU,xU,kK,kK];exact z6.append h (z6.rep h k)
theorem gZ {c:Type} (l:List c):l.eraseIdx (l.length - 1)=l.dropLast:=by
 induction l with
 | nil=>rfl
 | cons a r d =>
  cases r with
  | nil=>rfl
  | cons b r =>
   have e:(a::b::r).length - 1=((b::r).length - 1)+1:=by
    have f:(a::b::r).length=r.length+2:=rfl;have g:(b::r).length=r.length+1:=rfl
    lia
   rw[e,List.eraseIdx_cons_succ,d]
   all_goals rfl
theorem Cs (c:List zO):∀ (k:Nat) (d:List zO),
  dG (λf g=>f++g) d.toArray (zm k c.toArray)=(d++(zm k c).flatten).toArray
 | 0,d=>by simp
 | k+1,d=>by
  have e:d.toArray++c.toArray=(d++c).toArray:=by simp
  have h:(d++c)++(zm k c).flatten=d++(zm (k+1) c).flatten:=by
   rw[xU,kK,yr]
  rw[<- h,<- Cs c k (d++c),<- e,xU,Uw]
section
variable {X:Cx}{pins:List (zN×Obj)}{σ:St}{H:Hp}{s:zU}{l b:zN}{xs ys zs:List V}
theorem Inv.lset {c its':List zO}{n:Nat}{f:Array zO->Array zO}{t':Nat} (I:Inv X pins σ H s) (d:H l=zA (.lst xs))
  (e:s.heap.get? l=zA { cls:=.type "list",data:=.seq c.toArray n }) (g:f c.toArray=its'.toArray) (h:z6 ys its') (i:ys.length <= z5) (o:0 < t':=by first | exact yt _ | assumption | exact Inv.tk (by assumption) | lia) :
  Inv X pins σ (upd H l (.lst ys)) { s with heap:=s.heap.update l (kT f),toks:=t' }:=by
 have q:=PySem.IsL.update e f;rw[g] at q;refine I.write (x:=l) (e:=l) (by rw[d];exact trivial) (.inl rfl) (λp u j m=>(xM s.heap (kT f) (yJ j)).trans m) ⟨_,q⟩ ?_;exact⟨i,its',_,h,q⟩
theorem Inv.lnew {t':Nat} (I:Inv X pins σ H s) (d:z6 ys c) (e:ys.length <= z5) (f:0 < t':=by first | exact yt _ | assumption | exact Inv.tk (by assumption) | lia) :
  Inv X pins σ (upd H s.heap.objs.size (.lst ys)) { s with heap:=s.heap.push { cls:=.type "list",data:=.seq c.toArray },toks:=t' } :=
 I.laid (λ_ _ q=>j0 _ q) (jB _) ⟨e,c,0,d,yV _ rfl⟩
theorem Inv.fresh (I:Inv X pins σ H s):H s.heap.objs.size=zB:=I.hok.fresh (jB _)
theorem Inv.lstM (I:Inv X pins σ H s) (d:H l=zA (.lst xs)):xs.length <= z5/\∃ (c:List zO) (n:Nat),z6 xs c/\xs.length=c.length/\s.heap.get? l=zA { cls:=.type "list",data:=.seq c.toArray n }:=by
 obtain⟨z,c,n,r,e⟩:=I.hok l _ d;exact⟨z,c,n,r,r.length,e⟩
theorem pK {n:Nat} (h:n <= z5):BO n=zP:=by
 unfold BO;exact decide_eq_false (by lia)
end
section
variable {X:Cx}
def dQ:V->List V->Hp->VK->Prop:=λx vs H Q=>∃ l xs y,x=.ref l/\vs=[y]/\H l=zA (.lst xs)/\xs.length < z5/\Q .non (upd H l (.lst (xs++[y])))
theorem bA:MtM X "list.append" dQ:=by
 intro d s σ H x vs v us Q I rx g h;obtain⟨l,xs,y,rfl,rfl,f,j,q⟩:=h;cases rx;obtain⟨u,rfl,i⟩:=g.one;obtain⟨z,c,n,r,m,e⟩:=I.lstM f;refine xJ F.slot_list_append ⟨_,e,rfl⟩ F.entry_list_append (F.args_list_append_2 _ _) (PySem.list_append l c.toArray n u (by rw[qY];lia)) ⟨e,?_⟩;refine⟨.non,_,I.lset (its':=c++[u]) f e (by simp) (r.append (.cons i .nil)) ?_,rfl,q⟩;rw[ZI,List.length_singleton]
 lia
def eL:V->List V->Hp->VK->Prop:=λx vs H Q=>∃ l xs y,x=.ref l/\vs=[]/\H l=zA (.lst xs)/\xs[xs.length - 1]? = zA y/\Q y (upd H l (.lst xs.dropLast))
theorem CU:MtM X "list.pop" eL:=by
 intro g s σ H x vs v us Q I rx j h;obtain⟨l,xs,y,rfl,rfl,i,m,q⟩:=h;cases rx;have d:=j.zero;subst d;obtain⟨z,c,n,r,o,e⟩:=I.lstM i;obtain⟨u,p,t⟩:=r.get m;have f:c.toArray[c.toArray.size - 1]? = zA u:=by
  show c.toArray[c.length - 1]? = zA u;rw[<- vR,<- o];exact p
 refine xJ F.slot_list_pop ⟨_,e,rfl⟩ F.entry_list_pop (F.args_list_pop_1 _) (MeetsSeq.list_pop_last l c.toArray n u f (by rw[qY];lia)) ⟨e,?_⟩;refine⟨y,_,I.lset (its':=c.dropLast) i e ?_ r.dropLast ?_,t,q⟩
 ·show c.toArray.eraseIdxIfInBounds (c.toArray.size - 1)=c.dropLast.toArray;rw[qY,List.eraseIdxIfInBounds_toArray,gZ]
 ·rw[List.length_dropLast]
  lia
def l0:R2:=λx y H Q=>∃ l b xs c,x=.ref l/\y=.ref b/\H l=zA (.lst xs)/\H b=zA (.lst c)/\xs.length+c.length <= z5/\∀ p,H p=zB->Q (.ref p) (upd H p (.lst (xs++c)))
theorem Nf:OpR X (y4 .Add) l0:=by
 intro f s σ H x y v u Q I rx ry h;obtain⟨l,b,xs,t,rfl,rfl,g,i,A,q⟩:=h;cases rx;cases ry;obtain⟨z,d,n,r,B,e⟩:=I.lstM g;obtain⟨C,c,n2,j,m,o⟩:=I.lstM i;refine PySem.P.add_list e o ?_ (by rw[qY,qY];lia);have p:d.toArray++c.toArray=(d++c).toArray:=by simp
 rw[p];exact⟨.ref _,_,I.lnew (t':=s.toks) (r.append j) (by rw[ZI];lia),rfl,q _ I.fresh⟩
def Bw:R2:=λx y H Q=>∃ l k xs,x=.ref l/\y=.int k/\H l=zA (.lst xs) /\ -(2 ^ 63) <= k/\k < 2 ^ 63/\xs.length * k.toNat <= z5 /\
 ∀ p,H p=zB->Q (.ref p) (upd H p (.lst (zm k.toNat xs).flatten))
theorem f6 {c:Type} (xs:List c) (k:Nat):(zm k xs).flatten.length=k * xs.length:=by
 induction k with
 | zero=>simp
 | succ k d=>rw[xU,kK,ZI,d,Nat.succ_mul,Nat.add_comm]
theorem IY:OpR X (y4 .Mult) Bw:=by
 intro A s σ H x y v u Q I rx ry h;obtain⟨l,k,xs,rfl,rfl,C,E,G,B,q⟩:=h;cases rx;obtain⟨t,rfl⟩:=ry;obtain⟨z,c,n,r,J,e⟩:=I.lstM C;have f:c.toArray.size * k.toNat <= z5:=by rw[qY,<- J];exact B
 have g:¬ c.toArray.size * k.toNat > (2 ^ 63 - 1) / 8:=by
  have:(z5:Nat) <= (2 ^ 63 - 1) / 8:=by decide
  lia
 have i:¬ (!RK k)=zC:=by
  rw[fitsIndex_both E G];exact qU
 have d:¬ BO (c.toArray.size * k.toNat)=zC:=by
  rw[pK f];exact qU
 have j:dG (λo p=>o++p) #[] (zm (if c.toArray.isEmpty=zC then 0 else k.toNat) c.toArray)=(zm k.toNat c).flatten.toArray:=by
  have L:∀ m:Nat,dG (λo p=>o++p) #[] (zm m c.toArray)=(zm m c).flatten.toArray:=λm=>by
   have:=Cs c m [];rw[Xw] at this;exact this
  rw[L];cases c with
  | nil=>simp
  | cons a M=>rw[if_neg (by simp)]
 refine wpAny_binaryOp_repeat_ref (T := "list") (U := "int") (by decide) ⟨_,e,rfl⟩ (λs'=>Dc s' k t) noFill_list_mul F.fills_int_mul F.slot_int_rmul repeat_list F.slot_int_index.lookup
  (xJ F.slot_int_rmul (Dc s k t) F.entry_int_rmul (F.args_int_rmul_2 _ _) (int___rmul___int_list k t l c.toArray n)
   ⟨e,rfl,⟨_,e,rfl⟩,xJ F.slot_list_mul ⟨_,e,rfl⟩ F.entry_list_mul (F.args_list_mul_2 _ _) (AutoListH.list___mul___list_int_3 l c.toArray n k t i g d) ⟨e,?_⟩⟩)
 rw[j];exact⟨.ref _,_,I.lnew (t':=s.toks) (r.rep k.toNat) (by rw[f6,Nat.mul_comm];exact B),rfl,q _ I.fresh⟩
end
section
variable {prog:jF}{w:z7}{A:jf}{E:zO->zU->Prop}{s:zU}
set_option maxRecDepth 100000 in
end
section
variable {κ:Type} [DecidableEq κ]
noncomputable def qP (kvs:List (κ×V)) (k:κ):Option V:=(kvs.find? λc=>decide (c.1=k)).map (·.2)
noncomputable def ya (kvs:List (κ×V)) (k:κ) (v:V):List (κ×V) :=
 if (kvs.any λc=>decide (c.1=k))=zC then kvs.map (λc=>if c.1=k then (c.1,v) else c) else kvs++[(k,v)]
noncomputable def Z9 (kvs:List (κ×V)) (k:κ):List (κ×V):=kvs.filter λc=>decide (c.1≠k)
theorem YV {p:κ×V}{r:List (κ×V)}{k:κ} (e:p.1=k):qP (p::r) k=zA p.2:=by simp[qP,vf,e]
theorem ur {p:κ×V}{r:List (κ×V)}{k:κ} (e:¬ p.1=k):qP (p::r) k=qP r k:=by simp[qP,vf,e]
theorem ET (k:κ):∀ kvs:List (κ×V),(kvs.any λc=>decide (c.1=k))=(qP kvs k).isSome
 | []=>rfl
 | p::r=>by
  rw[Jk];by_cases e:p.1=k
  ·simp only[YV e,decide_eq_true e,Bool.true_or,bP]
  ·rw[ur e,decide_eq_false e,Bool.false_or];exact ET k r
theorem cb (kvs:List (κ×V)) (k:κ) (v:V):(ya kvs k v).length <= kvs.length+1:=by
 unfold ya;split
 ·rw[qd];lia
 ·rw[ZI,qL,Jb];lia
theorem yP.isSome_eq (r:yP o u):o.isSome=u.isSome:=by
 cases o with
 | none=>cases u with
  | none=>rfl
  | some _=>exact (show False from r).elim
 | some _=>cases u with
  | none=>exact (show False from r).elim
  | some _=>rfl
theorem yP.getD (r:yP o u) (c:zx d d'):zx (o.getD d) (u.getD d'):=by
 cases o with
 | none=>cases u with
  | none=>exact c
  | some _=>exact (show False from r).elim
 | some _=>cases u with
  | none=>exact (show False from r).elim
  | some _=>exact r
theorem KV.val {kvs:List (κ×V)}{vs:List (κ×zO)} (r:KV kvs vs) (k:κ):yP (qP kvs k) (Qx vs k):=by
 unfold KV at r
 induction r with
 | nil=>exact QT
 | @cons p q ps c h t g =>
  obtain⟨f,i⟩:=h;by_cases e:p.1=k
  ·have d:q.1=k:=f.symm.trans e;have b:Qx (q::c) k=zA q.2:=by simp[Qx,vf,d]
   rw[YV e,b];exact i
  ·have d:¬ q.1=k:=λz=>e (f.trans z);have b:Qx (q::c) k=Qx c k:=by simp[Qx,vf,d]
   rw[ur e,b];exact g
theorem KV.any {kvs:List (κ×V)}{vs:List (κ×zO)} (r:KV kvs vs) (k:κ):(kvs.any λc=>decide (c.1=k))=vs.any λc=>decide (c.1=k):=by
 unfold KV at r
 induction r with
 | nil=>rfl
 | cons h t d=>rw[Jk,Jk,d,h.1]
theorem KV.repl {kvs:List (κ×V)}{vs:List (κ×zO)} (r:KV kvs vs) (k:κ) {y:V} (ry:zx y u) :
  KV (kvs.map λc=>if c.1=k then (c.1,y) else c) (vs.map λc=>if c.1=k then (c.1,u) else c):=by
 unfold KV at r ⊢
 induction r with
 | nil=>exact .nil
 | @cons p q ps i h t f =>
  rw[ju,ju];refine .cons ?_ f;obtain⟨d,g⟩:=h;by_cases e:p.1=k
  ·rw[if_pos e,if_pos (d.symm.trans e)];exact⟨d,ry⟩
  ·rw[if_neg e,if_neg (λz=>e (d.trans z))];exact⟨d,g⟩
theorem KV.put {kvs:List (κ×V)}{vs:List (κ×zO)} (r:KV kvs vs) (k:κ) {y:V} (ry:zx y u):KV (ya kvs k y) (stored vs k u):=by
 unfold ya stored;rw[r.any k];by_cases e:(vs.any λc=>decide (c.1=k))=zC
 ·rw[if_pos e,if_pos e];exact r.repl k ry
 ·rw[if_neg e,if_neg e];exact Paired.snoc r ⟨rfl,ry⟩
theorem KV.drop {kvs:List (κ×V)}{vs:List (κ×zO)} (r:KV kvs vs) (k:κ):KV (Z9 kvs k) (without vs k):=by
 unfold KV at r ⊢;unfold Z9 without
 induction r with
 | nil=>exact .nil
 | @cons p q ps i h t d =>
  obtain⟨c,f⟩:=h;rw[Ug,Ug];by_cases e:p.1=k
  ·have a:¬ decide (p.1≠k)=zC:=by simp[e]
   have b:¬ decide (q.1≠k)=zC:=by simp[c.symm.trans e]
   rw[if_neg a,if_neg b];exact d
  ·have g:¬ q.1=k:=λz=>e (c.trans z);have a:decide (p.1≠k)=zC:=by simp[e]
   have b:decide (q.1≠k)=zC:=by simp[g]
   rw[if_pos a,if_pos b];exact .cons ⟨c,f⟩ d
theorem KV.keys {kvs:List (κ×V)}{vs:List (κ×zO)} (r:KV kvs vs):kvs.map (·.1)=vs.map (·.1):=by
 unfold KV at r
 induction r with
 | nil=>rfl
 | cons h t c=>rw[ju,ju,c,h.1]
theorem KV.length {kvs:List (κ×V)}{vs:List (κ×zO)} (r:KV kvs vs):kvs.length=vs.length:=Paired.length r
theorem He (kvs:List (κ×V)) (k:κ):(Z9 kvs k).length <= kvs.length:=kP _ _
end
theorem Q2 {P:jF}{w:z7}{k:Key} (r:zx (kV k) u):(jm P w).is k u=zC:=by
 cases k with
 | inl i=>obtain⟨t,e⟩:=(show ∃ t,u=KR i t from r);subst e;exact F6 P w i t
 | inr x=>obtain⟨t,e⟩:=(show ∃ t,u=XD x t from r);subst e;exact nK P w x t
theorem Ej {P:jF}{w:z7}:∀ {ks:List Key}{us:List zO},z6 (ks.map kV) us->ItemsAre (jm P w) ks us
 | [],_,r=>by rw[vU] at r;cases r;exact .nil
 | k::ks,_,r=>by
  rw[ju] at r;cases r with
  | cons h t=>exact .cons (Q2 h) (Ej t)
abbrev KT (H:Hp):List (List Key×V)->List (List Key×zN×zO)->Prop:=Paired λp q=>p.1=q.1/\H q.2.1=zA (.tup (p.1.map kV))/\zx p.2 q.2.2
theorem KT.val (r:KT H kvs xs) (k:List Key):yP (qP kvs k) ((xa xs k).map (·.2)):=by
 induction r with
 | nil=>exact QT
 | @cons p q ps c h t g =>
  obtain⟨f,_,i⟩:=h;by_cases e:p.1=k
  ·have d:q.1=k:=f.symm.trans e;have b:xa (q::c) k=zA q.2:=by simp[xa,vf,d]
   rw[YV e,b];exact i
  ·have d:¬ q.1=k:=λz=>e (f.trans z);have b:xa (q::c) k=xa c k:=by simp[xa,vf,d]
   rw[ur e,b];exact g
theorem KT.repl (r:KT H kvs xs) (k:List Key) {y:V} (ry:zx y u) :
  KT H (kvs.map λd=>if d.1=k then (d.1,y) else d) (xs.map (putAt k u)):=by
 induction r with
 | nil=>exact .nil
 | @cons p q ps j h t g =>
  rw[ju,ju];refine .cons ?_ g;obtain⟨c,f,i⟩:=h;unfold putAt;by_cases e:p.1=k
  ·rw[if_pos e,if_pos (c.symm.trans e)];exact⟨c,f,ry⟩
  ·rw[if_neg e,if_neg (λz=>e (c.trans z))];exact⟨c,f,i⟩
theorem KT.put (r:KT H kvs xs) (k:List Key) {b:zN}{y:V} (c:H b=zA (.tup (k.map kV))) (ry:zx y u) :
  KT H (ya kvs k y) (storedH xs k b u):=by
 have e:(kvs.any λd=>decide (d.1=k))=(xa xs k).isSome:=by
  rw[ET,(r.val k).isSome_eq,bt]
 unfold ya storedH;rw[e];by_cases q:(xa xs k).isSome=zC
 ·rw[if_pos q,if_pos q];exact r.repl k ry
 ·rw[if_neg q,if_neg q];exact Paired.snoc r ⟨rfl,c,ry⟩
theorem KT.keeps {c:Hp} (r:KT H kvs xs) (e:∀ b d,H b=zA (.tup d)->c b=zA (.tup d)):KT c kvs xs :=
 Paired.mapP r λ_ _ z=>⟨z.1,e _ _ z.2.1,z.2.2⟩
section
variable {P:jF}{w:z7}{H:Hp}{h:zg}{a:zN}
theorem BR (ok:HOk P w H h) (e:Rd H a u):jz P w H h a u:=e.ok ok
theorem xG {kvs:List (Key×V)} (ok:HOk P w H h) (e:Rd H a (.dK kvs)):kvs.length <= z5/\(a == Zk)=zP/\∃ vs,KV kvs vs/\h.DictOf (jm P w) a vs :=
 show jz P w H h a (.dK kvs) from BR ok e
theorem Jj {kvs:List (Key×V)} (ok:HOk P w H h) (e:H a=zA (.dK kvs)):kvs.length <= z5/\(a == Zk)=zP/\∃ vs,KV kvs vs/\h.DictOf (jm P w) a vs:=xG ok (.inl e)
theorem kj {ks:List Key} (ok:HOk P w H h) (e:H a=zA (.tup (ks.map kV))):(XY (jm P w)).is h ks a:=by
 obtain⟨_,c,r,o,d,f,n,g⟩:=(show jz P w H h a (.tup (ks.map kV)) from ok a _ e)
 exact⟨o,c.toArray,n,d,f,g,by simpa using Ej r⟩
theorem k7 {kvs:List (List Key×V)} (ok:HOk P w H h) (e:Rd H a (.dT kvs)):kvs.length <= z5/\(a == Zk)=zP /\
  ∃ xs,KT H kvs xs/\h.DictOfH (XY (jm P w)) a xs:=by
 obtain⟨z,y,xs,r,o,es,d,f,g,i,j,n⟩:=(show jz P w H h a (.dT kvs) from BR ok e)
 refine⟨z,y,xs,r,o,es,d,f,g,i,j,λx hx=>?_,n⟩;have all:∀ {l:List (List Key×V)}{m:List (List Key×zN×zO)},KT H l m->∀ x∈m,(XY (jm P w)).is h x.1 x.2.1:=by
  intro l m q
  induction q with
  | nil=>intro x hx;exact nomatch hx
  | @cons p q ps u c t s =>
   intro x hx;rcases jc.mp hx with e | hx
   ·subst e;exact kj ok (by rw[<- c.1];exact c.2.1)
   ·exact s x hx
 exact all r x hx
theorem LU {kvs:List (List Key×V)} (ok:HOk P w H h) (e:H a=zA (.dT kvs)):kvs.length <= z5/\(a == Zk)=zP /\
  ∃ xs,KT H kvs xs/\h.DictOfH (XY (jm P w)) a xs:=k7 ok (.inl e)
end
def ZE (H:Hp) (a:zN) (y:V) (r:Option V):Prop :=
 (∃ kvs k,Rd H a (.dK kvs)/\y=kV k/\r=qP kvs k)\/∃ kvs k b,Rd H a (.dT kvs)/\y=.ref b/\H b=zA (.tup (k.map kV))/\r=qP kvs k
def VV (H:Hp) (a:zN) (y v:V) (c:Hp):Prop :=
 (∃ kvs k,H a=zA (.dK kvs)/\y=kV k/\kvs.length < z5/\c=upd H a (.dK (ya kvs k v))) \/
 ∃ kvs k b,H a=zA (.dT kvs)/\y=.ref b/\H b=zA (.tup (k.map kV))/\kvs.length < z5/\c=upd H a (.dT (ya kvs k v))
theorem ZE.k {H:Hp}{a:zN}{kvs:List (Key×V)}{k:Key} (e:H a=zA (.dK kvs)):ZE H a (kV k) (qP kvs k):=.inl ⟨kvs,k,.inl e,rfl,rfl⟩
theorem VV.k {H:Hp}{a:zN}{kvs:List (Key×V)}{k:Key} (e:H a=zA (.dK kvs)) (c:kvs.length < z5):VV H a (kV k) v (upd H a (.dK (ya kvs k v))):=.inl ⟨kvs,k,e,rfl,c,rfl⟩
section
variable {X:Cx}{pins:List (zN×Obj)}{σ:St}{H:Hp}{s:zU}{a:zN}{y v:V}{u r:zO}{o:Option V}{A:jf}{E:zO->zU->Prop}
theorem Inv.big (I:Inv X pins σ H s):Zk < s.heap.objs.size:=by
 have h:jY < s.heap.objs.size:=(I.mod.glob.keeps I.bk).lt;exact Wi (by decide) h
theorem Ln {Q:zO->zU->Prop} (m:A.units+1 < Zu) (I:Inv X pins σ H s) (g:ZE H a y (zA v)) (ry:zx y u) (h:∀ d s',Inv X pins σ H s'->zx v d->Q d s') :
  zc (za X.prog X.w) A (getItem (.ref a) u) Q E s:=by
 rcases g with ⟨kvs,k,e,f,l⟩ | ⟨kvs,k,b,e,f,n,l⟩
 ·subst f;obtain⟨z,hd,vs,rel,i⟩:=xG I.hok e;obtain⟨d,hw,c⟩:=yP.some_of (v:=v) (o:=Qx vs k) (by rw[l];exact rel.val k);exact wpAny_getItem_of (Q2 ry) i.mapOf hw (h d _ (I.tok _) c)
 ·subst f;cases (show u=jv b from ry);obtain⟨z,hd,xs,rel,i⟩:=k7 I.hok e;obtain⟨d,hw,c⟩:=yP.some_of (v:=v) (o:=(xa xs k).map (·.2)) (by rw[l];exact rel.val k);obtain⟨p,q,j⟩:=Option.map_eq_some_iff.mp hw;refine wpAny_getItem_heap (vE m) (kj I.hok n) i q ?_;rw[j];exact h d _ (I.tok _) c
theorem iX {Q:zO->zU->Prop} (f:A.units+1 < Zu) (I:Inv X pins σ H s) (g:ZE H a y o) (ry:zx y u) (h:∀ s',Inv X pins σ H s'->Q (.bool o.isSome) s') :
  zc (za X.prog X.w) A (jt .In u (.ref a)) Q E s:=by
 rcases g with ⟨kvs,k,e,c,l⟩ | ⟨kvs,k,b,e,c,i,l⟩
 ·subst c;obtain⟨z,hd,vs,rel,d⟩:=xG I.hok e;refine wpAny_in_of (Q2 ry) hd d.mapOf ?_;rw[<- (rel.val k).isSome_eq,<- l];exact h _ (I.tok _)
 ·subst c;cases (show u=jv b from ry);obtain⟨z,hd,xs,rel,d⟩:=k7 I.hok e;refine wpAny_in_heap (vE f) (kj I.hok i) hd d ?_;have q:=(rel.val k).isSome_eq;rw[bt] at q;rw[<- q,<- l];exact h _ (I.tok _)
theorem b5 {Q:zO->zU->Prop} (f:A.units+1 < Zu) (I:Inv X pins σ H s) (g:ZE H a y o) (ry:zx y u) (h:∀ s',Inv X pins σ H s'->Q (.bool (!o.isSome)) s') :
  zc (za X.prog X.w) A (jt .NotIn u (.ref a)) Q E s:=by
 rcases g with ⟨kvs,k,e,c,l⟩ | ⟨kvs,k,b,e,c,i,l⟩
 ·subst c;obtain⟨z,hd,vs,rel,d⟩:=xG I.hok e;refine wpAny_notIn_of (Q2 ry) hd d.mapOf ?_;rw[<- (rel.val k).isSome_eq,<- l];exact h _ (I.tok _)
 ·subst c;cases (show u=jv b from ry);obtain⟨z,hd,xs,rel,d⟩:=k7 I.hok e;refine wpAny_notIn_heap (vE f) (kj I.hok i) hd d ?_;have q:=(rel.val k).isSome_eq;rw[bt] at q;rw[<- q,<- l];exact h _ (I.tok _)
theorem wH {t':Nat}{ob:HO} (I:Inv X pins σ H s) (c:Mut (H a)) (d:X2 a s.heap h') (f:∃ q,h'.get? a=zA q) (new:jz X.prog X.w (upd H a ob) h' a ob) (h:0 < t':=by first | exact yt _ | assumption | exact Inv.tk (by assumption) | lia) :
  Inv X pins σ (upd H a ob) { s with heap:=h',toks:=t' } :=
 I.write (x:=a) (e:=a) c (.inl rfl) (λb q g z=>(d.2 b g).trans z) f new
theorem WC {P:jF}{w:z7}{h':zg}{kvs:List (Key×V)}{vs:List (Key×zO)} (z:kvs.length <= z5) (hd:(a == Zk)=zP) (rel:KV kvs vs) (c:h'.DictOf (jm P w) a vs) :
  jz P w d h' a (.dK kvs):=⟨z,hd,vs,rel,c⟩
theorem ou {Q:Unit->zU->Prop} (G:A.units+1 < Zu) (I:Inv X pins σ H s) (g:VV H a y v J) (ry:zx y u) (x:zx v r) (h:∀ s',Inv X pins σ J s'->Q () s') :
  zc (za X.prog X.w) A (V7 (.ref a) u r) Q E s:=by
 rcases g with ⟨kvs,k,e,i,l,j⟩ | ⟨kvs,k,b,e,i,B,l,j⟩
 ·subst i j;obtain⟨z,hd,vs,rel,m⟩:=Jj I.hok e;have n:vs.length <= z5:=by rw[<- rel.length];exact z
  have p:(ya kvs k v).length <= z5:=by have:=cb kvs k v;lia
  refine wpAny_setItem_pairs (hsz:=n) (Q2 ry) m λh' d t=>h _ ?_;have L:∃ q,h'.get? a=zA q:=let ⟨q,_,_,f,_⟩:=d;⟨q,f⟩;exact wH I (by rw[e];exact QT) t L (WC p hd (rel.put k x) d)
 ·subst i j;cases (show u=jv b from ry);obtain⟨z,hd,xs,rel,m⟩:=LU I.hok e;have n:xs.length <= z5:=by rw[<- Paired.length rel];exact z
  have p:(ya kvs k v).length <= z5:=by have:=cb kvs k v;lia
  refine wpAny_setItem_heap (hsz:=n) (vE G) (kj I.hok B) m λh' d t=>h _ ?_;obtain⟨q,es,M,f,N,U,Y,_,h5⟩:=d;refine wH I (by rw[e];exact QT) t ⟨q,f⟩ ⟨p,hd,_,(rel.put k B x).keeps λc ys C=>?_,q,es,M,f,N,U,Y,h5⟩;rw[jA (oA C e (λz=>nomatch z))];exact C
end
section
variable {X:Cx}{pins:List (zN×Obj)}{σ:St}{H:Hp}{s:zU}{a:zN}{kvs:List (Key×V)}{k:Key}{u:zO}{A:jf}{E:zO->zU->Prop}
theorem Bj {v:V}{more:List zO}{Q:zO->zU->Prop} (I:Inv X pins σ H s) (e:H a=zA (.dK kvs)) (ry:zx (kV k) u) (l:qP kvs k=zA v) (hm:more=[]\/∃ x,more=[x])
  (h:∀ c s',Inv X pins σ (upd H a (.dK (Z9 kvs k))) s'->zx v c->Q c s'):zc (za X.prog X.w) A (call (.builtin "dict.pop") (.ref a::u::more)) Q E s:=by
 obtain⟨z,hd,vs,rel,g⟩:=Jj I.hok e;obtain⟨c,hw,f⟩:=yP.some_of (v:=v) (o:=Qx vs k) (by rw[<- l];exact rel.val k);have j:(keyPart u).isSome=zC:=by
  cases k with
  | inl i=>obtain⟨t,q⟩:=(show ∃ t,u=KR i t from ry);subst q;rfl
  | inr x=>obtain⟨t,q⟩:=(show ∃ t,u=XD x t from ry);subst q;rfl
 have ha:argsOk "dict.pop" ⟨.ref a::u::more,[]⟩:=by
  rcases hm with q | ⟨x,q⟩
  ·subst q;exact PySem.F.args_dict_pop_2 _ _
  ·subst q;exact gG _ _ _
 refine Xn KA g.typeIs HZ ha (meets_dict_pop_there (jm X.prog X.w) a (Q2 ry) more hm j)
  ⟨vs,c,g,by rw[<- rel.length];exact z,hw,λh' d m=>h c _ ?_ f⟩
 have n:∃ q,h'.get? a=zA q:=let ⟨q,_,_,p,_⟩:=d;⟨q,p⟩;exact wH I (by rw[e];exact QT) m n (WC (qe (He kvs k) z) hd (rel.drop k) d)
theorem IP {r:zO}{Q:zO->zU->Prop} (I:Inv X pins σ H s) (e:H a=zA (.dK kvs)) (ry:zx (kV k) u) (l:qP kvs k=zB) (h:∀ s',Inv X pins σ H s'->Q r s') :
  zc (za X.prog X.w) A (call (.builtin "dict.pop") [.ref a,u,r]) Q E s:=by
 obtain⟨z,hd,vs,rel,c⟩:=Jj I.hok e;have d:Qx vs k=zB:=yP.none_of (by rw[<- l];exact rel.val k);have f:(keyPart u).isSome=zC:=by
  cases k with
  | inl i=>obtain⟨t,q⟩:=(show ∃ t,u=KR i t from ry);subst q;rfl
  | inr x=>obtain⟨t,q⟩:=(show ∃ t,u=XD x t from ry);subst q;rfl
 exact Xn KA c.typeIs HZ (gG _ _ _) (meets_dict_pop_default (jm X.prog X.w) a (Q2 ry) hd f r) ⟨vs,c,d,h _ (I.tok _)⟩
theorem F2 {Q:zO->zU->Prop} (I:Inv X pins σ H s) (e:Rd H a (.dK kvs)) (h:∀ t s',Inv X pins σ H s'->Q (.int kvs.length t) s'):zc (za X.prog X.w) A (call (.builtin "len") [.ref a]) Q E s:=by
 obtain⟨z,hd,vs,rel,c⟩:=xG I.hok e;refine call_len_dict hd c (by rw[<- rel.length];rw[Zc] at z;lia) ?_;rw[<- rel.length];exact h _ _ (I.tok _)
end
theorem lH {X:Cx}{a:zN}{y:V} (I:Inv X d σ H s) (g:ZE H a y o):s.TypeIs (.ref a) "dict" := by
 rcases g with ⟨kvs,k,e,_,_⟩ | ⟨kvs,k,b,e,_,_,_⟩
 ·obtain⟨_,_,vs,_,c⟩:=xG I.hok e;exact c.typeIs
 ·obtain⟨_,_,xs,_,c⟩:=k7 I.hok e;exact c.typeIs
def g7 (d ty e:TE):TS:=λD σ H=>e σ H λv f=>d σ f λx g=>ty σ g λy h=>∃ a c,x=.ref a/\VV h a y v c/\D.nx σ c
section
variable {X:Cx}{o i e value:zi}{pos pos' tpos:Pos}{td ty tv:TE}
theorem Lu (d:X.A.units+1 < Zu) (f:PE X o td) (hi:PE X i ty) (j:PE X value tv) (l:xR value (zA (.Subscript o i pos')) pos.line X.env=pure zP) :
  PS X (.Assign [.Subscript o i pos'] value pos) (g7 td ty tv):=by
 intro c s σ H D I h;refine wpAny_Assign_Subscript (jC (j c s σ H _ I h) λr s1 v m n p q=>jC (f c s1 σ m _ n q) λu s2 x t z rx B=>jC (hi c s2 σ t _ z B) λL s3 y M C ry ⟨a,E,ex,g,G⟩=>?_) l;subst ex;obtain rfl:u=jv a:=rx;exact ou d C g ry p λN J=>⟨σ,E,J,G⟩
end
theorem gX {P:jF}{w:z7} (h:zg) (c:Zk < h.objs.size):jz P w H (h.push { cls:=.type "dict",data:=.dict #[] }) h.objs.size (.dK []) :=
 ⟨XF _,beq_eq_false_iff_ne.mpr (yJ (je c)),[],.nil,NW h⟩
def OF:TE:=λ_ H Q=>∀ p,H p=zB->Q (.ref p) (upd H p (.dK []))
section
variable {X:Cx}{pos:Pos}
theorem mq:PE X (.Dict [] [] pos) OF:=λc s σ H Q I h =>
 wpAny_Dict_empty ⟨.ref s.heap.objs.size,_,I.laid (a:=s.heap.objs.size) (o:=.dK []) (t':=s.toks) (λ_ _ q=>j0 _ q) (jB _) (gX s.heap I.big),rfl,h _ (I.hok.fresh (jB _))⟩
end
section
variable {X:Cx}{pins:List (zN×Obj)}{σ:St}{H:Hp}{s:zU}{a:zN}{y d:V}{u r:zO}{o:Option V}{A:jf}{E:zO->zU->Prop}
theorem i7 {Q:zO->zU->Prop} (j:A.units+1 < Zu) (I:Inv X pins σ H s) (g:ZE H a y o) (ry:zx y u) (h:∀ i s',Inv X pins σ H s'->zx (o.getD .non) i->Q i s') :
  zc (za X.prog X.w) A (call (.builtin "dict.get") [.ref a,u]) Q E s:=by
 rcases g with ⟨kvs,k,e,f,l⟩ | ⟨kvs,k,b,e,f,m,l⟩
 ·subst f;obtain⟨z,hd,vs,rel,c⟩:=xG I.hok e;refine Xn VE c.typeIs W1 (G0 _ _) (meets_dict_get (jm X.prog X.w) a (Q2 ry) hd) ⟨_,c.mapOf,h _ _ (I.tok _) ?_⟩;rw[l];exact (rel.val k).getD rfl
 ·subst f;cases (show u=jv b from ry);obtain⟨z,hd,xs,rel,c⟩:=k7 I.hok e;refine Xn VE c.typeIs W1 (G0 _ _) (meetsH_dict_get (XY (jm X.prog X.w)) a b hd) ⟨vE j,k,xs,kj I.hok m,c,h _ _ (I.tok _) ?_⟩;rw[l];exact (rel.val k).getD rfl
theorem ph {Q:zO->zU->Prop} (m:A.units+1 < Zu) (I:Inv X pins σ H s) (g:ZE H a y o) (ry:zx y u) (i:zx d r) (h:∀ j s',Inv X pins σ H s'->zx (o.getD d) j->Q j s') :
  zc (za X.prog X.w) A (call (.builtin "dict.get") [.ref a,u,r]) Q E s:=by
 rcases g with ⟨kvs,k,e,f,l⟩ | ⟨kvs,k,b,e,f,n,l⟩
 ·subst f;obtain⟨z,hd,vs,rel,c⟩:=xG I.hok e;refine Xn VE c.typeIs W1 (NT _ _ _) (meets_dict_get_default (jm X.prog X.w) a (Q2 ry) hd r) ⟨_,c.mapOf,h _ _ (I.tok _) ?_⟩;rw[l];exact (rel.val k).getD i
 ·subst f;cases (show u=jv b from ry);obtain⟨z,hd,xs,rel,c⟩:=k7 I.hok e;refine Xn VE c.typeIs W1 (NT _ _ _) (meetsH_dict_get_default (XY (jm X.prog X.w)) a b hd r) ⟨vE m,k,xs,kj I.hok n,c,h _ _ (I.tok _) ?_⟩;rw[l];exact (rel.val k).getD i
end
end L2
namespace Att
open PySem PySem.W PySem.Calls PyProof.Rows
theorem ow {P:Params}:∀ (ns:List Int) (vs:List zO),WellAll P h vs (ns.map pa)->Vz vs ns:=by
 intro ns
 induction ns with
 | nil =>
  intro vs w;rw[vU] at w;cases w;exact .nil
 | cons n ns c =>
  intro vs w;rw[ju] at w;cases w with
  | cons a b =>
   cases a;exact .cons _ _ (c _ b)
theorem oD {l:OpenLaw}{n:Nat} (s:l.most=zA n) {P:Params}{args:List WData}
  (c:l.row.toRowW.claim.pre args=zC) (m:WellAll P h e args) :
  ∃ a vs ns,e=[jv a]/\args=[WData.list (ns.map pa)]/\h.get? a=zA { cls:=.type "list",data:=.seq vs.toArray }/\Vz vs ns/\ns.length <= n:=by
 have o:WShape.hasAll [] args [.list .int]=zC:=(pre_splitW c).1;have p:l.pre.holds [] { args:=args }=zC:=(pre_splitW c).2;obtain⟨d,r,rfl,t,u⟩:=hasAllW_cons o;obtain rfl:=hasAllW_nil u;obtain⟨xs,rfl,v⟩:=hasW_list t;obtain⟨ns,rfl⟩:=items_int v;have f:ns.length <= n:=by
  unfold OpenLaw.pre at p;have i:(WTm.not (.lt (.lit (.int (n:Int))) (.len (.arg 0)))).holds [] { args:=[.list (ns.map .int)] }=zC:=by
   have i:=(holds_andW p).1;rw[s] at i;exact i
  have j:=condW_of i (w_not (w_lt w_lit (w_len_list (w_arg rfl))));rw[qd] at j;refine Nat.le_of_not_lt λq=>?_;have x:(n:Int) < ((ns.length:Nat):Int):=by lia
  first
   | (rw[decide_eq_true x] at j;exact absurd j (by decide))
   | (simp at j;lia)
 cases m with
 | cons y z =>
  cases z;cases y with
  | list A g=>exact⟨_,_,ns,rfl,rfl,A,ow ns _ g,f⟩
theorem IS (l:OpenLaw) (args:List WData):l.row.toRowW.claim.post args (.bool zC) args=zC :=
 postW_of (r:=l.row.toRowW) (X:=(zC == zC))
  (show mT [] (.bool zC) .bool=zC by first | rfl | decide | simp[mT,WShape.arms,WShape.armsAll])
  (show (WTm.eq .res (.lit (.bool zC))).value [] { args:=args,res:=some (.bool zC),after:=args }=zA (.bool (zC == zC)) from w_eq_bool (w_res rfl) w_lit) rfl
theorem L6 {l:OpenLaw}{n:Nat}{z:z7->zg->Prop}{d:DefRec}
  (E:l.most=zA n) (t:d.params.defaults=[])
  (call:∀ (w:z7) (s₀ c:zU) (mg u:Str->Option zO) (i:zN) (o:Obj) (pm s e:zO) (a:zN) (vs:List zO) (ns:List Int),
   Ground q g [] H w s₀ mg u c.heap->z w c.heap ->
   c.heap.get? i=zA o->o.data=.func (docDef d.name d.params d.body d.scope pm s e)->c.heap.CodeRec s d.name->mg d.name=zA (.ref i) ->
   c.heap.get? a=zA { cls:=.type "list",data:=.seq vs.toArray }->Vz vs ns->ns.length <= n->c.gens = #[] ->
   xB (za l.prog w) KW (.call (.ref i) ⟨[.ref a],[]⟩) (λr s'=>r=.ok (.ret (.bool zC))/\OldK c.heap s'.heap/\s'.os=c.os/\Je s'.gens) c) :
  WalkO q g H z l.row.toRowW d [] (λf vs=>DV f vs):=by
 intro w s₀ c mg u G Y i o pm s e I kV J hd v A x L args B as j C M y N;obtain rfl:I=.none:=Dflts.none A t;obtain rfl:kV=.none:=Dflts.noKw A;obtain⟨a,vs,ns,rfl,rfl,m,h,p⟩:=oD E j y;refine enter_call (Xf (call w s₀ c mg u i o pm s e a vs ns G Y J (fd_plain hd) v x m h p L) λr s' Q=>?_);obtain⟨rfl,U,h3,h4⟩:=Q;exact⟨.inl ⟨.bool zC,.bool zC,[],rfl,λ_=>rfl,.bool zC,IS l _,λ_=>⟨aY,λ_ hm=>(nomatch hm)⟩⟩,U,h3,h4⟩
end Att
namespace L2
open PySem PySem.Spec PyProof.Rows
theorem BZ:∀ {vs:List zO}{ns:List Int},Vz vs ns->z6 (ns.map V.int) vs
 | _,_,.nil=>.nil
 | _,_,.cons n t h=>.cons ⟨t,rfl⟩ (BZ h)
def vN (H:Hp):Prop:=∀ b,H b=zB\/∃ o xs,H b=zA (.frz o (.lst xs))
theorem Hq {P:jF}{w:z7}{K:zV}{mg E:Str->Option zO}{k:Nat}{a:zN}{x:Str}{sp:Sp}{c:zU}{vs:List zO}{ns:List Int}
  (Q:K.In c.heap) (l:c.heap.Ns jY mg) (f:c.heap.Ns Bo E) (G:∀ x:Str,x ≠ "__name__" -> E x=yB x) (p:c.heap.NoLimit) (hg:c.gens = #[])
  (ha:c.heap.get? a=zA { cls:=.type "list",data:=.seq vs.toArray }) (hi:Vz vs ns) (U:ns.length <= z5) (hr:jE k KW)
  (F:∀ base:zg,K.In base->base.Ns jY mg->z4 P w K mg base CX k Y fd [x] sp) (hT:fd.scope.names.lookup x=zA .local) (j:∀ (s:zU) (u:zO),K8 s fd ⟨[u],[]⟩ [(x,u)])
  (I:∀ H:Hp,vN H->SqL K H a (ns.map V.int)->sp [.ref a] H (λv _=>v=.bl zC) λ_ _ _=>False)
  (J:∀ H e s',CX [] H c (λ_ _ _=>False) e s'->False) :
  xB (za P w) KW (.call (.ref Y) ⟨[.ref a],[]⟩) (λr s'=>r=.ok (.ret (.bool zC))/\OldK c.heap s'.heap/\s'.os=c.os/\Je s'.gens) c:=by
 have rv:=BZ hi;have t:=hi.length;have i:∀ H:Hp,vN H->SqL K H a (ns.map V.int)->HOk P w H c.heap->(∀ b,H b≠zB->b=a)->(H a≠zB->K.lookup a=zB) ->
   xB (za P w) KW (.call (.ref Y) ⟨[.ref a],[]⟩) (λr s'=>r=.ok (.ret (.bool zC))/\OldK c.heap s'.heap/\s'.os=c.os/\Je s'.gens) c:=by
  intro H hO hS hok hA hK;have base_of:∀ {b:zN}{o:Obj},c.heap.get? b=zA o->H b=zB->(Jp c.heap H).get? b=zA o:=λe n=>LC e n;have L:∀ {b:zN}{o:Obj}{es:Array DictEntry}{y:Nat},c.heap.get? b=zA o->o.data=.dict es y->H b=zB:=λ{b o es y} e d=>by
   cases q:H b with
   | none=>rfl
   | some u =>
    have M:b=a:=hA b (by rw[q];simp);subst M;rw[ha] at e;cases e;have d':Data.seq vs.toArray _=Data.dict es y:=d;cases d'
  have g:∀ {b:zN}{m:Str->Option zO},c.heap.Ns b m->(Jp c.heap H).Ns b m:=λ{b m} ⟨o,es,y,e,d,r⟩=>⟨o,es,y,base_of e (L e d),d,r⟩
  have A:K.In (Jp c.heap H):=λb o e=>base_of (Q b o e) (by
   cases q:H b with
   | none=>rfl
   | some u =>
    have M:b=a:=hA b (by rw[q];simp);subst M;rw[hK (by rw[q];simp)] at e;cases e)
  have hM:Mod K mg (Jp c.heap H):=⟨A,g l,⟨E,g f,G⟩,let ⟨mc,h1,h2⟩:=p;⟨mc,g h1,h2⟩⟩
  have e0:ke P w K mg (Jp c.heap H) KW [] c H:=⟨rfl,hM,λb o e=>mx e,Kk (nJ _ _),trivial,λb f=>absurd (show b∈([]:List zN) from f) (by simp),hok,.of_eq hg⟩
  refine Xf ((F _ A (g l)).run KW [] c H ⟨[.ref a],[]⟩ [.ref a] [.ref a] _ _ hr e0 (.inr ⟨x,Jg.mpr rfl,hT⟩) (j c (.ref a)) (.cons rfl .nil) (I H hO hS)) λr s' h=>?_;cases r with
  | error e=>exact (J H e s' h).elim
  | ok fl =>
   cases fl with
   | next=>exact jZ h
   | brk=>exact jZ h
   | cont=>exact jZ h
   | ret u =>
    obtain⟨v,H',os,bare,un,B,r',q⟩:=h;have q':v=.bl zC:=q;subst q';obtain rfl:u=xv zC:=r';refine⟨rfl,OldK.of_keep λb o e=>?_,os,bare⟩;cases q:H b with
    | none=>exact un.keep b o e q (by intro z;exact absurd (show b∈([]:List zN) from z) (by simp)) (by simp)
    | some u =>
     rcases hO b with z | ⟨ob,xs,z⟩
     ·rw[q] at z;cases z
     ·have z2:=un.frzs b ob _ z;obtain⟨e1,_⟩:=hok b _ z;obtain⟨e2,_⟩:=B b _ z2;rw[e] at e1;cases e1;exact e2
 cases N:K.lookup a with
 | some o =>
  have e:=Q a o N;rw[ha] at e;cases e;refine i (λ_=>zB) (λ_=>.inl rfl) (.inr ⟨_,vs.toArray,_,N,rfl,rfl,rfl,by rw[qY,t];exact U,by simpa using rv⟩) (λb u z=>by have C:(zB:Option HO)=zA u:=z;cases C) (λb z=>absurd rfl z) λz=>absurd rfl z
 | none =>
  refine i (λb=>if b=a then zA (.frz { cls:=.type "list",data:=.seq vs.toArray } (.lst (ns.map V.int))) else zB) (λb=>?_) (.inl (.inr ⟨{ cls:=.type "list",data:=.seq vs.toArray },if_pos rfl⟩)) (λb u z=>?_) (λb z=>?_) λ_=>N
  ·by_cases f:b=a
   ·exact .inr ⟨_,_,if_pos f⟩
   ·exact .inl (if_neg f)
  ·by_cases f:b=a
   ·have C:=(if_pos f).symm.trans z;cases C;subst f;exact⟨ha,by rw[qd];exact U,vs,_,rv,ha⟩
   ·have C:=(if_neg f).symm.trans z;cases C
  ·by_cases f:b=a
   ·exact f
   ·exact absurd (if_neg f) z
theorem mX {l:Ee}{n k:Nat}{C:z7->zg->Prop}{d:DefRec}{K:Params->zV}{CX:z7->CXT}{sp:z7->Sp}{x:Str}
  (I:l.most=zA n) (r:n <= z5) (t:d.params.defaults=[]) (J:jE k KW)
  (L:∀ (w:z7) (h:zg),C w h->(K w.params).In h)
  (F:∀ (w:z7) (mg:Str->Option zO) (p:zN) (h:zg),(K w.params).In h->h.Ns jY mg->mg d.name=zA (.ref p) ->
   ∃ fd:Jr,(∀ (s:zU) (u:zO),K8 s fd ⟨[u],[]⟩ [(x,u)])/\fd.scope.names.lookup x=zA .local /\
    ∀ base:zg,(K w.params).In base->base.Ns jY mg->z4 l.prog w (K w.params) mg base (CX w) k p fd [x] (sp w))
  (y:∀ (w:z7) (H:Hp) (a:zN) (ns:List Int),ns.length <= n->vN H->SqL (K w.params) H a (ns.map V.int)->sp w [.ref a] H (λv _=>v=.bl zC) λ_ _ _=>False)
  (z:∀ (w:z7) (H:Hp) (s:zU) (e:zO) (s':zU),CX w [] H s (λ_ _ _=>False) e s'->False) :
  Ge q A XP C l.row.toRowW d [] (λf vs=>DV f vs):=by
 refine Att.L6 I t λw s₀ j mg mb p o pm cd M a vs ns G Y ho hd N B m i c Q=>?_;have E:=L w _ Y;obtain⟨fd,U,hT,hF⟩:=F w mg p _ E G.T.g B;exact Hq E G.T.g G.T.b G.T.builtins G.T.nolimit Q m i (qe c r) J hF hT U (λH hO hS=>y w H a ns c hO hS) λH e s'=>z w H j e s'
noncomputable def qZ (s:zo) (j:Nat):zo:=match s with
 | .ClassDef _ _ _ c _ _ _ _ _ _ _=>c.getD j (.Pass ⟨0,0,0,0⟩)
 | _=>.Pass ⟨0,0,0,0⟩
noncomputable def JS (s:zo):Arguments:=match s with
 | .FunctionDef _ a _ _ _ _ _ _ _ _=>a
 | _=>{ posonlyargs:=[],args:=[],vararg:=none,kwonlyargs:=[],kw_defaults:=[],kwarg:=none,defaults:=[] }
noncomputable def yc (s:zo):List zo:=match s with
 | .FunctionDef _ _ b _ _ _ _ _ _ _=>b
 | _=>[]
noncomputable def zv (s:zo):QF:=match s with
 | .FunctionDef _ _ _ _ _ _ c _ _ _=>c
 | _=>{ kind:=.function,names:=[],isGenerator:=false,isCoroutine:=false }
abbrev CX0:CXT:=λ_ _ _ _ _ _=>False
abbrev E0:XK:=λ_ _ _=>False
theorem Xz {X:Cx}:ZV CX0 X E0:=λ_ _ _ _ _ _ _ h=>h.elim
structure Fun (K:zV) (x qual:Str) (st:zo) (f:zN) (fd:Jr):Prop where
 ex:∃ (oc:zO) (od:Option zN) (kV doc pm:zO) (an:Option zN) (cdv ct:zO) (osl:Array (Option zO)),
  fd=QJ x qual (JS st) (yc st) (zv st) .none kV doc pm an cdv ct/\K.lookup f=zA ⟨oc,od,.func fd,osl⟩/\VY K cdv qual=zC
 kp:yX K (.ref f)=zC
section
variable {P:jF}{w:z7}{K:zV}{mg:Str->Option zO}{base:zg}
theorem Fun.ok {st:zo}{k:Nat}{sp:Sp} (F:Fun K x qual st f fd) (S:jG N ps (zv st)) (len:∀ vs H Q E,sp vs H Q E->vs.length=ps.length)
  (d:∀ (c:zO) (A:jf) (outer:List Env) (s:zU) (H:Hp) (vs:List V) (Q:VK) (E:XK),jE k (A.deeper (y8 qual (zv st) s.heap.objs.size f c))->sp vs H Q E ->
   ∃ t,PSs (yf CX0 P w K mg base N qual (zv st) f c A outer s H E).nox (yc st) t/\t { nx:=λ_ i=>Q .non i,rt:=Q } (Ql N vs) H):z4 P w K mg base CX0 (k+1) f fd ps sp:=by
 obtain⟨o,p,kV,j,pm,r,c,ct,l,rfl,m,e⟩:=F.ex;refine EC m e S len λA outer s H vs Q E n g=>?_;obtain⟨t,h,q⟩:=d c A outer s H vs Q E n g;exact⟨t,h.nox,q⟩
theorem Fun.binds {st:zo}{ps:List Str} (F:Fun K x qual st f fd)
  (h:∀ (kV c pm:zO) (e:Option zN) (d ct:zO) (us:List zO),us.length=ps.length->aX (QJ x qual (JS st) (yc st) (zv st) .none kV c pm e d ct) ⟨us,[]⟩=pure (ps.zip us)):yx K fd ps []:=by
 obtain⟨j,l,kV,c,pm,e,d,ct,g,rfl,m,i⟩:=F.ex;exact .all (h kV c pm e d ct)
theorem Aq {st:zo}{f:zN}{h:zO}{i:Option zN}{e:Array (Option zO)}{kV pm:zO} (l:K.lookup f=zA ⟨h,i,.func (QJ x qual (JS st) (yc st) (zv st) .none kV g pm j d ct),e⟩)
  (c:VY K d qual=zC) (k:yX K (.ref f)=zC):Fun K x qual st f (QJ x qual (JS st) (yc st) (zv st) .none kV g pm j d ct):=⟨⟨h,i,kV,g,pm,j,d,ct,e,rfl,l,c⟩,k⟩
end
theorem vF {k:Nat} (c:jE k A):A.units+1 < Zu:=Nat.lt_of_le_of_lt (Nat.add_le_add_left (by decide:1 <= 64) _) c.units
theorem Jm {A B:Prop} (h:B):if zP=zC then A else B:=by
 rw[if_neg qU];exact h
theorem JX {A B:Prop} (h:A):if zC=zC then A else B:=by
 rw[if_pos rfl];exact h
section
variable {X:Cx}
theorem Ma:qp X (.builtin "len") (λxs H Q=>∃ a kvs,xs=[V.ref a]/\H a=zA (.dK kvs)/\Q (.int kvs.length) H):=by
 intro c s σ H xs us Q I r h;obtain⟨a,kvs,rfl,ha,q⟩:=h;obtain⟨u,rfl,d⟩:=ZN r;cases d;exact F2 I (.inl ha) λt s' e=>⟨.int kvs.length,H,e,⟨t,rfl⟩,q⟩
end
end L2
set_option maxHeartbeats 4000000
namespace L2
open PySem PySem.Spec PyProof.Rows
noncomputable abbrev qA (X:Cx) (vars:List Str) (scope:QF) (cl:List (Str×zN)) (C:zN) (e:List zN) (c:zU) (d:Hp):Cx where
 prog:=X.prog
 w:=X.w
 K:=X.K
 mg:=X.mg
 base:=X.base
 A:=X.A
 N:=X.N++vars
 s₀:=c
 H₀:=d
 env:=Qm scope cl C X.env
 outer:=X.stack
 stack:=X.stack
 ex:=e
 fn:=λ_=>zP
 calm:=X.calm
 pn:=[]
 xe:=λ_ _=>False
noncomputable def vL (cells:List (Str×zN)):List (Str×zN)->Prop
 | []=>True
 | p::r=>cells.lookup p.1=zA p.2/\vL cells r
theorem vL.get {cells:List (Str×zN)}:∀ {cl:List (Str×zN)}{x:Str}{c:zN},vL cells cl->cl.lookup x=zA c->cells.lookup x=zA c
 | [],_,_,_,e=>by simp at e
 | (y,d)::r,x,c,h,e=>by
  cases hx:x == y with
  | true =>
   simp only[Zz,hx] at e;have f:x=y:=eq_of_beq hx;subst f;rw[<- e];exact h.1
  | false =>
   simp only[Zz,hx] at e;exact vL.get h.2 e
noncomputable def okK (on:List (Str×kh)) (vars:List Str) (cl:List (Str×zN)) (x:Str):kh->Bool
 | .local=>x == (".0" : Str) || vars.contains x
 | .cell=>zP
 | .free=>(cl.lookup x).isSome && (on.lookup x == zA .cell || on.lookup x == zA .free)
 | _=>zC
structure Zb (X:Cx) (vars:List Str) (scope:QF) (cl:List (Str×zN)):Prop where
 kind:scope.kind=.function
 clos:closureFor scope X.env=pure cl
 dis:(vars.all λx=>!X.N.contains x)=zC
 zero:X.N.contains (".0" : Str)=zP
 names:∀ y∈scope.names,y.2=.local->scope.names.lookup y.1=zA .local
 cells:vL X.env.cells cl
 ok:(scope.names.all λp=>okK X.env.scope.names vars cl p.1 p.2)=zC
theorem wL {env:Env}{x:Str}:∀ {names:List (Str×kh)},
  (names.map λ(n,k)=>if (k == XQ && env.scope.kind == .function && env.kindOf n == zA .cell) then (n,vq) else (n,k)).lookup x =
   (names.lookup x).map λk=>if (k == XQ && env.scope.kind == .function && env.kindOf x == zA .cell) then vq else k
 | []=>rfl
 | (n,k)::r=>by
  have d:=@wL env x r;show xk x ((if (k == XQ && env.scope.kind == .function && env.kindOf n == zA .cell)=zC then (n,vq) else (n,k))::_)=_;cases hx:x == n with
  | true =>
   have e:x=n:=eq_of_beq hx;subst e;by_cases c:(k == XQ && env.scope.kind == .function && env.kindOf x == zA .cell)=zC
   ·rw[if_pos c];simp only[Zz,hx,Xb,if_pos c]
   ·rw[if_neg c];simp only[Zz,hx,Xb,if_neg c]
  | false =>
   by_cases c:(k == XQ && env.scope.kind == .function && env.kindOf n == zA .cell)=zC
   ·rw[if_pos c];simp only[Zz,hx];exact d
   ·rw[if_neg c];simp only[Zz,hx];exact d
section
variable {X:Cx}{vars:List Str}{scope:QF}{cl:List (Str×zN)}{C D:zN}{fp:List zN}{qh:zU}{H:Hp}{pins:List (zN×Obj)}{σ:St}
theorem Zb.okAt (S:Zb X vars scope cl) {x:Str}{k:kh} (h:scope.names.lookup x=zA k):okK X.env.scope.names vars cl x k=zC:=by
 have:=ja.mp S.ok (x,k) (xS h);exact this
theorem Zb.noCell (S:Zb X vars scope cl):∀ y∈scope.names,y.2≠.cell:=λy c e=>by
 have h:=ja.mp S.ok y c;rw[e] at h;exact absurd (show zP=zC from h) qU
theorem Zb.freeOf (S:Zb X vars scope cl) {x:Str} (h:(Qm scope cl C X.env).kindOf x=zA .cell\/(Qm scope cl C X.env).kindOf x=zA .free):scope.names.lookup x=zA .free:=by
 have e:(Qm scope cl C X.env).kindOf x=(scope.names.lookup x).map λk=>if (k == XQ && X.env.scope.kind == .function && X.env.kindOf x == zA .cell) then vq else k:=wL
 rw[e] at h;cases q:scope.names.lookup x with
 | none=>rw[q] at h;simp at h
 | some k =>
  rw[q] at h;by_cases c:k=.free
  ·rw[c]
  ·have d:(k == XQ)=zP:=by simpa using c
   simp only[Xb,d,g9,qj,if_false,mG] at h;rcases h with h | h
   ·subst h;exact absurd rfl (S.noCell (x,.cell) (xS q))
   ·exact absurd h c
theorem Zb.localOf (S:Zb X vars scope cl) {x:Str} (h:(Qm scope cl C X.env).kindOf x=zA .local):scope.names.lookup x=zA .local:=by
 have e:(Qm scope cl C X.env).kindOf x=(scope.names.lookup x).map λk=>if (k == XQ && X.env.scope.kind == .function && X.env.kindOf x == zA .cell) then vq else k:=wL
 rw[e] at h;cases q:scope.names.lookup x with
 | none=>rw[q] at h;simp at h
 | some k =>
  rw[q] at h;simp only[Xb,mG] at h;split at h
  ·cases h
  ·rw[h]
theorem Oe (I:Inv X pins σ H qh) (S:Zb X vars scope cl) (E:∀ b∈fp,QG X pins H b) (J:∀ b∈fp,∃ o,qh.heap.get? b=zA o)
  {f:zg}{tk:Nat} (L:qh.heap.objs.size <= D) (M:qh.heap.objs.size <= C) (Q:D≠C) {G:Obj} (eD:f.get? D=zA G) (cD:∀ v,G.data≠.cell v) {m:Str->Option zO} (hn:f.Ns C m)
  (old:∀ b o,qh.heap.get? b=zA o->f.get? b=zA o) (ht:0 < tk:=by first | exact yt _ | assumption | exact Inv.tk (by assumption) | lia) :
  Inv (qA X vars scope cl C fp qh H) [(D,G)] (σ++zm vars.length zB) H { qh with heap:=f,toks:=tk }:=by
 have A:∀ b∈fp,b∉frs X.stack:=λb j z=>by
  rcases jc.mp (I.stkSub b z) with e | e
  ·exact (E b j).2.1 e
  ·exact (E b j).2.2.1 e
 have d:∀ x c,cl.lookup x=zA c->X.env.cells.lookup x=zA c:=λx c e=>S.cells.get e;have U:∀ b∈fp,b < qh.heap.objs.size:=λb j=>by
  obtain⟨o,e⟩:=J b j;exact jM e
 have ok:(qA X vars scope cl C fp qh H).Ok:=by
  refine⟨I.ok.mod,S.kind,I.ok.glob,I.ok.blt,M,λx y c Y n=>I.ok.inj x y c (d x c Y) (d y c n),λx hx=>?_,λx c h _=>absurd (show zP=zC from h) qU,I.ok.hd,I.ok.frames,.inl rfl,
   λb j=>⟨je (j6 (U b j) M),λx c e z=>(E b j).2.2.2.2.1 x c (d x c e) z⟩,I.bs,qe I.ok.bsz I.sz,λb o e j=>?_,A,I.stack,I.stkFree⟩
  ·have q:=S.okAt (S.freeOf (C:=C) hx);have g:((cl.lookup x).isSome && (X.env.scope.names.lookup x == zA .cell || X.env.scope.names.lookup x == zA .free))=zC:=q;rw[j8] at g;exact A2.mp g.1
  ·rcases (E b j).2.2.2.1 with z | z
   ·exact I.ok.noex b o e z
   ·exact absurd (j6 (jM e) (qe I.ok.bsz z)) (Zq _)
 have nst:D∉frs X.stack:=λz=>by
  rcases jc.mp (I.stkSub D z) with e | e
  ·exact absurd (j6 (e ▸ I.lt) L) (Zq _)
  ·exact I.nofs L e
 refine⟨ok,rfl,I.bare,Un.kept old,⟨m,hn,λi x v Y n B=>?_⟩,λx c e=>?_,I.hok.fresh M,λx c e=>I.freeC x c (d x c e),λp hp=>?_,I.hok.kept old,?_,ht⟩
 ·have hlen:=I.len;have s:(X.N++vars)[i]? = zA x:=Y;by_cases hi:i < σ.length
  ·rw[yQ (by lia)] at s;rw[yQ hi] at n;have t:X.N.contains x=zC:=by
    rw[List.contains_iff_exists_mem_beq];exact⟨x,ZW s,by simp⟩
   have hk:(Qm scope cl C X.env).kindOf x=zA .cell\/(Qm scope cl C X.env).kindOf x=zA .free:=by
    rcases B with B | B
    ·have q:=S.okAt (S.localOf (C:=C) B);have g:(x == (".0" : Str) || vars.contains x)=zC:=q;rw[YX] at g;rcases g with g | g
     ·have e0:x=(".0" : Str):=eq_of_beq g;rw[e0,S.zero] at t;cases t
     ·have q2:=ja.mp S.dis x (by simpa using g);rw[t] at q2;cases q2
    ·exact B
   have q:=S.okAt (S.freeOf (C:=C) hk);have g:((cl.lookup x).isSome && (X.env.scope.names.lookup x == zA .cell || X.env.scope.names.lookup x == zA .free))=zC:=q;rw[j8,YX] at g;obtain⟨c,hc⟩:=A2.mp g.1;have ho:X.env.scope.names.lookup x=zA .cell\/X.env.scope.names.lookup x=zA .free:=by
    rcases g.2 with z | z
    ·exact .inl (eq_of_beq z)
    ·exact .inr (eq_of_beq z)
   obtain⟨m0,_,hl⟩:=I.loc;obtain⟨u,r,l⟩:=hl i x v s n (.inr ho);refine⟨u,r,.inr ⟨hk,c,hc,?_⟩⟩;rcases l with ⟨l1,_⟩ | ⟨_,c',e',o,eo,ed⟩
   ·have l2:X.env.scope.names.lookup x=zA .local:=l1;rcases ho with z | z
    ·rw[l2] at z;cases z
    ·rw[l2] at z;cases z
   ·rw[d x c hc] at e';cases e';exact⟨o,old _ _ eo,ed⟩
  ·rw[yi (by lia),KS] at n;split at n<;>cases n
 ·obtain⟨v,o,eo,ed⟩:=I.cell x c (d x c e);exact⟨v,o,old _ _ eo,ed⟩
 ·have e:p=(D,G):=by simpa using hp
  subst e;exact⟨eD,I.hok.fresh L,Q,nst,cD⟩
 ·show (σ++zm vars.length zB).length=(X.N++vars).length;rw[ZI,ZI,w4,I.len]
end
def JE (X:Cx) (e:List zi) (t:TT):Prop :=
 ∀ (d:List (zN×Obj)) (s:zU) (σ:St) (H:Hp) (Q:Bool->Hp->Prop),Inv X d σ H s->t σ H Q ->
  zc (za X.prog X.w) X.A (forIn e zC λc r=>if r=zC then do let ok <- isTrue c X.env (eval c X.env);pure (X9 ok) else pure (X9 r)) (TP X d σ Q) X.xe s
def qE:TT:=λ_ H Q=>Q zC H
theorem Lf {X:Cx}:JE X [] qE:=λ_ _ _ H _ I h=>wpAny_tests_nil ⟨H,I,h⟩
theorem i8 {X:Cx} (h:PT X c t):JE X [c] t:=λd s σ H Q I hw=>wpAny_tests_one (h d s σ H Q I hw)
def Wk (σ c:St):Prop:=σ.length=c.length/\∀ (i:Nat) v,σ[i]? = zA (zA v)->c[i]? = zA (zA v)
def bJ (n:Nat) (h:TI) (g:TG) (ti:TT) (te:TE):TE:=λσ H Q=>h σ H λJ j=>∃ W:Nat->Nat->List V->Hp->Prop,(∃ m,W 0 m [] j)/\∀ i m d c,W i m d c->d.length <= z5 /\
 ((J.stop i c/\∀ D,c D=zB->Q (.ref D) (upd c D (.lst d))) \/
  (J.go i c/\∀ x f,J.yld i c x f->g x (σ++zm n zB) f λσ2 l=>Wk (σ++zm n zB) σ2/\ti σ2 l λb H5 =>
   if b=zC then te σ2 H5 λy H6=>∃ e,e < m/\W (i+1) e (d++[y]) H6 else ∃ e,e < m/\W (i+1) e d H5))
theorem Inv.track {X:Cx}{D:zN} (I:Inv X d σ H s) (i:X.s₀.heap.objs.size <= D) (j:H D=zB) (l:D≠X.env.locals)
  (g:∀ x c,X.env.cells.lookup x=zA c->c≠D) (m:∀ p∈X.pn++d,p.1≠D) (new:jz X.prog X.w (upd H D o) s.heap D o):Inv X d σ (upd H D o) s:=by
 have ne:∀ {b u},H b=zA u->b≠D:=λe z=>by rw[z,j] at e;cases e
 refine⟨I.ok,I.os,I.bare,⟨I.base.keep,I.base.slot,λb ob e n hx=>?_,I.base.there,λb xs e=>?_,λb ob u e=>?_,λb ps e=>?_⟩,I.loc,I.cell,?_,λx c e=>?_,λp f=>?_,λb u e=>?_,I.len,I.tk⟩
 ·rw[jA (je (j6 (jM e) i))];exact I.base.free b ob e n hx
 ·have q:=I.base.tups b xs e;rw[jA (ne q)];exact q
 ·have q:=I.base.frzs b ob u e;rw[jA (ne q)];exact q
 ·obtain⟨mo,q⟩:=I.base.tbls b ps e;exact⟨mo,by rw[jA (ne q)];exact q⟩
 ·rw[jA (yJ l)];exact I.free
 ·rw[jA (g x c e)];exact I.freeC x c e
 ·obtain⟨r,t,v,y,A⟩:=I.pin p f;exact⟨r,by rw[jA (m p f)];exact t,v,y,A⟩
 ·by_cases h:b=D
  ·subst h;rw[qD] at e;cases e;exact new
  ·rw[jA h] at e;exact (I.hok b u e).stay (λ_ _ _ q=>q) (λc q=>by rw[jA (ne q)];exact q) λc xs q=>by rw[jA (ne q)];exact q
noncomputable abbrev Jc (us:List zO) (n:Nat):Obj:={ cls:=.type "list",data:=.seq us.toArray n }
section
variable {X:Cx}{vars:List Str}{scope:QF}{cl:List (Str×zN)}{C D it:zN}{fp:List zN}{qh:zU}{ZY:Hp}{tg elt qB:zi}{ifs:List zi}{pos:Pos}{J:It}{tn:Nat->zg->Prop}
 {g:TG}{ti:TT}{te:TE}{R:Yp->zU->Prop}
theorem Mh (hc:X.calm=zC) (T:JF X.prog X.w X.K tg J fp it tn) (hg:PG (qA X vars scope cl C fp qh ZY) tg g) (hi:JE (qA X vars scope cl C fp qh ZY) ifs ti) (he:PE (qA X vars scope cl C fp qh ZY) elt te)
  {h:St} (W:Nat->Nat->List V->Hp->Prop) {F:List V->Hp->Prop} (hD0:qh.heap.objs.size <= D) (Y:D≠C) (hDs:D∉frs X.stack) (hDc:∀ x c,cl.lookup x=zA c->c≠D)
  (hS:∀ b∈fp,b≠C/\b∉frs X.stack/\(∀ x c,cl.lookup x=zA c->c≠b)/\D≠b)
  (turn:∀ i m j L,W i m j L->j.length <= z5/\((J.stop i L/\F j L) \/
   (J.go i L/\∀ x H3,J.yld i L x H3->g x h H3 λσ2 H4=>Wk h σ2/\ti σ2 H4 λb H5 =>
    if b=zC then te σ2 H5 λy H6=>∃ H,H < m/\W (i+1) H (j++[y]) H6 else ∃ H,H < m/\W (i+1) H j H5)))
  (hR:∀ s' j us n L,Inv (qA X vars scope cl C fp qh ZY) [(D,Jc us n)] h L s'->z6 j us->j.length <= z5->F j L->R (.ok .next) s')
  (I0:Inv (qA X vars scope cl C fp qh ZY) [(D,Jc [] n0)] h H0 s) (st0:tn 0 s.heap) (f0:∀ b∈fp,H0 b=zB) (w0:W 0 m0 [] H0) :
  xB (za X.prog X.w) X.A (.compLoop (.ListComp elt [⟨tg,qB,ifs,0⟩] scope pos) 0 (.ref it) (.ref D) (Qm scope cl C X.env)) R s:=by
 have G:∀ {E:Hp}{o:Obj},(∀ b∈fp,E b=zB)->∀ b∈fp,QG (qA X vars scope cl C fp qh ZY) [(D,o)] E b:=λ{E o} hn b t =>
  ⟨hn b t,(hS b t).1,(hS b t).2.1,.inl t,(hS b t).2.2.1,λp l=>by
   have e:p=(D,o):=by simpa using l
   subst e;exact (hS b t).2.2.2⟩
 refine codeAny_loop rfl (λn s=>∃ i j us U E,Inv (qA X vars scope cl C fp qh ZY) [(D,Jc us U)] h E s/\z6 j us/\tn i s.heap/\(∀ b∈fp,E b=zB)/\W i n j E) (λn s hI=>?_) m0 ⟨0,[],[],n0,H0,I0,.nil,st0,f0,w0⟩;show zc _ X.A ((compTurn (.ListComp elt [⟨tg,qB,ifs,0⟩] scope pos) 0 (.ref it) (.ref D) (Qm scope cl C X.env)).onRaise (λx=>do BB x (Qm scope cl C X.env);theTreesLotGoes x)) _ _ s;refine wpAny_noted ?_;rw[compTurn_list];obtain⟨i,j,us,U,E,I,rv,st,fr,w⟩:=hI;obtain⟨hz,tt⟩:=turn i n j E w;refine zw (Xo (zw ?_));rcases tt with ⟨stop,q⟩ | ⟨go,q⟩
 ·refine ZD (T.done (qA X vars scope cl C fp qh ZY) rfl rfl rfl hc i _ s h E _ I (G fr) st stop) (λr s1 ⟨hr,I1⟩=>?_) (λ_ _ e=>e);subst hr;exact jx (hR s1 j us U E I1 rv hz q)
 ·refine ZD (T.item (qA X vars scope cl C fp qh ZY) rfl rfl rfl hc i _ s h E _ I (G fr) st go) (λr s1 ⟨u,hr,h1⟩=>?_) (λ_ _ e=>e);subst hr;refine zw (ZD h1 (λ_ s2 ⟨x,H3,I3,r3,y3,st3,fr3⟩=>?_) (λ_ _ e=>e));have I3':=I3.pinned (G fr3) (T.obj _ _ st3);refine zw (ZD (hg _ s2 h H3 x u _ I3' r3 (q x H3 y3)) (λ_ s3 ⟨B,H4,I4,wk,q4⟩=>?_) (λ_ _ f=>jZ f));refine zw (ZD (hi _ s3 B H4 _ I4 q4) (λb s4 ⟨H5,I5,q5⟩=>?_) (λ_ _ f=>jZ f));have M:∀ {Q:zU}{H7:Hp}{o:Obj},Inv (qA X vars scope cl C fp qh ZY) ((D,o)::JW fp s2.heap) B H7 Q->tn (i+1) Q.heap/\∀ b∈fp,H7 b=zB:=λ{Q H7 o} N=>by
   refine⟨T.keep _ _ _ st3 λb t ob e=>(N.pin (b,ob) (Zt _ (jj _ (uk t e)))).1,λb t=>?_⟩;obtain⟨ob,e,d⟩:=T.obj _ _ st3 b t;exact (N.pin (b,ob) (Zt _ (jj _ (uk t e)))).2.1
  have one:∀ {Q:zU}{H7:Hp}{o:Obj},Inv (qA X vars scope cl C fp qh ZY) ((D,o)::JW fp s2.heap) B H7 Q->Inv (qA X vars scope cl C fp qh ZY) [(D,o)] h H7 Q:=λ{Q H7 o} N =>
   (N.pins_of (pins':=[(D,o)]) λp l=>by
    have e:p=(D,o):=by simpa using l
    subst e;exact N.pin (D,o) (Zt _ qM)).weak wk.1 wk.2
  cases b with
  | false =>
   obtain⟨H,hm,w'⟩:=q5;obtain⟨b1,b2⟩:=M I5;exact jx ⟨rfl,H,hm,i+1,j,us,U,H5,one I5,rv,b1,b2,w'⟩
  | true =>
   refine zw (zw (ZD (he _ s4 B H5 _ I5 q5) (λv s5 ⟨y,H6,I6,r6,q6⟩=>?_) (λ_ _ f=>jZ f)));obtain⟨H,hm,w'⟩:=q6;obtain⟨eD,nD,_,_,_⟩:=I6.pin (D,Jc us U) (Zt _ qM);have hul:us.toArray.size <= z5:=by rw[qY,<- rv.length];exact hz
   refine zw (wpAny_list_append_plain (hsz:=hul) ⟨U,eD⟩ λh' l hs=>jx (jx ⟨rfl,?_⟩));obtain⟨n',l⟩:=l;have hp':h'.get? D=zA (Jc (us++[v]) n'):=by rw[l];simp
   have N:Inv (qA X vars scope cl C fp qh ZY) (JW fp s2.heap) B H6 { s5 with heap:=h',toks:=s5.toks }:=by
    refine Inv.turned (it:=D) (I6.pins_of (pins':=JW fp s2.heap) λp l=>I6.pin p (Zt _ (jj _ l))) (λb o t e=>(hs.2 b t).trans e) nD Y (.inr hD0) (λx c e=>hDc x c e) λp l=>?_;have hp2:p∈JW fp s2.heap:=by simpa using l
    exact yJ (hS p.1 (CG hp2).1).2.2.2
   have I8:Inv (qA X vars scope cl C fp qh ZY) ((D,Jc (us++[v]) n')::JW fp s2.heap) B H6 { s5 with heap:=h',toks:=s5.toks }:=N.pins_of λp l=>by
    rcases jc.mp l with rfl | l
    ·exact⟨hp',nD,Y,hDs,λv z=>by cases z⟩
    ·exact N.pin p (Zt _ l)
   obtain⟨b1,b2⟩:=M I8;exact⟨H,hm,i+1,j++[y],us++[v],n',H6,one I8,rv.append (.cons r6 .nil),b1,b2,w'⟩
end
section
variable {X:Cx}{vars:List Str}{scope:QF}{cl:List (Str×zN)}{tg elt qB:zi}{ifs:List zi}{pos:Pos}{wi:TI}{g:TG}{ti:TT}{te:TE}
theorem oX (hc:X.calm=zC) (S:Zb X vars scope cl) (hg:∀ C N r s,PG (qA X vars scope cl C N r s) tg g) (ht:∀ C N r s,JE (qA X vars scope cl C N r s) ifs ti)
  (he:∀ C N r s,PE (qA X vars scope cl C N r s) elt te) {F:zN->Hp->Prop}{RR:zO->zN->Yp->zU->Prop}
  (h2:PIE X d σ tg (λJ H1=>∃ W:Nat->Nat->List V->Hp->Prop,(∃ m,W 0 m [] H1)/\∀ i m Q U,W i m Q U->Q.length <= z5 /\
   ((J.stop i U/\∀ D,U D=zB->F D (upd U D (.lst Q))) \/
    (J.go i U/\∀ x H3,J.yld i U x H3->g x (σ++zm vars.length zB) H3 λσ2 H4=>Wk (σ++zm vars.length zB) σ2/\ti σ2 H4 λb H5 =>
     if b=zC then te σ2 H5 λy H6=>∃ m',m' < m/\W (i+1) m' (Q++[y]) H6 else ∃ m',m' < m/\W (i+1) m' Q H5))) itv s2)
  (hRR:∀ D C s' I,(∃ m,s'.heap.Ns C m)->C≠X.env.locals->(∀ x c,X.env.cells.lookup x=zA c->c≠C)->Inv X d σ I s'->(∀ (h':zg),X2 C s'.heap h'->∀ (s'':zU),s''={ s' with heap:=h' }->Inv X d σ I s'') ->
   (∀ (σ':St) (s3:zU),Inv X d σ' I s3->(∃ a,X2 a s'.heap s3.heap/\(a=X.env.locals\/∃ x,X.env.cells.lookup x=zA a))->∀ (h':zg),X2 C s3.heap h'->Inv X d σ' I { s3 with heap:=h' }) ->
   F D I->RR (.ref D) C (.ok .next) s') :
  zc (za X.prog X.w) X.A (newList []) (λacc t=>zc (za X.prog X.w) X.A (cV scope X.env.globals cl [] X.env.qual zB .none (zA X.env)) (λcenv s₄ =>
   xB (za X.prog X.w) X.A (.compStart (.ListComp elt [⟨tg,qB,ifs,0⟩] scope pos) 0 itv acc { cenv with scope:=relabel scope X.env }) (RR acc cenv.locals) s₄) E t) E s2:=by
 obtain⟨it,N,tn,J,U,e,G,T,st2,Y,W,⟨m0,w0⟩,turn⟩:=h2;subst e;refine Nk (wpAny_newFunctionEnv S.noCell (by intro y hy;simp at hy) (λu l h=>?_) S.kind);dsimp only at l h ⊢;generalize hH2:s2.heap.push { cls:=.type "list",dict:=none,data:=.seq ([]:List zO).toArray }=H at l h ⊢;have hC:H.objs.size=s2.heap.objs.size+1:=by rw[<- hH2,JV]
 have hDC:s2.heap.objs.size≠H.objs.size:=by rw[hC];exact je (u6 _)
 have j:s2.heap.objs.size <= H.objs.size:=by rw[hC];exact Jy _
 have L:∀ b,b < s2.heap.objs.size->b≠H.objs.size/\b≠s2.heap.objs.size:=λb f=>⟨by rw[hC];exact je (WN f),je f⟩
 have old:∀ b o,s2.heap.get? b=zA o->u.get? b=zA o:=λb o e=>h.extBut b o (L b (jM e)).1 (j0 _ (hH2 ▸ j0 _ e));have hacc:u.get? s2.heap.objs.size=zA (Jc [] 0):=h.extBut _ _ hDC (j0 _ (hH2 ▸ yV _ rfl));have B:tn 0 u:=T.keep _ _ _ st2 λb _ o e=>old b o e;have hob:∀ b∈N,∃ o,s2.heap.get? b=zA o:=λb f=>by
  obtain⟨o,e,_⟩:=T.obj _ _ st2 b f;exact⟨o,e⟩
 have fpl:∀ b∈N,b < s2.heap.objs.size:=λb f=>by
  obtain⟨o,e⟩:=hob b f;exact jM e
 have cget:∀ x c,cl.lookup x=zA c->X.env.cells.lookup x=zA c:=λx c e=>S.cells.get e;have M:∀ x c,X.env.cells.lookup x=zA c->c < s2.heap.objs.size:=λx c e=>by
  obtain⟨v,q⟩:=G.cell x c e;exact q.lt
 have pint:∀ p∈X.pn++d,p.1 < s2.heap.objs.size:=λp hp=>jM (G.pin p hp).1;have fpst:∀ b∈N,b∉frs X.stack:=λb f z=>by
  rcases jc.mp (G.stkSub b z) with e | e
  ·exact (Y b f).2.1 e
  ·exact (Y b f).2.2.1 e
 have nst:s2.heap.objs.size∉frs X.stack:=λz=>by
  rcases jc.mp (G.stkSub _ z) with e | e
  ·exact absurd (e ▸ G.lt) (Zq _)
  ·exact G.nofs (jB _) e
 have CL:H.objs.size≠X.env.locals:=λz=>absurd (j6 (z ▸ G.lt) j) (Zq _);have CC:∀ x c,X.env.cells.lookup x=zA c->c≠H.objs.size:=λx c e=>je (j6 (M x c e) j);have CP:∀ p∈X.pn++d,p.1≠H.objs.size:=λp hp=>je (j6 (pint p hp) j);have loop:∀ t:zU,t={ s2 with heap:=u,toks:=s2.toks+([]:List (Str×zO)).length } ->
   xB (za X.prog X.w) X.A (.compLoop (.ListComp elt [⟨tg,qB,ifs,0⟩] scope pos) 0 (.ref it) (.ref s2.heap.objs.size) (Qm scope cl H.objs.size X.env)) (RR (.ref s2.heap.objs.size) H.objs.size) t:=by
  rintro t rfl
  have I0:Inv (qA X vars scope cl H.objs.size N s2 U) [(s2.heap.objs.size,Jc [] 0)] (σ++zm vars.length zB) U { s2 with heap:=u,toks:=s2.toks+([]:List (Str×zO)).length } :=
   Oe G S Y hob (jB _) j hDC hacc (λv z=>by cases z) l old
  refine Mh hc T (hg _ _ _ _) (ht _ _ _ _) (he _ _ _ _) (D:=s2.heap.objs.size) W (F:=λQ I=>∀ D,I D=zB->F D (upd I D (.lst Q))) (jB _) hDC nst (λx c e=>je (M x c (cget x c e)))
   (λb f=>⟨(L b (fpl b f)).1,fpst b f,λx c e z=>(Y b f).2.2.2.2.1 x c (cget x c e) z,QZ (fpl b f)⟩) turn ?_ I0 B (λb f=>(Y b f).1) w0
  intro s' Q us n I I' rv hz q;obtain⟨eD,nD,_,_,_⟩:=I'.pin (s2.heap.objs.size,Jc us n) (Zt _ qM);have J1:Inv X d σ I s':=G.call' I'.os I'.base I'.hok I'.bare (λb f=>⟨(Y b f).2.2.2.1,(Y b f).2.1,(Y b f).2.2.2.2.1,(Y b f).2.2.2.2.2⟩) I'.tk;have J2:Inv X d σ (upd I s2.heap.objs.size (.lst Q)) s':=J1.track G.sz nD (λz=>absurd (z ▸ G.lt) (Zq _)) (λx c e=>je (M x c e)) (λp hp=>je (pint p hp)) ⟨hz,us,n,rv,eD⟩;have nC:upd I s2.heap.objs.size (.lst Q) H.objs.size=zB:=by
   rw[jA (yJ hDC)];exact I'.free
  refine hRR _ _ s' _ ?_ CL CC J2 (λh' hs s'' e=>?_) (λσ' s3 I3 _ h' hs=>?_) (q _ nD)
  ·obtain⟨m,hn,_⟩:=I'.loc;exact⟨m,hn⟩
  ·subst e;exact J2.turned (t':=s'.toks) (it:=H.objs.size) (λb o f e=>(hs.2 b f).trans e) nC CL (.inr (qe G.sz j)) CC CP
  ·exact I3.turned (t':=s3.toks) (it:=H.objs.size) (λb o f e=>(hs.2 b f).trans e) nC CL (.inr (qe G.sz j)) CC CP
 exact codeAny_compStart_list (loop _ rfl) (T.self _ 0 _ _ _ B (loop _ rfl))
theorem wV (n:X.calm=zC) (S:Zb X vars scope cl) (hi:PI X tg qB wi) (o:∀ C e c d,PG (qA X vars scope cl C e c d) tg g) (p:∀ C e c d,JE (qA X vars scope cl C e c d) ifs ti)
  (r:∀ C e c d,PE (qA X vars scope cl C e c d) elt te) (t:∀ x,Kc qB X.env x=pure x:=by intro _;rfl):PE X (.ListComp elt [⟨tg,qB,ifs,0⟩] scope pos) (bJ vars.length wi g ti te):=by
 intro f s σ H Q I h;rw[eval_ListComp];refine wpAny_comprehension_free (use:=none) rfl t S.clos S.kind S.names (thn (hi f s σ H _ I h) λv s1 u=>thn u λy s2 z=>?_);refine oX n S o p r (F:=λD i=>Q (.ref D) i) z λD C s' i j A B G E _ q=>?_;obtain⟨m,j⟩:=j;exact⟨m,j,λh' l=>⟨.ref D,i,E h' l _ rfl,rfl,q⟩⟩
end
noncomputable def Its (z:Str):It:=⟨λi _=>i < z.length,λi H x d=>d=H/\∃ c,z.cps[i]? = zA c/\x=.str ⟨#[c]⟩,λi _=>z.length <= i⟩
theorem pw {P:jF}{w:z7}{K:zV} (it:zN) (z:Str) (t:Tok):JF P w K tg (Its z) [it] it (λi h=>h.IsStrIter it "str_ascii_iterator" z t i) where
 mem:=by simp
 obj:=λi h st b g=>by
  have e:b=it:=by simpa using g
  subst e;obtain⟨o,e,c,d⟩:=st;exact⟨o,e,λv z=>by rw[d] at z;cases z⟩
 keep:=λi h h' st k=>let ⟨o,J,r⟩:=st;⟨o,k it (by simp) o J,r⟩
 item:=by
  intro X n hw p G i f s σ H E I m st q;subst n hw p;obtain⟨u,x,L,y,A,B⟩:=m it (by simp);have j:i < z.cps.size:=q;refine wpAny_pyNext_ascii_item st (c:=z.cps[i]) (by simp[j]) λh' l sb=>?_;have M:Inv X f σ H { s with heap:=h',toks:=s.toks+1 }:=I.turned (λb o g e=>(sb.2 b g).trans e) u x y A B;obtain⟨o,e,c,d⟩:=id l;exact⟨_,rfl,Xu (s:={ s with heap:=h',toks:=s.toks+1 }) e c d (by decide) ⟨.str ⟨#[z.cps[i]]⟩,H,M,⟨_,rfl⟩,⟨rfl,z.cps[i],by simp[j],rfl⟩,l,λb g=>(m b g).1⟩⟩
 done:=by
  intro X n hw p G i f s σ H E I m st q;subst n hw p;obtain⟨u,x,L,y,A,B⟩:=m it (by simp);have C:z.cps.size <= i:=q;exact wpAny_pyNext_ascii_end (I.ok.hd G) st (by simp[C]) λh' N=>⟨rfl,I.turned (t':=s.toks) (λb o g e=>N b o g e) u x y A B⟩
 self:=λ_ _ _ _ _ st h=>wpAny_pyIter_striter_ascii st h
theorem Lo {P:jF}{w:z7}{K:zV} (it:zN) (z:Str) (t:Tok):JF P w K tg (Its z) [it] it (λi h=>h.IsStrIter it "str_iterator" z t i) where
 mem:=by simp
 obj:=λi h st b g=>by
  have e:b=it:=by simpa using g
  subst e;obtain⟨o,e,c,d⟩:=st;exact⟨o,e,λv z=>by rw[d] at z;cases z⟩
 keep:=λi h h' st k=>let ⟨o,J,r⟩:=st;⟨o,k it (by simp) o J,r⟩
 item:=by
  intro X n hw p G i f s σ H E I m st q;subst n hw p;obtain⟨u,x,L,y,A,B⟩:=m it (by simp);have j:i < z.cps.size:=q;refine wpAny_pyNext_wide_item st (c:=z.cps[i]) (by simp[j]) λh' l sb=>?_;have M:Inv X f σ H { s with heap:=h',toks:=s.toks+1 }:=I.turned (λb o g e=>(sb.2 b g).trans e) u x y A B;obtain⟨o,e,c,d⟩:=id l;exact⟨_,rfl,Xu (s:={ s with heap:=h',toks:=s.toks+1 }) e c d (by decide) ⟨.str ⟨#[z.cps[i]]⟩,H,M,⟨_,rfl⟩,⟨rfl,z.cps[i],by simp[j],rfl⟩,l,λb g=>(m b g).1⟩⟩
 done:=by
  intro X n hw p G i f s σ H E I m st q;subst n hw p;obtain⟨u,x,L,y,A,B⟩:=m it (by simp);have C:z.cps.size <= i:=q;exact wpAny_pyNext_wide_end (I.ok.hd G) st (by simp[C]) λh' N=>⟨rfl,I.turned (t':=s.toks) (λb o g e=>N b o g e) u x y A B⟩
 self:=λ_ _ _ _ _ st h=>wpAny_pyIter_striter_wide st h
def Nb (c:TE):TI:=λσ H R=>c σ H λx d=>∃ z,x=.str z/\R (Its z) d
theorem mv {X:Cx} (g:PE X l i):PI X tg l (Nb i):=by
 intro c s σ H R I h;refine jC (g c s σ H _ I h) λv s1 x f d j m=>?_;obtain⟨z,e,q⟩:=m;subst e;obtain⟨t,rfl⟩:=j;have fin:∀ b∈[s1.heap.objs.size],QG X c f b:=λb n=>by
  have e:b=s1.heap.objs.size:=by simpa using n
  subst e;exact d.fpOk (jB _) (d.hok.fresh (jB _))
 cases ha:z.cps.all (· < 128)
 ·refine wpAny_pyIter_wide ha ?_;exact⟨s1.heap.objs.size,[s1.heap.objs.size],_,Its z,f,rfl,d.kept (t':=s1.toks) λb o e=>j0 _ e,Lo _ z t,⟨_,yV _ rfl,rfl,rfl⟩,fin,q⟩
 ·refine wpAny_pyIter_ascii ha ?_;exact⟨s1.heap.objs.size,[s1.heap.objs.size],_,Its z,f,rfl,d.kept (t':=s1.toks) λb o e=>j0 _ e,pw _ z t,⟨_,yV _ rfl,rfl,rfl⟩,fin,q⟩
section
variable {X:Cx}
theorem pC:OpR X (jt .LtE) (λx y H Q=>∃ i j,x=.str i/\y=.str j/\Q (.bl (!decide (j.cps.toList < i.cps.toList))) H):=by
 intro c s σ H x y v u Q I rx ry h;obtain⟨i,j,rfl,rfl,q⟩:=h;obtain⟨t,rfl⟩:=rx;obtain⟨t',rfl⟩:=ry;exact PySem.P.le_str (j5 I q rfl)
theorem Bz {c:List Str}:∀ {us:List zO},z6 (c.map V.str) us->v9 us c:=by
 induction c with
 | nil=>intro us r;rw[vU] at r;cases r;exact .nil
 | cons y c d =>
  intro us r;rw[ju] at r;cases r with
  | cons f g =>
   obtain⟨t,e⟩:=f;subst e;exact .cons y t (d g)
noncomputable def bK (K:zV):V->List V->Hp->VK->Prop:=λx vs H Q=>∃ z p c,x=.str z/\vs=[.ref p]/\(SqL K H p (c.map V.str)\/SqT K H p (c.map V.str))/\(c.map (·.length)).sum+c.length * z.length <= 16777216/\Q (.str (Ak z c)) H
theorem Pt:MtR X "str.join" (bK X.K):=by
 intro f s σ H x vs v us Q I rx j h;obtain⟨z,p,g,rfl,rfl,c,i,q⟩:=h;obtain⟨t,rfl⟩:=rx;obtain⟨u,rfl,l⟩:=ZN j;cases l;rcases c with c | c
 ·obtain⟨d,r,pl,_⟩:=I.list c;exact ZL (n:=1) I.tk (join_list pl.isList (by simpa using Bz r) i λt' k e=>⟨.str (Ak z g),H,I.tok k e,⟨_,rfl⟩,q⟩)
 ·obtain⟨d,r,pl,_⟩:=I.tuple c;exact ZL (n:=1) I.tk (join_tuple pl (by simpa using Bz r) i λt' k e=>⟨.str (Ak z g),H,I.tok k e,⟨_,rfl⟩,q⟩)
theorem cS:∀ (l:List (Str×Tok)),z6 ((l.map (·.1)).map V.str) (strValues l)
 | []=>.nil
 | (x,t)::r=>.cons ⟨t,rfl⟩ (cS r)
def Bx:V->List V->Hp->VK->Prop:=λx vs H Q=>∃ z y,x=.str z/\vs=[.str y]/\(y.length == 0)=zP/\z.length+2 <= z5/\∀ p,H p=zB->Q (.ref p) (upd H p (.lst ((XT z y).map V.str)))
end
end L2
namespace L2
open PySem PySem.Spec PyProof.Rows PySem.Builtin.Str
section
variable {X:Cx}
theorem aG:MtR X "str.split" Bx:=by
 intro d s σ H x vs v us Q I rx A h;obtain⟨z,y,rfl,rfl,j,E,q⟩:=h;obtain⟨t,rfl⟩:=rx;obtain⟨u,rfl,g,rfl⟩:=ZN A;have m:(En z (uS z y 0 z.length (z.length+1)) y.length).length <= z5:=by
  have G:=StrLaws.occ_length_le z y 0 z.length (z.length+1);rw[length_partsBetween];lia
 have fin:∀ (l:List (Str×Tok)) (k:Nat),l.map (·.1)=XT z y->l.length <= z5->1 <= k->EP X d σ Q (.ref s.heap.objs.size) { s with heap:=s.heap.push { cls:=.type "list",data:=.seq (strValues l).toArray },toks:=k }:=λl k e B C=>by
  have o:=cS l;rw[e] at o;have i:((XT z y).map V.str).length <= z5:=by rw[qd,<- e,qd];exact B
  exact⟨.ref s.heap.objs.size,_,I.lnew o i C,rfl,q _ I.fresh⟩
 refine ZL (n:=1) I.tk ?_;cases c:(decide (z.length < y.length) || decide (strKind z < strKind y))
 ·cases f:(uS z y 0 z.length (z.length+1)).isEmpty
  ·refine xJ F.slot_str_split (Vf _ _ _) F.entry_str_split (F.args_str_split_2 _ _) (meets_str_split_sep z y t g c j f (by lia) m) ?_;show wants _ _ _ { s with toks:=_,heap:=s.heap.push { cls:=.type "list",data:=.seq (strsFrom s.toks (En z (uS z y 0 z.length (z.length+1)) y.length)).toArray } };rw[strsFrom_eq];have p:=(numbered_texts s.toks (En z (uS z y 0 z.length (z.length+1)) y.length))
   refine fin (numbered s.toks _) _ (p.trans ((if_neg (ne_true_of_eq_false c)).trans (if_neg (ne_true_of_eq_false f))).symm) ?_;have r:=congrArg List.length p;rw[qd] at r;rw[r];exact m
  ·exact xJ F.slot_str_split (Vf _ _ _) F.entry_str_split (F.args_str_split_2 _ _) (meets_str_split_not_found z y t g c j f)
    (fin [(z,t)] s.toks ((if_neg (ne_true_of_eq_false c)).trans (if_pos f)).symm (by show 1 <= z5;decide))
 ·exact xJ F.slot_str_split (Vf _ _ _) F.entry_str_split (F.args_str_split_2 _ _) (meets_str_split_cannot_occur z y t g c)
   (fin [(z,t)] s.toks (if_pos c).symm (by show 1 <= z5;decide))
theorem CJ:MtR X "str.partition" (λx vs H Q=>∃ z y,x=.str z/\vs=[.str y]/\(y.length == 0)=zP/\z.length <= z5 /\
  ∀ p,H p=zB->Q (.ref p) (upd H p (.tup [.str (xj z y).1,.str (xj z y).2.1,.str (xj z y).2.2]))):=by
 intro d s σ H x vs v us Q I rx n h;obtain⟨z,y,rfl,rfl,o,A,q⟩:=h;obtain⟨t,rfl⟩:=rx;obtain⟨u,rfl,g,rfl⟩:=ZN n;refine xJ F.slot_str_partition (Vf _ _ _) F.entry_str_partition (F.args_str_partition_2 _ _) (meets_str_partition z y t g o A) ?_;have fin:∀ (a b c:Str) (j tb l:Tok) (k:Nat),0 < k->EP X d σ (λv f=>∃ p,v=.ref p/\H p=zB/\f=upd H p (.tup [.str a,.str b,.str c])) (.ref s.heap.objs.size)
   { s with heap:=s.heap.push { cls:=.type "tuple",data:=.seq [.str a j,.str b tb,.str c l].toArray },toks:=k }:=λa b c j tb l k B =>
  ⟨.ref s.heap.objs.size,upd H s.heap.objs.size (.tup [.str a,.str b,.str c]),I.laid (t':=k) (λb u e=>j0 _ e) (jB _) ⟨(by show 3 <= z5;decide),_,.cons ⟨_,rfl⟩ (.cons ⟨_,rfl⟩ (.cons ⟨_,rfl⟩ .nil)),dm _ _⟩ B,rfl,_,rfl,I.fresh,rfl⟩
 have go:∀ {a b c:Str}{m:zO}{s':zU},EP X d σ (λv f=>∃ p,v=.ref p/\H p=zB/\f=upd H p (.tup [.str a,.str b,.str c])) m s'->(∀ p,H p=zB->Q (.ref p) (upd H p (.tup [.str a,.str b,.str c])))->EP X d σ Q m s':=λ⟨v,f,C,E,p,G,J,L⟩ M=>⟨v,f,C,E,by subst G;subst L;exact M p J⟩
 unfold xj at q;revert q;cases uS z y 0 z.length 1 with
 | nil=>intro q;exact go (fin z QL QL t s.toks s.toks _ (by first | exact yt _ | exact I.tk)) q
 | cons i r=>intro q;exact go (fin (strSub z 0 i) y (strSub z (i+y.length) z.length) s.toks g (s.toks+1) _ (by first | exact yt _ | exact I.tk)) q
theorem g4:OpR X (y4 .Mult) (λx y H Q=>∃ z n,x=.str z/\y=.int n/\MulOk z n/\Q (.str (UT z n)) H):=by
 intro c s σ H x y v u Q I rx ry h;obtain⟨z,n,rfl,rfl,hm,q⟩:=h;obtain⟨t,rfl⟩:=rx;obtain⟨t',rfl⟩:=ry;exact ZL (n:=1) I.tk (SB.mul hm λt' k d=>⟨.str _,H,I.tok k d,⟨_,rfl⟩,q⟩)
theorem O8 {bs:List Bool}:∀ {us:List zO},z6 (bs.map V.bl) us->us=bs.map xv:=by
 induction bs with
 | nil=>intro us r;rw[vU] at r;cases r;rfl
 | cons b bs c =>
  intro us r;rw[ju] at r;cases r with
  | cons d e=>rw[c e];cases d;rfl
theorem FO (bs:List Bool):((yT bs.length).all λi=>bs.getD i zP)=bs.all id:=by
 induction bs with
 | nil=>rfl
 | cons b bs c =>
  rw[qL,List.range_succ_eq_map,JJ,eZ,JJ,<- c];rfl
noncomputable def Cg (K:zV):List V->Hp->VK->Prop:=λxs H Q=>∃ (p:zN) (bs:List Bool),xs=[.ref p]/\SqL K H p (bs.map V.bl)/\Q (.bl (bs.all id)) H
theorem bO (t:X.calm=zC):qp X (.builtin "all") (Cg X.K):=by
 intro m s σ H xs us Q I r h;obtain⟨p,bs,rfl,x,q⟩:=h;obtain⟨u,rfl,y⟩:=ZN r;cases y;obtain⟨z,B,pl,L⟩:=I.list x;have e:=O8 B;subst e;obtain⟨o,C,E⟩:=pl.isList;have d:p < s.heap.objs.size:=jM C;refine ZL (n:=1) I.tk (call_all_walk (vS pl.isList ?_));refine⟨s.heap.objs.size,_,_,_,_,_,λi=>bs.getD i zP,rfl,IL (show X.A.in1.handled=zB from I.ok.hd t) s.heap.objs.size p (je d) (bs.map xv).toArray,⟨⟨_,yV _ rfl,rfl,rfl⟩,pl.isList.push _⟩,?_,λh' tk G f=>?_⟩
 ·intro i v s' M N J g;have c:(bs.map xv)[i]? = zA v:=by simpa using J
  rw[y9] at c;cases j:bs[i]? with
  | none=>rw[j] at c;cases c
  | some b =>
   rw[j] at c;cases c;have e:bs.getD i zP=b:=by simp[List.getD,j]
   dsimp only at g;rw[e] at g;exact Jn g
 ·have l:∀ b o,s.heap.get? b=zA o->h'.get? b=zA o:=λb o e=>G b o (by simpa using je (jM e)) (j0 _ e);refine⟨.bl (bs.all id),H,I.kept l f,?_,q⟩;show xv _=xv _;rw[<- FO];simp
end
mutual
inductive qr (K:zV) (H:Hp):V->Q0->Prop
 | non:qr K H .non .none
 | bl (b:Bool):qr K H (.bl b) (.bool b)
 | int (i:Int):qr K H (.int i) (.int i)
 | str (x:Str):qr K H (.str x) (.str x)
 | lst {p:zN}{xs:List V}{ds:List Q0}:SqL K H p xs->QX K H xs ds->qr K H (.ref p) (.list ds)
 | tup {p:zN}{xs:List V}{ds:List Q0}:SqT K H p xs->QX K H xs ds->qr K H (.ref p) (.tuple ds)
inductive QX (K:zV) (H:Hp):List V->List Q0->Prop
 | nil:QX K H [] []
 | cons {v:V}{d:Q0}{vs:List V}{ds:List Q0}:qr K H v d->QX K H vs ds->QX K H (v::vs) (d::ds)
end
section
variable {X:Cx}{pins:List (zN×Obj)}{σ:St}{H:Hp}{s:zU}
mutual
theorem qr.reads (I:Inv X pins σ H s):∀ {v:V}{d:Q0}{u:zO},qr X.K H v d->zx v u->∃ as,Reads s.heap u d as
 | _,_,_,.non,r=>by cases r;exact⟨_,.none⟩
 | _,_,_,.bl b,r=>by cases r;exact⟨_,.bool b⟩
 | _,_,_,.int i,r=>by obtain⟨t,rfl⟩:=r;exact⟨_,.int i t⟩
 | _,_,_,.str x,r=>by obtain⟨t,rfl⟩:=r;exact⟨_,.str x t⟩
 | _,_,_,.lst c ha,r=>by
  cases r;obtain⟨f,g,⟨o,n,e,h,hd,j⟩,_⟩:=I.list c;obtain⟨as,l⟩:=QX.reads I ha g;exact⟨_,.list e h j (by simpa using l)⟩
 | _,_,_,.tup c ha,r=>by
  cases r;obtain⟨f,g,⟨o,e,h,n,j⟩,_⟩:=I.tuple c;obtain⟨as,l⟩:=QX.reads I ha g;exact⟨_,.tuple e h j (by simpa using l)⟩
theorem QX.reads (I:Inv X pins σ H s):∀ {vs:List V}{ds:List Q0}{us:List zO},QX X.K H vs ds->z6 vs us->∃ as,ReadsAll s.heap us ds as
 | _,_,_,.nil,r=>by cases r;exact⟨_,.nil⟩
 | _,_,_,.cons h t,r=>by
  cases r with
  | cons c d =>
   obtain⟨as,e⟩:=qr.reads I h c;obtain⟨bs,f⟩:=QX.reads I t d;exact⟨_,.cons e f⟩
end
end
section
variable {X:Cx}
def Uy (K:zV) (neg:Bool):R2:=λx y H Q=>∃ d e,qr K H x d/\qr K H y e/\Zj d=zC/\Zj e=zC/\Q (.bl (if neg then !kJ d e else kJ d e)) H
theorem FM {k:Nat} (f:jE k X.A):OpR X (jt .Eq) (Uy X.K zP):=by
 intro c s σ H x y v u Q I rx ry h;obtain⟨d,e,hd,g,i,j,q⟩:=h;obtain⟨as,l⟩:=hd.reads I rx;obtain⟨bs,m⟩:=g.reads I ry;exact eq_dataH l m i j f.units ⟨.bl _,H,I,rfl,q⟩
theorem Px {k:Nat} (f:jE k X.A):OpR X (jt .NotEq) (Uy X.K zC):=by
 intro c s σ H x y v u Q I rx ry h;obtain⟨d,e,hd,g,i,j,q⟩:=h;obtain⟨as,l⟩:=hd.reads I rx;obtain⟨bs,m⟩:=g.reads I ry;exact ne_dataH l m i j f.units ⟨.bl _,H,I,rfl,q⟩
end
end L2
namespace L2
open PySem PySem.Spec PyProof.Rows
section
variable {X:Cx}
def ey:R2:=λx y H Q=>match x,y with
 | .int i,.int j=>Q (.int (i+j)) H
 | .str a,.str b=>a.length+b.length <= z5/\Q (.str (a++b)) H
 | .ref l,.ref b=>∃ xs c,H l=zA (.lst xs)/\H b=zA (.lst c)/\xs.length+c.length <= z5/\∀ p,H p=zB->Q (.ref p) (upd H p (.lst (xs++c)))
 | _,_=>False
theorem xn:OpR X (y4 .Add) ey:=by
 intro c s σ H x y v u Q I rx ry h;cases x with
 | int i =>
  cases y with
  | int j=>exact FW c s σ H _ _ v u Q I rx ry ⟨i,j,rfl,rfl,h⟩
  | _=>exact jZ h
 | str a =>
  cases y with
  | str b=>exact LF c s σ H _ _ v u Q I rx ry ⟨a,b,rfl,rfl,h⟩
  | _=>exact jZ h
 | ref l =>
  cases y with
  | ref b =>
   obtain⟨xs,d,e,f,g,m⟩:=h;exact Nf c s σ H _ _ v u Q I rx ry ⟨l,b,xs,d,rfl,rfl,e,f,g,m⟩
  | _=>exact jZ h
 | _=>exact jZ h
def Cw:R2:=λx y H Q=>match x,y with
 | .int i,.int j=>YY i j/\Q (.int (i * j)) H
 | .str z,.int n=>MulOk z n/\Q (.str (UT z n)) H
 | _,_=>False
theorem FS:OpR X (y4 .Mult) Cw:=by
 intro c s σ H x y v u Q I rx ry h;cases x with
 | int i =>
  cases y with
  | int j=>exact oC c s σ H _ _ v u Q I rx ry ⟨i,j,rfl,rfl,h⟩
  | _=>exact jZ h
 | str z =>
  cases y with
  | int n=>exact g4 c s σ H _ _ v u Q I rx ry ⟨z,n,rfl,rfl,h⟩
  | _=>exact jZ h
 | _=>exact jZ h
def bw:R2:=λx y H Q=>match x,y with
 | .int i,.int j=>0 < j/\Q (.int (i % j)) H
 | _,_=>False
theorem Ze:OpR X (y4 .Mod) bw:=by
 intro c s σ H x y v u Q I rx ry h;cases x with
 | int i =>
  cases y with
  | int j=>exact Ip c s σ H _ _ v u Q I rx ry ⟨i,j,rfl,rfl,h⟩
  | _=>exact jZ h
 | _=>exact jZ h
def B4:R2:=λx y H Q=>match x,y with
 | .int i,.int j=>(0 < j/\j < 1073741824)/\Q (.int (i / j)) H
 | _,_=>False
theorem Qu:OpR X (y4 .FloorDiv) B4:=by
 intro c s σ H x y v u Q I rx ry h;cases x with
 | int i =>
  cases y with
  | int j=>exact LD c s σ H _ _ v u Q I rx ry ⟨i,j,rfl,rfl,h⟩
  | _=>exact jZ h
 | _=>exact jZ h
def uLt:R2:=λx y H Q=>match x,y with
 | .int i,.int j=>Q (.bl (decide (i < j))) H
 | .str i,.str j=>Q (.bl (decide (i.cps.toList < j.cps.toList))) H
 | _,_=>False
theorem n3:OpR X (jt .Lt) uLt:=by
 intro c s σ H x y v u Q I rx ry h;cases x with
 | int i =>
  cases y with
  | int j=>exact NN c s σ H _ _ v u Q I rx ry ⟨i,j,rfl,rfl,h⟩
  | _=>exact jZ h
 | str i =>
  cases y with
  | str j=>exact iI c s σ H _ _ v u Q I rx ry ⟨i,j,rfl,rfl,h⟩
  | _=>exact jZ h
 | _=>exact jZ h
def uLe:R2:=λx y H Q=>match x,y with
 | .int i,.int j=>Q (.bl (decide (i <= j))) H
 | .str i,.str j=>Q (.bl (!decide (j.cps.toList < i.cps.toList))) H
 | _,_=>False
theorem QY:OpR X (jt .LtE) uLe:=by
 intro c s σ H x y v u Q I rx ry h;cases x with
 | int i =>
  cases y with
  | int j=>exact HN c s σ H _ _ v u Q I rx ry ⟨i,j,rfl,rfl,h⟩
  | _=>exact jZ h
 | str i =>
  cases y with
  | str j=>exact pC c s σ H _ _ v u Q I rx ry ⟨i,j,rfl,rfl,h⟩
  | _=>exact jZ h
 | _=>exact jZ h
def uGt:R2:=λx y H Q=>match x,y with
 | .int i,.int j=>Q (.bl (decide (j < i))) H
 | _,_=>False
theorem aS:OpR X (jt .Gt) uGt:=by
 intro c s σ H x y v u Q I rx ry h;cases x with
 | int i =>
  cases y with
  | int j=>exact Nq c s σ H _ _ v u Q I rx ry ⟨i,j,rfl,rfl,h⟩
  | _=>exact jZ h
 | _=>exact jZ h
def uIn (K:zV) (neg:Bool):R2:=λx y H Q=>match x,y with
 | .str i,.str j=>Q (.bl (xor neg (!(kr j i 0 j.length 1).isEmpty))) H
 | x,.ref p=>∃ xs,(SqL K H p xs\/SqT K H p xs)/\yw x=zC/\xs.all yw=zC/\Q (.bl (xor neg (inV x xs))) H
 | _,_=>False
theorem Fq:OpR X (jt .In) (uIn X.K zP):=by
 intro c s σ H x y v u Q I rx ry h;cases y with
 | str j =>
  cases x with
  | str i =>
   have h':Q (.bl (xor zP (!(kr j i 0 j.length 1).isEmpty))) H:=h;rw[Ay] at h';exact PV c s σ H _ _ v u Q I rx ry ⟨i,j,rfl,rfl,h'⟩
  | _=>exact jZ h
 | ref p =>
  have h':∃ xs,(SqL X.K H p xs\/SqT X.K H p xs)/\yw x=zC/\xs.all yw=zC/\Q (.bl (xor zP (inV x xs))) H:=by cases x<;>exact h
  obtain⟨xs,e,f,g,d⟩:=h';rw[Ay] at d;exact m8 c s σ H _ _ v u Q I rx ry ⟨p,xs,rfl,e,f,g,d⟩
 | _=>cases x<;>exact jZ h
theorem cz:OpR X (jt .NotIn) (uIn X.K zC):=by
 intro c s σ H x y v u Q I rx ry h;cases y with
 | str j =>
  cases x with
  | str i =>
   have h':Q (.bl (xor zC (!(kr j i 0 j.length 1).isEmpty))) H:=h;rw[V9] at h';exact IQ c s σ H _ _ v u Q I rx ry ⟨i,j,rfl,rfl,h'⟩
  | _=>exact jZ h
 | ref p =>
  have h':∃ xs,(SqL X.K H p xs\/SqT X.K H p xs)/\yw x=zC/\xs.all yw=zC/\Q (.bl (xor zC (inV x xs))) H:=by cases x<;>exact h
  obtain⟨xs,e,f,g,d⟩:=h';rw[V9] at d;exact Lj c s σ H _ _ v u Q I rx ry ⟨p,xs,rfl,e,f,g,d⟩
 | _=>cases x<;>exact jZ h
def uIx (K:zV):R2:=λx y H Q=>match x,y with
 | .str z,.int i=>∃ c,z.length <= z5/\atI z.cps.toList i=zA c/\Q (.str ⟨#[c]⟩) H
 | .ref p,.int i=>∃ xs v,(SqL K H p xs\/SqT K H p xs)/\atI xs i=zA v/\Q v H
 | _,_=>False
theorem HC:IxR X (uIx X.K):=by
 intro d e f s σ H x y v u Q I rx ry h m;cases x with
 | str z =>
  cases y with
  | int i =>
   obtain⟨c,g,j,l⟩:=h;exact nj d e f s σ H _ _ v u Q I rx ry ⟨z,i,c,rfl,rfl,g,j,l⟩ m
  | _=>exact jZ h
 | ref p =>
  cases y with
  | int i =>
   obtain⟨xs,c,g | g,j,l⟩:=h
   ·exact oG d e f s σ H _ _ v u Q I rx ry ⟨p,xs,i,c,rfl,rfl,g,j,l⟩ m
   ·exact m9 d e f s σ H _ _ v u Q I rx ry ⟨p,xs,i,c,rfl,rfl,g,j,l⟩ m
  | _=>exact jZ h
 | _=>exact jZ h
noncomputable def Et (K:zV):List V->Hp->VK->Prop:=λxs H Q=>match xs with
 | [.str z]=>z.length <= z5/\Q (.int z.length) H
 | [.ref p]=>∃ c,(SqL K H p c\/SqT K H p c)/\Q (.int c.length) H
 | _=>False
theorem PZ:qp X (.builtin "len") (Et X.K):=by
 intro c s σ H xs us Q I r h;cases xs with
 | nil=>exact jZ h
 | cons x xs =>
  cases xs with
  | cons _ _=>cases x<;>exact jZ h
  | nil =>
   cases x with
   | str z=>exact FJ c s σ H _ us Q I r ⟨z,rfl,h⟩
   | ref p =>
    obtain⟨d,e,f⟩:=h;exact Pr c s σ H _ us Q I r ⟨p,d,rfl,e,f⟩
   | _=>exact jZ h
end
theorem Q7:yB "len" = zA (.builtin "len"):=by decide +kernel
theorem A7:yB "all" = zA (.builtin "all"):=by decide +kernel
theorem vQ:yB "isinstance" = zA (.builtin "isinstance"):=by decide +kernel
theorem wu:yB "str" = zA (.type "str"):=by decide +kernel
theorem O3:yB "int" = zA (.type "int"):=by decide +kernel
theorem lD:yB "bool" = zA (.type "bool"):=by decide +kernel
theorem Vs:yB "list" = zA (.type "list"):=by decide +kernel
theorem gB:yB "tuple" = zA (.type "tuple"):=by decide +kernel
theorem CD:yB "dict" = zA (.type "dict"):=by decide +kernel
structure Has (P:jF) (w:z7) (K:zV) (mg:Str->Option zO) (base:zg) (x:Str) (k:Nat) (ps:List Str) (sp:Sp):Prop where
 ex:∃ f fd,z4 P w K mg base CX0 k f fd ps sp/\yx K fd ps []/\yX K (.ref f)=zC/\mg x=zA (.ref f)
section
variable {X:Cx}{k kk:Nat}{x:Str}{ps:List Str}{sp:Sp}{e:zi}{es:List zi}{t:TA}{p pos:Pos}
theorem lG (h:Has X.prog X.w X.K X.mg X.base x k ps sp) (g:jE kk X.A) (i:k <= kk) (j:Gl X x) (ha:PA X (e::es) t) (hx:ZV CX0 X E0:=by exact Xz) (c:(x == ("__debug__" : Str))=zP:=by decide)
  (l:jS (e::es) X.env=(zP,eval e X.env)::jS es X.env:=by rfl) (d:(qT pos (jS es X.env)).any (·.1)=zP:=by rfl) :
  PE X (.Call (.Name x p) (e::es) [] pos) (DQ sp [] E0 t):=by
 obtain⟨f,fd,F,b,kp,m⟩:=h.ex;exact HV F (g.mono i) j m kp b .nil hx ha c l d
structure Qt (mg:Str->Option zO) (x:Str) (v:V):Prop where
 ex:∃ u,mg x=zA u/\zx v u
theorem cq (h:Qt X.mg x v) (c:Gl X x) (hd:(x == ("__debug__" : Str))=zP:=by decide):PE X (.Name x pos) (tC v):=by
 obtain⟨u,m,r⟩:=h.ex;exact md c m r hd
end
noncomputable def KO:V->zO->Bool
 | .non,.none=>zC
 | .bl a,.bool b=>a == b
 | .int i,.int j _=>i == j
 | .str x,.str y _=>x == y
 | _,_=>zP
theorem uG (h:KO v u=zC):zx v u:=by
 cases v<;>cases u<;>first | exact (qU h).elim | rfl | (have e:=eq_of_beq h;subst e;first | rfl | exact⟨_,rfl⟩)
def VR:List V->List zO->Bool
 | [],[]=>zC
 | v::vs,u::us=>KO v u && VR vs us
 | _,_=>zP
theorem wG:∀ {vs:List V}{us:List zO},VR vs us=zC->z6 vs us
 | [],us,h=>by
  cases us with
  | nil=>exact .nil
  | cons u us=>exact (qU h).elim
 | v::vs,us,h=>by
  cases us with
  | nil=>exact (qU h).elim
  | cons u us =>
   have h':(KO v u && VR vs us)=zC:=h;rw[j8] at h';exact .cons (uG h'.1) (wG h'.2)
theorem NC {K:zV}{a:zN}{d:Option zN}{c:Array zO}{n:Nat}{f:Array (Option zO)} (h:K.lookup a=zA ⟨.type "tuple",d,.seq c n,f⟩) (r:VR xs c.toList=zC) (g:xs.length <= z5:=by decide):SqT K H a xs:=by
 have e:=(wG r).length;have i:c.toList.length=c.size:=by simp
 exact .inr ⟨_,c,n,h,rfl,rfl,by lia,wG r⟩
theorem XU {K:zV}{b:Bool} (h:(if (K4 A == K4 B)=zC then zA zC else if PySem.W.kitMeta B=zC then (PySem.fastBuiltinMro A).map (·.contains (K4 B)) else zB)=zA b):JT K (.type A) (.type B)=zA b:=h
end L2
namespace TX
open PySem
noncomputable def qv (c:Nat):List Nat->List (List Nat)
 | []=>[[]]
 | d::r=>if d=c then []::qv c r else match qv c r with
  | []=>[[d]]
  | p::ps=>(d::p)::ps
noncomputable def J7 (c:Nat):List (List Nat)->List Nat
 | []=>[]
 | [p]=>p
 | p::q::r=>p++c::J7 c (q::r)
theorem Fn (c:Nat) (l:List Nat):qv c l≠[]:=by
 cases l with
 | nil=>simp[qv]
 | cons d r =>
  unfold qv;split
  ·simp
  ·split<;>simp
theorem EE (c:Nat):∀ p:List Nat,c∉p->qv c p=[p]
 | [],_=>rfl
 | d::r,h=>by
  have hd:d≠c:=λe=>h (by simp[e]);have f:c∉r:=λe=>h (jj _ e);unfold qv;rw[if_neg hd,EE c r f]
theorem eI (c:Nat):∀ (p r:List Nat),c∉p->qv c (p++c::r)=p::qv c r
 | [],r,_=>by
  show qv c (c::r)=_;unfold qv;rw[if_pos rfl];cases r<;>rfl
 | d::q,r,h=>by
  have hd:d≠c:=λe=>h (by simp[e]);have f:c∉q:=λe=>h (jj _ e);show qv c (d::(q++c::r))=_
  conv=>lhs;unfold qv
  rw[if_neg hd,eI c q r f]
theorem e5 (c:Nat):∀ ps:List (List Nat),ps≠[]->(∀ p∈ps,c∉p)->qv c (J7 c ps)=ps
 | [],h,_=>absurd rfl h
 | [p],_,h=>EE c p (h p (by simp))
 | p::q::r,_,h=>by
  show qv c (p++c::J7 c (q::r))=_;rw[eI c p _ (h p (by simp)),e5 c (q::r) (by simp) λx hx=>h x (jj _ hx)]
theorem YQ (c:Nat):∀ ps:List Str,(B9 ⟨#[c]⟩ ps).cps.toList=J7 c (ps.map λp=>p.cps.toList)
 | []=>rfl
 | [p]=>rfl
 | p::q::r=>by
  have d:=YQ c (q::r);show (p++(⟨#[c]⟩:Str)++B9 ⟨#[c]⟩ (q::r)).cps.toList=p.cps.toList++c::J7 c ((q::r).map λp=>p.cps.toList);rw[<- d];show (p.cps ++ #[c]++(B9 ⟨#[c]⟩ (q::r)).cps).toList=_;simp
theorem g5 (x:Str) (c:Nat):XT x ⟨#[c]⟩≠[]:=by
 unfold XT;split
 ·simp
 ·split
  ·simp
  ·rw[StrLaws.partsBetween_eq];obtain⟨p,r,e⟩:=StrLaws.partsFrom_ne x (⟨#[c]⟩:Str).length 0 (kr x ⟨#[c]⟩ 0 x.length (x.length+1));rw[e];simp
theorem OK (x:Str) (c:Nat):(XT x ⟨#[c]⟩).map (λp=>p.cps.toList)=qv c x.cps.toList:=by
 have f:=PU x ⟨#[c]⟩;have d:=YQ c (XT x ⟨#[c]⟩);rw[f] at d;rw[d,e5]
 ·intro e;exact g5 x c (List.map_eq_nil_iff.mp e)
 ·intro p g;obtain⟨q,h,rfl⟩:=Zn.mp g;exact PO x c q h
noncomputable def ofL (l:List Nat):Str:=⟨l.toArray⟩
theorem hJ (x:Str):ofL x.cps.toList=x:=by
 cases x;simp[ofL]
theorem Oi (x:Str) (c:Nat):XT x ⟨#[c]⟩=(qv c x.cps.toList).map ofL:=by
 rw[<- OK,JA];have:(ofL ∘ λp:Str=>p.cps.toList)=id:=by
  funext p;exact hJ p
 rw[this,Z0]
theorem C9 (c d:Nat):∀ ps:List (List Nat),(∀ p∈ps,c∉p)->J7 d ps=(J7 c ps).map λx=>if x=c then d else x
 | [],_=>rfl
 | [p],h=>by
  show p=p.map _;have f:=h p (by simp)
  conv=>lhs;rw[<- Z0 p]
  refine Jd λx hx=>?_;have:x≠c:=λe=>f (e ▸ hx);simp[this]
 | p::q::r,h=>by
  show p++d::J7 d (q::r)=(p++c::J7 c (q::r)).map _;rw[BM,ju,C9 c d (q::r) λx hx=>h x (jj _ hx)];have f:=h p (by simp);have e:p.map (λx=>if x=c then d else x)=p:=by
   conv=>rhs;rw[<- Z0 p]
   refine Jd λx hx=>?_;have:x≠c:=λe=>f (e ▸ hx);simp[this]
  rw[e];simp
theorem Mb (x:Str) (c d:Nat):(uv x ⟨#[c]⟩ ⟨#[d]⟩).cps.toList=x.cps.toList.map λy=>if y=c then d else y:=by
 rw[StrLaws.replace_one,YQ,C9 c d]
 ·rw[<- YQ,PU]
 ·intro p e;obtain⟨q,f,rfl⟩:=Zn.mp e;exact PO x c q f
noncomputable def sp (y:Nat):Nat:=if y=10 then 32 else y
end TX
namespace TS
open PySem PyProof.Rows
variable {prog:jF}{w:z7}{A:jf}{E:zO->zU->Prop}{s:zU}{zf:Array zX}{κ:KeyKind}
structure SG (zf:Array zX) (st:zj):Prop where
 pm:(zY st).Perm zf
 kd:kindOf st=qm
 fl:Jv st=zB
theorem SG.sz {st:zj} (h:SG zf st):(zY st).size=zf.size:=h.pm.size_eq
theorem SG.arr {st:zj} (h:SG zf st) {xs:Array zX} (p:xs.Perm (zY st)):SG zf (X5 st xs):=⟨p.trans h.pm,h.kd,h.fl⟩
theorem SG.item {st:zj} (h:SG zf st) (d:KeysOf κ zf) {i:Nat} (hi:i < zf.size):∃ x p a,(zY st)[i]? = zA (x,p)/\κ.keyOf x=zA a/\KK κ (zY st) i=a:=by
 have c:i < (zY st).size:=by rw[h.sz];exact hi
 have hm:(zY st)[i]∈zf.toList:=(Eh.mp h.pm).mem_iff.mp (by simp);obtain⟨a,ha⟩:=d _ hm;have e:(zY st)[i]? = zA ((zY st)[i].1,(zY st)[i].2):=getElem?_pos _ i c;exact⟨_,_,a,e,ha,by unfold KK;rw[e];show (κ.keyOf (zY st)[i].1).getD κ.dflt=a;rw[ha];rfl⟩
theorem vI {st:zj}{i j:Nat}{Q:Option Bool->zj->Prop} (d:κ.OneLt) (c:KeysOf κ zf) (g:SG zf st) (hi:i < zf.size) (e:j < zf.size) (h:Q (zA (κ.blt (KK κ (zY st) i) (KK κ (zY st) j))) st):wpS (za prog w) A E s (ltAt' i j) Q st:=by
 obtain⟨x,p,a,f,l,m⟩:=g.item c hi;obtain⟨y,q,b,n,o,r⟩:=g.item c e;rw[m,r] at h;exact wpS_ltAtK d g.kd f n l o h
def Ri (κ:KeyKind) (xs:Array zX) (lo k:Nat):Prop:=∀ i j,i <= j->j < k->κ.kle (KK κ xs (lo+i)) (KK κ xs (lo+j))
structure qJ (zf:Array zX) (lo hi:Nat) (st st':zj):Prop where
 ok:SG zf st'
 out:∀ k,k < lo\/hi <= k->(zY st')[k]? = (zY st)[k]?
 pd:jk st'=jk st
theorem qJ.refl {lo hi:Nat}{st:zj} (g:SG zf st):qJ zf lo hi st st:=⟨g,λ_ _=>rfl,rfl⟩
theorem qJ.trans {lo hi:Nat}{st d c:zj} (h:qJ zf lo hi st d) (k:qJ zf lo hi d c):qJ zf lo hi st c:=⟨k.ok,λi hi=>(k.out i hi).trans (h.out i hi),k.pd.trans h.pd⟩
theorem mw {st:zj}{lo n ok:Nat}{Q:Bool->zj->Prop} (G:κ.OneLt) (H:KeysOf κ zf) (hn:lo+n <= zf.size) (hok:ok <= n) (g:SG zf st) (J:Ri κ (zY st) lo ok)
  (h:∀ f,qJ zf lo (lo+n) st f->Ri κ (zY f) lo n->Q zC f):wpS (za prog w) A E s (binarySort' lo n ok) Q st:=by
 rw[binarySort'_eq];refine zr (yo (ZA (I:=λk c t=>c=(zB,())/\qJ zf lo (lo+n) st t/\Ri κ (zY t) lo (min k n))
  (Q:=λc t=>c=(zB,())/\qJ zf lo (lo+n) st t/\Ri κ (zY t) lo n) (λk c t L M ⟨d,kp,e⟩=>?step) (λc t ⟨d,kp,e⟩=>⟨d,kp,?fin⟩) ⟨rfl,qJ.refl g,λi j o N=>?ini⟩) λc t ⟨d,kp,e⟩=>?post)
 case step =>
  subst d;rw[show min k n=k by lia] at e;have kl:lo+k < zf.size:=by lia
  refine zr (yo (ZA (I:=λx c u=>u=t/\∃ l r,c=(zB,l,r)/\l <= r/\r <= k/\r - l <= k - x/\(∀ i,i < l->κ.kle (KK κ (zY t) (lo+i)) (KK κ (zY t) (lo+k)))/\(∀ i,r <= i->i < k->κ.klt (KK κ (zY t) (lo+k)) (KK κ (zY t) (lo+i))))
   (Q:=λc u=>u=t/\∃ l r,c=(zB,l,r)/\l <= k/\(∀ i,i < l->κ.kle (KK κ (zY t) (lo+i)) (KK κ (zY t) (lo+k)))/\(∀ i,l <= i->i < k->κ.klt (KK κ (zY t) (lo+k)) (KK κ (zY t) (lo+i))))
   (λx c u _ hx ⟨p,l,r,d,v,m,B,y,z⟩=>?st2) (λc u ⟨p,l,r,d,v,m,B,y,z⟩=>?fi2) ⟨rfl,0,k,rfl,by lia,by lia,by lia,λi hi=>by lia,λi v m=>by lia⟩) λc u ⟨p,l,r,d,v,m,B⟩=>?po2)
  case st2 =>
   subst p d;dsimp only;by_cases q:l ≥ r
   ·rw[if_pos q];obtain rfl:l=r:=by lia
    exact z1 ⟨rfl,l,l,rfl,m,y,z⟩
   ·rw[if_neg q];refine zr (vI G H kp.ok kl (by lia) ?_);cases C:κ.blt (KK κ (zY u) (lo+k)) (KK κ (zY u) (lo+(l+r) / 2)) with
    | true =>
     simp only[if_true];exact z1 ⟨rfl,l,(l+r) / 2,rfl,by lia,by lia,by lia,y,λi a b=>KeyOrd.klt_of_klt_of_kle C (e _ _ a b)⟩
    | false =>
     simp only[qj,if_false];exact z1 ⟨rfl,(l+r) / 2+1,r,rfl,by lia,by lia,by lia,λi a=>yv (e i ((l+r) / 2) (by lia) (by lia)) (show κ.kle _ _ from C),z⟩
  case fi2 =>
   subst p d;obtain rfl:l=r:=by lia
   exact⟨rfl,l,l,rfl,m,y,z⟩
  case po2 =>
   subst p d;show wpS _ _ _ _ (do moveDown' (lo+k) (lo+l);pure (X9 (zB,()))) _ _;rw[moveDown'_eq];have ks:lo+k < (zY u).size:=by rw[kp.ok.sz];exact kl
   refine zr (kH (z1 ⟨rfl,kp.trans ⟨kp.ok.arr (bubble_perm _ _ _),λi hi=>?_,rfl⟩,?_⟩))
   ·show (bubble (zY u) (lo+k) (lo+k - (lo+l)))[i]? = _;rw[getElem?_bubble ks _ (by lia),if_neg (by lia),if_neg (by lia)]
   ·rw[show min (k+1) n=k+1 by lia];intro i j o N;show κ.kle (KK κ (bubble (zY u) (lo+k) (lo+k - (lo+l))) (lo+i)) (KK κ (bubble (zY u) (lo+k) (lo+k - (lo+l))) (lo+j));rw[KK_bubble ks (by lia),KK_bubble ks (by lia),show lo+k - (lo+k - (lo+l))=lo+l by lia];by_cases U:lo+i=lo+l<;>by_cases Y:lo+l < lo+i/\lo+i <= lo+k<;>by_cases c3:lo+j=lo+l<;>by_cases c4:lo+l < lo+j/\lo+j <= lo+k<;>simp only[U,Y,c3,c4,if_true,if_false]<;>try lia
    ·exact xV _
    ·exact QI (by have:=B (j - 1) (by lia) (by lia);rwa [show lo+(j - 1)=lo+j - 1 by lia] at this)
    ·have:=e (i - 1) (j - 1) (by lia) (by lia);rwa [show lo+(i - 1)=lo+i - 1 by lia,show lo+(j - 1)=lo+j - 1 by lia] at this
    ·exact m _ (by lia)
    ·have:=e i (j - 1) (by lia) (by lia);rwa [show lo+(j - 1)=lo+j - 1 by lia] at this
    ·exact e _ _ (by lia) (by lia)
 case fin=>rwa [show min (max (max ok 1) n) n=n by lia] at e
 case ini =>
  by_cases v:ok=0
  ·obtain rfl:i=j:=by lia
   exact xV _
  ·exact J i j o (by lia)
 case post =>
  subst d;exact z1 (h t kp e)
noncomputable def Vp (lo a d:Nat):StateT zj Sem AscSt :=
 forIn [a:d] ((zB,a):AscSt) λ_ c=>do
  match <- ltAt' (lo+c.2) (lo+c.2 - 1) with
  | some b=>if b=zC then pure (V1 (zB,c.2)) else pure (X9 (zB,c.2+1))
  | _=>pure (V1 (zA zB,c.2))
def tl3 (lo n d:Nat):StateT zj Sem (Option Nat):=do
 ae lo (lo+n)
 let c <- Vp lo n d
 match c.1 with
 | some r=>pure r
 | none=>pure (zA c.2)
noncomputable def uH (lo n d:Nat):StateT zj Sem DescSt :=
 forIn [n:d] ((zB,n,0):DescSt) λ_ c=>do
  match <- ltAt' (lo+c.2.1) (lo+c.2.1 - 1) with
  | some b =>
   if b=zC then
    if c.2.2 > 0 then do
     ae (lo+c.2.1 - (c.2.2+1)) (lo+c.2.1)
     pure (X9 (zB,c.2.1+1,0))
    else pure (X9 (zB,c.2.1+1,0))
   else do
    match <- ltAt' (lo+c.2.1 - 1) (lo+c.2.1) with
    | some b=>if b=zC then pure (V1 (zB,c.2.1,c.2.2)) else pure (X9 (zB,c.2.1+1,c.2.2+1))
    | _=>pure (V1 (zA zB,c.2.1,c.2.2))
  | _=>pure (V1 (zA zB,c.2.1,c.2.2))
def VG (lo n d:Nat):StateT zj Sem (Option Nat):=do
 liftM (Z4 "list.sort.descending-run")
 let c <- uH lo (n+1) d
 match c.1 with
 | some r=>pure r
 | none =>
  if c.2.2 > 0 then do
   ae (lo+c.2.1 - (c.2.2+1)) (lo+c.2.1)
   tl3 lo c.2.1 d
  else tl3 lo c.2.1 d
theorem Mg (lo d:Nat):countRun' lo d=(do
  let c <- Vp lo 1 d
  match c.1 with
  | some r=>pure r
  | none =>
   if (c.2 == d)=zC then pure (zA c.2)
   else if c.2 > 1 then do
    match <- ltAt' lo (lo+c.2 - 1) with
    | some b=>if b=zC then pure (zA c.2) else do
      ae lo (lo+c.2)
      VG lo c.2 d
    | _=>pure zB
   else VG lo c.2 d):=by
 rw[countRun'_eq];unfold VG tl3 uH Vp;refine congrArg (bind _) ?_
 funext c
 obtain⟨r,n⟩:=c;cases r with
 | some r=>rfl
 | none =>
  dsimp only;split
  ·rfl
  ·split
   ·congr 1;funext x
    cases x with
    | none=>rfl
    | some b =>
     dsimp only;split
     ·rfl
     ·congr 1;funext _r
      congr 1;funext _u;congr 1;congr 1;funext h;obtain⟨g,n2,j⟩:=h
      cases g with
      | some g=>rfl
      | none =>
       dsimp only;split
       ·congr 1;funext _v;congr 1;funext _w;congr 1;funext e;obtain⟨f,i⟩:=e;cases f<;>rfl
       ·congr 1;funext _w;congr 1;funext e;obtain⟨f,i⟩:=e;cases f<;>rfl
   ·congr 1;funext _u;congr 1;congr 1;funext h;obtain⟨g,n2,j⟩:=h
    cases g with
    | some g=>rfl
    | none =>
     dsimp only;split
     ·congr 1;funext _v;congr 1;funext _w;congr 1;funext e;obtain⟨f,i⟩:=e;cases f<;>rfl
     ·congr 1;funext _w;congr 1;funext e;obtain⟨f,i⟩:=e;cases f<;>rfl
def Fa (κ:KeyKind) (xs:Array zX) (lo k:Nat):Prop:=∀ i j,i <= j->j < k->κ.kle (KK κ xs (lo+j)) (KK κ xs (lo+i))
theorem Ri.more {lo:Nat} (h:Ri κ xs lo x) (hx:1 <= x) (e:κ.kle (KK κ xs (lo+x - 1)) (KK κ xs (lo+x))):Ri κ xs lo (x+1):=by
 intro i j f g;by_cases c:j < x
 ·exact h i j f c
 obtain rfl:j=x:=by lia
 by_cases d:i=j
 ·subst d;exact xV _
 ·exact yv (h i (j - 1) (by lia) (by lia)) (by rwa [show lo+(j - 1)=lo+j - 1 by lia])
theorem Fa.more {lo:Nat} (h:Fa κ xs lo x) (hx:1 <= x) (e:κ.kle (KK κ xs (lo+x)) (KK κ xs (lo+x - 1))):Fa κ xs lo (x+1):=by
 intro i j f g;by_cases c:j < x
 ·exact h i j f c
 obtain rfl:j=x:=by lia
 by_cases d:i=j
 ·subst d;exact xV _
 ·exact yv (by rwa [show lo+(j - 1)=lo+j - 1 by lia]) (h i (j - 1) (by lia) (by lia))
theorem Ri.one {lo:Nat}:Ri κ xs lo 1:=λi j a b=>by obtain rfl:i=j:=(by lia);exact xV _
theorem Fa.one {lo:Nat}:Fa κ xs lo 1:=λi j a b=>by obtain rfl:i=j:=(by lia);exact xV _
theorem ek {st:zj}{lo a d:Nat}{Q:AscSt->zj->Prop} (o:κ.OneLt) (p:KeysOf κ zf) (t:lo+d <= zf.size) (ha:1 <= a) (f:a <= d) (g:SG zf st) (q:Ri κ (zY st) lo a)
  (h:∀ n,a <= n->n <= d->Ri κ (zY st) lo n->(n=d\/κ.klt (KK κ (zY st) (lo+n)) (KK κ (zY st) (lo+n - 1)))->Q (zB,n) st):wpS (za prog w) A E s (Vp lo a d) Q st:=by
 unfold Vp;refine ZA (I:=λx c u=>u=st/\c=(zB,x)/\Ri κ (zY st) lo x) (λx c u i r ⟨j,l,e⟩=>?step) (λc u ⟨j,l,e⟩=>?fin) ⟨rfl,rfl,q⟩
 case fin =>
  subst j l;rw[show max a d=d by lia] at e ⊢;exact h d f (jB _) e (.inl rfl)
 case step =>
  subst j l;dsimp only;refine zr (vI o p g (by lia) (by lia) ?_);cases m:κ.blt (KK κ (zY u) (lo+x)) (KK κ (zY u) (lo+x - 1)) with
  | true=>simp only[if_true];exact z1 (h x i (by lia) e (.inr m))
  | false=>simp only[qj,if_false];exact z1 ⟨rfl,rfl,e.more (by lia) m⟩
theorem qJ.mir {lo n i j:Nat}{st:zj} (g:SG zf st) (hi:lo <= i) (c:j <= lo+n) (d:lo+n <= zf.size):qJ zf lo (lo+n) st (X5 st (mirror (zY st) i j ((j - i) / 2))) :=
 ⟨g.arr (mirror_perm _ _ _ _),λk e=>by show (mirror (zY st) i j ((j - i) / 2))[k]? = _;rw[getElem?_mirror_all (by rw[g.sz];lia),if_neg (by lia)],rfl⟩
theorem d8 {st e:zj}{lo n d:Nat}{Q:Option Nat->zj->Prop} (q:κ.OneLt) (r:KeysOf κ zf) (l:lo+d <= zf.size) (t:1 <= n) (g:n <= d) (kp:qJ zf lo (lo+d) e st) (u:Fa κ (zY st) lo n)
  (h:∀ m f,qJ zf lo (lo+d) e f->1 <= m->m <= d->Ri κ (zY f) lo m->Q (zA m) f):wpS (za prog w) A E s (tl3 lo n d) Q st:=by
 unfold tl3;have o:lo+n <= (zY st).size:=by rw[kp.ok.sz];lia
 refine zr (aD ?_);have p:=kp.trans (qJ.mir (i:=lo) (j:=lo+n) (lo:=lo) (n:=d) kp.ok (jB _) (by lia) l);refine zr (ek q r l t g p.ok ?_ λm a b c _=>z1 (h m _ p (by lia) b c));intro i j v x;show κ.kle (KK κ (mirror (zY st) lo (lo+n) ((lo+n - lo) / 2)) (lo+i)) (KK κ (mirror (zY st) lo (lo+n) ((lo+n - lo) / 2)) (lo+j));rw[KK_mirror o,KK_mirror o,if_pos (by lia),if_pos (by lia)];have:=u (n - 1 - j) (n - 1 - i) (by lia) (by lia)
 rwa [show lo+(n - 1 - i)=lo+(lo+n) - 1 - (lo+i) by lia,show lo+(n - 1 - j)=lo+(lo+n) - 1 - (lo+j) by lia] at this
theorem Fa.same {lo:Nat} (h:Fa κ xs lo n) (e:∀ k,KK κ c k=KK κ xs k):Fa κ c lo n:=λi j a b=>by rw[e,e];exact h i j a b
theorem fX {st f:zj}{lo n e:Nat}{Q:DescSt->zj->Prop} (y:κ.OneLt) (z:KeysOf κ zf) (H:lo+e <= zf.size) (U:1 <= n) (r:n <= e) (kp:qJ zf lo (lo+e) f st) (J:Fa κ (zY st) lo n)
  (h:∀ m q g,qJ zf lo (lo+e) f g->n <= m->m <= e->Fa κ (zY g) lo m->q+1 <= m->(∀ i,lo+m - (q+1) <= i->i < lo+m->KK κ (zY g) i=KK κ (zY g) (lo+m - 1))->Q (zB,m,q) g) :
  wpS (za prog w) A E s (uH lo n e) Q st:=by
 unfold uH;refine ZA (I:=λx c u=>∃ q,c=(zB,x,q)/\qJ zf lo (lo+e) f u/\Fa κ (zY u) lo x/\q+1 <= x/\(∀ i,lo+x - (q+1) <= i->i < lo+x->KK κ (zY u) i=KK κ (zY u) (lo+x - 1)))
  (λx c u t L ⟨q,v,j,l,p,o⟩=>?step) (λc u ⟨q,v,j,l,p,o⟩=>?fin) ⟨0,rfl,kp,J,by lia,λi a b=>by congr 1;lia⟩
 case fin =>
  subst v;rw[show max n e=e by lia] at l p o ⊢;exact h e q u j r (jB _) l p o
 case step =>
  subst v;dsimp only;have M:lo+x <= (zY u).size:=by rw[j.ok.sz];lia
  refine zr (vI y z j.ok (by lia) (by lia) ?_);cases B:κ.blt (KK κ (zY u) (lo+x)) (KK κ (zY u) (lo+x - 1)) with
  | true =>
   simp only[if_true];have C:=l.more (by lia) (QI B);by_cases c:q > 0
   ·rw[if_pos c];exact zr (aD (z1 ⟨0,rfl,j.trans (qJ.mir j.ok (by lia) (by lia) H),C.same (BE M o),by lia,λi a b=>by congr 1;lia⟩))
   ·rw[if_neg c];exact z1 ⟨0,rfl,j,C,by lia,λi a b=>by congr 1;lia⟩
  | false =>
   simp only[qj,if_false];refine zr (vI y z j.ok (by lia) (by lia) ?_);cases G:κ.blt (KK κ (zY u) (lo+x - 1)) (KK κ (zY u) (lo+x)) with
   | true=>simp only[if_true];exact z1 (h x q u j t (by lia) l p o)
   | false =>
    simp only[qj,if_false];have N:=Hw (show κ.kle (KK κ (zY u) (lo+x)) (KK κ (zY u) (lo+x - 1)) from G) B;refine z1 ⟨q+1,rfl,j,l.more (by lia) G,by lia,λi a b=>?_⟩;rw[show lo+(x+1) - 1=lo+x by lia];by_cases d:i=lo+x
    ·rw[d]
    ·rw[N];exact o i (by lia) (by lia)
theorem Dw {st e:zj}{lo n d:Nat}{Q:Option Nat->zj->Prop} (j:κ.OneLt) (l:KeysOf κ zf) (g:lo+d <= zf.size) (o:n+1 <= d) (kp:qJ zf lo (lo+d) e st) (r:Fa κ (zY st) lo (n+1))
  (h:∀ m f,qJ zf lo (lo+d) e f->1 <= m->m <= d->Ri κ (zY f) lo m->Q (zA m) f):wpS (za prog w) A E s (VG lo n d) Q st:=by
 unfold VG;refine zr (Ke (Xr ⟨rfl,?_⟩));refine zr (fX j l g (by lia) o kp r λm q u i a b p x t=>?_);dsimp only;have v:lo+m <= (zY u).size:=by rw[i.ok.sz];lia
 by_cases c:q > 0
 ·rw[if_pos c];exact zr (aD (d8 j l g (by lia) b (i.trans (qJ.mir i.ok (by lia) (by lia) g)) (p.same (BE v t)) h))
 ·rw[if_neg c];exact d8 j l g (by lia) b i p h
theorem mz {st:zj}{lo d:Nat}{Q:Option Nat->zj->Prop} (r:κ.OneLt) (t:KeysOf κ zf) (u:lo+d <= zf.size) (y:1 <= d) (g:SG zf st)
  (h:∀ m l,qJ zf lo (lo+d) st l->1 <= m->m <= d->Ri κ (zY l) lo m->Q (zA m) l):wpS (za prog w) A E s (countRun' lo d) Q st:=by
 rw[Mg];refine zr (ek r t u (jB 1) y g Ri.one λn a b v x=>?_);dsimp only;by_cases e:n=d
 ·rw[if_pos (by simpa using e)];exact z1 (h n st (qJ.refl g) a b v)
 rw[if_neg (by simpa using e)];have o:=x.resolve_left e;by_cases c:n > 1
 ·rw[if_pos c];refine zr (vI r t g (by lia) (by lia) ?_);cases z:κ.blt (KK κ (zY st) lo) (KK κ (zY st) (lo+n - 1)) with
  | true=>simp only[if_true];exact z1 (h n st (qJ.refl g) a b v)
  | false =>
   simp only[qj,if_false];have B:lo+n <= (zY st).size:=by rw[g.sz];lia
   have f:∀ k,lo <= k->k < lo+n->KK κ (zY st) k=KK κ (zY st) (lo+n - 1):=by
    intro k C G;have a1:=v 0 (k - lo) (by lia) (by lia);have a2:=v (k - lo) (n - 1) (by lia) (by lia);rw[show lo+(k - lo)=k by lia] at a1 a2;rw[show lo+(n - 1)=lo+n - 1 by lia] at a2;exact Hw a2 (yv z a1)
   refine zr (aD (Dw r t u (by lia) (qJ.mir g (jB _) (by lia) u) (Fa.same (xs:=zY st) (Fa.more (λi j p q=>?_) (by lia) (QI o)) (BE B f)) h));rw[f (lo+i) (by lia) (by lia),f (lo+j) (by lia) (by lia)];exact xV _
 ·rw[if_neg c];obtain rfl:n=1:=by lia
  exact Dw r t u (by lia) (qJ.refl g) (Fa.one.more (jB _) (QI o)) h
noncomputable def kyo (κ:KeyKind) (p:zX):κ.α:=(κ.keyOf p.1).getD κ.dflt
def yh (κ:KeyKind) (p:zX):Prop:=∃ a,κ.keyOf p.1=zA a
theorem YR {st:zj}{p q:zX}{Q:Option Bool->zj->Prop} (d:κ.OneLt) (kd:kindOf st=qm) (e:yh κ p) (f:yh κ q) (h:Q (zA (κ.blt (kyo κ p) (kyo κ q))) st):wpS (za prog w) A E s (lt' p q) Q st:=by
 obtain⟨a,ha⟩:=e;obtain⟨b,c⟩:=f;rw[show kyo κ p=a by unfold kyo;rw[ha];rfl,show kyo κ q=b by unfold kyo;rw[c];rfl] at h;rw[lt'_eq];refine zr (Qw ?_);rw[kd,keyLt'_oneType];exact zr (Ke (wpAny_attempt (d prog w A _ s p.1 q.1 a b ha c ⟨rfl,z1 h⟩)))
theorem q9 {st:zj}{arr:Array zX}{i:Nat}{p:zX}{Q:zX->zj->Prop} (e:arr[i]? = zA p) (h:Q p st):wpS (za prog w) A E s (yG arr i) Q st:=by
 rw[elem'_eq,e];exact z1 h
noncomputable def kA:Bool->zX->Array zX->Nat->Nat->Nat->StateT zj Sem (Option Nat):=sortPriv% PySem.Builtin.gallop
noncomputable def byd (left:Bool) (c:zX) (arr:Array zX) (base i:Nat):StateT zj Sem (Option Bool):=do
 let x <- yG arr (base+i)
 if left then lt' x c else return (<- lt' c x).map (!·)
def gl3 (left:Bool) (c:zX) (arr:Array zX) (base n lo hi:Nat):StateT zj Sem (Option Nat):=do
 let mut lo:=lo
 let mut hi:=hi
 for _ in [0:n] do
  if lo ≥ hi then break
  let m:=lo+(hi - lo) / 2
  let zA more <- byd left c arr base m | return zB
  if more then lo:=m+1 else hi:=m
 return zA hi
def gl1 (left:Bool) (d:zX) (arr:Array zX) (base n c:Nat):StateT zj Sem (Option Nat):=do
 let mut lastofs:=0
 let mut ofs:=1
 for _ in [0:n] do
  if ofs ≥ n - c then break
  let zA more <- byd left d arr base (c+ofs) | return zB
  if !more then break
  lastofs:=ofs
  ofs:=2 * ofs+1
 gl3 left d arr base n (c+lastofs+1) (c+min ofs (n - c))
def gl2 (left:Bool) (e:zX) (arr:Array zX) (base n c:Nat):StateT zj Sem (Option Nat):=do
 let mut lastofs:=0
 let mut ofs:=1
 for _ in [0:n] do
  if ofs ≥ c+1 then break
  let zA d <- byd left e arr base (c - ofs) | return zB
  if d then break
  lastofs:=ofs
  ofs:=2 * ofs+1
 gl3 left e arr base n (c+1 - min ofs (c+1)) (c - lastofs)
theorem m5 (left:Bool) (d:zX) (arr:Array zX) (base n c:Nat):kA left d arr base n c=(do
  match <- byd left d arr base c with
  | some r=>if r=zC then gl1 left d arr base n c else gl2 left d arr base n c
  | _=>pure zB):=by
 show (sortPriv% PySem.Builtin.gallop) left d arr base n c=_;unfold gl1 gl2 gl3;rfl
def By (κ:KeyKind) (left:Bool) (c:zX) (arr:Array zX) (i:Nat):Bool:=if left then κ.blt (KK κ arr i) (kyo κ c) else !κ.blt (kyo κ c) (KK κ arr i)
theorem q7 {arr:Array zX}{i:Nat}{p:zX} (e:arr[i]? = zA p):KK κ arr i=kyo κ p:=by unfold KK;rw[e];rfl
theorem Uo {st:zj}{left:Bool}{c:zX}{arr:Array zX}{base i:Nat}{Q:Option Bool->zj->Prop} (d:κ.OneLt) (kd:kindOf st=qm) (ha:∀ p,p∈arr.toList->yh κ p) (f:yh κ c) (hi:base+i < arr.size)
  (h:Q (zA (By κ left c arr (base+i))) st):wpS (za prog w) A E s (byd left c arr base i) Q st:=by
 unfold byd;have e:arr[base+i]? = zA arr[base+i]:=getElem?_pos arr (base+i) hi;have hx:yh κ arr[base+i]:=ha _ (by simp);refine zr (q9 e ?_);unfold By at h;rw[q7 e] at h;cases left with
 | true=>simp only[if_true] at h ⊢;exact YR d kd hx f h
 | false=>simp only[qj,if_false] at h ⊢;exact zr (YR d kd f hx (z1 h))
def GK (κ:KeyKind) (left:Bool) (c:zX) (arr:Array zX) (base n k:Nat):Prop:=k <= n/\(∀ i,i < k->By κ left c arr (base+i)=zC)/\(∀ i,k <= i->i < n->By κ left c arr (base+i)=zP)
theorem By.down {left:Bool}{arr:Array zX}{base:Nat} (so:Ri κ arr base n) {i j:Nat} (c:i <= j) (e:j < n) (h:By κ left d arr (base+j)=zC):By κ left d arr (base+i)=zC:=by
 unfold By at *;cases left with
 | true=>simp only[if_true] at h ⊢;exact KeyOrd.klt_of_kle_of_klt (so i j c e) h
 | false =>
  simp only[qj,if_false,kq] at h ⊢;exact yv (so i j c e) h
theorem By.up {left:Bool}{arr:Array zX}{base:Nat} (so:Ri κ arr base n) {i j:Nat} (d:i <= j) (f:j < n) (h:By κ left c arr (base+i)=zP):By κ left c arr (base+j)=zP:=by
 cases e:By κ left c arr (base+j) with
 | false=>rfl
 | true=>rw[By.down so d f e] at h;cases h
theorem bb {st:zj}{left:Bool}{d:zX}{arr:Array zX}{base n lo hi:Nat}{Q:Option Nat->zj->Prop} (t:κ.OneLt) (kd:kindOf st=qm) (ha:∀ p,p∈arr.toList->yh κ p) (v:yh κ d) (G:base+n <= arr.size) (so:Ri κ arr base n)
  (q:lo <= hi) (y:hi <= n) (z:∀ i,i < lo->By κ left d arr (base+i)=zC) (B:∀ i,hi <= i->i < n->By κ left d arr (base+i)=zP) (h:∀ k,GK κ left d arr base n k->Q (zA k) st):wpS (za prog w) A E s (gl3 left d arr base n lo hi) Q st:=by
 unfold gl3;refine zr (yo (ZA (I:=λx c u=>u=st/\∃ r l,c=(zB,l,r)/\l <= r/\r <= n/\r - l <= n - x/\(∀ i,i < l->By κ left d arr (base+i)=zC)/\(∀ i,r <= i->i < n->By κ left d arr (base+i)=zP))
  (Q:=λc u=>u=st/\∃ r l,c=(zB,l,r)/\GK κ left d arr base n r) (λx c u _ hx ⟨e,r,l,f,a1,a2,C,m,o⟩=>?step) (λc u ⟨e,r,l,f,a1,a2,C,m,o⟩=>?fin) ⟨rfl,hi,lo,rfl,q,y,by lia,z,B⟩) λc u ⟨e,r,l,f,g⟩=>?post)
 case step =>
  subst e f;dsimp only;by_cases j:l ≥ r
  ·rw[if_pos j];obtain rfl:l=r:=by lia
   exact z1 ⟨rfl,l,l,rfl,a2,m,o⟩
  rw[if_neg j];refine zr (Uo t kd ha v (by lia) ?_);cases hm:By κ left d arr (base+(l+(r - l) / 2)) with
  | true =>
   simp only[if_true];exact z1 ⟨rfl,r,l+(r - l) / 2+1,rfl,by lia,a2,by lia,λi hi=>By.down so (by lia) (by lia) hm,o⟩
  | false =>
   simp only[qj,if_false];exact z1 ⟨rfl,l+(r - l) / 2,l,rfl,by lia,by lia,by lia,m,λi b c=>By.up so b c hm⟩
 case fin =>
  obtain rfl:l=r:=by lia
  exact⟨e,l,l,f,a2,m,o⟩
 case post =>
  subst e f;exact z1 (h r g)
theorem fx {st:zj}{left:Bool}{e:zX}{arr:Array zX}{base n d:Nat}{Q:Option Nat->zj->Prop} (t:κ.OneLt) (kd:kindOf st=qm) (ha:∀ p,p∈arr.toList->yh κ p) (v:yh κ e) (y:base+n <= arr.size) (so:Ri κ arr base n)
  (B:d < n) (z:By κ left e arr (base+d)=zC) (h:∀ k,GK κ left e arr base n k->Q (zA k) st):wpS (za prog w) A E s (gl1 left e arr base n d) Q st:=by
 unfold gl1;refine zr (yo (ZA (I:=λx c u=>u=st/\∃ l o,c=(zB,l,o)/\l < o/\x+1 <= o/\d+l < n/\By κ left e arr (base+(d+l))=zC)
  (Q:=λc u=>u=st/\∃ l o,c=(zB,l,o)/\l < o/\d+l < n/\By κ left e arr (base+(d+l))=zC/\(n - d <= o\/By κ left e arr (base+(d+o))=zP)) (λx c u _ hx ⟨q,l,o,r,a1,a2,m,f⟩=>?step) (λc u ⟨q,l,o,r,a1,a2,m,f⟩=>⟨q,l,o,r,a1,m,f,.inl (by lia)⟩)
   ⟨rfl,0,1,rfl,by lia,by lia,by lia,z⟩) λc u ⟨q,l,o,r,a1,a2,m,f⟩=>?post)
 case step =>
  subst q r;dsimp only;by_cases g:o ≥ n - d
  ·rw[if_pos g];exact z1 ⟨rfl,l,o,rfl,a1,m,f,.inl g⟩
  rw[if_neg g];refine zr (Uo t kd ha v (by lia) ?_);cases hm:By κ left e arr (base+(d+o)) with
  | true =>
   simp only[J0,qj,if_false];exact z1 ⟨rfl,o,2 * o+1,rfl,by lia,by lia,by lia,hm⟩
  | false =>
   simp only[HE,if_true];exact z1 ⟨rfl,l,o,rfl,a1,m,f,.inr hm⟩
 case post =>
  subst q r;dsimp only;refine bb t kd ha v y so (by lia) (by lia) (λi hi=>By.down so (j:=d+l) (by lia) (by lia) m) (λi b c=>?_) h;rcases f with f | f
  ·lia
  ·by_cases g:o ≥ n - d
   ·lia
   ·exact By.up so (by lia) c f
theorem Gb {st:zj}{left:Bool}{e:zX}{arr:Array zX}{base n d:Nat}{Q:Option Nat->zj->Prop} (t:κ.OneLt) (kd:kindOf st=qm) (ha:∀ p,p∈arr.toList->yh κ p) (v:yh κ e) (y:base+n <= arr.size) (so:Ri κ arr base n)
  (B:d < n) (z:By κ left e arr (base+d)=zP) (h:∀ k,GK κ left e arr base n k->Q (zA k) st):wpS (za prog w) A E s (gl2 left e arr base n d) Q st:=by
 unfold gl2;refine zr (yo (ZA (I:=λx c u=>u=st/\∃ l o,c=(zB,l,o)/\l < o/\x+1 <= o/\l <= d/\By κ left e arr (base+(d - l))=zP)
  (Q:=λc u=>u=st/\∃ l o,c=(zB,l,o)/\l < o/\l <= d/\By κ left e arr (base+(d - l))=zP/\(d+1 <= o\/By κ left e arr (base+(d - o))=zC)) (λx c u _ hx ⟨q,l,o,r,a1,a2,m,f⟩=>?step) (λc u ⟨q,l,o,r,a1,a2,m,f⟩=>⟨q,l,o,r,a1,m,f,.inl (by lia)⟩)
   ⟨rfl,0,1,rfl,by lia,by lia,by lia,z⟩) λc u ⟨q,l,o,r,a1,a2,m,f⟩=>?post)
 case step =>
  subst q r;dsimp only;by_cases g:o ≥ d+1
  ·rw[if_pos g];exact z1 ⟨rfl,l,o,rfl,a1,m,f,.inl g⟩
  rw[if_neg g];refine zr (Uo t kd ha v (by lia) ?_);cases hm:By κ left e arr (base+(d - o)) with
  | false =>
   simp only[qj,if_false];exact z1 ⟨rfl,o,2 * o+1,rfl,by lia,by lia,by lia,hm⟩
  | true =>
   simp only[if_true];exact z1 ⟨rfl,l,o,rfl,a1,m,f,.inr hm⟩
 case post =>
  subst q r;dsimp only;refine bb t kd ha v y so (by lia) (by lia) (λi hi=>?_) (λi b c=>By.up so (i:=d - l) (by lia) c m) h;rcases f with f | f
  ·lia
  ·by_cases g:o ≥ d+1
   ·lia
   ·exact By.down so (j:=d - o) (by lia) (by lia) f
theorem Xq {st:zj}{left:Bool}{d:zX}{arr:Array zX}{base n c:Nat}{Q:Option Nat->zj->Prop} (e:κ.OneLt) (kd:kindOf st=qm) (ha:∀ p,p∈arr.toList->yh κ p) (f:yh κ d) (g:base+n <= arr.size) (so:Ri κ arr base n)
  (i:c < n) (h:∀ k,GK κ left d arr base n k->Q (zA k) st):wpS (za prog w) A E s (kA left d arr base n c) Q st:=by
 rw[m5];refine zr (Uo e kd ha f (by lia) ?_);cases hm:By κ left d arr (base+c) with
 | true=>simp only[if_true];exact fx e kd ha f g so i hm h
 | false=>simp only[qj,if_false];exact Gb e kd ha f g so i hm h
structure MI (R:zX->zX->Prop) (l ra rb out:List zX):Prop where
 pm:(out++ra++rb).Perm l
 so:out.Pairwise R
 oa:∀ x,x∈out->∀ y,y∈ra->R x y
 ob:∀ x,x∈out->∀ y,y∈rb->R x y
 sa:ra.Pairwise R
 sb:rb.Pairwise R
theorem MI.swap {R:zX->zX->Prop}{out:List zX} (h:MI R l c d out):MI R l d c out :=
 ⟨List.Perm.trans (l₂:=out++c++d) (by rw[yr,yr];exact List.perm_append_comm.append_left out) h.pm,h.so,h.ob,h.oa,h.sb,h.sa⟩
theorem MI.run {R:zX->zX->Prop}{xs e out:List zX} (h:MI R l (xs++e) f out) (c:∀ x,x∈xs->∀ y,y∈f->R x y):MI R l e f (out++xs):=by
 obtain⟨pm,so,oa,ob,sa,sb⟩:=h;rw[bS] at sa;refine⟨by simpa [yr] using pm,bS.mpr ⟨so,sa.1,λx hx y d=>oa x hx y (DL _ d)⟩,λx hx y d=>?_,λx hx y d=>?_,sa.2.1,sb⟩
 ·rcases Jl.mp hx with hx | hx
  ·exact oa x hx y (Zt _ d)
  ·exact sa.2.2 x hx y d
 ·rcases Jl.mp hx with hx | hx
  ·exact ob x hx y d
  ·exact c x hx y d
theorem MI.fin {R:zX->zX->Prop}{out:List zX} (h:MI R l d e out) (c:∀ x,x∈d->∀ y,y∈e->R x y):(out++d++e).Pairwise R:=by
 obtain⟨pm,so,oa,ob,sa,sb⟩:=h;refine bS.mpr ⟨bS.mpr ⟨so,sa,oa⟩,sb,λx hx y f=>?_⟩;rcases Jl.mp hx with hx | hx
 ·exact ob x hx y f
 ·exact c x hx y f
theorem xZ {a:Array zX}{i:Nat}{y:zX} (h:y∈a.toList.drop i):∃ j,i <= j/\j < a.size/\a[j]? = zA y:=by
 obtain⟨j,c,e⟩:=Qo.mp h;rw[List.getElem_drop] at e;rw[gb] at c;have:i+j < a.size:=by rw[<- qH];lia
 exact⟨i+j,by lia,this,by rw[getElem?_pos a (i+j) this,<- e];simp⟩
theorem dA {a:Array zX}{i:Nat}{p:zX} (e:a[i]? = zA p):a.toList.drop i=p::a.toList.drop (i+1):=by
 obtain⟨hi,e⟩:=yq.mp e;rw[vg (by rw[qH];exact hi),Yu,e]
theorem Yd {a:Array zX}{i k:Nat}:a.toList.drop i=(a.extract i (i+k)).toList++a.toList.drop (i+k):=by
 rw[ag,Kz,<- List.drop_drop,c7,cB]
theorem vr {a:Array zX}{i k:Nat}{y:zX} (h:y∈(a.extract i k).toList):∃ j,i <= j/\j < k/\j < a.size/\a[j]? = zA y:=by
 obtain⟨j,c,e⟩:=Qo.mp h;rw[Yu,i6] at e;rw[qH,X4] at c;have:i+j < a.size:=by lia
 exact⟨i+j,by lia,by lia,this,by rw[getElem?_pos a (i+j) this,e]⟩
theorem eA {a:Array zX}{n:Nat}{p:zX} (e:a[n]? = zA p):(a.toList.take (n+1)).reverse=p::(a.toList.take n).reverse:=by
 obtain⟨hi,e⟩:=yq.mp e;rw[GW (by rw[qH];exact hi),fK,Yu,e];rfl
theorem dS {a:Array zX}{m n:Nat} (h:m <= n):(a.toList.take n).reverse=(a.extract m n).reverse.toList++(a.toList.take m).reverse:=by
 rw[uK,<- fK,ag,Kz]
 congr 1
 obtain⟨d,rfl⟩:∃ d,n=m+d:=⟨n - m,by lia⟩
 rw[c7,List.take_add]
theorem kG {a:Array zX}{n:Nat}{y:zX} (h:y∈(a.toList.take n).reverse):∃ j,j < n/\j < a.size/\a[j]? = zA y:=by
 rw[dO] at h;obtain⟨j,c,e⟩:=Qo.mp h;rw[List.getElem_take] at e;rw[xD,qH] at c;exact⟨j,by lia,by lia,by rw[getElem?_pos a j (by lia),<- e];simp⟩
structure j3 (st st':zj):Prop where
 kd:kindOf st'=kindOf st
 ar:zY st'=zY st
 pd:jk st'=jk st
 fl:Jv st'=Jv st
theorem j3.refl (st:zj):j3 st st:=⟨rfl,rfl,rfl,rfl⟩
noncomputable def vD:Nat->StateT zj Sem Unit:=sortPriv% PySem.Builtin.setMinGallop
theorem V0 {c st:zj}{n:Nat}{Q:Unit->zj->Prop} (g:j3 c st) (h:∀ d,j3 c d->Q () d):wpS (za prog w) A E s (vD n) Q st:=by
 show wpS _ _ _ _ (modify λz:zj=>eB (kindOf z) (zY z) (jk z) n (Jv z)) _ _;exact kH (h _ ⟨g.kd,g.ar,g.pd,g.fl⟩)
noncomputable def aN:Array zX->Array zX->StateT zj Sem (Array zX):=sortPriv% PySem.Builtin.mergeLo
noncomputable def aA:Array zX->Array zX->StateT zj Sem (Array zX):=sortPriv% PySem.Builtin.mergeHi
noncomputable def dnL (x y out:Array zX) (i j:Nat):=out++x.extract i x.size++y.extract j y.size
noncomputable def lsL (x y out:Array zX) (i j:Nat):=out++y.extract j y.size++x.extract i x.size
noncomputable def dnH (x y out:Array zX) (i j:Nat):=x.extract 0 i++y.extract 0 j++out.reverse
noncomputable def fsH (x y out:Array zX) (i j:Nat):=y.extract 0 j++x.extract 0 i++out.reverse
abbrev C7:=Option (Array zX)×Array zX×Nat×Nat×Nat×Nat×Nat
abbrev C6:=Option (Array zX)×Array zX×Nat×Nat×Nat×Nat
def loD (x y out:Array zX) (i j mg c d:Nat):StateT zj Sem (ForInStep C7):=do
 let p <- yG x i
 if (i+1+1 == x.size)=zC then pure (.done (zA (lsL x y (out.push p) (i+1) j),out.push p,i+1,j,mg,c,d))
 else if (decide (c < 7) && decide (d < 7))=zC then pure (.done (zB,out.push p,i+1,j,mg,c,d))
 else pure (.yield (zB,out.push p,i+1,j,mg,c,d))
def loC (x y out:Array zX) (i j mg c d:Nat):StateT zj Sem (ForInStep C7):=do
 let p <- yG x i
 match <- kA zC p y j (y.size - j) 0 with
 | some k =>
  if k > 0 then
   if (j+k == y.size)=zC then pure (.done (zA (dnL x y (out++y.extract j (j+k)) i (j+k)),out++y.extract j (j+k),i,j+k,mg,c,k))
   else loD x y (out++y.extract j (j+k)) i (j+k) mg c k
  else loD x y out i j mg c k
 | _=>pure (.done (zA (dnL x y out i j),out,i,j,mg,c,d))
def loB (x y out:Array zX) (i j mg c d:Nat):StateT zj Sem (ForInStep C7):=do
 let p <- yG y j
 if (j+1 == y.size)=zC then pure (.done (zA (dnL x y (out.push p) i (j+1)),out.push p,i,j+1,mg,c,d))
 else loC x y (out.push p) i (j+1) mg c d
def loA (x y out:Array zX) (i j mg d c:Nat):StateT zj Sem (ForInStep C7):=do
 vD mg
 let p <- yG y j
 match <- kA zP p x i (x.size - i) 0 with
 | some k =>
  if k > 0 then
   if (i+k+1 == x.size)=zC then pure (.done (zA (lsL x y (out++x.extract i (i+k)) (i+k) j),out++x.extract i (i+k),i+k,j,mg,k,c))
   else if (i+k == x.size)=zC then pure (.done (zA (dnL x y (out++x.extract i (i+k)) (i+k) j),out++x.extract i (i+k),i+k,j,mg,k,c))
   else loB x y (out++x.extract i (i+k)) (i+k) j mg k c
  else loB x y out i j mg k c
 | _=>pure (.done (zA (dnL x y out i j),out,i,j,mg,d,c))
def lo1 (x y:Array zX) (mg:Nat) (c:C6):StateT zj Sem (ForInStep C6):=do
 let p <- yG y c.2.2.2.1
 let q <- yG x c.2.2.1
 match <- lt' p q with
 | some r =>
  if r=zC then do
   let p <- yG y c.2.2.2.1
   if (c.2.2.2.1+1 == y.size)=zC then pure (.done (zA (dnL x y (c.2.1.push p) c.2.2.1 (c.2.2.2.1+1)),c.2.1.push p,c.2.2.1,c.2.2.2.1+1,0,c.2.2.2.2.2+1))
   else if c.2.2.2.2.2+1 ≥ mg then pure (.done (zB,c.2.1.push p,c.2.2.1,c.2.2.2.1+1,0,c.2.2.2.2.2+1))
   else pure (.yield (zB,c.2.1.push p,c.2.2.1,c.2.2.2.1+1,0,c.2.2.2.2.2+1))
  else do
   let q <- yG x c.2.2.1
   if (c.2.2.1+1+1 == x.size)=zC then pure (.done (zA (lsL x y (c.2.1.push q) (c.2.2.1+1) c.2.2.2.1),c.2.1.push q,c.2.2.1+1,c.2.2.2.1,c.2.2.2.2.1+1,0))
   else if c.2.2.2.2.1+1 ≥ mg then pure (.done (zB,c.2.1.push q,c.2.2.1+1,c.2.2.2.1,c.2.2.2.2.1+1,0))
   else pure (.yield (zB,c.2.1.push q,c.2.2.1+1,c.2.2.2.1,c.2.2.2.2.1+1,0))
 | _=>pure (.done (zA (dnL x y c.2.1 c.2.2.1 c.2.2.2.1),c.2.1,c.2.2.1,c.2.2.2.1,c.2.2.2.2.1,c.2.2.2.2.2))
abbrev C5:=Option (Array zX)×Array zX×Nat×Nat×Nat
def loO (x y:Array zX) (c:C5):StateT zj Sem (ForInStep C5):=do
 let d <- forIn [0:x.size+y.size] ((zB,c.2.1,c.2.2.1,c.2.2.2.1,0,0):C6) λ_ d=>lo1 x y c.2.2.2.2 d
 match d.1 with
 | some r=>pure (.done (zA r,d.2.1,d.2.2.1,d.2.2.2.1,c.2.2.2.2))
 | none=>do
  liftM (Z4 "list.sort.gallop")
  let e <- forIn [0:x.size+y.size] ((zB,d.2.1,d.2.2.1,d.2.2.2.1,c.2.2.2.2+1,d.2.2.2.2.1,d.2.2.2.2.2):C7) λ_ e =>
   if e.2.2.2.2.1 > 1 then loA x y e.2.1 e.2.2.1 e.2.2.2.1 (e.2.2.2.2.1 - 1) e.2.2.2.2.2.1 e.2.2.2.2.2.2 else loA x y e.2.1 e.2.2.1 e.2.2.2.1 e.2.2.2.2.1 e.2.2.2.2.2.1 e.2.2.2.2.2.2
  match e.1 with
  | some r=>pure (.done (zA r,e.2.1,e.2.2.1,e.2.2.2.1,e.2.2.2.2.1))
  | none=>do
   vD (e.2.2.2.2.1+1)
   pure (.yield (zB,e.2.1,e.2.2.1,e.2.2.2.1,e.2.2.2.2.1+1))
theorem i2 (x y:Array zX):aN x y=(do
 liftM (Z4 "list.sort.merge-lo")
 let p <- yG y 0
 if (1 == y.size)=zC then pure (dnL x y #[p] 0 1)
 else if (0+1 == x.size)=zC then pure (lsL x y #[p] 0 1)
 else do
  let z <- get
  let c <- forIn [0:x.size+y.size] ((zB,#[p],0,1,gallopOf z):C5) λ_ c=>loO x y c
  match c.1 with
  | some r=>pure r
  | none=>liftM (unsupported "internal:list.sort.merge-bound" : Sem (Array zX))):=by
 show (sortPriv% PySem.Builtin.mergeLo) x y=_;refine congrArg (bind _) (funext λ_=>congrArg (bind _) (funext λp=>ite_congr rfl (λ_=>rfl) λ_=>ite_congr rfl (λ_=>rfl) λ_=>congrArg (bind _) (funext λz=>?_)));refine congr (congrArg bind (congrArg _ (funext λ_=>funext λc=>congrArg (bind _) (funext λd=>?_)))) (funext λc=>?_)
 ·obtain⟨f,d⟩:=d;cases f with
  | some r=>rfl
  | none=>exact congrArg (bind _) (funext λ_=>congrArg (bind _) (funext λe=>by obtain⟨g,e⟩:=e;cases g<;>rfl))
 ·obtain⟨h,c⟩:=c;cases h<;>rfl
def kl (κ:KeyKind) (p q:zX):Prop:=κ.kle (kyo κ p) (kyo κ q)
structure MG (κ:KeyKind) (x y:Array zX):Prop where
 kx:∀ p,p∈x.toList->yh κ p
 ky:∀ p,p∈y.toList->yh κ p
 rx:Ri κ x 0 x.size
 ry:Ri κ y 0 y.size
 nx:1 <= x.size
 ny:1 <= y.size
 fst:∀ p q,y[0]? = zA p->x[0]? = zA q->kl κ p q
 lst:∀ p q,y[y.size - 1]? = zA p->x[x.size - 1]? = zA q->kl κ p q
def Rs (κ:KeyKind) (x y r:Array zX):Prop:=r.toList.Perm (x.toList++y.toList)/\r.toList.Pairwise (kl κ)
theorem Ri.at (r:Ri κ x 0 x.size) {i j:Nat}{p q:zX} (c:i <= j) (e:x[i]? = zA p) (d:x[j]? = zA q):kl κ p q:=by
 have f:j < x.size:=(yq.mp d).1;have:=r i j c f
 rwa [Qs,Qs,q7 e,q7 d] at this
theorem Ri.tail (r:Ri κ x 0 x.size) (i n:Nat) (h:i+n <= x.size):Ri κ x i n:=λa b c d=>by
 have:=r (i+a) (i+b) (by lia) (by lia)
 rwa [Qs,Qs] at this
theorem Ri.pair (r:Ri κ x 0 x.size):x.toList.Pairwise (kl κ):=by
 rw[pY];intro i j hi d c;rw[qH] at hi d;exact r.at (Wh c) (by rw[getElem?_pos x i hi];simp) (by rw[getElem?_pos x j d];simp)
theorem JR {x:Array zX} (h:∀ p,p∈x.toList->yh κ p) {i:Nat}{p:zX} (e:x[i]? = zA p):yh κ p:=by
 obtain⟨hi,rfl⟩:=yq.mp e;exact h _ (by simp)
theorem q8 (x:Array zX) {i:Nat} (h:i < x.size):∃ p,x[i]? = zA p:=⟨_,getElem?_pos x i h⟩
def ML (κ:KeyKind) (x y:Array zX) (i j:Nat) (out:Array zX):Prop:=MI (kl κ) (x.toList++y.toList) (x.toList.drop i) (y.toList.drop j) out.toList
section
variable {x y out:Array zX}{i j:Nat}{p:zX}
theorem ML.a (h:ML κ x y i j out) (e:x[i]? = zA p) (c:∀ m q,j <= m->y[m]? = zA q->kl κ p q):ML κ x y (i+1) j (out.push p):=by
 unfold ML at *;rw[dA e] at h;have:=MI.run (xs:=[p]) h λz d q f=>by
  obtain⟨m,a,_,b⟩:=xZ f;rw[Jg.mp d];exact c m q a b
 rwa [YS]
theorem ML.b (h:ML κ x y i j out) (e:y[j]? = zA p) (c:∀ m q,i <= m->x[m]? = zA q->kl κ p q):ML κ x y i (j+1) (out.push p):=by
 unfold ML at *;rw[dA e] at h;have:=MI.run (xs:=[p]) h.swap λz d q f=>by
  obtain⟨m,a,_,b⟩:=xZ f;rw[Jg.mp d];exact c m q a b
 rw[YS];exact this.swap
theorem ML.as {k:Nat} (h:ML κ x y i j out) (c:∀ m q,i <= m->m < i+k->x[m]? = zA q->∀ d e,j <= d->y[d]? = zA e->kl κ q e):ML κ x y (i+k) j (out++x.extract i (i+k)):=by
 unfold ML at *;rw[Yd (k:=k)] at h;have:=MI.run h λz f q g=>by
  obtain⟨m,a,_,b⟩:=xZ g;obtain⟨d,l,n,_,o⟩:=vr f;exact c d z l n o m q a b
 rwa [Qb]
theorem ML.bs {k:Nat} (h:ML κ x y i j out) (c:∀ m q,j <= m->m < j+k->y[m]? = zA q->∀ d e,i <= d->x[d]? = zA e->kl κ q e):ML κ x y i (j+k) (out++y.extract j (j+k)):=by
 unfold ML at *;have h:=h.swap;rw[Yd (k:=k)] at h;have:=MI.run h λz f q g=>by
  obtain⟨m,a,_,b⟩:=xZ g;obtain⟨d,l,n,_,o⟩:=vr f;exact c d z l n o m q a b
 rw[Qb];exact this.swap
theorem Yo (z:Array zX) (i:Nat):(z.extract i z.size).toList=z.toList.drop i:=by
 rw[ag,Kz,bR (by rw[gb,qH];lia)]
theorem ML.dn (h:ML κ x y i j out) (c:i=x.size\/j=y.size):Rs κ x y (dnL x y out i j):=by
 unfold Rs dnL;rw[Qb,Qb,Yo,Yo];refine⟨h.pm,h.fin λa ha b d=>?_⟩;obtain⟨m,a1,a2,e⟩:=xZ ha;obtain⟨f,g,l,n⟩:=xZ d
 lia
theorem ML.ls (g:MG κ x y) (h:ML κ x y i j out) (c:i+1=x.size):Rs κ x y (lsL x y out i j):=by
 unfold Rs lsL;rw[Qb,Qb,Yo,Yo];refine⟨h.swap.pm,h.swap.fin λa ha b e=>?_⟩;obtain⟨m,a1,a2,f⟩:=xZ ha;obtain⟨n,q,r,o⟩:=xZ e;obtain rfl:n=x.size - 1:=by lia
 obtain⟨l,d⟩:=q8 y (i:=y.size - 1) (by lia);exact yv (g.ry.at (show m <= y.size - 1 by lia) f d) (g.lst l b d o)
end
def Lo7 (κ:KeyKind) (d:zj) (x y:Array zX) (b:Nat) (c:C7) (u:zj):Prop :=
 j3 d u/\match c.1 with
  | some r=>Rs κ x y r
  | none=>ML κ x y c.2.2.1 c.2.2.2.1 c.2.1/\c.2.2.1+1 < x.size/\c.2.2.2.1 < y.size/\b <= c.2.2.1+c.2.2.2.1
def St7 (κ:KeyKind) (d:zj) (x y:Array zX) (b:Nat) (r:ForInStep C7) (u:zj):Prop :=
 match r with
 | .done c=>Lo7 κ d x y b c u
 | .yield c=>c.1=zB/\Lo7 κ d x y b c u
section
variable {jK st:zj}{x y out:Array zX}{i j mg ac bc b:Nat}
theorem DT (g:MG κ x y) (d:j3 jK st) (h:ML κ x y i j out) (hi:i+1 < x.size) (n:j < y.size) (o:b <= i+j) (c:∀ p,x[i]? = zA p->∀ m q,j <= m->y[m]? = zA q->kl κ p q) :
  wpS (za prog w) A E s (loD x y out i j mg ac bc) (St7 κ jK x y b) st:=by
 unfold loD;obtain⟨p,e⟩:=q8 x (show i < x.size by lia);have f:=h.a e (c p e);refine zr (q9 e ?_);by_cases l:i+1+1=x.size
 ·rw[if_pos (by simpa using l)];exact z1 ⟨d,f.ls g l⟩
 rw[if_neg (by simpa using l)];split
 ·exact z1 ⟨d,f,by show i+1+1 < _;lia,n,by show b <= i+1+j;lia⟩
 ·exact z1 ⟨rfl,d,f,by show i+1+1 < _;lia,n,by show b <= i+1+j;lia⟩
theorem O4 (v:κ.OneLt) (kd:kindOf st=qm) (g:MG κ x y) (f:j3 jK st) (h:ML κ x y i j out) (hi:i+1 < x.size) (z:j < y.size) (B:b <= i+j) :
  wpS (za prog w) A E s (loC x y out i j mg ac bc) (St7 κ jK x y b) st:=by
 unfold loC;obtain⟨p,e⟩:=q8 x (show i < x.size by lia);refine zr (q9 e (zr (Xq v kd g.ky (JR g.kx e) (by lia) (g.ry.tail j _ (by lia)) (by lia) λk ⟨M,C,G⟩=>?_)));have H:∀ m q,j <= m->m < j+k->y[m]? = zA q->∀ l n,i <= l->x[l]? = zA n->kl κ q n:=λm q a b c l n I J=>by
  have:=C (m - j) (by lia);unfold By at this;rw[if_pos rfl,show j+(m - j)=m by lia,q7 c] at this;exact yv (QI this) (g.rx.at I e J)
 have r:∀ m q,j+k <= m->y[m]? = zA q->kl κ p q:=λm q a b=>by
  have hm:m < y.size:=(yq.mp b).1;have:=G (m - j) (by lia) (by lia);unfold By at this;rw[if_pos rfl,show j+(m - j)=m by lia,q7 b] at this;exact this
 dsimp only;by_cases t:k > 0
 ·rw[if_pos t];have u:=h.bs H;by_cases o:j+k=y.size
  ·rw[if_pos (by simpa using o)];exact z1 ⟨f,u.dn (.inr o)⟩
  rw[if_neg (by simpa using o)];exact DT g f u hi (by lia) (by lia) λL d m q a b=>by rw[e] at d;cases d;exact r m q a b
 ·rw[if_neg t];obtain rfl:k=0:=by lia
  exact DT g f h hi z B λL d m q a b=>by rw[e] at d;cases d;exact r m q (by lia) b
theorem bg (n:κ.OneLt) (kd:kindOf st=qm) (g:MG κ x y) (f:j3 jK st) (h:ML κ x y i j out) (hi:i+1 < x.size) (o:j < y.size) (r:b <= i+j) (c:∀ p,y[j]? = zA p->∀ m q,i <= m->x[m]? = zA q->kl κ p q) :
  wpS (za prog w) A E s (loB x y out i j mg ac bc) (St7 κ jK x y b) st:=by
 unfold loB;obtain⟨p,e⟩:=q8 y o;have l:=h.b e (c p e);refine zr (q9 e ?_);by_cases d:j+1=y.size
 ·rw[if_pos (by simpa using d)];exact z1 ⟨f,l.dn (.inr d)⟩
 rw[if_neg (by simpa using d)];exact O4 n kd g f l hi (by lia) (by lia)
theorem IB (l:κ.OneLt) (kd:kindOf jK=qm) (g:MG κ x y) (d:j3 jK st) (h:ML κ x y i j out) (hi:i+1 < x.size) (n:j < y.size) (G:b <= i+j) :
  wpS (za prog w) A E s (loA x y out i j mg ac bc) (St7 κ jK x y b) st:=by
 unfold loA;obtain⟨p,e⟩:=q8 y n;refine zr (V0 d λu d=>?_);have kd:kindOf u=qm:=d.kd.trans kd;refine zr (q9 e (zr (Xq l kd g.kx (JR g.ky e) (by lia) (g.rx.tail i _ (by lia)) (by lia) λk ⟨Q,H,I⟩=>?_)));have J:∀ m q,i <= m->m < i+k->x[m]? = zA q->∀ o r,j <= o->y[o]? = zA r->kl κ q r:=λm q a b c o r L M=>by
  have:=H (m - i) (by lia);unfold By at this;rw[if_neg (by decide),show i+(m - i)=m by lia,q7 c,kq] at this;exact yv (show κ.kle (kyo κ q) (kyo κ p) from this) (g.ry.at L e M)
 have B:∀ m q,i+k <= m->x[m]? = zA q->kl κ p q:=λm q a b=>by
  have hm:m < x.size:=(yq.mp b).1;have:=I (m - i) (by lia) (by lia);unfold By at this;rw[if_neg (by decide),show i+(m - i)=m by lia,q7 b,Eu] at this;exact QI this
 dsimp only;by_cases C:k > 0
 ·rw[if_pos C];have t:=h.as J;by_cases v:i+k+1=x.size
  ·rw[if_pos (by simpa using v)];exact z1 ⟨d,t.ls g v⟩
  rw[if_neg (by simpa using v)];by_cases z:i+k=x.size
  ·rw[if_pos (by simpa using z)];exact z1 ⟨d,t.dn (.inl z)⟩
  rw[if_neg (by simpa using z)];exact bg l kd g d t (by lia) n (by lia) λN f m q a b=>by rw[e] at f;cases f;exact B m q a b
 ·rw[if_neg C];obtain rfl:k=0:=by lia
  exact bg l kd g d h hi n G λN f m q a b=>by rw[e] at f;cases f;exact B m q (by lia) b
def Lo6 (κ:KeyKind) (jK:zj) (x y:Array zX) (b:Nat) (c:C6) (u:zj):Prop :=
 j3 jK u/\match c.1 with
  | some r=>Rs κ x y r
  | none=>ML κ x y c.2.2.1 c.2.2.2.1 c.2.1/\c.2.2.1+1 < x.size/\c.2.2.2.1 < y.size/\b <= c.2.2.1+c.2.2.2.1
def St6 (κ:KeyKind) (jK:zj) (x y:Array zX) (b:Nat) (r:ForInStep C6) (u:zj):Prop :=
 match r with
 | .done c=>Lo6 κ jK x y b c u
 | .yield c=>c.1=zB/\Lo6 κ jK x y b c u
theorem Fh {c:C6} (t:κ.OneLt) (kd:kindOf jK=qm) (g:MG κ x y) (d:j3 jK st) (h:ML κ x y c.2.2.1 c.2.2.2.1 c.2.1) (hi:c.2.2.1+1 < x.size) (o:c.2.2.2.1 < y.size) (r:b <= c.2.2.1+c.2.2.2.1+1) :
  wpS (za prog w) A E s (lo1 x y mg c) (St6 κ jK x y b) st:=by
 unfold lo1;obtain⟨p,e⟩:=q8 y o;obtain⟨q,n⟩:=q8 x (show c.2.2.1 < x.size by lia);have kd:kindOf st=qm:=d.kd.trans kd;refine zr (q9 e (zr (q9 n (zr (YR t kd (JR g.ky e) (JR g.kx n) ?_)))));cases r:κ.blt (kyo κ p) (kyo κ q) with
 | true =>
  dsimp only;rw[if_pos rfl];have f:=h.b e λm z a b=>yv (QI r) (g.rx.at a n b);refine zr (q9 e ?_);by_cases l:c.2.2.2.1+1=y.size
  ·rw[if_pos (by simpa using l)];exact z1 ⟨d,f.dn (.inr l)⟩
  rw[if_neg (by simpa using l)];split
  ·exact z1 ⟨d,f,hi,by show c.2.2.2.1+1 < _;lia,by show b <= c.2.2.1+(c.2.2.2.1+1);lia⟩
  ·exact z1 ⟨rfl,d,f,hi,by show c.2.2.2.1+1 < _;lia,by show b <= c.2.2.1+(c.2.2.2.1+1);lia⟩
 | false =>
  dsimp only;rw[if_neg (by decide)];have f:=h.a n λm z a b=>yv r (g.ry.at a e b);refine zr (q9 n ?_);by_cases l:c.2.2.1+1+1=x.size
  ·rw[if_pos (by simpa using l)];exact z1 ⟨d,f.ls g l⟩
  rw[if_neg (by simpa using l)];split
  ·exact z1 ⟨d,f,by show c.2.2.1+1+1 < _;lia,o,by show b <= c.2.2.1+1+c.2.2.2.1;lia⟩
  ·exact z1 ⟨rfl,d,f,by show c.2.2.1+1+1 < _;lia,o,by show b <= c.2.2.1+1+c.2.2.2.1;lia⟩
def Lo5 (κ:KeyKind) (jK:zj) (x y:Array zX) (b:Nat) (c:C5) (u:zj):Prop :=
 j3 jK u/\match c.1 with
  | some r=>Rs κ x y r
  | none=>ML κ x y c.2.2.1 c.2.2.2.1 c.2.1/\c.2.2.1+1 < x.size/\c.2.2.2.1 < y.size/\b <= c.2.2.1+c.2.2.2.1
theorem MB {c:C5}{R:ForInStep C5->zj->Prop} (q:κ.OneLt) (kd:kindOf jK=qm) (g:MG κ x y) (f:j3 jK st) (h:ML κ x y c.2.2.1 c.2.2.2.1 c.2.1) (hi:c.2.2.1+1 < x.size) (t:c.2.2.2.1 < y.size) (v:b <= c.2.2.1+c.2.2.2.1)
  (hd:∀ r d u,j3 jK u->Rs κ x y r->R (.done (zA r,d)) u) (z:∀ d u,Lo5 κ jK x y (b+1) (zB,d) u->R (.yield (zB,d)) u) :
  wpS (za prog w) A E s (loO x y c) R st:=by
 unfold loO;refine zr (yo (ZA (I:=λk d u=>d.1=zB/\Lo6 κ jK x y (b+min k 1) d u) (Q:=Lo6 κ jK x y (b+1)) (λk d u _ B ⟨n,f,m⟩=>?step) (λd u ⟨n,o⟩=>?fin) ⟨rfl,f,h,hi,t,v⟩) λd u o=>?post)
 case step =>
  rw[n] at m;refine yo (Fh (b:=b+1) q kd g f m.1 m.2.1 m.2.2.1 (by have:=m.2.2.2;lia)) λr u h=>?_;rw[show min (k+1) 1=1 by lia];cases r<;>exact h
 case fin=>rwa [show min (max 0 (x.size+y.size)) 1=1 by have:=g.nx;lia] at o
 case post =>
  obtain⟨C,d⟩:=d;cases C with
  | some r=>exact z1 (hd r _ u o.1 o.2)
  | none =>
   refine zr (Ke (Xr ⟨rfl,?_⟩));refine zr (yo (ZA (I:=λk e u=>e.1=zB/\Lo7 κ jK x y (b+1) e u) (Q:=Lo7 κ jK x y (b+1)) (λk e u _ B ⟨n,f,p⟩=>?step2) (λe u ⟨n,l⟩=>l) ⟨rfl,o⟩) λe u l=>?post2)
   case step2 =>
    rw[n] at p;split<;>exact yo (IB q kd g f p.1 p.2.1 p.2.2.1 p.2.2.2) λr u h=>by cases r<;>exact h
   case post2 =>
    obtain⟨G,e⟩:=e;cases G with
    | some r=>exact z1 (hd r _ u l.1 l.2)
    | none=>exact zr (V0 l.1 λu f=>z1 (z _ u ⟨f,l.2⟩))
theorem Gz {Q:Array zX->zj->Prop} (G:κ.OneLt) (kd:kindOf st=qm) (g:MG κ x y) (h:∀ r u,j3 st u->Rs κ x y r->Q r u):wpS (za prog w) A E s (aN x y) Q st:=by
 rw[i2];refine zr (Ke (Xr ⟨rfl,?_⟩));obtain⟨p,e⟩:=q8 y (show 0 < y.size from g.ny);have g1:=g.nx;have g2:=g.ny;refine zr (q9 e ?_);have t:ML κ x y 0 1 #[p]:=by
  have H:ML κ x y 0 0 #[]:=⟨by simp,aY,λ_ h=>by simp at h,λ_ h=>by simp at h,by rw[UV];exact g.rx.pair,by rw[UV];exact g.ry.pair⟩
  obtain⟨q,C⟩:=q8 x (show 0 < x.size from g.nx);exact H.b e λm z a b=>yv (g.fst p q e C) (g.rx.at a C b)
 by_cases v:1=y.size
 ·rw[if_pos (by simpa using v)];exact z1 (h _ _ (j3.refl _) (t.dn (.inr v)))
 rw[if_neg (by simpa using v)];by_cases f:0+1=x.size
 ·rw[if_pos (by simpa using f)];exact z1 (h _ _ (j3.refl _) (t.ls g f))
 rw[if_neg (by simpa using f)];refine zr (Qw ?_);refine zr (yo (ZA (I:=λk c u=>c.1=zB/\Lo5 κ st x y (k+1) c u) (Q:=λc u=>∃ r d,c=(zA r,d)/\j3 st u/\Rs κ x y r) (λk c u _ L ⟨n,o,f⟩=>?step) (λc u ⟨n,o,f⟩=>?fin) ⟨rfl,j3.refl _,t,by show 0+1 < _;lia,by show 1 < _;lia,by show 0+1 <= 0+1;lia⟩) λc u ⟨r,d,J,o,B⟩=>?post)
 case step =>
  rw[n] at f;exact MB (b:=k+1) G kd g o f.1 f.2.1 f.2.2.1 f.2.2.2 (λr d u o B=>⟨r,d,rfl,o,B⟩) λd u l=>⟨rfl,l⟩
 case fin=>rw[n] at f;have:=f.2;lia
 case post=>subst J;exact z1 (h r u o B)
end
abbrev H7:=Option (Array zX)×Nat×Nat×Array zX×Nat×Nat×Nat
abbrev H6:=Option (Array zX)×Nat×Nat×Array zX×Nat×Nat
abbrev H5:=Option (Array zX)×Nat×Nat×Array zX×Nat
def hiD (x y out:Array zX) (i j mg c d:Nat):StateT zj Sem (ForInStep H7):=do
 let p <- yG x (i - 1)
 if (i - 1 == 0)=zC then pure (.done (zA (dnH x y (out.push p) (i - 1) j),i - 1,j,out.push p,mg,c,d))
 else if (decide (c < 7) && decide (d < 7))=zC then pure (.done (zB,i - 1,j,out.push p,mg,c,d))
 else pure (.yield (zB,i - 1,j,out.push p,mg,c,d))
def hiC (x y out:Array zX) (i j mg c d:Nat):StateT zj Sem (ForInStep H7):=do
 let p <- yG x (i - 1)
 match <- kA zC p y 0 j (j - 1) with
 | some t =>
  if j - t > 0 then
   if (t == 1)=zC then pure (.done (zA (fsH x y (out++(y.extract t j).reverse) i t),i,t,out++(y.extract t j).reverse,mg,c,j - t))
   else if (t == 0)=zC then pure (.done (zA (dnH x y (out++(y.extract t j).reverse) i t),i,t,out++(y.extract t j).reverse,mg,c,j - t))
   else hiD x y (out++(y.extract t j).reverse) i t mg c (j - t)
  else hiD x y out i j mg c (j - t)
 | _=>pure (.done (zA (dnH x y out i j),i,j,out,mg,c,d))
def hiB (x y out:Array zX) (i j mg c d:Nat):StateT zj Sem (ForInStep H7):=do
 let p <- yG y (j - 1)
 if (j - 1 == 1)=zC then pure (.done (zA (fsH x y (out.push p) i (j - 1)),i,j - 1,out.push p,mg,c,d))
 else hiC x y (out.push p) i (j - 1) mg c d
def hiA (x y out:Array zX) (i j mg d c:Nat):StateT zj Sem (ForInStep H7):=do
 vD mg
 let p <- yG y (j - 1)
 match <- kA zP p x 0 i (i - 1) with
 | some t =>
  if i - t > 0 then
   if (t == 0)=zC then pure (.done (zA (dnH x y (out++(x.extract t i).reverse) t j),t,j,out++(x.extract t i).reverse,mg,i - t,c))
   else hiB x y (out++(x.extract t i).reverse) t j mg (i - t) c
  else hiB x y out i j mg (i - t) c
 | _=>pure (.done (zA (dnH x y out i j),i,j,out,mg,d,c))
def hi1 (x y:Array zX) (mg:Nat) (c:H6):StateT zj Sem (ForInStep H6):=do
 let p <- yG y (c.2.2.1 - 1)
 let q <- yG x (c.2.1 - 1)
 match <- lt' p q with
 | some r =>
  if r=zC then do
   let q <- yG x (c.2.1 - 1)
   if (c.2.1 - 1 == 0)=zC then pure (.done (zA (dnH x y (c.2.2.2.1.push q) (c.2.1 - 1) c.2.2.1),c.2.1 - 1,c.2.2.1,c.2.2.2.1.push q,c.2.2.2.2.1+1,0))
   else if c.2.2.2.2.1+1 ≥ mg then pure (.done (zB,c.2.1 - 1,c.2.2.1,c.2.2.2.1.push q,c.2.2.2.2.1+1,0))
   else pure (.yield (zB,c.2.1 - 1,c.2.2.1,c.2.2.2.1.push q,c.2.2.2.2.1+1,0))
  else do
   let p <- yG y (c.2.2.1 - 1)
   if (c.2.2.1 - 1 == 1)=zC then pure (.done (zA (fsH x y (c.2.2.2.1.push p) c.2.1 (c.2.2.1 - 1)),c.2.1,c.2.2.1 - 1,c.2.2.2.1.push p,0,c.2.2.2.2.2+1))
   else if c.2.2.2.2.2+1 ≥ mg then pure (.done (zB,c.2.1,c.2.2.1 - 1,c.2.2.2.1.push p,0,c.2.2.2.2.2+1))
   else pure (.yield (zB,c.2.1,c.2.2.1 - 1,c.2.2.2.1.push p,0,c.2.2.2.2.2+1))
 | _=>pure (.done (zA (dnH x y c.2.2.2.1 c.2.1 c.2.2.1),c.2.1,c.2.2.1,c.2.2.2.1,c.2.2.2.2.1,c.2.2.2.2.2))
def hiO (x y:Array zX) (c:H5):StateT zj Sem (ForInStep H5):=do
 let d <- forIn [0:x.size+y.size] ((zB,c.2.1,c.2.2.1,c.2.2.2.1,0,0):H6) λ_ d=>hi1 x y c.2.2.2.2 d
 match d.1 with
 | some r=>pure (.done (zA r,d.2.1,d.2.2.1,d.2.2.2.1,c.2.2.2.2))
 | none=>do
  liftM (Z4 "list.sort.gallop")
  let e <- forIn [0:x.size+y.size] ((zB,d.2.1,d.2.2.1,d.2.2.2.1,c.2.2.2.2+1,d.2.2.2.2.1,d.2.2.2.2.2):H7) λ_ e =>
   if e.2.2.2.2.1 > 1 then hiA x y e.2.2.2.1 e.2.1 e.2.2.1 (e.2.2.2.2.1 - 1) e.2.2.2.2.2.1 e.2.2.2.2.2.2 else hiA x y e.2.2.2.1 e.2.1 e.2.2.1 e.2.2.2.2.1 e.2.2.2.2.2.1 e.2.2.2.2.2.2
  match e.1 with
  | some r=>pure (.done (zA r,e.2.1,e.2.2.1,e.2.2.2.1,e.2.2.2.2.1))
  | none=>do
   vD (e.2.2.2.2.1+1)
   pure (.yield (zB,e.2.1,e.2.2.1,e.2.2.2.1,e.2.2.2.2.1+1))
theorem pz (x y:Array zX):aA x y=(do
 liftM (Z4 "list.sort.merge-hi")
 let p <- yG x (x.size - 1)
 if (x.size - 1 == 0)=zC then pure (dnH x y #[p] (x.size - 1) y.size)
 else if (y.size == 1)=zC then pure (fsH x y #[p] (x.size - 1) y.size)
 else do
  let z <- get
  let c <- forIn [0:x.size+y.size] ((zB,x.size - 1,y.size,#[p],gallopOf z):H5) λ_ c=>hiO x y c
  match c.1 with
  | some r=>pure r
  | none=>liftM (unsupported "internal:list.sort.merge-bound" : Sem (Array zX))):=by
 show (sortPriv% PySem.Builtin.mergeHi) x y=_;refine congrArg (bind _) (funext λ_=>congrArg (bind _) (funext λp=>ite_congr rfl (λ_=>rfl) λ_=>ite_congr rfl (λ_=>rfl) λ_=>congrArg (bind _) (funext λz=>?_)));refine congr (congrArg bind (congrArg _ (funext λ_=>funext λc=>congrArg (bind _) (funext λd=>?_)))) (funext λc=>?_)
 ·obtain⟨f,d⟩:=d;cases f with
  | some r=>rfl
  | none=>exact congrArg (bind _) (funext λ_=>congrArg (bind _) (funext λe=>by obtain⟨g,e⟩:=e;cases g<;>rfl))
 ·obtain⟨h,c⟩:=c;cases h<;>rfl
def MH (κ:KeyKind) (x y:Array zX) (i j:Nat) (out:Array zX):Prop:=MI (λp q=>kl κ q p) (x.toList++y.toList) (x.toList.take i).reverse (y.toList.take j).reverse out.toList
section
variable {x y out:Array zX}{i j:Nat}{p:zX}
theorem MH.a (h:MH κ x y (i+1) j out) (e:x[i]? = zA p) (c:∀ m q,m < j->y[m]? = zA q->kl κ q p):MH κ x y i j (out.push p):=by
 unfold MH at *;rw[eA e] at h;have:=MI.run (xs:=[p]) h λz d q f=>by
  obtain⟨m,a,_,b⟩:=kG f;rw[Jg.mp d];exact c m q a b
 rwa [YS]
theorem MH.b (h:MH κ x y i (j+1) out) (e:y[j]? = zA p) (c:∀ m q,m < i->x[m]? = zA q->kl κ q p):MH κ x y i j (out.push p):=by
 unfold MH at *;rw[eA e] at h;have:=MI.run (xs:=[p]) h.swap λz d q f=>by
  obtain⟨m,a,_,b⟩:=kG f;rw[Jg.mp d];exact c m q a b
 rw[YS];exact this.swap
theorem MH.as {k:Nat} (g:k <= i) (h:MH κ x y i j out) (c:∀ m q,k <= m->m < i->x[m]? = zA q->∀ d e,d < j->y[d]? = zA e->kl κ e q):MH κ x y k j (out++(x.extract k i).reverse):=by
 unfold MH at *;rw[dS g] at h;have:=MI.run h λz f q l=>by
  obtain⟨m,a,_,b⟩:=kG l;rw[uK,dO] at f;obtain⟨d,n,o,_,r⟩:=vr f;exact c d z n o r m q a b
 rwa [Qb]
theorem MH.bs {k:Nat} (g:k <= j) (h:MH κ x y i j out) (c:∀ m q,k <= m->m < j->y[m]? = zA q->∀ d e,d < i->x[d]? = zA e->kl κ e q):MH κ x y i k (out++(y.extract k j).reverse):=by
 unfold MH at *;have h:=h.swap;rw[dS g] at h;have:=MI.run h λz f q l=>by
  obtain⟨m,a,_,b⟩:=kG l;rw[uK,dO] at f;obtain⟨d,n,o,_,r⟩:=vr f;exact c d z n o r m q a b
 rw[Qb];exact this.swap
theorem Yq (z:Array zX) (i:Nat):(z.extract 0 i).toList=z.toList.take i:=by
 rw[ag,Kz];rfl
theorem eV (a b c:List zX):a++b++c.reverse=(c++b.reverse++a.reverse).reverse:=by simp
theorem MH.dn (h:MH κ x y i j out) (c:i=0\/j=0):Rs κ x y (dnH x y out i j):=by
 unfold Rs dnH;rw[Qb,Qb,Yq,Yq,uK,eV];refine⟨(bL _).trans h.swap.pm,wX.mpr (h.swap.fin λa ha b d=>?_)⟩;obtain⟨m,a1,a2,e⟩:=kG ha;obtain⟨f,g,l,n⟩:=kG d
 lia
theorem MH.fs (g:MG κ x y) (h:MH κ x y i j out) (c:j=1):Rs κ x y (fsH x y out i j):=by
 unfold Rs fsH;rw[Qb,Qb,Yq,Yq,uK,eV];refine⟨(bL _).trans h.pm,wX.mpr (h.fin λa ha b e=>?_)⟩;obtain⟨m,a1,a2,f⟩:=kG ha;obtain⟨n,q,r,o⟩:=kG e;obtain rfl:n=0:=by lia
 obtain⟨l,d⟩:=q8 x (i:=0) (by lia);exact yv (g.fst b l o d) (g.rx.at (XF m) d f)
end
def Hi7 (κ:KeyKind) (d:zj) (x y:Array zX) (b:Nat) (c:H7) (u:zj):Prop :=
 j3 d u/\match c.1 with
  | some r=>Rs κ x y r
  | none=>MH κ x y c.2.1 c.2.2.1 c.2.2.2.1/\1 <= c.2.1/\2 <= c.2.2.1/\c.2.1 <= x.size/\c.2.2.1 <= y.size/\c.2.1+c.2.2.1+b <= x.size+y.size
def Th7 (κ:KeyKind) (d:zj) (x y:Array zX) (b:Nat) (r:ForInStep H7) (u:zj):Prop :=
 match r with
 | .done c=>Hi7 κ d x y b c u
 | .yield c=>c.1=zB/\Hi7 κ d x y b c u
section
variable {jK st:zj}{x y out:Array zX}{i j mg ac bc b:Nat}
theorem EI (g:MG κ x y) (f:j3 jK st) (h:MH κ x y i j out) (hi:1 <= i) (r:2 <= j) (t:i <= x.size) (d:j <= y.size) (u:i+j+b <= x.size+y.size) (c:∀ p,x[i - 1]? = zA p->∀ m q,m < j->y[m]? = zA q->kl κ q p) :
  wpS (za prog w) A E s (hiD x y out i j mg ac bc) (Th7 κ jK x y b) st:=by
 unfold hiD;obtain⟨p,e⟩:=q8 x (show i - 1 < x.size by lia);obtain⟨n,rfl⟩:∃ n,i=n+1:=⟨i - 1,by lia⟩
 rw[wA] at e c ⊢;have l:=h.a e (c p e);refine zr (q9 e ?_);by_cases o:n=0
 ·rw[if_pos (by simpa using o)];exact z1 ⟨f,l.dn (.inl o)⟩
 rw[if_neg (by simpa using o)];split
 ·exact z1 ⟨f,l,by show 1 <= n;lia,r,by show n <= _;lia,d,by show n+j+b <= _;lia⟩
 ·exact z1 ⟨rfl,f,l,by show 1 <= n;lia,r,by show n <= _;lia,d,by show n+j+b <= _;lia⟩
theorem LG (C:κ.OneLt) (kd:kindOf st=qm) (g:MG κ x y) (l:j3 jK st) (h:MH κ x y i j out) (hi:1 <= i) (G:2 <= j) (d:i <= x.size) (o:j <= y.size) (H:i+j+b <= x.size+y.size) :
  wpS (za prog w) A E s (hiC x y out i j mg ac bc) (Th7 κ jK x y b) st:=by
 unfold hiC;obtain⟨p,e⟩:=q8 x (show i - 1 < x.size by lia);refine zr (q9 e (zr (Xq C kd g.ky (JR g.kx e) (by lia) (g.ry.tail 0 _ (by lia)) (by lia) λk ⟨I,J,L⟩=>?_)));have z:∀ m q,m < k->y[m]? = zA q->kl κ q p:=λm q a c=>by
  have:=J m a;unfold By at this;rw[if_pos rfl,Qs,q7 c] at this;exact QI this
 have M:∀ m q,k <= m->m < j->y[m]? = zA q->∀ n r,n < i->x[n]? = zA r->kl κ r q:=λm q a b c n r U N=>by
  have:=L m a b;unfold By at this;rw[if_pos rfl,Qs,q7 c] at this;exact yv (g.rx.at (show n <= i - 1 by lia) N e) this
 dsimp only;by_cases B:j - k > 0
 ·rw[if_pos B];have t:=h.bs I M;by_cases u:k=1
  ·rw[if_pos (by simpa using u)];exact z1 ⟨l,t.fs g u⟩
  rw[if_neg (by simpa using u)];by_cases v:k=0
  ·rw[if_pos (by simpa using v)];exact z1 ⟨l,t.dn (.inr v)⟩
  rw[if_neg (by simpa using v)];exact EI g l t hi (by lia) d (by lia) (by lia) λQ f m q a b=>by rw[e] at f;cases f;exact z m q a b
 ·rw[if_neg B];obtain rfl:k=j:=by lia
  exact EI g l h hi G d o H λQ f m q a b=>by rw[e] at f;cases f;exact z m q a b
theorem C8 (r:κ.OneLt) (kd:kindOf st=qm) (g:MG κ x y) (l:j3 jK st) (h:MH κ x y i j out) (hi:1 <= i) (u:2 <= j) (d:i <= x.size) (t:j <= y.size) (v:i+j+b <= x.size+y.size) (c:∀ p,y[j - 1]? = zA p->∀ m q,m < i->x[m]? = zA q->kl κ q p) :
  wpS (za prog w) A E s (hiB x y out i j mg ac bc) (Th7 κ jK x y b) st:=by
 unfold hiB;obtain⟨p,e⟩:=q8 y (show j - 1 < y.size by lia);obtain⟨n,rfl⟩:∃ n,j=n+1:=⟨j - 1,by lia⟩
 rw[wA] at e c ⊢;have o:=h.b e (c p e);refine zr (q9 e ?_);by_cases f:n=1
 ·rw[if_pos (by simpa using f)];exact z1 ⟨l,o.fs g f⟩
 rw[if_neg (by simpa using f)];exact LG r kd g l o hi (by lia) d (by lia) (by lia)
theorem MV (o:κ.OneLt) (kd:kindOf jK=qm) (g:MG κ x y) (d:j3 jK st) (h:MH κ x y i j out) (hi:1 <= i) (z:2 <= j) (r:i <= x.size) (f:j <= y.size) (H:i+j+b <= x.size+y.size) :
  wpS (za prog w) A E s (hiA x y out i j mg ac bc) (Th7 κ jK x y b) st:=by
 unfold hiA;obtain⟨p,e⟩:=q8 y (show j - 1 < y.size by lia);refine zr (V0 d λu d=>?_);have kd:kindOf u=qm:=d.kd.trans kd;refine zr (q9 e (zr (Xq o kd g.kx (JR g.ky e) (by lia) (g.rx.tail 0 _ (by lia)) (by lia) λk ⟨I,J,L⟩=>?_)));have B:∀ m q,m < k->x[m]? = zA q->kl κ q p:=λm q a c=>by
  have:=J m a;unfold By at this;rw[if_neg (by decide),Qs,q7 c,kq] at this;exact this
 have M:∀ m q,k <= m->m < i->x[m]? = zA q->∀ n t,n < j->y[n]? = zA t->kl κ t q:=λm q a b c n t U N=>by
  have:=L m a b;unfold By at this;rw[if_neg (by decide),Qs,q7 c,Eu] at this;exact yv (g.ry.at (show n <= j - 1 by lia) N e) (QI this)
 dsimp only;by_cases C:i - k > 0
 ·rw[if_pos C];have G:=h.as I M;by_cases v:k=0
  ·rw[if_pos (by simpa using v)];exact z1 ⟨d,G.dn (.inl v)⟩
  rw[if_neg (by simpa using v)];exact C8 o kd g d G (by lia) z (by lia) f (by lia) λQ l m q a b=>by rw[e] at l;cases l;exact B m q a b
 ·rw[if_neg C];obtain rfl:k=i:=by lia
  exact C8 o kd g d h hi z r f H λQ l m q a b=>by rw[e] at l;cases l;exact B m q a b
def Hi6 (κ:KeyKind) (jK:zj) (x y:Array zX) (b:Nat) (c:H6) (u:zj):Prop :=
 j3 jK u/\match c.1 with
  | some r=>Rs κ x y r
  | none=>MH κ x y c.2.1 c.2.2.1 c.2.2.2.1/\1 <= c.2.1/\2 <= c.2.2.1/\c.2.1 <= x.size/\c.2.2.1 <= y.size/\c.2.1+c.2.2.1+b <= x.size+y.size
def Th6 (κ:KeyKind) (jK:zj) (x y:Array zX) (b:Nat) (r:ForInStep H6) (u:zj):Prop :=
 match r with
 | .done c=>Hi6 κ jK x y b c u
 | .yield c=>c.1=zB/\Hi6 κ jK x y b c u
theorem n9 {c:H6} (B:κ.OneLt) (kd:kindOf jK=qm) (g:MG κ x y) (f:j3 jK st) (h:MH κ x y c.2.1 c.2.2.1 c.2.2.2.1) (hi:1 <= c.2.1) (u:2 <= c.2.2.1) (r:c.2.1 <= x.size) (t:c.2.2.1 <= y.size) (C:c.2.1+c.2.2.1+b <= x.size+y.size+1) :
  wpS (za prog w) A E s (hi1 x y mg c) (Th6 κ jK x y b) st:=by
 unfold hi1;obtain⟨d,i,j,out,ac,bc⟩:=c;dsimp only at *;obtain⟨p,e⟩:=q8 y (show j - 1 < y.size by lia);obtain⟨q,o⟩:=q8 x (show i - 1 < x.size by lia);have kd:kindOf st=qm:=f.kd.trans kd;refine zr (q9 e (zr (q9 o (zr (YR B kd (JR g.ky e) (JR g.kx o) ?_)))));cases v:κ.blt (kyo κ p) (kyo κ q) with
 | true =>
  dsimp only;rw[if_pos rfl];obtain⟨n,rfl⟩:∃ n,i=n+1:=⟨i - 1,by lia⟩
  rw[wA] at o ⊢;have l:=h.a o λm z a b=>yv (g.ry.at (show m <= j - 1 by lia) b e) (QI v);refine zr (q9 o ?_);by_cases d:n=0
  ·rw[if_pos (by simpa using d)];exact z1 ⟨f,l.dn (.inl d)⟩
  rw[if_neg (by simpa using d)];split
  ·exact z1 ⟨f,l,by show 1 <= n;lia,u,by show n <= _;lia,t,by show n+j+b <= _;lia⟩
  ·exact z1 ⟨rfl,f,l,by show 1 <= n;lia,u,by show n <= _;lia,t,by show n+j+b <= _;lia⟩
 | false =>
  dsimp only;rw[if_neg (by decide)];obtain⟨n,rfl⟩:∃ n,j=n+1:=⟨j - 1,by lia⟩
  rw[wA] at e ⊢;have l:=h.b e λm z a b=>yv (g.rx.at (show m <= i - 1 by lia) b o) v;refine zr (q9 e ?_);by_cases d:n=1
  ·rw[if_pos (by simpa using d)];exact z1 ⟨f,l.fs g d⟩
  rw[if_neg (by simpa using d)];split
  ·exact z1 ⟨f,l,hi,by show 2 <= n;lia,r,by show n <= _;lia,by show i+n+b <= _;lia⟩
  ·exact z1 ⟨rfl,f,l,hi,by show 2 <= n;lia,r,by show n <= _;lia,by show i+n+b <= _;lia⟩
def Hi5 (κ:KeyKind) (jK:zj) (x y:Array zX) (b:Nat) (c:H5) (u:zj):Prop :=
 j3 jK u/\match c.1 with
  | some r=>Rs κ x y r
  | none=>MH κ x y c.2.1 c.2.2.1 c.2.2.2.1/\1 <= c.2.1/\2 <= c.2.2.1/\c.2.1 <= x.size/\c.2.2.1 <= y.size/\c.2.1+c.2.2.1+b <= x.size+y.size
theorem i3 {c:H5}{R:ForInStep H5->zj->Prop} (t:κ.OneLt) (kd:kindOf jK=qm) (g:MG κ x y) (C:c.1=zB) (G:Hi5 κ jK x y b c st)
  (hd:∀ r d u,j3 jK u->Rs κ x y r->R (.done (zA r,d)) u) (H:∀ d u,Hi5 κ jK x y (b+1) (zB,d) u->R (.yield (zB,d)) u) :
  wpS (za prog w) A E s (hiO x y c) R st:=by
 unfold hiO;obtain⟨f,h⟩:=G;rw[C] at h;refine zr (yo (ZA (I:=λk d u=>d.1=zB/\Hi6 κ jK x y (b+min k 1) d u) (Q:=Hi6 κ jK x y (b+1)) (λk d u _ J ⟨n,f,v⟩=>?step) (λd u ⟨n,m⟩=>?fin) ⟨rfl,f,h⟩) λd u m=>?post)
 case step =>
  rw[n] at v;obtain⟨a1,a2,o,p,q,z⟩:=v;refine yo (n9 (b:=b+1) t kd g f a1 a2 o p q (by lia)) λr u h=>?_;rw[show min (k+1) 1=1 by lia];cases r<;>exact h
 case fin=>rwa [show min (max 0 (x.size+y.size)) 1=1 by have:=g.nx;lia] at m
 case post =>
  obtain⟨L,d⟩:=d;cases L with
  | some r=>exact z1 (hd r _ u m.1 m.2)
  | none =>
   refine zr (Ke (Xr ⟨rfl,?_⟩));refine zr (yo (ZA (I:=λk e u=>e.1=zB/\Hi7 κ jK x y (b+1) e u) (Q:=Hi7 κ jK x y (b+1)) (λk e u _ J ⟨n,f,B⟩=>?step2) (λe u ⟨n,l⟩=>l) ⟨rfl,m⟩) λe u l=>?post2)
   case step2 =>
    rw[n] at B;obtain⟨a1,a2,o,p,q,z⟩:=B;split<;>exact yo (MV t kd g f a1 a2 o p q z) λr u h=>by cases r<;>exact h
   case post2 =>
    obtain⟨M,e⟩:=e;cases M with
    | some r=>exact z1 (hd r _ u l.1 l.2)
    | none=>exact zr (V0 l.1 λu f=>z1 (H _ u ⟨f,l.2⟩))
theorem Nz {Q:Array zX->zj->Prop} (G:κ.OneLt) (kd:kindOf st=qm) (g:MG κ x y) (h:∀ r u,j3 st u->Rs κ x y r->Q r u):wpS (za prog w) A E s (aA x y) Q st:=by
 rw[pz];refine zr (Ke (Xr ⟨rfl,?_⟩));have g1:=g.nx;have g2:=g.ny;obtain⟨p,e⟩:=q8 x (show x.size - 1 < x.size by lia);refine zr (q9 e ?_);have t:MH κ x y (x.size - 1) y.size #[p]:=by
  have H:MH κ x y (x.size - 1+1) y.size #[]:=by
   unfold MH;rw[Nat.sub_add_cancel g1,bR (by simp),bR (by simp)];exact⟨by simpa using (bL _).append (bL _),aY,λ_ h=>by simp at h,λ_ h=>by simp at h,wX.mpr g.rx.pair,wX.mpr g.ry.pair⟩
  obtain⟨q,C⟩:=q8 y (show y.size - 1 < y.size by lia);exact H.a e λm z a b=>yv (g.ry.at (show m <= y.size - 1 by lia) b C) (g.lst q p C e)
 by_cases v:x.size - 1=0
 ·rw[if_pos (by simpa using v)];exact z1 (h _ _ (j3.refl _) (t.dn (.inl v)))
 rw[if_neg (by simpa using v)];by_cases f:y.size=1
 ·rw[if_pos (by simpa using f)];exact z1 (h _ _ (j3.refl _) (t.fs g f))
 rw[if_neg (by simpa using f)];refine zr (Qw ?_);refine zr (yo (ZA (I:=λk c u=>c.1=zB/\Hi5 κ st x y (k+1) c u) (Q:=λc u=>∃ r d,c=(zA r,d)/\j3 st u/\Rs κ x y r) (λk c u _ M ⟨n,J⟩=>?step) (λc u ⟨n,o,f⟩=>?fin) ⟨rfl,j3.refl _,t,by show 1 <= x.size - 1;lia,by show 2 <= y.size;lia,by show x.size - 1 <= _;lia,jB _,by show x.size - 1+y.size+(0+1) <= _;lia⟩) λc u ⟨r,d,L,o,B⟩=>?post)
 case step=>exact i3 (b:=k+1) G kd g n J (λr d u o B=>⟨r,d,rfl,o,B⟩) λd u l=>⟨rfl,l⟩
 case fin=>rw[n] at f;have:=f.2;lia
 case post=>subst L;exact z1 (h r u o B)
end
noncomputable def ZR (a:Array zX) (o:Nat) (l:List (zX×Nat)):Array zX:=l.foldl (λa (p,j)=>a.setIfInBounds (o+j) p) a
theorem Cp:∀ (l:List zX) (a:Array zX) (o n:Nat),o+n+l.length <= a.size->(ZR a o (l.zipIdx n)).toList=a.toList.take (o+n)++l++a.toList.drop (o+n+l.length)
 | [],a,o,n,h=>by show a.toList=_;simp
 | p::l,a,o,n,h=>by
  rw[List.zipIdx_cons];show (ZR (a.setIfInBounds (o+n) p) o (l.zipIdx (n+1))).toList=_;rw[qL] at h ⊢;rw[Cp l _ o (n+1) (by rw[Array.size_setIfInBounds];lia),Hg,show o+(n+1)=(o+n)+1 by lia];have c:o+n < a.toList.length:=by rw[qH];lia
  rw[List.take_set,List.drop_set_of_lt (by lia),GW c,Al _ _ (by rw[xD];lia),xD,show o+n - min (o+n) a.toList.length=0 by lia,show o+n+1+l.length=o+n+(l.length+1) by lia];simp
theorem fN {M:Q9}{σ:Type}{z:σ}{Q:PUnit->σ->Prop}{st:σ} (h:Q ⟨⟩ z):wpS M A E s (set z:StateT σ Sem PUnit) Q st:=by
 unfold wpS;rw[StateT.run_set];exact jx ⟨rfl,h⟩
def mgE (a:Array zX) (sa d sb c:Nat):StateT zj Sem Bool :=
 if (c == 0)=zC then pure zC else
 if d <= c then do
  let r <- aN (a.extract sa sb) (a.extract sb (sb+c))
  modify λz=>X5 z (ZR (zY z) sa r.toList.zipIdx)
  let z <- get
  pure (Jv z).isNone
 else do
  let r <- aA (a.extract sa sb) (a.extract sb (sb+c))
  modify λz=>X5 z (ZR (zY z) sa r.toList.zipIdx)
  let z <- get
  pure (Jv z).isNone
def mgB (a:Array zX) (sa c sb d:Nat):StateT zj Sem Bool:=do
 let p <- yG a sb
 match <- kA zP p a sa c 0 with
 | some k =>
  if (c - k == 0)=zC then pure zC else do
   let q <- yG a (sa+k+(c - k) - 1)
   match <- kA zC q a sb d (d - 1) with
   | some d=>mgE a (sa+k) (c - k) sb d
   | _=>pure zP
 | _=>pure zP
theorem Nx {st:zj}{i sa c e sb d f:Nat}{Q:Bool->zj->Prop} (g:(jk st)[i]? = zA (sa,c,e)) (j:(jk st)[i+1]? = zA (sb,d,f))
  (h:wpS (za prog w) A E s (mgB (zY st) sa c sb d) Q (ah st (((jk st).setIfInBounds i (sa,c+d,e)).eraseIdxIfInBounds (i+1)))):wpS (za prog w) A E s (mergeAt' i) Q st:=by
 show wpS (za prog w) A E s ((sortPriv% PySem.Builtin.mergeAt) i) Q st;refine zr (Qw ?_);rw[g,j];exact zr (fN h)
theorem Rs.mem {y:Array zX} (h:Rs κ x y r) {p:zX}{m:Nat} (e:r[m]? = zA p):(∃ k:Nat,x[k]? = zA p)\/∃ k:Nat,y[k]? = zA p:=by
 obtain⟨hm,rfl⟩:=yq.mp e;have:=h.1.mem_iff.mp (show r[m]∈r.toList by simp);rcases Jl.mp this with a | a
 ·obtain⟨k,c,d⟩:=Qo.mp a;exact .inl ⟨k,by rw[<- d];simpa using c⟩
 ·obtain⟨k,c,d⟩:=Qo.mp a;exact .inr ⟨k,by rw[<- d];simpa using c⟩
theorem Rs.le {y:Array zX} (h:Rs κ x y r) {i j:Nat}{p q:zX} (c:i < j) (d:r[i]? = zA p) (e:r[j]? = zA q):kl κ p q:=by
 obtain⟨hi,rfl⟩:=yq.mp d;obtain⟨f,rfl⟩:=yq.mp e;have:=pY.mp h.2 i j (by rw[qH];exact hi) (by rw[qH];exact f) c;simpa using this
theorem Xg {a:Array zX}{lo hi k:Nat}{p:zX} (e:(a.extract lo hi)[k]? = zA p):lo+k < hi/\a[lo+k]? = zA p:=by
 obtain⟨d,rfl⟩:=yq.mp e;have c:=d;rw[X4] at c;exact⟨by lia,by rw[i6,getElem?_pos a (lo+k) (by lia)]⟩
theorem Ri.ext {a:Array zX}{lo n:Nat} (g:lo+n <= a.size) (r:Ri κ a lo n):Ri κ (a.extract lo (lo+n)) 0 (a.extract lo (lo+n)).size:=by
 intro i j c d;have f:(a.extract lo (lo+n)).size=n:=by rw[X4];lia
 rw[f] at d;have e:∀ k,k < n->KK κ (a.extract lo (lo+n)) (0+k)=KK κ a (lo+k):=λk h=>uh (by rw[Qs,Array.getElem?_extract,if_pos (by lia)]);rw[e i (by lia),e j d];exact r i j c d
theorem Ri.sub {a:Array zX}{lo:Nat} (r:Ri κ a lo n) (k m:Nat) (h:k+m <= n):Ri κ a (lo+k) m:=λi j p q=>by
 have:=r (k+i) (k+j) (by lia) (by lia)
 rwa [<- Vm,<- Vm] at this
def Mrg (κ:KeyKind) (zf:Array zX) (sa n:Nat) (st c:zj):Prop:=qJ zf sa (sa+n) st c/\Ri κ (zY c) sa n
theorem Hd {st h:zj}{sa k l f d:Nat}{r:Array zX} (g:SG zf st) (z:j3 st h) (hn:sa+d+l <= zf.size) (hk:k <= d) (hb:f <= l) (N:Ri κ (zY st) sa d) (Q:Ri κ (zY st) (sa+d) l)
  (U:∀ i j,i < k->j < l->κ.kle (KK κ (zY st) (sa+i)) (KK κ (zY st) (sa+d+j))) (Y:∀ i j,i < d->f <= j->j < l->κ.kle (KK κ (zY st) (sa+i)) (KK κ (zY st) (sa+d+j)))
  (H:Rs κ ((zY st).extract (sa+k) (sa+d)) ((zY st).extract (sa+d) (sa+d+f)) r):Mrg κ zf sa (d+l) st (X5 h (ZR (zY h) (sa+k) r.toList.zipIdx)):=by
 have hz:=g.sz;have hl:r.size=d - k+f:=by
  have:=H.1.length_eq;rw[ZI,qH,qH,qH,X4,X4] at this
  lia
 have pl:=Cp r.toList (zY h) (sa+k) 0 (by rw[qH,z.ar];lia);rw[z.ar,ba,qH,hl] at pl;rw[z.ar];have at_:∀ m:Nat,(ZR (zY st) (sa+k) r.toList.zipIdx)[m]? = if sa+k <= m/\m < sa+d+f then r[m - (sa+k)]? else (zY st)[m]? := by
  intro m;rw[<- vR,pl,yr];by_cases o:m < sa+k
  ·rw[yQ (by rw[xD,qH];lia),HM o,if_neg (by lia),vR]
  rw[yi (by rw[xD,qH];lia),xD,qH,Nat.min_eq_left (by lia)];by_cases B:m < sa+d+f
  ·rw[yQ (by rw[qH];lia),if_pos (by lia),vR]
  ·rw[yi (by rw[qH];lia),if_neg (by lia),List.getElem?_drop,qH,vR]
   congr 1;lia
 refine⟨⟨⟨?_,z.kd.trans g.kd,z.fl.trans g.fl⟩,λm hm=>?_,z.pd⟩,?_⟩
 ·refine RT (Eh.mpr ?_) g.pm;show (ZR (zY st) (sa+k) r.toList.zipIdx).toList.Perm _;rw[pl];have e:(zY st).toList=(zY st).toList.take (sa+k)++(((zY st).extract (sa+k) (sa+d)).toList++((zY st).extract (sa+d) (sa+d+f)).toList)++(zY st).toList.drop (sa+k+(d - k+f)):=by
   have e1:=Yd (a:=zY st) (i:=sa+d) (k:=f);have L:=Yd (a:=zY st) (i:=sa+k) (k:=d - k);rw[show sa+k+(d - k)=sa+d by lia] at L;rw[show sa+k+(d - k+f)=sa+d+f by lia,yr,yr,<- e1,<- L,cB]
  conv=>rhs;rw[e]
  exact (H.1.append_left _).append_right _
 ·show (ZR (zY st) (sa+k) r.toList.zipIdx)[m]? = _;rw[at_,if_neg (by lia)]
 ·show Ri κ (ZR (zY st) (sa+k) r.toList.zipIdx) sa (d+l);have C:∀ i,i < k->KK κ (ZR (zY st) (sa+k) r.toList.zipIdx) (sa+i)=KK κ (zY st) (sa+i):=λi hi=>uh (by rw[at_,if_neg (by lia)]);have n:∀ i,d+f <= i->KK κ (ZR (zY st) (sa+k) r.toList.zipIdx) (sa+i)=KK κ (zY st) (sa+i):=λi hi=>uh (by rw[at_,if_neg (by lia)]);have u:∀ i,k <= i->i < d+f->∃ p,r[i - k]? = zA p/\KK κ (ZR (zY st) (sa+k) r.toList.zipIdx) (sa+i)=kyo κ p/\∃ m,k <= m/\m < d+f/\kyo κ p=KK κ (zY st) (sa+m):=λi hi t=>by
   obtain⟨p,e⟩:=q8 r (show i - k < r.size by lia);refine⟨p,e,q7 (by rw[at_,if_pos (by lia),show sa+i - (sa+k)=i - k by lia];exact e),?_⟩;rcases Rs.mem H e with ⟨m,v⟩ | ⟨m,v⟩
   ·obtain⟨o,B⟩:=Xg v;exact⟨k+m,by lia,by lia,by rw[<- Vm];exact (q7 B).symm⟩
   ·obtain⟨o,B⟩:=Xg v;exact⟨d+m,by lia,by lia,by rw[<- Vm];exact (q7 B).symm⟩
  have x:∀ i m,i < k->m < d+l->i <= m->κ.kle (KK κ (zY st) (sa+i)) (KK κ (zY st) (sa+m)):=λi m hi hm t=>by
   by_cases c:m < d
   ·exact N i m t c
   ·have:=U i (m - d) hi (by lia)
    rwa [show sa+d+(m - d)=sa+m by lia] at this
  have G:∀ m j,d+f <= j->j < d+l->m <= j->κ.kle (KK κ (zY st) (sa+m)) (KK κ (zY st) (sa+j)):=λm j hi hm t=>by
   by_cases c:m < d
   ·have:=Y m (j - d) c (by lia) (by lia)
    rwa [show sa+d+(j - d)=sa+j by lia] at this
   ·have:=Q (m - d) (j - d) (by lia) (by lia)
    rwa [show sa+d+(j - d)=sa+j by lia,show sa+d+(m - d)=sa+m by lia] at this
  intro i j y t;by_cases o:i < k
  ·rw[C i o];by_cases d1:j < k
   ·rw[C j d1];exact x i j o t y
   by_cases I:j < d+f
   ·obtain⟨p,_,e,m,m1,m2,v⟩:=u j (by lia) I;rw[e,v];exact x i m o (by lia) (by lia)
   ·rw[n j (by lia)];exact x i j o t y
  by_cases B:i < d+f
  ·obtain⟨p,M,e,m,m1,m2,v⟩:=u i (by lia) B;by_cases I:j < d+f
   ·obtain⟨q,J,e',_⟩:=u j (by lia) I;rw[e,e'];by_cases c:i=j
    ·subst c;rw[M] at J;cases J;exact xV _
    ·exact Rs.le H (show i - k < j - k by lia) M J
   ·rw[e,v,n j (by lia)];exact G m j (by lia) t (by lia)
  ·rw[n i (by lia),n j (by lia)];exact G i j (by lia) t y
theorem SG.has {st:zj} (h:SG zf st) (c:KeysOf κ zf) {p:zX} (d:p∈(zY st).toList):yh κ p:=c p ((Eh.mp h.pm).mem_iff.mp d)
theorem d3 {a:Array zX}{i k:Nat}{y:zX} (h:y∈(a.extract i k).toList):y∈a.toList:=by
 obtain⟨j,_,_,c,e⟩:=vr h;obtain⟨c,rfl⟩:=yq.mp e;simp
theorem Ri.join {a:Array zX}{sa:Nat} (l:Ri κ a sa e) (m:Ri κ a (sa+e) h) (f:∀ i j,i < e->j < h->κ.kle (KK κ a (sa+i)) (KK κ a (sa+e+j))):Ri κ a sa (e+h):=λi j g n=>by
 by_cases c:j < e
 ·exact l i j g c
 by_cases d:i < e
 ·have:=f i (j - e) d (by lia)
  rwa [show sa+e+(j - e)=sa+j by lia] at this
 ·have:=m (i - e) (j - e) (by lia) (by lia)
  rwa [show sa+e+(j - e)=sa+j by lia,show sa+e+(i - e)=sa+i by lia] at this
theorem Fs {st:zj}{sa k d f e:Nat}{Q:Bool->zj->Prop} (B:κ.OneLt) (C:KeysOf κ zf) (g:SG zf st) (H:sa+d+f <= zf.size) (Y:k < d) (I:e <= f) (v:Ri κ (zY st) sa d) (x:Ri κ (zY st) (sa+d) f)
  (J:∀ i j,i < k->j < f->κ.kle (KK κ (zY st) (sa+i)) (KK κ (zY st) (sa+d+j))) (G:∀ i j,i < d->e <= j->j < f->κ.kle (KK κ (zY st) (sa+i)) (KK κ (zY st) (sa+d+j)))
  (L:e≠0->κ.kle (KK κ (zY st) (sa+d)) (KK κ (zY st) (sa+k))) (M:e≠0->κ.kle (KK κ (zY st) (sa+d+(e - 1))) (KK κ (zY st) (sa+d - 1)))
  (h:∀ l,Mrg κ zf sa (d+f) st l->Q zC l):wpS (za prog w) A E s (mgE (zY st) (sa+k) (d - k) (sa+d) e) Q st:=by
 unfold mgE;by_cases c:e=0
 ·rw[if_pos (by simpa using c)];exact z1 (h _ ⟨qJ.refl g,v.join x λi j a b=>G i j a (by lia) b⟩)
 rw[if_neg (by simpa using c)];have hz:=g.sz;have s1:((zY st).extract (sa+k) (sa+d)).size=d - k:=by rw[X4];lia
 have s2:((zY st).extract (sa+d) (sa+d+e)).size=e:=by rw[X4];lia
 have mg:MG κ ((zY st).extract (sa+k) (sa+d)) ((zY st).extract (sa+d) (sa+d+e)):=by
  refine⟨λp y=>g.has C (d3 y),λp y=>g.has C (d3 y),?_,Ri.ext (by lia) (x.sub 0 e (by lia)),by lia,by lia,λp q o t=>?_,λp q o t=>?_⟩
  ·have:=Ri.ext (lo:=sa+k) (n:=d - k) (by lia) (v.sub k (d - k) (by lia))
   rwa [show sa+k+(d - k)=sa+d by lia] at this
  ·have a1:=(Xg o).2;have a2:=(Xg t).2;have:=L c;rw[ba] at a1 a2
   rwa [q7 a1,q7 a2] at this
  ·rw[s2] at o;rw[s1] at t;have a1:=(Xg o).2;have a2:=(Xg t).2;rw[show sa+k+(d - k - 1)=sa+d - 1 by lia] at a2;have:=M c
   rwa [q7 a1,q7 a2] at this
 have fin:∀ r u,j3 st u->Rs κ ((zY st).extract (sa+k) (sa+d)) ((zY st).extract (sa+d) (sa+d+e)) r->wpS (za prog w) A E s (do modify λz=>X5 z (ZR (zY z) (sa+k) r.toList.zipIdx);let z <- get;pure (Jv z).isNone) Q u:=λr u N U=>by
  refine zr (kH (zr (Qw (z1 ?_))));have m:=Hd g N H (by lia) I v x J G U;have:=h _ m;rw[show (Jv (X5 u (ZR (zY u) (sa+k) r.toList.zipIdx))).isNone=zC by rw[m.1.ok.fl];rfl];exact this
 split
 ·exact zr (Gz B g.kd mg fin)
 ·exact zr (Nz B g.kd mg fin)
theorem lx {st:zj}{sa f m:Nat}{Q:Bool->zj->Prop} (y:κ.OneLt) (o:KeysOf κ zf) (g:SG zf st) (B:sa+f+m <= zf.size) (M:1 <= f) (N:1 <= m) (u:Ri κ (zY st) sa f) (v:Ri κ (zY st) (sa+f) m)
  (h:∀ r,Mrg κ zf sa (f+m) st r->Q zC r):wpS (za prog w) A E s (mgB (zY st) sa f (sa+f) m) Q st:=by
 unfold mgB;have U:=g.sz;obtain⟨p,e⟩:=q8 (zY st) (show sa+f < (zY st).size by lia);refine zr (q9 e (zr (Xq y g.kd (λp l=>g.has o l) (JR (λp l=>g.has o l) e) (by lia) u (by lia) λk ⟨Y,C,G⟩=>?_)));have z:∀ i j,i < k->j < m->κ.kle (KK κ (zY st) (sa+i)) (KK κ (zY st) (sa+f+j)):=λi j hi H=>by
  have:=C i hi;unfold By at this;rw[if_neg (by decide),kq] at this;have a:=v 0 j (by lia) H;rw[ba,q7 e] at a;exact yv this a
 dsimp only;by_cases c:f - k=0
 ·rw[if_pos (by simpa using c)];exact z1 (h _ ⟨qJ.refl g,u.join v λi j a b=>z i j (by lia) b⟩)
 rw[if_neg (by simpa using c),show sa+k+(f - k) - 1=sa+f - 1 by lia];obtain⟨q,x⟩:=q8 (zY st) (show sa+f - 1 < (zY st).size by lia);refine zr (q9 x (zr (Xq y g.kd (λp l=>g.has o l) (JR (λp l=>g.has o l) x) (by lia) v (by lia) λt ⟨I,J,L⟩=>?_)));refine Fs y o g B (by lia) I u v z (λi j a b d=>?_) (λn=>?_) (λn=>?_) h
 ·have:=L j b d;unfold By at this;rw[if_pos rfl] at this;have a:=u i (f - 1) (by lia) (by lia);rw[show sa+(f - 1)=sa+f - 1 by lia,q7 x] at a;exact yv a this
 ·have:=G k (jB _) (by lia);unfold By at this;rw[if_neg (by decide),Eu] at this;rw[q7 e];exact QI this
 ·have:=J (t - 1) (by lia);unfold By at this;rw[if_pos rfl] at this;rw[q7 x];exact QI this
noncomputable def yE (κ:KeyKind) (xs:Array zX):List (Nat×Nat×Nat)->Nat->Nat->Prop
 | [],lo,hi=>lo=hi
 | r::t,lo,hi=>r.1=lo/\1 <= r.2.1/\Ri κ xs lo r.2.1/\yE κ xs t (lo+r.2.1) hi
theorem yE.app:∀ {a b:List (Nat×Nat×Nat)}{lo hi:Nat},yE κ xs (a++b) lo hi ↔ ∃ m,yE κ xs a lo m/\yE κ xs b m hi
 | [],b,lo,hi=>⟨λh=>⟨lo,rfl,h⟩,λ⟨m,e,h⟩=>by cases e;exact h⟩
 | r::a,b,lo,hi=>⟨λ⟨c,d,f,g⟩=>by obtain⟨m,i,j⟩:=yE.app.mp g;exact⟨m,⟨c,d,f,i⟩,j⟩,λ⟨m,⟨c,d,f,g⟩,i⟩=>⟨c,d,f,yE.app.mpr ⟨m,g,i⟩⟩⟩
theorem yE.len:∀ {a:List (Nat×Nat×Nat)}{lo hi:Nat},yE κ xs a lo hi->lo+a.length <= hi
 | [],lo,hi,h=>by cases h;exact jB _
 | r::a,lo,hi,⟨d,e,f,c⟩=>by have:=c.len;rw[qL];lia
theorem Ri.same {c:Array zX}{lo:Nat} (h:Ri κ xs lo n) (e:∀ k,lo <= k->k < lo+n->c[k]? = xs[k]?):Ri κ c lo n:=λi j a b=>by
 rw[uh (e (lo+i) (by lia) (by lia)),uh (e (lo+j) (by lia) (by lia))];exact h i j a b
theorem yE.same {c:Array zX}:∀ {a:List (Nat×Nat×Nat)}{lo hi:Nat},yE κ xs a lo hi->(∀ k,lo <= k->k < hi->c[k]? = xs[k]?)->yE κ c a lo hi
 | [],lo,hi,h,_=>h
 | r::a,lo,hi,⟨f,g,i,d⟩,e=>by
  have:=d.len;exact⟨f,g,i.same λk a b=>e k a (by lia),d.same λk a b=>e k (by lia) b⟩
theorem yE.mod {c:Nat}:∀ {a:List (Nat×Nat×Nat)}{lo hi:Nat} (k:Nat),yE κ xs a lo hi->yE κ xs (a.modify k λr=>(r.1,r.2.1,c)) lo hi
 | [],lo,hi,k,h=>by rw[List.modify_nil];exact h
 | r::a,lo,hi,0,h=>by rw[List.modify_zero_cons];exact h
 | r::a,lo,hi,k+1,⟨d,e,f,g⟩=>by rw[List.modify_succ_cons];exact⟨d,e,f,g.mod k⟩
structure PR (κ:KeyKind) (zf:Array zX) (lo:Nat) (st:zj):Prop where
 ok:SG zf st
 rn:yE κ (zY st) (jk st).toList 0 lo
theorem Us {st:zj}{i lo:Nat}{Q:Bool->zj->Prop} (C:κ.OneLt) (G:KeysOf κ zf) (H:PR κ zf lo st) (hl:lo <= zf.size) (hi:i+1 < (jk st).size)
  (h:∀ c,PR κ zf lo c->(jk c).size+1=(jk st).size->(∀ k,lo <= k->(zY c)[k]? = (zY st)[k]?)->Q zC c):wpS (za prog w) A E s (mergeAt' i) Q st:=by
 obtain⟨g,rn⟩:=H;obtain⟨⟨sa,e,o⟩,t⟩:∃ r,(jk st)[i]? = zA r:=⟨_,getElem?_pos (jk st) i (by lia)⟩
 obtain⟨⟨sb,f,I⟩,u⟩:∃ r,(jk st)[i+1]? = zA r:=⟨_,getElem?_pos (jk st) (i+1) hi⟩
 have d:(jk st).toList=(jk st).toList.take i++(sa,e,o)::(sb,f,I)::(jk st).toList.drop (i+2):=by
  obtain⟨J,M⟩:=yq.mp t;obtain⟨N,U⟩:=yq.mp u;have v:=vg (l:=(jk st).toList) (i:=i) (by rw[qH];exact J);have x:=vg (l:=(jk st).toList) (i:=i+1) (by rw[qH];exact N);rw[Yu,M] at v;rw[Yu,U] at x;rw[<- x,<- v,cB]
 generalize Y:(jk st).toList.take i=L at d;generalize hR:(jk st).toList.drop (i+2)=R at d;have p:L.length=i:=by rw[<- Y,xD,qH];lia
 rw[d] at rn;obtain⟨m,y,j,n1,z,n,n2,B,q⟩:=yE.app.mp rn;dsimp only at j n1 z n n2 B q;subst j n;have len:=q.len;refine Nx t u (lx (st:=ah st (((jk st).setIfInBounds i (sa,e+f,o)).eraseIdxIfInBounds (i+1))) C G ⟨g.pm,g.kd,g.fl⟩ (by lia) n1 n2 z B λc ⟨kp,ri⟩=>?_);have pl:(jk c).toList=L++(sa,e+f,o)::R:=by
  rw[kp.pd];show (((jk st).setIfInBounds i (sa,e+f,o)).eraseIdxIfInBounds (i+1)).toList=_;rw[Array.toList_eraseIdxIfInBounds,Hg,d];subst p;rw[Al _ _ (jB _),List.eraseIdx_append_of_length_le (by lia),Nat.sub_self,c7];rfl
 have ll:=y.len;refine h c ⟨kp.ok,?_⟩ ?_ λk hk=>kp.out k (.inr (by lia))
 ·rw[pl];exact yE.app.mpr ⟨sa,y.same λk _ b=>kp.out k (.inl b),rfl,by show 1 <= e+f;lia,ri,by rw[<- Vm];exact q.same λk a _=>kp.out k (.inr (by lia))⟩
 ·rw[<- qH,<- qH,pl,d];simp;lia
theorem PR.push {lo n:Nat}{st:zj} (h:PR κ zf lo st) (c:1 <= n) (r:Ri κ (zY st) lo n):PR κ zf (lo+n) (ah st ((jk st).push (lo,n,0))) :=
 ⟨⟨h.ok.pm,h.ok.kd,h.ok.fl⟩,by
  show yE κ (zY st) ((jk st).push (lo,n,0)).toList 0 (lo+n);rw[YS];exact yE.app.mpr ⟨lo,h.rn,rfl,c,r,rfl⟩⟩
theorem PR.modi {lo k c:Nat}{st:zj} (h:PR κ zf lo st):PR κ zf lo (ah st ((jk st).modify k λ(a,b,_)=>(a,b,c))) :=
 ⟨⟨h.ok.pm,h.ok.kd,h.ok.fl⟩,by
  show yE κ (zY st) ((jk st).modify k λ(a,b,_)=>(a,b,c)).toList 0 lo;rw[Array.toList_modify];exact h.rn.mod k⟩
theorem ID {st:zj}{Q:Unit->zj->Prop} (H:κ.OneLt) (J:KeysOf κ zf) (L:SBase zf st) (h2:2 <= zf.size)
  (h:∀ v,(zY v).Perm zf->Jv v=zB->cx κ (zY v) zf.size->Q () v):wpS (za prog w) A E s sortRuns' Q st:=by
 rw[sortRuns'_eq];refine zr (Qw ?_);dsimp only;simp only[L.size];refine zr (yo (ZA (I:=λx c u=>∃ lo,c=(zB,lo)/\x <= lo/\lo <= zf.size/\PR κ zf lo u) (Q:=λc u=>c=(zB,zf.size)/\PR κ zf zf.size u)
  (λx c u _ hx ⟨lo,g,h1,h2,l⟩=>?step) (λc u ⟨lo,g,h1,h2,l⟩=>?fin) ⟨0,rfl,jB _,XF _,⟨L.perm,L.kind,L.failed⟩,by rw[L.pend];rfl⟩) λc u ⟨g,l⟩=>?post)
 case fin =>
  obtain rfl:lo=zf.size:=by lia
  exact⟨g,l⟩
 case step =>
  subst g;dsimp only;by_cases c:lo ≥ zf.size
  ·rw[if_pos c];obtain rfl:lo=zf.size:=by lia
   exact z1 ⟨rfl,l⟩
  rw[if_neg c];refine zr (mz H J (by lia) (by lia) l.ok λm z kp m1 m2 G=>?_);have o:PR κ zf lo z:=⟨kp.ok,by rw[kp.pd];exact l.rn.same λk _ b=>kp.out k (.inl b)⟩
  dsimp only;by_cases d:m < W3 zf.size zf.size 0
  ·rw[if_pos d];refine zr (Ke (Xr ⟨rfl,?_⟩));refine zr (mw H J (by lia) (by lia) kp.ok G λz C N=>?_);simp only[J0,qj,if_false];have o:PR κ zf lo z:=⟨C.ok,by rw[C.pd];exact o.rn.same λk _ b=>C.out k (.inl b)⟩
   have p:1 <= min (zf.size - lo) (W3 zf.size zf.size 0):=by lia
   have q:lo+min (zf.size - lo) (W3 zf.size zf.size 0) <= zf.size:=by lia
   generalize min (zf.size - lo) (W3 zf.size zf.size 0)=n at *;have G:=N;refine zr (Qw ?_);rcases hb:(jk z).back? with _ | ⟨s1,n1,q1⟩
   ·dsimp only;exact zr (kH (z1 ⟨_,rfl,by lia,q,o.push p G⟩))
   ·dsimp only;refine zr (yo (ZA (I:=λ_ c u=>c=(zB,())/\PR κ zf lo u/\Ri κ (zY u) lo n) (Q:=λc u=>c=(zB,())/\PR κ zf lo u/\Ri κ (zY u) lo n)
     (λy c u _ hy ⟨g,e,f⟩=>?st2) (λc u U=>U) ⟨rfl,o,G⟩) λc u ⟨g,e,f⟩=>?po2)
    case st2 =>
     subst g;refine zr (Qw ?_);by_cases B:(jk u).size > 1
     ·rw[if_pos B];rcases hq:(jk u)[(jk u).size - 2]? with _ | ⟨s2,n2,q2⟩
      ·exact z1 ⟨rfl,e,f⟩
      ·dsimp only;split
       ·exact z1 ⟨rfl,e,f⟩
       ·refine zr (Us H J e (by lia) (by lia) λz t _ o4=>?_);simp only[J0,qj,if_false];exact z1 ⟨rfl,t,f.same λk a _=>o4 k a⟩
     ·rw[if_neg B];exact z1 ⟨rfl,e,f⟩
    case po2 =>
     subst g;exact zr (kH (zr (kH (z1 ⟨_,rfl,by lia,q,e.modi.push p f⟩))))
  ·rw[if_neg d];have q:lo+m <= zf.size:=by lia
   have p:=m1;generalize m=n at *;refine zr (Qw ?_);rcases hb:(jk z).back? with _ | ⟨s1,n1,q1⟩
   ·dsimp only;exact zr (kH (z1 ⟨_,rfl,by lia,q,o.push p G⟩))
   ·dsimp only;refine zr (yo (ZA (I:=λ_ c u=>c=(zB,())/\PR κ zf lo u/\Ri κ (zY u) lo n) (Q:=λc u=>c=(zB,())/\PR κ zf lo u/\Ri κ (zY u) lo n)
     (λy c u _ hy ⟨g,e,f⟩=>?st2) (λc u U=>U) ⟨rfl,o,G⟩) λc u ⟨g,e,f⟩=>?po2)
    case st2 =>
     subst g;refine zr (Qw ?_);by_cases B:(jk u).size > 1
     ·rw[if_pos B];rcases hq:(jk u)[(jk u).size - 2]? with _ | ⟨s2,n2,q2⟩
      ·exact z1 ⟨rfl,e,f⟩
      ·dsimp only;split
       ·exact z1 ⟨rfl,e,f⟩
       ·refine zr (Us H J e (by lia) (by lia) λz t _ o4=>?_);simp only[J0,qj,if_false];exact z1 ⟨rfl,t,f.same λk a _=>o4 k a⟩
     ·rw[if_neg B];exact z1 ⟨rfl,e,f⟩
    case po2 =>
     subst g;exact zr (kH (zr (kH (z1 ⟨_,rfl,by lia,q,e.modi.push p f⟩))))
 case post =>
  subst g;dsimp only;have pl:=l.rn.len;rw[Qs,qH] at pl;refine zr (yo (ZA (I:=λk c u=>c=(zB,())/\PR κ zf zf.size u/\(jk u).size <= max 1 (zf.size - k)) (Q:=λc u=>c=(zB,())/\PR κ zf zf.size u/\(jk u).size <= 1)
   (λk c u _ hk ⟨g,l,M⟩=>?st3) (λc u ⟨g,l,M⟩=>⟨g,l,by lia⟩) ⟨rfl,l,by lia⟩) λc u ⟨g,l,M⟩=>?po3)
  case st3 =>
   subst g;refine zr (Qw ?_);by_cases B:(jk u).size <= 1
   ·rw[if_pos B];exact z1 ⟨rfl,l,B⟩
   rw[if_neg B];split
   all_goals
    refine zr (Us H J l (jB _) (by split<;>lia) λz t e4 _=>?_);simp only[J0,qj,if_false];exact z1 ⟨rfl,t,by lia⟩
  case po3 =>
   subst g;refine z1 (h u l.ok.pm l.ok.fl ?_);have rn:=l.rn
   match hp:(jk u).toList,rn with
   | [],rn=>have:0=zf.size:=rn;lia
   | [r],⟨r1,r2,r3,r4⟩ =>
    have:0+r.2.1=zf.size:=r4;intro i j Y hj;have:=r3 i j Y (by lia)
    rwa [Qs,Qs] at this
   | _::_::_,_=>rw[<- qH,hp] at M;simp at M
theorem gz {a:zN}{vs:List zO}{n:Nat}{P:Fin->zU->Prop} (p:κ.OneLt) (d:s.heap.get? a=zA (Qc "list" vs.toArray n)) (q:KeysOf κ (Xe vs))
  (g:∀ x y r,vs=x::y::r->keyKind' (x::y::r).toArray=pure qm) (H:vs.length <= 16777216)
  (h:∀ u:zj,(zY u).Perm (Xe vs)->cx κ (zY u) (Xe vs).size->P (.done (.ret .none)) { s with heap:=sortedHeap s.heap a vs ((zY u).map (·.2)) }) :
  zc (za prog w) A (Builtin.«list.sort» ⟨[.ref a],[]⟩) P E s:=by
 rw[list_sort_plain];have m:a < s.heap.objs.size:=jM d;refine zw (listItems_at d rfl (zw (EW d rfl ?_)));obtain⟨l,o1⟩:∃ l,(s.heap.update a (kT λ_=>#[])).get? a=zA (Qc "list" #[] l):=⟨_,get?_update_seq d (λ_=>#[])⟩
 refine zw (Dd o1 rfl (zw (wpAny_newTuple (zw (wpAny_newList (QV ?_))))));have f:(((s.heap.update a (kT λ_=>#[])).push (Qc "tuple" vs.toArray 0)).push (Qc "list" #[] 0)).get? a=zA (Qc "list" #[] l):=by
  rw[OO _ _ _ (by rw[size_push',Mt];exact je (WN m)),OO _ _ _ (by rw[Mt];exact je m)];exact o1
 show zc (za prog w) A _ P E { s with heap:=((s.heap.update a (kT λ_=>#[])).push (Qc "tuple" vs.toArray 0)).push (Qc "list" #[] 0) };dsimp only;have t:vs.toArray.size=vs.length:=by simp
 by_cases c:vs.toArray.size < 2
 ·rw[if_pos c,if_pos c];refine zw (jx ?_);rw[StateT.run_pure];refine zw (jx ?_);dsimp only;refine zw (Dd f rfl (zw (EW f rfl ?_ (hsz2:=by rw[iQ];show (Xe vs).size <= _;rw[AF,Zc];lia))));simp only[bne_self_eq_false,qj,if_false];refine jx (h (eB general' (vs.toArray.zip vs.toArray) #[] 7 zB) (pV _) λi j v z=>?_);rw[AF] at z;obtain rfl:i=j:=by lia
  exact xV _
 ·rw[if_neg c,if_neg c]
  match vs,t,c with
  | [],_,c=>simp at c
  | [_],_,c=>simp at c
  | x::y::r,_,_ =>
  rw[g _ _ _ rfl];refine zw (jx (zw (ZD (ID p (zf:=Xe (x::y::r)) (st:=eB qm ((x::y::r).toArray.zip (x::y::r).toArray) #[] 7 zB)
   (Q:=λ_ u=>(zY u).Perm (Xe (x::y::r))/\Jv u=zB/\cx κ (zY u) (Xe (x::y::r)).size) q ⟨pV _,rfl,rfl,rfl⟩ (by rw[AF];simp) λu a1 a2 B=>⟨a1,a2,B⟩) ?_ λ_ _ e=>e)))
  rintro ⟨⟨⟩,u⟩ _ ⟨rfl,o,C,G⟩
  dsimp only;refine zw (Dd f rfl (zw (EW f rfl ?_ (hsz2:=qe (Kk ((iQ ..).trans (o.size_eq.trans (AF _)))) (by rw[Zc];lia)))));rw[C];simp only[bne_self_eq_false,qj,if_false];exact jx (h u o G)
end TS
namespace M
abbrev T:=List Nat
inductive Kd where
 | str | int | bool | list | tuple | dict
 deriving DecidableEq
inductive D where
 | non | bl (b:Bool) | int (i:Int) | str (x:T) | tup (ds:List D) | ro (ds:List D) | ref (i:Nat) | ty (n:Kd)
mutual
noncomputable def D.decEq:(a b:D)->Decidable (a=b)
 | .non,.non=>isTrue rfl
 | .bl a,.bl b=>if h:a=b then isTrue (by rw[h]) else isFalse (λe=>h (D.bl.inj e))
 | .int a,.int b=>if h:a=b then isTrue (by rw[h]) else isFalse (λe=>h (D.int.inj e))
 | .str a,.str b=>if h:a=b then isTrue (by rw[h]) else isFalse (λe=>h (D.str.inj e))
 | .ref a,.ref b=>if h:a=b then isTrue (by rw[h]) else isFalse (λe=>h (D.ref.inj e))
 | .ty a,.ty b=>if h:a=b then isTrue (by rw[h]) else isFalse (λe=>h (D.ty.inj e))
 | .tup a,.tup b=>match D.decEqs a b with
  | isTrue h=>isTrue (by rw[h])
  | isFalse h=>isFalse (λe=>h (D.tup.inj e))
 | .ro a,.ro b=>match D.decEqs a b with
  | isTrue h=>isTrue (by rw[h])
  | isFalse h=>isFalse (λe=>h (D.ro.inj e))
 | .non,.bl _ | .non,.int _ | .non,.str _ | .non,.tup _ | .non,.ro _ | .non,.ref _ | .non,.ty _=>isFalse (λe=>nomatch e)
 | .bl _,.non | .bl _,.int _ | .bl _,.str _ | .bl _,.tup _ | .bl _,.ro _ | .bl _,.ref _ | .bl _,.ty _=>isFalse (λe=>nomatch e)
 | .int _,.non | .int _,.bl _ | .int _,.str _ | .int _,.tup _ | .int _,.ro _ | .int _,.ref _ | .int _,.ty _=>isFalse (λe=>nomatch e)
 | .str _,.non | .str _,.bl _ | .str _,.int _ | .str _,.tup _ | .str _,.ro _ | .str _,.ref _ | .str _,.ty _=>isFalse (λe=>nomatch e)
 | .tup _,.non | .tup _,.bl _ | .tup _,.int _ | .tup _,.str _ | .tup _,.ro _ | .tup _,.ref _ | .tup _,.ty _=>isFalse (λe=>nomatch e)
 | .ro _,.non | .ro _,.bl _ | .ro _,.int _ | .ro _,.str _ | .ro _,.tup _ | .ro _,.ref _ | .ro _,.ty _=>isFalse (λe=>nomatch e)
 | .ref _,.non | .ref _,.bl _ | .ref _,.int _ | .ref _,.str _ | .ref _,.tup _ | .ref _,.ro _ | .ref _,.ty _=>isFalse (λe=>nomatch e)
 | .ty _,.non | .ty _,.bl _ | .ty _,.int _ | .ty _,.str _ | .ty _,.tup _ | .ty _,.ro _ | .ty _,.ref _=>isFalse (λe=>nomatch e)
noncomputable def D.decEqs:(a b:List D)->Decidable (a=b)
 | [],[]=>isTrue rfl
 | [],_::_=>isFalse (λe=>nomatch e)
 | _::_,[]=>isFalse (λe=>nomatch e)
 | a::r,b::t=>match D.decEq a b,D.decEqs r t with
  | isTrue h,isTrue k=>isTrue (by rw[h,k])
  | isFalse h,_=>isFalse (λe=>h (MU e).1)
  | _,isFalse k=>isFalse (λe=>k (MU e).2)
end
instance:DecidableEq D:=D.decEq
inductive O where
 | lst (xs:List D) | dct (kvs:List (D×D)) | fdc (kvs:List (D×D)) | dtt (kvs:List (D×D)) | ftt (kvs:List (D×D)) | ins (c:Nat) (fs:List (Option D))
 deriving DecidableEq
abbrev S:=List O
abbrev St:=List (Option D)
inductive R (α:Type) where
 | ok (a:α) (s:S) | exc (e:D) (s:S) | no
noncomputable def R.bind {c d:Type}:R c->(c->S->R d)->R d
 | .ok a s,f=>f a s
 | .exc e s,_=>.exc e s
 | .no,_=>.no
@[simp] theorem ji {c d:Type} (a:c) (s:S) (f:c->S->R d):(R.ok a s).bind f=f a s:=rfl
@[simp] theorem rl {c d:Type} (f:c->S->R d):(R.no:R c).bind f=.no:=rfl
@[simp] theorem my {c d:Type} (e:D) (s:S) (f:c->S->R d):(R.exc e s:R c).bind f=.exc e s:=rfl
section
variable {α β:Type}{c:Prop} [Decidable c]
@[simp] theorem RL (a b:R α) (f:α->S->R β):(if c then a else b).bind f=if c then a.bind f else b.bind f:=by split<;>rfl
@[simp] theorem rD (a b:α) (s:S):(if c then R.ok a s else R.ok b s)=R.ok (if c then a else b) s:=by split<;>rfl
@[simp] theorem D.ite_bl (a b:Bool):(if c then D.bl a else D.bl b)=D.bl (if c then a else b):=by split<;>rfl
@[simp] theorem D.ite_int (a b:Int):(if c then D.int a else D.int b)=D.int (if c then a else b):=by split<;>rfl
@[simp] theorem D.ite_str (a b:T):(if c then D.str a else D.str b)=D.str (if c then a else b):=by split<;>rfl
@[simp] theorem D.ite_tup (a b:List D):(if c then D.tup a else D.tup b)=D.tup (if c then a else b):=by split<;>rfl
@[simp] theorem St.ite_some (a b:D):(if c then zA a else zA b)=zA (if c then a else b):=by split<;>rfl
@[simp] theorem St.ite_cons (a b:Option D) (r t:St):(if c then a::r else b::t)=(if c then a else b)::(if c then r else t):=by split<;>rfl
end
abbrev EM:=St->S->R D
abbrev TM:=St->S->R Bool
abbrev AM:=St->S->R (List D)
noncomputable def SZ:Nat:=16777216
theorem kB {a:Nat} (h:a <= 16777216):(a <= SZ)=True:=eq_true h
theorem gd {a:Nat} (h:a < 16777216):(a < SZ)=True:=eq_true h
@[simp] noncomputable def zD (i:Nat):EM:=λσ s=>match σ[i]? with
 | some (zA d)=>.ok d s
 | _=>.no
@[simp] noncomputable def eC (d:D):EM:=λ_ s=>.ok d s
@[simp] def eOp (f:D->D->S->R D) (a b:EM):EM:=λσ s=>(a σ s).bind λx s=>(b σ s).bind λy s=>f x y s
@[simp] def eUn (f:D->S->R D) (a:EM):EM:=λσ s=>(a σ s).bind λx s=>f x s
@[simp] noncomputable def zS:AM:=λ_ s=>.ok [] s
@[simp] def zQ (a:EM) (r:AM):AM:=λσ s=>(a σ s).bind λx s=>(r σ s).bind λxs s=>.ok (x::xs) s
@[simp] def jq (a:AM):EM:=λσ s=>(a σ s).bind λxs s=>if xs.length <= SZ then .ok (.tup xs) s else .no
@[simp] noncomputable def alloc (o:O) (s:S):R D:=.ok (.ref s.length) (s++[o])
@[simp] def Zi (a:AM):EM:=λσ s=>(a σ s).bind λxs s=>if xs.length <= SZ then alloc (.lst xs) s else .no
@[simp] noncomputable def qf (s:S) (i:Nat):Option (List D):=match s[i]? with
 | some (.lst xs)=>zA xs
 | _=>zB
@[simp] def yb:D->D->S->R D
 | .int i,.int j,s=>.ok (.int (i+j)) s
 | .str a,.str b,s=>if a.length+b.length <= SZ then .ok (.str (a++b)) s else .no
 | .tup a,.tup b,s=>if a≠[]/\a.length+b.length <= SZ then .ok (.tup (a++b)) s else .no
 | .ref i,.ref j,s=>match s[i]?,s[j]? with
  | some (.lst xs),zA (.lst c)=>if xs.length+c.length <= SZ then alloc (.lst (xs++c)) s else .no
  | _,_=>.no
 | _,_,_=>.no
noncomputable def Qr (i:Int):Bool:=decide (i.natAbs < 18446744073709551616)
@[simp] def Q1:D->D->S->R D
 | .int i,.int j,s=>if Qr i || Qr j then .ok (.int (i * j)) s else .no
 | .str a,.int n,s=>if 0 <= n/\n.natAbs <= 1000000/\a.length * n.natAbs <= 1000000 then .ok (.str (zm n.toNat a).flatten) s else .no
 | .ref p,.int n,s=>match qf s p with
  | some xs=>if n.natAbs <= 1000/\xs.length * n.natAbs <= 1000000 then alloc (.lst (zm n.toNat xs).flatten) s else .no
  | none=>.no
 | _,_,_=>.no
@[simp] noncomputable def y7:D->D->S->R D
 | .int i,.int j,s=>if 0 < j/\j.natAbs < 1073741824 then .ok (.int (i / j)) s else .no
 | _,_,_=>.no
@[simp] noncomputable def qa:D->D->S->R D
 | .int i,.int j,s=>if 0 < j then .ok (.int (i % j)) s else .no
 | _,_,_=>.no
@[simp] noncomputable def dZ:D->S->R D
 | .int i,s=>.ok (.int (-i)) s
 | _,_=>.no
abbrev CM:=D->D->S->R Bool
@[simp] noncomputable def cLt:CM
 | .int i,.int j,s=>.ok (decide (i < j)) s
 | .str a,.str b,s=>.ok (decide (a < b)) s
 | _,_,_=>.no
@[simp] noncomputable def cLe:CM
 | .int i,.int j,s=>.ok (decide (i <= j)) s
 | .str a,.str b,s=>.ok (!decide (b < a)) s
 | _,_,_=>.no
@[simp] noncomputable def cGt:CM
 | .int i,.int j,s=>.ok (decide (j < i)) s
 | _,_,_=>.no
inductive P where
 | non | bl (b:Bool) | int (i:Int) | str (x:T) | tup (ps:List P) | lst (ps:List P)
mutual
noncomputable def P.eqv:P->P->Bool
 | .non,.non=>zC
 | .bl a,.bl b=>a == b
 | .int a,.int b=>a == b
 | .bl a,.int b=>(if a then 1 else 0) == b
 | .int a,.bl b=>a == (if b then 1 else 0)
 | .str a,.str b=>a == b
 | .tup a,.tup b=>P.eqvs a b
 | .lst a,.lst b=>P.eqvs a b
 | _,_=>zP
noncomputable def P.eqvs:List P->List P->Bool
 | [],[]=>zC
 | a::r,b::t=>P.eqv a b && P.eqvs r t
 | _,_=>zP
end
mutual
noncomputable def P.dep:P->Nat
 | .tup ps=>P.deps ps+1
 | .lst ps=>P.deps ps+1
 | _=>0
noncomputable def P.deps:List P->Nat
 | []=>0
 | p::ps=>max (P.dep p) (P.deps ps)
end
noncomputable def qI (g:Nat->Option P):D->Option P
 | .non=>zA .non
 | .bl b=>zA (.bl b)
 | .int i=>zA (.int i)
 | .str x=>zA (.str x)
 | .tup ds=>(all ds).map .tup
 | .ro ds=>(all ds).map .lst
 | .ref i=>g i
 | .ty _=>zB
where all:List D->Option (List P)
 | []=>zA []
 | d::ds=>match qI g d,all ds with
  | some p,zA ps=>zA (p::ps)
  | _,_=>zB
def toP:Nat->S->D->Option P
 | 0,_=>qI λ_=>zB
 | n+1,s=>qI λi=>match qf s i with
  | some xs=>(qI.all (λj=>toP n s (.ref j)) xs).map .lst
  | none=>zB
noncomputable def ZP:Nat:=9
noncomputable def jJ (k:D) (kvs:List (D×D)):Option D:=kvs.lookup k
def dEq (s:S) (c:List (D×D)):List (D×D)->Option Bool
 | []=>zA zC
 | (k,v)::r=>match jJ k c with
  | none=>zA zP
  | some w=>match toP 8 s v,toP 8 s w,dEq s c r with
   | some p,zA q,zA b=>if P.dep p <= 64/\P.dep q <= 64 then zA (P.eqv p q && b) else zB
   | _,_,_=>zB
def vT (x y:D) (s:S):R Bool:=match x,y with
 | .ref i,.ref j=>match s[i]?,s[j]? with
  | some (.dct ks),zA (.dct c)=>if ks.length=c.length then (match dEq s c ks with | some b=>.ok b s | none=>.no) else .ok zP s
  | _,_=>.no
 | _,_=>.no
@[simp] def eqD (x y:D) (s:S):R Bool:=match x,y with
 | .str a,.str b=>.ok (decide (a=b)) s
 | .int a,.int b=>.ok (decide (a=b)) s
 | .bl a,.bl b=>.ok (decide (a=b)) s
 | .non,.non=>.ok zC s
 | x,y=>match toP ZP s x,toP ZP s y with
  | some p,zA q=>if P.dep p <= 64/\P.dep q <= 64 then .ok (P.eqv p q) s else .no
  | _,_=>vT x y s
@[simp] def cEq:CM:=λx y s=>eqD x y s
@[simp] def cNe:CM:=λx y s=>(eqD x y s).bind λb s=>.ok (!b) s
noncomputable def Z7 (a:T):T->Bool
 | []=>a.isEmpty
 | c::r=>a.isPrefixOf (c::r) || Z7 a r
noncomputable def flat:D->Bool
 | .non=>zC
 | .bl _=>zC
 | .int _=>zC
 | .str _=>zC
 | _=>zP
noncomputable def eqF:D->D->Bool
 | .non,.non=>zC
 | .bl a,.bl b=>a == b
 | .int a,.int b=>a == b
 | .bl a,.int b=>(if a then 1 else 0) == b
 | .int a,.bl b=>a == (if b then 1 else 0)
 | .str a,.str b=>a == b
 | _,_=>zP
def JD (x:D) (xs:List D):Bool:=xs.any λy=>eqF y x
noncomputable def jn:D->Bool
 | .int _=>zC
 | .str _=>zC
 | _=>zP
@[simp] def inD (x y:D) (s:S):R Bool:=match y with
 | .str b=>match x with
  | .str a=>.ok (Z7 a b) s
  | _=>.no
 | .tup c=>if flat x && c.all flat then .ok (JD x c) s else .no
 | .ro c=>if flat x && c.all flat then .ok (JD x c) s else .no
 | .ref i=>match s[i]? with
  | some (.lst c)=>if flat x && c.all flat then .ok (JD x c) s else .no
  | some (.dct kvs)=>if jn x then .ok (jJ x kvs).isSome s else .no
  | some (.fdc kvs)=>if jn x then .ok (jJ x kvs).isSome s else .no
  | _=>.no
 | _=>.no
@[simp] def cIn:CM:=λx y s=>inD x y s
@[simp] def QH:CM:=λx y s=>(inD x y s).bind λb s=>.ok (!b) s
@[simp] def Zv (c:CM) (a b:EM):EM:=λσ s=>(a σ s).bind λx s=>(b σ s).bind λy s=>(c x y s).bind λk s=>.ok (.bl k) s
@[simp] def jh (c:CM) (a b:EM):TM:=λσ s=>(a σ s).bind λx s=>(b σ s).bind λy s=>c x y s
@[simp] def Va (c d:CM) (a b e:EM):EM:=λσ s=>(a σ s).bind λx s=>(b σ s).bind λy s=>(c x y s).bind λk s =>
 if k then (e σ s).bind λz s=>(d y z s).bind λk s=>.ok (.bl k) s else .ok (.bl zP) s
@[simp] def Ku (c d:CM) (a b e:EM):TM:=λσ s=>(a σ s).bind λx s=>(b σ s).bind λy s=>(c x y s).bind λk s =>
 if k then (e σ s).bind λz s=>d y z s else .ok zP s
@[simp] noncomputable def uo:D->Bool
 | .non=>zC
 | _=>zP
@[simp] def UN (a:EM):EM:=λσ s=>(a σ s).bind λx s=>.ok (.bl (uo x)) s
@[simp] def xr (a:EM):TM:=λσ s=>(a σ s).bind λx s=>.ok (uo x) s
@[simp] def x9 (a:EM):TM:=λσ s=>(a σ s).bind λx s=>.ok (!uo x) s
@[simp] def Zh:D->S->R Bool
 | .non,s=>.ok zP s
 | .bl b,s=>.ok b s
 | .int i,s=>.ok (decide (i≠0)) s
 | .str x,s=>if x.length <= SZ then .ok (!x.isEmpty) s else .no
 | .tup ds,s=>.ok (!ds.isEmpty) s
 | .ro ds,s=>.ok (!ds.isEmpty) s
 | .ref i,s=>match s[i]? with
  | some (.lst xs)=>.ok (!xs.isEmpty) s
  | some (.dct kvs)=>.ok (!kvs.isEmpty) s
  | _=>.no
 | .ty _,_=>.no
@[simp] def yF (a:EM):TM:=λσ s=>(a σ s).bind Zh
@[simp] def q0 (a:TM):TM:=λσ s=>(a σ s).bind λb s=>.ok (!b) s
@[simp] def tOr (a b:TM):TM:=λσ s=>(a σ s).bind λk s=>if k then .ok zC s else b σ s
@[simp] noncomputable def asB:D->S->R Bool
 | .bl b,s=>.ok b s
 | _,_=>.no
@[simp] def Q3 (a b:EM):EM:=λσ s=>(a σ s).bind λx s=>(asB x s).bind λk s=>if k then b σ s else .ok (.bl zP) s
@[simp] def eOr (a b:EM):EM:=λσ s=>(a σ s).bind λx s=>(asB x s).bind λk s=>if k then .ok (.bl zC) s else b σ s
noncomputable def ixN (n:Nat) (i:Int):Option Nat:=if 0 <= i then (if i < n then zA i.toNat else zB) else if -(n:Int) <= i then zA (i+n).toNat else zB
def atI {c:Type} (xs:List c) (i:Int):Option c:=(ixN xs.length i).bind λj=>xs[j]?
@[simp] def jN:D->D->S->R D
 | .str x,.int i,s=>if x.length <= SZ then (match atI x i with | some c=>.ok (.str [c]) s | none=>.no) else .no
 | .tup xs,.int i,s=>match atI xs i with | some d=>.ok d s | none=>.no
 | .ro xs,.int i,s=>match atI xs i with | some d=>.ok d s | none=>.no
 | .ref p,k,s=>match s[p]? with
  | some (.lst xs)=>(match k with | .int i=>(match atI xs i with | some d=>.ok d s | none=>.no) | _=>.no)
  | some (.dct kvs)=>if jn k then (match jJ k kvs with | some d=>.ok d s | none=>.no) else .no
  | some (.fdc kvs)=>if jn k then (match jJ k kvs with | some d=>.ok d s | none=>.no) else .no
  | _=>.no
 | _,_,_=>.no
abbrev F:=List D->S->R D
@[simp] def zp (f:F) (a:AM):EM:=λσ s=>(a σ s).bind λxs s=>f xs s
@[simp] noncomputable def yj (k:Kd) (x:D) (s:S):Bool:=match x with
 | .str _=>(match k with | .str=>zC | _=>zP)
 | .ro _=>(match k with | .list=>zC | _=>zP)
 | .ref p=>match s[p]? with
  | some (.lst _)=>(match k with | .list=>zC | _=>zP)
  | some (.dct _)=>(match k with | .dict=>zC | _=>zP)
  | some (.dtt _)=>(match k with | .dict=>zC | _=>zP)
  | _=>zP
 | _=>zP
@[simp] def eM (k:Kd) (f:D->F) (o:EM) (a:AM):EM:=λσ s=>(o σ s).bind λx s=>if yj k x s then (a σ s).bind λxs s=>f x xs s else .no
@[simp] def jg (c:Nat) (f:F) (o:EM) (a:AM):EM:=λσ s=>(o σ s).bind λx s=>match x with
 | .ref p=>(match s[p]? with
  | some (.ins d _)=>if d=c then (a σ s).bind λxs s=>f (x::xs) s else .no
  | _=>.no)
 | _=>.no
@[simp] def Zx (c:Nat) (n:Nat) (f:F) (a:AM):EM:=λσ s=>(a σ s).bind λxs s=>(f (.ref s.length::xs) (s++[.ins c (zm n zB)])).bind λd s'=>if d=.non then .ok (.ref s.length) s' else .no
@[simp] def jI (c:Nat) (i:Nat) (o:EM):EM:=λσ s=>(o σ s).bind λx s=>match x with
 | .ref p=>(match s[p]? with
  | some (.ins e fs)=>if e=c then (match fs[i]? with | some (zA d)=>.ok d s | _=>.no) else .no
  | _=>.no)
 | _=>.no
@[simp] def yN:F
 | [.str x],s=>if x.length <= SZ then .ok (.int x.length) s else .no
 | [.tup xs],s=>.ok (.int xs.length) s
 | [.ro xs],s=>.ok (.int xs.length) s
 | [.ref p],s=>match s[p]? with
  | some (.lst xs)=>.ok (.int xs.length) s
  | some (.dct kvs)=>.ok (.int kvs.length) s
  | _=>.no
 | _,_=>.no
@[simp] noncomputable def JG (n:Kd) (x:D) (s:S):R Bool:=match x with
 | .non=>.ok zP s
 | .bl _=>.ok (match n with | .bool=>zC | .int=>zC | _=>zP) s
 | .int _=>.ok (match n with | .int=>zC | _=>zP) s
 | .str _=>.ok (match n with | .str=>zC | _=>zP) s
 | .tup _=>.ok (match n with | .tuple=>zC | _=>zP) s
 | .ro _=>.ok (match n with | .list=>zC | _=>zP) s
 | .ty _=>.no
 | .ref p=>match s[p]? with
  | some (.lst _)=>.ok (match n with | .list=>zC | _=>zP) s
  | some (.dct _)=>.ok (match n with | .dict=>zC | _=>zP) s
  | _=>.no
@[simp] def Qk:F
 | [x,.ty n],s=>(JG n x s).bind λb s=>.ok (.bl b) s
 | _,_=>.no
noncomputable def xF:List D->Option (List Bool)
 | []=>zA []
 | .bl b::r=>(xF r).map (b :: ·)
 | _::_=>zB
noncomputable def Qn:List D->Option (List T)
 | []=>zA []
 | .str x::r=>(Qn r).map (x :: ·)
 | _::_=>zB
def xQ (xs:List D) (s:S):R D:=match xF xs with
 | some bs=>.ok (.bl (bs.all id)) s
 | none=>.no
noncomputable def JQ (x:T):List T->T
 | []=>[]
 | [y]=>y
 | y::r=>y++x++JQ x r
def J6 (x:T) (xs:List D) (s:S):R D:=match Qn xs with
 | some c=>if (c.map List.length).sum+c.length * x.length <= SZ then .ok (.str (JQ x c)) s else .no
 | none=>.no
noncomputable def qb (c:Nat):T->List T
 | []=>[[]]
 | d::r=>if d=c then []::qb c r else match qb c r with
  | []=>[[d]]
  | p::ps=>(d::p)::ps
@[simp] def vy:D->F
 | .str x,[.str [c]],s=>if x.length+2 <= SZ then alloc (.lst ((qb c x).map .str)) s else .no
 | _,_,_=>.no
@[simp] def DZ:D->F
 | .str x,[.str [a],.str [b]],s=>if 2 * x.length+1 <= SZ then .ok (.str (x.map λc=>if c=a then b else c)) s else .no
 | _,_,_=>.no
noncomputable def y1 (c:Nat):T->T×T×T
 | []=>([],[],[])
 | d::r=>if d=c then ([],[c],r) else let p:=y1 c r;(d::p.1,p.2)
@[simp] def Yn:D->F
 | .str x,[.str [c]],s=>if x.length <= SZ then (let p:=y1 c x;.ok (.tup [.str p.1,.str p.2.1,.str p.2.2]) s) else .no
 | _,_,_=>.no
@[simp] def WK:D->F
 | .str x,[.str a],s=>if x.length <= SZ then .ok (.bl (a.isPrefixOf x)) s else .no
 | _,_,_=>.no
@[simp] def Zr:F
 | [.tup xs],s=>alloc (.lst xs) s
 | [.ro xs],s=>alloc (.lst xs) s
 | [.ref p],s=>match s[p]? with
  | some (.lst xs)=>alloc (.lst xs) s
  | some (.dct kvs)=>alloc (.lst (kvs.map (·.1))) s
  | _=>.no
 | _,_=>.no
@[simp] def w5:F
 | [.tup xs],s=>.ok (.tup xs) s
 | [.ref p],s=>match qf s p with
  | some xs=>.ok (.tup xs) s
  | none=>.no
 | _,_=>.no
@[simp] def vl:D->F
 | .ref p,[y],s=>match s[p]? with
  | some (.lst xs)=>if xs.length < SZ then .ok .non (s.set p (.lst (xs++[y]))) else .no
  | _=>.no
 | _,_,_=>.no
@[simp] noncomputable def Uj:D->F
 | .ref p,[],s=>match s[p]? with
  | some (.lst xs)=>(match xs.getLast? with | some y=>.ok y (s.set p (.lst xs.dropLast)) | none=>.no)
  | _=>.no
 | _,_,_=>.no
noncomputable def j1 (k v:D) (kvs:List (D×D)):List (D×D):=if (kvs.any λp=>decide (p.1=k))=zC then kvs.map λp=>if p.1=k then (p.1,v) else p else kvs++[(k,v)]
noncomputable def jR (k:D) (kvs:List (D×D)):List (D×D):=kvs.filter λp=>decide (p.1≠k)
def Qy:List D->Option (List (D×D))
 | []=>zA []
 | .tup [k,v]::r=>if jn k then (Qy r).map ((k,v) :: ·) else zB
 | _::_=>zB
def Qp (ps:List (D×D)):List (D×D):=ps.foldl (λa p=>j1 p.1 p.2 a) []
@[simp] def xT:F
 | [.ref p],s=>match s[p]? with
  | some (.lst xs)=>(match Qy xs with | some ps=>if ps.length <= 1000 then alloc (.dct (Qp ps)) s else .no | none=>.no)
  | _=>.no
 | _,_=>.no
@[simp] def ZO:EM:=λ_ s=>alloc (.dct []) s
@[simp] def uD:D->F
 | .ref p,[k],s=>match s[p]? with
  | some (.dct kvs)=>if jn k then .ok ((jJ k kvs).getD .non) s else .no
  | _=>.no
 | .ref p,[k,d],s=>match s[p]? with
  | some (.dct kvs)=>if jn k then .ok ((jJ k kvs).getD d) s else .no
  | _=>.no
 | _,_,_=>.no
@[simp] noncomputable def vA:F
 | [.int i,.int j],s=>.ok (.int (if j < i then j else i)) s
 | _,_=>.no
noncomputable def zt:List T->List T
 | []=>[]
 | x::r=>insT' x (zt r)
where insT' (x:T):List T->List T
 | []=>[x]
 | y::r=>if y < x then y::insT' x r else x::y::r
def VA (xs:List D) (s:S):R D:=match Qn xs with
 | some c=>if c.length <= 16777216 then alloc (.lst ((zt c).map .str)) s else .no
 | none=>.no
@[simp] def xh:F
 | [.ref p],s=>match s[p]? with
  | some (.dct kvs)=>VA (kvs.map (·.1)) s
  | _=>.no
 | _,_=>.no
@[simp] def xo:D->F
 | .ref p,[k],s=>match s[p]? with
  | some (.dct kvs)=>if jn k then (match jJ k kvs with | some v=>.ok v (s.set p (.dct (jR k kvs))) | none=>.no) else .no
  | _=>.no
 | _,_,_=>.no
abbrev Gd:=List (Nat×O)
noncomputable def z8 (g:Gd) (s:S):Bool:=g.all λp=>decide (s[p.1]? = zA p.2)
abbrev IM:=St->S->R (List D×Gd)
@[simp] def itD:D->S->R (List D×Gd)
 | .str x,s=>if x.length <= SZ then .ok (x.map λc=>.str [c],[]) s else .no
 | .tup ds,s=>.ok (ds,[]) s
 | .ro ds,s=>.ok (ds,[]) s
 | .ref i,s=>match s[i]? with
  | some (.lst xs)=>.ok (xs,[(i,.lst xs)]) s
  | _=>.no
 | _,_=>.no
@[simp] def iE (a:EM):IM:=λσ s=>(a σ s).bind itD
noncomputable def ZT (lo hi:Int):List D:=(yT (hi - lo).toNat).map λ(k:Nat)=>.int (lo+k)
@[simp] def Vw (a:EM):IM:=λσ s=>(a σ s).bind λx s=>match x with
 | .int j=>if j.natAbs < 4611686018427387904 then .ok (ZT 0 j,[]) s else .no
 | _=>.no
@[simp] def UW (a b:EM):IM:=λσ s=>(a σ s).bind λx s=>(b σ s).bind λy s=>match x,y with
 | .int i,.int j=>if i.natAbs < 4611686018427387904/\j.natAbs < 4611686018427387904 then .ok (ZT i j,[]) s else .no
 | _,_=>.no
noncomputable def ZX:Int->List D->List D
 | _,[]=>[]
 | k,d::ds=>.tup [.int k,d]::ZX (k+1) ds
@[simp] def C3 (k:Int) (a:EM):IM:=λσ s=>(a σ s).bind λx s=>match x with
 | .ro ds=>.ok (ZX k ds,[]) s
 | .ref i=>(match s[i]? with | some (.lst xs)=>.ok (ZX k xs,[(i,.lst xs)]) s | _=>.no)
 | _=>.no
abbrev GM:=D->St->Option St
@[simp] noncomputable def jL (i:Nat):GM:=λd σ=>zA (σ.set i (zA d))
abbrev GMs:=List D->St->Option St
@[simp] noncomputable def Zf:GMs:=λds σ=>match ds with | []=>zA σ | _=>zB
@[simp] noncomputable def qq (g:GM) (r:GMs):GMs:=λds σ=>match ds with
 | []=>zB
 | d::ds=>match g d σ with
  | some c=>r ds c
  | none=>zB
@[simp] noncomputable def Zo (g:GMs):GM:=λd σ=>match d with
 | .tup ds=>g ds σ
 | _=>zB
def ym (g:Gd) (f:D->S->R (Option D)):List D->S->R (List D)
 | [],s=>.ok [] s
 | x::xs,s=>(f x s).bind λo s=>if z8 g s then (ym g f xs s).bind λc s=>.ok (match o with | some y=>y::c | none=>c) s else .no
@[simp] noncomputable def qE:TM:=λ_ s=>.ok zC s
@[simp] def yL (n:Nat) (tg:GM) (c:TM) (e:EM) (σ:St):D->S->R (Option D):=λx s=>match tg x (σ++zm n zB) with
 | none=>.no
 | some f=>(c f s).bind λb s=>if b then (e f s).bind λd s=>.ok (zA d) s else .ok zB s
def yd (n:Nat) (it:IM) (tg:GM) (c:TM) (e:EM):AM:=λσ s=>(it σ s).bind λp s=>if p.1.length <= SZ/\z8 p.2 s=zC then ym p.2 (yL n tg c e σ) p.1 s else .no
@[simp] def Z6 (n:Nat) (it:IM) (tg:GM) (c:TM) (e:EM):EM:=λσ s=>(yd n it tg c e σ s).bind λd s=>alloc (.lst d) s
@[simp] def Xm (k:List D->S->R D) (n:Nat) (it:IM) (tg:GM) (c:TM) (e:EM):EM:=λσ s=>(yd n it tg c e σ s).bind k
inductive RS where
 | nx (σ:St) (s:S) | rt (d:D) (s:S) | bk (σ:St) (s:S) | ct (σ:St) (s:S) | exc (e:D) (σ:St) (s:S) | no
abbrev SM:=St->S->RS
noncomputable def R.stm {c:Type} (r:R c) (σ:St) (f:c->S->RS):RS:=match r with
 | .ok a s=>f a s
 | .exc e s=>.exc e σ s
 | .no=>.no
@[simp] theorem jy {c:Type} (a:c) (s:S) (σ:St) (f:c->S->RS):(R.ok a s).stm σ f=f a s:=rfl
@[simp] theorem r0 {c:Type} (σ:St) (f:c->S->RS):(R.no:R c).stm σ f=.no:=rfl
noncomputable def RS.then (r:RS) (f:SM):RS:=match r with
 | .nx σ s=>f σ s
 | r=>r
@[simp] theorem y2 (σ:St) (s:S) (f:SM):(RS.nx σ s).then f=f σ s:=rfl
@[simp] theorem Rp (d:D) (s:S) (f:SM):(RS.rt d s).then f=.rt d s:=rfl
@[simp] theorem RA (f:SM):RS.no.then f=.no:=rfl
@[simp] theorem RW (σ:St) (s:S) (f:SM):(RS.bk σ s).then f=.bk σ s:=rfl
section
variable {α:Type}{c:Prop} [Decidable c]
@[simp] theorem Rj (a b:R α) (σ:St) (f:α->S->RS):(if c then a else b).stm σ f=if c then a.stm σ f else b.stm σ f:=by split<;>rfl
@[simp] theorem rT (a b:St) (s:S):(if c then RS.nx a s else RS.nx b s)=RS.nx (if c then a else b) s:=by split<;>rfl
@[simp] theorem rJ (a b:D) (s:S):(if c then RS.rt a s else RS.rt b s)=RS.rt (if c then a else b) s:=by split<;>rfl
@[simp] theorem rV (a b:RS) (f:SM):(if c then a else b).then f=if c then a.then f else b.then f:=by split<;>rfl
end
@[simp] theorem r8 (e:D) (σ:St) (s:S) (f:SM):(RS.exc e σ s).then f=.exc e σ s:=rfl
@[simp] theorem RE {c:Type} (e:D) (s:S) (σ:St) (f:c->S->RS):(R.exc e s:R c).stm σ f=.exc e σ s:=rfl
@[simp] theorem rK (σ:St) (s:S) (f:SM):(RS.ct σ s).then f=.ct σ s:=rfl
@[simp] noncomputable def jT:SM:=λσ s=>.nx σ s
@[simp] noncomputable def QU:SM:=λ_ _=>.no
@[simp] def ze (a b:SM):SM:=λσ s=>(a σ s).then b
@[simp] def qQ (e:EM):SM:=λσ s=>(e σ s).stm σ λ_ s=>.nx σ s
@[simp] def z9 (e:EM):SM:=λσ s=>(e σ s).stm σ λd s=>.rt d s
@[simp] noncomputable def De:SM:=λ_ s=>.rt .non s
@[simp] noncomputable def DU:SM:=λσ s=>.ct σ s
@[simp] def jP (i:Nat) (e:EM):SM:=λσ s=>(e σ s).stm σ λd s=>.nx (σ.set i (zA d)) s
@[simp] def bG (c:Nat) (i:Nat) (x y:D) (s:S):R Unit:=match x with
 | .ref p=>(match s[p]? with
  | some (.ins d fs)=>if d=c then .ok () (s.set p (.ins c (fs.set i (zA y)))) else .no
  | _=>.no)
 | _=>.no
@[simp] def j4 (c:Nat) (i:Nat) (o e:EM):SM:=λσ s=>(e σ s).stm σ λy s=>(o σ s).stm σ λx s=>(bG c i x y s).stm σ λ_ s=>.nx σ s
@[simp] def Xi (c:Nat) (i:Nat) (x:D) (s:S):R D:=match x with
 | .ref p=>(match s[p]? with
  | some (.ins e fs)=>if e=c then (match fs[i]? with | some (zA d)=>.ok d s | _=>.no) else .no
  | _=>.no)
 | _=>.no
@[simp] def Zs (x k y:D) (s:S):R Unit:=match x with
 | .ref p=>(match s[p]? with
  | some (.lst xs)=>(match k with
   | .int i=>(match ixN xs.length i with | some j=>.ok () (s.set p (.lst (xs.set j y))) | none=>.no)
   | _=>.no)
  | some (.dct kvs)=>if jn k && decide (kvs.length < SZ) then .ok () (s.set p (.dct (j1 k y kvs))) else .no
  | _=>.no)
 | _=>.no
@[simp] def ZZ (o k e:EM):SM:=λσ s=>(e σ s).stm σ λy s=>(o σ s).stm σ λx s=>(k σ s).stm σ λk s=>(Zs x k y s).stm σ λ_ s=>.nx σ s
@[simp] def sIf (c:TM) (a b:SM):SM:=λσ s=>(c σ s).stm σ λk s=>if k then a σ s else b σ s
def qR (g:Gd) (f:D->SM):List D->SM
 | [],σ,s=>.nx σ s
 | x::xs,σ,s=>match f x σ s with
  | .nx σ s=>if z8 g s then qR g f xs σ s else .no
  | .ct σ s=>if z8 g s then qR g f xs σ s else .no
  | .bk σ s=>.nx σ s
  | r=>r
@[simp] noncomputable def yO (tg:GM) (b:SM):D->SM:=λx σ s=>match tg x σ with
 | some c=>b c s
 | none=>.no
@[simp] def QE (it:IM) (tg:GM) (b:SM):SM:=λσ s=>(it σ s).stm σ λp s=>if z8 p.2 s=zC then qR p.2 (yO tg b) p.1 σ s else .no
@[simp] def UL (i:Nat) (f t:O):RS->RS
 | .nx σ s=>if s[i]? = zA f then .nx σ (s.set i t) else .no
 | .bk σ s=>if s[i]? = zA f then .bk σ (s.set i t) else .no
 | .ct σ s=>if s[i]? = zA f then .ct σ (s.set i t) else .no
 | .rt d s=>if s[i]? = zA f then .rt d (s.set i t) else .no
 | _=>.no
@[simp] def thaw (i:Nat) (kvs:List (D×D)) (r:RS):RS:=UL i (.fdc kvs) (.dct kvs) r
@[simp] def UM (m:EM) (tg:GM) (b:SM):SM:=λσ s=>(m σ s).stm σ λx s=>match x with
 | .ref i=>(match s[i]? with
  | some (.dct kvs)=>thaw i kvs (qR [] (yO tg b) (kvs.map (·.1)) σ (s.set i (.fdc kvs)))
  | _=>.no)
 | _=>.no
def ZG:Nat->TM->SM->SM
 | 0,_,_,_,_=>.no
 | n+1,c,b,σ,s=>(c σ s).stm σ λk s=>if k then (match b σ s with
  | .nx σ s=>ZG n c b σ s
  | .ct σ s=>ZG n c b σ s
  | .bk σ s=>.nx σ s
  | r=>r) else .nx σ s
noncomputable def Dz:Nat:=1000000000000
@[simp] def Xy (c:TM) (b:SM):SM:=λσ s=>ZG Dz c b σ s
noncomputable def RS.out (r:RS):R D:=match r with
 | .rt d s=>.ok d s
 | .nx _ s=>.ok .non s
 | .exc e _ s=>.exc e s
 | _=>.no
@[simp] theorem xW (d:D) (s:S):(RS.rt d s).out=.ok d s:=rfl
@[simp] theorem Rg (σ:St) (s:S):(RS.nx σ s).out=.ok .non s:=rfl
@[simp] theorem Rh:RS.no.out=.no:=rfl
@[simp] theorem rP (e:D) (σ:St) (s:S):(RS.exc e σ s).out=.exc e s:=rfl
@[simp] theorem RB [Decidable c] (a b:RS):(if c then a else b).out=if c then a.out else b.out:=by split<;>rfl
@[simp] def fn (n:Nat) (b:SM):F:=λxs s=>(b (xs.map zA++zm (n - xs.length) zB) s).out
noncomputable def D.cl (n:Nat):D->Bool
 | .ref i=>decide (i < n)
 | .tup ds=>all ds
 | .ro ds=>all ds
 | _=>zC
where all:List D->Bool
 | []=>zC
 | d::ds=>D.cl n d && all ds
noncomputable def kyD:Nat->D->Bool
 | _,.non=>zC
 | _,.int _=>zC
 | _,.str _=>zC
 | n+1,.tup ds=>ds.all (kyD n)
 | _,_=>zP
def O.cl (n:Nat):O->Bool
 | .lst xs=>D.cl.all n xs
 | .dct kvs=>kvs.all λp=>D.cl n p.1 && D.cl n p.2
 | .fdc kvs=>kvs.all λp=>D.cl n p.1 && D.cl n p.2
 | .dtt kvs=>kvs.all λp=>D.cl n p.1 && D.cl n p.2
 | .ftt kvs=>kvs.all λp=>D.cl n p.1 && D.cl n p.2
 | .ins _ fs=>fs.all λo=>match o with | some d=>D.cl n d | none=>zC
def clS (n:Nat) (s:S):Bool:=s.all (O.cl n)
noncomputable def D.ren (e:List Nat):D->D
 | .ref i=>.ref (e.getD i i)
 | .tup ds=>.tup (all ds)
 | .ro ds=>.ro (all ds)
 | d=>d
where all:List D->List D
 | []=>[]
 | d::ds=>D.ren e d::all ds
def O.ren (e:List Nat):O->O
 | .lst xs=>.lst (D.ren.all e xs)
 | .dct kvs=>.dct (kvs.map λp=>(D.ren e p.1,D.ren e p.2))
 | .fdc kvs=>.fdc (kvs.map λp=>(D.ren e p.1,D.ren e p.2))
 | .dtt kvs=>.dtt (kvs.map λp=>(D.ren e p.1,D.ren e p.2))
 | .ftt kvs=>.ftt (kvs.map λp=>(D.ren e p.1,D.ren e p.2))
 | .ins c fs=>.ins c (fs.map (Option.map (D.ren e)))
end M
namespace M
structure Emb (n:Nat) (e:List Nat) (S' S1:S):Prop where
 len:e.length=S'.length
 nd:e.Nodup
 le:n <= S'.length
 old:∀ i,i < n->e[i]? = zA i
 obj:∀ (i:Nat) o,S'[i]? = zA o->∃ j,e[i]? = zA j/\S1[j]? = zA (O.ren e o)/\O.cl S'.length o=zC
def jl (n:Nat) (f q:F):Prop:=∀ ds S,ds.length=n->clS S.length S=zC->D.cl.all S.length ds=zC ->
 q ds S=.no\/∃ d c g e,q ds S=.ok d c/\f ds S=.ok (D.ren e d) g/\Emb S.length e c g/\D.cl c.length d=zC
section
variable {e:List Nat}
mutual
theorem D.ren_id (h:∀ i,e.getD i i=i):∀ d:D,D.ren e d=d
 | .non=>rfl
 | .bl _=>rfl
 | .int _=>rfl
 | .str _=>rfl
 | .ty _=>rfl
 | .ref i=>by show D.ref (e.getD i i)=_;rw[h]
 | .tup ds=>by show D.tup (D.ren.all e ds)=_;rw[D.rens_id h]
 | .ro ds=>by show D.ro (D.ren.all e ds)=_;rw[D.rens_id h]
theorem D.rens_id (h:∀ i,e.getD i i=i):∀ ds:List D,D.ren.all e ds=ds
 | []=>rfl
 | d::ds=>by show D.ren e d::D.ren.all e ds=_;rw[D.ren_id h,D.rens_id h]
end
theorem O.ren_id (h:∀ i,e.getD i i=i) (o:O):O.ren e o=o:=by
 cases o with
 | lst xs=>show O.lst _=_;rw[D.rens_id h]
 | dct kvs =>
  show O.dct (kvs.map λp=>(D.ren e p.1,D.ren e p.2))=_;have:(λp:D×D=>(D.ren e p.1,D.ren e p.2))=id:=by funext p;rw[D.ren_id h,D.ren_id h];rfl
  rw[this,Z0]
 | fdc kvs =>
  show O.fdc (kvs.map λp=>(D.ren e p.1,D.ren e p.2))=_;have:(λp:D×D=>(D.ren e p.1,D.ren e p.2))=id:=by funext p;rw[D.ren_id h,D.ren_id h];rfl
  rw[this,Z0]
 | dtt kvs =>
  show O.dtt (kvs.map λp=>(D.ren e p.1,D.ren e p.2))=_;have:(λp:D×D=>(D.ren e p.1,D.ren e p.2))=id:=by funext p;rw[D.ren_id h,D.ren_id h];rfl
  rw[this,Z0]
 | ftt kvs =>
  show O.ftt (kvs.map λp=>(D.ren e p.1,D.ren e p.2))=_;have:(λp:D×D=>(D.ren e p.1,D.ren e p.2))=id:=by funext p;rw[D.ren_id h,D.ren_id h];rfl
  rw[this,Z0]
 | ins c fs =>
  show O.ins c (fs.map (Option.map (D.ren e)))=_;have:Option.map (D.ren e)=id:=by funext o;cases o with | none=>rfl | some d=>show zA _=_;rw[D.ren_id h];rfl
  rw[this,Z0]
theorem KI (n i:Nat):(yT n).getD i i=i:=by
 rw[QB];by_cases h:i < n
 ·rw[XB h];rfl
 ·rw[Kx (by simp;lia)];rfl
end
section
variable {e:List Nat}{n:Nat}
mutual
theorem D.ren_old (h:∀ i,i < n->e[i]? = zA i):∀ d:D,D.cl n d=zC->D.ren e d=d
 | .non,_=>rfl
 | .bl _,_=>rfl
 | .int _,_=>rfl
 | .str _,_=>rfl
 | .ty _,_=>rfl
 | .ref i,c=>by
  have hi:i < n:=of_decide_eq_true c;show D.ref (e.getD i i)=_;rw[QB,h i hi];rfl
 | .tup ds,c=>by show D.tup (D.ren.all e ds)=_;rw[D.rens_old h ds c]
 | .ro ds,c=>by show D.ro (D.ren.all e ds)=_;rw[D.rens_old h ds c]
theorem D.rens_old (h:∀ i,i < n->e[i]? = zA i):∀ ds:List D,D.cl.all n ds=zC->D.ren.all e ds=ds
 | [],_=>rfl
 | d::ds,c=>by
  have f:(D.cl n d && D.cl.all n ds)=zC:=c;rw[j8] at f;show D.ren e d::D.ren.all e ds=_;rw[D.ren_old h d f.1,D.rens_old h ds f.2]
end
theorem O.ren_old (h:∀ i,i < n->e[i]? = zA i) (o:O) (c:O.cl n o=zC):O.ren e o=o:=by
 cases o with
 | lst xs=>show O.lst _=_;rw[D.rens_old h xs c]
 | dct kvs =>
  show O.dct (kvs.map λp=>(D.ren e p.1,D.ren e p.2))=_
  congr 1
  conv=>rhs;rw[<- Z0 kvs]
  refine Jd λp g=>?_;have f:=ja.mp c p g;rw[j8] at f;rw[D.ren_old h _ f.1,D.ren_old h _ f.2];rfl
 | fdc kvs =>
  show O.fdc (kvs.map λp=>(D.ren e p.1,D.ren e p.2))=_
  congr 1
  conv=>rhs;rw[<- Z0 kvs]
  refine Jd λp g=>?_;have f:=ja.mp c p g;rw[j8] at f;rw[D.ren_old h _ f.1,D.ren_old h _ f.2];rfl
 | dtt kvs =>
  show O.dtt (kvs.map λp=>(D.ren e p.1,D.ren e p.2))=_
  congr 1
  conv=>rhs;rw[<- Z0 kvs]
  refine Jd λp g=>?_;have f:=ja.mp c p g;rw[j8] at f;rw[D.ren_old h _ f.1,D.ren_old h _ f.2];rfl
 | ftt kvs =>
  show O.ftt (kvs.map λp=>(D.ren e p.1,D.ren e p.2))=_
  congr 1
  conv=>rhs;rw[<- Z0 kvs]
  refine Jd λp g=>?_;have f:=ja.mp c p g;rw[j8] at f;rw[D.ren_old h _ f.1,D.ren_old h _ f.2];rfl
 | ins j fs =>
  show O.ins j (fs.map (Option.map (D.ren e)))=_
  congr 1
  conv=>rhs;rw[<- Z0 fs]
  refine Jd λp g=>?_;cases p with
  | none=>rfl
  | some d =>
   have f:=ja.mp c (zA d) g;show zA _=zA _;rw[D.ren_old h d f]
mutual
theorem D.cl_mono {m:Nat} (h:n <= m):∀ d:D,D.cl n d=zC->D.cl m d=zC
 | .non,_=>rfl
 | .bl _,_=>rfl
 | .int _,_=>rfl
 | .str _,_=>rfl
 | .ty _,_=>rfl
 | .ref i,c=>decide_eq_true (j6 (of_decide_eq_true c) h)
 | .tup ds,c=>D.cls_mono h ds c
 | .ro ds,c=>D.cls_mono h ds c
theorem D.cls_mono {m:Nat} (h:n <= m):∀ ds:List D,D.cl.all n ds=zC->D.cl.all m ds=zC
 | [],_=>rfl
 | d::ds,c=>by
  have e:(D.cl n d && D.cl.all n ds)=zC:=c;rw[j8] at e;show (D.cl m d && D.cl.all m ds)=zC;rw[D.cl_mono h d e.1,D.cls_mono h ds e.2];rfl
end
theorem O.cl_mono {m:Nat} (h:n <= m) (o:O) (c:O.cl n o=zC):O.cl m o=zC:=by
 cases o with
 | lst xs=>exact D.cls_mono h xs c
 | dct kvs =>
  refine ja.mpr λp f=>?_;have e:=ja.mp c p f;rw[j8] at e ⊢;exact⟨D.cl_mono h _ e.1,D.cl_mono h _ e.2⟩
 | fdc kvs =>
  refine ja.mpr λp f=>?_;have e:=ja.mp c p f;rw[j8] at e ⊢;exact⟨D.cl_mono h _ e.1,D.cl_mono h _ e.2⟩
 | dtt kvs =>
  refine ja.mpr λp f=>?_;have e:=ja.mp c p f;rw[j8] at e ⊢;exact⟨D.cl_mono h _ e.1,D.cl_mono h _ e.2⟩
 | ftt kvs =>
  refine ja.mpr λp f=>?_;have e:=ja.mp c p f;rw[j8] at e ⊢;exact⟨D.cl_mono h _ e.1,D.cl_mono h _ e.2⟩
 | ins g fs =>
  refine ja.mpr λp f=>?_;have e:=ja.mp c p f;cases p with
  | none=>rfl
  | some d=>exact D.cl_mono h d e
theorem wc {S:M.S} (h:clS n S=zC) {i:Nat}{o:O} (e:S[i]? = zA o):O.cl n o=zC:=ja.mp h o (ZW e)
end
theorem GR {S d g:M.S} (e:S.length <= d.length) (c:clS d.length d=zC):Emb S.length (yT d.length) d (d++g) :=
 ⟨by simp,B2,e,λi hi=>by rw[XB (by lia)],λi o q=>by
  have hi:i < d.length:=(yp.mp q).1;exact⟨i,by rw[XB hi],by rw[yQ hi,O.ren_id (KI _),q],wc c q⟩⟩
theorem nE {S g:M.S}{j:Nat} (c:clS S.length S=zC) (co:O.cl S.length o=zC) (f:(S++g)[j]? = zA o) (h:S.length <= j):Emb S.length (yT S.length++[j]) (S++[o]) (S++g):=by
 have old:∀ i,i < S.length->(yT S.length++[j])[i]? = zA i:=λi hi=>by
  rw[yQ (by simpa using hi),XB hi]
 refine⟨by simp,?_,by simp,old,λi ob q=>?_⟩
 ·rw[DC];refine⟨B2,by simp,λa ha b l=>?_⟩;have m:=c6.mp ha;have n:b=j:=by simpa using l
  lia
 ·by_cases hi:i < S.length
  ·rw[yQ hi] at q;have e:=wc c q;exact⟨i,old i hi,by rw[yQ hi,O.ren_old old ob e,q],O.cl_mono (by simp) ob e⟩
  ·rw[yi (by lia)] at q;have d:i - S.length=0:=by
    cases d:i - S.length with
    | zero=>rfl
    | succ k=>rw[d] at q;simp at q
   rw[d] at q;simp at q;subst q;refine⟨j,?_,by rw[O.ren_old old o co,f],O.cl_mono (by simp) o co⟩;rw[yi (by simp;lia)];simp[d]
theorem jl.pure {n:Nat}{f q:F} (h:∀ ds S,ds.length=n->clS S.length S=zC->D.cl.all S.length ds=zC->q ds S=.no\/∃ d g,q ds S=.ok d S/\f ds S=.ok d (S++g)/\D.cl S.length d=zC):jl n f q:=λds S i c j=>by
 rcases h ds S i c j with e | ⟨d,g,l,m,o⟩
 ·exact .inl e
 ·exact .inr ⟨d,S,S++g,yT S.length,l,by rw[D.ren_id (KI _)];exact m,GR (jB _) c,o⟩
theorem jl.new {n:Nat}{f q:F} (h:∀ ds S,ds.length=n->clS S.length S=zC->D.cl.all S.length ds=zC->q ds S=.no\/∃ o j g,q ds S=alloc o S/\f ds S=.ok (.ref j) (S++g)/\(S++g)[j]? = zA o/\S.length <= j/\O.cl S.length o=zC):jl n f q:=λds S d c i=>by
 rcases h ds S d c i with e | ⟨o,j,g,l,m,p,r,s⟩
 ·exact .inl e
 ·refine .inr ⟨.ref S.length,S++[o],S++g,yT S.length++[j],l,?_,nE c s p r,?_⟩
  ·rw[m];show R.ok (D.ref j) _=R.ok (D.ref ((yT S.length++[j]).getD S.length S.length)) _;rw[QB,yi (by simp)];simp
  ·show decide (S.length < (S++[o]).length)=zC;simp
noncomputable def chS (m:F):F:=λds s=>@dite (R D) (∃ d g,m ds s=.ok d (s++g)/\D.cl s.length d=zC) (Aj _) (λh=>.ok h.choose s) (λ_=>.no)
theorem YW (m:F):jl n m (chS m):=jl.pure λds S f c i=>by
 unfold chS;by_cases h:∃ d g,m ds S=.ok d (S++g)/\D.cl S.length d=zC
 ·obtain⟨g,e,k⟩:=h.choose_spec;exact .inr ⟨h.choose,g,by rw[dif_pos h],e,k⟩
 ·exact .inl (by rw[dif_neg h])
theorem Ka {m:F}{ds:List D}{s g:S}{d:D} (e:m ds s=.ok d (s++g)) (k:D.cl s.length d=zC):chS m ds s=.ok d s:=by
 have h:∃ d g,m ds s=.ok d (s++g)/\D.cl s.length d=zC:=⟨d,g,e,k⟩
 obtain⟨g',c,_⟩:=h.choose_spec;have f:d=h.choose:=by
  have i:=e.symm.trans c;injection i
 unfold chS;rw[dif_pos h,<- f]
noncomputable def chN (m:F):F:=λds s=>@dite (R D) (∃ o j g,m ds s=.ok (.ref j) (s++g)/\(s++g)[j]? = zA o/\s.length <= j/\O.cl s.length o=zC) (Aj _) (λh=>alloc h.choose s) (λ_=>.no)
theorem vj (m:F):jl n m (chN m):=jl.new λds S d c f=>by
 unfold chN;by_cases h:∃ o j g,m ds S=.ok (.ref j) (S++g)/\(S++g)[j]? = zA o/\S.length <= j/\O.cl S.length o=zC
 ·obtain⟨j,g,e,k⟩:=h.choose_spec;exact .inr ⟨h.choose,j,g,by rw[dif_pos h],e,k⟩
 ·exact .inl (by rw[dif_neg h])
theorem KD {m:F}{ds:List D}{s g:S}{j:Nat}{o:O} (e:m ds s=.ok (.ref j) (s++g)) (q:(s++g)[j]? = zA o) (l:s.length <= j) (k:O.cl s.length o=zC):chN m ds s=alloc o s:=by
 have h:∃ o j g,m ds s=.ok (.ref j) (s++g)/\(s++g)[j]? = zA o/\s.length <= j/\O.cl s.length o=zC:=⟨o,j,g,e,q,l,k⟩
 obtain⟨t,g',f,i,_⟩:=h.choose_spec;have n:=e.symm.trans f;injection n with c p;injection c with c;have r:o=h.choose:=by
  have d:=q;rw[p,c] at d;exact QA (d.symm.trans i)
 unfold chN;rw[dif_pos h,<- r]
end M
namespace M
theorem wZ {f:D->S->R (Option D)}{h:D->D} (c:z8 g s=zC):∀ {xs:List D},(∀ x∈xs,f x s=.ok (zA (h x)) s)->ym g f xs s=.ok (xs.map h) s
 | [],_=>rfl
 | x::xs,e=>by
  show (f x s).bind _=_;rw[e x qM,ji,if_pos c,wZ c λy d=>e y (jj _ d)];rfl
theorem Ui {it:IM}{σ:St}{s:S}{xs:List D}{g:Gd} (h:D->D) (hi:it σ s=.ok (xs,g) s) (d:xs.length <= SZ) (c:z8 g s=zC) (f:∀ x∈xs,yL n tg qE e σ x s=.ok (zA (h x)) s):yd n it tg qE e σ s=.ok (xs.map h) s:=by
 unfold yd;rw[hi,ji,if_pos ⟨d,c⟩];exact wZ c f
theorem Bb {it:IM}{σ:St}{s:S}{lo:Int} (h:Nat->D) (hit:it σ s=.ok (ZT lo hi,[]) s) (c:(hi - lo).toNat <= SZ) (f:∀ k:Nat,k < (hi - lo).toNat->yL n tg qE e σ (.int (lo+k)) s=.ok (zA (h k)) s) :
  yd n it tg qE e σ s=.ok ((yT (hi - lo).toNat).map h) s:=by
 have:=Ui (n:=n) (tg:=tg) (e:=e) (λd=>match d with | .int i=>h (i - lo).toNat | d=>d) hit (by simpa [ZT] using c) rfl λx hx=>by
  obtain⟨k,g,rfl⟩:=Zn.mp hx;have e:(lo+(k:Int) - lo).toNat=k:=by lia
  rw[f k (c6.mp g)];show R.ok (zA (h k)) s=R.ok (zA (h (lo+(k:Int) - lo).toNat)) s;rw[e]
 rw[this];unfold ZT;rw[JA];have j:∀ k:Nat,(lo+(k:Int) - lo).toNat=k:=λk=>by lia
 have l:((λd=>match d with | .int i=>h (i - lo).toNat | d=>d) ∘ λ(k:Nat)=>D.int (lo+k))=h:=by
  funext k
  show h (lo+(k:Int) - lo).toNat=h k;rw[j]
 rw[l]
theorem bh {it:IM}{σ:St}{s:S}{x:T} (h:Nat->D) (hit:it σ s=.ok (x.map λc=>.str [c],[]) s) (f:x.length <= SZ) (g:∀ c∈x,yL n tg qE e σ (.str [c]) s=.ok (zA (h c)) s) :
  yd n it tg qE e σ s=.ok (x.map h) s:=by
 have:=Ui (n:=n) (tg:=tg) (e:=e) (λd=>match d with | .str [c]=>h c | d=>d) hit (by simpa using f) rfl λy i=>by
  obtain⟨c,j,rfl⟩:=Zn.mp i;exact g c j
 rw[this,JA];rfl
theorem oI {c:Type} (f:c->Bool) (xs:List c):xF (xs.map λx=>.bl (f x))=zA (xs.map f):=by
 induction xs with
 | nil=>rfl
 | cons x xs d=>show (xF (xs.map λx=>D.bl (f x))).map _=_;rw[d];rfl
theorem all_map {c:Type} (f:c->Bool) (xs:List c) (s:S):xQ (xs.map λx=>.bl (f x)) s=.ok (.bl (xs.all f)) s:=by
 unfold xQ;rw[oI];simp[eZ]
theorem Bl {c:Type} (f:c->T) (xs:List c):Qn (xs.map λx=>.str (f x))=zA (xs.map f):=by
 induction xs with
 | nil=>rfl
 | cons x xs d=>show (Qn (xs.map λx=>D.str (f x))).map _=_;rw[d];rfl
theorem GP (xs:List T):Qn (xs.map .str)=zA xs:=by
 have:=Bl (λx:T=>x) xs
 rwa [List.map_id'] at this
theorem mn (xs:List T):JQ [] xs=xs.flatten:=by
 induction xs with
 | nil=>rfl
 | cons x xs c =>
  cases xs with
  | nil=>simp[JQ]
  | cons y d=>show x++[]++JQ [] (y::d)=_;rw[c];simp
theorem gS {c d:Type} (f:c->d) (xs:List c):(xs.map λx=>[f x]).flatten=xs.map f:=by
 induction xs with
 | nil=>rfl
 | cons x xs e=>rw[ju,kK,e];rfl
theorem HX {c:Type} (f:c->Nat) (xs:List c):((xs.map λx=>[f x]).map List.length).sum=xs.length:=by
 induction xs with
 | nil=>rfl
 | cons x xs d=>rw[ju,ju,List.sum_cons,d,qL];show 1+xs.length=xs.length+1;lia
theorem F9 {c:Type} (f:c->Nat) (xs:List c) (s:S) (h:xs.length <= SZ):J6 [] (xs.map λx=>.str [f x]) s=.ok (.str (xs.map f)) s:=by
 unfold J6;rw[Bl];dsimp only;rw[if_pos,mn,gS];rw[HX];simpa using h
theorem C2 (n:Nat):∀ ts:List T,D.cl.all n (ts.map .str)=zC
 | []=>rfl
 | _::ts=>by
  show (D.cl n (.str _) && D.cl.all n (ts.map .str))=zC;rw[C2 n ts];rfl
theorem EX (x:T):∀ ts:List T,JD (.str x) (ts.map .str)=ts.contains x
 | []=>rfl
 | t::ts=>by
  have:=EX x ts;unfold JD at this ⊢;rw[ju,Jk,this,Du];simp[eqF,BEq.comm (a:=t)]
theorem wt {c:Type}{xs:List c}{k:Int} (e:0 <= k) (h:k < xs.length) (d:c):atI xs k=zA (xs.getD k.toNat d):=by
 unfold atI ixN;rw[if_pos e,if_pos h];have f:k.toNat < xs.length:=by lia
 simp[QB,f]
theorem Jh {S:M.S}{p:Nat}{o:O} (e:S[p]? = zA o) (g:M.S):(S++g)[p]? = zA o:=by
 rw[yQ (yp.mp e).1];exact e
noncomputable def AN:List T:=[[111,102],[105,102],[105,115],[116,104,101,110],[101,108,115,101],[101,97,99,104],[100,111],[105,116],[98,97,99,107],[102,105,114,115,116],[114,101,115,116],[99,111,117,110,116],[115,111,114,116,101,100],[102,97,105,108],[108,105,110,101],[109,111,114,101]]
noncomputable def vW (x:T):Bool:=!decide (x < [97]) && !decide ([122] < x)
def xu (x:T):Bool:=decide (1 <= x.length) && decide (x.length <= 8) && !(AN.contains x) && x.all λc=>vW [c]
theorem IV:([(.str [111,102]),(.str [105,102]),(.str [105,115]),(.str [116,104,101,110]),(.str [101,108,115,101]),(.str [101,97,99,104]),(.str [100,111]),(.str [105,116]),(.str [98,97,99,107]),(.str [102,105,114,115,116]),(.str [114,101,115,116]),(.str [99,111,117,110,116]),(.str [115,111,114,116,101,100]),(.str [102,97,105,108]),(.str [108,105,110,101]),(.str [109,111,114,101])]:List D)=AN.map .str:=rfl
theorem ir {it:IM}{σ:St}{s s1:S}{xs:List D}{g:Gd} (h:D->D) (hi:it σ s=.ok (xs,g) s1) (d:xs.length <= SZ) (c:z8 g s1=zC) (f:∀ x∈xs,yL n tg qE e σ x s1=.ok (zA (h x)) s1):yd n it tg qE e σ s=.ok (xs.map h) s1:=by
 unfold yd;rw[hi,ji,if_pos ⟨d,c⟩];exact wZ c f
theorem dF (g:Nat->Option P):∀ ts:List T,qI.all g (ts.map .str)=zA (ts.map P.str)
 | []=>rfl
 | t::ts=>by
  show (match qI g (.str t),qI.all g (ts.map .str) with | some p,zA ps=>zA (p::ps) | _,_=>zB)=_;rw[dF g ts];rfl
theorem Dh:∀ ts:List T,P.deps (ts.map P.str)=0
 | []=>by simp[P.deps]
 | t::ts=>by simp[P.deps,P.dep,Dh ts]
theorem b7:∀ ts us:List T,P.eqvs (ts.map P.str) (us.map P.str)=decide (ts=us)
 | [],[]=>by simp[P.eqvs]
 | [],u::us=>by simp[P.eqvs]
 | t::ts,[]=>by simp[P.eqvs]
 | t::ts,u::us=>by
  simp only[ju,P.eqvs,P.eqv,b7 ts us];by_cases h:t=u<;>by_cases c:ts=us<;>simp[h,c]
theorem e7 {s:S}{p q:Nat}{ts us:List T} (c:s[p]? = zA (.lst (ts.map .str))) (d:s[q]? = zA (.lst (us.map .str))):eqD (.ref p) (.ref q) s=.ok (decide (ts=us)) s:=by
 have h:∀ (r:Nat) (vs:List T),s[r]? = zA (.lst (vs.map .str))->toP ZP s (.ref r)=zA (.lst (vs.map P.str)):=λr vs e=>by
  show (match qf s r with | some xs=>(qI.all (λj=>toP 8 s (.ref j)) xs).map P.lst | none=>zB)=_;have:qf s r=zA (vs.map .str):=by simp[qf,e]
  rw[this];show (qI.all _ (vs.map .str)).map P.lst=_;rw[dF];rfl
 simp only[eqD,h p ts c,h q us d];simp only[P.dep,Dh,P.eqv,b7];rfl
end M
namespace M
def Bc (m:F) (ds:List D) (s:S) (p:D×S):Prop:=∃ g,m ds s=.ok p.1 (p.2++g)/\p.2.length=s.length/\clS s.length p.2=zC/\D.cl s.length p.1=zC
noncomputable def chO (m:F):F:=λds s=>@dite (R D) (∃ p,Bc m ds s p) (Aj _) (λh=>.ok h.choose.1 h.choose.2) (λ_=>.no)
theorem kf (m:F):jl n m (chO m):=λds S s c t=>by
 unfold chO;split
 ·rename_i h;obtain⟨g,e,l,j,r⟩:=h.choose_spec;generalize h.choose=p at *;obtain⟨d,f⟩:=p;dsimp only at *;refine .inr ⟨d,f,f++g,yT S.length,rfl,?_,⟨?_,B2,Kk l.symm,λi hi=>?_,λi o q=>?_⟩,?_⟩
  ·rw[D.ren_id λi=>KI _ i];exact e
  ·rw[UB,l]
  ·rw[XB hi]
  ·have hi:i < f.length:=(yp.mp q).1;refine⟨i,?_,?_,?_⟩
   ·rw[XB (by lia)]
   ·rw[O.ren_id λi=>KI _ i,yQ hi];exact q
   ·rw[l];exact ja.mp j o (ZW q)
  ·rw[l];exact r
 ·exact .inl rfl
theorem JN {m:F}{ds:List D}{s f g:S}{d:D} (e:m ds s=.ok d (f++g)) (l:f.length=s.length) (c:clS s.length f=zC) (k:D.cl s.length d=zC):chO m ds s=.ok d f:=by
 have h:∃ p,Bc m ds s p:=⟨(d,f),g,e,l,c,k⟩
 unfold chO;rw[dif_pos h];obtain⟨g',j,q,_⟩:=h.choose_spec;generalize h.choose=p at *;have i:=e.symm.trans j;injection i with n i;have o:=List.append_inj_left i (by lia);rw[<- n,<- o]
end M
namespace M
def uf (c f g h:Nat) (e:EM):SM:=λσ s=>match e σ s with
 | .ok d s=>.nx (σ.set f (zA d)) s
 | .exc (.tup [.int k,d]) s=>if k=c then .nx ((σ.set g zB).set h (zA d)) s else .no
 | _=>.no
@[simp] theorem rW {e:EM}{σ:St}{s s':S}{d:D} (h:e σ s=.ok d s'):uf c f g i e σ s=.nx (σ.set f (zA d)) s':=by unfold uf;rw[h]
@[simp] theorem rq {c:Nat}{e:EM}{σ:St}{s s':S}{d:D} (h:e σ s=.exc (.tup [.int c,d]) s'):uf c i f g e σ s=.nx ((σ.set f zB).set g (zA d)) s':=by unfold uf;rw[h];simp
def UG (c f g h:Nat) (e:EM):SM:=λσ s=>match e σ s with
 | .ok d s=>.nx (σ.set f (zA d)) s
 | .exc (.tup [.int k,d,d']) s=>if k=c then .nx ((σ.set g zB).set h (zA (.tup [d,d']))) s else .no
 | _=>.no
@[simp] theorem Rb {e:EM}{σ:St}{s s':S}{d:D} (h:e σ s=.ok d s'):UG c f g i e σ s=.nx (σ.set f (zA d)) s':=by unfold UG;rw[h]
@[simp] theorem rL {c:Nat}{e:EM}{σ:St}{s s':S}{d d':D} (h:e σ s=.exc (.tup [.int c,d,d']) s'):UG c i f g e σ s=.nx ((σ.set f zB).set g (zA (.tup [d,d']))) s':=by unfold UG;rw[h];simp
def Yh (c:Nat) (e:EM):SM:=λσ s=>match e σ s with
 | .ok d s=>.rt d s
 | .exc (.tup [.int k,d]) s=>if k=c then .rt (.tup [.non,d]) s else .no
 | _=>.no
@[simp] theorem RY {e:EM}{σ:St}{s s':S}{d:D} (h:e σ s=.ok d s'):Yh c e σ s=.rt d s':=by unfold Yh;rw[h]
@[simp] theorem RI {c:Nat}{e:EM}{σ:St}{s s':S}{d:D} (h:e σ s=.exc (.tup [.int c,d]) s'):Yh c e σ s=.rt (.tup [.non,d]) s':=by unfold Yh;rw[h];simp
def Yb (n:Nat) (f q:F):Prop:=∀ ds S,ds.length=n->clS S.length S=zC->D.cl.all S.length ds=zC ->
 q ds S=.no\/(∃ d c h e,q ds S=.ok d c/\f ds S=.ok (D.ren e d) h/\Emb S.length e c h/\D.cl c.length d=zC)\/∃ d g,q ds S=.exc d S/\f ds S=.exc d (S++g)/\D.cl S.length d=zC
noncomputable def chX (r:F->F) (m:F):F:=λds s=>@dite (R D) (∃ d g,m ds s=.exc d (s++g)/\D.cl s.length d=zC) (Aj _) (λh=>.exc h.choose s) (λ_=>r m ds s)
theorem Gw {r:F->F} (f:jl n m (r m)):Yb n m (chX r m):=λds S i c j=>by
 unfold chX;by_cases h:∃ d g,m ds S=.exc d (S++g)/\D.cl S.length d=zC
 ·obtain⟨g,e,k⟩:=h.choose_spec;exact .inr (.inr ⟨h.choose,g,by rw[dif_pos h],e,k⟩)
 ·rw[dif_neg h];exact (f ds S i c j).elim .inl λz=>.inr (.inl z)
theorem hV {m:F}{ds:List D}{s g:S}{d:D} (e:m ds s=.exc d (s++g)) (k:D.cl s.length d=zC):chX r m ds s=.exc d s:=by
 have h:∃ d g,m ds s=.exc d (s++g)/\D.cl s.length d=zC:=⟨d,g,e,k⟩
 obtain⟨g',c,_⟩:=h.choose_spec;have f:d=h.choose:=by
  have i:=e.symm.trans c;injection i
 unfold chX;rw[dif_pos h,<- f]
theorem Gf {m:F}{ds:List D}{s s':S}{d:D} (e:m ds s=.ok d s'):chX r m ds s=r m ds s:=by
 unfold chX;rw[dif_neg]
 rintro ⟨d',g,h,_⟩
 rw[e] at h;cases h
end M
namespace M
@[simp] def AA (c:Nat) (a:AM):SM:=λσ s=>(a σ s).stm σ λ_ s=>.exc (.tup [.int c]) σ s
@[simp] def Xj (a:EM):IM:=λσ s=>(a σ s).bind λx s=>match x with
 | .ref i=>(match s[i]? with | some (.fdc kvs)=>.ok (kvs.map λp:D×D=>D.tup [p.1,p.2],([]:Gd)) s | _=>.no)
 | _=>.no
@[simp] def Yy (c f i:Nat) (b:SM):SM:=λσ s=>match σ[i]? with
 | some (zA x)=>(Xi c f x s).stm σ λy s=>(match y with
  | .ref p=>(match s[p]? with
   | some (.dct kvs)=>thaw p kvs (b σ (s.set p (.fdc kvs)))
   | _=>.no)
  | _=>.no)
 | _=>.no
@[simp] def U5:D->F
 | .ref p,[k,d],s=>match s[p]? with
  | some (.dct kvs)=>if jn k then (match jJ k kvs with | some v=>.ok v (s.set p (.dct (jR k kvs))) | none=>.ok d s) else .no
  | _=>.no
 | _,_,_=>.no
def ka (c:Nat) (e:EM) (h:SM):SM:=λσ s=>match e σ s with
 | .ok d s=>.rt d s
 | .exc (.tup (.int k::_)) s=>if k=c then h σ s else .no
 | _=>.no
theorem OJ {e:EM}{σ:St}{s s':S}{d:D} (q:e σ s=.ok d s'):ka c e h σ s=.rt d s':=by unfold ka;rw[q]
theorem Gx {c:Nat}{e:EM}{σ:St}{s s':S}{ds:List D} (q:e σ s=.exc (.tup (.int c::ds)) s'):ka c e h σ s=h σ s':=by unfold ka;rw[q];simp
end M
namespace L2
open PySem PySem.Spec PyProof.Rows
noncomputable def ofT (x:M.T):Str:=⟨x.toArray⟩
theorem yM (x:M.T):(ofT x).length=x.length:=by simp[ofT,Str.length]
theorem Qe (x:M.T):(ofT x).cps.toList=x:=by simp[ofT]
theorem uZ {y:M.T} (h:ofT x=ofT y):x=y:=by rw[<- Qe x,h,Qe]
theorem I9 (x y:M.T):ofT x++ofT y=ofT (x++y):=by
 show (⟨x.toArray++y.toArray⟩:Str)=_;simp[ofT]
abbrev okT (x:M.T):Prop:=x.all (λc=>decide (c < 1114112))=zC
theorem Wb {y:M.T} (h:okT x) (k:okT y):okT (x++y):=by show (x++y).all _=zC;rw[List.all_append,h,k];rfl
theorem ku {y:M.T} (h:okT x) (k:∀ c∈y,c∈x):okT y:=ja.mpr λc d=>ja.mp h c (k c d)
theorem Zm:M.SZ=z5:=by rw[Zc];rfl
def Z5 (K:zV) (H:Hp) (a:zN) (xs:List V):Prop :=
 (∃ o,H a=zA (.frz o (.lst xs))) \/
  ∃ (o:Obj) (c:Array zO) (n:Nat),K.lookup a=zA o/\o.cls=.type "list" /\ o.dict=zB/\o.data=.seq c n/\c.size <= z5/\z6 xs c.toList
theorem Z5.sq {K:zV}{a:zN} (h:Z5 K H a xs):SqL K H a xs:=by
 rcases h with ⟨o,h⟩ | h
 ·exact .inl (.inr ⟨o,h⟩)
 ·exact .inr h
structure Le (H H':Hp):Prop where
 tups:∀ b xs,H b=zA (.tup xs)->H' b=zA (.tup xs)
 frzs:∀ b o u,H b=zA (.frz o u)->H' b=zA (.frz o u)
theorem Le.refl (H:Hp):Le H H:=⟨λ_ _ h=>h,λ_ _ _ h=>h⟩
theorem Le.trans (a:Le H d) (b:Le d e):Le H e:=⟨λc xs h=>b.tups c xs (a.tups c xs h),λc o u h=>b.frzs c o u (a.frzs c o u h)⟩
theorem Le.new {H:Hp}{p:zN} (h:H p=zB) (o:HO):Le H (upd H p o) :=
 ⟨λb xs q=>by rw[jA (Z1 q h)];exact q,λb o u q=>by rw[jA (Z1 q h)];exact q⟩
theorem Le.put {H:Hp}{p:zN} (h:Mut (H p)) (o:HO):Le H (upd H p o) :=
 ⟨λb xs q=>by rw[jA (λz=>by subst z;rw[q] at h;exact h)];exact q,λb o u q=>by rw[jA (λz=>by subst z;rw[q] at h;exact h)];exact q⟩
theorem Le.rol {K:zV}{a:zN} (e:Le H c) (h:Z5 K H a xs):Z5 K c a xs:=by
 rcases h with ⟨o,h⟩ | h
 ·exact .inl ⟨o,e.frzs _ _ _ h⟩
 ·exact .inr h
theorem Le.sqT {K:zV}{a:zN} (e:Le H c) (h:SqT K H a xs):SqT K c a xs:=by
 rcases h with (h | ⟨o,h⟩) | h
 ·exact .inl (.inl (e.tups _ _ h))
 ·exact .inl (.inr ⟨o,e.frzs _ _ _ h⟩)
 ·exact .inr h
noncomputable def ZC:M.Kd->String
 | .str => "str" | .int => "int" | .bool => "bool" | .list => "list" | .tuple => "tuple" | .dict => "dict"
def zZ (K:zV) (c:List zN) (H:Hp):M.D->V->Prop
 | .non,v=>v=.non
 | .bl b,v=>v=.bl b
 | .int i,v=>v=.int i
 | .str x,v=>v=.str (ofT x)/\okT x
 | .ty n,v=>v=.ty (ZC n)
 | .ref i,v=>∃ a,v=.ref a/\c[i]? = zA a
 | .tup ds,v=>∃ a xs,v=.ref a/\SqT K H a xs/\all ds xs
 | .ro ds,v=>∃ a xs,v=.ref a/\Z5 K H a xs/\all ds xs
where all:List M.D->List V->Prop
 | [],xs=>xs=[]
 | d::ds,xs=>∃ y e,xs=y::e/\zZ K c H d y/\all ds e
abbrev zl (K:zV) (c:List zN) (H:Hp):List M.D->List V->Prop:=zZ.all K c H
theorem Js {d c:List zN} (h:d <+: c) {i:Nat}{a:zN} (e:d[i]? = zA a):c[i]? = zA a:=by
 obtain⟨t,rfl⟩:=h;rw[yQ (yp.mp e).1];exact e
section
variable {K:zV}{ρ ρ':List zN}{H H':Hp}
mutual
theorem zZ.mono (c:ρ <+: ρ') (le:Le H H'):∀ {d:M.D}{v:V},zZ K ρ H d v->zZ K ρ' H' d v
 | .non,_,h=>h
 | .bl _,_,h=>h
 | .int _,_,h=>h
 | .str _,_,h=>h
 | .ty _,_,h=>h
 | .ref _,_,⟨a,e,h⟩=>⟨a,e,Js c h⟩
 | .tup _,_,⟨a,xs,e,h,r⟩=>⟨a,xs,e,le.sqT h,zl.mono c le r⟩
 | .ro _,_,⟨a,xs,e,h,r⟩=>⟨a,xs,e,le.rol h,zl.mono c le r⟩
theorem zl.mono (c:ρ <+: ρ') (le:Le H H'):∀ {ds:List M.D}{xs:List V},zl K ρ H ds xs->zl K ρ' H' ds xs
 | [],_,h=>h
 | _::_,_,⟨y,d,e,h,r⟩=>⟨y,d,e,zZ.mono c le h,zl.mono c le r⟩
end
theorem zl.length:∀ {ds:List M.D}{xs:List V},zl K c H ds xs->ds.length=xs.length
 | [],_,h=>by cases h;rfl
 | _::_,_,⟨_,_,e,_,r⟩=>by subst e;rw[qL,qL,zl.length r]
theorem zl.get:∀ {ds:List M.D}{xs:List V}{i:Nat}{d:M.D},zl K f H ds xs->ds[i]? = zA d->∃ v,xs[i]? = zA v/\zZ K f H d v
 | [],_,_,_,_,e=>by simp at e
 | _::_,_,0,_,⟨y,_,c,h,_⟩,e=>by subst c;simp at e;subst e;exact⟨y,rfl,h⟩
 | _::_,_,i+1,d,⟨_,l,c,_,r⟩,e=>by
  subst c;obtain⟨v,g,j⟩:=zl.get (i:=i) (d:=d) r (by simpa using e);exact⟨v,by simpa using g,j⟩
theorem zl.app:∀ {ds es:List M.D}{xs c:List V},zl K d H ds xs->zl K d H es c->zl K d H (ds++es) (xs++c)
 | [],_,_,_,h,k=>by cases h;exact k
 | _::_,_,_,_,⟨y,c,e,h,r⟩,k=>by subst e;exact⟨y,_,rfl,h,zl.app r k⟩
theorem zl.take:∀ {ds:List M.D}{xs:List V} (n:Nat),zl K c H ds xs->zl K c H (ds.take n) (xs.take n)
 | _,_,0,_=>rfl
 | [],_,_+1,h=>by cases h;rfl
 | _::_,_,n+1,⟨y,d,e,h,r⟩=>by subst e;exact⟨y,_,rfl,h,zl.take n r⟩
theorem zl.set (hd:zZ K c H d v):∀ {ds:List M.D}{xs:List V} (n:Nat),zl K c H ds xs->zl K c H (ds.set n d) (xs.set n v)
 | [],_,_,h=>by cases h;rfl
 | _::_,_,0,⟨y,f,e,h,r⟩=>by subst e;exact⟨v,f,rfl,hd,r⟩
 | _::_,_,n+1,⟨y,f,e,h,r⟩=>by subst e;exact⟨y,_,rfl,h,zl.set hd n r⟩
theorem zl.dropLast (h:zl K c H ds xs):zl K c H ds.dropLast xs.dropLast:=by
 rw[Li,Li,h.length];exact h.take _
end
section
variable {K:zV}{ρ ρ':List zN}{H H':Hp}{ds es:List M.D}{xs ys:List V}
theorem zZ.all.mono (h:zZ.all K ρ H ds xs) (c:ρ <+: ρ') (le:Le H H'):zZ.all K ρ' H' ds xs:=zl.mono c le h
theorem zZ.all.length (h:zZ.all K ρ H ds xs):ds.length=xs.length:=zl.length h
theorem zZ.all.app (h:zZ.all K ρ H ds xs) (k:zZ.all K ρ H es ys):zZ.all K ρ H (ds++es) (xs++ys):=zl.app h k
end
def qz:M.D->Key->Prop
 | .int i,k=>k=.inl i
 | .str x,k=>k=.inr (ofT x)/\okT x
 | _,_=>False
structure Tab where
 tab:Nat->Option (zN×List Str)
 ha:M.D->Int:=λ_=>0
 x:XK:=λ_ _ _=>False
instance:CoeFun Tab λ_=>Nat->Option (zN×List Str):=⟨Tab.tab⟩
def TD (ha:M.D->Int) (a:zN) (xs:List (M.D×zN×zO)) (h:zg):Prop:=xs.length <= z5/\(a == Zk)=zP/\(xs.map (·.1)).Nodup /\
 ∃ o es c,h.get? a=zA o/\o.ExactDict/\o.data=.dict es c/\es.toList=xs.map λx=>⟨ha x.1,.ref x.2.1,x.2.2⟩
def TDr (K:zV) (c:List zN) (H:Hp) (p:M.D×M.D) (q:M.D×zN×zO):Prop:=q.1=p.1/\M.kyD 7 p.1=zC/\zZ K c H p.1 (.ref q.2.1)/\∃ v,zZ K c H p.2 v/\zx v q.2.2
theorem TDr.mono {K:zV}{e c:List zN} (d:e <+: c) (le:Le H f) (h:TDr K e H p q):TDr K c f p q :=
 ⟨h.1,h.2.1,h.2.2.1.mono d le,let ⟨v,a,b⟩:=h.2.2.2;⟨v,a.mono d le,b⟩⟩
structure xm (K:zV) (ρ:List zN) (H:Hp) (N:List Str) (fs:List (Option M.D)) (gs:List (Str×V)):Prop where
 len:fs.length=N.length
 nd:(gs.map (·.1)).Nodup
 within:∀ f∈gs.map (·.1),f∈N
 get:∀ (i:Nat) (f:Str) (d:M.D),N[i]? = zA f->fs[i]? = zA (zA d)->∃ v,gs.lookup f=zA v/\zZ K ρ H d v
def ObR (K:zV) (Θ:Tab) (d:List zN) (H:Hp) (a:zN):M.O->Prop
 | .lst ds=>∃ xs,H a=zA (.lst xs)/\zl K d H ds xs
 | .dct kvs=>∃ ks,H a=zA (.dK ks)/\Paired (λ(p:M.D×M.D) (q:Key×V)=>qz p.1 q.1/\zZ K d H p.2 q.2) kvs ks
 | .fdc kvs=>∃ o ks,H a=zA (.frz o (.dK ks))/\Paired (λ(p:M.D×M.D) (q:Key×V)=>qz p.1 q.1/\zZ K d H p.2 q.2) kvs ks
 | .dtt kvs=>∃ xs,H a=zA (.ext (TD Θ.ha a xs))/\Paired (TDr K d H) kvs xs
 | .ftt kvs=>∃ o xs,H a=zA (.frz o (.ext (TD Θ.ha a xs)))/\Paired (TDr K d H) kvs xs
 | .ins c fs=>∃ C f e N,H a=zA (.ins C f e)/\Θ c=zA (C,N)/\xm K d H N fs e
structure zh (K:zV) (Θ:Tab) (ρ:List zN) (S:M.S) (H:Hp):Prop where
 len:ρ.length=S.length
 nd:ρ.Nodup
 obj:∀ (i:Nat) (o:M.O),S[i]? = zA o->∃ a,ρ[i]? = zA a/\ObR K Θ ρ H a o
structure jW (K:zV) (ρ:List zN) (H:Hp) (σ':M.St) (σ:St):Prop where
 len:σ'.length=σ.length
 get:∀ (i:Nat) (d:M.D),σ'[i]? = zA (zA d)->∃ v,σ[i]? = zA (zA v)/\zZ K ρ H d v
section
variable {K:zV}{Θ:Tab}{ρ ρ':List zN}{H H':Hp}{S:M.S}
theorem jW.mono (h:jW K ρ H c σ) (f:ρ <+: ρ') (le:Le H H'):jW K ρ' H' c σ :=
 ⟨h.len,λi d e=>let ⟨v,g,j⟩:=h.get i d e;⟨v,g,j.mono f le⟩⟩
theorem jW.set (h:jW K ρ H c σ) (hd:zZ K ρ H d v) (i:Nat):jW K ρ H (c.set i (zA d)) (σ.set i (zA v)):=by
 refine⟨by rw[xK,xK,h.len],λj e q=>?_⟩;by_cases f:i=j
 ·subst f;by_cases g:i < c.length
  ·rw[Z3 g] at q;cases q;exact⟨v,by rw[Z3 (h.len ▸ g)],hd⟩
  ·rw[Kx (by rw[xK];lia)] at q;cases q
 ·rw[Qd f] at q;rw[Qd f];exact h.get j e q
theorem jW.more (h:jW K ρ H c σ) (n:Nat):jW K ρ H (c++zm n zB) (σ++zm n zB):=by
 refine⟨by simp[h.len],λi d q=>?_⟩;by_cases e:i < c.length
 ·rw[yQ e] at q;rw[yQ (h.len ▸ e)];exact h.get i d q
 ·rw[yi (by lia),KS] at q;split at q<;>cases q
theorem zh.tracked (h:zh K Θ ρ S H) {a:zN} (m:a∈ρ):∃ o,H a=zA o:=by
 obtain⟨i,hi,e⟩:=Qo.mp m;have g:i < S.length:=h.len ▸ hi;obtain⟨j,f,r⟩:=h.obj i S[i] (by simp[g]);rw[xl hi,e] at f;cases f;cases q:S[i] with
 | lst ds=>rw[q] at r;obtain⟨xs,d,_⟩:=r;exact⟨_,d⟩
 | dct kvs=>rw[q] at r;obtain⟨xs,d,_⟩:=r;exact⟨_,d⟩
 | fdc kvs=>rw[q] at r;obtain⟨o,xs,d,_⟩:=r;exact⟨_,d⟩
 | dtt kvs=>rw[q] at r;obtain⟨xs,d,_⟩:=r;exact⟨_,d⟩
 | ftt kvs=>rw[q] at r;obtain⟨o,xs,d,_⟩:=r;exact⟨_,d⟩
 | ins c fs=>rw[q] at r;obtain⟨_,_,_,_,d,_⟩:=r;exact⟨_,d⟩
theorem zh.fresh (h:zh K Θ ρ S H) {p:zN} (c:H p=zB):p∉ρ:=λm=>by
 obtain⟨o,e⟩:=h.tracked m;rw[c] at e;cases e
theorem ObR.stay {a:zN} (h:ObR K Θ ρ H a o) (g:ρ <+: ρ') (le:Le H H') (e:H' a=H a):ObR K Θ ρ' H' a o:=by
 cases o with
 | lst ds=>obtain⟨xs,j,r⟩:=h;exact⟨xs,e.trans j,r.mono g le⟩
 | dct kvs=>obtain⟨ks,j,r⟩:=h;exact⟨ks,e.trans j,Paired.mapP r λp q z=>⟨z.1,z.2.mono g le⟩⟩
 | fdc kvs=>obtain⟨o,ks,j,r⟩:=h;exact⟨o,ks,e.trans j,Paired.mapP r λp q z=>⟨z.1,z.2.mono g le⟩⟩
 | dtt kvs=>obtain⟨xs,j,r⟩:=h;exact⟨xs,e.trans j,Paired.mapP r λp q z=>z.mono g le⟩
 | ftt kvs=>obtain⟨o,xs,j,r⟩:=h;exact⟨o,xs,e.trans j,Paired.mapP r λp q z=>z.mono g le⟩
 | ins c fs =>
  obtain⟨C,l,m,N,j,n,r⟩:=h;exact⟨C,l,m,N,e.trans j,n,r.len,r.nd,r.within,λi f d s t=>let ⟨v,u,x⟩:=r.get i f d s t;⟨v,u,x.mono g le⟩⟩
theorem zh.stay (h:zh K Θ ρ S H) (le:Le H H') (e:∀ a∈ρ,H' a=H a):zh K Θ ρ S H' :=
 ⟨h.len,h.nd,λi o q=>let ⟨a,c,d⟩:=h.obj i o q;⟨a,c,d.stay (jd _) le (e a (ZW c))⟩⟩
theorem zh.aside (h:zh K Θ ρ S H) {p:zN} (c:H p=zB) (o:HO):zh K Θ ρ S (upd H p o) :=
 h.stay (Le.new c o) λa m=>jA (λz=>h.fresh c (z ▸ m))
theorem zh.alloc (h:zh K Θ ρ S H) {p:zN} (c:H p=zB) (r:ObR K Θ (ρ++[p]) (upd H p u) p o):zh K Θ (ρ++[p]) (S++[o]) (upd H p u):=by
 refine⟨by simp[h.len],?_,λi ob q=>?_⟩
 ·rw[DC];refine⟨h.nd,by simp,λa ha b f=>?_⟩;have d:b=p:=by simpa using f
  rw[d];exact λz=>h.fresh c (z ▸ ha)
 ·by_cases g:i < S.length
  ·rw[yQ g] at q;obtain⟨a,e,j⟩:=h.obj i ob q;refine⟨a,Js (kU _ _) e,j.stay (kU _ _) (Le.new c u) (jA λz=>h.fresh c (z ▸ ZW e))⟩
  ·rw[yi (by lia)] at q;have hi:i - S.length=0:=by
    cases l:i - S.length with
    | zero=>rfl
    | succ k=>rw[l] at q;simp at q
   rw[hi] at q;simp at q;subst q;refine⟨p,?_,r⟩;rw[yi (by rw[h.len];lia),h.len,hi];rfl
theorem vo {d:Type}{ρ:List d} (c:ρ.Nodup) {i j:Nat}{x:d} (a:ρ[i]? = zA x) (b:ρ[j]? = zA x):i=j:=by
 induction ρ generalizing i j with
 | nil=>simp at a
 | cons y r e =>
  rw[Q4] at c;cases i with
  | zero =>
   cases j with
   | zero=>rfl
   | succ j =>
    simp at a b;subst a;exact absurd (ZW b) c.1
  | succ i =>
   cases j with
   | zero =>
    simp at a b;subst b;exact absurd (ZW a) c.1
   | succ j =>
    simp at a b;rw[e c.2 a b]
theorem iN {c:Type}{l:List c} (h:∀ (i j:Nat) x,l[i]? = zA x->l[j]? = zA x->i=j):l.Nodup:=by
 induction l with
 | nil=>exact Ud
 | cons y r d =>
  refine Q4.mpr ⟨λm=>?_,d λi j x a b=>?_⟩
  ·obtain⟨j,f,e⟩:=Qo.mp m;have:=h 0 (j+1) y (by simp) (by simp[e,f])
   lia
  ·have:=h (i+1) (j+1) x (by simpa using a) (by simpa using b)
   lia
theorem fg {c:Type}{l:List c} (d:l.Nodup) {i j:Nat} (hi:i < l.length) (f:j < l.length) (e:l[i]=l[j]):i=j :=
 vo d (x:=l[i]) (by simp[hi]) (by rw[e];simp[f])
theorem zh.put (h:zh K Θ ρ S H) {i:Nat}{a:zN} (ha:ρ[i]? = zA a) (e:Mut (H a)) (r:ObR K Θ ρ (upd H a u) a o):zh K Θ ρ (S.set i o) (upd H a u):=by
 refine⟨by simp[h.len],h.nd,λj ob q=>?_⟩;by_cases c:i=j
 ·subst c;by_cases f:i < S.length
  ·rw[Z3 f] at q;cases q;exact⟨a,ha,r⟩
  ·rw[Kx (by rw[xK];lia)] at q;cases q
 ·rw[Qd c] at q;obtain⟨b,d,g⟩:=h.obj j ob q;refine⟨b,d,g.stay (jd _) (Le.put e u) (jA λz=>?_)⟩;subst z;exact c (vo h.nd ha d)
end
def XR (K:zV) (Θ:Tab) (g:List zN) (H:Hp) (d:M.D) (C:zN) (e:Option zN):Prop:=∃ (c:Nat) (ds:List M.D) (N:List Str),d=.tup (.int c::ds)/\Θ c=zA (C,N)/\((ds=[]/\N=[]/\e=zB)\/∃ f vs,e=zA f/\H f=zA (.xd (N.zip vs))/\N.length=vs.length/\zl K g H ds vs)
def yY (K:zV) (Θ:Tab) (g:List zN) (H:Hp) (d:M.D) (S:M.S):Prop:=∀ c e C f,g <+: c->Le H e->zh K Θ c S e->XR K Θ c e d C f->Θ.x (.ref C) f e
theorem yY.weak {K:zV}{c:List zN}{S:M.S} (h:yY K Θ g H d S) (e:g <+: c) (le:Le H i):yY K Θ c i d S:=λf j C m p l=>h f j C m (e.trans p) (le.trans l)
noncomputable def zR {g h:Type} (K:zV) (Θ:Tab) (Rl:List zN->Hp->g->h->Prop) (i:List zN) (H:Hp):M.R g->(h->Hp->Prop)->Prop
 | .ok a f,Q=>∀ c e b,i <+: c->Le H e->zh K Θ c f e->Rl c e a b->Q b e
 | .exc d f,_=>yY K Θ i H d f
 | .no,_=>False
noncomputable abbrev rB:List zN->Hp->Bool->Bool->Prop:=λ_ _ a b=>a=b
section
variable {K:zV}{Θ:Tab}{ρ ρ':List zN}{H H':Hp}{S:M.S}{α β γ δ:Type}{Rl:List zN->Hp->α->β->Prop}{Rk:List zN->Hp->γ->δ->Prop}{Q:β->Hp->Prop}{Q':δ->Hp->Prop}
theorem zR.weak {r:M.R α} (h:zR K Θ Rl ρ H r Q) (c:ρ <+: ρ') (le:Le H H'):zR K Θ Rl ρ' H' r Q:=by
 cases r with
 | ok a s=>exact λd f b p l=>h d f b (c.trans p) (le.trans l)
 | exc e s=>exact yY.weak h c le
 | no=>exact h
theorem zR.bind {r:M.R α}{f:α->M.S->M.R γ} (h:zR K Θ Rk ρ H (r.bind f) Q')
  (k:∀ ρ' H' a b d,ρ <+: ρ'->Le H H'->zh K Θ ρ' d H'->Rl ρ' H' a b->zR K Θ Rk ρ' H' (f a d) Q'->Q b H'):zR K Θ Rl ρ H r Q:=by
 cases r with
 | ok a s=>exact λc g b p l i j=>k c g a b s p l i j (zR.weak h p l)
 | exc e s=>exact h
 | no=>exact h
theorem zR.here {a:α}{b:β} (h:zR K Θ Rl ρ H (.ok a S) Q) (c:zh K Θ ρ S H) (d:Rl ρ H a b):Q b H:=h ρ H b (jd _) (Le.refl _) c d
end
def RdE (K:zV) (Θ:Tab) (m:M.EM):TE:=λσ H Q=>∃ d c S,jW K d H c σ/\zh K Θ d S H/\zR K Θ (zZ K) d H (m c S) Q
def RdT (K:zV) (Θ:Tab) (m:M.TM):TT:=λσ H Q=>∃ d c S,jW K d H c σ/\zh K Θ d S H/\zR K Θ rB d H (m c S) Q
def RdA (K:zV) (Θ:Tab) (m:M.AM):TA:=λσ H Q=>∃ d c S,jW K d H c σ/\zh K Θ d S H/\zR K Θ (zl K) d H (m c S) Q
abbrev ME (X:Cx) (Θ:Tab) (e:zi) (m:M.EM):Prop:=PE X e (RdE X.K Θ m)
@[irreducible] def WE (X:Cx) (Θ:Tab) (e:zi) (m:M.EM):Prop:=ME X Θ e m
abbrev MT (X:Cx) (Θ:Tab) (e:zi) (m:M.TM):Prop:=PT X e (RdT X.K Θ m)
@[irreducible] def WT (X:Cx) (Θ:Tab) (e:zi) (m:M.TM):Prop:=MT X Θ e m
abbrev MW (X:Cx) (Θ:Tab) (e:zi) (m:M.TM):Prop:=PW X e (RdT X.K Θ m)
@[irreducible] def WW (X:Cx) (Θ:Tab) (e:zi) (m:M.TM):Prop:=MW X Θ e m
abbrev MA (X:Cx) (Θ:Tab) (es:List zi) (m:M.AM):Prop:=PA X es (RdA X.K Θ m)
@[irreducible] def WA (X:Cx) (Θ:Tab) (es:List zi) (m:M.AM):Prop:=MA X Θ es m
theorem PE.imp {X:Cx}{t':TE} (h:PE X e t) (i:∀ σ H Q,t' σ H Q->t σ H Q):PE X e t':=λc s σ H Q I q=>h c s σ H Q I (i σ H Q q)
theorem PT.imp {X:Cx}{t':TT} (h:PT X e t) (i:∀ σ H Q,t' σ H Q->t σ H Q):PT X e t':=λc s σ H Q I q=>h c s σ H Q I (i σ H Q q)
theorem PW.imp {X:Cx}{t':TT} (h:PW X e t) (i:∀ σ H Q,t' σ H Q->t σ H Q):PW X e t':=λd c s σ H Q I q=>h d c s σ H Q I (i σ H Q q)
theorem PA.imp {X:Cx}{t':TA} (h:PA X es t) (i:∀ σ H Q,t' σ H Q->t σ H Q):PA X es t':=λpos c s σ H Q I q=>h pos c s σ H Q I (i σ H Q q)
theorem PE.up {X:Cx}{m:M.EM} (h:PE X e t) (i:∀ σ H Q f d S,jW X.K f H d σ->zh X.K Θ f S H->zR X.K Θ (zZ X.K) f H (m d S) Q->t σ H Q):PE X e (RdE X.K Θ m):=h.imp λσ H Q ⟨f,d,S,a,b,c⟩=>i σ H Q f d S a b c
theorem PT.up {X:Cx}{m:M.TM} (h:PT X e t) (i:∀ σ H Q f d S,jW X.K f H d σ->zh X.K Θ f S H->zR X.K Θ rB f H (m d S) Q->t σ H Q):PT X e (RdT X.K Θ m):=h.imp λσ H Q ⟨f,d,S,a,b,c⟩=>i σ H Q f d S a b c
theorem PW.up {X:Cx}{m:M.TM} (h:PW X e t) (i:∀ σ H Q f d S,jW X.K f H d σ->zh X.K Θ f S H->zR X.K Θ rB f H (m d S) Q->t σ H Q):PW X e (RdT X.K Θ m):=h.imp λσ H Q ⟨f,d,S,a,b,c⟩=>i σ H Q f d S a b c
theorem PA.up {X:Cx}{m:M.AM} (h:PA X es t) (i:∀ σ H Q e d S,jW X.K e H d σ->zh X.K Θ e S H->zR X.K Θ (zl X.K) e H (m d S) Q->t σ H Q):PA X es (RdA X.K Θ m):=h.imp λσ H Q ⟨e,d,S,a,b,c⟩=>i σ H Q e d S a b c
noncomputable def qS:zi->Bool
 | .Starred _ _=>zP
 | _=>zC
theorem yI {es:List zi} (h:qS e=zC):jS (e::es) env=(zP,eval e env)::jS es env:=by
 cases e<;>first | rfl | cases h
theorem xc:∀ {es:List zi},es.all qS=zC->(qT pos (jS es env)).any (·.1)=zP
 | [],_=>rfl
 | e::es,h=>by
  rw[JJ,j8] at h;rw[yI h.1];show (zP || (qT pos (jS es env)).any (·.1))=zP;rw[xc h.2];rfl
theorem cE:∀ {es:List zi},es.all qS=zC->(qT pos (jS es env)).all (λx=>!x.1)=zC
 | [],_=>rfl
 | e::es,h=>by
  rw[JJ,j8] at h;rw[yI h.1];show (zC && (qT pos (jS es env)).all (λx=>!x.1))=zC;rw[cE h.2];rfl
theorem Cu {es:List zi} (h:es.all qS=zC) (c:es.length < 30):((qT pos (jS es env)).all (λx=>!x.1) && (Jw pos (J5 [] env)).all (λx=>x.1.isSome)
  && decide (es.length+([]:List Vc).length+(if ([]:List Vc).isEmpty then 0 else 1) < 30))=zC:=by
 rw[cE h,Xd,j8];exact⟨rfl,decide_eq_true (by simpa using c)⟩
section
variable {X:Cx}{Θ:Tab}{a b c:zi}{pos:Pos}{ma mb mc:M.EM}{ta tb:M.TM}{jo:List zi}
theorem DM (i:Nat) {x:Str} (g:X.N[i]? = zA x:=by rfl) (j:Vis X.env.scope x:=by first | exact jO rfl | exact vX (jO rfl) | exact vX (vX rfl)) (hd:(x == ("__debug__" : Str))=zP:=by decide)
  (f:(x == ("__classdict__" : Str))=zP:=by decide):WE X Θ (.Name x pos) (M.zD i):=by
 delta WE at ⊢
 exact (NM g j hd f).up λσ H Q o l S st m h=>by
  unfold M.zD at h;split at h
  ·rename_i d e;obtain⟨v,n,r⟩:=st.get i d e;exact⟨v,n,h.here m r⟩
  ·exact h.elim
theorem XS (h:PE X e (tC v)) (r:∀ f H,zZ X.K f H d v):ME X Θ e (M.eC d):=h.up λσ H Q f g S st i h=>h.here i (r f H)
theorem jQ {i:Int}{j:Nat}:WE X Θ (.Constant (.int i) j pos) (M.eC (.int i)):=by
 delta WE at ⊢
 exact XS EO λ_ _=>rfl
theorem QW {k:Bool}{j:Nat}:WE X Θ (.Constant (.bool k) j pos) (M.eC (.bl k)):=by
 delta WE at ⊢
 exact XS gN λ_ _=>rfl
theorem QN {j:Nat}:WE X Θ (.Constant .none j pos) (M.eC .non):=by
 delta WE at ⊢
 exact XS Pw λ_ _=>rfl
theorem nL {y:M.T}{x:Str}{j:Nat} (h:x=ofT y) (ok:okT y):WE X Θ (.Constant (.str x) j pos) (M.eC (.str y)):=by
 delta WE at ⊢
 exact XS CO λ_ _=>by rw[h];exact⟨rfl,ok⟩
theorem Ac (h:Qt X.mg x v) (e:Gl X x) (r:∀ f H,zZ X.K f H d v) (hd:(x == ("__debug__" : Str))=zP:=by decide):WE X Θ (.Name x pos) (M.eC d):=by
 delta WE at ⊢
 exact XS (cq h e hd) r
theorem Vr (n:M.Kd) (d:Gl X x) (hm:X.mg x=zB) (e:yB x=zA (.type (ZC n))) (f:x ≠ "__name__" := by decide) (hd:(x == ("__debug__" : Str))=zP:=by decide):WE X Θ (.Name x pos) (M.eC (.ty n)):=by
 delta WE at ⊢
 exact XS (Hk (v:=.ty (ZC n)) d hm e rfl f hd) λ_ _=>rfl
def Ad2 (K:zV) (Θ:Tab) (f:M.D->M.D->M.S->M.R M.D) (r:R2):Prop:=∀ d H S x y X Y Q,zh K Θ d S H->zZ K d H x X->zZ K d H y Y->zR K Θ (zZ K) d H (f x y S) Q->r X Y H Q
def AdC (K:zV) (Θ:Tab) (f:M.CM) (r:R2):Prop:=∀ d H S x y X Y (Q:VK),zh K Θ d S H->zZ K d H x X->zZ K d H y Y->zR K Θ rB d H (f x y S) (λb e=>Q (.bl b) e)->r X Y H Q
def Ad1 (K:zV) (Θ:Tab) (f:M.D->M.S->M.R M.D) (r:V->Hp->VK->Prop):Prop:=∀ d H S x X Q,zh K Θ d S H->zZ K d H x X->zR K Θ (zZ K) d H (f x S) Q->r X H Q
def AdN (K:zV) (Θ:Tab) (f:M.F) (r:List V->Hp->VK->Prop):Prop:=∀ d H S xs e Q,zh K Θ d S H->zl K d H xs e->zR K Θ (zZ K) d H (f xs S) Q->r e H Q
def AdM (K:zV) (Θ:Tab) (f:M.D->M.F) (r:V->List V->Hp->VK->Prop):Prop :=
 ∀ d H S x xs X e Q,zh K Θ d S H->zZ K d H x X->zl K d H xs e->zR K Θ (zZ K) d H (f x xs S) Q->r X e H Q
theorem jw (m:OpR X (y4 n) r) (ad:Ad2 X.K Θ f r) (ha:WE X Θ a ma) (l:WE X Θ b mb):WE X Θ (.BinOp a n b pos) (M.eOp f ma mb):=by
 delta WE at ha l ⊢
 exact (LH m ha l).up λσ H Q o d S st p h=>⟨o,d,S,st,p,zR.bind h λe G x q s t u g rx v=>⟨e,d,s,st.mono t u,g,
   zR.bind v λi z y Y A B C j ry E=>ad i z A x y q Y Q j (rx.mono B C) ry E⟩⟩
noncomputable def BN:zi->Bool
 | .Slice _ _ _ _=>zP
 | .Tuple _ _ _=>zP
 | _=>zC
theorem H9 {b:zi} (h:BN b=zC):cH b:=λo i=>by
 cases b<;>first | rfl | cases h
theorem yg (m:IxR X r) (ad:Ad2 X.K Θ f r) (ha:WE X Θ a ma) (l:WE X Θ b mb) (n:BN b=zC:=by rfl):WE X Θ (.Subscript a b pos) (M.eOp f ma mb):=by
 delta WE at ha l ⊢
 exact (pB m ha l (H9 n)).up λσ H Q o d S st p h=>⟨o,d,S,st,p,zR.bind h λe G x q s t u g rx v=>⟨e,d,s,st.mono t u,g,
   zR.bind v λi z y Y A B C j ry E=>ad i z A x y q Y Q j (rx.mono B C) ry E⟩⟩
theorem LY (i:UnR X (unaryOp j) r) (ad:Ad1 X.K Θ f r) (ha:WE X Θ a ma):WE X Θ (.UnaryOp j a pos) (M.eUn f ma):=by
 delta WE at ha ⊢
 exact (OZ i ha).up λσ H Q l d S st m h=>⟨l,d,S,st,m,zR.bind h λe n x o p s t g rx q=>ad e n p x o Q g rx q⟩
theorem xX (p:OpR X (jt n) r) (ad:AdC X.K Θ f r) (ha:WE X Θ a ma) (o:WE X Θ b mb) (hm:Jt n b=zP):WE X Θ (.Compare a [n] [b] pos) (M.Zv f ma mb):=by
 delta WE at ha o ⊢
 exact (fP p ha o hm).up λσ H Q q d S st s h=>⟨q,d,S,st,s,zR.bind h λg N x t u v z i rx A=>⟨g,d,u,st.mono v z,i,
   zR.bind A λj B y Y C E G l ry I=>ad j B C x y t Y Q l (rx.mono E G) ry (zR.bind I λJ U k k' S3 p3 l3 m e L=>by cases e;exact L.here m rfl)⟩⟩
theorem qV (v:OpR X (jt p) r) (ad:AdC X.K Θ f r) (ha:WE X Θ a ma) (q:WE X Θ b mb) (hm:Jt p b=zP):WT X Θ (.Compare a [p] [b] pos) (M.jh f ma mb):=by
 delta WE WT at ha q ⊢
 exact (F5 v ha q hm).up λσ H Q z g S st A h=>⟨z,g,S,st,A,zR.bind h λi H1 x B C E G j rx I=>⟨i,g,C,st.mono E G,j,
   zR.bind I λl J y Y t L N m ry d=>ad l J t x y B Y _ m (rx.mono L N) ry (by
    revert d;cases f x y t with
    | ok k s=>exact λd n U u p3 l3 o e=>⟨u,rfl,d n U u p3 l3 o e⟩
    | exc e s=>exact λd=>d
    | no=>exact λd=>d)⟩⟩
theorem WV {K:zV} (r:zZ K d H x v):decide (v=.non)=M.uo x:=by
 cases x with
 | non=>cases r;rfl
 | bl b=>cases r;rfl
 | int b=>cases r;rfl
 | str b=>obtain⟨rfl,_⟩:=r;rfl
 | ty b=>cases r;rfl
 | ref i=>obtain⟨_,rfl,_⟩:=r;rfl
 | tup i=>obtain⟨_,_,rfl,_⟩:=r;rfl
 | ro i=>obtain⟨_,_,rfl,_⟩:=r;rfl
theorem Y9 {j pos'} (ha:WE X Θ a ma):WT X Θ (.Compare a [.Is] [.Constant .none j pos'] pos) (M.xr ma):=by
 delta WE WT at ha ⊢
 exact (D5 (lP ha)).up λσ H Q f d S st g h=>⟨f,d,S,st,g,zR.bind h λi m x n o p q e rx l=>⟨_,rfl,by
  rw[WV rx];exact l.here e rfl⟩⟩
theorem Wf {j pos'} (ha:WE X Θ a ma):WT X Θ (.Compare a [.IsNot] [.Constant .none j pos'] pos) (M.x9 ma):=by
 delta WE WT at ha ⊢
 exact (D5 (gP ha)).up λσ H Q f d S st g h=>⟨f,d,S,st,g,zR.bind h λi m x n o p q e rx l=>⟨_,rfl,by
  rw[WV rx];exact l.here e rfl⟩⟩
theorem AdC.to {K:zV} (ad:AdC K Θ f r) {S:M.S}{y:M.D}{Q:VK}{l:Bool->Hp->Prop} (o:zh K Θ g S H) (rx:zZ K g H x m) (ry:zZ K g H y Y) (h:zR K Θ rB g H (f x y S) l) (e:∀ k n,l k n->Q (.bl k) n):r m Y H Q :=
 ad g H S x y m Y Q o rx ry (by
  revert h;cases f x y S with
  | ok k s=>exact λd i p t u v j q=>e _ _ (d i p t u v j q)
  | exc e s=>exact λd=>d
  | no=>exact λd=>d)
theorem u1 (ho:OpR X (jt J) r) (u:OpR X (jt m) r') (ad:AdC X.K Θ f r) (v:AdC X.K Θ g r') (ha:WE X Θ a ma) (L:WE X Θ b mb) (N:WE X Θ c mc)
  (hm:Uu [J,m] [b,c]=zP:=by with_unfolding_all rfl):WE X Θ (.Compare a [J,m] [b,c] pos) (M.Va f g ma mb mc):=by
 delta WE at ha L N ⊢
 exact (oJ ho u ha L N hm).up λσ H Q ρ i S st rp h=>⟨ρ,i,S,st,rp,zR.bind h λA H1 x X1 S1 U l1 B rx h1=>⟨A,i,S1,st.mono U l1,B,
   zR.bind h1 λC H2 y Y S2 p2 l2 E ry h2=>ad.to E (rx.mono p2 l2) ry (zR.bind (Rl:=rB) (Q:=λk n=>∃ d l,C <+: d/\Le H2 n/\zh X.K Θ d l n/\zR X.K Θ (zZ X.K) d n (if k=zC then (mc i l).bind λz s=>(g y z s).bind λk s=>.ok (.bl k) s else .ok (.bl zP) l) Q) h2
    λd H3 k k' l o p j e t=>by cases e;exact⟨d,l,o,p,j,t⟩) λk H3 ⟨d,l,o,p,j,t⟩=>⟨k,rfl,by
     cases k with
     | false=>exact Jm (zR.here (b:=V.bl zP) t j rfl)
     | true =>
      refine JX ⟨d,i,l,st.mono (U.trans (p2.trans o)) (l1.trans (l2.trans p)),j,zR.bind t λρ4 H4 z Z S4 p4 l4 G rz h4=>v.to G (ry.mono (o.trans p4) (p.trans l4)) rz (zR.bind (Rl:=rB) (Q:=λk n=>Q (.bl k) n) h4 λρ5 H5 k k' S5 p5 l5 I e h5=>by cases e;exact h5.here I rfl) λ_ _ q=>q⟩⟩⟩⟩
theorem gj (ho:OpR X (jt I) r) (u:OpR X (jt m) r') (ad:AdC X.K Θ f r) (v:AdC X.K Θ g r') (ha:WE X Θ a ma) (J:WE X Θ b mb) (L:WE X Θ c mc)
  (hm:Uu [I,m] [b,c]=zP:=by with_unfolding_all rfl):WT X Θ (.Compare a [I,m] [b,c] pos) (M.Ku f g ma mb mc):=by
 delta WE WT at ha J L ⊢
 exact (nt ho u ha J L hm).up λσ H Q ρ i S st rp h=>⟨ρ,i,S,st,rp,zR.bind h λA H1 x X1 S1 N U B rx h1=>⟨A,i,S1,st.mono N U,B,
   zR.bind h1 λC H2 y Y S2 p2 l2 E ry h2=>ad.to E (rx.mono p2 l2) ry (zR.bind (Rl:=rB) (Q:=λk n=>∃ d l,C <+: d/\Le H2 n/\zh X.K Θ d l n/\zR X.K Θ rB d n (if k=zC then (mc i l).bind λz s=>g y z s else .ok zP l) Q) h2
    λd H3 k k' l o p j e t=>by cases e;exact⟨d,l,o,p,j,t⟩) λk H3 ⟨d,l,o,p,j,t⟩=>⟨k,rfl,by
     cases k with
     | false=>exact Jm ⟨zP,rfl,zR.here (b:=false) t j rfl⟩
     | true =>
      refine JX ⟨d,i,l,st.mono (N.trans (p2.trans o)) (U.trans (l2.trans p)),j,zR.bind t λρ4 H4 z Z S4 p4 l4 G rz h4=>v.to G (ry.mono (o.trans p4) (p.trans l4)) rz h4 λk n q=>⟨k,rfl,q⟩⟩⟩⟩⟩
theorem kL (ha:WT X Θ a ta):WW X Θ (.BoolOp .Or [a] pos) ta:=by
 delta WT WW at ha ⊢
 exact HU ha
theorem kW (ha:WT X Θ a ta) (i:WW X Θ (.BoolOp .Or (b::jo) pos) tb):WW X Θ (.BoolOp .Or (a::b::jo) pos) (M.tOr ta tb):=by
 delta WT WW at ha i ⊢
 exact (OB ha i).up λσ H Q l d S st m h=>⟨l,d,S,st,m,zR.bind h λg q k r n o p f e j=>by
   cases e;cases k with
   | true=>exact JX (zR.here (b:=true) j f rfl)
   | false=>exact Jm ⟨g,d,n,st.mono o p,f,j⟩⟩
theorem Zp (ha:WT X Θ a ta):WT X Θ (.UnaryOp .Not a pos) (M.q0 ta):=by
 delta WT at ha ⊢
 exact (gp ha).up λσ H Q g d S st i h=>⟨g,d,S,st,i,zR.bind h λj m k n o p q f e l=>by
  cases e;exact zR.here (b:=!k) l f rfl⟩
theorem KE {d} (ha:WE X Θ a ma):WE X Θ (.BoolOp d [a] pos) ma:=by
 delta WE at ha ⊢
 exact Lg ha
theorem Wq {K:zV}{e g:Type}{i:List zN->Hp->e->g->Prop}{d:List zN}{H:Hp}{x:M.D}{v:V}{S:M.S}{f:Bool->M.S->M.R e}{Q:g->Hp->Prop} (r:zZ K d H x v) (h:zR K Θ i d H ((M.asB x S).bind f) Q):∃ k,v=.bl k/\zR K Θ i d H (f k S) Q:=by
 cases x with
 | bl b=>cases r;exact⟨b,rfl,h⟩
 | _=>exact h.elim
theorem uX (ha:WE X Θ a ma) (i:WE X Θ (.BoolOp .And (b::jo) pos) mb):WE X Θ (.BoolOp .And (a::b::jo) pos) (M.Q3 ma mb):=by
 delta WE at ha i ⊢
 exact (lV ha i).up λσ H Q l d S st m h=>⟨l,d,S,st,m,zR.bind h λg r x s n o p f rx q=>by
   obtain⟨k,e,j⟩:=Wq rx q;refine⟨k,e,?_⟩;cases k with
   | true=>exact JX ⟨g,d,n,st.mono o p,f,j⟩
   | false=>exact Jm (zR.here (b:=V.bl zP) j f rfl)⟩
theorem CN (ha:WE X Θ a ma) (i:WE X Θ (.BoolOp .Or (b::jo) pos) mb):WE X Θ (.BoolOp .Or (a::b::jo) pos) (M.eOr ma mb):=by
 delta WE at ha i ⊢
 exact (pO ha i).up λσ H Q l d S st m h=>⟨l,d,S,st,m,zR.bind h λg r x s n o p f rx q=>by
   obtain⟨k,e,j⟩:=Wq rx q;refine⟨k,e,?_⟩;cases k with
   | true=>exact JX (zR.here (b:=V.bl zC) j f rfl)
   | false=>exact Jm ⟨g,d,n,st.mono o p,f,j⟩⟩
theorem V8:MA X Θ [] M.zS:=WZ.up λσ H Q f d S st e h=>zR.here (b:=[]) h e rfl
theorem zb:WA X Θ [] M.zS:=by with_unfolding_all exact V8
theorem Vh (ha:ME X Θ e ma) (j:MA X Θ es r) (l:qS e=zC:=by rfl):MA X Θ (e::es) (M.zQ ma r) :=
 (WO ha j (yI l)).up λσ H Q m d S st n h=>⟨m,d,S,st,n,zR.bind h λf B x o p q s g rx t=>⟨f,d,p,st.mono q s,g,
  zR.bind t λu C E v G y z i ry A=>A.here i ⟨o,v,rfl,rx.mono y z,ry⟩⟩⟩
theorem zW (ha:WE X Θ e ma) (d:WA X Θ es r) (f:qS e=zC:=by rfl):WA X Θ (e::es) (M.zQ ma r):=by with_unfolding_all exact Vh (e:=e) (es:=es) (r:=r) ha d f
theorem yD {m} (l:WA X Θ es r):WE X Θ (.Tuple es m pos) (M.jq r):=by
 delta WA WE at l ⊢
 exact (Lk l).up λσ H Q n f S st o h=>⟨n,f,S,st,o,zR.bind h λg s xs q t u v i rx d=>by
  by_cases e:xs.length <= M.SZ
  ·rw[if_pos e] at d;rw[Zm,rx.length] at e;exact⟨e,λp j=>d g _ _ (jd _) (Le.new j _) (i.aside j _) ⟨p,q,rfl,SqT.of qD,rx.mono (jd _) (Le.new j _)⟩⟩
  ·rw[if_neg e] at d;exact d.elim⟩
theorem zR.alloc {K:zV}{d:List zN}{H:Hp}{S:M.S}{ds:List M.D}{Q:VK} (h:zR K Θ (zZ K) d H (M.alloc (.lst ds) S) Q) (f:zh K Θ d S H) (r:zl K d H ds xs) {p:zN} (e:H p=zB):Q (.ref p) (upd H p (.lst xs)) :=
 h (d++[p]) _ _ (kU _ _) (Le.new e _) (f.alloc e ⟨xs,qD,r.mono (kU _ _) (Le.new e _)⟩) ⟨p,rfl,by rw[<- f.len];simp⟩
theorem Q5 (i:WA X Θ es r):WE X Θ (.List es pos) (M.Zi r):=by
 delta WA WE at i ⊢
 exact (Ot i).up λσ H Q j f S st l h=>⟨j,f,S,st,l,zR.bind h λm o xs q s t u g rx d=>by
  by_cases e:xs.length <= M.SZ
  ·rw[if_pos e] at d;rw[Zm,rx.length] at e;exact⟨e,λp n=>d.alloc g rx n⟩
  ·rw[if_neg e] at d;exact d.elim⟩
theorem yW {p:Pos}{id:String}{e:zi}{es:List zi} (n:qp X (.builtin id) r) (ad:AdN X.K Θ f r) (o:Gl X x) (hm:X.mg x=zB) (q:yB x=zA (.builtin id)) (ha:WA X Θ (e::es) m)
  (s:x ≠ "__name__" := by decide) (d:(x == ("__debug__" : Str))=zP:=by decide) (t:qS e=zC:=by rfl) (g:es.all qS=zC:=by rfl) :
  WE X Θ (.Call (.Name x p) (e::es) [] pos) (M.zp f m):=by
 delta WA WE at ha ⊢
 exact (eH n o hm q ha s d (yI t) (xc g)).up λσ H Q u i S st v h=>⟨u,i,S,st,v,zR.bind h λj y xs z A C E l rx B=>ad j y A xs z Q l rx B⟩
theorem ko {p:Pos}{T:String}{e:zi}{es:List zi} (n:qp X (.type T) r) (ad:AdN X.K Θ f r) (o:Gl X x) (hm:X.mg x=zB) (q:yB x=zA (.type T)) (ha:WA X Θ (e::es) m)
  (s:x ≠ "__name__" := by decide) (d:(x == ("__debug__" : Str))=zP:=by decide) (t:qS e=zC:=by rfl) (g:es.all qS=zC:=by rfl) :
  WE X Θ (.Call (.Name x p) (e::es) [] pos) (M.zp f m):=by
 delta WA WE at ha ⊢
 exact (HL n o hm q ha s d (yI t) (xc g)).up λσ H Q u i S st v h=>⟨u,i,S,st,v,zR.bind h λj y xs z A C E l rx B=>ad j y A xs z Q l rx B⟩
theorem eY {K:zV}{S:M.S}{k:M.Kd} (j:zh K Θ l S H) (r:zZ K l H x v) (h:M.yj k x S=zC):tyV K (ZC k) v H:=by
 cases x with
 | str z=>obtain⟨rfl,_⟩:=r;cases k<;>first | rfl | cases h
 | ro ds =>
  obtain⟨a,xs,rfl,q,_⟩:=r;cases k<;>first | exact .inl ⟨rfl,xs,q.sq⟩ | cases h
 | ref i =>
  obtain⟨a,rfl,e⟩:=r;cases q:S[i]? with
  | none=>simp[M.yj,q] at h
  | some o =>
   cases o with
   | lst xs =>
    obtain⟨b,d,g,f,_⟩:=j.obj _ _ q;rw[e] at d;cases d;cases k<;>first | exact .inl ⟨rfl,g,SqL.of f⟩ | simp[M.yj,q] at h
   | dct xs =>
    obtain⟨b,d,g,f,_⟩:=j.obj _ _ q;rw[e] at d;cases d;cases k<;>first | exact .inr (.inr (.inl ⟨rfl,.inl ⟨g,f⟩⟩)) | simp[M.yj,q] at h
   | fdc _=>simp[M.yj,q] at h
   | ftt _=>simp[M.yj,q] at h
   | dtt xs =>
    obtain⟨b,d,g,f,_⟩:=j.obj _ _ q;rw[e] at d;cases d;cases k<;>first | exact .inr (.inr (.inl ⟨rfl,.inr (.inr ⟨_,f,λh z=>let ⟨_,_,_,o,_,_,m,n,_⟩:=z;⟨o,m,n⟩⟩)⟩)) | simp[M.yj,q] at h
   | ins c fs=>simp[M.yj,q] at h
 | _=>cases h
theorem y6 {k:M.Kd}{T:String}{e:zi}{es:List zi}{g i:Pos}{id:String} (G:wU T) (slot:Slot T name id) (t:typeOf (.builtin id)=pure (.type "method_descriptor")) (hm:MtR X id r) (ad:AdM X.K Θ f r) (I:T=ZC k) (B:WE X Θ o mo) (ha:WA X Θ (e::es) m)
  (j:JI o name X.env (eval o X.env)=eval o X.env:=by rfl)
  (n:(e::es).length < 30:=by exact Nat.le_of_ble_eq_true rfl) (l:(g.endLine == i.line)=zC:=by rfl) (C:qS e=zC:=by rfl) (d:es.all qS=zC:=by rfl) :
  WE X Θ (.Call (.Attribute o name g) (e::es) [] i) (M.eM k f mo m):=by
 delta WA WE at B ha ⊢
 exact (Ew G slot t hm B ha j (Cu (by rw[JJ,C,d];rfl) n) l (yI C) (xc d)).up λσ H Q J p S st L h=>⟨J,p,S,st,L,zR.bind h λu H1 x N E U Y q rx s=>by
  cases v:M.yj k x E with
  | false=>rw[v] at s;exact s.elim
  | true =>
   rw[v] at s;exact⟨I ▸ eY q rx v,u,p,E,st.mono U Y,q,zR.bind s λy H2 xs Xs S2 p2 l2 z A h2=>ad y H2 S2 x xs N Xs Q z (rx.mono p2 l2) A h2⟩⟩
theorem BG {k:M.Kd}{T:String}{d e:Pos}{id:String} (u:wU T) (slot:Slot T name id) (m:typeOf (.builtin id)=pure (.type "method_descriptor")) (hm:MtR X id r) (ad:AdM X.K Θ f r) (v:T=ZC k) (s:WE X Θ o mo)
  (g:JI o name X.env (eval o X.env)=eval o X.env:=by rfl) (i:(d.endLine == e.line)=zC:=by rfl) :
  WE X Θ (.Call (.Attribute o name d) [] [] e) (M.eM k f mo M.zS):=by
 delta WE at s ⊢
 exact (HQ u slot m hm s g i).up λσ H Q y n S st z h=>⟨y,n,S,st,z,zR.bind h λp A x B t C E j rx l=>by
  cases q:M.yj k x t with
  | false=>rw[q] at l;exact l.elim
  | true =>
   rw[q] at l;exact⟨v ▸ eY j rx q,ad p A t x [] B [] Q j rx rfl l⟩⟩
end
def jD (K:zV) (Θ:Tab) (h:List zN) (H:Hp):M.RS->ZU->Prop
 | .nx f g,D=>∀ c e σ,h <+: c->Le H e->zh K Θ c g e->jW K c e f σ->D.nx σ e
 | .rt d g,D=>∀ c e v,h <+: c->Le H e->zh K Θ c g e->zZ K c e d v->D.rt v e
 | .bk f g,D=>∀ c e σ,h <+: c->Le H e->zh K Θ c g e->jW K c e f σ->D.bk σ e
 | .ct f g,D=>∀ c e σ,h <+: c->Le H e->zh K Θ c g e->jW K c e f σ->D.ct σ e
 | .exc d _ i,_=>yY K Θ h H d i
 | .no,_=>False
def RdS (K:zV) (Θ:Tab) (m:M.SM):TS:=λD σ H=>∃ d c S,jW K d H c σ/\zh K Θ d S H/\jD K Θ d H (m c S) D
abbrev MS (X:Cx) (Θ:Tab) (st:zo) (m:M.SM):Prop:=PS X st (RdS X.K Θ m)
@[irreducible] def WS (X:Cx) (Θ:Tab) (st:zo) (m:M.SM):Prop:=MS X Θ st m
abbrev MSs (X:Cx) (Θ:Tab) (st:List zo) (m:M.SM):Prop:=PSs X st (RdS X.K Θ m)
@[irreducible] def WSs (X:Cx) (Θ:Tab) (st:List zo) (m:M.SM):Prop:=MSs X Θ st m
theorem PS.imp {X:Cx}{t':TS} (h:PS X e t) (i:∀ D σ H,t' D σ H->t D σ H):PS X e t':=λc s σ H D I q=>h c s σ H D I (i D σ H q)
theorem PSs.imp {X:Cx}{t':TS} (h:PSs X e t) (i:∀ D σ H,t' D σ H->t D σ H):PSs X e t':=λc s σ H D I q=>h c s σ H D I (i D σ H q)
theorem PS.up {X:Cx}{m:M.SM} (h:PS X e t) (i:∀ D σ H f d S,jW X.K f H d σ->zh X.K Θ f S H->jD X.K Θ f H (m d S) D->t D σ H):PS X e (RdS X.K Θ m):=h.imp λD σ H ⟨f,d,S,a,b,c⟩=>i D σ H f d S a b c
theorem PSs.up {X:Cx}{m:M.SM} (h:PSs X e t) (i:∀ D σ H f d S,jW X.K f H d σ->zh X.K Θ f S H->jD X.K Θ f H (m d S) D->t D σ H):PSs X e (RdS X.K Θ m):=h.imp λD σ H ⟨f,d,S,a,b,c⟩=>i D σ H f d S a b c
section
variable {K:zV}{Θ:Tab}{ρ ρ':List zN}{H H':Hp}{S:M.S}{α β:Type}{Rl:List zN->Hp->α->β->Prop}{Q:β->Hp->Prop}{D D':ZU}
theorem jD.weak (h:jD K Θ ρ H r D) (d:ρ <+: ρ') (le:Le H H'):jD K Θ ρ' H' r D:=by
 cases r with
 | nx a s=>exact λc f b p l=>h c f b (d.trans p) (le.trans l)
 | rt a s=>exact λc f b p l=>h c f b (d.trans p) (le.trans l)
 | bk a s=>exact λc f b p l=>h c f b (d.trans p) (le.trans l)
 | ct a s=>exact λc f b p l=>h c f b (d.trans p) (le.trans l)
 | exc e a s=>exact yY.weak h d le
 | no=>exact h
theorem jD.stm {r:M.R α}{σ:M.St}{f:α->M.S->M.RS} (h:jD K Θ ρ H (r.stm σ f) D)
  (k:∀ ρ' H' a b d,ρ <+: ρ'->Le H H'->zh K Θ ρ' d H'->Rl ρ' H' a b->jD K Θ ρ' H' (f a d) D->Q b H'):zR K Θ Rl ρ H r Q:=by
 cases r with
 | ok a s=>exact λc g b p l i j=>k c g a b s p l i j (jD.weak h p l)
 | exc e s=>exact h
 | no=>exact h
theorem jD.nx {c:M.St} (h:jD K Θ ρ H (.nx c S) D) (d:zh K Θ ρ S H) (st:jW K ρ H c σ):D.nx σ H:=h ρ H σ (jd _) (Le.refl _) d st
theorem jD.rt {d:M.D} (h:jD K Θ ρ H (.rt d S) D) (c:zh K Θ ρ S H) (r:zZ K ρ H d v):D.rt v H:=h ρ H v (jd _) (Le.refl _) c r
end
section
variable {X:Cx}{Θ:Tab}{e:zi}{pos:Pos}{m:M.EM}{st:zo}{jo:List zo}{ms mr:M.SM}
theorem j7:WSs X Θ [] M.jT:=by
 delta WSs at ⊢
 exact Oj.up λD σ H f c S st d h=>h.nx d st
theorem zk (h:WS X Θ st ms):WSs X Θ [st] ms:=by
 delta WS WSs at h ⊢
 exact fU h
theorem zu (g:WS X Θ st ms) (i:WSs X Θ jo mr):WSs X Θ (st::jo) (M.ze ms mr):=by
 delta WS WSs at g i ⊢
 exact (pR g i).up λD σ H j c S st n h=>⟨j,c,S,st,n,by
  have h':jD X.K Θ j H ((ms c S).then mr) D:=h;revert h';cases ms c S with
  | nx a s=>exact λh' d o σ2 p l f st2=>⟨d,a,s,st2,f,jD.weak h' p l⟩
  | rt a s=>exact λh'=>h'
  | bk a s=>exact λh'=>h'
  | ct a s=>exact λh'=>h'
  | exc e a s=>exact λh'=>h'
  | no=>exact λh'=>h'⟩
theorem iq:WS X Θ (.Continue pos) M.DU:=by
 delta WS at ⊢
 exact il.up λD σ H c d S st f h=>h c H σ (jd _) (Le.refl _) f st
theorem yH (f:WE X Θ e m) (g:xR e zB pos.line X.env=pure zP:=by rfl):WS X Θ (.Expr e pos) (M.qQ m):=by
 delta WE WS at f ⊢
 exact (GG f g).up λD σ H i c S st j h=>⟨i,c,S,st,j,jD.stm h λl q x r s n o d rx p=>p.nx d (st.mono n o)⟩
theorem jU (f:WE X Θ e m):WS X Θ (.Return (zA e) pos) (M.z9 m):=by
 delta WE WS at f ⊢
 exact (L1 f).up λD σ H g c S st i h=>⟨g,c,S,st,i,jD.stm h λj n x o p q r d rx l=>l.rt d rx⟩
theorem iz:WS X Θ (.Return zB pos) M.De:=by
 delta WS at ⊢
 exact Ft.up λD σ H f c S st d h=>jD.rt (v:=.non) h d rfl
theorem qF {i:Nat}{x:Str}{pos':Pos} (g:X.N.Nodup) (hi:X.N[i]? = zA x) (hx:Loc X.env.scope x) (f:WE X Θ e m) (j:xR e (zA (.Name x pos')) pos.line X.env=pure zP:=by kernel_rfl) (l:X.fn x=zC\/X.env.scope.names.lookup x=zA .local:=by first | exact .inl rfl | exact .inr rfl | assumption) :
  WS X Θ (.Assign [.Name x pos'] e pos) (M.jP i m):=by
 delta WE WS at f ⊢
 exact (NJ g hi hx f j l).up λD σ H n c S st o h=>⟨n,c,S,st,o,jD.stm h λp t x u v q r d rx s=>s.nx d ((st.mono q r).set rx i)⟩
theorem jr {a b:List zo} (i:WT X Θ c q) (ha:WSs X Θ a r) (j:WSs X Θ b s):WS X Θ (.If c a b pos) (M.sIf q r s):=by
 delta WS WSs WT at i ha j ⊢
 exact (mH i ha j).up λD σ H t d S st u h=>⟨t,d,S,st,u,jD.stm h λf x k y l n o g v p=>by
  cases v;cases k with
  | true=>exact JX ⟨f,d,l,st.mono n o,g,p⟩
  | false=>exact Jm ⟨f,d,l,st.mono n o,g,p⟩⟩
theorem Lw:MS X Θ st (λ_ _=>.no):=mR.up λD σ H d c S st f h=>h.elim
end
def RdG (K:zV) (Θ:Tab) (i:List Nat) (g:M.GM):TG:=λv σ H Q=>∃ c e S d,jW K c H e σ/\zh K Θ c S H/\zZ K c H d v/\∃ f,g d e=zA f /\
 ∀ h σ2,Le H h->zh K Θ c S h->jW K c h f σ2->σ2.length=σ.length->(∀ j,j∉i->σ2[j]? = σ[j]?)->Q σ2 h
abbrev MG (X:Cx) (Θ:Tab) (c:List Nat) (tg:zi) (g:M.GM):Prop:=PG X tg (RdG X.K Θ c g)
@[irreducible] def WG (X:Cx) (Θ:Tab) (c:List Nat) (tg:zi) (g:M.GM):Prop:=MG X Θ c tg g
theorem PG.imp {X:Cx}{t':TG} (h:PG X e t) (i:∀ v σ H Q,t' v σ H Q->t v σ H Q):PG X e t':=λc s σ H v u Q I r q=>h c s σ H v u Q I r (i v σ H Q q)
theorem yC {X:Cx}{pos:Pos}{i:Nat}{x:Str} (c:X.N.Nodup) (hi:X.N[i]? = zA x) (hx:Loc X.env.scope x) (f:X.fn x=zC\/X.env.scope.names.lookup x=zA .local:=by first | exact .inl rfl | exact .inr rfl | assumption) :
  WG X Θ [i] (.Name x pos) (M.jL i):=by
 delta WG at ⊢
 exact (nv c hi hx f).imp λv σ H Q g=>by
  obtain⟨q,l,S,d,st,m,n,o,e,h⟩:=g;cases e;exact h H _ (Le.refl _) m (st.set n i) (by rw[xK]) λj p=>Qd (λz=>p (by rw[z];simp))
def EF (K:zV) (Θ:Tab) (h:List Nat) (g:M.GMs):TGs:=λvs σ H Q=>∃ c d S ds,jW K c H d σ/\zh K Θ c S H/\zl K c H ds vs/\∃ e,g ds d=zA e /\
 ∀ f σ2,Le H f->zh K Θ c S f->jW K c f e σ2->σ2.length=σ.length->(∀ j,j∉h->σ2[j]? = σ[j]?)->Q σ2 f
abbrev MGs (X:Cx) (Θ:Tab) (c:List Nat) (ts:List zi) (g:M.GMs):Prop:=PGs X ts (EF X.K Θ c g)
@[irreducible] def WGs (X:Cx) (Θ:Tab) (c:List Nat) (ts:List zi) (g:M.GMs):Prop:=MGs X Θ c ts g
theorem PGs.imp {X:Cx}{t':TGs} (h:PGs X e t) (i:∀ v σ H Q,t' v σ H Q->t v σ H Q):PGs X e t':=λc s σ H v u Q I r q=>h c s σ H v u Q I r (i v σ H Q q)
theorem WU {X:Cx}:WGs X Θ [] [] M.Zf:=by
 delta WGs at ⊢
 exact Mc.imp λvs σ H Q c=>by
  obtain⟨l,f,S,ds,st,g,i,j,e,h⟩:=c;cases ds with
  | nil=>cases i;cases e;exact⟨rfl,h H σ (Le.refl _) g st rfl λ_ _=>rfl⟩
  | cons d ds=>cases e
theorem Xt {X:Cx} (A:WG X Θ I e g) (B:WGs X Θ ks es C) (J:∀ {t:TG}{u:TGs},PG X e t->PGs X es u->PGs X (e::es) (qq t u)):WGs X Θ (I++ks) (e::es) (M.qq g C):=by
 delta WG WGs at A B ⊢
 exact (J A B).imp λvs σ H Q L=>by
   obtain⟨E,c,S,ds,st,N,U,l,G,h⟩:=L;cases ds with
   | nil=>cases G
   | cons d ds =>
    obtain⟨y,Y,rfl,r1,r2⟩:=U;have f:(match g d c with | some c=>C ds c | none=>zB)=zA l:=G;cases q:g d c with
    | none=>rw[q] at f;cases f
    | some m =>
     rw[q] at f;refine⟨y,Y,rfl,E,c,S,d,st,N,r1,m,q,λH' σ2 le n st2 hl hj=>⟨E,m,S,ds,st2,n,r2.mono (jd _) le,l,f,λo p r s st3 v x=>h o p (le.trans r) s st3 (v.trans hl) λj i=>?_⟩⟩;rw[Jl] at i;rw[x j λz=>i (.inr z),hj j λz=>i (.inl z)]
theorem pZ {X:Cx}{es:List zi} (h:PG X tg (Zo X.K n (EF X.K Θ i g))) (j:∀ ds σ c,g ds σ=zA c->ds.length=n):MG X Θ i tg (M.Zo g):=h.imp λv σ H Q l=>by
 obtain⟨m,e,S,d,st,o,p,c,f,h⟩:=l;cases d with
 | tup ds =>
  obtain⟨a,xs,rfl,q,r⟩:=p;exact⟨a,xs,rfl,q,by rw[<- r.length];exact j ds e c f,m,e,S,ds,st,o,r,c,f,h⟩
 | _=>cases f
structure ItR (K:zV) (Θ:Tab) (ρ:List zN) (H:Hp) (J:It) (xs:List M.D) (g:M.Gd):Prop where
 go:∀ (i:Nat) ρ' S' H',ρ <+: ρ'->Le H H'->zh K Θ ρ' S' H'->M.z8 g S'=zC->i < xs.length->J.go i H'
 yld:∀ (i:Nat) ρ' S' H' v H2,ρ <+: ρ'->Le H H'->zh K Θ ρ' S' H'->M.z8 g S'=zC->i < xs.length->J.yld i H' v H2->∃ d,xs[i]? = zA d/\zZ K ρ' H2 d v/\Le H' H2/\zh K Θ ρ' S' H2
 stop:∀ ρ' S' H',ρ <+: ρ'->Le H H'->zh K Θ ρ' S' H'->M.z8 g S'=zC->J.stop xs.length H'
def RdI (K:zV) (Θ:Tab) (m:M.IM):TI:=λσ H R=>∃ d c S,jW K d H c σ/\zh K Θ d S H /\
 zR K Θ (λe f (p:List M.D×M.Gd) (J:It)=>ItR K Θ e f J p.1 p.2) d H ((m c S).bind λp s=>if M.z8 p.2 s then .ok p s else .no) R
abbrev MI (X:Cx) (Θ:Tab) (tg qB:zi) (m:M.IM):Prop:=PI X tg qB (RdI X.K Θ m)
@[irreducible] def WI (X:Cx) (Θ:Tab) (tg qB:zi) (m:M.IM):Prop:=MI X Θ tg qB m
theorem PI.imp {X:Cx}{t':TI} (h:PI X tg e t) (i:∀ σ H R,t' σ H R->t σ H R):PI X tg e t':=λc s σ H R I q=>h c s σ H R I (i σ H R q)
theorem PI.or {X:Cx} (h:PI X tg e t) (h':PI X tg e t'):PI X tg e (λσ H R=>t σ H R\/t' σ H R):=λc s σ H R I q=>by
 rcases q with q | q
 ·exact h c s σ H R I q
 ·exact h' c s σ H R I q
section
variable {X:Cx}{Θ:Tab}{tg e:zi}{m:M.EM}
theorem Of {K:zV}{u:List zN}{i:Nat}{a:zN} (ha:u[i]? = zA a):ItR K Θ u H (Itl K a) ds [(i,.lst ds)]:=by
 have n:∀ {c:List zN}{o:M.S}{q:Hp},u <+: c->zh K Θ c o q->M.z8 [(i,.lst ds)] o=zC->∃ f,q a=zA (.lst f)/\zl K c q ds f:=λ{c o q} p h g=>by
  have g':o[i]? = zA (M.O.lst ds):=by simpa [M.z8] using g
  obtain⟨b,s,f,z,r⟩:=h.obj i _ g';rw[Js p ha] at s;cases s;exact⟨f,z,r⟩
 refine⟨λj c o q p l h g t=>?_,λj c o q v C p l h g t y=>?_,λc o q p l h g=>?_⟩
 ·obtain⟨f,e,r⟩:=n p h g;obtain⟨v,s,_⟩:=r.get (i:=j) (d:=ds[j]) (by simp[t]);exact⟨f,v,SqL.of e,s⟩
 ·obtain⟨f,e,r⟩:=n p h g;obtain⟨E,s,A⟩:=r.get (i:=j) (d:=ds[j]) (by simp[t]);obtain⟨rfl,B⟩:=y;have x:=B f (SqL.of e);rw[s] at x;cases x;exact⟨ds[j],by simp[t],A,Le.refl _,h⟩
 ·obtain⟨f,e,r⟩:=n p h g;exact⟨f,SqL.of e,Kk r.length.symm⟩
theorem ie {K:zV}{a:zN} (h:Z5 K H a xs) (r:zl K u H ds xs):ItR K Θ u H (Itl K a) ds []:=by
 refine⟨λj c q s p l n g f=>?_,λj c q s v A p l n g f y=>?_,λc q s p l n g=>?_⟩
 ·obtain⟨v,o,_⟩:=r.get (i:=j) (d:=ds[j]) (by simp[f]);exact⟨xs,v,(l.rol h).sq,o⟩
 ·obtain⟨B,o,x⟩:=(r.mono p l).get (i:=j) (d:=ds[j]) (by simp[f]);obtain⟨rfl,z⟩:=y;have t:=z xs (l.rol h).sq;rw[o] at t;cases t;exact⟨ds[j],by simp[f],x,Le.refl _,n⟩
 ·exact⟨xs,(l.rol h).sq,Kk r.length.symm⟩
theorem fW {K:zV}{a:zN} (h:SqT K H a xs) (r:zl K u H ds xs):ItR K Θ u H (Itt K a) ds []:=by
 refine⟨λj c q s p l n g f=>?_,λj c q s v A p l n g f y=>?_,λc q s p l n g=>?_⟩
 ·obtain⟨v,o,_⟩:=r.get (i:=j) (d:=ds[j]) (by simp[f]);exact⟨xs,v,l.sqT h,o⟩
 ·obtain⟨B,o,x⟩:=(r.mono p l).get (i:=j) (d:=ds[j]) (by simp[f]);obtain⟨rfl,z⟩:=y;have t:=z xs (l.sqT h);rw[o] at t;cases t;exact⟨ds[j],by simp[f],x,Le.refl _,n⟩
 ·exact⟨xs,l.sqT h,Kk r.length.symm⟩
theorem HI {K:zV} (ok:okT x):ItR K Θ s H (Its (ofT x)) (x.map λc=>.str [c]) []:=by
 refine⟨λj f o q p l i g n=>?_,λj f o q v t p l i g n y=>?_,λf o q p l i g=>?_⟩
 ·rw[qd] at n;show j < (ofT x).length;rw[yM];exact n
 ·obtain⟨rfl,c,r,rfl⟩:=y;have h:x[j]? = zA c:=by simpa [ofT] using r
  exact⟨.str [c],by rw[y9,h];rfl,⟨rfl,ku ok λd hd=>by rw[Jg.mp hd];exact ZW h⟩,Le.refl _,i⟩
 ·show (ofT x).length <= _;rw[yM,qd];exact jB _
theorem BC {K:zV}{lo hi:Int}:ItR K Θ o H (Itr lo (hi - lo).toNat) (M.ZT lo hi) []:=by
 refine⟨λj c i n p l d g f=>?_,λj c i n v q p l d g f y=>?_,λc i n p l d g=>?_⟩
 ·show j < _;simpa [M.ZT] using f
 ·obtain⟨rfl,rfl⟩:=y;have h:j < (hi - lo).toNat:=by simpa [M.ZT] using f
  exact⟨.int (lo+j),by unfold M.ZT;rw[y9,XB h];rfl,rfl,Le.refl _,d⟩
 ·show _ <= _;simp[M.ZT]
theorem QC (B:WE X Θ e m):WI X Θ tg e (M.iE m):=by
 delta WE WI at B ⊢
 exact (PI.or (fZ B) (PI.or (NQ B) (mv B))).imp λσ H R L=>by
  obtain⟨z,t,S,st,C,h⟩:=L;have h':zR X.K Θ _ z H (((m t S).bind M.itD).bind λp s=>if M.z8 p.2 s then .ok p s else .no) R:=h;clear h;cases hm:m t S with
  | no=>rw[hm] at h';exact h'.elim
  | exc a s=>rw[hm] at h';exact .inl ⟨z,t,S,st,C,by rw[hm];exact h'⟩
  | ok d u =>
   rw[hm] at h';have go:∀ {Q:VK},(∀ f n v,z <+: f->Le H n->zh X.K Θ f u n->zZ X.K f n d v->Q v n)->RdE X.K Θ m σ H Q:=λq=>⟨z,t,S,st,C,by rw[hm];exact q⟩
   cases d with
   | str x =>
    refine .inr (.inr (go λf n v p l g y=>?_));have j:zR X.K Θ _ z H ((if x.length <= M.SZ then .ok (x.map λc=>M.D.str [c],[]) u else M.R.no).bind λp s=>if M.z8 p.2 s then .ok p s else .no) R:=h';by_cases E:x.length <= M.SZ
    ·rw[if_pos E] at j;exact⟨ofT x,y.1,j f n _ p l g (HI y.2)⟩
    ·rw[if_neg E] at j;exact j.elim
   | tup ds =>
    refine .inr (.inl (go λf n v p l g y=>?_));obtain⟨a,xs,rfl,A,r⟩:=y;exact⟨a,rfl,⟨xs,A⟩,h' f n _ p l g (fW A r)⟩
   | ro ds =>
    refine .inl (go λf n v p l g y=>?_);obtain⟨a,xs,rfl,A,r⟩:=y;exact⟨a,rfl,⟨xs,A.sq⟩,h' f n _ p l g (ie A r)⟩
   | ref i =>
    have j:zR X.K Θ _ z H ((match u[i]? with
     | some (.lst xs)=>M.R.ok (xs,[(i,M.O.lst xs)]) u
     | _=>.no).bind λp s=>if M.z8 p.2 s then .ok p s else .no) R:=h'
    cases q:u[i]? with
    | none=>rw[q] at j;exact j.elim
    | some o =>
     rw[q] at j;cases o with
     | lst xs =>
      refine .inl (go λf n v p l g y=>?_);obtain⟨a,rfl,G⟩:=y;obtain⟨b,I,N,U,r⟩:=g.obj i _ q;rw[G] at I;cases I;have Y:M.z8 [(i,M.O.lst xs)] u=zC:=by simp[M.z8,q]
      have J:zR X.K Θ _ z H (if M.z8 [(i,M.O.lst xs)] u then M.R.ok (xs,[(i,M.O.lst xs)]) u else .no) R:=j;rw[if_pos Y] at J;exact⟨a,rfl,⟨N,SqL.of U⟩,J f n _ p l g (Of G)⟩
     | dct kvs=>exact j.elim
     | fdc _=>exact j.elim
     | dtt _=>exact j.elim
     | ftt _=>exact j.elim
     | ins c fs=>exact j.elim
   | non=>exact h'.elim
   | bl b=>exact h'.elim
   | int b=>exact h'.elim
   | ty b=>exact h'.elim
theorem Mi {p pos:Pos} (u:Gl X "range") (hm:X.mg "range" = zB) (q:WE X Θ e m) (r:qS e=zC:=by rfl):WI X Θ tg (.Call (.Name "range" p) [e] [] pos) (M.Vw m):=by
 delta WE WI at q ⊢
 exact (Mv u hm (Vh q V8 r) (yI r)).imp λσ H R ⟨f,c,S,st,y,h⟩=>⟨f,c,S,st,y,by
   have h':zR X.K Θ _ f H (((m c S).bind λx s=>match x with
    | .int j=>if j.natAbs < 4611686018427387904 then M.R.ok (M.ZT 0 j,([]:M.Gd)) s else .no
    | _=>.no).bind λp s=>if M.z8 p.2 s then .ok p s else .no) R:=h
   show zR X.K Θ _ f H ((m c S).bind λx s=>(M.R.ok [] s).bind λxs s=>.ok (x::xs) s) _;cases hm:m c S with
   | no=>rw[hm] at h';exact h'.elim
   | exc a s=>rw[hm] at h';exact h'
   | ok d z =>
    rw[hm] at h';intro i A vs p l n o;obtain⟨v,C,rfl,o,B⟩:=o;cases B;cases d with
    | int j =>
     cases o;have g:zR X.K Θ _ f H ((if j.natAbs < 4611686018427387904 then M.R.ok (M.ZT 0 j,([]:M.Gd)) z else .no).bind λp s=>if M.z8 p.2 s then .ok p s else .no) R:=h';by_cases t:j.natAbs < 4611686018427387904
     ·rw[if_pos t] at g;refine⟨j,rfl,by lia,by lia,?_⟩;have:=g i A _ p l n (BC (lo:=0) (hi:=j));rw[Int.sub_zero] at this;exact this
     ·rw[if_neg t] at g;exact g.elim
    | _=>exact h'.elim⟩
theorem pT {p pos:Pos} (I:Gl X "range") (hm:X.mg "range" = zB) (B:WE X Θ e m) (n:WE X Θ C o)
  (E:qS e=zC:=by rfl) (f:qS C=zC:=by rfl):WI X Θ tg (.Call (.Name "range" p) [e,C] [] pos) (M.UW m o):=by
 delta WE WI at B n ⊢
 exact (ND I hm (Vh B (Vh n V8 f) E) (by rw[yI E,yI f];rfl) (yI f)).imp λσ H R ⟨q,c,S,st,J,h⟩=>⟨q,c,S,st,J,by
   have h':zR X.K Θ _ q H (((m c S).bind λx s=>(o c s).bind λy s=>match x,y with
    | .int i,.int j=>if i.natAbs < 4611686018427387904/\j.natAbs < 4611686018427387904 then M.R.ok (M.ZT i j,([]:M.Gd)) s else .no
    | _,_=>.no).bind λp s=>if M.z8 p.2 s then .ok p s else .no) R:=h
   show zR X.K Θ _ q H ((m c S).bind λx s=>((o c s).bind λy s=>(M.R.ok [] s).bind λxs s=>.ok (y::xs) s).bind λxs s=>.ok (x::xs) s) _;cases hm:m c S with
   | no=>rw[hm] at h';exact h'.elim
   | exc a s=>rw[hm] at h';exact h'
   | ok d L =>
    rw[hm] at h';rw[M.ji];rw[M.ji] at h';cases g:o c L with
    | no=>rw[g] at h';exact h'.elim
    | exc a s=>rw[g] at h';exact h'
    | ok N Q =>
     rw[g] at h';intro t U vs p l u z;obtain⟨v,ys,rfl,z,v2,zs,rfl,A,Y⟩:=z;cases Y;cases d with
     | int i =>
      cases N with
      | int j =>
       cases z;cases A;have r:zR X.K Θ _ q H ((if i.natAbs < 4611686018427387904/\j.natAbs < 4611686018427387904 then M.R.ok (M.ZT i j,([]:M.Gd)) Q else .no).bind λp s=>if M.z8 p.2 s then .ok p s else .no) R:=h';by_cases G:i.natAbs < 4611686018427387904/\j.natAbs < 4611686018427387904
       ·rw[if_pos G] at r;exact⟨i,j,rfl,⟨by lia,by lia,by lia,by lia⟩,r t U _ p l u BC⟩
       ·rw[if_neg G] at r;exact r.elim
      | _=>exact h'.elim
     | _=>exact h'.elim⟩
end
section
variable {X:Cx}{Θ:Tab}{pos:Pos}
theorem Eo (hp:uJ (za X.prog X.w) X.A X.env X.xe) (J:WT X Θ c t) (L:WSs X Θ u m):WS X Θ (.While c u [] pos) (M.Xy t m):=by
 delta WS WSs WT at J L ⊢
 exact (HK hp J L).up λD σ H ρ B S st rp h=>by
   refine⟨λk σ2 y=>∃ i d z,jW X.K i y d σ2/\zh X.K Θ i z y/\jD X.K Θ i y (M.ZG k t m d z) D,⟨M.Dz,ρ,B,S,st,rp,h⟩,?_⟩
   rintro k σ2 y ⟨i,d,z,st2,C,N⟩
   cases k with
   | zero=>exact N.elim
   | succ k =>
    refine⟨i,d,z,st2,C,jD.stm N λv H3 b b' E Q U x eb Y=>?_⟩;cases eb;cases b with
    | false=>exact Jm (jD.nx (σ:=σ2) Y x (st2.mono Q U))
    | true =>
     refine JX ⟨λj p=>∃ f l S4,jW X.K f p l j/\zh X.K Θ f S4 p/\jD X.K Θ f p (M.ZG k t m l S4) D,λj p q=>⟨k,u6 k,q⟩,v,d,E,st2.mono Q U,x,?_⟩;have g:jD X.K Θ v H3 (match m d E with
      | .nx σ s=>M.ZG k t m σ s
      | .ct σ s=>M.ZG k t m σ s
      | .bk σ s=>.nx σ s
      | r=>r) D:=Y
     revert g;cases m d E with
     | nx a s=>exact λg f p j G I n o=>⟨f,a,s,o,n,jD.weak g G I⟩
     | ct a s=>exact λg f p j G I n o=>⟨f,a,s,o,n,jD.weak g G I⟩
     | bk a s=>exact λg=>g
     | rt a s=>exact λg=>g
     | exc e a s=>exact λg=>g
     | no=>exact λg=>g
theorem cC {K:zV}{D:ZU} (G:ItR K Θ n I J xs l) (st:jW K n I o σ) (rp1:zh K Θ n S1 I) (hgd:M.z8 l S1=zC) (h2:jD K Θ n I (M.qR l (M.yO g q) xs o S1) D) :
  ∃ W:Nat->Nat->St->Hp->Prop,(∃ m,W 0 m σ I)/\∀ i m σ H,W i m σ H ->
   (J.stop i H/\D.nx σ H)\/(J.go i H/\∃ N:St->Hp->Prop,(∀ o L,N o L->∃ m',m' < m/\W (i+1) m' o L)/\∀ x L,J.yld i H x L->RdG K Θ js g x σ L λσ2 u=>RdS K Θ q { D with nx:=N,ct:=N,bk:=D.nx } σ2 u):=by
 refine⟨λi k σ2 u=>∃ c j t,n <+: c/\Le I u/\jW K c u j σ2/\zh K Θ c t u/\M.z8 l t=zC/\k=xs.length - i/\i <= xs.length/\jD K Θ c u (M.qR l (M.yO g q) (xs.drop i) j t) D,
  ⟨xs.length,n,o,S1,jd _,Le.refl _,st,rp1,hgd,rfl,XF _,h2⟩,?_⟩
 rintro i k σ2 u ⟨c,j,t,p2,l2,st2,z,g2,rfl,hi2,h3⟩
 by_cases A:i < xs.length
 ·refine .inr ⟨G.go i c t u p2 l2 z g2 A,λQ H3=>∃ f h B,n <+: f/\Le I H3/\jW K f H3 h Q/\zh K Θ f B H3/\M.z8 l B=zC/\jD K Θ f H3 (M.qR l (M.yO g q) (xs.drop (i+1)) h B) D,
   λQ H3 ⟨f,h,B,a1,a2,a3,a4,a5,a6⟩=>⟨xs.length - (i+1),by lia,f,h,B,a1,a2,a3,a4,a5,rfl,A,a6⟩,λx L y=>?_⟩
  obtain⟨d,ed,rd,ld,rpd⟩:=G.yld i c t u x L p2 l2 z g2 A y;have edr:xs.drop i=d::xs.drop (i+1):=by
   obtain⟨_,e⟩:=yp.mp ed;rw[vg A,e]
  rw[edr] at h3;have h4:jD K Θ c u (match (match g d j with | some o=>q o t | none=>M.RS.no) with
   | .nx σ s=>if M.z8 l s then M.qR l (M.yO g q) (xs.drop (i+1)) σ s else .no
   | .ct σ s=>if M.z8 l s then M.qR l (M.yO g q) (xs.drop (i+1)) σ s else .no
   | .bk σ s=>.nx σ s
   | r=>r) D:=h3
  cases U:g d j with
  | none=>rw[U] at h4;exact h4.elim
  | some C =>
   rw[U] at h4;refine⟨c,j,t,d,st2.mono (jd _) ld,rpd,rd,C,U,λY Q le3 rp3 st3 _ _=>⟨c,C,t,st3,rp3,?_⟩⟩;have h5:=jD.weak h4 (jd _) (ld.trans le3);have p:jD K Θ c Y (match q C t with
    | .nx σ s=>if M.z8 l s then M.qR l (M.yO g q) (xs.drop (i+1)) σ s else .no
    | .ct σ s=>if M.z8 l s then M.qR l (M.yO g q) (xs.drop (i+1)) σ s else .no
    | .bk σ s=>.nx σ s
    | r=>r) D:=h5
   have more:∀ (a:M.St) (s:M.S),jD K Θ c Y (if M.z8 l s then M.qR l (M.yO g q) (xs.drop (i+1)) a s else .no) D->∀ v E σ4,c <+: v->Le Y E->zh K Θ v s E->jW K v E a σ4 ->
     ∃ f h B,n <+: f/\Le I E/\jW K f E h σ4/\zh K Θ f B E/\M.z8 l B=zC/\jD K Θ f E (M.qR l (M.yO g q) (xs.drop (i+1)) h B) D:=λa s h7 v E σ4 p4 l4 rp4 st4=>by
    by_cases hs:M.z8 l s=zC
    ·rw[if_pos hs] at h7;exact⟨v,a,s,p2.trans p4,l2.trans (ld.trans (le3.trans l4)),st4,rp4,hs,jD.weak h7 p4 l4⟩
    ·rw[if_neg hs] at h7;exact h7.elim
   revert p;cases q C t with
   | nx a s=>exact λp=>more a s p
   | ct a s=>exact λp=>more a s p
   | bk a s=>exact λp=>p
   | rt a s=>exact λp=>p
   | exc e a s=>exact λp=>p
   | no=>exact λp=>p
 ·have e:i=xs.length:=by lia
  subst e;rw[pX] at h3;exact .inl ⟨G.stop c t u p2 l2 z g2,jD.nx (σ:=σ2) h3 z st2⟩
theorem kz {qB:zi} (y:uJ (za X.prog X.w) X.A X.env X.xe) (z:X.calm=zC) (hi:WI X Θ tg qB it) (r:WG X Θ G tg g) (t:WSs X Θ f m)
  (B:∀ x,Kc qB X.env x=pure x:=by intro _;rfl):WS X Θ (.For tg qB f [] pos) (M.QE it g m):=by
 delta WG WI WS WSs at hi r t ⊢
 exact (DB y z hi r t B).up λD σ H j c S st C h=>⟨j,c,S,st,C,by
   have h':jD X.K Θ j H ((it c S).stm c λp s=>if M.z8 p.2 s=zC then M.qR p.2 (M.yO g m) p.1 c s else .no) D:=h;cases hit:it c S with
   | no=>rw[hit] at h';exact h'.elim
   | exc a s=>rw[hit] at h';exact h'
   | ok p i =>
    rw[hit] at h';obtain⟨xs,e⟩:=p;show zR X.K Θ _ j H (if M.z8 e i then M.R.ok (xs,e) i else .no) _;have l:jD X.K Θ j H (if M.z8 e i=zC then M.qR e (M.yO g m) xs c i else .no) D:=h';by_cases d:M.z8 e i=zC
    case neg=>rw[if_neg d] at l;exact l.elim
    rw[if_pos d] at l;rw[if_pos d];intro n E J u v o (q:ItR X.K Θ n E J xs e);exact cC q (st.mono u v) o d (jD.weak l u v)⟩
theorem lQ {K:zV}{js:List Nat}{S:M.S}{R:List V->Hp->Prop} (st:jW K ρ H c σ) (rp:zh K Θ ρ S H) (hj:∀ j∈js,σ.length <= j)
  (h:zR K Θ (zl K) ρ H (M.yd n it g A me c S) R) :
  RdI K Θ it σ H λJ H1=>∃ W:Nat->Nat->List V->Hp->Prop,(∃ m,W 0 m [] H1)/\∀ i m l u,W i m l u->l.length <= z5 /\
   ((J.stop i u/\R l u) \/
    (J.go i u/\∀ x H3,J.yld i u x H3->RdG K Θ js g x (σ++zm n zB) H3 λσ2 H4=>Wk (σ++zm n zB) σ2/\RdT K Θ A σ2 H4 λb H5 =>
     if b=zC then RdE K Θ me σ2 H5 λy H6=>∃ Y,Y < m/\W (i+1) Y (l++[y]) H6 else ∃ Y,Y < m/\W (i+1) Y l H5)):=by
 refine⟨ρ,c,S,st,rp,?_⟩;have h':zR K Θ (zl K) ρ H ((it c S).bind λp s=>if p.1.length <= M.SZ/\M.z8 p.2 s=zC then M.ym p.2 (M.yL n g A me c) p.1 s else .no) R:=h;cases hit:it c S with
 | no=>rw[hit] at h';exact h'.elim
 | exc a s=>rw[hit] at h';exact h'
 | ok p S1 =>
  rw[hit] at h';obtain⟨xs,q⟩:=p;show zR K Θ _ ρ H (if M.z8 q S1 then M.R.ok (xs,q) S1 else .no) _;have h2:zR K Θ (zl K) ρ H (if xs.length <= M.SZ/\M.z8 q S1=zC then M.ym q (M.yL n g A me c) xs S1 else .no) R:=h';by_cases I:xs.length <= M.SZ/\M.z8 q S1=zC
  case neg=>rw[if_neg I] at h2;exact h2.elim
  rw[if_pos I] at h2;rw[if_pos I.2];intro E H1 J p1 l1 rp1 (itr:ItR K Θ E H1 J xs q);refine⟨λi k l u=>∃ f z ds,E <+: f/\Le H1 u/\zh K Θ f z u/\M.z8 q z=zC/\zl K f u ds l/\ds.length <= i/\k=xs.length - i/\i <= xs.length/\zR K Θ (zl K) f u ((M.ym q (M.yL n g A me c) (xs.drop i) z).bind λes s=>.ok (ds++es) s) R,
   ⟨xs.length,E,S1,[],jd _,Le.refl _,rp1,I.2,rfl,jB _,rfl,XF _,?_⟩,?_⟩
  ·have C:=zR.weak h2 p1 l1;revert C;show zR K Θ (zl K) E H1 (M.ym q (M.yL n g A me c) xs S1) R->_;rw[UV];cases M.ym q (M.yL n g A me c) xs S1 with
   | ok a s=>exact λC=>C
   | exc e s=>exact λC=>C
   | no=>exact λC=>C
  rintro i k l u ⟨f,z,ds,p2,l2,L,g2,N,hdl,rfl,hi2,C⟩
  refine⟨by rw[<- N.length,<- Zm];lia,?_⟩;by_cases Q:i < xs.length
  ·refine .inr ⟨itr.go i f z u p2 l2 L g2 Q,λx H3 y=>?_⟩;obtain⟨d,ed,rd,ld,rpd⟩:=itr.yld i f z u x H3 p2 l2 L g2 Q y;have edr:xs.drop i=d::xs.drop (i+1):=by
    obtain⟨_,e⟩:=yp.mp ed;rw[vg Q,e]
   rw[edr] at C;have h4:zR K Θ (zl K) f u (((match g d (c++zm n zB) with
     | none=>M.R.no
     | some r=>(A r z).bind λb s=>if b then (me r s).bind λd s=>.ok (zA d) s else .ok zB s).bind λo s =>
      if M.z8 q s then (M.ym q (M.yL n g A me c) (xs.drop (i+1)) s).bind λl s=>.ok (match o with | some y=>y::l | none=>l) s else .no).bind λes s=>.ok (ds++es) s) R:=C
   cases hgq:g d (c++zm n zB) with
   | none=>rw[hgq] at h4;exact h4.elim
   | some r =>
    rw[hgq] at h4;refine⟨f,c++zm n zB,z,d,((st.mono (p1.trans p2) (l1.trans (l2.trans ld))).more n),rpd,rd,r,hgq,λH4 σ2 U rp4 st4 hl4 hj4=>⟨⟨hl4.symm,λj v e=>?_⟩,f,r,z,st4,rp4,?_⟩⟩
    ·by_cases hjj:j∈js
     ·rw[yi (hj j hjj),KS] at e;split at e<;>cases e
     ·rw[hj4 j hjj];exact e
    ·have h5:=zR.weak h4 (jd _) (ld.trans U);dsimp only at h5;cases htc:A r z with
     | no=>rw[htc] at h5;exact h5.elim
     | exc a s=>rw[htc] at h5;exact h5
     | ok b S3 =>
      rw[htc] at h5;intro G H5 b' p5 l5 rp5 eb;cases eb;have next:∀ (o:Option M.D) (s:M.S) (t:List zN) (H6:Hp) (zs:List V),f <+: t->Le H4 H6->zh K Θ t s H6->zl K t H6 (match o with | some y=>ds++[y] | none=>ds) zs ->
        zR K Θ (zl K) t H6 ((if M.z8 q s then (M.ym q (M.yL n g A me c) (xs.drop (i+1)) s).bind λl s=>.ok (match o with | some y=>y::l | none=>l) s else .no).bind λes s=>.ok (ds++es) s) R ->
        ∃ Y,Y < xs.length - i/\∃ f z es,E <+: f/\Le H1 H6/\zh K Θ f z H6/\M.z8 q z=zC/\zl K f H6 es zs/\es.length <= i+1/\Y=xs.length - (i+1)/\i+1 <= xs.length /\
         zR K Θ (zl K) f H6 ((M.ym q (M.yL n g A me c) (xs.drop (i+1)) z).bind λfs s=>.ok (es++fs) s) R:=λo s t H6 zs p6 l6 rp6 rz B=>by
       by_cases hs:M.z8 q s=zC
       case neg=>rw[if_neg hs] at B;exact B.elim
       rw[if_pos hs] at B;refine⟨xs.length - (i+1),by lia,t,s,_,p2.trans p6,l2.trans (ld.trans (U.trans l6)),rp6,hs,rz,?_,rfl,Q,?_⟩
       ·cases o<;>simp<;>lia
       ·revert B;cases M.ym q (M.yL n g A me c) (xs.drop (i+1)) s with
        | ok a s2 =>
         intro B;cases o with
         | none=>exact B
         | some y =>
          show zR K Θ (zl K) t H6 (.ok (ds++[y]++a) s2) R;rw[yr];exact B
        | exc e s=>exact λB=>B
        | no=>exact λB=>B
      cases b with
      | false=>exact Jm (next zB S3 G H5 l p5 l5 rp5 (N.mono p5 (ld.trans (U.trans l5))) (zR.weak h5 p5 l5))
      | true =>
       refine JX ⟨G,r,S3,st4.mono p5 l5,rp5,?_⟩;have B:=zR.weak h5 p5 l5;cases hme:me r S3 with
       | no =>
        have h7:zR K Θ (zl K) G H5 ((((me r S3).bind λd s=>M.R.ok (zA d) s).bind λo s=>if M.z8 q s then (M.ym q (M.yL n g A me c) (xs.drop (i+1)) s).bind λl s=>.ok (match o with | some y=>y::l | none=>l) s else .no).bind λes s=>.ok (ds++es) s) R:=B;rw[hme] at h7;exact h7.elim
       | exc a s =>
        have h7:zR K Θ (zl K) G H5 ((((me r S3).bind λd s=>M.R.ok (zA d) s).bind λo s=>if M.z8 q s then (M.ym q (M.yL n g A me c) (xs.drop (i+1)) s).bind λl s=>.ok (match o with | some y=>y::l | none=>l) s else .no).bind λes s=>.ok (ds++es) s) R:=B;rw[hme] at h7;exact h7
       | ok y S6 =>
        have h7:zR K Θ (zl K) G H5 ((((me r S3).bind λd s=>M.R.ok (zA d) s).bind λo s=>if M.z8 q s then (M.ym q (M.yL n g A me c) (xs.drop (i+1)) s).bind λl s=>.ok (match o with | some y=>y::l | none=>l) s else .no).bind λes s=>.ok (ds++es) s) R:=B;rw[hme] at h7;intro t H6 v p6 l6 rp6 rv;exact next (zA y) S6 t H6 (l++[v]) (p5.trans p6) (l5.trans l6) rp6 ((N.mono (p5.trans p6) (ld.trans (U.trans (l5.trans l6)))).app ⟨v,[],rfl,rv,rfl⟩) (zR.weak h7 p6 l6)
  ·have e:i=xs.length:=by lia
   subst e;rw[pX] at C;refine .inl ⟨itr.stop f z u p2 l2 L g2,?_⟩;have h4:zR K Θ (zl K) f u (.ok (ds++[]) z) R:=C;rw[qo] at h4;exact h4.here L N
end
section
variable {X:Cx}{Θ:Tab}{pos:Pos}{vars:List Str}{scope:QF}{cl:List (Str×zN)}{tg elt qB:zi}{ifs:List zi}{it:M.IM}{g:M.GM}{js:List Nat}{tc:M.TM}{me:M.EM}
theorem U6 (I:Inv X e σ H s) (l:∀ j∈js,X.N.length <= j) {S:M.S} (st:jW X.K f H c σ) (m:zh X.K Θ f S H) {Q:VK}
  (h:zR X.K Θ (zl X.K) f H (M.yd n it g tc me c S) λo i=>∀ D,i D=zB->Q (.ref D) (upd i D (.lst o))) :
  bJ n (RdI X.K Θ it) (RdG X.K Θ js g) (RdT X.K Θ tc) (RdE X.K Θ me) σ H Q:=lQ st m (λj d=>by rw[I.len];exact l j d) h
theorem Vj (p:X.calm=zC) (C:Zb X vars scope cl) (hi:WI X Θ tg qB it) (n:∀ C e c d,WG (qA X vars scope cl C e c d) Θ js tg g) (q:∀ C e c d,JE (qA X vars scope cl C e c d) ifs (RdT X.K Θ tc))
  (o:∀ C e c d,WE (qA X vars scope cl C e c d) Θ elt me) (i:(js.all λj=>decide (X.N.length <= j))=zC) (r:∀ x,Kc qB X.env x=pure x:=by intro _;rfl):WE X Θ (.ListComp elt [⟨tg,qB,ifs,0⟩] scope pos) (M.Z6 vars.length it g tc me):=by
 delta WE WG WI at hi n o ⊢
 intro f s σ H Q I ⟨E,t,S,st,u,h⟩;have v:∀ j∈js,X.N.length <= j:=λj l=>of_decide_eq_true (ja.mp i j l);exact wV p C hi n q o r f s σ H Q I (U6 I v st u (zR.bind h λy G ds J L U Y m z A D B=>A.alloc m z B))
def AdK (K:zV) (Θ:Tab) (k:List M.D->M.S->M.R M.D) (r:List V->Hp->VK->Prop):Prop:=∀ c H S ds d p Q,zh K Θ c S H->zl K c H ds d->SqL K H p d->zR K Θ (zZ K) c H (k ds S) Q->r [.ref p] H Q
theorem WB {p:Pos}{id:String}{e:Pos}{k:List M.D->M.S->M.R M.D} (l:qp X (.builtin id) r) (ad:AdK X.K Θ k r) (m:Gl X x) (hm:X.mg x=zB) (B:yB x=zA (.builtin id))
  (E:X.calm=zC) (C:Zb X vars scope cl) (hi:WI X Θ tg qB it) (y:∀ C f c d,WG (qA X vars scope cl C f c d) Θ js tg g) (G:∀ C f c d,JE (qA X vars scope cl C f c d) ifs (RdT X.K Θ tc))
  (z:∀ C f c d,WE (qA X vars scope cl C f c d) Θ elt me) (n:(js.all λj=>decide (X.N.length <= j))=zC) (J:∀ x,Kc qB X.env x=pure x:=by intro _;rfl)
  (L:x ≠ "__name__" := by decide) (o:(x == ("__debug__" : Str))=zP:=by decide)
  :
  WE X Θ (.Call (.Name x p) [.ListComp elt [⟨tg,qB,ifs,0⟩] scope pos] [] e) (M.Xm k vars.length it g tc me):=by
 delta WE WG WI at hi y z ⊢
 intro i s σ H Q I ⟨ρ,U,S,st,Y,h⟩;have hj:∀ j∈js,X.N.length <= j:=λj q=>of_decide_eq_true (ja.mp n j q);refine eH l m hm B (WO (wV (g:=RdG X.K Θ js g) (ti:=RdT X.K Θ tc) (te:=RdE X.K Θ me) E C hi y G z J) WZ (yI rfl)) L o (yI rfl) rfl i s σ H Q I ?_;show bJ vars.length _ _ _ _ σ H (λx A=>r [x] A Q);refine U6 I hj st Y (zR.bind h λt A ds ys S1 p1 l1 u r1 h1 D v=>?_);exact ad t _ S1 ds ys D Q (u.aside v _) (r1.mono (jd _) (Le.new v _)) (SqL.of qD) (zR.weak h1 (jd _) (Le.new v _))
theorem PL {y:M.T}{z:Str}{j:Nat}{p e f:Pos} (E:z=ofT y) (G:X.calm=zC) (C:Zb X vars scope cl) (hi:WI X Θ tg qB it) (A:∀ C l c d,WG (qA X vars scope cl C l c d) Θ js tg g) (J:∀ C l c d,JE (qA X vars scope cl C l c d) ifs (RdT X.K Θ tc))
  (B:∀ C l c d,WE (qA X vars scope cl C l c d) Θ elt me) (q:(js.all λj=>decide (X.N.length <= j))=zC) (ad:∀ n H S ds o p Q,zh X.K Θ n S H->zl X.K n H ds o->SqL X.K H p o->zR X.K Θ (zZ X.K) n H (M.J6 y ds S) Q->bK X.K (.str (ofT y)) [.ref p] H Q) (L:∀ x,Kc qB X.env x=pure x:=by intro _;rfl)
  (i:(e.endLine == f.line)=zC:=by rfl)
  :
  WE X Θ (.Call (.Attribute (.Constant (.str z) j p) "join" e) [.ListComp elt [⟨tg,qB,ifs,0⟩] scope pos] [] f) (M.Xm (M.J6 y) vars.length it g tc me):=by
 delta WE WG WI at hi A B ⊢
 intro m s σ H Q I ⟨n,U,S,st,Y,h⟩;have hj:∀ j∈js,X.N.length <= j:=λj r=>of_decide_eq_true (ja.mp q j r);subst E;refine Ew kQ PySem.F.slot_str_join PySem.F.type_str_join Pt CO (WO (wV (g:=RdG X.K Θ js g) (ti:=RdT X.K Θ tc) (te:=RdE X.K Θ me) G C hi A J B L) WZ (yI rfl)) rfl (Cu rfl (show 1 < 30 by decide)) i (yI rfl) rfl m s σ H Q I ?_;refine⟨rfl,U6 I hj st Y (zR.bind h λt H1 ds o S1 p1 l1 u r1 h1 D v=>?_)⟩;exact ad t _ S1 ds o D Q (u.aside v _) (r1.mono (jd _) (Le.new v _)) (SqL.of qD) (zR.weak h1 (jd _) (Le.new v _))
end
def SpM (K:zV) (Θ:Tab) (n:Nat) (f:M.F):Sp:=λvs H Q _=>∃ c ds S,ds.length=n/\zl K c H ds vs/\zh K Θ c S H/\zR K Θ (zZ K) c H (f ds S) Q
def Ji (m:M.AM) (n:Nat):Prop:=∀ σ s xs s',m σ s=.ok xs s'->xs.length=n
theorem jH:Ji M.zS 0:=λσ s xs s' h=>by cases h;rfl
theorem zy {a:M.EM} (h:Ji r n):Ji (M.zQ a r) (n+1):=λσ s xs s' e=>by
 have c:((a σ s).bind λx s=>(r σ s).bind λxs s=>M.R.ok (x::xs) s)=.ok xs s':=e;cases ha:a σ s with
 | no=>rw[ha] at c;cases c
 | exc a s=>rw[ha] at c;cases c
 | ok d i =>
  rw[ha] at c;have f:((r σ i).bind λxs s=>M.R.ok (d::xs) s)=.ok xs s':=c;cases g:r σ i with
  | no=>rw[g] at f;cases f
  | exc a s=>rw[g] at f;cases f
  | ok ds j =>
   rw[g] at f;cases f;rw[qL,h _ _ _ _ g]
section
variable {X:Cx}{Θ:Tab}{pos p:Pos}{x:Str}{ps:List Str}{e:zi}{es:List zi}{f:M.F}{m:M.AM}{k kk n:Nat}
theorem j9 (h:Has X.prog X.w X.K X.mg X.base x k ps (SpM X.K Θ n f)) (o:jE kk X.A) (q:k <= kk) (r:Gl X x) (ha:WA X Θ (e::es) m) (ar:Ji m n) (hx:ZV CX0 X E0:=by exact Xz) (d:(x == ("__debug__" : Str))=zP:=by decide)
  (t:qS e=zC:=by rfl) (g:es.all qS=zC:=by rfl):WE X Θ (.Call (.Name x p) (e::es) [] pos) (M.zp f m):=by
 delta WA WE at ha ⊢
 exact (lG h o q r ha hx d (yI t) (xc g)).up λσ H Q l c S st u h=>⟨l,c,S,st,u,by
   have h':zR X.K Θ (zZ X.K) l H ((m c S).bind λxs s=>f xs s) Q:=h;cases hm:m c S with
   | no=>rw[hm] at h';exact h'.elim
   | exc a s=>rw[hm] at h';exact h'
   | ok ds v =>
    rw[hm] at h';intro i C vs y z j B;rw[qo];exact⟨i,ds,v,ar _ _ _ _ hm,B,j,zR.weak h' y z⟩⟩
end
theorem CZ:∀ {n:Nat}{d:M.D},M.kyD n (M.D.ren e d)=zC->M.D.ren e d=d:=by
 intro n
 induction n with
 | zero=>intro d h;cases d<;>first | rfl | cases h
 | succ n g =>
  intro d h;cases d with
  | tup ds =>
   show M.D.tup (M.D.ren.all e ds)=_;have h':(M.D.ren.all e ds).all (M.kyD n)=zC:=h;have:∀ ds:List M.D,(M.D.ren.all e ds).all (M.kyD n)=zC->M.D.ren.all e ds=ds:=by
    intro ds
    induction ds with
    | nil=>intro _;rfl
    | cons d ds c =>
     intro h;have f:(M.kyD n (M.D.ren e d) && (M.D.ren.all e ds).all (M.kyD n))=zC:=h;rw[j8] at f;show M.D.ren e d::M.D.ren.all e ds=_;rw[g f.1,c f.2]
   rw[this ds h']
  | _=>first | rfl | cases h
section
variable {K:zV}{Θ:Tab}{ρ ρ':List zN}{H:Hp}{e:List Nat}
mutual
theorem zZ.unren (f:∀ (i j:Nat) a,e[i]? = zA j->ρ[j]? = zA a->ρ'[i]? = zA a):∀ {d:M.D}{v:V},M.D.cl e.length d=zC->zZ K ρ H (M.D.ren e d) v->zZ K ρ' H d v
 | .non,_,_,h=>h
 | .bl _,_,_,h=>h
 | .int _,_,_,h=>h
 | .str _,_,_,h=>h
 | .ty _,_,_,h=>h
 | .ref i,_,c,⟨a,g,l⟩=>by
  have hi:i < e.length:=of_decide_eq_true c;refine⟨a,g,f i (e.getD i i) a ?_ l⟩;rw[QB,xl hi];rfl
 | .tup _,_,c,⟨a,xs,g,l,m⟩=>⟨a,xs,g,l,zl.unren f c m⟩
 | .ro _,_,c,⟨a,xs,g,l,m⟩=>⟨a,xs,g,l,zl.unren f c m⟩
theorem zl.unren (f:∀ (i j:Nat) a,e[i]? = zA j->ρ[j]? = zA a->ρ'[i]? = zA a):∀ {ds:List M.D}{xs:List V},M.D.cl.all e.length ds=zC->zl K ρ H (M.D.ren.all e ds) xs->zl K ρ' H ds xs
 | [],_,_,h=>h
 | d::ds,_,c,⟨y,l,m,n,o⟩=>by
  have g:(M.D.cl e.length d && M.D.cl.all e.length ds)=zC:=c;rw[j8] at g;exact⟨y,l,m,zZ.unren f g.1 n,zl.unren f g.2 o⟩
end
theorem ObR.unren (m:∀ (i j:Nat) a,e[i]? = zA j->L[j]? = zA a->A[i]? = zA a) {a:zN} (c:M.O.cl e.length o=zC) (h:ObR K Θ L H a (M.O.ren e o)):ObR K Θ A H a o:=by
 cases o with
 | lst ds=>obtain⟨xs,n,g⟩:=h;exact⟨xs,n,zl.unren m c g⟩
 | dct kvs =>
  obtain⟨ks,n,g⟩:=h;refine⟨ks,n,?_⟩;have l:∀ p∈kvs,(M.D.cl e.length p.1 && M.D.cl e.length p.2)=zC:=ja.mp c;clear n;revert g l;clear c
  induction kvs generalizing ks with
  | nil=>intro g l;cases g;exact .nil
  | cons p kvs t =>
   intro g l;rw[ju] at g;cases g with
   | cons s u =>
    have r:=l p qM;rw[j8] at r;refine .cons ⟨?_,zZ.unren m r.2 s.2⟩ (t _ u (λq x=>l q (jj _ x)));have y:=s.1;revert y;cases p.1<;>exact λy=>y
 | fdc kvs =>
  obtain⟨o,ks,n,g⟩:=h;refine⟨o,ks,n,?_⟩;have l:∀ p∈kvs,(M.D.cl e.length p.1 && M.D.cl e.length p.2)=zC:=ja.mp c;clear n;revert g l;clear c
  induction kvs generalizing ks with
  | nil=>intro g l;cases g;exact .nil
  | cons p kvs t =>
   intro g l;rw[ju] at g;cases g with
   | cons s u =>
    have r:=l p qM;rw[j8] at r;refine .cons ⟨?_,zZ.unren m r.2 s.2⟩ (t _ u (λq x=>l q (jj _ x)));have y:=s.1;revert y;cases p.1<;>exact λy=>y
 | dtt kvs =>
  obtain⟨xs,n,g⟩:=h;refine⟨xs,n,?_⟩;have l:∀ p∈kvs,(M.D.cl e.length p.1 && M.D.cl e.length p.2)=zC:=ja.mp c;clear n;revert g l;clear c
  induction kvs generalizing xs with
  | nil=>intro g l;cases g;exact .nil
  | cons p kvs t =>
   intro g l;rw[ju] at g;cases g with
   | cons s u =>
    have r:=l p qM;rw[j8] at r;obtain⟨a1,a2,B,v,E,G⟩:=s;have I:=CZ a2;rw[I] at a1 a2;exact .cons ⟨a1,a2,zZ.unren m r.1 B,v,zZ.unren m r.2 E,G⟩ (t _ u (λq x=>l q (jj _ x)))
 | ftt kvs =>
  obtain⟨o,xs,n,g⟩:=h;refine⟨o,xs,n,?_⟩;have l:∀ p∈kvs,(M.D.cl e.length p.1 && M.D.cl e.length p.2)=zC:=ja.mp c;clear n;revert g l;clear c
  induction kvs generalizing xs with
  | nil=>intro g l;cases g;exact .nil
  | cons p kvs t =>
   intro g l;rw[ju] at g;cases g with
   | cons s u =>
    have r:=l p qM;rw[j8] at r;obtain⟨a1,a2,B,v,E,G⟩:=s;have I:=CZ a2;rw[I] at a1 a2;exact .cons ⟨a1,a2,zZ.unren m r.1 B,v,zZ.unren m r.2 E,G⟩ (t _ u (λq x=>l q (jj _ x)))
 | ins cc fs =>
  obtain⟨C,Q,U,N,n,g,z⟩:=h;refine⟨C,Q,U,N,n,g,by rw[<- z.len];simp,z.nd,z.within,λi f d Y J=>?_⟩;obtain⟨v,k1,k2⟩:=z.get i f (M.D.ren e d) Y (by rw[y9,J];rfl);refine⟨v,k1,zZ.unren m ?_ k2⟩;have:=ja.mp c (zA d) (ZW J);exact this
theorem zR.gc {S:M.S}{Q:VK} (m:M.Emb S.length e u A) (B:M.D.cl u.length d=zC) (C:zh K Θ z S H) (h:zR K Θ (zZ K) z H (.ok d u) Q):zR K Θ (zZ K) z H (.ok (M.D.ren e d) A) Q:=by
 intro c E v G I n J;have f:∀ {i j:Nat},e[i]? = zA j->j < c.length:=λ{i j} q=>by
  have hi:i < u.length:=by rw[<- m.len];exact (yp.mp q).1
  obtain⟨j',p,t,_⟩:=m.obj i u[i] (by simp[hi]);rw[q] at p;cases p;rw[n.len];exact (yp.mp t).1
 have g:∀ (i j:Nat) a,e[i]? = zA j->c[j]? = zA a->(e.map λj=>c.getD j 0)[i]? = zA a:=λi j a p t=>by
  rw[y9,p,Xb,QB,t];rfl
 refine h (e.map λj=>c.getD j 0) E v ?_ I ⟨by rw[qd,m.len],?_,λi o q=>?_⟩ (zZ.unren g (by rw[m.len];exact B) J)
 ·refine List.prefix_iff_getElem?.mpr λi hi=>?_;have y:i < S.length:=C.len ▸ hi;exact g i i _ (m.old i y) (Js G (xl hi))
 ·refine iN λi j x a b=>?_;rw[y9] at a b;cases r:e[i]? with
  | none=>rw[r] at a;cases a
  | some k =>
   cases s:e[j]? with
   | none=>rw[s] at b;cases b
   | some l =>
    rw[r,Xb,QB,xl (f r)] at a;rw[s,Xb,QB,xl (f s)] at b;have L:c[k]'(f r)=x:=by simpa using a
    have N:c[l]'(f s)=x:=by simpa using b
    have U:=fg n.nd (f r) (f s) (L.trans N.symm);subst U;exact vo m.nd r s
 ·obtain⟨j,p,t,Y⟩:=m.obj i o q;obtain⟨a,q4,q5⟩:=n.obj j _ t;exact⟨a,g i j a p q4,ObR.unren g (by rw[m.len];exact Y) q5⟩
end
section
variable {K:zV}{Θ:Tab}{ρ:List zN}{H:Hp}
mutual
theorem zZ.cl:∀ {d:M.D}{v:V},zZ K ρ H d v->M.D.cl ρ.length d=zC
 | .non,_,_=>rfl
 | .bl _,_,_=>rfl
 | .int _,_,_=>rfl
 | .str _,_,_=>rfl
 | .ty _,_,_=>rfl
 | .ref _,_,⟨a,_,c⟩=>decide_eq_true (yp.mp c).1
 | .tup _,_,⟨_,_,_,_,h⟩=>zl.cl h
 | .ro _,_,⟨_,_,_,_,h⟩=>zl.cl h
theorem zl.cl:∀ {ds:List M.D}{xs:List V},zl K ρ H ds xs->M.D.cl.all ρ.length ds=zC
 | [],_,_=>rfl
 | d::ds,_,⟨_,_,_,c,e⟩=>by
  show (M.D.cl ρ.length d && M.D.cl.all ρ.length ds)=zC;rw[zZ.cl c,zl.cl e];rfl
end
theorem zh.cl {S:M.S} (u:zh K Θ f S H):M.clS S.length S=zC:=by
 refine ja.mpr λo y=>?_;obtain⟨i,hi,rfl⟩:=Qo.mp y;obtain⟨a,I,z⟩:=u.obj i S[i] (by simp[hi]);rw[<- u.len];revert z;cases S[i] with
 | lst ds=>exact λ⟨xs,_,r⟩=>r.cl
 | dct kvs =>
  intro ⟨ks,_,r⟩;refine ja.mpr λp e=>?_;have:∀ {kvs:List (M.D×M.D)}{ks:List (Key×V)},Paired (λ(p:M.D×M.D) (q:Key×V)=>qz p.1 q.1/\zZ K f H p.2 q.2) kvs ks->p∈kvs->(M.D.cl f.length p.1 && M.D.cl f.length p.2)=zC:=by
   intro kvs ks r e
   induction r with
   | nil=>cases e
   | cons g m h =>
    rcases jc.mp e with rfl | e
    ·rw[g.2.cl,US];have l:=g.1;revert l;cases p.1<;>first | exact λ_=>rfl | exact λl=>l.elim
    ·exact h e
  exact this r e
 | fdc kvs =>
  intro ⟨_,ks,_,r⟩;refine ja.mpr λp e=>?_;have:∀ {kvs:List (M.D×M.D)}{ks:List (Key×V)},Paired (λ(p:M.D×M.D) (q:Key×V)=>qz p.1 q.1/\zZ K f H p.2 q.2) kvs ks->p∈kvs->(M.D.cl f.length p.1 && M.D.cl f.length p.2)=zC:=by
   intro kvs ks r e
   induction r with
   | nil=>cases e
   | cons g m h =>
    rcases jc.mp e with rfl | e
    ·rw[g.2.cl,US];have l:=g.1;revert l;cases p.1<;>first | exact λ_=>rfl | exact λl=>l.elim
    ·exact h e
  exact this r e
 | dtt kvs =>
  intro ⟨xs,_,r⟩;refine ja.mpr λp e=>?_;have:∀ {kvs:List (M.D×M.D)}{xs:List (M.D×zN×zO)},Paired (TDr K f H) kvs xs->p∈kvs->(M.D.cl f.length p.1 && M.D.cl f.length p.2)=zC:=by
   intro kvs xs r e
   induction r with
   | nil=>cases e
   | cons g m h =>
    rcases jc.mp e with rfl | e
    ·obtain⟨_,_,n,v,s,_⟩:=g;rw[n.cl,s.cl];rfl
    ·exact h e
  exact this r e
 | ftt kvs =>
  intro ⟨o,xs,_,r⟩;refine ja.mpr λp e=>?_;have:∀ {kvs:List (M.D×M.D)}{xs:List (M.D×zN×zO)},Paired (TDr K f H) kvs xs->p∈kvs->(M.D.cl f.length p.1 && M.D.cl f.length p.2)=zC:=by
   intro kvs xs r e
   induction r with
   | nil=>cases e
   | cons g m h =>
    rcases jc.mp e with rfl | e
    ·obtain⟨_,_,n,v,s,_⟩:=g;rw[n.cl,s.cl];rfl
    ·exact h e
  exact this r e
 | ins c fs =>
  intro ⟨C,J,L,N,_,_,r⟩;refine ja.mpr λA t=>?_;cases A with
  | none=>rfl
  | some d =>
   obtain⟨j,x,B⟩:=Qo.mp t;have E:j < N.length:=r.len ▸ x;obtain⟨v,_,G⟩:=r.get j N[j] d (by simp[E]) (by rw[xl x,B]);exact G.cl
end
section
variable {P:jF}{w:z7}{K:zV}{mg:Str->Option zO}{base:zg}{Θ:Tab}
theorem bD (r:zl K c H ds vs) (N:List Str):jW K c H (ds.map zA++zm (N.length - ds.length) zB) (Ql N vs):=by
 have f:=r.length;refine⟨by simp[Ql,f],λi d q=>?_⟩;unfold Ql;by_cases hi:i < ds.length
 ·rw[yQ (by simpa using hi),y9] at q;cases e:ds[i]? with
  | none=>rw[e] at q;cases q
  | some d' =>
   rw[e] at q;cases q;obtain⟨v,g,h⟩:=r.get e;refine⟨v,?_,h⟩;rw[yQ (by simp;lia),y9,g];rfl
 ·rw[yi (by simp;lia),KS] at q;split at q<;>cases q
theorem Ox {st:zo}{k:Nat}{b:M.SM} (F:Fun K x qual st f fd) (y:jG N ps (zv st)) (z:M.jl ps.length (M.fn N.length b) q)
  (i:∀ (g:zO) (A:jf) (outer:List Env) (s:zU) (H:Hp) (E:XK),jE k (A.deeper (y8 qual (zv st) s.heap.objs.size f g)) ->
   MSs (yf CX0 P w K mg base N qual (zv st) f g A outer s H E).nox Θ (yc st) b):z4 P w K mg base CX0 (k+1) f fd ps (SpM K Θ ps.length q):=by
 refine F.ok (k:=k) y (λvs H Q E h=>?_) (λg A outer s H vs Q E B h=>?_)
 ·obtain⟨l,ds,S,m,r,_⟩:=h;rw[<- r.length,m]
 ·obtain⟨l,ds,S,m,r,j,h⟩:=h;refine⟨_,i g A outer s H E B,l,_,S,bD r N,j,?_⟩;rcases z ds S m j.cl (j.len ▸ r.cl) with e | ⟨d,S',u,v,C,G,n,I⟩
  ·rw[e] at h;exact h.elim
  ·rw[C] at h;have o:=zR.gc n I j h;have c:(b (ds.map zA++zm (N.length - ds.length) zB) S).out=.ok (M.D.ren v d) u:=G;show jD K Θ l H (b (ds.map zA++zm (N.length - ds.length) zB) S) _;revert c;cases b (ds.map zA++zm (N.length - ds.length) zB) S with
   | rt a s=>intro c;cases c;exact o
   | nx a s =>
    intro c;have J:M.R.ok M.D.non s=.ok (M.D.ren v d) u:=c;injection J with L U;subst U;rw[<- L] at o;exact λp Y σ1 p1 l1 t _=>o p Y .non p1 l1 t rfl
   | bk a s=>intro c;cases c
   | ct a s=>intro c;cases c
   | exc e a s=>intro c;cases c
   | no=>intro c;cases c
theorem yA {st:zo}{k:Nat}{b:M.SM} (F:Fun K x qual st f fd) (e:jG N ps (zv st)) (g:M.jl ps.length (M.fn N.length b) q)
  (c:∀ (d:zO) (A:jf) (outer:List Env) (s:zU) (H:Hp) (E:XK),jE k (A.deeper (y8 qual (zv st) s.heap.objs.size f d)) ->
   WSs (yf CX0 P w K mg base N qual (zv st) f d A outer s H E).nox Θ (yc st) b):z4 P w K mg base CX0 (k+1) f fd ps (SpM K Θ ps.length q):=by with_unfolding_all exact Ox (x:=x) (qual:=qual) (st:=st) (f:=f) (fd:=fd) (N:=N) (ps:=ps) (k:=k) (b:=b) (q:=q) F e g c
end
section
variable {K:zV}{Θ:Tab}
theorem D3 (h:M.Qr i=zC):-(2 ^ 64) < i/\i < 2 ^ 64:=by
 have h':i.natAbs < 18446744073709551616:=of_decide_eq_true h;exact⟨by lia,by lia⟩
theorem JH:Ad2 K Θ M.y7 B4:=by
 intro d H S x y X Y Q e rx ry h;cases x with
 | int i =>
  cases y with
  | int j =>
   cases rx;cases ry;have h':zR K Θ (zZ K) d H (if 0 < j/\j.natAbs < 1073741824 then M.R.ok (M.D.int (i / j)) S else .no) Q:=h;by_cases c:0 < j/\j.natAbs < 1073741824
   ·rw[if_pos c] at h';exact⟨⟨c.1,by lia⟩,zR.here (b:=V.int (i / j)) h' e rfl⟩
   ·rw[if_neg c] at h';exact h'.elim
  | _=>exact h.elim
 | _=>exact h.elim
theorem Zg:Ad2 K Θ M.qa bw:=by
 intro d H S x y X Y Q e rx ry h;cases x with
 | int i =>
  cases y with
  | int j =>
   cases rx;cases ry;have h':zR K Θ (zZ K) d H (if 0 < j then M.R.ok (M.D.int (i % j)) S else .no) Q:=h;by_cases c:0 < j
   ·rw[if_pos c] at h';exact⟨c,zR.here (b:=V.int (i % j)) h' e rfl⟩
   ·rw[if_neg c] at h';exact h'.elim
  | _=>exact h.elim
 | _=>exact h.elim
theorem Jo {S:M.S} (f:zh K Θ d S H) {i:Nat}{a:zN} (ha:d[i]? = zA a) {xs:List M.D} (q:S[i]? = zA (.lst xs)):∃ c,H a=zA (.lst c)/\zl K d H xs c:=by
 obtain⟨b,e,c,g,r⟩:=f.obj i _ q;rw[ha] at e;cases e;exact⟨c,g,r⟩
theorem xI:Ad2 K Θ M.yb (λx y H Q=>ey x y H Q\/dP K x y H Q):=by
 intro g H S x y X Y Q d rx ry h;cases x with
 | int i =>
  cases y with
  | int j=>cases rx;cases ry;exact .inl (zR.here (b:=V.int (i+j)) h d rfl)
  | _=>exact h.elim
 | str a =>
  cases y with
  | str b =>
   obtain⟨rfl,m⟩:=rx;obtain⟨rfl,n⟩:=ry;have h':zR K Θ (zZ K) g H (if a.length+b.length <= M.SZ then M.R.ok (M.D.str (a++b)) S else .no) Q:=h;by_cases c:a.length+b.length <= M.SZ
   ·rw[if_pos c] at h';refine .inl ⟨by rw[yM,yM,<- Zm];exact c,?_⟩;rw[I9];exact zR.here (b:=V.str (ofT (a++b))) h' d ⟨rfl,Wb m n⟩
   ·rw[if_neg c] at h';exact h'.elim
  | _=>exact h.elim
 | tup a =>
  cases y with
  | tup b =>
   obtain⟨l,xs,rfl,s,r⟩:=rx;obtain⟨A,e,rfl,o,q⟩:=ry;have h':zR K Θ (zZ K) g H (if a≠[]/\a.length+b.length <= M.SZ then M.R.ok (M.D.tup (a++b)) S else .no) Q:=h;by_cases c:a≠[]/\a.length+b.length <= M.SZ
   ·rw[if_pos c] at h';refine .inr ⟨l,A,xs,e,rfl,rfl,s,o,λz=>c.1 ?_,by rw[<- r.length,<- q.length,<- Zm];exact c.2,λt=>?_,λt p f=>?_⟩
    ·subst z;have:=r.length;exact DN.mp this
    ·subst t;have B:b=[]:=DN.mp q.length;subst B;rw[qo] at h';exact zR.here h' d ⟨l,xs,rfl,s,r⟩
    ·exact h' g _ _ (jd _) (Le.new f _) (d.aside f _) ⟨p,_,rfl,SqT.of qD,(r.app q).mono (jd _) (Le.new f _)⟩
   ·rw[if_neg c] at h';exact h'.elim
  | _=>exact h.elim
 | ref i =>
  cases y with
  | ref j =>
   obtain⟨a,rfl,C⟩:=rx;obtain⟨b,rfl,E⟩:=ry;have h':zR K Θ (zZ K) g H (match S[i]?,S[j]? with
    | some (.lst xs),zA (.lst e)=>if xs.length+e.length <= M.SZ then M.alloc (.lst (xs++e)) S else .no
    | _,_=>.no) Q:=h
   split at h'
   ·rename_i xs e G I;obtain⟨J,L,u⟩:=Jo d C G;obtain⟨N,U,v⟩:=Jo d E I;by_cases c:xs.length+e.length <= M.SZ
    ·rw[if_pos c] at h';exact .inl ⟨J,N,L,U,by rw[<- u.length,<- v.length,<- Zm];exact c,λp f=>h'.alloc d (u.app v) f⟩
    ·rw[if_neg c] at h';exact h'.elim
   ·exact h'.elim
  | _=>exact h.elim
 | _=>exact h.elim
theorem ib:Ad1 K Θ M.dZ (rU λi=>.int (-i)):=by
 intro d H S x X Q c rx h;cases x with
 | int i=>cases rx;exact⟨i,rfl,zR.here (b:=V.int (-i)) h c rfl⟩
 | _=>exact h.elim
theorem G1:AdC K Θ M.cLt uLt:=by
 intro d H S x y X Y Q c rx ry h;cases x with
 | int i =>
  cases y with
  | int j=>cases rx;cases ry;exact zR.here (b:=decide (i < j)) h c rfl
  | _=>exact h.elim
 | str a =>
  cases y with
  | str b =>
   obtain⟨rfl,_⟩:=rx;obtain⟨rfl,_⟩:=ry;show Q (.bl (decide ((ofT a).cps.toList < (ofT b).cps.toList))) H;rw[Qe,Qe];exact zR.here (b:=decide (a < b)) h c rfl
  | _=>exact h.elim
 | _=>exact h.elim
theorem QM:AdC K Θ M.cLe uLe:=by
 intro d H S x y X Y Q c rx ry h;cases x with
 | int i =>
  cases y with
  | int j=>cases rx;cases ry;exact zR.here (b:=decide (i <= j)) h c rfl
  | _=>exact h.elim
 | str a =>
  cases y with
  | str b =>
   obtain⟨rfl,_⟩:=rx;obtain⟨rfl,_⟩:=ry;show Q (.bl (!decide ((ofT b).cps.toList < (ofT a).cps.toList))) H;rw[Qe,Qe];exact zR.here (b:=!decide (b < a)) h c rfl
  | _=>exact h.elim
 | _=>exact h.elim
theorem AZ:AdC K Θ M.cGt uGt:=by
 intro d H S x y X Y Q c rx ry h;cases x with
 | int i =>
  cases y with
  | int j=>cases rx;cases ry;exact zR.here (b:=decide (j < i)) h c rfl
  | _=>exact h.elim
 | _=>exact h.elim
theorem W9 {d:M.D} (r:zl K c H ds xs) (e:M.atI ds i=zA d):∃ v,atI xs i=zA v/\zZ K c H d v:=by
 unfold M.atI at e;cases q:M.ixN ds.length i with
 | none=>rw[q] at e;cases e
 | some j =>
  rw[q] at e;obtain⟨v,f,g⟩:=r.get (i:=j) e;have h:ixN xs.length i=zA j:=by rw[<- r.length];exact q
  exact⟨v,by unfold atI;rw[h];exact f,g⟩
end
section
variable {K:zV}{Θ:Tab}
theorem ZS {X:Cx}{a:zi} (ha:WE X Θ a y) (A:∀ f,isTrue a X.env f=(do let v <- f;Qh a.pos;holding [v] (truthy v)):=by intro _;rfl):WT X Θ a (M.yF y):=by
 delta WE WT at ha ⊢
 exact (OU ha A).up λσ H Q B m S st C h=>⟨B,m,S,st,C,zR.bind h λE J x L G N U e rx d=>by
   cases x with
   | non=>cases rx;exact⟨zP,rfl,zR.here (b:=false) d e rfl⟩
   | bl b=>cases rx;exact⟨b,rfl,zR.here (b:=b) d e rfl⟩
   | int i=>cases rx;exact⟨_,rfl,zR.here (b:=(i != 0)) d e (by show decide (i≠0)=(i != 0);by_cases hi:i=0<;>simp[hi])⟩
   | str z =>
    obtain⟨rfl,_⟩:=rx;by_cases s:z.length <= M.SZ
    ·simp only[M.Zh,if_pos s] at d;refine⟨_,⟨by rw[yM,<- Zm];exact s,rfl⟩,zR.here (b:=(((ofT z).length:Int) != 0)) d e ?_⟩;show (!z.isEmpty)=_;rw[yM];cases z<;>simp<;>lia
    ·simp only[M.Zh,if_neg s] at d;exact d.elim
   | tup ds =>
    obtain⟨l,xs,rfl,t,r⟩:=rx;refine⟨_,.inr (.inl ⟨xs,t,rfl⟩),zR.here (b:=!xs.isEmpty) d e ?_⟩;show (!ds.isEmpty)=_;have:=r.length;cases ds<;>cases xs<;>first | rfl | cases this
   | ro ds =>
    obtain⟨l,xs,rfl,t,r⟩:=rx;refine⟨_,.inl ⟨xs,t.sq,rfl⟩,zR.here (b:=!xs.isEmpty) d e ?_⟩;show (!ds.isEmpty)=_;have:=r.length;cases ds<;>cases xs<;>first | rfl | cases this
   | ref p =>
    obtain⟨a,rfl,u⟩:=rx;cases q:G[p]? with
    | none=>simp[M.Zh,q] at d;exact d.elim
    | some o =>
     cases o with
     | lst xs =>
      simp only[M.Zh,q] at d;obtain⟨g,j,r⟩:=Jo e u q;refine⟨_,.inl ⟨g,SqL.of j,rfl⟩,zR.here (b:=!g.isEmpty) d e ?_⟩;show (!xs.isEmpty)=_;have:=r.length;cases xs<;>cases g<;>first | rfl | cases this
     | dct kvs =>
      simp only[M.Zh,q] at d;obtain⟨b,j,g,I,r⟩:=e.obj _ _ q;rw[u] at j;cases j;refine⟨_,.inr (.inr ⟨g,I,rfl⟩),zR.here (b:=!g.isEmpty) d e ?_⟩;cases r<;>rfl
     | fdc _=>simp[M.Zh,q] at d;exact d.elim
     | dtt _=>simp[M.Zh,q] at d;exact d.elim
     | ftt _=>simp[M.Zh,q] at d;exact d.elim
     | ins c fs=>simp[M.Zh,q] at d;exact d.elim
   | ty n=>exact d.elim⟩
inductive TyM (K:zV) (H:Hp):V->String->Prop where
 | of {x:V}{A:String} (h:Zl K H x (.type A)):TyM K H x A
 | sqT {a:zN}{xs:List V} (h:SqT K H a xs):TyM K H (.ref a) "tuple"
 | sqL {a:zN}{xs:List V} (h:SqL K H a xs):TyM K H (.ref a) "list"
noncomputable def wJ (K:zV):List V->Hp->VK->Prop:=λxs H Q=>∃ x n A b,xs=[x,.ty n]/\TyM K H x A/\JT K (.type A) (.type n)=zA b/\Q (.bl b) H
theorem VM {X:Cx}:qp X (.builtin "isinstance") (wJ X.K):=by
 intro j s σ H xs us Q I r h;obtain⟨x,n,A,b,rfl,ty,e,q⟩:=h;obtain⟨u,m,rfl,d,l⟩:=B5 r;cases l;cases ty with
 | of h=>exact ZL (n:=1) I.tk (mE I d h e λtk c=>⟨.bl b,H,I.tok tk c,rfl,q⟩)
 | sqT h =>
  cases d;obtain⟨f,_,⟨o,g,i,_⟩,_⟩:=I.tuple h;exact ZL (n:=1) I.tk (QD l7 I.kIn ⟨o,g,i⟩ e (λz=>nomatch z) λtk c=>⟨.bl b,H,I.tok tk c,rfl,q⟩)
 | sqL h =>
  cases d;obtain⟨f,_,⟨o,n,g,i,_⟩,_⟩:=I.list h;exact ZL (n:=1) I.tk (QD Dp I.kIn ⟨o,g,i⟩ e (λz=>nomatch z) λtk c=>⟨.bl b,H,I.tok tk c,rfl,q⟩)
theorem M7 (n:M.Kd):JT K (.type "NoneType") (.type (ZC n))=zA zP/\JT K (.type "bool") (.type (ZC n))=zA (match n with | .bool=>zC | .int=>zC | _=>zP) /\
  JT K (.type "int") (.type (ZC n))=zA (match n with | .int=>zC | _=>zP)/\JT K (.type "str") (.type (ZC n))=zA (match n with | .str=>zC | _=>zP) /\
  JT K (.type "tuple") (.type (ZC n))=zA (match n with | .tuple=>zC | _=>zP)/\JT K (.type "list") (.type (ZC n))=zA (match n with | .list=>zC | _=>zP) /\
  JT K (.type "dict") (.type (ZC n))=zA (match n with | .dict=>zC | _=>zP):=by
 cases n<;>exact⟨XU (by decide +kernel),XU (by decide +kernel),XU (by decide +kernel),XU (by decide +kernel),XU (by decide +kernel),XU (by decide +kernel),XU (by decide +kernel)⟩
theorem vH:AdN K Θ M.Qk (wJ K):=by
 intro y H S xs Y Q g rx h
 match xs,rx,h with
 | [x,.ty n],rx,h =>
  obtain⟨v,_,rfl,d,_,_,rfl,rfl,rfl⟩:=rx;obtain⟨B,C,E,G,I,t,J⟩:=M7 (K:=K) n;have fin:∀ {A:String}{b:Bool},M.JG n x S=.ok b S->TyM K H v A->JT K (.type A) (.type (ZC n))=zA b->wJ K [v,.ty (ZC n)] H Q:=λ{A b} e ty k=>by
   have h':zR K Θ (zZ K) y H ((M.JG n x S).bind λb s=>.ok (.bl b) s) Q:=h;rw[e] at h';exact⟨v,ZC n,A,b,rfl,ty,k,zR.here (b:=V.bl b) h' g rfl⟩
  cases x with
  | non=>cases d;exact fin rfl (.of .non) B
  | bl b=>cases d;exact fin rfl (.of (.bl b)) C
  | int i=>cases d;exact fin rfl (.of (.int i)) E
  | str z=>obtain⟨rfl,_⟩:=d;exact fin rfl (.of (.str _)) G
  | tup ds=>obtain⟨l,L,rfl,j,r⟩:=d;exact fin rfl (.sqT j) I
  | ro ds=>obtain⟨l,L,rfl,j,r⟩:=d;exact fin rfl (.sqL j.sq) t
  | ty m=>exact h.elim
  | ref p =>
   obtain⟨a,rfl,u⟩:=d;cases q:S[p]? with
   | none=>simp[M.Qk,M.JG,q] at h;exact h.elim
   | some o =>
    cases o with
    | lst xs =>
     obtain⟨N,f,r⟩:=Jo g u q;refine fin ?_ (.sqL (SqL.of f)) t;simp only[M.JG,q]<;>(cases n<;>rfl)
    | dct kvs =>
     obtain⟨b,f,N,U,r⟩:=g.obj _ _ q;rw[u] at f;cases f;refine fin ?_ (.of (.dK U)) J;simp only[M.JG,q]<;>(cases n<;>rfl)
    | fdc _=>simp[M.Qk,M.JG,q] at h;exact h.elim
    | dtt _=>simp[M.Qk,M.JG,q] at h;exact h.elim
    | ftt _=>simp[M.Qk,M.JG,q] at h;exact h.elim
    | ins c fs=>simp[M.Qk,M.JG,q] at h;exact h.elim
 | [_,.non],_,h=>exact h.elim
 | [_,.bl _],_,h=>exact h.elim
 | [_,.int _],_,h=>exact h.elim
 | [_,.str _],_,h=>exact h.elim
 | [_,.tup _],_,h=>exact h.elim
 | [_,.ro _],_,h=>exact h.elim
 | [_,.ref _],_,h=>exact h.elim
 | [],_,h=>exact h.elim
 | [_],_,h=>exact h.elim
 | _::b::_::_,_,h=>cases b<;>exact h.elim
def ofP:M.P->Q0
 | .non=>.none
 | .bl b=>.bool b
 | .int i=>.int i
 | .str x=>.str (ofT x)
 | .tup ps=>.tuple (all ps)
 | .lst ps=>.list (all ps)
where all:List M.P->List Q0
 | []=>[]
 | p::ps=>ofP p::all ps
theorem Cv (x y:M.T):(ofT x == ofT y)=(x == y):=by
 by_cases h:x=y
 ·subst h;simp
 ·rw[beq_eq_false_iff_ne.mpr h,beq_eq_false_iff_ne.mpr λe=>h (uZ e)]
mutual
theorem Wm:∀ p q:M.P,kJ (ofP p) (ofP q)=M.P.eqv p q
 | .non,.non=>rfl
 | .non,.bl _=>rfl
 | .non,.int _=>rfl
 | .non,.str _=>rfl
 | .non,.tup _=>rfl
 | .non,.lst _=>rfl
 | .bl _,.non=>rfl
 | .bl _,.bl _=>rfl
 | .bl _,.int _=>rfl
 | .bl _,.str _=>rfl
 | .bl _,.tup _=>rfl
 | .bl _,.lst _=>rfl
 | .int _,.non=>rfl
 | .int _,.bl _=>rfl
 | .int _,.int _=>rfl
 | .int _,.str _=>rfl
 | .int _,.tup _=>rfl
 | .int _,.lst _=>rfl
 | .str _,.non=>rfl
 | .str _,.bl _=>rfl
 | .str _,.int _=>rfl
 | .str x,.str y=>Cv x y
 | .str _,.tup _=>rfl
 | .str _,.lst _=>rfl
 | .tup _,.non=>rfl
 | .tup _,.bl _=>rfl
 | .tup _,.int _=>rfl
 | .tup _,.str _=>rfl
 | .tup ps,.tup c=>W0 ps c
 | .tup _,.lst _=>rfl
 | .lst _,.non=>rfl
 | .lst _,.bl _=>rfl
 | .lst _,.int _=>rfl
 | .lst _,.str _=>rfl
 | .lst _,.tup _=>rfl
 | .lst ps,.lst c=>W0 ps c
theorem W0:∀ ps c:List M.P,IH (ofP.all ps) (ofP.all c)=M.P.eqvs ps c
 | [],[]=>rfl
 | [],_::_=>rfl
 | _::_,[]=>rfl
 | p::ps,q::c=>by
  show (kJ (ofP p) (ofP q) && IH (ofP.all ps) (ofP.all c))=(M.P.eqv p q && M.P.eqvs ps c)
  rw[Wm p q,W0 ps c]
end
mutual
theorem Vd:∀ p:M.P,ni (ofP p)=M.P.dep p
 | .non=>rfl
 | .bl _=>rfl
 | .int _=>rfl
 | .str _=>rfl
 | .tup ps=>by show bM (ofP.all ps)+1=M.P.deps ps+1;rw[Wl ps]
 | .lst ps=>by show bM (ofP.all ps)+1=M.P.deps ps+1;rw[Wl ps]
theorem Wl:∀ ps:List M.P,bM (ofP.all ps)=M.P.deps ps
 | []=>rfl
 | p::ps=>by show max (ni (ofP p)) (bM (ofP.all ps))=max (M.P.dep p) (M.P.deps ps);rw[Vd p,Wl ps]
end
section
variable {ρ:List zN}{H:Hp}
mutual
theorem wK {g:Nat->Option M.P} (h:∀ i p v,g i=zA p->zZ K ρ H (.ref i) v->qr K H v (ofP p)/\(ofP p).canLay0=zC):∀ {d:M.D}{p:M.P}{v:V},M.qI g d=zA p->zZ K ρ H d v->qr K H v (ofP p)/\(ofP p).canLay0=zC
 | .non,_,_,e,r=>by cases e;cases r;exact⟨.non,rfl⟩
 | .bl _,_,_,e,r=>by cases e;cases r;exact⟨.bl _,rfl⟩
 | .int _,_,_,e,r=>by cases e;cases r;exact⟨.int _,rfl⟩
 | .str x,_,_,e,r=>by
  cases e;obtain⟨rfl,ok⟩:=r;refine⟨.str _,?_⟩;show fR (ofT x)=zC;unfold fR ofT;have j:x.all (λc=>decide (c < 1114112))=zC:=ok;simpa using j
 | .tup ds,_,_,e,r=>by
  obtain⟨l,xs,rfl,m,n⟩:=r;have f:(M.qI.all g ds).map M.P.tup=zA _:=e;cases q:M.qI.all g ds with
  | none=>rw[q] at f;cases f
  | some ps =>
   rw[q] at f;cases f;obtain⟨o,s⟩:=UF h q n;exact⟨.tup m o,s⟩
 | .ro ds,_,_,e,r=>by
  obtain⟨l,xs,rfl,m,n⟩:=r;have f:(M.qI.all g ds).map M.P.lst=zA _:=e;cases q:M.qI.all g ds with
  | none=>rw[q] at f;cases f
  | some ps =>
   rw[q] at f;cases f;obtain⟨o,s⟩:=UF h q n;exact⟨.lst m.sq o,s⟩
 | .ref i,_,_,e,r=>h i _ _ e r
 | .ty _,_,_,e,_=>by cases e
theorem UF {g:Nat->Option M.P} (j:∀ i p v,g i=zA p->zZ K ρ H (.ref i) v->qr K H v (ofP p)/\(ofP p).canLay0=zC):∀ {ds:List M.D}{ps:List M.P}{xs:List V},M.qI.all g ds=zA ps->zl K ρ H ds xs->QX K H xs (ofP.all ps)/\Ff (ofP.all ps)=zC
 | [],_,_,e,r=>by cases e;cases r;exact⟨.nil,rfl⟩
 | d::ds,_,_,e,r=>by
  obtain⟨y,t,rfl,l,m⟩:=r;have c:(match M.qI g d,M.qI.all g ds with | some p,zA ps=>zA (p::ps) | _,_=>zB)=zA _:=e;cases f:M.qI g d with
  | none=>rw[f] at c;cases c
  | some p =>
   cases h:M.qI.all g ds with
   | none=>rw[f,h] at c;cases c
   | some ps =>
    rw[f,h] at c;cases c;obtain⟨n,o⟩:=wK j f l;obtain⟨q,s⟩:=UF j h m;refine⟨.cons n q,?_⟩;show (PyData.canLay0 (ofP p) && Ff (ofP.all ps))=zC;rw[o,s];rfl
end
theorem vO {S:M.S} (h:zh K Θ l S H):∀ (n:Nat) {d:M.D}{p:M.P}{v:V},M.toP n S d=zA p->zZ K l H d v->qr K H v (ofP p)/\(ofP p).canLay0=zC
 | 0,_,_,_,e,r=>wK (λi p v e _=>by cases e) e r
 | n+1,_,_,_,e,r=>wK (λi p v e r=>by
   obtain⟨a,rfl,m⟩:=r;have f:(match M.qf S i with | some xs=>(M.qI.all (λj=>M.toP n S (.ref j)) xs).map M.P.lst | none=>zB)=zA p:=e;cases q:S[i]? with
   | none=>simp[M.qf,q] at f
   | some o =>
    cases o with
    | lst xs =>
     simp only[M.qf,q] at f;obtain⟨y,s,t⟩:=Jo h m q;cases g:M.qI.all (λj=>M.toP n S (.ref j)) xs with
     | none=>rw[g] at f;cases f
     | some ps =>
      rw[g] at f;cases f;obtain⟨u,x⟩:=UF (λj p v e r=>vO h n e r) g t;exact⟨.lst (SqL.of s) u,x⟩
    | dct kvs=>simp[M.qf,q] at f
    | fdc _=>simp[M.qf,q] at f
    | dtt _=>simp[M.qf,q] at f
    | ftt _=>simp[M.qf,q] at f
    | ins c fs=>simp[M.qf,q] at f) e r
end
abbrev DR (K:zV) (c:List zN) (H:Hp):List (M.D×M.D)->List (Key×V)->Prop:=Paired λp q=>qz p.1 q.1/\zZ K c H p.2 q.2
theorem YJ {a b:Key} (ha:qz d a) (c:qz e b):(a=b)=(d=e):=by
 cases d with
 | int i =>
  cases ha;cases e with
  | int j=>cases c;exact propext ⟨λz=>by cases z;rfl,λz=>by cases z;rfl⟩
  | str y=>obtain⟨rfl,_⟩:=c;exact propext ⟨λz=>(nomatch z),λz=>(nomatch z)⟩
  | _=>exact c.elim
 | str x =>
  obtain⟨rfl,_⟩:=ha;cases e with
  | int j=>cases c;exact propext ⟨λz=>(nomatch z),λz=>(nomatch z)⟩
  | str y=>obtain⟨rfl,_⟩:=c;exact propext ⟨λz=>by rw[uZ (FP z)],λz=>by cases z;rfl⟩
  | _=>exact c.elim
 | _=>exact ha.elim
theorem JK (h:M.jn d=zC) (r:zZ K c H d v):∃ k,qz d k/\v=kV k:=by
 cases d with
 | int i=>cases r;exact⟨.inl i,rfl,rfl⟩
 | str x=>obtain⟨rfl,ok⟩:=r;exact⟨.inr (ofT x),⟨rfl,ok⟩,rfl⟩
 | _=>cases h
section
variable {ρ:List zN}{H:Hp}{kvs:List (M.D×M.D)}{ks:List (Key×V)}{d:M.D}{k:Key}
theorem DR.val (r:DR K ρ H kvs ks) (f:qz d k):match M.jJ d kvs with | some e=>∃ v,qP ks k=zA v/\zZ K ρ H e v | none=>qP ks k=zB:=by
 induction r with
 | nil=>exact rfl
 | @cons p q ps i h t g =>
  have e:=YJ h.1 f;by_cases hd:p.1=d
  ·have c:q.1=k:=e.mpr hd;rw[YV c,M.jJ,Zz,beq_iff_eq.mpr hd.symm];exact⟨_,rfl,h.2⟩
  ·have c:¬ q.1=k:=λz=>hd (e.mp z);rw[ur c,M.jJ,Zz,beq_eq_false_iff_ne.mpr (yJ hd)];exact g
theorem DR.any (r:DR K ρ H kvs ks) (e:qz d k):(ks.any λc=>decide (c.1=k))=kvs.any λc=>decide (c.1=d):=by
 induction r with
 | nil=>rfl
 | @cons p q ps g h t f =>
  rw[Jk,Jk,f]
  congr 1
  exact decide_eq_decide.mpr (YJ h.1 e ▸ Iff.rfl)
theorem DR.put (r:DR K ρ H kvs ks) (c:qz d k) (f:zZ K ρ H e v):DR K ρ H (M.j1 d e kvs) (ya ks k v):=by
 unfold M.j1 ya;rw[r.any c];by_cases ha:(kvs.any λi=>decide (i.1=d))=zC
 ·rw[if_pos ha,if_pos ha];clear ha
  induction r with
  | nil=>exact .nil
  | @cons p q ps l h t j =>
   rw[ju,ju];refine .cons ?_ j;have g:=YJ h.1 c;by_cases hd:p.1=d
   ·rw[if_pos hd,if_pos (g.mpr hd)];exact⟨h.1,f⟩
   ·rw[if_neg hd,if_neg λz=>hd (g.mp z)];exact h
 ·rw[if_neg ha,if_neg ha];exact Paired.snoc r ⟨c,f⟩
theorem DR.drop (r:DR K ρ H kvs ks) (f:qz d k):DR K ρ H (M.jR d kvs) (Z9 ks k):=by
 unfold M.jR Z9
 induction r with
 | nil=>exact .nil
 | @cons p q ps g h t c =>
  have e:=YJ h.1 f;rw[Ug,Ug];by_cases hd:p.1=d
  ·rw[if_neg (by simp[hd]),if_neg (by simp[e.mpr hd])];exact c
  ·rw[if_pos (by simp[hd]),if_pos (show decide (q.1≠k)=zC from decide_eq_true λz=>hd (e.mp z))];exact .cons h c
end
theorem Jx {S:M.S} (e:zh K Θ c S H) {i:Nat}{a:zN} (ha:c[i]? = zA a) {kvs:List (M.D×M.D)} (q:S[i]? = zA (.dct kvs)):∃ ks,H a=zA (.dK ks)/\DR K c H kvs ks:=by
 obtain⟨b,d,f,g,r⟩:=e.obj i _ q;rw[ha] at d;cases d;exact⟨f,g,r⟩
theorem DI {S:M.S} (e:zh K Θ c S H) {i:Nat}{a:zN} (ha:c[i]? = zA a) {kvs:List (M.D×M.D)} (q:S[i]? = zA (.fdc kvs)):∃ o ks,H a=zA (.frz o (.dK ks))/\DR K c H kvs ks:=by
 obtain⟨b,d,o,f,g,r⟩:=e.obj i _ q;rw[ha] at d;cases d;exact⟨o,f,g,r⟩
inductive Q8 (K:zV) (H:Hp) (kb:List (Key×V)):List (Key×V)->Bool->Prop where
 | nil:Q8 K H kb [] zC
 | miss {k:Key}{v:V}{r:List (Key×V)} (h:qP kb k=zB):Q8 K H kb ((k,v)::r) zP
 | hit {k:Key}{v y:V}{r:List (Key×V)}{d e:Q0}{b:Bool} (h:qP kb k=zA y) (hd:qr K H v d) (he:qr K H y e) (sd:Zj d=zC) (se:Zj e=zC) (t:Q8 K H kb r b):Q8 K H kb ((k,v)::r) (kJ d e && b)
def U9 (neg:Bool) (K:zV):R2:=λx y H Q=>∃ a b c d r,x=.ref a/\y=.ref b/\H a=zA (.dK c)/\H b=zA (.dK d)/\(c.length=d.length->Q8 K H d c r)/\Q (.bl (if neg then !(c.length == d.length && r) else (c.length == d.length && r))) H
theorem Ad {X:Cx}{A:jf} (I:Inv X l σ H s) (m:A.units+64 < Zu) {n:List (Key×V)}{g:List (Key×zO)} (j:KV n g):∀ {o:List (Key×V)}{u:List (Key×zO)}{r:Bool},KV o u->Q8 X.K H n o r->PySem.W.KeqHits A s g u r
 | _,_,_,e,.nil=>by cases e;exact .nil
 | _,_,_,e,.miss h=>by
  cases e with
  | @cons p q ps y i t =>
   obtain⟨k,v⟩:=q;have d:_=k:=i.1;have c:=j.val k;rw[<- d,h] at c;refine .miss ?_;rw[<- d];cases f:Qx g _ with
   | none=>rfl
   | some w=>rw[f] at c;exact c.elim
 | _,_,_,e,.hit h hd z x B t=>by
  cases e with
  | @cons p q ps y i C =>
   obtain⟨k,v⟩:=q;have d:_=k:=i.1;have c:=j.val k;rw[<- d,h] at c;cases f:Qx g k with
   | none=>rw[d,f] at c;exact c.elim
   | some w =>
    rw[d,f] at c;obtain⟨as,E⟩:=hd.reads I i.2;obtain⟨bs,G⟩:=z.reads I c;exact .hit f (SeqAt.eqAt_reads _ _ A s _ _ as bs E G (OY x) (OY B) (SeqAt.room_of_shaped x m)) (Ad I m j C t)
theorem OA {X:Cx}{k:Nat} (f:jE k X.A):OpR X (jt .Eq) (U9 zP X.K):=by
 intro g s σ H x y v u Q I rx ry h;obtain⟨a,b,p,t,r,rfl,rfl,ha,i,j,q⟩:=h;cases rx;cases ry;obtain⟨z,l,B,c,m⟩:=Jj I.hok ha;obtain⟨C,n,E,d,o⟩:=Jj I.hok i;refine PySem.W.keq_eq l n m o f.units0 (λe=>Ad I (by show X.A.units+1+64 < _;have:=f.un;lia) d c (j (by rw[c.length,d.length];exact e))) ⟨.bl _,H,I,rfl,?_⟩;rw[<- c.length,<- d.length];exact q
theorem oM {X:Cx}{k:Nat} (f:jE k X.A):OpR X (jt .NotEq) (U9 zC X.K):=by
 intro g s σ H x y v u Q I rx ry h;obtain⟨a,b,p,t,r,rfl,rfl,ha,i,j,q⟩:=h;cases rx;cases ry;obtain⟨z,l,B,c,m⟩:=Jj I.hok ha;obtain⟨C,n,E,d,o⟩:=Jj I.hok i;refine PySem.W.keq_ne l n m o f.units0 (λe=>Ad I (by show X.A.units+1+64 < _;have:=f.un;lia) d c (j (by rw[c.length,d.length];exact e))) ⟨.bl _,H,I,rfl,?_⟩;rw[<- c.length,<- d.length];exact q
theorem c0 {S:M.S} (i:zh K Θ n S H) (o:DR K n H j p):∀ {ks:List (M.D×M.D)}{l:List (Key×V)}{b:Bool},DR K n H ks l->M.dEq S j ks=zA b->Q8 K H p l b
 | _,_,_,.nil,e=>by cases e;exact .nil
 | (k,v)::ks,(C,vv)::l,b,.cons h t,e=>by
  have d:=DR.val o h.1;unfold M.dEq at e;cases q:M.jJ k j with
  | none =>
   rw[q] at e d;cases e;exact .miss d
  | some w =>
   rw[q] at e d;obtain⟨y,r,ry⟩:=d;dsimp only at e;cases c:M.toP 8 S v with
   | none=>rw[c] at e;cases e
   | some s =>
    cases f:M.toP 8 S w with
    | none=>rw[c,f] at e;cases e
    | some u =>
     cases m:M.dEq S j ks with
     | none=>rw[c,f,m] at e;cases e
     | some E =>
      rw[c,f,m] at e;dsimp only at e;by_cases g:M.P.dep s <= 64/\M.P.dep u <= 64
      ·rw[if_pos g] at e;cases e;obtain⟨x,z⟩:=vO i _ c h.2;obtain⟨A,B⟩:=vO i _ f ry;rw[<- Wm];refine .hit r x A ?_ ?_ (c0 i o t m)
       ·unfold Zj;rw[z,Xd,Vd];exact decide_eq_true g.1
       ·unfold Zj;rw[B,Xd,Vd];exact decide_eq_true g.2
      ·rw[if_neg g] at e;cases e
theorem dU {S:M.S}{y:M.D}{l:Bool->Hp->Prop} (f:zh K Θ g S H) (rx:zZ K g H x u) (ry:zZ K g H y Y) (h:zR K Θ rB g H (M.vT x y S) l) :
  ∃ a b c d r,u=.ref a/\Y=.ref b/\H a=zA (.dK c)/\H b=zA (.dK d)/\(c.length=d.length->Q8 K H d c r)/\l (c.length == d.length && r) H:=by
 unfold M.vT at h;split at h
 ·rename_i i j;split at h
  ·rename_i ks B v z;obtain⟨a,rfl,ha⟩:=rx;obtain⟨b,rfl,A⟩:=ry;obtain⟨c,m,n⟩:=Jx f ha v;obtain⟨d,o,p⟩:=Jx f A z;have C:=Paired.length n;have E:=Paired.length p;split at h
   ·rename_i s;split at h
    ·rename_i t q;refine⟨a,b,c,d,t,rfl,rfl,m,o,λ_=>c0 f p n q,?_⟩;rw[show (c.length == d.length)=zC by rw[beq_iff_eq];lia,Xd];exact zR.here (b:=t) h f rfl
    ·exact h.elim
   ·rename_i s;refine⟨a,b,c,d,zP,rfl,rfl,m,o,λe=>absurd (by lia) s,?_⟩;rw[Bool.and_false];exact zR.here (b:=false) h f rfl
  ·exact h.elim
 ·exact h.elim
def YE (K:zV) (neg:Bool):R2:=λx y H Q=>(Xc x y=zC/\Q (.bl (if neg then !decide (x=y) else decide (x=y))) H)\/Uy K neg x y H Q\/U9 neg K x y H Q
theorem Zw {X:Cx}{k:Nat} (d:jE k X.A):OpR X (jt .Eq) (YE X.K zP):=by
 intro c s σ H x y v u Q I rx ry h;rcases h with h | h | h
 ·exact mF c s σ H x y v u Q I rx ry h
 ·exact FM d c s σ H x y v u Q I rx ry h
 ·exact OA d c s σ H x y v u Q I rx ry h
theorem Ve {X:Cx}{k:Nat} (d:jE k X.A):OpR X (jt .NotEq) (YE X.K zC):=by
 intro c s σ H x y v u Q I rx ry h;rcases h with h | h | h
 ·exact N0 c s σ H x y v u Q I rx ry h
 ·exact Px d c s σ H x y v u Q I rx ry h
 ·exact oM d c s σ H x y v u Q I rx ry h
theorem BQ {S:M.S}{y:M.D}{g:Bool->Hp->Prop} (l:zh K Θ o S H) (rx:zZ K o H x f) (ry:zZ K o H y Y) (h:zR K Θ rB o H (M.eqD x y S) g) :
  (Xc f Y=zC/\g (decide (f=Y)) H)\/(∃ d e,qr K H f d/\qr K H Y e/\Zj d=zC/\Zj e=zC/\g (kJ d e) H)\/∃ a b i j r,f=.ref a/\Y=.ref b/\H a=zA (.dK i)/\H b=zA (.dK j)/\(i.length=j.length->Q8 K H j i r)/\g (i.length == j.length && r) H:=by
 have gen:∀ {p q:M.P},M.toP M.ZP S x=zA p->M.toP M.ZP S y=zA q->M.P.dep p <= 64/\M.P.dep q <= 64->g (M.P.eqv p q) H->∃ d e,qr K H f d/\qr K H Y e/\Zj d=zC/\Zj e=zC/\g (kJ d e) H:=λ{p q} m n hd u=>by
  obtain⟨v,z⟩:=vO l _ m rx;obtain⟨A,B⟩:=vO l _ n ry;refine⟨_,_,v,A,?_,?_,by rw[Wm];exact u⟩
  ·unfold Zj;rw[z,Xd,Vd];exact decide_eq_true hd.1
  ·unfold Zj;rw[B,Xd,Vd];exact decide_eq_true hd.2
 have jo:zR K Θ rB o H (match M.toP M.ZP S x,M.toP M.ZP S y with
   | some p,zA q=>if M.P.dep p <= 64/\M.P.dep q <= 64 then M.R.ok (M.P.eqv p q) S else .no
   | _,_=>M.vT x y S) g->(∃ d e,qr K H f d/\qr K H Y e/\Zj d=zC/\Zj e=zC/\g (kJ d e) H)\/∃ a b i j r,f=.ref a/\Y=.ref b/\H a=zA (.dK i)/\H b=zA (.dK j)/\(i.length=j.length->Q8 K H j i r)/\g (i.length == j.length && r) H:=λh'=>by
  cases m:M.toP M.ZP S x with
  | none=>rw[m] at h';exact .inr (dU l rx ry h')
  | some p =>
   cases n:M.toP M.ZP S y with
   | none=>rw[m,n] at h';exact .inr (dU l rx ry h')
   | some q =>
    rw[m,n] at h';dsimp only at h';by_cases t:M.P.dep p <= 64/\M.P.dep q <= 64
    ·rw[if_pos t] at h';exact .inl <| gen m n t (zR.here (b:=M.P.eqv p q) h' l rfl)
    ·rw[if_neg t] at h';exact h'.elim
 have s:∀ {b:Bool},Xc f Y=zC->decide (f=Y)=b->M.eqD x y S=.ok b S->(Xc f Y=zC/\g (decide (f=Y)) H):=λ{b} C E G=>by
  rw[G] at h;rw[E];exact⟨C,zR.here (b:=b) h l rfl⟩
 cases x with
 | str a =>
  cases y with
  | str b =>
   obtain⟨rfl,_⟩:=rx;obtain⟨rfl,_⟩:=ry;refine .inl (s rfl ?_ rfl);by_cases c:a=b
   ·subst c;simp
   ·rw[decide_eq_false c,decide_eq_false λe=>c (uZ (V.str.inj e))]
  | _=>exact .inr (jo h)
 | int a =>
  cases y with
  | int b =>
   cases rx;cases ry;refine .inl (s rfl ?_ rfl);by_cases c:a=b
   ·subst c;simp
   ·rw[decide_eq_false c,decide_eq_false λe=>c (V.int.inj e)]
  | _=>exact .inr (jo h)
 | bl a =>
  cases y with
  | bl b =>
   cases rx;cases ry;refine .inl (s rfl ?_ rfl);by_cases c:a=b
   ·subst c;simp
   ·rw[decide_eq_false c,decide_eq_false λe=>c (V.bl.inj e)]
  | _=>exact .inr (jo h)
 | non =>
  cases y with
  | non=>cases rx;cases ry;exact .inl (s rfl rfl rfl)
  | _=>exact .inr (jo h)
 | _=>exact .inr (jo h)
theorem Z8:AdC K Θ M.cEq (YE K zP):=by
 intro o H S x y p Y Q c rx ry h;rcases BQ c rx ry h with h | ⟨d,e,f,g,i,j,l⟩ | ⟨a,b,m,n,r,h⟩
 ·exact .inl h
 ·exact .inr (.inl ⟨d,e,f,g,i,j,l⟩)
 ·exact .inr (.inr ⟨a,b,m,n,r,h⟩)
theorem K7:AdC K Θ M.cNe (YE K zC):=by
 intro g H S x y t Y Q i rx ry h;have h':zR K Θ rB g H (M.eqD x y S) (λb j=>Q (.bl (!b)) j):=zR.bind h λl u b v z A B c e f=>by cases e;exact zR.here (b:=!b) f c rfl
 rcases BQ i rx ry h' with h | ⟨d,e,f,m,n,o,p⟩ | ⟨a,b,q,s,r,h⟩
 ·exact .inl h
 ·exact .inr (.inl ⟨d,e,f,m,n,o,p⟩)
 ·exact .inr (.inr ⟨a,b,q,s,r,h⟩)
end
section
variable {K:zV}{Θ:Tab}
theorem e6:∀ {ds:List M.D}{d:List V}{bs:List Bool},M.xF ds=zA bs->zl K h H ds d->d=bs.map V.bl
 | [],_,_,e,r=>by cases e;cases r;rfl
 | .bl b::ds,_,_,e,r=>by
  obtain⟨y,d,rfl,f,g⟩:=r;cases f;have c:(M.xF ds).map (b :: ·)=zA _:=e;cases q:M.xF ds with
  | none=>rw[q] at c;cases c
  | some cs=>rw[q] at c;cases c;rw[e6 q g];rfl
 | .non::_,_,_,e,_=>by cases e
 | .int _::_,_,_,e,_=>by cases e
 | .str _::_,_,_,e,_=>by cases e
 | .tup _::_,_,_,e,_=>by cases e
 | .ro _::_,_,_,e,_=>by cases e
 | .ref _::_,_,_,e,_=>by cases e
 | .ty _::_,_,_,e,_=>by cases e
theorem ax:AdK K Θ M.xQ (Cg K):=by
 intro f H S ds g p Q c r d h;cases e:M.xF ds with
 | none=>simp only[M.xQ,e] at h;exact h.elim
 | some bs =>
  simp only[M.xQ,e] at h;have:=e6 e r;subst this;exact⟨p,bs,rfl,d,zR.here (b:=V.bl (bs.all id)) h c rfl⟩
theorem W8:∀ {ds:List M.D}{d:List V}{ts:List M.T},M.Qn ds=zA ts->zl K m H ds d->d=(ts.map ofT).map V.str/\∀ t∈ts,okT t
 | [],_,_,e,r=>by cases e;cases r;exact⟨rfl,λt h=>by cases h⟩
 | .str x::ds,_,_,e,r=>by
  obtain⟨y,d,rfl,g,i⟩:=r;obtain⟨rfl,ok⟩:=g;have c:(M.Qn ds).map (x :: ·)=zA _:=e;cases q:M.Qn ds with
  | none=>rw[q] at c;cases c
  | some cs =>
   rw[q] at c;cases c;obtain⟨j,l⟩:=W8 q i;refine⟨by rw[j];rfl,λt f=>?_⟩;rcases jc.mp f with rfl | f
   ·exact ok
   ·exact l t f
 | .non::_,_,_,e,_=>by cases e
 | .int _::_,_,_,e,_=>by cases e
 | .bl _::_,_,_,e,_=>by cases e
 | .tup _::_,_,_,e,_=>by cases e
 | .ro _::_,_,_,e,_=>by cases e
 | .ref _::_,_,_,e,_=>by cases e
 | .ty _::_,_,_,e,_=>by cases e
theorem Cn (x:M.T):∀ (d:List M.T) (c:M.T),((d.map ofT).foldl (λc p=>c++(ofT x).cps++p.cps) c.toArray)=(c++(d.map (x ++ ·)).flatten).toArray
 | [],c=>by simp
 | y::d,c=>by
  rw[ju,Uw];have e:c.toArray++(ofT x).cps++(ofT y).cps=(c++x++y).toArray:=by simp[ofT]
  rw[e,Cn x d];simp
theorem eJ (x y:M.T):∀ c:List M.T,M.JQ x (y::c)=y++(c.map (x ++ ·)).flatten
 | []=>by simp[M.JQ]
 | z::c=>by
  show y++x++M.JQ x (z::c)=_;rw[eJ x z c];simp
theorem ff (x:M.T) (c:List M.T):Ak (ofT x) (c.map ofT)=ofT (M.JQ x c):=by
 cases c with
 | nil=>rfl
 | cons y c =>
  show (⟨(((y::c).map ofT).drop 1).foldl (λd p=>d++(ofT x).cps++p.cps) (((y::c).map ofT).headD QL).cps⟩:Str)=_;rw[eJ,ju,List.drop_one,List.tail_cons];have:=Cn x c y;show (⟨(c.map ofT).foldl _ y.toArray⟩:Str)=_;rw[this];rfl
theorem D0 (hx:okT x):∀ {c:List M.T},(∀ t∈c,okT t)->okT (M.JQ x c)
 | [],_=>rfl
 | [y],h=>h y (by simp)
 | y::z::c,h=>Wb (Wb (h y (by simp)) hx) (D0 hx λt d=>h t (jj _ d))
theorem Ov (ts:List M.T):((ts.map ofT).map (·.length)).sum=(ts.map List.length).sum:=by
 rw[JA];exact congrArg List.sum (Jd λt _=>yM t)
theorem nq {y:M.T} (g:okT y):∀ c H S ds d p Q,zh K Θ c S H->zl K c H ds d->(SqL K H p d\/SqT K H p d)->zR K Θ (zZ K) c H (M.J6 y ds S) Q->bK K (.str (ofT y)) [.ref p] H Q:=by
 intro c H S ds d p Q i r j h;cases e:M.Qn ds with
 | none=>simp only[M.J6,e] at h;exact h.elim
 | some ts =>
  obtain⟨rfl,ok⟩:=W8 e r;by_cases f:(ts.map List.length).sum+ts.length * y.length <= M.SZ
  ·simp only[M.J6,e,if_pos f] at h;refine⟨ofT y,p,ts.map ofT,rfl,rfl,j,?_,?_⟩
   ·rw[Ov,qd,yM];exact f
   ·rw[ff];exact zR.here h i ⟨rfl,D0 g ok⟩
  ·simp only[M.J6,e,if_neg f] at h;exact h.elim
end
section
variable {K:zV}{Θ:Tab}
theorem eO (a:M.T):∀ (n:Nat) (c:Array Nat),(zm n a.toArray).foldl (· ++ ·) c=c++((zm n a).flatten).toArray
 | 0,c=>by simp
 | n+1,c=>by
  rw[xU,Uw,eO a n,xU,kK];simp
theorem nO (a:M.T) (n:Int) (g:0 <= n):UT (ofT a) n=ofT (zm n.toNat a).flatten:=by
 unfold UT;by_cases d:n < 1
 ·have e:n.toNat=0:=by lia
  rw[if_pos d,e];rfl
 ·rw[if_neg d];by_cases c:(n == 1 || (ofT a).length == 0)=zC
  ·rw[if_pos c];rw[YX] at c;rcases c with c | c
   ·have e:n=1:=eq_of_beq c;subst e;simp
   ·have e:a.length=0:=by rw[<- yM];exact eq_of_beq c
    have f:a=[]:=DN.mp e;subst f;simp[ofT]
  ·rw[if_neg c];have:=eO a n.toNat #[];show (⟨(zm n.toNat a.toArray).foldl (· ++ ·) #[]⟩:Str)=_;rw[this];simp[ofT]
theorem iK (a:M.T) (n:Int) (e:0 <= n) (f:n <= 1000000) (c:a.length * n.toNat <= 1000000):MulOk (ofT a) n:=by
 refine⟨?_,λd _=>?_,λd _=>?_⟩
 ·rw[Bool.or_eq_false_iff];exact⟨decide_eq_false (by lia),decide_eq_false (by lia)⟩
 ·rw[yM];have g:1 <= n.toNat:=by lia
  have ha:a.length <= 1000000:=qe (Nat.le_mul_of_pos_right _ (by lia)) c;have hd:(1000000:Int) <= (2 ^ 63 - 1) / n:=Int.le_ediv_of_mul_le (by lia) (by lia)
  lia
 ·rw[yM];unfold RH;exact decide_eq_false (by rw[Zc];lia)
def cw:R2:=λx y H Q=>Cw x y H Q\/Bw x y H Q
theorem XG {X:Cx}:OpR X (y4 .Mult) cw:=OpR.or FS IY
theorem zl.flat (h:zl K c H ds xs):∀ n:Nat,zl K c H (zm n ds).flatten (zm n xs).flatten
 | 0=>rfl
 | n+1=>by
  rw[xU,xU,kK,kK];exact zl.app h (zl.flat h n)
theorem k6:Ad2 K Θ M.Q1 cw:=by
 intro g H S x y X Y Q f rx ry h;cases x with
 | int i =>
  cases y with
  | int j =>
   cases rx;cases ry;have h':zR K Θ (zZ K) g H (if (M.Qr i || M.Qr j)=zC then M.R.ok (M.D.int (i * j)) S else .no) Q:=h;by_cases d:(M.Qr i || M.Qr j)=zC
   ·rw[if_pos d] at h';refine .inl ⟨?_,zR.here (b:=V.int (i * j)) h' f rfl⟩;rw[YX] at d;rcases d with d | d
    ·exact .inl (D3 d)
    ·exact .inr (D3 d)
   ·rw[if_neg d] at h';exact h'.elim
  | _=>exact h.elim
 | str a =>
  cases y with
  | int n =>
   obtain⟨rfl,m⟩:=rx;cases ry;have h':zR K Θ (zZ K) g H (if 0 <= n/\n.natAbs <= 1000000/\a.length * n.natAbs <= 1000000 then M.R.ok (M.D.str (zm n.toNat a).flatten) S else .no) Q:=h;by_cases d:0 <= n/\n.natAbs <= 1000000/\a.length * n.natAbs <= 1000000
   ·rw[if_pos d] at h';have s:n.natAbs=n.toNat:=by lia
    refine .inl ⟨iK a n d.1 (by lia) (by rw[<- s];exact d.2.2),?_⟩;show Q (.str (UT (ofT a) n)) H;rw[nO a n d.1];refine zR.here h' f ⟨rfl,ku m λc d=>?_⟩;obtain⟨l,t,e⟩:=List.mem_flatten.mp d;rw[(List.mem_replicate.mp t).2] at e;exact e
   ·rw[if_neg d] at h';exact h'.elim
  | _=>exact h.elim
 | ref p =>
  cases y with
  | int n =>
   cases ry;have h':zR K Θ (zZ K) g H (match M.qf S p with | some xs=>if n.natAbs <= 1000/\xs.length * n.natAbs <= 1000000 then M.alloc (.lst (zm n.toNat xs).flatten) S else .no | none=>.no) Q:=h;cases q:S[p]? with
   | none=>simp only[M.qf,q] at h';exact h'.elim
   | some o =>
    cases o with
    | lst ds =>
     simp only[M.qf,q] at h';obtain⟨a,rfl,u⟩:=rx;obtain⟨v,z,r⟩:=Jo f u q;by_cases d:n.natAbs <= 1000/\ds.length * n.natAbs <= 1000000
     ·rw[if_pos d] at h';have s:n.toNat <= n.natAbs:=by lia
      refine .inr ⟨a,n,v,rfl,rfl,z,by lia,by lia,?_,λp A=>zR.alloc h' f (zl.flat r n.toNat) A⟩;have hm:=Nat.mul_le_mul_left ds.length s;rw[<- r.length,Zc]
      lia
     ·rw[if_neg d] at h';exact h'.elim
    | dct _=>simp only[M.qf,q] at h';exact h'.elim
    | fdc _=>simp only[M.qf,q] at h';exact h'.elim
    | dtt _=>simp only[M.qf,q] at h';exact h'.elim
    | ftt _=>simp only[M.qf,q] at h';exact h'.elim
    | ins _ _=>simp only[M.qf,q] at h';exact h'.elim
  | _=>exact h.elim
 | _=>exact h.elim
def EJ (K:zV):R2:=λx y H Q=>uIx K x y H Q\/∃ a v,x=.ref a/\ZE H a y (zA v)/\Q v H
theorem yu {X:Cx}{k:Nat} (i:jE k X.A):IxR X (EJ X.K):=by
 refine IxR.or HC ?_;intro c d f s σ H x y v u Q I rx ry h j;obtain⟨a,l,rfl,g,q⟩:=h;cases rx;exact tail_any (lH I g) PySem.F.slot_dict_getitem.lookup (Ln (vF i) I g ry λn s3 m e=>⟨l,H,m,e,q⟩) j
def Di (K:zV):List V->Hp->VK->Prop:=λxs H Q=>Et K xs H Q\/∃ a kvs,xs=[V.ref a]/\H a=zA (.dK kvs)/\Q (.int kvs.length) H
theorem JL {X:Cx}:qp X (.builtin "len") (Di X.K):=qp.or PZ Ma
theorem yl:Ad2 K Θ M.jN (EJ K):=by
 intro z H S x y X Y Q g rx ry h;cases x with
 | str a =>
  cases y with
  | int i =>
   obtain⟨rfl,A⟩:=rx;cases ry;have h':zR K Θ (zZ K) z H (if a.length <= M.SZ then (match M.atI a i with | some c=>M.R.ok (M.D.str [c]) S | none=>.no) else .no) Q:=h;by_cases B:a.length <= M.SZ
   ·rw[if_pos B] at h';cases q:M.atI a i with
    | none=>rw[q] at h';exact h'.elim
    | some c =>
     rw[q] at h';refine .inl ⟨c,by rw[yM,<- Zm];exact B,?_,zR.here (b:=V.str (ofT [c])) h' g ⟨rfl,ku A λd hd=>by
      have e:d=c:=by simpa using hd
      rw[e];unfold M.atI at q;cases I:M.ixN a.length i with
      | none=>rw[I] at q;cases q
      | some j=>rw[I] at q;exact ZW q⟩⟩
     rw[Qe];exact q
   ·rw[if_neg B] at h';exact h'.elim
  | _=>exact h.elim
 | tup ds =>
  cases y with
  | int i =>
   obtain⟨l,xs,rfl,C,r⟩:=rx;cases ry;have h':zR K Θ (zZ K) z H (match M.atI ds i with | some d=>M.R.ok d S | none=>.no) Q:=h;cases q:M.atI ds i with
   | none=>rw[q] at h';exact h'.elim
   | some d =>
    rw[q] at h';obtain⟨v,m,n⟩:=W9 r q;exact .inl ⟨xs,v,.inr C,m,zR.here h' g n⟩
  | _=>exact h.elim
 | ro ds =>
  cases y with
  | int i =>
   obtain⟨l,xs,rfl,C,r⟩:=rx;cases ry;have h':zR K Θ (zZ K) z H (match M.atI ds i with | some d=>M.R.ok d S | none=>.no) Q:=h;cases q:M.atI ds i with
   | none=>rw[q] at h';exact h'.elim
   | some d =>
    rw[q] at h';obtain⟨v,m,n⟩:=W9 r q;exact .inl ⟨xs,v,.inl C.sq,m,zR.here h' g n⟩
  | _=>exact h.elim
 | ref p =>
  obtain⟨a,rfl,E⟩:=rx;cases q:S[p]? with
  | none=>simp[M.jN,q] at h;exact h.elim
  | some o =>
   cases o with
   | lst xs =>
    cases y with
    | int i =>
     cases ry;obtain⟨J,m,r⟩:=Jo g E q;cases f:M.atI xs i with
     | none=>simp[M.jN,q,f] at h;exact h.elim
     | some d =>
      simp[M.jN,q,f] at h;obtain⟨v,t,n⟩:=W9 r f;exact .inl ⟨J,v,.inl (SqL.of m),t,zR.here h g n⟩
    | _=>simp[M.jN,q] at h;exact h.elim
   | dct kvs =>
    by_cases s:M.jn y=zC
    case neg=>simp[M.jN,q,s] at h;exact h.elim
    obtain⟨ks,m,r⟩:=Jx g E q;obtain⟨k,G,rfl⟩:=JK s ry;have u:=r.val G;cases f:M.jJ y kvs with
    | none=>simp[M.jN,q,s,f] at h;exact h.elim
    | some d =>
     simp[M.jN,q,s,f] at h;rw[f] at u;obtain⟨v,t,n⟩:=u;refine .inr ⟨a,v,rfl,?_,zR.here h g n⟩;rw[<- t];exact ZE.k m
   | dtt _=>simp[M.jN,q] at h;exact h.elim
   | ftt _=>simp[M.jN,q] at h;exact h.elim
   | fdc kvs =>
    by_cases s:M.jn y=zC
    case neg=>simp[M.jN,q,s] at h;exact h.elim
    obtain⟨L,ks,m,r⟩:=DI g E q;obtain⟨k,G,rfl⟩:=JK s ry;have u:=r.val G;cases f:M.jJ y kvs with
    | none=>simp[M.jN,q,s,f] at h;exact h.elim
    | some d =>
     simp[M.jN,q,s,f] at h;rw[f] at u;obtain⟨v,t,n⟩:=u;refine .inr ⟨a,v,rfl,?_,zR.here h g n⟩;rw[<- t];exact (.inl ⟨ks,k,.inr ⟨L,m⟩,rfl,rfl⟩)
   | ins c fs=>simp[M.jN,q] at h;exact h.elim
 | _=>exact h.elim
theorem Qv:AdN K Θ M.yN (Di K):=by
 intro m H S xs s Q d rx h
 match xs,rx,h with
 | [.str a],rx,h =>
  obtain⟨_,_,rfl,⟨rfl,_⟩,rfl⟩:=rx;have h':zR K Θ (zZ K) m H (if a.length <= M.SZ then M.R.ok (M.D.int a.length) S else .no) Q:=h;by_cases e:a.length <= M.SZ
  ·rw[if_pos e] at h';refine .inl ⟨by rw[yM,<- Zm];exact e,?_⟩;rw[yM];exact zR.here (b:=V.int a.length) h' d rfl
  ·rw[if_neg e] at h';exact h'.elim
 | [.tup ds],rx,h =>
  obtain⟨_,_,rfl,⟨l,f,rfl,g,r⟩,rfl⟩:=rx;exact .inl ⟨f,.inr g,by rw[<- r.length];exact zR.here (b:=V.int ds.length) h d rfl⟩
 | [.ro ds],rx,h =>
  obtain⟨_,_,rfl,⟨l,f,rfl,g,r⟩,rfl⟩:=rx;exact .inl ⟨f,.inl g.sq,by rw[<- r.length];exact zR.here (b:=V.int ds.length) h d rfl⟩
 | [.ref p],rx,h =>
  obtain⟨_,_,rfl,⟨a,rfl,j⟩,rfl⟩:=rx;cases q:S[p]? with
  | none=>simp[M.yN,q] at h;exact h.elim
  | some o =>
   cases o with
   | lst xs =>
    simp[M.yN,q] at h;obtain⟨n,i,r⟩:=Jo d j q;exact .inl ⟨n,.inl (SqL.of i),by rw[<- r.length];exact zR.here (b:=V.int xs.length) h d rfl⟩
   | dct kvs =>
    simp[M.yN,q] at h;obtain⟨ks,i,r⟩:=Jx d j q;exact .inr ⟨a,ks,rfl,i,by rw[<- Paired.length r];exact zR.here (b:=V.int kvs.length) h d rfl⟩
   | fdc _=>simp[M.yN,q] at h;exact h.elim
   | dtt _=>simp[M.yN,q] at h;exact h.elim
   | ftt _=>simp[M.yN,q] at h;exact h.elim
   | ins c fs=>simp[M.yN,q] at h;exact h.elim
 | [.non],_,h=>exact h.elim
 | [.bl _],_,h=>exact h.elim
 | [.int _],_,h=>exact h.elim
 | [.ty _],_,h=>exact h.elim
 | [],_,h=>exact h.elim
 | a::_::_,_,h=>cases a<;>exact h.elim
def Xx (K:zV) (neg:Bool):R2:=λx y H Q=>uIn K neg x y H Q\/∃ a o,y=.ref a/\ZE H a x o/\Q (.bl (xor neg o.isSome)) H
theorem ub {X:Cx}{k:Nat} (d:jE k X.A):OpR X (jt .In) (Xx X.K zP):=by
 refine OpR.or Fq ?_;intro c s σ H x y v u Q I rx ry h;obtain⟨a,o,rfl,g,q⟩:=h;cases ry;exact iX (vF d) I g rx λs' e=>⟨.bl o.isSome,H,e,rfl,by rw[Ay] at q;exact q⟩
theorem xH {X:Cx}{k:Nat} (d:jE k X.A):OpR X (jt .NotIn) (Xx X.K zC):=by
 refine OpR.or cz ?_;intro c s σ H x y v u Q I rx ry h;obtain⟨a,o,rfl,g,q⟩:=h;cases ry;exact b5 (vF d) I g rx λs' e=>⟨.bl (!o.isSome),H,e,rfl,by rw[V9] at q;exact q⟩
theorem B3 (r:zZ K c H d v):yw v=M.flat d:=by
 cases d with
 | non=>cases r;rfl
 | bl _=>cases r;rfl
 | int _=>cases r;rfl
 | str _=>obtain⟨rfl,_⟩:=r;rfl
 | ty _=>cases r;rfl
 | ref _=>obtain⟨_,rfl,_⟩:=r;rfl
 | tup _=>obtain⟨_,_,rfl,_⟩:=r;rfl
 | ro _=>obtain⟨_,_,rfl,_⟩:=r;rfl
theorem NY (r:zZ K c H d v) (q:zZ K c H e u):eqV v u=M.eqF d e:=by
 cases d with
 | non =>
  cases r;cases e with
  | str _=>obtain⟨rfl,_⟩:=q;rfl
  | ref _=>obtain⟨_,rfl,_⟩:=q;rfl
  | tup _=>obtain⟨_,_,rfl,_⟩:=q;rfl
  | ro _=>obtain⟨_,_,rfl,_⟩:=q;rfl
  | _=>cases q;rfl
 | bl _ =>
  cases r;cases e with
  | str _=>obtain⟨rfl,_⟩:=q;rfl
  | ref _=>obtain⟨_,rfl,_⟩:=q;rfl
  | tup _=>obtain⟨_,_,rfl,_⟩:=q;rfl
  | ro _=>obtain⟨_,_,rfl,_⟩:=q;rfl
  | _=>cases q;rfl
 | int _ =>
  cases r;cases e with
  | str _=>obtain⟨rfl,_⟩:=q;rfl
  | ref _=>obtain⟨_,rfl,_⟩:=q;rfl
  | tup _=>obtain⟨_,_,rfl,_⟩:=q;rfl
  | ro _=>obtain⟨_,_,rfl,_⟩:=q;rfl
  | _=>cases q;rfl
 | str x =>
  obtain⟨rfl,_⟩:=r;cases e with
  | str y=>obtain⟨rfl,_⟩:=q;exact Cv x y
  | ref _=>obtain⟨_,rfl,_⟩:=q;rfl
  | tup _=>obtain⟨_,_,rfl,_⟩:=q;rfl
  | ro _=>obtain⟨_,_,rfl,_⟩:=q;rfl
  | _=>cases q;rfl
 | ty _=>cases r;rfl
 | ref _=>obtain⟨_,rfl,_⟩:=r;rfl
 | tup _=>obtain⟨_,_,rfl,_⟩:=r;rfl
 | ro _=>obtain⟨_,_,rfl,_⟩:=r;rfl
theorem cR:∀ {ds:List M.D}{xs:List V},zl K f H ds xs->xs.all yw=ds.all M.flat
 | [],_,r=>by cases r;rfl
 | _::_,_,⟨y,g,e,c,d⟩=>by subst e;rw[JJ,JJ,B3 c,cR d]
theorem BJ (rx:zZ K c H x v):∀ {ds:List M.D}{xs:List V},zl K c H ds xs->inV v xs=M.JD x ds
 | [],_,r=>by cases r;rfl
 | _::_,_,⟨y,g,e,d,f⟩=>by
  subst e;unfold inV M.JD;rw[Jk,Jk,NY d rx];have:=BJ rx f;unfold inV M.JD at this;rw[this]
theorem w6 (a:M.T):∀ b:M.T,M.Z7 a b=zC ↔ ∃ i,i+a.length <= b.length/\(b.drop i).take a.length=a
 | []=>by
  simp only[M.Z7,List.isEmpty_iff];constructor
  ·rintro rfl;exact⟨0,by simp,by simp⟩
  ·rintro ⟨i,h,e⟩
   simp at h;exact h.2
 | c::r=>by
  simp only[M.Z7,YX,w6 a r];constructor
  ·rintro (h | ⟨i,h,e⟩)
   ·have:=cO.mp h;exact⟨0,by simpa using this.length_le,by simpa using (c8.mp this).symm⟩
   ·exact⟨i+1,by simp;lia,by simpa using e⟩
  ·rintro ⟨i,h,e⟩
   cases i with
   | zero=>left;exact cO.mpr (c8.mpr (by simpa using e.symm))
   | succ i=>right;exact⟨i,by simp at h;lia,by simpa using e⟩
theorem Uk (a b:M.T) (i:Nat):UH (ofT b) (ofT a) (ofT b).length i↔(i+a.length <= b.length/\(b.drop i).take a.length=a):=by
 unfold UH rZ;rw[yM,yM];refine and_congr_right λ_=>?_;rw[beq_iff_eq];constructor
 ·intro h;have:=congrArg EB h;simpa [ofT,Kz] using this
 ·intro h;apply Array.ext';simpa [ofT,Kz] using h
theorem LX (a b:M.T):(!(kr (ofT b) (ofT a) 0 (ofT b).length 1).isEmpty)=M.Z7 a b:=by
 rcases p0 (ofT b) (ofT a) 1 (by decide) with ⟨e,h⟩ | ⟨i,r,e,h,_⟩
 ·rw[e];have:¬ M.Z7 a b=zC:=λq=>by
   obtain⟨i,q⟩:=(w6 a b).mp q;exact h i ((Uk a b i).mpr q)
  simpa using this
 ·rw[e];have:=(w6 a b).mpr ⟨i,(Uk a b i).mp h⟩;simp[this]
theorem cy {neg:Bool}{S:M.S}{y:M.D}{Q:VK} (f:zh K Θ m S H) (rx:zZ K m H x n) (ry:zZ K m H y Y) (h:zR K Θ rB m H (M.inD x y S) (λb A=>Q (.bl (xor neg b)) A)):Xx K neg n Y H Q:=by
 have seq:∀ {ds:List M.D}{xs:List V}{a:zN},(SqL K H a xs\/SqT K H a xs)->zl K m H ds xs->zR K Θ rB m H (if (M.flat x && ds.all M.flat)=zC then M.R.ok (M.JD x ds) S else .no) (λb A=>Q (.bl (xor neg b)) A)->uIn K neg n (.ref a) H Q:=λ{ds xs a} s r h'=>by
  by_cases t:(M.flat x && ds.all M.flat)=zC
  ·rw[if_pos t] at h';rw[j8,<- B3 rx,<- cR r] at t;have:=zR.here (b:=M.JD x ds) h' f rfl;rw[<- BJ rx r] at this;have g:∃ xs,(SqL K H a xs\/SqT K H a xs)/\yw n=zC/\xs.all yw=zC/\Q (.bl (xor neg (inV n xs))) H:=⟨xs,s,t.1,t.2,this⟩
   cases n<;>exact g
  ·rw[if_neg t] at h';exact h'.elim
 cases y with
 | str b =>
  cases x with
  | str a =>
   obtain⟨rfl,_⟩:=rx;obtain⟨rfl,_⟩:=ry;refine .inl ?_;show Q (.bl (xor neg (!(kr (ofT b) (ofT a) 0 (ofT b).length 1).isEmpty))) H;rw[LX];exact zR.here (b:=M.Z7 a b) h f rfl
  | _=>exact h.elim
 | tup ds =>
  obtain⟨l,xs,rfl,s,r⟩:=ry;exact .inl (seq (.inr s) r h)
 | ro ds =>
  obtain⟨l,xs,rfl,s,r⟩:=ry;exact .inl (seq (.inl s.sq) r h)
 | ref p =>
  obtain⟨a,rfl,B⟩:=ry;cases q:S[p]? with
  | none=>simp[M.inD,q] at h;exact h.elim
  | some o =>
   cases o with
   | lst ds =>
    obtain⟨G,u,r⟩:=Jo f B q;refine .inl (seq (.inl (SqL.of u)) r ?_);simp only[M.inD,q] at h;exact h
   | dct kvs =>
    by_cases i:M.jn x=zC
    case neg=>simp[M.inD,q,i] at h;exact h.elim
    simp only[M.inD,q,if_pos i] at h;obtain⟨ks,u,r⟩:=Jx f B q;obtain⟨k,C,rfl⟩:=JK i rx;have e:=r.val C;refine .inr ⟨a,qP ks k,rfl,ZE.k u,?_⟩;have j:(qP ks k).isSome=(M.jJ x kvs).isSome:=by
     cases z:M.jJ x kvs with
     | none=>rw[z] at e;rw[e];rfl
     | some d=>rw[z] at e;obtain⟨v,j,_⟩:=e;rw[j];rfl
    rw[j];exact zR.here (b:=(M.jJ x kvs).isSome) h f rfl
   | dtt _=>simp[M.inD,q] at h;exact h.elim
   | ftt _=>simp[M.inD,q] at h;exact h.elim
   | fdc kvs =>
    by_cases i:M.jn x=zC
    case neg=>simp[M.inD,q,i] at h;exact h.elim
    simp only[M.inD,q,if_pos i] at h;obtain⟨E,ks,u,r⟩:=DI f B q;obtain⟨k,C,rfl⟩:=JK i rx;have e:=r.val C;refine .inr ⟨a,qP ks k,rfl,(.inl ⟨ks,k,.inr ⟨E,u⟩,rfl,rfl⟩),?_⟩;have j:(qP ks k).isSome=(M.jJ x kvs).isSome:=by
     cases z:M.jJ x kvs with
     | none=>rw[z] at e;rw[e];rfl
     | some d=>rw[z] at e;obtain⟨v,j,_⟩:=e;rw[j];rfl
    rw[j];exact zR.here (b:=(M.jJ x kvs).isSome) h f rfl
   | ins c fs=>simp[M.inD,q] at h;exact h.elim
 | _=>exact h.elim
theorem UE:AdC K Θ M.cIn (Xx K zP):=by
 intro f H S x y m Y Q g rx ry h;refine cy g rx ry ?_;have h':zR K Θ rB f H (M.inD x y S) (λb i=>Q (.bl b) i):=h;revert h';cases M.inD x y S with
 | ok b s=>exact λh' c j n p l d e=>by cases e;rw[Ay];exact h' c j b p l d rfl
 | exc e s=>exact λh'=>h'
 | no=>exact λh'=>h'
theorem xC:AdC K Θ M.QH (Xx K zC):=by
 intro i H S x y j Y Q d rx ry h;exact cy d rx ry (zR.bind h λf l b m n o p c e g=>by cases e;rw[V9];exact zR.here (b:=!b) g c rfl)
theorem GV {X:Cx}{pos:Pos}{a:zN} (h:Qt X.mg x (.ref a)) (c:Gl X x) (r:∀ e H,zZ X.K e H d (.ref a)) (hd:(x == ("__debug__" : Str))=zP:=by decide):WE X Θ (.Name x pos) (M.eC d):=by
 delta WE at ⊢
 exact XS (cq h c hd) r
theorem kX {X:Cx} (h:WW X Θ e m):WT X Θ e m:=by
 delta WT WW at h ⊢
 exact PW.pt h
theorem xE {X:Cx}:JE X [] (RdT X.K Θ M.qE):=λc s σ H Q I ⟨f,d,S,st,e,h⟩=>Lf c s σ H Q I (zR.here (b:=true) h e rfl)
theorem N8 {X:Cx} (h:WT X Θ c t):JE X [c] (RdT X.K Θ t):=i8 (by with_unfolding_all exact h)
theorem wq {g1 g2:M.GM}:∀ ds σ d,(M.qq g1 (M.qq g2 M.Zf)) ds σ=zA d->ds.length=2:=λds σ d e=>by
 match ds,e with
 | [],e=>cases e
 | [a],e =>
  simp[M.qq] at e;split at e<;>cases e
 | [a,b],_=>rfl
 | a::b::c::r,e =>
  simp[M.qq,M.Zf] at e;split at e
  ·split at e<;>cases e
  ·cases e
theorem c5:∀ ns:List Int,zl K c H (ns.map .int) (ns.map V.int)
 | []=>rfl
 | n::ns=>⟨_,_,rfl,rfl,c5 ns⟩
theorem Pk {f:M.F} (c:∀ ns:List Int,ns.length <= 63->∃ s,f [.ro (ns.map .int)] []=.ok (.bl zC) s) {a:zN}{ns:List Int} (d:ns.length <= 63) (g:vN H) (j:SqL K H a (ns.map V.int)):SpM K Θ 1 f [.ref a] H (λv _=>v=.bl zC) E:=by
 obtain⟨s,e⟩:=c ns d;refine⟨[],[.ro (ns.map .int)],[],rfl,⟨_,_,rfl,⟨a,ns.map V.int,rfl,?_,c5 ns⟩,rfl⟩,⟨rfl,Ud,λi o q=>by simp at q⟩,?_⟩
 ·rcases j with (h | h) | h
  ·rcases g a with z | ⟨o,xs,z⟩
   ·rw[h] at z;cases z
   ·rw[h] at z;cases z
  ·exact .inl h
  ·exact .inr h
 ·rw[e];exact λl m b _ _ _ r=>r
end
section
variable {P:jF}{w:z7}{K:zV}{mg:Str->Option zO}{base:zg}{Θ:Tab}
theorem Nd {st:zo}{k:Nat}{b:M.SM} (F:Fun K x qual st f fd) (m:jG N ps (zv st))
  (d:∀ (c:zO) (A:jf) (outer:List Env) (s:zU) (H:Hp) (E:XK),jE k (A.deeper (y8 qual (zv st) s.heap.objs.size f c)) ->
   MSs (yf CX0 P w K mg base N qual (zv st) f c A outer s H E).nox Θ (yc st) b):z4 P w K mg base CX0 (k+1) f fd ps (SpM K Θ ps.length (M.fn N.length b)):=by
 refine F.ok (k:=k) m (λvs H Q E h=>?_) (λc A outer s H vs Q E n h=>?_)
 ·obtain⟨g,ds,S,l,r,_⟩:=h;rw[<- r.length,l]
 ·obtain⟨g,ds,S,l,r,o,h⟩:=h;refine⟨_,d c A outer s H E n,g,_,S,bD r N,o,?_⟩;have h':zR K Θ (zZ K) g H (b (ds.map zA++zm (N.length - ds.length) zB) S).out Q:=h;show jD K Θ g H (b (ds.map zA++zm (N.length - ds.length) zB) S) _;revert h';cases b (ds.map zA++zm (N.length - ds.length) zB) S with
  | rt a s=>exact λh'=>h'
  | nx a s=>exact λh' i p q t u j _=>h' i p .non t u j rfl
  | bk a s=>exact λh'=>h'.elim
  | ct a s=>exact λh'=>h'.elim
  | exc e a s=>exact λh'=>h'
  | no=>exact λh'=>h'
theorem qK {st:zo}{k:Nat}{b:M.SM} (F:Fun K x qual st f fd) (e:jG N ps (zv st))
  (c:∀ (d:zO) (A:jf) (outer:List Env) (s:zU) (H:Hp) (E:XK),jE k (A.deeper (y8 qual (zv st) s.heap.objs.size f d)) ->
   WSs (yf CX0 P w K mg base N qual (zv st) f d A outer s H E).nox Θ (yc st) b):z4 P w K mg base CX0 (k+1) f fd ps (SpM K Θ ps.length (M.fn N.length b)):=by with_unfolding_all exact Nd (x:=x) (qual:=qual) (st:=st) (f:=f) (fd:=fd) (N:=N) (ps:=ps) (k:=k) (b:=b) F e c
end
theorem wI:yB "sorted" = zA (.builtin "sorted"):=by decide +kernel
theorem nk:yB "min" = zA (.builtin "min"):=by decide +kernel
end L2
namespace L2
open PySem PySem.Spec PyProof.Rows PySem.Builtin.Str
section
variable {K:zV}{Θ:Tab}
theorem Wa (c:Nat):∀ l:M.T,M.qb c l=TX.qv c l
 | []=>rfl
 | d::r=>by
  unfold M.qb TX.qv;rw[Wa c r];rfl
theorem cv (c:Nat):∀ (l p:List Nat),p∈TX.qv c l->∀ x∈p,x∈l
 | [],p,e,x,hx=>by
  simp only[TX.qv,jc,vP,or_false] at e;subst e;exact absurd hx (by simp)
 | d::r,p,e,x,hx=>by
  have f:=cv c r;unfold TX.qv at e;split at e
  ·rcases jc.mp e with rfl | e
   ·cases hx
   ·exact jj _ (f p e x hx)
  ·cases q:TX.qv c r with
   | nil=>exact absurd q (TX.Fn c r)
   | cons a as =>
    rw[q] at e f;rcases jc.mp e with rfl | e
    ·rcases jc.mp hx with rfl | hx
     ·exact qM
     ·exact jj _ (f a qM x hx)
    ·exact jj _ (f p (jj _ e) x hx)
theorem Ao:∀ (ts:List M.T),(∀ t∈ts,okT t)->zl K c H (ts.map .str) ((ts.map ofT).map V.str)
 | [],_=>rfl
 | t::ts,h=>⟨_,_,rfl,⟨rfl,h t qM⟩,Ao ts λx hx=>h x (jj _ hx)⟩
theorem A0:AdM K Θ M.vy Bx:=by
 intro n H S x xs X o Q i rx e h;unfold M.vy at h;split at h
 ·rename_i z c;obtain⟨rfl,f⟩:=rx;obtain⟨Y,r,rfl,⟨rfl,j⟩,rfl⟩:=e;split at h
  ·rename_i l;refine⟨ofT z,ofT [c],rfl,rfl,rfl,by rw[yM,<- Zm];exact l,λp m=>?_⟩;rw[show ofT [c]=⟨#[c]⟩ from rfl,TX.Oi,Qe,<- Wa];refine h.alloc i (Ao (M.qb c z) λt g=>ku f λd hd=>?_) m;rw[Wa] at g;exact cv c z t g d hd
  ·exact h.elim
 ·exact h.elim
theorem bZ (c:Nat):∀ (l:M.T),(∀ x∈(M.y1 c l).1,x∈l)/\(∀ x∈(M.y1 c l).2.1,x∈l)/\∀ x∈(M.y1 c l).2.2,x∈l
 | []=>by simp[M.y1]
 | d::r=>by
  obtain⟨f,g,h⟩:=bZ c r;unfold M.y1;split
  ·rename_i e;subst e;simp;exact λx hx=>.inr hx
  ·refine⟨λx hx=>?_,λx hx=>jj _ (g x hx),λx hx=>jj _ (h x hx)⟩;rcases jc.mp hx with rfl | hx
   ·exact qM
   ·exact jj _ (f x hx)
theorem dv (c:Nat):∀ (l:M.T),c∉l->M.y1 c l=(l,[],[])
 | [],_=>rfl
 | d::r,h=>by
  have hd:d≠c:=λe=>h (e ▸ qM);unfold M.y1;rw[if_neg hd,dv c r λm=>h (jj _ m)]
theorem D6 (c:Nat):∀ (l:M.T) (i:Nat),l[i]? = zA c->(∀ k,k < i->l[k]? ≠ zA c)->M.y1 c l=(l.take i,[c],l.drop (i+1))
 | [],i,h,_=>by simp at h
 | d::r,0,h,_=>by
  simp at h;unfold M.y1;rw[if_pos h];simp
 | d::r,i+1,h,g=>by
  have hd:d≠c:=λe=>g 0 (by lia) (by simp[e]);unfold M.y1;rw[if_neg hd,D6 c r i (by simpa using h) λk f e=>g (k+1) (by lia) (by simpa using e)];simp
theorem Wu (c:Nat) (b:M.T) (i:Nat):UH (ofT b) (ofT [c]) (ofT b).length i↔b[i]? = zA c:=by
 rw[Uk];constructor
 ·rintro ⟨h,e⟩
  have:((b.drop i).take [c].length)[0]? = zA c:=by rw[e];rfl
  simpa using this
 ·intro h;obtain⟨d,e⟩:=yp.mp h;refine⟨by simp only[qL,Jb];lia,?_⟩;rw[vg d,e];rfl
theorem fy (x:M.T) (c:Nat):xj (ofT x) (ofT [c])=(ofT (M.y1 c x).1,ofT (M.y1 c x).2.1,ofT (M.y1 c x).2.2):=by
 unfold xj;rcases p0 (ofT x) (ofT [c]) 1 (by decide) with ⟨e,h⟩ | ⟨i,r,e,h,f⟩
 ·rw[e,dv c x]
  ·rfl
  ·intro m;obtain⟨i,hi,q⟩:=Qo.mp m;exact h i ((Wu c x i).mpr (by simp[q,hi]))
 ·rw[e,D6 c x i ((Wu c x i).mp h) λk d e=>f k d ((Wu c x k).mpr e)];simp[strSub,ofT,Str.length];exact bR (by simp)
def FQ:V->List V->Hp->VK->Prop:=λx vs H Q=>∃ z y,x=.str z/\vs=[.str y]/\(y.length == 0)=zP/\z.length <= z5 /\
  ∀ p,H p=zB->Q (.ref p) (upd H p (.tup [.str (xj z y).1,.str (xj z y).2.1,.str (xj z y).2.2]))
theorem fC:AdM K Θ M.Yn FQ:=by
 intro g H S x xs X q Q i rx e h;unfold M.Yn at h;split at h
 ·rename_i z c;obtain⟨rfl,d⟩:=rx;obtain⟨Y,r,rfl,⟨rfl,j⟩,rfl⟩:=e;split at h
  ·rename_i l;refine⟨ofT z,ofT [c],rfl,rfl,rfl,by rw[yM,<- Zm];exact l,λp f=>?_⟩;rw[fy];obtain⟨m,n,o⟩:=bZ c z;refine h g _ _ (jd _) (Le.new f _) (i.aside f _) ⟨p,_,rfl,.inl (.inl qD),?_⟩;exact⟨_,_,rfl,⟨rfl,ku d m⟩,_,_,rfl,⟨rfl,ku d n⟩,_,_,rfl,⟨rfl,ku d o⟩,rfl⟩
  ·exact h.elim
 ·exact h.elim
theorem Xa {S:M.S}{p:Nat}{X:V}{ds:List M.D} (f:zh K Θ c S H) (rx:zZ K c H (.ref p) X) (e:S[p]? = zA (.lst ds)):∃ a xs,X=.ref a/\c[p]? = zA a/\H a=zA (.lst xs)/\zl K c H ds xs:=by
 obtain⟨a,rfl,ha⟩:=rx;obtain⟨b,d,xs,hx,r⟩:=f.obj p _ e;rw[ha] at d;cases d;exact⟨a,xs,rfl,ha,hx,r⟩
theorem KU {H:Hp}{a:zN}{xs:List V} (h:H a=zA (.lst xs)):Mut (H a):=by rw[h];trivial
theorem ao:AdM K Θ M.vl dQ:=by
 intro i H S x xs X l Q d rx c h;unfold M.vl at h;split at h
 ·rename_i p y;obtain⟨Y,r,rfl,ry,rfl⟩:=c;split at h
  ·rename_i ds e;obtain⟨a,f,rfl,ha,hx,g⟩:=Xa d rx e;split at h
   ·rename_i j;have le:=Le.put (KU hx) (.lst (f++[Y]));refine⟨a,f,Y,rfl,rfl,hx,by rw[<- Zm,<- g.length];exact j,?_⟩;exact h i _ _ (jd _) le (d.put ha (KU hx) ⟨_,qD,(g.mono (jd _) le).app ⟨_,_,rfl,ry.mono (jd _) le,rfl⟩⟩) rfl
   ·exact h.elim
  ·exact h.elim
 ·exact h.elim
theorem B0:AdM K Θ M.Uj eL:=by
 intro j H S x xs X m Q f rx c h;unfold M.Uj at h;split at h
 ·rename_i p;cases c;split at h
  ·rename_i ds e;obtain⟨a,g,rfl,ha,hx,d⟩:=Xa f rx e;split at h
   ·rename_i y i;rw[List.getLast?_eq_getElem?] at i;obtain⟨Y,l,ry⟩:=d.get i;have le:=Le.put (KU hx) (.lst g.dropLast);exact⟨a,g,Y,rfl,rfl,hx,by rw[<- d.length];exact l,h j _ _ (jd _) le (f.put ha (KU hx) ⟨_,qD,d.dropLast.mono (jd _) le⟩) (ry.mono (jd _) le)⟩
   ·exact h.elim
  ·exact h.elim
 ·exact h.elim
end
section
variable {K:zV}{Θ:Tab}
theorem Il (x:M.T) (a b:Nat):uv (ofT x) (ofT [a]) (ofT [b])=ofT (x.map λc=>if c=a then b else c):=by
 have h:=TX.Mb (ofT x) a b;have e:∀ s:Str,s=ofT s.cps.toList:=λs=>by cases s;simp[ofT]
 rw[e (uv (ofT x) (ofT [a]) (ofT [b]))];show ofT (uv (ofT x) ⟨#[a]⟩ ⟨#[b]⟩).cps.toList=_;rw[h,Qe]
theorem hZ {X:Cx}{to:TE}{y z:Str}{j k:Nat}{p r c d:Pos} (B:PE X o to) (i:(y == z)=zP) (e:JI o "replace" X.env (eval o X.env)=eval o X.env:=by rfl) (f:(c.endLine == d.line)=zC:=by rfl) :
  PE X (.Call (.Attribute o "replace" c) [.Constant (.str y) j p,.Constant (.str z) k r] [] d) (λσ H Q=>to σ H λx l=>∃ a,x=.str a/\a.length+(a.length+1) * z.length <= 16777216/\Q (.str (uv a y z)) l):=by
 intro g s σ H Q I h;refine Hv e rfl f rfl (jC (B g s σ H _ I h) λv s1 x l m A ⟨a,ex,C,q⟩=>?_);subst ex;obtain⟨E,G⟩:=wh (T := "str") m A rfl;obtain⟨t,rfl⟩:=A;refine⟨"str","str.replace",kQ,PySem.F.slot_str_replace,PySem.F.type_str_replace,E,G,?_⟩;refine ak rfl (Es ?_);show zc _ _ (spliced [(zP,eval (.Constant (.str y) j p) X.env),(zP,eval (.Constant (.str z) k r) X.env)]) _ _ s1;refine Ek (cG (Ek (cG (mL ?_))));have J:=m.tk;exact ZL (n:=1) (show 1 <= s1.toks+1+1 by lia) (SC.replace (u:=s1.toks) (v:=s1.toks+1) (QZ J) (Nat.succ_ne_zero _) (je (u6 _)) i C λt' k L=>⟨.str _,l,m.tok k L,⟨_,rfl⟩,q⟩)
theorem Ha {X:Cx}{y z:Str}{a b:Nat}{j k:Nat}{E N f g:Pos} (G:WE X Θ o mo) (I:y=ofT [a]) (t:z=ofT [b]) (u:(a == b)=zP) (hok:okT [b]) (l:JI o "replace" X.env (eval o X.env)=eval o X.env:=by rfl) (m:(f.endLine == g.line)=zC:=by rfl) :
  WE X Θ (.Call (.Attribute o "replace" f) [.Constant (.str y) j E,.Constant (.str z) k N] [] g) (M.eM .str M.DZ mo (M.zQ (M.eC (.str [a])) (M.zQ (M.eC (.str [b])) M.zS))):=by
 delta WE at G ⊢
 have v:(y == z)=zP:=by
  cases q:y == z with
  | false=>rfl
  | true =>
   have e:=eq_of_beq q;rw[I,t] at e;have U:=uZ e;cases U;simp at u
 refine (hZ G v l m).up λσ H Q Y A S st rp h=>⟨Y,A,S,st,rp,zR.bind h λr J x X1 s E l1 B rx i=>?_⟩
 cases x with
 | str w =>
  obtain⟨rfl,C⟩:=rx;have n:zR X.K Θ (zZ X.K) r J (if 2 * w.length+1 <= M.SZ then .ok (.str (w.map λc=>if c=a then b else c)) s else .no) Q:=i;by_cases L:2 * w.length+1 <= M.SZ
  ·rw[if_pos L] at n;refine⟨ofT w,rfl,?_,?_⟩
   ·rw[t,yM,yM];have:M.SZ=16777216:=rfl;simp only[qL,Jb]
    lia
   ·rw[I,t,Il];refine zR.here n B ⟨rfl,ja.mpr λc hc=>?_⟩;obtain⟨d,hd,rfl⟩:=Zn.mp hc;split
    ·exact ja.mp hok b (by simp)
    ·exact ja.mp C d hd
  ·rw[if_neg L] at n;exact n.elim
 | non=>exact i.elim
 | bl _=>exact i.elim
 | int _=>exact i.elim
 | ty _=>exact i.elim
 | tup _=>exact i.elim
 | ro _=>exact i.elim
 | ref p =>
  have n:zR X.K Θ (zZ X.K) r J (if M.yj .str (.ref p) s then _ else .no) Q:=i;have e:M.yj .str (.ref p) s=zP:=by
   simp only[M.yj];cases s[p]? with
   | none=>rfl
   | some o=>cases o<;>rfl
  rw[e] at n;exact n.elim
theorem Pa (x y:M.T):AB (ofT x) (ofT y)=y.isPrefixOf x:=by
 have h:(AB (ofT x) (ofT y)=zC)↔UH (ofT x) (ofT y) (ofT x).length 0:=by
  unfold AB UH;rw[j8,decide_eq_true_iff]
 rw[YD,h,Uk,cO,c8];constructor
 ·rintro ⟨_,e⟩
  rw[UV] at e;exact e.symm
 ·intro e;rw[UV];refine⟨?_,e.symm⟩;have:=congrArg List.length e;rw[xD] at this
  lia
noncomputable def dz:V->List V->Hp->VK->Prop:=λx vs H Q=>∃ z y,x=.str z/\vs=[.str y]/\Q (.bl (AB z y)) H
theorem iF {X:Cx}:MtR X "str.startswith" dz:=by
 intro c s σ H x vs v us Q I rx d h;obtain⟨z,y,rfl,rfl,q⟩:=h;obtain⟨t,rfl⟩:=rx;obtain⟨u,rfl,e,rfl⟩:=ZN d;exact SC.startswith ⟨.bl _,H,I,rfl,q⟩
theorem OI:AdM K Θ M.WK dz:=by
 intro i H S x xs X j Q e rx d h;unfold M.WK at h;split at h
 ·rename_i z c;obtain⟨rfl,f⟩:=rx;obtain⟨Y,r,rfl,⟨rfl,g⟩,rfl⟩:=d;split at h
  ·refine⟨ofT z,ofT c,rfl,rfl,?_⟩;rw[Pa];exact zR.here h e rfl
  ·exact h.elim
 ·exact h.elim
end
end L2
namespace L2
open PySem PySem.Spec PyProof.Rows
theorem Inv.turned2 {X:Cx}{h':zg}{t':Nat}{T:zN} (I:Inv X d σ H s) (i:QG X d H e) (j:QG X d H it) (t:s.heap.objs.size <= T)
  (k:∀ b q,b≠e->b≠it->s.heap.get? b=zA q->h'.get? b=zA q) (new:jz X.prog X.w (upd H T o) h' T o) (x:0 < t'):Inv X d σ (upd H T o) { s with heap:=h',toks:=t' }:=by
 have p:H T=zB:=I.hok.fresh t;have y:∀ {b:zN}{q:Obj},s.heap.get? b=zA q->b≠T:=λe=>je (j6 (jM e) t);have h:∀ {b:zN}{u:HO},H b=zA u->b≠e/\b≠it:=λq=>⟨(λz=>by rw[z,i.1] at q;cases q),(λz=>by rw[z,j.1] at q;cases q)⟩
 refine I.step (g':=s.gens) (d':=s.drawn) (ch:=[e,it]) (λb l=>?_) (λb q _ _ f g _=>k b q (λz=>f (by simp[z])) (λz=>f (by simp[z])) g) (λb q _ _ f g _=>⟨q.slots,k b q (λz=>f (by simp[z])) (λz=>f (by simp[z])) g⟩)
  (λb q _ g n=>by rw[jA (y g)];exact n) (λb q f g=>⟨q,k b q (λz=>f (by simp[z])) (λz=>f (by simp[z])) g⟩)
  (λb xs g=>by rw[jA (Z1 g p)];exact g) (λb q u g=>by rw[jA (Z1 g p)];exact g) (λb ps g=>⟨#[],by rw[jA (Z1 g p),g];simp⟩) (λm hm=>?_) (λb u g=>?_) I.bare x
 ·rcases jc.mp l with rfl | l
  ·exact⟨i.2.2.2.1,i.2.1,i.2.2.2.2.1,i.2.2.2.2.2⟩
  ·have z:b=it:=by simpa using l
   subst z;exact⟨j.2.2.2.1,j.2.1,j.2.2.2.2.1,j.2.2.2.2.2⟩
 ·obtain⟨q,es,A,B,r⟩:=hm;exact⟨q,es,A,k _ q (yJ i.2.1) (yJ j.2.1) B,r⟩
 ·by_cases l:b=T
  ·subst l;rw[qD] at g;cases g;exact new
  ·rw[jA l] at g;refine (I.hok b u g).stay (λc v f q=>?_) (λc q=>by rw[jA (Z1 q p)];exact q) λc xs q=>by rw[jA (Z1 q p)];exact q
   rcases f with z | z
   ·rw[z] at q ⊢;exact k _ _ (h g).1 (h g).2 q
   ·exact k _ _ (h z).1 (h z).2 q
section
variable {Θ:Tab}
theorem Yj:∀ (k:Int) (ds:List M.D),(M.ZX k ds).length=ds.length
 | _,[]=>rfl
 | k,d::ds=>by rw[M.ZX,qL,qL,Yj]
theorem Bk:∀ (k:Int) (ds:List M.D) (i:Nat),(M.ZX k ds)[i]? = ds[i]?.map λd=>.tup [.int (k+i),d]
 | _,[],_=>rfl
 | k,d::ds,0=>by simp[M.ZX]
 | k,d::ds,i+1=>by
  rw[M.ZX,qw,Bk (k+1) ds i,qw];rw[show k+1+(i:Int)=k+((i+1:Nat):Int) by lia]
end
section
variable {Θ:Tab}
theorem PS.or {X:Cx}{st:zo} (h:PS X st t) (h':PS X st t'):PS X st (λD σ H=>t D σ H\/t' D σ H):=λc s σ H D I q=>by
 rcases q with q | q
 ·exact h c s σ H D I q
 ·exact h' c s σ H D I q
theorem wd {X:Cx}{k:Nat}{pos:Pos}{n:Nat} (e:X.calm=zC) (h:WGs X Θ f es g) (i:∀ ds σ c,g ds σ=zA c->ds.length=n) (j:(J9 es X.env).length=n:=by rfl) (d:(J9 es X.env).findIdx? (·.1)=zB:=by rfl):WG X Θ f (.Tuple es k pos) (M.Zo g):=by
 delta WG WGs at h ⊢
 exact pZ (es:=es) (LR e h j d) i
theorem Qz {H:Hp}{a:zN}{ks:List (Key×V)} (h:H a=zA (.dK ks)):Mut (H a):=by rw[h];trivial
theorem PJ {X:Cx}{pos pos':Pos} (hr:jE n X.A) (ho:ME X Θ o mo) (hi:ME X Θ i mi) (he:ME X Θ e me)
  (ha:∀ v,kn (.Subscript o i pos') X.env v=(do
   let ov <- holding [v] (eval o X.env)
   let iv <- holding [v,ov] (eval i X.env)
   Qh pos'
   holding [v,ov,iv] (V7 ov iv v)
   release [v,ov,iv] []):=by intro _;rfl)
  (hs:dN [.Subscript o i pos'] e pos.line X.env=pure zP:=by rfl) (hw:eE [.Subscript o i pos'] e X.env=pure zB:=by rfl) (h1:(J9 [.Subscript o i pos'] X.env).map (·.2)=[kn (.Subscript o i pos') X.env]:=by rfl)
  (hs2:xR e (zA (.Subscript o i pos')) pos.line X.env=pure zP:=by rfl):MS X Θ (.Assign [.Subscript o i pos'] e pos) (M.ZZ mo mi me) :=
 (PS.or (h8 he (NS ho hi Iz ha) hs hw h1) (Lu (by have:=hr.units;lia) ho hi he hs2)).up λD σ H G d S st rp h=>by
  have f:jD X.K Θ G H ((me d S).stm d λy s=>(mo d s).stm d λx s=>(mi d s).stm d λk s=>(M.Zs x k y s).stm d λ_ s=>.nx d s) D:=h;clear h;cases U:me d S with
  | no=>rw[U] at f;exact f.elim
  | exc a s=>rw[U] at f;exact .inr ⟨G,d,S,st,rp,by rw[U];exact (show yY X.K Θ G H a s from f)⟩
  | ok y S1 =>
   rw[U,M.jy] at f;cases hO:mo d S1 with
   | no=>rw[hO] at f;exact f.elim
   | exc a s=>rw[hO] at f;exact .inr ⟨G,d,S,st,rp,by rw[U];exact λg H1 v p l m rv=>⟨g,d,S1,st.mono p l,m,by rw[hO];exact yY.weak (show yY X.K Θ G H a s from f) p l⟩⟩
   | ok x S2 =>
    rw[hO,M.jy] at f;cases hI:mi d S2 with
    | no=>rw[hI] at f;exact f.elim
    | exc a s=>rw[hI] at f;exact .inr ⟨G,d,S,st,rp,by rw[U];exact λg H1 v p l m rv=>⟨g,d,S1,st.mono p l,m,by rw[hO];exact λB H2 v2 t u C rv2=>⟨B,d,S2,st.mono (p.trans t) (l.trans u),C,by rw[hI];exact yY.weak (show yY X.K Θ G H a s from f) (p.trans t) (l.trans u)⟩⟩⟩
    | ok k S3 =>
     rw[hI,M.jy] at f;cases x with
     | ref p =>
      cases q:S3[p]? with
      | none=>simp only[M.Zs,q] at f;exact f.elim
      | some ob =>
       cases ob with
       | lst xs =>
        cases k with
        | int j =>
         cases hj:M.ixN xs.length j with
         | none=>simp only[M.Zs,q,hj] at f;exact f.elim
         | some j' =>
          simp only[M.Zs,q,hj,M.jy] at f;refine .inl ⟨G,d,S,st,rp,?_⟩;rw[U];intro g H1 Y I J m ry;refine⟨g,d,S1,st.mono I J,m,?_⟩;rw[hO];intro B H2 Xv t u C rx;refine⟨B,d,S2,st.mono (I.trans t) (J.trans u),C,?_⟩;rw[hI];intro L H3 Kv N Q E rk;obtain⟨a,zs,rfl,ha,hx,rz⟩:=Xa E (rx.mono N Q) q;cases rk;have le:=Le.put (KU hx) (.lst (zs.set j' Y));refine⟨a,zs,j,j',rfl,rfl,hx,by rw[<- rz.length];exact hj,?_⟩;exact f L _ σ (I.trans (t.trans N)) (J.trans (u.trans (Q.trans le))) (E.put ha (KU hx) ⟨_,qD,zl.set (ry.mono (t.trans N) (u.trans (Q.trans le))) j' (rz.mono (jd _) le)⟩) (st.mono (I.trans (t.trans N)) (J.trans (u.trans (Q.trans le))))
        | _=>simp only[M.Zs,q] at f;exact f.elim
       | dct kvs =>
        cases hk:(M.jn k && decide (kvs.length < M.SZ)) with
        | false=>simp only[M.Zs,q,hk] at f;exact f.elim
        | true =>
         have hk2:(if (M.jn k && decide (kvs.length < M.SZ))=zC then M.R.ok () (S3.set p (.dct (M.j1 k y kvs))) else .no)=M.R.ok () (S3.set p (.dct (M.j1 k y kvs))):=if_pos hk;simp only[M.Zs,q,hk2,M.jy] at f;rw[j8] at hk;refine .inr ⟨G,d,S,st,rp,?_⟩;rw[U];intro g H1 Y I J m ry;refine⟨g,d,S1,st.mono I J,m,?_⟩;rw[hO];intro B H2 Xv t u C rx;refine⟨B,d,S2,st.mono (I.trans t) (J.trans u),C,?_⟩;rw[hI];intro L H3 Kv N Q E rk;obtain⟨a,rfl,ea⟩:=rx.mono N Q;obtain⟨b,e1,ks,e2,r⟩:=E.obj _ _ q;rw[ea] at e1;cases e1;obtain⟨kk,hkk,rfl⟩:=JK hk.1 rk;have le:=Le.put (Qz e2) (.dK (ya ks kk Y));refine⟨a,_,rfl,VV.k e2 (by rw[<- Paired.length r,<- Zm];exact of_decide_eq_true hk.2),?_⟩;have r':DR X.K L (upd H3 a (.dK (ya ks kk Y))) kvs ks:=Paired.mapP r λa b z=>⟨z.1,z.2.mono (jd _) le⟩
         exact f L _ σ (I.trans (t.trans N)) (J.trans (u.trans (Q.trans le))) (E.put ea (Qz e2) ⟨_,qD,DR.put r' hkk (ry.mono (t.trans N) (u.trans (Q.trans le)))⟩) (st.mono (I.trans (t.trans N)) (J.trans (u.trans (Q.trans le))))
       | fdc _=>simp only[M.Zs,q] at f;exact f.elim
       | dtt _=>simp only[M.Zs,q] at f;exact f.elim
       | ftt _=>simp only[M.Zs,q] at f;exact f.elim
       | ins c fs=>simp only[M.Zs,q] at f;exact f.elim
     | _=>exact f.elim
theorem xp {X:Cx}{pos pos':Pos} (g:jE n X.A) (h:WE X Θ o mo) (hi:WE X Θ i mi) (j:WE X Θ e me)
  (ha:∀ v,kn (.Subscript o i pos') X.env v=(do
   let c <- holding [v] (eval o X.env)
   let d <- holding [v,c] (eval i X.env)
   Qh pos'
   holding [v,c,d] (V7 c d v)
   release [v,c,d] []):=by intro _;rfl)
  (l:dN [.Subscript o i pos'] e pos.line X.env=pure zP:=by rfl) (hw:eE [.Subscript o i pos'] e X.env=pure zB:=by rfl) (m:(J9 [.Subscript o i pos'] X.env).map (·.2)=[kn (.Subscript o i pos') X.env]:=by rfl)
  (f:xR e (zA (.Subscript o i pos')) pos.line X.env=pure zP:=by rfl):WS X Θ (.Assign [.Subscript o i pos'] e pos) (M.ZZ mo mi me):=by with_unfolding_all exact PJ (X:=X) (o:=o) (i:=i) (e:=e) (mo:=mo) (mi:=mi) (me:=me) (pos:=pos) (pos':=pos') (n:=n) g h hi j ha l hw m f
end
section
variable {K:zV}{Θ:Tab}
theorem WL:∀ {xs:List V}{us:List zO},xs.length=us.length->(∀ (j:Nat) u,us[j]? = zA u->∃ x,xs[j]? = zA x/\zx x u)->z6 xs us
 | [],[],_,_=>.nil
 | [],_::_,h,_=>by simp at h
 | _::_,[],h,_=>by simp at h
 | x::xs,u::us,h,k=>by
  obtain⟨y,e,r⟩:=k 0 u rfl;cases e;exact .cons r (WL (by simpa using h) λj u c=>by
   obtain⟨y,e,r⟩:=k (j+1) u (by simpa using c);exact⟨y,by simpa using e,r⟩)
theorem Dx {P:jF}{w:z7}{k:Key}{v:zO} (h:(jm P w).is k v=zC):zx (kV k) v:=by
 rcases Qj (k:=k) (v:=v) h with ⟨i,t,rfl,rfl⟩ | ⟨x,t,rfl,rfl⟩
 ·exact⟨t,rfl⟩
 ·exact⟨t,rfl⟩
def cJ (K:zV):List V->Hp->VK->Prop:=λxs H Q=>(∃ p c,xs=[.ref p]/\(SqL K H p c\/SqT K H p c)/\∀ l,H l=zB->Q (.ref l) (upd H l (.lst c))) \/
 ∃ p ks,xs=[.ref p]/\H p=zA (.dK ks)/\∀ l,H l=zB->Q (.ref l) (upd H l (.lst (ks.map λd=>kV d.1)))
theorem Y6 {X:Cx}{k:Nat} (t:jE k X.A):qp X (.type "list") (cJ X.K):=by
 intro c s σ H xs us Q I r h;rcases h with h | ⟨p,ks,rfl,v,q⟩
 ·exact LM c s σ H xs us Q I r h
 ·obtain⟨u,rfl,y⟩:=ZN r;cases y;obtain⟨z,lo,vs,i,B⟩:=Jj I.hok v;obtain⟨M,C⟩:=B.dictAt;have N:=i.length;refine ZL (n:=1) I.tk (PySem.W.kdl_call (Lr lo) t.hd C (by lia) λh' tk f E keep G it g=>?_);obtain⟨hsz,hit⟩:=it;refine⟨.ref s.heap.objs.size,_,I.laid (t':=tk) (o:=.lst (ks.map λl=>kV l.1)) keep (jB _) ⟨by rw[qd];exact z,f.toList,E,WL (by simp;lia) λj u J=>?_,by simpa using G⟩ g,rfl,q _ (I.hok.fresh (jB _))⟩;obtain⟨k,x,e,L⟩:=hit j u (by simpa using J);have U:j < ks.length:=by have:=(yp.mp e).1;lia
  have d:(ks.map (·.1))[j]? = zA k:=by rw[i.keys,y9,e];rfl
  refine⟨kV k,?_,Dx L⟩;rw[y9] at d ⊢;cases m:ks[j]? with
  | none=>rw[m] at d;cases d
  | some l=>rw[m] at d;cases d;rfl
theorem WJ:∀ {kvs:List (M.D×M.D)}{ks:List (Key×V)},DR K e H kvs ks->zl K e H (kvs.map (·.1)) (ks.map λf=>kV f.1)
 | _,_,.nil=>rfl
 | (d,_)::_,(k,_)::_,.cons h t=>by
  refine⟨_,_,rfl,?_,WJ t⟩;have c:qz d k:=h.1;cases d with
  | int i=>cases c;rfl
  | str x=>obtain⟨rfl,ok⟩:=c;exact⟨rfl,ok⟩
  | _=>exact c.elim
theorem uQ:AdN K Θ M.Zr (cJ K):=by
 intro m H S xs n Q f c h;unfold M.Zr at h;split at h
 ·obtain⟨Y,r,rfl,⟨a,g,rfl,j,i⟩,rfl⟩:=c;exact .inl ⟨a,g,rfl,.inr j,λp d=>zR.alloc h f i d⟩
 ·obtain⟨Y,r,rfl,⟨a,g,rfl,j,i⟩,rfl⟩:=c;exact .inl ⟨a,g,rfl,.inl j.sq,λp d=>zR.alloc h f i d⟩
 ·rename_i p;obtain⟨Y,r,rfl,ry,rfl⟩:=c;split at h
  ·rename_i ds e;obtain⟨a,g,rfl,ha,hx,i⟩:=Xa f ry e;exact .inl ⟨a,g,rfl,.inl (SqL.of hx),λp d=>zR.alloc h f i d⟩
  ·rename_i kvs e;obtain⟨a,rfl,ha⟩:=ry;obtain⟨ks,l,r⟩:=Jx f ha e;exact .inr ⟨a,ks,rfl,l,λp d=>zR.alloc h f (WJ r) d⟩
  ·exact h.elim
 ·exact h.elim
theorem Bh {c:List zN}{H:Hp}{S:M.S}{kvs:List (M.D×M.D)}{Q:VK} (h:zR K Θ (zZ K) c H (M.alloc (.dct kvs) S) Q) (e:zh K Θ c S H) (r:DR K c H kvs ks) {p:zN} (d:H p=zB):Q (.ref p) (upd H p (.dK ks)) :=
 h (c++[p]) _ _ (kU _ _) (Le.new d _) (e.alloc d ⟨ks,qD,Paired.mapP r λ_ _ z=>⟨z.1,z.2.mono (kU _ _) (Le.new d _)⟩⟩) ⟨p,rfl,by rw[<- e.len];simp⟩
theorem QK {X:Cx}{pos:Pos}:WE X Θ (.Dict [] [] pos) M.ZO:=by
 delta WE at ⊢
 exact mq.up λσ H Q f c S st d h=>λp e=>Bh (kvs:=[]) h d .nil e
end
section
variable {K:zV}{Θ:Tab}
def Bm (K:zV):List V->Hp->VK->Prop:=λxs H Q=>∃ p c,xs=[.ref p]/\((SqL K H p c/\∀ l,H l=zB->Q (.ref l) (upd H l (.tup c)))\/(SqT K H p c/\Q (.ref p) H))
theorem Pe {X:Cx}:qp X (.type "tuple") (Bm X.K):=Mj
theorem G8:AdN K Θ M.w5 (Bm K):=by
 intro j H S xs s Q f c h;unfold M.w5 at h;split at h
 ·rename_i ds;obtain⟨Y,r,rfl,ry,rfl⟩:=c;obtain⟨a,d,rfl,m,i⟩:=id ry;exact⟨a,d,rfl,.inr ⟨m,zR.here h f ry⟩⟩
 ·rename_i p;obtain⟨Y,r,rfl,ry,rfl⟩:=c;split at h
  ·rename_i ds e;have n:S[p]? = zA (.lst ds):=by
    unfold M.qf at e;split at e
    ·rename_i o q;cases e;exact q
    ·cases e
   obtain⟨a,d,rfl,ha,hx,i⟩:=Xa f ry n;exact⟨a,d,rfl,.inl ⟨SqL.of hx,λl g=>h j _ _ (jd _) (Le.new g _) (f.aside g _) ⟨l,d,rfl,.inl (.inl qD),i.mono (jd _) (Le.new g _)⟩⟩⟩
  ·exact h.elim
 ·exact h.elim
end
structure qc (K:zV) (Θ:Tab) (c:Nat) (C:zN) (N:List Str):Prop where
 tab:Θ c=zA (C,N)
 cl:Cls K C
 no:∀ f∈N,XH K C f
 few:N.length < 999
 nd:N.Nodup
theorem qN {c:Type}{d:c->Prop}{a:c}{l:List c} (h:d a) (k:∀ x∈l,d x):∀ x∈a::l,d x:=λx hx=>(jc.mp hx).elim (λe=>by rw[e];exact h) (k x)
theorem JP {X:Cx}{st:zo}:WS X Θ st M.QU:=by
 delta WS at ⊢
 exact Lw
structure qk (P:jF) (w:z7) (K:zV) (mg:Str->Option zO) (base:zg) (C:zN) (m:Str) (k:Nat) (ps:List Str) (sp:Sp):Prop where
 ex:∃ f fd,z4 P w K mg base CX0 k f fd ps sp/\yx K fd ps []/\KP K C m f
structure QO (P:jF) (w:z7) (K:zV) (mg:Str->Option zO) (base:zg) (C:zN) (x:Str) (k:Nat) (ps:List Str) (sp:Sp):Prop where
 ex:∃ f fd,z4 P w K mg base CX0 k f fd ps sp/\yx K fd ps []/\Mk K C f/\mg x=zA (.ref C)
theorem EZ {c:Type} [DecidableEq c]:∀ {l N:List c},l.Nodup->(∀ x∈l,x∈N)->l.length <= N.length
 | [],_,_,_=>XF _
 | a::l,N,h,k=>by
  have ha:=k a qM;have d:=Q4.mp h;have f:l.length <= (N.erase a).length:=EZ d.2 λx hx=>(List.mem_erase_of_ne (show x≠a from λe=>d.1 (by rw[<- e];exact hx))).mpr (k x (jj _ hx));rw[List.length_erase_of_mem ha] at f;have g:=List.length_pos_of_mem ha;rw[qL]
  lia
theorem aT (f:Str) (v:V):∀ fs:List (Str×V),∀ g,g∈(qi f v fs).map (·.1)->g=f\/g∈fs.map (·.1)
 | [],g,h=>by
  have h':g∈[f]:=h;exact .inl (by simpa using h')
 | (k,x)::r,g,h=>by
  rw[show qi f v ((k,x)::r)=(if k=f then (k,v)::r else (k,x)::qi f v r) from rfl] at h;by_cases c:k=f
  ·rw[if_pos c] at h;exact .inr h
  ·rw[if_neg c,ju] at h;rcases jc.mp h with e | h
   ·exact .inr (by rw[e];simp)
   ·rcases aT f v r g h with e | e
    ·exact .inl e
    ·exact .inr (jj _ e)
theorem dJ (f:Str) (v:V):∀ fs:List (Str×V),(fs.map (·.1)).Nodup->((qi f v fs).map (·.1)).Nodup
 | [],_=>by show [f].Nodup;simp
 | (k,x)::r,h=>by
  rw[ju,Q4] at h;rw[show qi f v ((k,x)::r)=(if k=f then (k,v)::r else (k,x)::qi f v r) from rfl];by_cases c:k=f
  ·rw[if_pos c,ju,Q4];exact h
  ·rw[if_neg c,ju,Q4];refine⟨λm=>?_,dJ f v r h.2⟩;rcases aT f v r k m with e | e
   ·exact c e
   ·exact h.1 e
theorem Eg {f:Str}:∀ {c:List (Str×V)},f∉c.map (·.1)->c.lookup f=zB
 | [],_=>rfl
 | (g,x)::r,h=>by
  rw[ju,jc,not_or] at h;have d:(f == g)=zP:=beq_eq_false_iff_ne.mpr h.1;rw[Zz,d];exact Eg h.2
section
variable {K:zV}{Θ:Tab}{ρ:List zN}{H:Hp}
theorem xm.few {fs:List (Option M.D)} (r:xm K ρ H N fs c):c.length <= N.length:=by
 have:=EZ r.nd r.within
 rwa [qd] at this
theorem xm.put {fs:List (Option M.D)}{i:Nat}{f:Str} (r:xm K ρ H N fs m) (p:N.Nodup) (hi:N[i]? = zA f) (le:Le H o) (q:zZ K ρ o d v):xm K ρ o N (fs.set i (zA d)) (qi f v m):=by
 refine⟨by rw[xK];exact r.len,dJ f v m r.nd,λg s=>?_,λj g e h l=>?_⟩
 ·rcases aT f v m g s with z | z
  ·rw[z];exact ZW hi
  ·exact r.within g z
 ·rw[aw];by_cases c:i=j
  ·subst c;rw[hi] at h;cases h;rw[if_pos rfl];have t:i < fs.length:=by rw[r.len];exact (yp.mp hi).1
   rw[Z3 t] at l;cases l;exact⟨v,rfl,q⟩
  ·rw[Qd c] at l;have n:¬ g=f:=λz=>c (vo p (by rw[hi]) (by rw[h,z]));rw[if_neg n];obtain⟨u,x,y⟩:=r.get j g e h l;exact⟨u,x,y.mono (jd _) le⟩
theorem Ko {S:M.S}{p:Nat}{a:zN}{fs:List (Option M.D)} (i:qc K Θ c C N) (j:zh K Θ ρ S H) (ha:ρ[p]? = zA a) (e:S[p]? = zA (.ins c fs)):∃ f d,H a=zA (.ins C f d)/\xm K ρ H N fs d:=by
 obtain⟨b,g,n,f,d,o,l,h,m⟩:=j.obj p _ e;rw[ha] at g;cases g;rw[i.tab] at h;cases h;exact⟨f,d,l,m⟩
theorem e8 {a C c:zN}{d:List (Str×V)} (h:H a=zA (.ins C c d)):Mut (H a):=by rw[h];trivial
theorem Iv {S:M.S}{i:Nat}{f:Str}{Q:VK} (l:qc K Θ c C N) (hi:N[i]? = zA f) (j:zh K Θ ρ S H) (rx:zZ K ρ H x m) (h:zR K Θ (zZ K) ρ H (M.Xi c i x S) Q) :
  ∃ a g fs v,m=.ref a/\H a=zA (.ins C g fs)/\fs.lookup f=zA v/\Q v H:=by
 unfold M.Xi at h;split at h
 ·rename_i p;split at h
  ·rename_i y fs e;split at h
   ·rename_i n;subst n;split at h
    ·rename_i d o;obtain⟨a,rfl,ha⟩:=rx;obtain⟨g,q,r,s⟩:=Ko l j ha e;obtain⟨v,t,u⟩:=s.get i f d hi o;exact⟨a,g,q,v,rfl,r,t,zR.here h j u⟩
    ·exact h.elim
   ·exact h.elim
  ·exact h.elim
 ·exact h.elim
theorem jX {X:Cx}{i:Nat}{f:Str}{pos:Pos} (d:qc X.K Θ c C N) (hi:N[i]? = zA f) (l:WE X Θ e m) (n:JI e f X.env (eval e X.env)=eval e X.env:=by rfl):WE X Θ (.Attribute e f pos) (M.jI c i m):=by
 delta WE at l ⊢
 exact (LO l n).up λσ H Q ρ g S st o h=>⟨ρ,g,S,st,o,zR.bind h λp z x A B E G j rx r=>by
   obtain⟨a,s,fs,v,t,u,y,q⟩:=Iv d hi j rx r;exact⟨a,C,s,fs,v,t,u,d.cl,d.no f (ZW hi),y,q⟩⟩
theorem pJ {S:M.S}{i:Nat}{f:Str}{y:M.D}{D:ZU} (j:qc K Θ c C N) (hi:N[i]? = zA f) (m:zh K Θ ρ S H) (st:jW K ρ H g σ) (rx:zZ K ρ H x q) (ry:zZ K ρ H y Y) (h:jD K Θ ρ H ((M.bG c i x y S).stm g λ_ s=>.nx g s) D) :
  ∃ a d fs,q=.ref a/\H a=zA (.ins C d fs)/\fs.length < 1000/\D.nx σ (upd H a (.ins C d (qi f Y fs))):=by
 unfold M.bG at h;split at h
 ·rename_i p;split at h
  ·rename_i t fs e;split at h
   ·rename_i r;subst r;obtain⟨a,rfl,ha⟩:=rx;obtain⟨d,n,l,o⟩:=Ko j m ha e;have le:=Le.put (e8 l) (.ins C d (qi f Y n));refine⟨a,d,n,rfl,l,by have:=o.few;have:=j.few;lia,?_⟩;exact h ρ _ σ (jd _) le (m.put ha (e8 l) ⟨C,d,_,N,qD,j.tab,o.put j.nd hi le (ry.mono (jd _) le)⟩) (st.mono (jd _) le)
   ·exact h.elim
  ·exact h.elim
 ·exact h.elim
theorem qC {X:Cx}{i:Nat}{f:Str}{pos pos':Pos} (g:qc X.K Θ c C N) (hi:N[i]? = zA f) (p:WE X Θ o mo) (r:WE X Θ e m) (z:xR e (zA (.Attribute o f pos')) pos.line X.env=pure zP:=by kernel_rfl):WS X Θ (.Assign [.Attribute o f pos'] e pos) (M.j4 c i mo m):=by
 delta WE WS at p r ⊢
 exact (hH p r z).up λD σ H ρ d S st A h=>⟨ρ,d,S,st,A,jD.stm h λj H1 y Y B s t l ry E=>⟨j,d,B,st.mono s t,l,jD.stm E λG H2 x X1 S2 u v n rx I=>by
   obtain⟨a,J,fs,L,Q,U,q⟩:=pJ g hi n (st.mono (s.trans u) (t.trans v)) rx (ry.mono u v) I;exact⟨a,C,J,fs,L,Q,g.cl,g.no f (ZW hi),U,q⟩⟩⟩
theorem wQ {fs:List (Option M.D)}{m:Str} (r:xm K ρ H N fs c) (hm:m∉N):c.lookup m=zB:=Eg λz=>hm (r.within m z)
theorem yU {X:Cx}{k n:Nat}{e:zi}{es:List zi}{pos j:Pos} (J:qc X.K Θ c C N) (h:qk X.prog X.w X.K X.mg X.base C name k ps (SpM X.K Θ (n+1) f)) (hr:jE kk X.A) (hk:k <= kk) (hm:name∉N) (L:WE X Θ o mo) (ha:WA X Θ (e::es) m) (ar:Ji m n) (hx:ZV CX0 X E0:=by exact Xz)
  (he:qS e=zC:=by rfl) (z:es.all qS=zC:=by rfl)
  (ht:eval (.Call (.Attribute o name j) (e::es) [] pos) X.env=(do
   let U <- eval o X.env
   Qh j.atName
   let (f,first) <- holding [U] (XO U name pl)
   kF pos f first (qT pos (jS (e::es) X.env)) (Jw pos (J5 [] X.env))):=by rfl):WE X Θ (.Call (.Attribute o name j) (e::es) [] pos) (M.jg c f mo m):=by
 delta WA WE at L ha ⊢
 obtain⟨g,fd,F,b,mt⟩:=h.ex;refine (N7 L J.cl mt F (hr.mono hk) b .nil hx ha (yI he) (xc z) ht).up λσ H Q ρ i S st rp h=>⟨ρ,i,S,st,rp,zR.bind h λr B x X1 t p1 l1 v rx Y=>?_⟩
 cases x with
 | ref p =>
  have d:zR X.K Θ (zZ X.K) r B (match t[p]? with | some (.ins u _)=>if u=c then (m i t).bind λxs s=>f (.ref p::xs) s else .no | _=>.no) Q:=Y;cases q:t[p]? with
  | none=>rw[q] at d;exact d.elim
  | some ob =>
   rw[q] at d;cases ob with
   | ins u fs =>
    by_cases hc:u=c
    ·subst hc;have l:zR X.K Θ (zZ X.K) r B (if u=u then (m i t).bind λxs s=>f (.ref p::xs) s else .no) Q:=d;rw[if_pos rfl] at l;obtain⟨a,rfl,E⟩:=id rx;obtain⟨dx,gs,e1,e2⟩:=Ko J v E q;refine⟨a,dx,gs,rfl,e1,wQ e2 hm,r,i,t,st.mono p1 l1,v,?_⟩;cases y:m i t with
     | no=>rw[y] at l;exact l.elim
     | exc a s=>rw[y] at l;exact l
     | ok ds S2 =>
      rw[y] at l;intro G H2 vs p2 l2 I r2;rw[qo];exact⟨G,.ref p::ds,S2,by rw[qL,ar _ _ _ _ y],⟨_,_,rfl,rx.mono p2 l2,r2⟩,I,zR.weak l p2 l2⟩
    ·have l:zR X.K Θ (zZ X.K) r B (if u=c then (m i t).bind λxs s=>f (.ref p::xs) s else .no) Q:=d;rw[if_neg hc] at l;exact l.elim
   | lst _=>exact d.elim
   | dct _=>exact d.elim
   | fdc _=>exact d.elim
   | dtt _=>exact d.elim
   | ftt _=>exact d.elim
 | _=>exact Y.elim
theorem vd {X:Cx}{k:Nat}{pos e:Pos} (u:qc X.K Θ c C N) (h:qk X.prog X.w X.K X.mg X.base C name k ps (SpM X.K Θ 1 f)) (E:jE G X.A) (I:k <= G) (hm:name∉N) (v:WE X Θ o mo) (hx:ZV CX0 X E0:=by exact Xz)
  (J:eval (.Call (.Attribute o name e) [] [] pos) X.env=(do
   let y <- eval o X.env
   Qh e.atName
   let (f,first) <- holding [y] (XO y name pl)
   kF pos f first (qT pos (jS [] X.env)) (Jw pos (J5 [] X.env))):=by rfl):WE X Θ (.Call (.Attribute o name e) [] [] pos) (M.jg c f mo M.zS):=by
 delta WE at v ⊢
 obtain⟨g,fd,F,b,mt⟩:=h.ex;refine (nB v u.cl mt F (E.mono I) b .nil hx J).up λσ H Q ρ r S st L h=>⟨ρ,r,S,st,L,zR.bind h λi s x X1 j p1 l1 m rx z=>?_⟩
 cases x with
 | ref p =>
  have d:zR X.K Θ (zZ X.K) i s (match j[p]? with | some (.ins l _)=>if l=c then f [.ref p] j else .no | _=>.no) Q:=z;cases q:j[p]? with
  | none=>rw[q] at d;exact d.elim
  | some ob =>
   rw[q] at d;cases ob with
   | ins l fs =>
    by_cases B:l=c
    ·subst B;have n:zR X.K Θ (zZ X.K) i s (if l=l then f [.ref p] j else .no) Q:=d;rw[if_pos rfl] at n;obtain⟨a,rfl,t⟩:=id rx;obtain⟨U,Y,e1,e2⟩:=Ko u m t q;exact⟨a,U,Y,rfl,e1,wQ e2 hm,i,[.ref p],j,rfl,⟨_,_,rfl,rx,rfl⟩,m,n⟩
    ·have n:zR X.K Θ (zZ X.K) i s (if l=c then f [.ref p] j else .no) Q:=d;rw[if_neg B] at n;exact n.elim
   | lst _=>exact d.elim
   | dct _=>exact d.elim
   | fdc _=>exact d.elim
   | dtt _=>exact d.elim
   | ftt _=>exact d.elim
 | _=>exact z.elim
theorem Km {X:Cx}{k n E:Nat}{e:zi}{es:List zi}{pos p:Pos} (cm:qc X.K Θ c C N) (h:QO X.prog X.w X.K X.mg X.base C x k ps (SpM X.K Θ (n+1) f)) (hr:jE kk X.A) (hk:k+1 <= kk) (hn:N.length=E) (hg:Gl X x) (ha:WA X Θ (e::es) m) (ar:Ji m n) (hx:ZV CX0 X E0:=by exact Xz) (J:(x == ("__debug__" : Str))=zP:=by decide)
  (he:qS e=zC:=by rfl) (L:es.all qS=zC:=by rfl):WE X Θ (.Call (.Name x p) (e::es) [] pos) (M.Zx c E f m):=by
 delta WA WE at ha ⊢
 obtain⟨g,fd,F,b,mk,U⟩:=h.ex;refine (N5 mk F (hr.mono hk) hg U b .nil hx ha J (yI he) (xc L)).up λσ H Q ρ r S st rp h=>⟨ρ,r,S,st,rp,?_⟩
 have h':zR X.K Θ (zZ X.K) ρ H ((m r S).bind λxs s=>(f (.ref s.length::xs) (s++[.ins c (zm E zB)])).bind λd s'=>if d=.non then .ok (.ref s.length) s' else .no) Q:=h;cases G:m r S with
 | no=>rw[G] at h';exact h'.elim
 | exc a s=>rw[G] at h';exact h'
 | ok ds Y =>
  rw[G,M.ji] at h';intro j t vs p1 l1 u r1 y o hy z hne;rw[qo];have l2:Le t (upd t o (.own y)):=Le.new z _;have rp2:=u.aside z (.own y);have B:upd t o (.own y) y=zB:=by rw[jA (yJ hne)];exact hy
  have l3:Le (upd t o (.own y)) (upd (upd t o (.own y)) y (.ins C o [])):=Le.new B _;have pre:j <+: j++[y]:=kU _ _;have rp3:zh X.K Θ (j++[y]) (Y++[.ins c (zm E zB)]) (upd (upd t o (.own y)) y (.ins C o [])):=by
   refine rp2.alloc B ⟨C,o,[],N,qD,cm.tab,by rw[w4];exact hn.symm,Ud,(λf hf=>nomatch hf),λi f d _ q=>?_⟩;rw[KS] at q;split at q<;>cases q
  have l:(j++[y])[Y.length]? = zA y:=by rw[<- u.len];simp
  refine⟨j++[y],.ref Y.length::ds,_,by rw[qL,ar _ _ _ _ G],⟨_,_,rfl,⟨y,rfl,l⟩,r1.mono pre (l2.trans l3)⟩,rp3,?_⟩;refine zR.bind (zR.weak h' (p1.trans pre) (l1.trans (l2.trans l3))) λρ4 H4 d v S4 p4 l4 rp4 rv I=>?_;by_cases hd:d=.non
  ·subst hd;rw[if_pos rfl] at I;cases rv;exact⟨rfl,zR.here I rp4 ⟨y,rfl,Js p4 l⟩⟩
  ·rw[if_neg hd] at I;exact I.elim
end
theorem Inv.turnedL {X:Cx}{h':zg}{t':Nat}{ch:List zN} (I:Inv X d σ H s) (f:∀ b∈ch,QG X d H b)
  (k:∀ b q,b∉ch->s.heap.get? b=zA q->h'.get? b=zA q) (j:0 < t'):Inv X d σ H { s with heap:=h',toks:=t' }:=by
 have h:∀ {b:zN}{u:HO},H b=zA u->b∉ch:=λq z=>by rw[(f _ z).1] at q;cases q
 refine I.step (g':=s.gens) (d':=s.drawn) (ch:=ch) (λb i=>⟨(f b i).2.2.2.1,(f b i).2.1,(f b i).2.2.2.2.1,(f b i).2.2.2.2.2⟩) (λb q _ _ e g _=>k b q e g) (λb q _ _ e g _=>⟨q.slots,k b q e g⟩)
  (λ_ _ _ _ n=>n) (λb q e g=>⟨q,k b q e g⟩) (λ_ _ g=>g) (λ_ _ _ g=>g) (λb ps g=>⟨#[],by rw[g];simp⟩) (λm hm=>?_) (λb u g=>?_) I.bare j
 ·obtain⟨q,es,l,o,r⟩:=hm;exact⟨q,es,l,k _ q (λz=>(f _ z).2.1 rfl) o,r⟩
 ·refine (I.hok b u g).stay (λc v e q=>?_) (λc q=>q) λc xs q=>q;rcases e with z | z
  ·rw[z] at q ⊢;exact k _ _ (h g) q
  ·exact k _ _ (h z) q
section
variable {X:Cx}{Θ:Tab}{K:zV}
noncomputable def cU:V->List V->Hp->VK->Prop:=λx vs H Q=>∃ a y o,x=.ref a/\ZE H a y o/\((vs=[y]/\Q (o.getD .non) H)\/∃ d,vs=[y,d]/\Q (o.getD d) H)
theorem df {k:Nat} (j:jE k X.A):MtM X "dict.get" cU:=by
 intro l s σ H x vs v us Q I rx m h;obtain⟨a,y,o,rfl,g,q⟩:=h;cases rx;rcases q with ⟨rfl,q⟩ | ⟨d,rfl,q⟩
 ·obtain⟨u,rfl,n⟩:=m.one;exact i7 (vF j) I g n λp s' c e=>⟨_,H,c,e,q⟩
 ·obtain⟨f,i,rfl,r,t⟩:∃ f i,us=[f,i]/\zx y f/\zx d i:=by
   cases m with
   | cons z B =>
    cases B with
    | cons C E=>cases E;exact⟨_,_,rfl,z,C⟩
  exact ph (vF j) I g r t λp s' c e=>⟨_,H,c,e,q⟩
theorem Cf:AdM K Θ M.uD cU:=by
 intro t H S x xs X u Q e rx f h;unfold M.uD at h;split at h
 ·rename_i p y;obtain⟨Y,r,rfl,ry,rfl⟩:=f;split at h
  ·rename_i kvs q;obtain⟨a,rfl,i⟩:=rx;split at h
   ·rename_i j;obtain⟨ks,l,r⟩:=Jx e i q;obtain⟨k,m,rfl⟩:=JK j ry;have c:=r.val m;refine⟨a,_,qP ks k,rfl,ZE.k l,.inl ⟨rfl,?_⟩⟩;cases g:M.jJ y kvs with
    | none=>rw[g] at c h;rw[show qP ks k=zB from c];exact zR.here h e rfl
    | some d =>
     rw[g] at c h;obtain⟨v,n,o⟩:=c;rw[n];exact zR.here h e o
   ·exact h.elim
  ·exact h.elim
 ·rename_i p y d;obtain⟨Y,r,rfl,ry,Z,z,rfl,s,rfl⟩:=f;split at h
  ·rename_i kvs q;obtain⟨a,rfl,i⟩:=rx;split at h
   ·rename_i j;obtain⟨ks,l,r⟩:=Jx e i q;obtain⟨k,m,rfl⟩:=JK j ry;have c:=r.val m;refine⟨a,_,qP ks k,rfl,ZE.k l,.inr ⟨Z,rfl,?_⟩⟩;cases g:M.jJ y kvs with
    | none=>rw[g] at c h;rw[show qP ks k=zB from c];exact zR.here h e s
    | some d =>
     rw[g] at c h;obtain⟨v,n,o⟩:=c;rw[n];exact zR.here h e o
   ·exact h.elim
  ·exact h.elim
 ·exact h.elim
def fB:V->List V->Hp->VK->Prop:=λx vs H Q=>∃ a kvs k v,x=.ref a/\vs=[kV k]/\H a=zA (.dK kvs)/\qP kvs k=zA v/\Q v (upd H a (.dK (Z9 kvs k)))
theorem YB {k:Nat} (_hr:jE k X.A):MtM X "dict.pop" fB:=by
 intro c s σ H x vs v us Q I rx d h;obtain⟨a,kvs,k,w,rfl,rfl,e,f,q⟩:=h;cases rx;obtain⟨u,rfl,g⟩:=d.one;exact Bj (more:=[]) I e g f (.inl rfl) λl s' i j=>⟨w,_,i,j,q⟩
theorem YO:AdM K Θ M.xo fB:=by
 intro f H S x xs X A Q g rx c h;unfold M.xo at h;split at h
 ·rename_i p y;obtain⟨Y,r,rfl,ry,rfl⟩:=c;split at h
  ·rename_i kvs q;obtain⟨a,rfl,i⟩:=rx;split at h
   ·rename_i o;obtain⟨b,j,ks,e,r⟩:=g.obj _ _ q;rw[i] at j;cases j;obtain⟨k,l,rfl⟩:=JK o ry;have m:=DR.val r l;cases n:M.jJ y kvs with
    | none=>rw[n] at h;exact h.elim
    | some d =>
     rw[n] at m h;obtain⟨v,s,t⟩:=m;have le:=Le.put (Qz e) (.dK (Z9 ks k));refine⟨a,ks,k,v,rfl,rfl,e,s,?_⟩;have u:DR K f (upd H a (.dK (Z9 ks k))) kvs ks:=Paired.mapP r λa b z=>⟨z.1,z.2.mono (jd _) le⟩
     exact h f _ _ (jd _) le (g.put i (Qz e) ⟨_,qD,DR.drop u l⟩) (t.mono (jd _) le)
   ·exact h.elim
  ·exact h.elim
 ·exact h.elim
end
section
variable {P:jF}{w:z7}{A:jf}{E:zO->zU->Prop}{s:zU}
set_option maxHeartbeats 4000000 in
end
theorem Inv.swapD {X:Cx}{a:zN}{f:HO} (I:Inv X d σ H s) (e:H a=zA f) (n1:∀ xs,f≠.tup xs) (n2:∀ o u,X.H₀ a≠zA (.frz o u)) (m:∀ ps,f≠.tbl ps) (r:∀ x,f≠.own x)
  (new:jz X.prog X.w (upd H a i) s.heap a i):Inv X d σ (upd H a i) s:=by
 have g:∀ {b},H b=zB->b≠a:=λz q=>by rw[q,e] at z;cases z
 refine⟨I.ok,I.os,I.bare,⟨I.base.keep,I.base.slot,λb ob q n hx=>?_,I.base.there,λb xs q=>?_,λb ob u q=>?_,λb ps q=>?_⟩,I.loc,I.cell,?_,λx c q=>?_,λp h=>?_,λb u q=>?_,I.len,I.tk⟩
 ·have z:=I.base.free b ob q n hx;rw[jA (g z)];exact z
 ·have z:=I.base.tups b xs q;rw[jA (λw=>by rw[w,e] at z;cases z;exact n1 xs rfl)];exact z
 ·have z:=I.base.frzs b ob u q;rw[jA (λw=>by rw[w] at q;exact n2 _ _ q)];exact z
 ·obtain⟨mo,z⟩:=I.base.tbls b ps q;exact⟨mo,by rw[jA (λw=>by rw[w,e] at z;cases z;exact m _ rfl)];exact z⟩
 ·rw[jA (g I.free)];exact I.free
 ·rw[jA (g (I.freeC x c q))];exact I.freeC x c q
 ·obtain⟨t,j,v,y,A⟩:=I.pin p h;exact⟨t,by rw[jA (g j)];exact j,v,y,A⟩
 ·by_cases l:b=a
  ·subst l;rw[qD] at q;cases q;exact new
  ·rw[jA l] at q;exact (I.hok b u q).stay (λ_ _ _ q=>q) (λc z=>by rw[jA (λw=>by rw[w,e] at z;cases z;exact r _ rfl)];exact z) λc xs z=>by rw[jA (λw=>by rw[w,e] at z;cases z;exact n1 _ rfl)];exact z
noncomputable def wk:HO->Bool
 | .dK _=>zC
 | .ext _=>zC
 | _=>zP
theorem Inv.dict_base {X:Cx}{a:zN} (d:wk u=zC) (I:Inv X c σ H s) (e:H a=zA u):∀ o u,X.H₀ a≠zA (.frz o u):=λo u q=>by
 have z:=I.base.frzs a o u q;rw[e] at z;cases z;cases d
theorem Inv.freeze {X:Cx}{a:zN}{kvs:List (Key×V)} (I:Inv X c σ H s) (e:H a=zA (.dK kvs)) :
  ∃ o vs d,KV kvs vs/\(∀ h:zg,h.get? a=zA o->h.DictAt (jm X.prog X.w) a vs d)/\s.heap.get? a=zA o/\Inv X c σ (upd H a (.frz o (.dK kvs))) s:=by
 have x:=I.hok a _ e;obtain⟨z,hd,vs,rel,o,es,d,f,r⟩:=id x;refine⟨o,vs,d,rel,λh q=>⟨o,es,q,r⟩,f,I.swapD e (λ_ q=>nomatch q) (I.dict_base rfl e) (λ_ q=>nomatch q) (λ_ q=>nomatch q) ⟨f,z,hd,vs,rel,o,es,d,f,r⟩⟩
theorem Inv.thaw {X:Cx}{a:zN}{o:Obj} (d:wk u=zC) (I:Inv X c σ H s) (e:H a=zA (.frz o u)) (n2:∀ o u,X.H₀ a≠zA (.frz o u)):Inv X c σ (upd H a u) s:=by
 obtain⟨_,z⟩:=(show jz X.prog X.w H s.heap a (.frz o u) from I.hok a _ e)
 refine I.swapD e (λ_ q=>nomatch q) n2 (λ_ q=>nomatch q) (λ_ q=>nomatch q) ?_;cases u with
 | dK _=>exact z
 | ext _=>exact z
 | _=>cases d
def Iti (a:zN) (o:Obj) (kvs:List (Key×V)):It :=
 ⟨λi H=>H a=zA (.frz o (.dK kvs))/\∃ p,kvs[i]? = zA p,λi H v c=>∃ q p,H q=zB/\v=.ref q/\kvs[i]? = zA p/\c=upd H q (.tup [kV p.1,p.2]),λi H=>H a=zA (.frz o (.dK kvs))/\kvs.length <= i⟩
theorem DJ {P:jF}{w:z7}{k:Key}{u:zO} (h:(jm P w).is k u=zC):zx (kV k) u:=by
 rcases Qj h with ⟨i,t,rfl,rfl⟩ | ⟨x,t,rfl,rfl⟩
 ·exact⟨t,rfl⟩
 ·exact⟨t,rfl⟩
theorem CF {kvs:List (Key×V)}{vs:List (Key×zO)}{i:Nat}{p:Key×V} (h:KV kvs vs) (e:kvs[i]? = zA p):∃ q,vs[i]? = zA q/\p.1=q.1/\zx p.2 q.2:=by
 unfold KV at h
 induction h generalizing i with
 | nil=>simp at e
 | cons h t c =>
  cases i with
  | zero=>cases e;exact⟨_,rfl,h⟩
  | succ n =>
   obtain⟨q,d,r⟩:=c (by simpa using e);exact⟨q,by simpa using d,r⟩
theorem M0:entryFor table "dict_itemiterator.__iter__" = zA Builtin.«dict_keyiterator.__iter__» :=
 entryFor_alias (id' := "dict_keyiterator.__iter__") (by kernel_rfl) (by first | rfl | decide +kernel | (unfold String.splitOn;simp +decide [String.splitOnAux])) (by decide +kernel) (by kernel_rfl)
theorem Gc {P:jF}{w:z7}{K:zV}{f:List zi}{kt:_}{tp:Pos} (a it:zN) (o:Obj) (kvs:List (Key×V)) (vs:List (Key×zO)) (M:Nat) (rel:KV kvs vs) (hd:∀ h:zg,h.get? a=zA o->h.DictAt (jm P w) a vs M) :
  JF P w K (.Tuple f kt tp) (Iti a o kvs) [it] it (λi h=>∃ x y,IsItemIter h it a i vs.length M x y) where
 mem:=by simp
 obj:=λi h ⟨x,y,hi⟩ b j=>by
  have z:b=it:=by simpa using j
  subst z;exact⟨_,hi,λv z=>nomatch z⟩
 keep:=λi h h' ⟨x,y,hi⟩ k=>⟨x,y,k it (by simp) _ hi⟩
 item:=by
  intro X u hw B n i d s σ H E I r ⟨x,y,hi⟩ C;subst u hw B;obtain⟨ha,p,t⟩:=C;obtain⟨go,_⟩:=(show jz X.prog X.w H s.heap a (.frz o (.dK kvs)) from I.hok a _ ha)
  obtain⟨q,hq,r1,r2⟩:=CF rel t;obtain⟨k,v⟩:=q;obtain⟨f0,f1,f2,f3,f4,f5⟩:=r it (by simp);have hit:it≠s.heap.objs.size:=je (jM hi);refine wpAny_pyNext_items_item hi (hd _ go) hq λG h' J ho l hsz kk=>?_;refine⟨_,rfl,wpAny_letOwnedTupleGo_items ho λN L m=>?_⟩;have U:H s.heap.objs.size=zB:=I.hok.fresh (jB _);have I1:Inv X d σ H { s with heap:=N,toks:=s.toks }:=I.turnedL (ch:=[it]) r (λb ob j g=>by
   have Y:b≠it:=λz=>j (by simp[z]);exact m.extBut _ _ Y (kk b ob Y g)) I.tk
  have I2:Inv X d σ (upd H s.heap.objs.size (.tup [kV p.1,p.2])) { s with heap:=N }:=I1.track I.sz U (QZ I.lt) (λx c e=>by obtain⟨v,hv⟩:=I.cell x c e;exact je hv.lt) (λp t=>je (jM (I.pin p t).1))
   ⟨show 2 <= z5 by decide,[G,v],.cons (by rw[r1];exact DJ J) (.cons r2 .nil),⟨_,m.extBut _ _ (yJ hit) l,rfl,_,rfl⟩⟩
  refine⟨.ref s.heap.objs.size,_,I2,rfl,⟨_,p,U,rfl,t,rfl⟩,⟨_,_,L⟩,λc n=>?_⟩;have z:c=it:=by simpa using n
  subst z;rw[jA hit];exact f0
 done:=by
  intro X u hw B n i d s σ H E I r ⟨x,y,hi⟩ C;subst u hw B;obtain⟨ha,hl⟩:=C;obtain⟨go,_⟩:=(show jz X.prog X.w H s.heap a (.frz o (.dK kvs)) from I.hok a _ ha)
  have el:kvs.length=vs.length:=Paired.length rel;exact wpAny_pyNext_items_end (I.ok.hd n) hi (hd _ go) (Kx (by lia)) λh' J=>⟨rfl,I.turnedL (t':=s.toks) (ch:=[it]) r (λb ob j g=>J b ob (λz=>j (by simp[z])) g) I.tk⟩
 self:=λA i s Q E ⟨x,y,hi⟩ h=>by
  have l:s.TypeIs (.ref it) "dict_itemiterator" := ⟨_,hi,rfl⟩
  refine wpAny_pyIter_slot l Ie (d9 Ie l M0 ?_ (PySem.F.args_dict_itemiterator_iter_1 _));show zc (za P w) _ (ret (.ref it)) _ _ s;exact jx ⟨_,rfl,"dict_itemiterator",_,l,PySem.F.slot_dict_itemiterator_next.lookup,h⟩
section
variable {K:zV}{Θ:Tab}{ρ:List zN}{H H':Hp}
mutual
theorem zZ.move (c:∀ b xs,SqT K H b xs->SqT K H' b xs) (f:∀ b xs,Z5 K H b xs->Z5 K H' b xs):∀ {d:M.D}{v:V},zZ K ρ H d v->zZ K ρ H' d v
 | .non,_,h=>h
 | .bl _,_,h=>h
 | .int _,_,h=>h
 | .str _,_,h=>h
 | .ty _,_,h=>h
 | .ref _,_,h=>h
 | .tup _,_,⟨a,xs,e,h,r⟩=>⟨a,xs,e,c a xs h,zl.move c f r⟩
 | .ro _,_,⟨a,xs,e,h,r⟩=>⟨a,xs,e,f a xs h,zl.move c f r⟩
theorem zl.move (c:∀ b xs,SqT K H b xs->SqT K H' b xs) (d:∀ b xs,Z5 K H b xs->Z5 K H' b xs):∀ {ds:List M.D}{xs:List V},zl K ρ H ds xs->zl K ρ H' ds xs
 | [],_,h=>h
 | _::_,_,⟨y,f,e,h,r⟩=>⟨y,f,e,zZ.move c d h,zl.move c d r⟩
end
section
variable {a:zN}{o:Obj}{u:HO} (hu:wk u=zC) (ha:H a=zA (.frz o u))
include hu ha
theorem BY:∀ b xs,SqT K H b xs->SqT K (upd H a u) b xs:=λb xs h=>by
 rcases h with (h | ⟨c,h⟩) | h
 ·exact .inl (.inl (by rw[jA (λz=>by rw[z,ha] at h;cases h)];exact h))
 ·exact .inl (.inr ⟨c,by rw[jA (λz=>by rw[z,ha] at h;cases h;cases hu)];exact h⟩)
 ·exact .inr h
theorem Ca:∀ b xs,Z5 K H b xs->Z5 K (upd H a u) b xs:=λb xs h=>by
 rcases h with ⟨c,h⟩ | h
 ·exact .inl ⟨c,by rw[jA (λz=>by rw[z,ha] at h;cases h;cases hu)];exact h⟩
 ·exact .inr h
theorem zZ.thaw (r:zZ K c H d v):zZ K c (upd H a u) d v:=zZ.move (BY hu ha) (Ca hu ha) r
theorem jW.thaw (h:jW K f H c σ):jW K f (upd H a u) c σ :=
 ⟨h.len,λi d e=>let ⟨v,g,j⟩:=h.get i d e;⟨v,g,zZ.thaw hu ha j⟩⟩
theorem TDr.thaw (z:TDr K c H p q):TDr K c (upd H a u) p q:=⟨z.1,z.2.1,zZ.thaw hu ha z.2.2.1,let ⟨v,a1,a2⟩:=z.2.2.2;⟨v,zZ.thaw hu ha a1,a2⟩⟩
theorem ObR.thaw {b:zN}{ob:M.O} (m:b≠a) (h:ObR K Θ n H b ob):ObR K Θ n (upd H a u) b ob:=by
 have e:=jA (H:=H) (o:=u) m;cases ob with
 | lst ds=>obtain⟨xs,g,r⟩:=h;exact⟨xs,e.trans g,zl.move (BY hu ha) (Ca hu ha) r⟩
 | dct kvs=>obtain⟨ks,g,r⟩:=h;exact⟨ks,e.trans g,Paired.mapP r λp q z=>⟨z.1,zZ.thaw hu ha z.2⟩⟩
 | dtt kvs=>obtain⟨xs,g,r⟩:=h;exact⟨xs,e.trans g,Paired.mapP r λp q z=>TDr.thaw hu ha z⟩
 | ftt kvs=>obtain⟨j,xs,g,r⟩:=h;exact⟨j,xs,e.trans g,Paired.mapP r λp q z=>TDr.thaw hu ha z⟩
 | fdc kvs=>obtain⟨j,l,g,r⟩:=h;exact⟨j,l,e.trans g,Paired.mapP r λp q z=>⟨z.1,zZ.thaw hu ha z.2⟩⟩
 | ins c fs =>
  obtain⟨C,s,t,N,g,x,r⟩:=h;exact⟨C,s,t,N,e.trans g,x,r.len,r.nd,r.within,λi f d y A=>let ⟨v,B,E⟩:=r.get i f d y A;⟨v,B,zZ.thaw hu ha E⟩⟩
theorem zh.thaw {S:M.S}{i:Nat} (h:zh K Θ c S H) (hi:c[i]? = zA a) (r:ObR K Θ c (upd H a u) a t):zh K Θ c (S.set i t) (upd H a u):=by
 refine⟨by simp[h.len],h.nd,λj ob q=>?_⟩;by_cases d:i=j
 ·subst d;by_cases f:i < S.length
  ·rw[Z3 f] at q;cases q;exact⟨a,hi,r⟩
  ·rw[Kx (by rw[xK];lia)] at q;cases q
 ·rw[Qd d] at q;obtain⟨b,e,g⟩:=h.obj j ob q;exact⟨b,e,ObR.thaw hu ha (λz=>d (vo h.nd hi (z ▸ e))) g⟩
end
theorem Dm {d c:Type}{R:d->c->Prop}{xs:List d}{f:List c}{i:Nat}{y:c} (h:Paired R xs f) (e:f[i]? = zA y):∃ x,xs[i]? = zA x/\R x y:=by
 induction h generalizing i with
 | nil=>simp at e
 | cons h t g =>
  cases i with
  | zero=>cases e;exact⟨_,rfl,h⟩
  | succ n =>
   obtain⟨q,j,r⟩:=g (by simpa using e);exact⟨q,by simpa using j,r⟩
theorem qz.rel {k:Key} (h:qz d k):zZ K c H d (kV k):=by
 cases d with
 | int i=>cases h;rfl
 | str x=>obtain⟨rfl,ok⟩:=h;exact⟨rfl,ok⟩
 | _=>exact h.elim
theorem mV {a:zN}{o:Obj}{ks:List (Key×V)} (ha:H a=zA (.frz o (.dK ks))) (r:Paired (λ(p:M.D×M.D) (q:Key×V)=>qz p.1 q.1/\zZ K t H p.2 q.2) kvs ks):ItR K Θ t H (Iti a o ks) (kvs.map λp=>.tup [p.1,p.2]) []:=by
 have f:kvs.length=ks.length:=Paired.length r;refine⟨λj c h i p l d g e=>?_,λj c h i v B p l d g e y=>?_,λc h i p l d g=>?_⟩
 ·rw[qd,f] at e;exact⟨l.frzs _ _ _ ha,ks[j],by simp[e]⟩
 ·obtain⟨q,m,n,rfl,u,rfl⟩:=y;obtain⟨x,hx,z,A⟩:=Dm r u;have s:=Le.new n (.tup [kV m.1,m.2]);exact⟨.tup [x.1,x.2],by rw[y9,hx];rfl,⟨q,_,rfl,SqT.of qD,_,_,rfl,qz.rel z,_,_,rfl,A.mono p (l.trans s),rfl⟩,s,d.aside n _⟩
 ·exact⟨l.frzs _ _ _ ha,by rw[qd,f];exact jB _⟩
end
def YL (H₀:Hp) (H:Hp) (Q:Hp->Prop):Prop:=∃ a o u,wk u=zC/\H a=zA (.frz o u)/\(∀ o u,H₀ a≠zA (.frz o u))/\Q (upd H a u)
noncomputable def wM (H₀:Hp) (D:ZU):ZU where
 nx:=λσ H=>YL H₀ H (D.nx σ)
 rt:=λv H=>YL H₀ H (D.rt v)
 bk:=λσ H=>YL H₀ H (D.bk σ)
 ct:=λσ H=>YL H₀ H (D.ct σ)
theorem ck {X:Cx}{st:zo} (h:PS X st t):PS X st λD σ H=>t (wM X.H₀ D) σ H:=λj s σ H D I q=>thn (h j s σ H _ I q) λf s1 z=>by
 cases f with
 | next=>obtain⟨c,l,g,a,o,u,i,e,n,d⟩:=z;exact⟨c,_,g.thaw i e n,d⟩
 | brk=>obtain⟨c,l,g,a,o,u,i,e,n,d⟩:=z;exact⟨c,_,g.thaw i e n,d⟩
 | cont=>obtain⟨c,l,g,a,o,u,i,e,n,d⟩:=z;exact⟨c,_,g.thaw i e n,d⟩
 | ret _=>obtain⟨v,c,l,g,r,a,o,u,i,e,n,d⟩:=z;exact⟨v,c,_,g.thaw i e n,r,d⟩
section
variable {X:Cx}{Θ:Tab}
theorem Mn {K:zV}{H₀:Hp}{y:List zN}{H:Hp}{i:Nat}{a:zN}{o:Obj}{D:ZU} (x:wk u=zC) (hi:y[i]? = zA a) (ha:H a=zA u) (n:∀ o u,H₀ a≠zA (.frz o u)) (ob:∀ {c:List zN}{g:Hp},y <+: c->Le H g->g a=zA u->ObR K Θ c g a t)
  (h:jD K Θ y H (M.UL i f t r) D):jD K Θ y (upd H a (.frz o u)) r (wM H₀ D):=by
 have A:∀ {c:List zN}{g:Hp}{S:M.S},y <+: c->Le (upd H a (.frz o u)) g->zh K Θ c S g->g a=zA (.frz o u)/\Le H (upd g a u)/\zh K Θ c (S.set i t) (upd g a u):=λ{c g S} p l B=>by
  have e:=l.frzs a o u qD;have le:Le H (upd g a u):=by
   refine⟨λb xs q=>?_,λb ob E q=>?_⟩
   ·have C:b≠a:=λz=>by rw[z,ha] at q;cases q;cases x
    rw[jA C];exact l.tups b xs (by rw[jA C];exact q)
   ·have C:b≠a:=λz=>by rw[z,ha] at q;cases q;cases x
    rw[jA C];exact l.frzs b ob E (by rw[jA C];exact q)
  exact⟨e,le,B.thaw x e (Js p hi) (ob p le qD)⟩
 cases r with
 | nx m s =>
  intro c g σ p l B st;obtain⟨e,le,j⟩:=A p l B;have h':jD K Θ y H (if s[i]? = zA f then .nx m (s.set i t) else .no) D:=h;split at h'
  ·exact⟨a,o,u,x,e,n,h' c _ σ p le j (jW.thaw x e st)⟩
  ·exact h'.elim
 | bk m s =>
  intro c g σ p l B st;obtain⟨e,le,j⟩:=A p l B;have h':jD K Θ y H (if s[i]? = zA f then .bk m (s.set i t) else .no) D:=h;split at h'
  ·exact⟨a,o,u,x,e,n,h' c _ σ p le j (jW.thaw x e st)⟩
  ·exact h'.elim
 | ct m s =>
  intro c g σ p l B st;obtain⟨e,le,j⟩:=A p l B;have h':jD K Θ y H (if s[i]? = zA f then .ct m (s.set i t) else .no) D:=h;split at h'
  ·exact⟨a,o,u,x,e,n,h' c _ σ p le j (jW.thaw x e st)⟩
  ·exact h'.elim
 | rt d s =>
  intro c g v p l B G;obtain⟨e,le,j⟩:=A p l B;have h':jD K Θ y H (if s[i]? = zA f then .rt d (s.set i t) else .no) D:=h;split at h'
  ·exact⟨a,o,u,x,e,n,h' c _ v p le j (zZ.thaw x e G)⟩
  ·exact h'.elim
 | exc e m s=>exact (show False from h).elim
 | no=>exact h
theorem Ci {K:zV}{H₀:Hp}{c:List zN}{H:Hp}{i:Nat}{a:zN}{o:Obj}{ks:List (Key×V)}{D:ZU} (hi:c[i]? = zA a) (ha:H a=zA (.dK ks)) (n:∀ o u,H₀ a≠zA (.frz o u)) (d:Paired (λ(p:M.D×M.D) (q:Key×V)=>qz p.1 q.1/\zZ K c H p.2 q.2) kvs ks)
  (h:jD K Θ c H (M.thaw i kvs r) D):jD K Θ c (upd H a (.frz o (.dK ks))) r (wM H₀ D):=Mn (f:=.fdc kvs) (t:=.dct kvs) rfl hi ha n (λp le e=>⟨ks,e,Paired.mapP d λx y z=>⟨z.1,z.2.mono p le⟩⟩) h
end
theorem D8:∀ {us:List zO}{c:List Str},v9 us c->z6 (c.map V.str) us
 | _,_,.nil=>.nil
 | _,_,.cons x t r=>.cons ⟨t,rfl⟩ (D8 r)
theorem nI (a:M.T):¬ a < a:=λh=>List.lt_irrefl a h
theorem dk {a b c:M.T} (d:¬ b < a) (e:¬ c < b):¬ c < a:=by
 rw[gu] at d e ⊢;exact List.le_trans d e
theorem gf {a b:M.T} (c:¬ b < a) (d:¬ a < b):a=b:=by
 rw[gu] at c d;exact List.le_antisymm c d
theorem Wy (x:M.T):∀ ts:List M.T,(M.zt.insT' x ts).Perm (x::ts)
 | []=>.refl _
 | y::r=>by
  unfold M.zt.insT';split
  ·exact ((Wy x r).cons y).trans (.swap x y r)
  ·exact .refl _
theorem aI:∀ ts:List M.T,(M.zt ts).Perm ts
 | []=>.refl _
 | x::r=>(Wy x _).trans ((aI r).cons x)
theorem BI (x:M.T):∀ ts:List M.T,ts.Pairwise (λa b=>¬ b < a)->(M.zt.insT' x ts).Pairwise (λa b=>¬ b < a)
 | [],_=>by unfold M.zt.insT';simp
 | y::r,h=>by
  rw[VD] at h;unfold M.zt.insT';split
  ·rename_i d;rw[VD];refine⟨λb c=>?_,BI x r h.2⟩;rcases jc.mp ((Wy x r).mem_iff.mp c) with rfl | c
   ·exact λz=>nI _ (List.lt_trans z d)
   ·exact h.1 b c
  ·rename_i d;rw[VD];refine⟨λb c=>?_,VD.mpr h⟩;rcases jc.mp c with rfl | c
   ·exact d
   ·exact dk d (h.1 b c)
theorem d0:∀ ts:List M.T,(M.zt ts).Pairwise (λa b=>¬ b < a)
 | []=>.nil
 | x::r=>BI x _ (d0 r)
theorem eF:∀ (p:Str) (l:List Str),risingS p l=zC->(p::l).Pairwise (λa b=>¬ b.cps.toList < a.cps.toList)
 | p,[],_=>by simp
 | p,x::r,h=>by
  unfold risingS at h;rw[j8,kq,ltCps_eq,decide_eq_false_iff_not] at h;have d:=eF x r h.2;rw[VD];refine⟨λb c=>?_,d⟩;rcases jc.mp c with rfl | c
  ·exact h.1
  ·exact dk h.1 ((VD.mp d).1 b c)
theorem HS (h:wj l=zC):l.Pairwise (λa b=>¬ b.cps.toList < a.cps.toList):=by
 cases l with
 | nil=>exact .nil
 | cons x r=>exact eF x r h
theorem Lh {ts:List M.T}{c:List Str} (d:c.Perm (ts.map ofT)) (f:wj c=zC):c=(M.zt ts).map ofT:=by
 refine List.Perm.eq_of_pairwise (le:=λa b=>¬ b.cps.toList < a.cps.toList) (λa b _ j g i=>?_) (HS f) ?_ (d.trans ((aI ts).map ofT).symm)
 ·have e:=gf g i;cases a with
  | mk l=>cases b with
   | mk m=>exact congrArg Str.mk (Array.toList_inj.mp e)
 ·rw[List.pairwise_map];refine (d0 ts).imp λ{a b} h=>?_;rw[Qe,Qe];exact h
def Itk (a:zN) (o:Obj) (kvs:List (Key×V)):It :=
 ⟨λi H=>H a=zA (.frz o (.dK kvs))/\∃ p,kvs[i]? = zA p,λi H v c=>c=H/\∃ p,kvs[i]? = zA p/\v=kV p.1,λi H=>H a=zA (.frz o (.dK kvs))/\kvs.length <= i⟩
theorem hQ {P:jF}{w:z7}{K:zV} (a it:zN) (o:Obj) (kvs:List (Key×V)) (vs:List (Key×zO)) (C:Nat) (rel:KV kvs vs) (hd:∀ h:zg,h.get? a=zA o->h.DictAt (jm P w) a vs C) :
  JF P w K tg (Itk a o kvs) [it] it (λi h=>h.IsKeyIter it a i vs.length C) where
 mem:=by simp
 obj:=λi h st b g=>by
  have z:b=it:=by simpa using g
  subst z;obtain⟨o,e,c,d⟩:=st;exact⟨o,e,λv z=>by rw[d] at z;cases z⟩
 keep:=λi h h' st k=>st.at λo e=>k it (by simp) o e
 item:=by
  intro X m hw n G i f s σ H E I l st r;subst m hw n;obtain⟨ha,p,J⟩:=r;obtain⟨go,_⟩:=(show jz X.prog X.w H s.heap a (.frz o (.dK kvs)) from I.hok a _ ha)
  obtain⟨q,L,M,r2⟩:=CF rel J;obtain⟨k,v⟩:=q;obtain⟨t,u,N,x,y,A⟩:=l it (by simp);refine wpAny_pyNext_dict_item st (hd _ go) L λB h' Q j sb=>?_;have U:Inv X f σ H { s with heap:=h' }:=I.turned (t':=s.toks) (λb o g e=>sb.extBut b o g e) t u x y A;obtain⟨o',e,c,d⟩:=id j;exact⟨B,rfl,Xu (s:={ s with heap:=h' }) e c d (by decide) ⟨kV p.1,H,U,by rw[M];exact DJ Q,⟨rfl,p,J,rfl⟩,j,λb g=>(l b g).1⟩⟩
 done:=by
  intro X m hw n G i f s σ H E I l st r;subst m hw n;obtain⟨ha,hl⟩:=r;obtain⟨go,_⟩:=(show jz X.prog X.w H s.heap a (.frz o (.dK kvs)) from I.hok a _ ha)
  obtain⟨t,u,N,x,y,A⟩:=l it (by simp);have el:kvs.length=vs.length:=Paired.length rel;exact wpAny_pyNext_dict_end (I.ok.hd G) st (hd _ go) (Kx (by lia)) λh' Y=>⟨rfl,I.turned (t':=s.toks) (λb o g e=>Y b o g e) t u x y A⟩
 self:=λ_ _ _ _ _ st h=>wpAny_pyIter_keyiter st h
theorem M6 {X:Cx}{a:zN}{o:Obj}{kvs:List (Key×V)} (I:Inv X d σ H s) (e:H a=zA (.frz o (.dK kvs))) :
  (a == Zk)=zP/\∃ vs c,KV kvs vs/\(∀ h:zg,h.get? a=zA o->h.DictAt (jm X.prog X.w) a vs c)/\s.heap.get? a=zA o:=by
 obtain⟨go,z,hd,vs,rel,g,es,c,f,r⟩:=(show jz X.prog X.w H s.heap a (.frz o (.dK kvs)) from I.hok a _ e)
 rw[go] at f;cases f;exact⟨hd,vs,c,rel,λh q=>⟨o,es,q,r⟩,go⟩
theorem g8 {X:Cx}{a:zN}{o:Obj}{kvs:List (Key×V)}{R:It->Hp->Prop} (I:Inv X c σ H s) (e:H a=zA (.frz o (.dK kvs))) (q:R (Itk a o kvs) H) :
  zc (za X.prog X.w) X.A (pyIter (.ref a)) (PIE X c σ tg R) E s:=by
 obtain⟨hd,vs,f,rel,d,go⟩:=M6 I e;refine wpAny_pyIter_dict hd (d _ go) ?_;refine⟨s.heap.objs.size,[s.heap.objs.size],_,_,H,rfl,I.kept (t':=s.toks) (λb ob e=>j0 _ e),hQ a _ o kvs vs f rel d,⟨_,yV _ rfl,rfl,rfl⟩,λb g=>?_,q⟩;have h:b=s.heap.objs.size:=by simpa using g
 subst h;exact I.fpOk (jB _) (I.hok.fresh (jB _))
def iKy (H₀:Hp) (te:TE):TI:=λσ H R=>te σ H λv c=>∃ a kvs,v=.ref a/\c a=zA (.dK kvs)/\∀ o,(∀ o u,H₀ a≠zA (.frz o u))->R (Itk a o kvs) (upd c a (.frz o (.dK kvs)))
theorem mN {X:Cx} (g:PE X e te):PI X tg e (iKy X.H₀ te):=by
 intro c s σ H R I h;refine jC (g c s σ H _ I h) λv s1 x n d i j=>?_;obtain⟨a,kvs,rfl,ha,q⟩:=j;obtain rfl:v=jv a:=i;obtain⟨o,l,p,f,r,go,m⟩:=d.freeze ha;exact g8 m qD (q o (d.dict_base rfl ha))
section
variable {K:zV}{Θ:Tab}{ρ:List zN}{H:Hp}
theorem gq {a:zN}{o:Obj}{ks:List (Key×V)} (ha:H a=zA (.frz o (.dK ks))) (r:Paired (λ(p:M.D×M.D) (q:Key×V)=>qz p.1 q.1/\zZ K ρ H p.2 q.2) kvs ks):ItR K Θ ρ H (Itk a o ks) (kvs.map (·.1)) []:=by
 have f:kvs.length=ks.length:=Paired.length r;refine⟨λj c h i p l d g e=>?_,λj c h i v s p l d g e y=>?_,λc h i p l d g=>?_⟩
 ·rw[qd,f] at e;exact⟨l.frzs _ _ _ ha,ks[j],by simp[e]⟩
 ·obtain⟨rfl,q,m,rfl⟩:=y;obtain⟨x,hx,n,t⟩:=Dm r m;exact⟨x.1,by rw[y9,hx];rfl,qz.rel n,Le.refl _,d⟩
 ·exact⟨l.frzs _ _ _ ha,by rw[qd,f];exact jB _⟩
end
section
variable {X:Cx}{Θ:Tab}
theorem ef {pos:Pos} (N:uJ (za X.prog X.w) X.A X.env X.xe) (Q:X.calm=zC) (C:WE X Θ e m) (E:WG X Θ js tg g) (G:WSs X Θ j I)
  (U:∀ x,Kc e X.env x=pure x:=by intro _;rfl):WS X Θ (.For tg e j [] pos) (M.UM m g I):=by
 delta WE WG WS WSs at C E G ⊢
 exact (ck (DB N Q (mN C) E G U)).up λD σ H Y l S st rp h=>by
   refine⟨Y,l,S,st,rp,jD.stm h λp u d v B p1 l1 r rv J=>?_⟩;cases d with
   | ref i =>
    obtain⟨a,rfl,hi⟩:=rv;have f:jD X.K Θ p u (match B[i]? with
     | some (.dct kvs)=>M.thaw i kvs (M.qR [] (M.yO g I) (kvs.map (·.1)) l (B.set i (.fdc kvs)))
     | _=>.no) D:=J
    cases q:B[i]? with
    | none=>rw[q] at f;exact f.elim
    | some ob =>
     rw[q] at f;cases ob with
     | dct kvs =>
      obtain⟨b,s,ks,ha,L⟩:=r.obj i _ q;rw[hi] at s;cases s;refine⟨a,ks,rfl,ha,λo n=>?_⟩;have le:Le u (upd u a (.frz o (.dK ks))):=Le.put (Qz ha) _;have t:=Paired.mapP L λx y z=>(⟨z.1,z.2.mono (jd _) le⟩:qz x.1 y.1/\zZ X.K p (upd u a (.frz o (.dK ks))) x.2 y.2)
      exact cC (gq qD t) (st.mono p1 (l1.trans le)) (r.put (o:=.fdc kvs) hi (Qz ha) ⟨o,ks,qD,t⟩) rfl (Ci hi ha n L f)
     | lst xs=>exact f.elim
     | fdc _=>exact f.elim
     | dtt _=>exact f.elim
     | ftt _=>exact f.elim
     | ins c fs=>exact f.elim
   | _=>exact J.elim
end
section
variable {P:jF}{w:z7}{A:jf}{E:zO->zU->Prop}{s:zU}
theorem mM:dY (.type "list") "keys" = pure zB:=by rw[typeLookup_type,builtinLookup_eq_fast];kernel_rfl
theorem Lz {a:zN}{o:Obj}{xs:Array zO}{k:Nat}{Q:Option zO->zU->Prop} (hx:s.heap.get? a=zA o) (l:o.cls=.type "list") (f:o.data=.seq xs k) (hd:o.dict=zB) (n:A.handled=zB)
  (h:∀ h' tk,(∀ b ob,s.heap.get? b=zA ob->h'.get? b=zA ob)->Q zB { s with heap:=h',toks:=tk }):zc (za P w) A (getAttr? (.ref a) "keys") Q E s:=by
 obtain⟨c,dct,p,q⟩:=o;simp only at l f hd;subst l f hd;obtain⟨r,g,d,tk,os⟩:=s;have m:∀ i,(⟨r,g,d,i,os⟩:zU).TypeIs (.ref a) "list" := λ_=>⟨_,hx,rfl⟩
 have t:=sub_AttributeError;have u:=PySem.F.slot_list_getattribute.lookup;have v:=PySem.F.slot_list_getattribute.bind (.ref a);have x:=am_list_getattr_none;unfold getAttr? getAttrBy? getAttrBy
 repeat (any_goals (first | assumption | exact m _ | ((with_reducible show zc _ _ (call (Value.builtin "list.__getattribute__") _ _) _ _ _);refine xJ PySem.F.slot_list_getattribute (m _) am_entry_list_getattribute (PySem.F.args_list_getattribute_2 _ _) (meets_getattribute_miss_list a xs k q "keys" _ mM (by decide +kernel) (by size_fits)) ⟨hx,n,λh' i e j=>?_⟩) | wp_step))
 obtain⟨t',y,z⟩:=j.there;show zc _ _ (HD _ _ _ _ _ _ _) _ _ _;unfold HD
 repeat (any_goals (first | assumption | wp_step))
 exact h _ _ j.keeps
theorem Dq:entryFor table "dict.update.loop" = zA Builtin.«dict.update.loop» := entryFor_of_tree (by kernel_rfl)
theorem YU:plainId "dict.update.loop" = zC:=by decide +kernel
def km (h:zg) (a:zN) (c:List zO):Prop:=∃ o n,h.get? a=zA o/\o.cls=.type "tuple" /\ o.data=.seq c.toArray n
theorem km.at {h':zg}{a:zN} (x:km h a c) (e:∀ o,h.get? a=zA o->h'.get? a=zA o):km h' a c:=by
 obtain⟨o,n,d,r⟩:=x;exact⟨o,n,e _ d,r⟩
abbrev Pq:=zN×Key×zO×zO
noncomputable def stL (d:List Pq):List (Key×zO):=d.foldl (λc q=>stored c q.2.1 q.2.2.2) []
theorem Ow (c:List Pq) (q:Pq):stL (c++[q])=stored (stL c) q.2.1 q.2.2.2:=by
 unfold stL;rw[List.foldl_append];rfl
theorem Oh (kvs:List (Key×zO)) (k:Key) (v:zO):(stored kvs k v).length <= kvs.length+1:=by
 unfold stored;split<;>simp
theorem B1 (d:List Pq):(stL d).length <= d.length:=by
 have:∀ (d:List Pq) (c:List (Key×zO)),(d.foldl (λc q=>stored c q.2.1 q.2.2.2) c).length <= c.length+d.length:=by
  intro d
  induction d with
  | nil=>intro c;simp
  | cons q d e =>
   intro c;have f:=e (stored c q.2.1 q.2.2.2);have g:=Oh c q.2.1 q.2.2.2;simp only[Uw,qL]
   lia
 have:=this d [];simpa [stL] using this
theorem pb {R:Yp->zU->Prop}{c:List Pq}{Pv:Nat->zO->Prop}{St:Nat->zU->Prop} (W:WalksS P w A.in1 I fp l G c.length Pv St) (D:zN) (Y:D∉fp) (hv:∀ i v,Pv i v->∃ q,c[i]? = zA q/\v=.ref q.1)
  (y:∀ q∈c,q.1∉D::l/\(jm P w).is q.2.1 q.2.2.1=zC) (g:c.length <= z5) :
  ∀ (k i:Nat) (s:zU) (j:Tok) (B:Int),c.length - i=k->i <= c.length->St i s->s.heap.DictOf (jm P w) D (stL (c.take i))->(∀ q∈c,km s.heap q.1 [q.2.2.1,q.2.2.2])->(∀ s',Moved (D::l) G s s'->s'.heap.DictOf (jm P w) D (stL c)->R (.ok (.ret .none)) s') ->
   xB (za P w) A (.builtin "dict.update.loop" ⟨[.ref D,.ref I,.int B j,.none],[]⟩) R s:=by
 have nw:D∉l:=λh=>Y (W.sub _ h);have sb:∀ b∈l,b∈D::l:=λb g=>jj _ g;intro k
 induction k with
 | zero =>
  intro i s j B hk hi st x ht C;have e:i=c.length:=by lia
  subst e;rw[List.take_length] at x;refine Bf Dq ?_;rw[o6 YU _];show zc (za P w) A.in1 (u2 (.ref I) >>= _) _ _ s;refine zw (W.done s _ _ st λs' hm=>?_);show zc (za P w) A.in1 (rC D [] >>= _) _ _ s';refine zw (jx (jx (C s' (hm.mono sb) ?_)));obtain⟨o,es,H,d,r⟩:=x;exact⟨o,es,H,hm.heap D _ nw d,r⟩
 | succ k ih =>
  intro i s j B hk hi st x ht C;have lt:i < c.length:=by lia
  refine Bf Dq ?_;rw[o6 YU _];show zc (za P w) A.in1 (u2 (.ref I) >>= _) _ _ s;refine zw (W.item i s _ _ lt st λv s' hP J hm=>?_);obtain⟨q,ex,rfl⟩:=hv i v hP;have f:q∈c:=ZW ex;obtain⟨hnq,L⟩:=y q f;have M:s'.heap.DictOf (jm P w) D (stL (c.take i)):=by
   obtain⟨o,es,H,d,r⟩:=x;exact⟨o,es,H,hm.heap D _ nw d,r⟩
  have m:∀ q∈c,km s'.heap q.1 [q.2.2.1,q.2.2.2]:=λp h'=>(ht p h').at λo d=>hm.heap _ _ (λz=>(y p h').1 (sb _ z)) d;obtain⟨o,n,d,hc,hd⟩:=m q f;refine zw (QV ?_);refine zw (wpAny_tryCatch ?_);unfold rh;refine zw (wpAny_typeOf (T := "tuple") ⟨o,d,hc⟩ ?_);rw[if_pos (by decide)];refine zw (wpAny_seqItems d hd ?_);refine jx ?_;show zc (za P w) A.in1 (holding [q.2.2.1,q.2.2.2] (dictSet D q.2.2.1 q.2.2.2)) _ _ s';refine QV ?_;have t:(stL (c.take i)).length <= z5:=by
   have:=B1 (c.take i);rw[xD] at this
   lia
  refine wpAny_dictSet_pairs L M (λh' u N=>?_) t;have e3:stored (stL (c.take i)) q.2.1 q.2.2.2=stL (c.take (i+1)):=by
   rw[List.take_succ,ex,Option.toList_some,Ow]
  rw[e3] at u;refine jx ⟨plainId_quiet YU _,ih (i+1) _ _ _ (by lia) lt (W.frame _ s' _ _ J (Jy _) λb g o e=>?_) u (λp h'=>(m p h').at λo d=>?_) λs2 Q U=>?_⟩
  ·rw[N.2 b (λh:b=D=>Y (by rw[<- h];exact g))];exact e
  ·rw[N.2 _ (λh:_=D=>(y p h').1 (by rw[h];exact qM))];exact d
  ·refine C s2 (Moved.trans W.gtrans ((hm.mono sb).then_heap (Jy _) λb o g e=>?_) Q) U;rw[N.2 b (λh:b=D=>g (by rw[h];exact qM))];exact e
end
section
variable {P:jF}{w:z7}{A:jf}{E:zO->zU->Prop}{s:zU}
theorem oW {l:zN}{c:List zO}{m:List Pq}{Q:zO->zU->Prop} (L:A.handled=zB) {p:Obj}{M:Nat} (C:s.heap.get? l=zA p) (cl:p.cls=.type "list") (dl:p.data=.seq c.toArray M) (el:p.dict=zB) (hn:c.length=m.length) (hi:∀ (i:Nat) (v:zO),c[i]? = zA v->∃ q,m[i]? = zA q/\v=.ref q.1)
  (G:∀ q∈m,(jm P w).is q.2.1 q.2.2.1=zC/\km s.heap q.1 [q.2.2.1,q.2.2.2]) (hb:m.length <= z5)
  (h:∀ (h':zg) (tk:Nat),h'.DictOf (jm P w) s.heap.objs.size (stL m)->(∀ b o,s.heap.get? b=zA o->h'.get? b=zA o)->Q (.ref s.heap.objs.size) { s with heap:=h',toks:=tk }) :
  zc (za P w) A (call (.type "dict") [.ref l]) Q E s:=by
 refine callType_codes (Q₁:=λobj j=>obj=.ref s.heap.objs.size/\j={ s with heap:=s.heap.push { cls:=.type "dict",data:=.dict #[] } }) PySem.F.kt_called_dict (PySem.F.kt_typeCall_dict_1 _) PySem.F.entry_dict_init (PySem.kt_code_dict_new _ ⟨rfl,rfl⟩) ?_
 rintro obj j ⟨rfl,rfl⟩
 have d:(s.heap.push { cls:=.type "dict",data:=.dict #[] }).DictOf (jm P w) s.heap.objs.size []:=NW s.heap;have gl1:(s.heap.push { cls:=.type "dict",data:=.dict #[] }).get? l=zA p:=j0 _ C;have lt:l < s.heap.objs.size:=jM C;refine⟨d.typeIs,PySem.F.args_dict_init_2 _ _,?_⟩;unfold Builtin.«dict.__init__»;refine zw ?_;unfold Ru;refine zw (wpAny_notOrdered_dict d.typeIs ?_);show zc _ _ (pure (s.heap.objs.size,[jv l])) _ _ _;refine jx ?_;show zc _ _ (Hi "dict.__init__" s.heap.objs.size (.ref l) [] .none) _ _ _;unfold Hi;refine zw (wpAny_typeOf (T := "list") ⟨p,gl1,cl⟩ ?_);rw[if_pos (by decide)];refine zw (Lz gl1 cl dl el L λt H x=>?_);have I:∀ b o,s.heap.get? b=zA o->t.get? b=zA o:=λb o e=>x _ _ (j0 _ e);have y:t.DictOf (jm P w) s.heap.objs.size []:=by
  obtain⟨o,es,N,u,r⟩:=d;exact⟨o,es,N,x _ _ u,r⟩
 have B:t.IsList l c.toArray:=⟨p,I _ _ C,cl,M,dl⟩
 rw[if_pos (by rfl)];refine zw (Xr ?_);refine zw (vS (s:={ s with heap:=t,toks:=H }) B ?_);refine jx ⟨plainId_quiet YU _,?_⟩;have g:s.heap.objs.size < t.objs.size:=by
  obtain⟨o,es,N,u,r⟩:=y;exact jM u
 have nf:s.heap.objs.size∉[t.objs.size,l]:=by
  intro hm;rcases jc.mp hm with e | hm
  ·exact absurd e (je g)
  ·exact absurd (Jg.mp hm) (QZ lt)
 have W:=(IL (prog:=P) (w:=w) (A:=A.in1.in1) L t.objs.size l (je (Wi lt g)) c.toArray).toS;have ez:c.toArray.size=m.length:=by rw[qY];exact hn
 rw[ez] at W;refine pb W s.heap.objs.size nf (λi v hv=>hi i v (by simpa using hv)) (λq hm=>⟨λz=>?_,(G q hm).1⟩) hb m.length 0 _ _ _ (by lia) (XF _) ⟨⟨_,yV _ rfl,rfl,rfl⟩,B.push _⟩ (y.push _) (λq hm=>(G q hm).2.at λo u=>j0 _ (I _ _ u)) λs' hm J=>?_
 ·obtain⟨o,n,u,_⟩:=(G q hm).2;have U:=jM u;rcases jc.mp z with e | z
  ·exact absurd e (je U)
  ·exact absurd (Jg.mp z) (je (Wi U g))
 ·rw[Moved.eq_with hm];refine⟨rfl,h _ _ J λb o e=>hm.heap b o (λf=>?_) (j0 _ (I _ _ e))⟩;have Y:=jM e;rcases jc.mp f with e' | f
  ·exact je Y e'
  ·exact je (Wi Y g) (Jg.mp f)
theorem HJ {d:zN}{kvs:List (Key×zO)}{B:Nat}{Q:zO->zU->Prop} (C:A.handled=zB) (lo:(d == Zk)=zP) (G:s.heap.DictAt (jm P w) d kvs B) (H:∀ vs:List zO,vs.length=kvs.length->(∀ (j:Nat) v,vs[j]? = zA v->∃ k x,kvs[j]? = zA (k,x)/\(jm P w).is k v=zC)->v9 vs ss) (r:kvs.length <= 16777216)
  (h:∀ (g h':zg) (tk:Nat) (L:zN) (out:List zO) (e:Nat) (c:List Str),g.objs.size <= L->(∀ b o,s.heap.get? b=zA o->g.get? b=zA o)->(∀ b o,g.get? b=zA o->h'.get? b=zA o)->h'.get? L=zA (Qc "list" out.toArray e)->v9 out c->c.Perm ss->wj c=zC->Q (.ref L) { s with heap:=h',toks:=tk }) :
  zc (za P w) A (call (.builtin "sorted") [.ref d]) Q E s:=by
 refine Calls.call_function_entry kind_sorted plain_sorted entry_sorted (args_sorted1 _) ?_;unfold Builtin.«sorted»;refine zw (m:=checkCount "sorted" 1 1 _) (jx ?_);refine zw (PySem.W.kdu_collect (A:=A.in1) (Lr lo) C G (by rw[Zc];lia) λg tk f I i=>?_);have t:f.toList.length=kvs.length:=by rw[qH];exact i.1
 refine zw (wpAny_newList ?_ (by rw[t,Zc];lia));have l:v9 f.toList ss:=H _ t λj v e=>by
  obtain⟨k,x,J,M⟩:=i.2 j v (by rw[<- vR];exact e);exact⟨k,x,J,M⟩
 have n:(g.push (Qc "list" f.toList.toArray 0)).get? g.objs.size=zA (Qc "list" f.toList.toArray 0):=yV _ rfl;show zc _ _ _ _ _ { s with heap:=g.push (Qc "list" f.toList.toArray 0),toks:=tk };refine zw (QV (d9 slot_list_sort ⟨_,n,rfl⟩ entry_list_sort (TS.gz strKind_oneLt n l.keysOf (λu y jo e=>keyKind_strs (by rw[<- e];exact l)) (by rw[t];exact r) λp a1 a2=>⟨_,rfl,?_⟩) (args_list_sort _)));obtain⟨c,N,U,Y⟩:=sorted_out_str l a1 a2;obtain⟨e,he⟩:=sortedHeap_at (out:=(zY p).map (·.2)) n;refine jx ⟨_,rfl,h g _ tk g.objs.size ((zY p).map (·.2)).toList e c (jB _) I (λb o q=>?_) (by rw[Array.toArray_toList];exact he) N U Y⟩;have z:=jM q;rw[sortedHeap_old (je z) (by rw[size_push'];exact WN z)];exact j0 _ q
end
abbrev bC (K:zV) (H:Hp):Key×V->V->Prop:=λp y=>∃ t,y=.ref t/\SqT K H t [kV p.1,p.2]
def ua (ps:List (Key×V)):List (Key×V):=ps.foldl (λa p=>ya a p.1 p.2) []
def BP (K:zV):List V->Hp->VK->Prop:=λxs H Q=>∃ p c ps,xs=[.ref p]/\SqL K H p c/\c.length <= 1000/\Paired (bC K H) ps c/\∀ l,H l=zB->Q (.ref l) (upd H l (.dK (ua ps)))
abbrev QP:Key×V->Pq->Prop:=λp q=>p.1=q.2.1/\zx p.2 q.2.2.2
theorem B6 {X:Cx} (I:Inv X m σ H s):∀ {ps:List (Key×V)}{r:List V}{f:List zO},Paired (bC X.K H) ps r->z6 r f ->
  ∃ g:List Pq,f.length=g.length/\(∀ (i:Nat) (v:zO),f[i]? = zA v->∃ q,g[i]? = zA q/\v=.ref q.1)/\(∀ q∈g,(jm X.prog X.w).is q.2.1 q.2.2.1=zC/\km s.heap q.1 [q.2.2.1,q.2.2.2])/\Paired QP ps g
 | [],_,_,.nil,.nil=>⟨[],rfl,λi v e=>by simp at e,λq h=>absurd h vP,Paired.nil⟩
 | p::ps,_,_,.cons u x,.cons y z=>by
  obtain⟨g,A,B,C,E⟩:=B6 I x z;obtain⟨t,rfl,G⟩:=u;obtain⟨us,J,⟨o,L,M,n,N⟩,_⟩:=I.tuple G;obtain⟨j,l,rfl,Q,U⟩:∃ j l,us=[j,l]/\zx (kV p.1) j/\zx p.2 l:=by
   cases J with
   | cons a b=>cases b with
    | cons c d=>cases d;exact⟨_,_,rfl,a,c⟩
  refine⟨(t,p.1,j,l)::g,by simp[A],λi v e=>?_,λq h=>?_,.cons ⟨rfl,U⟩ E⟩
  ·cases i with
   | zero=>cases e;exact⟨_,rfl,y⟩
   | succ i=>exact B i v e
  ·rcases jc.mp h with rfl | h
   ·exact⟨Q2 Q,o,n,L,M,N⟩
   ·exact C q h
theorem lL (h:Paired QP ps d):∀ {kvs:List (Key×V)}{vs:List (Key×zO)},KV kvs vs->KV (ps.foldl (λa p=>ya a p.1 p.2) kvs) (d.foldl (λc q=>stored c q.2.1 q.2.2.2) vs):=by
 induction h with
 | nil=>exact λr=>r
 | @cons p q _ _ h t f =>
  intro kvs vs r;have e:KV (ya kvs p.1 p.2) (stored vs q.2.1 q.2.2.2):=by rw[<- h.1];exact r.put p.1 h.2
  exact f e
theorem BW {X:Cx}{k:Nat} (j:jE k X.A):qp X (.type "dict") (BP X.K):=by
 intro f s σ H xs us Q I r h;obtain⟨p,N,ps,rfl,l,U,m,q⟩:=h;obtain⟨u,rfl,t⟩:=ZN r;cases t;obtain⟨v,g,⟨o,n,x,y,B,C⟩,_⟩:=I.list l;obtain⟨E,G,J,L,M⟩:=B6 I m g;have Y:=g.length;have c:(s.heap.objs.size == Zk)=zP:=by have:=I.big;exact beq_eq_false_iff_ne.mpr (QZ this)
 have i:=lL M (.nil:KV ([]:List (Key×V)) []);have z:(ua ps).length <= z5:=by
  have a:=i.length;have b:=B1 E;unfold stL at b;unfold ua;rw[Zc]
  lia
 refine ZL (n:=1) I.tk (oW j.hd x y C B G J L (by rw[Zc];lia) λh' tk d kp e=>?_);exact⟨.ref s.heap.objs.size,_,I.laid (t':=tk) (o:=.dK (ua ps)) kp (jB _) (WC z c i d) e,rfl,q _ (I.hok.fresh (jB _))⟩
def Bg:List V->Hp->VK->Prop:=λxs H Q=>∃ p ks d,xs=[.ref p]/\H p=zA (.dK ks)/\ks.map (λe=>kV e.1)=d.map V.str/\d.length <= 16777216/\∀ q c,H q=zB->c.Perm d->wj c=zC->Q (.ref q) (upd H q (.lst (c.map V.str)))
theorem Ep:∀ {c:List Str}{vs:List zO},z6 (c.map V.str) vs->v9 vs c
 | [],_,.nil=>.nil
 | y::c,_,.cons h t=>by
  obtain⟨u,rfl⟩:=(show ∃ t,_=XD y t from h)
  exact .cons y u (Ep t)
theorem aK {X:Cx}{k:Nat} (C:jE k X.A):qp X (.builtin "sorted") Bg:=by
 intro c s σ H xs us Q I r h;obtain⟨p,ks,m,rfl,E,i,G,q⟩:=h;obtain⟨u,rfl,J⟩:=ZN r;cases J;obtain⟨z,lo,vs,t,M⟩:=Jj I.hok E;obtain⟨ep,N⟩:=M.dictAt;have hl:=t.length;have hy:ks.length=m.length:=by have:=congrArg List.length i;simpa using this
 refine ZL (n:=1) I.tk (HJ (ss:=m) C.hd lo N (λws hw hit=>?_) (by lia) λU h' tk L out e l v Y k2 g a1 a2 a3 d=>?_)
 ·refine Ep ?_;rw[<- i];refine WL (by simp;lia) λj u hu=>?_;obtain⟨k,x,e,i⟩:=hit j u hu;have f:(ks.map (·.1))[j]? = zA k:=by rw[t.keys,y9,e];rfl
  refine⟨kV k,?_,Dx i⟩;rw[y9] at f ⊢;cases y:ks[j]? with
  | none=>rw[y] at f;cases f
  | some kv=>rw[y] at f;cases f;rfl
 ·have B:Inv X c σ H { s with heap:=U,toks:=tk }:=I.kept (t':=tk) Y d;have hl':=a2.length_eq;exact⟨.ref L,_,B.laid (t':=tk) (o:=.lst (l.map V.str)) k2 v ⟨by rw[qd,Zc];lia,out,e,D8 a1,by simpa [Qc] using g⟩ d,rfl,q _ _ (B.hok.fresh v) a2 a3⟩
section
variable {K:zV}{Θ:Tab}
theorem AD:AdN K Θ M.xh Bg:=by
 intro v H S xs x Q f c h;unfold M.xh at h;split at h
 ·rename_i p;obtain⟨Y,r,rfl,ry,rfl⟩:=c;split at h
  ·rename_i kvs e;obtain⟨a,rfl,ha⟩:=ry;obtain⟨ks,g,r⟩:=Jx f ha e;have i:=WJ r;unfold M.VA at h;split at h
   ·rename_i ts j;obtain⟨l,hok⟩:=W8 j i;split at h
    ·rename_i d;refine⟨a,ks,ts.map ofT,rfl,g,l,by rw[qd];exact d,λq m n o s=>?_⟩;rw[Lh o s];exact h.alloc f (Ao (M.zt ts) λt u=>hok t ((aI ts).mem_iff.mp u)) n
    ·exact h.elim
   ·exact h.elim
  ·exact h.elim
 ·exact h.elim
theorem CV:∀ {ds:List M.D}{h:List V}{kvs:List (M.D×M.D)},M.Qy ds=zA kvs->zl K j H ds h->∃ ps,Paired (bC K H) ps h/\DR K j H kvs ps
 | [],_,_,e,r=>by cases e;cases r;exact⟨[],.nil,.nil⟩
 | d::ds,_,kvs,e,r=>by
  unfold M.Qy at e;split at e
  ·rename_i z;cases z
  ·rename_i k v y z;cases z;obtain⟨Y,A,rfl,ry,l⟩:=r;split at e
   ·rename_i m;cases q:M.Qy ds with
    | none=>rw[q] at e;cases e
    | some i =>
     rw[q] at e;cases e;obtain⟨ps,n,o⟩:=CV q l;obtain⟨t,B,rfl,p,s⟩:=ry;obtain⟨C,E,rfl,c,u,G,rfl,f,rfl⟩:=s;obtain⟨x,g,rfl⟩:=JK m c;exact⟨(x,u)::ps,.cons ⟨t,rfl,p⟩ n,.cons ⟨g,f⟩ o⟩
   ·cases e
  ·cases e
theorem nH (h:DR K d H kvs ps):∀ {c:List (M.D×M.D)}{e:List (Key×V)},DR K d H c e->DR K d H (kvs.foldl (λa p=>M.j1 p.1 p.2 a) c) (ps.foldl (λa p=>ya a p.1 p.2) e):=by
 unfold DR at h
 induction h with
 | nil=>exact λr=>r
 | cons f t g=>exact λr=>g (DR.put r f.1 f.2)
theorem Co:AdN K Θ M.xT (BP K):=by
 intro n H S xs o Q d c h;unfold M.xT at h;split at h
 ·rename_i p;obtain⟨Y,r,rfl,ry,rfl⟩:=c;split at h
  ·rename_i ds e;obtain⟨a,i,rfl,ha,hx,j⟩:=Xa d ry e;split at h
   ·rename_i kvs l;obtain⟨ps,f,g⟩:=CV l j;split at h
    ·rename_i q;have s:=Paired.length f;have t:=Paired.length g;exact⟨a,i,ps,rfl,SqL.of hx,by lia,f,λp m=>Bh h d (nH g .nil) m⟩
    ·exact h.elim
   ·exact h.elim
  ·exact h.elim
 ·exact h.elim
end
end L2
namespace L2
open PySem PySem.Spec PyProof.Rows PySem.Builtin.Str
theorem nU {K:zV}:AdN K Θ M.vA (λxs H Q=>∃ i j,xs=[.int i,.int j]/\Q (.int (if j < i then j else i)) H):=by
 intro f H S xs g Q d c h;unfold M.vA at h;split at h
 ·rename_i i j;obtain⟨Y,r,rfl,ry,Z,l,rfl,e,rfl⟩:=c;cases ry;cases e;exact⟨i,j,rfl,zR.here h d rfl⟩
 ·exact h.elim
end L2
namespace L2
open PySem PySem.Spec PyProof.Rows PySem.SeqAt
mutual
inductive IsV (h:zg):Nat->M.D->zO->Prop
 | non {n:Nat}:IsV h n .non .none
 | int {n:Nat}{i:Int}{t:Tok}:IsV h n (.int i) (.int i t)
 | str {n:Nat}{x:M.T}{t:Tok}:IsV h n (.str x) (.str (ofT x) t)
 | tup {n:Nat}{ds:List M.D}{a:zN}{us:List zO}:h.IsTuple a us.toArray->uC h n ds us->IsV h (n+1) (.tup ds) (.ref a)
inductive uC (h:zg):Nat->List M.D->List zO->Prop
 | nil {n:Nat}:uC h n [] []
 | cons {n:Nat}{d:M.D}{ds:List M.D}{u:zO}{us:List zO}:IsV h n d u->uC h n ds us->uC h n (d::ds) (u::us)
end
end L2
namespace L2
open PySem PySem.Spec PyProof.Rows
section
variable {prog:jF}{w:z7}{A:jf}{E:zO->zU->Prop}{s:zU}
theorem Gn (l:zN) (e:Array zO) (n:Nat) (dct:Option zN) (m:Array (Option zO)) (t:Tok) :
  Meets (Builtin.«enumerate.__new__» ⟨[.type "enumerate",.ref l],[("start",.int 1 t)]⟩) (λ_ R s=>s.heap.get? l=zA { cls:=.type "list",dict:=dct,data:=.seq e n,slots:=m } /\
   R (.ok (.ret (.ref (s.heap.push { cls:=.type "list_iterator",data:=.fields #[.ref l,.int 0 0] }).objs.size)))
    { s with heap:=(s.heap.push { cls:=.type "list_iterator",data:=.fields #[.ref l,.int 0 0] }).push { cls:=.type "enumerate",data:=.fields #[.none,.bool zP,.ref s.heap.objs.size,ZF 1,.none,.none] } }) :=
 .of_wp λprog w A R s h=>by
  obtain⟨o,g,d,tk,os⟩:=s;obtain⟨f,h⟩:=h;have j:=sub_enumerate;have i:Heap.IsList (Shared.heap ⟨o,g,d,tk,os⟩) l e:=⟨_,f,rfl,n,rfl⟩
  wp_walk using W7 f
  refine wpAny_stack_any λst=>jx ?_;split
  ·rename_i c _ _ _ _ _;cases (c == K4 "enumerate")
   ·wp_walk using W7 f,vS i
    exact⟨_,rfl,h⟩
   ·wp_walk using W7 f,vS i
    exact⟨_,rfl,h⟩
  ·wp_walk using W7 f,vS i
   exact⟨_,rfl,h⟩
theorem Oa (a b:zO):checkTypeCall "enumerate" ⟨[a],[("start",b)]⟩=pure ():=by kernel_rfl
theorem Nh (a b:zO):checkBuiltinCall "enumerate.__new__" ⟨[.type "enumerate",a],[("start",b)]⟩=pure ():=by kernel_rfl
theorem Pc (obj a b:zO):argsOk "object.__init__" ⟨[obj,a],[("start",b)]⟩:=by
 unfold argsOk;rw[signature?_of (id := "object.__init__") (n:=['_','_','t','i','n','i','_','_']) (o:=['t','c','e','j','b','o']) (by kernel_rfl) PySem.F.owner_object];kernel_rfl
theorem Lv {T c:String}{self a b:zO} (g:dY (.type T) "__init__" = pure (zA (.builtin "object.__init__")))
  (hm:Bind.madeBy (.type T)=pure (zA c)) (d:(zA c != zA "object.__new__")=zC) :
  Meets (Builtin.«object.__init__» ⟨[self,a],[("start",b)]⟩) (λ_ R s=>s.TypeIs self T/\R (.ok (.ret .none)) s):=by
 refine Meets.of_wp λprog w A R s e=>?_;obtain⟨h,f⟩:=e
 repeat (any_goals (first | assumption | wp_step))
 exact⟨_,rfl,f⟩
theorem ip {l:zN}{d:Array zO}{Q:zO->zU->Prop}{t:Tok} (I:s.heap.IsList l d)
  (h:∀ h',IsEnum h' (s.heap.objs.size+1) s.heap.objs.size 1 .none->h'.IsListIter s.heap.objs.size l 0->h'.objs.size=s.heap.objs.size+2 ->
   (∀ b o,s.heap.get? b=zA o->h'.get? b=zA o)->Q (.ref (s.heap.objs.size+1)) { s with heap:=h' }) :
  zc (za prog w) A (call (.type "enumerate") [.ref l] [("start",.int 1 t)]) Q E s:=by
 obtain⟨⟨c,dct,J,L⟩,M,q,n,hd⟩:=I
 replace q:c=.type "list" := q
 replace hd:J=.seq d n:=hd
 subst q hd;have i:=PySem.F.called_enumerate;obtain⟨c,tl,z⟩:=i.mro;have u:=i.made;have B:=i.sub;refine vx (pf ?_);show zc _ _ (callAny (.type "enumerate") _) _ _ _;refine jx ⟨Ex _ (by decide +kernel),Bf PySem.F.entry_type_call ?_⟩;rw[Around.under_plain (weight_type_call_type "enumerate" [.ref l] [("start",.int 1 t)]) (units_type_call_type "enumerate" [.ref l] [("start",.int 1 t)])];have h1:=i.notType;have h2:=i.canCreate;have N:=Oa (.ref l) (.int 1 t)
 repeat (any_goals (first | assumption | wp_step))
 have v:(s.heap.push { cls:=.type "list_iterator",data:=.fields #[.ref l,.int 0 0] }).objs.size=s.heap.objs.size+1:=JV ..;have C:IsEnum ((s.heap.push { cls:=.type "list_iterator",data:=.fields #[.ref l,.int 0 0] }).push
   { cls:=.type "enumerate",data:=.fields #[.none,.bool zP,.ref s.heap.objs.size,ZF 1,.none,.none] }) (s.heap.objs.size+1) s.heap.objs.size 1 .none:=by
  have:=yV (s.heap.push { cls:=.type "list_iterator",data:=.fields #[.ref l,.int 0 0] })
   (o:={ cls:=.type "enumerate",data:=.fields #[.none,.bool zP,.ref s.heap.objs.size,ZF 1,.none,.none] }) rfl
  rw[v] at this;exact this
 have U:=h _ C ⟨_,j0 _ (yV _ rfl),rfl,rfl⟩ (by rw[JV,v]) λb o x=>j0 _ (j0 _ x);refine Xf (eU i.plain PySem.F.entry_enumerate_new (wpAny_of_eq (Nh (.ref l) (.int 1 t)) (Gn l d n dct L t prog w A.in1 (wants (λobj g=>g.TypeIs obj "enumerate" /\ Q obj g) E) s ⟨M,by rw[v];exact⟨⟨_,C,rfl⟩,U⟩⟩))) λr g y=>?_;cases r with
 | error e=>exact y
 | ok fl =>
  cases fl with
  | ret obj =>
   obtain⟨G,H⟩:=y;have Y:=i.init.lookup;have hbi:=i.init.bind obj
   repeat (any_goals (first | assumption | wp_step))
   refine Xf (eU i.init.plain PySem.F.entry_object_init (i.init.check _ _ _ _ _ _ _ _ G (Pc obj (.ref l) (.int 1 t)) (Lv (a:=.ref l) (b:=.int 1 t) i.init.lookup i.made (by decide) prog w A.in1 (wants (λr j=>r=.none/\Q obj j) E) g ⟨G,rfl,H⟩))) λp j f=>?_;cases p with
   | error e=>exact f
   | ok m =>
    cases m with
    | ret r =>
     obtain⟨rfl,H⟩:=f
     repeat (any_goals (first | assumption | wp_step))
    | _=>exact f.elim
  | _=>exact y.elim
end
theorem n5 {w:z7}{A:jf} (p:A.handled=zB) (it l:zN) (g:l≠it) (c:Array zO) :
  Draws prog w A it [it,l] (c.size+1) (λj v=>c[j - 1]? = zA v) (λj h=>1 <= j/\h.IsListIter it l (j - 1)/\h.IsList l c) where
 live:=λ_ _ st=>let ⟨o,q,_⟩:=st.2.1;⟨o,q⟩
 frame:=λ_ _ _ st m=>⟨st.1,st.2.1.at λo e=>m it (by simp) o e,st.2.2.at λo e=>m l (by simp) o e⟩
 item:=λi s Q E hi st r=>by
  have u:=st.1;have n:i - 1 < c.size:=by lia
  refine wpAny_nextOf_list_item st.2.1 st.2.2 (x:=c[i - 1]) (by simp[n]) λh' d f=>?_;rw[show i - 1+1=i+1 - 1 by lia] at d;exact r _ h' s.toks (by simp[n]) ⟨by lia,d,st.2.2.extBut f.extBut g⟩ f
 done:=λs Q E st t=>MD p st.2.1 st.2.2 (by simp) t
def V4 (K:zV) (a:zN):It :=
 ⟨λi H=>∃ xs x,SqL K H a xs/\xs[i]? = zA x,λi H v c=>∃ p x,H p=zB/\v=.ref p/\c=upd H p (.tup [.int ((i+1:Nat):Int),x])/\∀ xs,SqL K H a xs->xs[i]? = zA x,λi H=>∃ xs,SqL K H a xs/\xs.length <= i⟩
theorem MO {P:jF}{w:z7}{K:zV}{t:List zi}{kt:_}{tp:Pos} (a e it:zN) (n:e≠it) (M:e≠a) (N:a≠it):JF P w K (.Tuple t kt tp) (V4 K a) [e,it] e (λi h=>(∃ old,IsEnum h e it ((i+1:Nat):Int) old)/\h.IsListIter it a i) where
 mem:=by simp
 obj:=λi h ⟨⟨old,f⟩,hi⟩ b l=>by
  rcases jc.mp l with rfl | l
  ·exact⟨_,f,λv z=>by
    have z':NK _=hX v:=z;cases z'⟩
  ·have z:b=it:=by simpa using l
   subst z;obtain⟨o,g,c,d⟩:=hi;exact⟨o,g,λv z=>by rw[d] at z;cases z⟩
 keep:=λi h h' ⟨⟨old,f⟩,hi⟩ k=>⟨⟨old,k e (by simp) _ f⟩,hi.at λo g=>k it (by simp) o g⟩
 item:=by
  intro X Q hw U Y i y s σ H E I B ⟨⟨old,f⟩,hi⟩ hg;subst Q hw U;obtain⟨xs,x,G,hx⟩:=hg;obtain⟨m,rv,p,hz⟩:=I.list G;obtain⟨u,hu,ru⟩:=rv.get hx;have fe:=B e (by simp);have fi:=B it (by simp);have hlt:i < m.length:=(yp.mp hu).1;refine wpAny_pyNext_enum_itemD (n5 (show X.A.in1.handled=zB from I.ok.hd Y) it a N m.toArray) (i:=i+1) f ⟨by lia,hi,p.isList⟩ (by simp;lia) n (by simp[n,M]) λJ h' tk r ho st L hsz hk=>?_;obtain⟨_,hi',_⟩:=st;have hxu:J=u:=by
   have:m[i]? = zA J:=by simpa using r
   rw[hu] at this;cases this;rfl
  subst hxu;refine⟨_,rfl,wpAny_letOwnedTupleGo_enum ho λh'' C j=>?_⟩;have eT:s.heap.objs.size≠e:=QZ (jM f);have iT:s.heap.objs.size≠it:=by obtain⟨o,g,_⟩:=hi;exact QZ (jM g)
  refine⟨.ref s.heap.objs.size,upd H s.heap.objs.size (.tup [.int ((i+1:Nat):Int),x]),?_,rfl,⟨s.heap.objs.size,x,I.hok.fresh (jB _),rfl,rfl,λys hy=>by rw[I.list_inj hy G];exact hx⟩,⟨⟨J,by simpa using C⟩,hi'.at λo g=>(j.2 it (yJ n)).trans g⟩,λb l=>?_⟩
  ·refine I.turned2 fe fi (jB _) (λb q h1 h2 g=>(j.2 b h1).trans (hk b q h1 h2 g)) ?_ (yt _);exact⟨by show 2 <= z5;decide,[.int ((i+1:Nat):Int) tk,J],.cons ⟨_,rfl⟩ (.cons ru .nil),_,(j.2 _ eT).trans L,rfl,_,rfl⟩
  ·rw[jA]
   ·exact (B b l).1
   ·rcases jc.mp l with rfl | l
    ·exact yJ eT
    ·have z:b=it:=by simpa using l
     subst z;exact yJ iT
 done:=by
  intro X Q hw U Y i y s σ H E I B ⟨⟨old,f⟩,hi⟩ hg;subst Q hw U;obtain⟨xs,G,hx⟩:=hg;obtain⟨m,rv,p,hz⟩:=I.list G;obtain⟨f0,f1,f2,f3,f4,f5⟩:=B it (by simp);have hl:=rv.length;have L:s.TypeIs (.ref e) "enumerate" := ⟨_,f,rfl⟩
  unfold u2;refine zw (wpAny_attempt (wpAny_callSpecial?_slot (name:=Str.ofString "__next__") L L4
   (d9 L4 L PySem.F.entry_enumerate_next ?_ (PySem.F.args_enumerate_next_1 _))))
  show zc _ _ (field (.ref e) 2 >>= _) _ _ _;refine zw (VT f rfl (x:=.ref it) rfl ?_);refine zw (MD (show X.A.in1.handled=zB from I.ok.hd Y) hi p.isList (by simp;lia) λh' x he' r=>?_);obtain⟨o,ho,hcl⟩:=r;refine zw (wpAny_isInstance (T := "StopIteration") (b:=true) ⟨o,ho,hcl⟩ isSubtype_stop ?_);exact jx ⟨rfl,I.turned (t':=s.toks) (λb o l g=>he' b o l g) f0 f1 f3 f4 f5⟩
 self:=λ_ _ _ _ _ ⟨⟨_,f⟩,_⟩ h=>Mm f h
theorem nF {M:Q9}{T:String}{first:List zO}{args:List (Bool×Sem zO)}{c:List (Option Str×Sem zO)}
  (d:args.any (·.1)=zP) (g:c.any (·.1.isNone)=zP)
  (h:zc M A (evalArgs (.type T) zC args c) (λa e=>zc M A (call (.type T) (first++a.pos) a.kw) Q E e) E s) :
  zc M A (kF pos (.type T) first args c) Q E s:=by
 unfold kF;refine zw (QV (ZD h (λa e f=>zw (Xo ?_)) λ_ _ x=>x));simp only[d,g,iC];refine zw (jx ?_);exact zw (ZD f (λr i j=>zw (QV (wpAny_point (jx j)))) λ_ _ x=>x)
def Fw (K:zV) (d:TA):TI:=λσ H R=>d σ H λvs c=>∃ a xs,vs=[.ref a]/\SqL K c a xs/\R (V4 K a) c
theorem HY {X:Cx}{a:zi}{p pos t kp v:Pos}{c:Nat}{g:List zi}{x:_} (y:Gl X "enumerate") (hm:X.mg "enumerate" = zB) (ha:PA X [a] A) (l:qS a=zC:=by rfl):PI X (.Tuple g x v) (.Call (.Name "enumerate" p) [a] [⟨zA "start",.Constant (.int 1) c t,kp⟩] pos) (Fw X.K A):=by
 intro d s σ H R I h;refine K3 (KZ I y hm (show yB "enumerate" = zA (.type "enumerate") by kernel_rfl) ?_ (by decide) (by decide));refine nF (by rw[yI l];rfl) rfl (evalArgs_kw2 rfl (jC (ha pos d s σ H _ I h) λus s1 vs B C E G=>?_) (yI l));refine jC (MY (te:=tC (.int 1)) EO pe pos d s1 σ B (λm i=>m=[.int 1]/\∃ a xs,vs=[.ref a]/\SqL X.K i a xs/\R (V4 X.K a) i) C ⟨rfl,G⟩) λws s2 m i f J ⟨L,M⟩=>?_;subst L;obtain⟨u0,rfl,t0,rfl⟩:=ZN J;obtain⟨n,xs,e,N,q⟩:=M;subst e;obtain⟨u,rfl,Q⟩:=ZN E;cases Q;obtain⟨U,rv,pl,hz⟩:=f.list N;obtain⟨o,Y,ho2⟩:=pl.isList;have hlt:n < s2.heap.objs.size:=jM Y;refine ip pl.isList λh' r hi hsz hk=>?_;refine Mm r ⟨s2.heap.objs.size+1,[s2.heap.objs.size+1,s2.heap.objs.size],_,_,i,rfl,f.kept (t':=s2.toks) hk,MO n _ _ (Nat.succ_ne_self _) (by lia) (by lia),⟨⟨_,r⟩,hi⟩,λb j=>?_,q⟩;rcases jc.mp j with rfl | j
 ·exact f.fpOk (Jy _) (f.hok.fresh (Jy _))
 ·have z:b=s2.heap.objs.size:=by simpa using j
  subst z;exact f.fpOk (jB _) (f.hok.fresh (jB _))
section
variable {Θ:Tab}
theorem d7 {K:zV}{z:List zN}{a:zN} (h:∀ {c:List zN}{s:M.S}{m:Hp},z <+: c->Le H m->zh K Θ c s m->M.z8 g s=zC->∃ f,SqL K m a f/\zl K c m ds f):ItR K Θ z H (V4 K a) (M.ZX 1 ds) g:=by
 refine⟨λj c s m p l n g o=>?_,λj c s m v E p l n g o y=>?_,λc s m p l n g=>?_⟩
 ·rw[Yj] at o;obtain⟨f,e,r⟩:=h p l n g;obtain⟨v,t,_⟩:=r.get (i:=j) (d:=ds[j]) (by simp[o]);exact⟨f,v,e,t⟩
 ·rw[Yj] at o;obtain⟨f,e,r⟩:=h p l n g;obtain⟨G,t,B⟩:=r.get (i:=j) (d:=ds[j]) (by simp[o]);obtain⟨q,x,u,rfl,rfl,C⟩:=y;have A:=C f e;rw[t] at A;cases A;refine⟨.tup [.int ((j+1:Nat):Int),ds[j]],by rw[Bk];simp[o];lia,?_,Le.new u _,n.aside u _⟩;exact⟨q,_,rfl,SqT.of qD,_,_,rfl,rfl,_,_,rfl,B.mono (jd _) (Le.new u _),rfl⟩
 ·obtain⟨f,e,r⟩:=h p l n g;exact⟨f,e,by rw[Yj,r.length];exact jB _⟩
theorem lz {X:Cx}{p pos cp kp tp:Pos}{c:Nat}{t:List zi}{kt:_} (A:Gl X "enumerate") (hm:X.mg "enumerate" = zB) (E:WE X Θ e m) (G:qS e=zC:=by rfl):WI X Θ (.Tuple t kt tp) (.Call (.Name "enumerate" p) [e] [⟨zA "start",.Constant (.int 1) c cp,kp⟩] pos) (M.C3 1 m):=by
 delta WE WI at E ⊢
 exact (HY A hm (Vh E V8 G) G).imp λσ H R ⟨u,f,S,st,rp,h⟩=>⟨u,f,S,st,rp,by
   have h':zR X.K Θ _ u H (((m f S).bind λx s=>match x with
    | .ro ds=>M.R.ok (M.ZX 1 ds,([]:M.Gd)) s
    | .ref i=>(match s[i]? with | some (.lst xs)=>.ok (M.ZX 1 xs,[(i,.lst xs)]) s | _=>.no)
    | _=>.no).bind λp s=>if M.z8 p.2 s then .ok p s else .no) R:=h
   show zR X.K Θ _ u H ((m f S).bind λx s=>(M.R.ok [] s).bind λxs s=>.ok (x::xs) s) _;cases hm:m f S with
   | no=>rw[hm] at h';exact h'.elim
   | exc a s=>rw[hm] at h';exact h'
   | ok d n =>
    rw[hm] at h';intro y I vs p l j z;obtain⟨v,ys,rfl,z,hy⟩:=z;cases hy;cases d with
    | ro ds =>
     obtain⟨a,xs,rfl,J,r⟩:=z;exact⟨a,xs,rfl,J.sq,h' y I _ p l j (d7 λB L _ _=>⟨xs,(L.rol J).sq,r.mono B L⟩)⟩
    | ref i =>
     obtain⟨a,rfl,N⟩:=z;have g:zR X.K Θ _ u H ((match n[i]? with
      | some (.lst xs)=>M.R.ok (M.ZX 1 xs,[(i,M.O.lst xs)]) n
      | _=>.no).bind λp s=>if M.z8 p.2 s then .ok p s else .no) R:=h'
     cases q:n[i]? with
     | none=>rw[q] at g;exact g.elim
     | some o =>
      rw[q] at g;cases o with
      | lst xs =>
       obtain⟨b,Q,zs,e3,r⟩:=j.obj i _ q;rw[N] at Q;cases Q;have A:M.z8 [(i,M.O.lst xs)] n=zC:=by simp[M.z8,q]
       have U:zR X.K Θ _ u H (if M.z8 [(i,M.O.lst xs)] n then M.R.ok (M.ZX 1 xs,[(i,M.O.lst xs)]) n else .no) R:=g;rw[if_pos A] at U;refine⟨a,zs,rfl,SqL.of e3,U y I _ p l j (d7 λ{ρ' S' H'} B _ C g'=>?_)⟩;have g2:S'[i]? = zA (M.O.lst xs):=by simpa [M.z8] using g'
       obtain⟨b2,Y,ws,f2,r2⟩:=C.obj i _ g2;rw[Js B N] at Y;cases Y;exact⟨ws,SqL.of f2,r2⟩
      | dct kvs=>exact g.elim
      | fdc _=>exact g.elim
      | dtt _=>exact g.elim
      | ftt _=>exact g.elim
      | ins c fs=>exact g.elim
    | _=>exact h'.elim⟩
end
end L2
namespace TE
open PySem
noncomputable abbrev bare (C p:zN):Obj:={ cls:=.ref C,data:=.fields #[.ref p,.none,.none,.none,.bool zP,.none] }
def laid (m:zg) (C:zN) (us:List zO):zg:=(m.push { cls:=.type "tuple",data:=.seq us.toArray }).push (bare C m.objs.size)
theorem Y4 {m:zg}{b:zN}{o:Obj} (e:m.get? b=zA o):(laid m C us).get? b=zA o :=
 j0 _ (j0 _ e)
theorem bQ:(laid m C us).get? (m.objs.size+1)=zA (bare C m.objs.size):=by
 unfold laid bare
 heap_get
theorem gY {m:zg}{n:zN}{f:Str->Option zO} (e:m.Ns n f):(laid m C us).Ns n f:=by
 obtain⟨a,b,c,e,r⟩:=e;exact⟨a,b,c,Y4 e,r⟩
def IsX (m:zg) (C:zN):Prop:=∃ nm q N bs d hd e sub f c g h i j l n o,m.get? C=zA (W2 nm q C N bs d hd e sub f c g h i j l n o)/\d.contains (.type "BaseException")=zC
def Ms (m:zg) (C e:zN):Prop:=∃ c d p,m.get? e=zA { cls:=.ref C,dict:=c,data:=.fields #[.ref p,.none,.none,.none,.bool zP,.none],slots:=d }
theorem fj {c:jf}{d:zO->zU->Prop} (g:c.handled=zB)
  (hx:zc mo c x (λv s'=>∃ e,v=.ref e/\IsX s'.heap C/\Ms s'.heap C e/\d v s') d s):zc mo c (raiseStmt n (zA x) zB) Q d s:=by
 unfold raiseStmt;apply zw;refine ZD hx (λv s' h=>?_) λ_ _ z=>z;obtain⟨e,rfl,⟨nm,q,N,bs,i,hd,o,sub,r,j,t,u,y,A,B,E,G,cl,l⟩,⟨H,I,p,f⟩,ok⟩:=h;have sb:(jv C::i).contains (.type "BaseException")=zC:=by
  rw[Du,l];exact LJ _
 obtain⟨m,J,L,k,M⟩:=s'
 repeat first
  | (with_reducible refine YK f ?_)
  | (with_reducible refine YK cl ?_)
  | (with_reducible refine Hu cl ?_;rw[sb])
  | wp_step
 exact wpAny_raiseNew_none g ok
end TE
namespace TE
open PySem PySem.Builtin PySem.Builtin.ObjectAttr
structure Two (m:zg) (C Y:zN) (B:String) (tl:List zO) (mC mY:Str->Option zO):Prop where
 up:mroOf (.type B)=pure tl
 lo:∃ nm q N bs sn sub ab col dd k0 k1 k2 k3 k5 nw,m.get? C=zA (W2 nm q C N bs (.ref Y::tl) zC sn sub ab col dd k0 k1 k2 k3 k5 nw)/\m.Ns N mC
 hi:∃ c dd cd sl,m.get? Y=zA { cls:=c,dict:=dd,data:=.cls cd,slots:=sl }/\m.Ns cd.ns mY
end TE
namespace TE
open PySem
noncomputable def Tr (m:zg) (e:zN) (c:Obj):Option zN->Prop
 | none=>∃ vs,m.get? e=zA c/\c.data=.fields vs/\vs[1]? = zA .none
 | some T=>∃ vs d ts,m.get? e=zA c/\c.data=.fields vs/\vs[1]? = zA (.ref T)/\T≠e/\m.get? T=zA d/\d.data=.fields ts/\ts[3]? = zA .none
theorem Tr.at (h:Tr m e d t):∃ vs,m.get? e=zA d/\d.data=.fields vs/\1 < vs.size:=by
 cases t with
 | none=>obtain⟨vs,a,b,c⟩:=h;exact⟨vs,a,b,(yq.mp c).1⟩
 | some T=>obtain⟨vs,_,_,a,b,c,_⟩:=h;exact⟨vs,a,b,(yq.mp c).1⟩
structure u5 (l:List Env) (e:zN) (t:Option zN) (oe:Obj) (m m':zg):Prop where
 size:m.objs.size <= m'.objs.size
 far:∀ b o,m.get? b=zA o->b≠e->t≠zA b->b∉l.filterMap (·.frame)->m'.get? b=zA o
 fra:∀ b o,m.get? b=zA o->b≠e->t≠zA b->b∈l.filterMap (·.frame)->∃ sl,m'.get? b=zA { o with slots:=sl }
 exc:∃ oe' T,oe'.cls=oe.cls/\oe'.dict=oe.dict/\Tr m' e oe' (zA T)/\m.objs.size <= T
 old:∀ b,t=zA b->∃ o,m'.get? b=zA o
section
variable {M:Q9}{A:jf}{E:zO->zU->Prop}{s:zU}{base:zg}{env:Env}{outer:List Env}{L e:zN}{oe:Obj}
theorem Cy {vs:Array zO}{Q:Unit->zU->Prop} (r:A.frames=zA (env::outer)) (y:s.heap.FunFrames base (env::outer)) (Y:env.frame=zA L) (z:s.heap.get? e=zA oe) (hd:oe.data=.fields vs) (t:1 < vs.size)
  (q:∀ B,u5 (env::outer) e zB oe s.heap B->Q () { s with heap:=B }) :
  zc M A (do let a <- frameOf env;let pl <- entryPlaceOf L had;let b <- Lx g a .none (ZF L) .none pl;setField (.ref e) 1 b) (λ_ s'=>zc M A (VQ (.ref e) zB) Q E s') E s:=by
 have ne:e∉(env::outer).filterMap (·.frame):=λhm=>by
  obtain⟨_,o,C,u⟩:=y.mem hm;rw[z] at C;cases C;exact u vs hd
 apply zw;refine wpAny_frameOf_fun r y Y λd s1=>?_;apply zw;refine wpAny_entryPlaceOf λpl hp=>?_;unfold Lx newFields;apply zw;refine Nk ?_ (hp.sizeOk5 _ _ _ _ _);obtain⟨h,j⟩:∃ h:Obj,h={ cls:=.type "traceback",dict:=none,data:=.fields ([g,.ref L,.none,ZF L,.none]++(if pl.isEmpty then zm 6 qx else pl)).toArray }:=⟨_,rfl⟩
 rw[<- j];have m:h.data=.fields ([g,.ref L,.none,ZF L,.none]++(if pl.isEmpty then zm 6 qx else pl)).toArray:=by rw[j]
 have G:d.get? e=zA oe:=(s1.2.1 e ne).trans z;have H:(d.push h).get? e=zA oe:=j0 _ G;have fr:h.isFreed=zP:=by rw[j];rfl
 have t2:(d.push h).get? d.objs.size=zA h:=yV _ fr;have te:d.objs.size≠e:=QZ (jM G);refine A5 H hd t ?_;have v:=aO hd (·.setIfInBounds 1 (jv d.objs.size));obtain⟨l,n⟩:∃ l,l=(d.push h).update e (xf (·.setIfInBounds 1 (jv d.objs.size))):=⟨_,rfl⟩
 have I:l.get? e=zA (xf (·.setIfInBounds 1 (jv d.objs.size)) oe):=by rw[n];exact Vg _ H (AH v)
 have J:l.get? d.objs.size=zA h:=by rw[n,xM _ _ te.symm];exact t2
 change zc _ _ (VQ (.ref e) zB) _ _ { s with heap:=(d.push h).update e _ }
 rw[<- n];unfold VQ;apply zw;refine VT I v (x:=.ref d.objs.size) (by simp[t]) ?_;rw[if_pos (show (jv d.objs.size != qx)=zC by simp)];have z3:3 < ([g,.ref L,.none,ZF L,.none]++(if pl.isEmpty then zm 6 qx else pl)).toArray.size:=by
  simp only[qY,ZI,qL,Jb]
  lia
 refine A5 J m z3 (q _ ?_);have sz:d.objs.size=s.heap.objs.size:=s1.1;have keep:∀ b o,b≠e->d.get? b=zA o->(l.update d.objs.size (xf (·.setIfInBounds 3 ((zB:Option zN).elim qx λf=>ZF f)))).get? b=zA o:=λb o p i=>by
  have nb:d.objs.size≠b:=QZ (jM i);rw[xM _ _ nb,n,xM _ _ p.symm];exact j0 _ i
 have N:=aO m (·.setIfInBounds 3 ((zB:Option zN).elim qx λf=>ZF f));refine⟨?_,λb o i p _ u=>keep b o p ((s1.2.1 b u).trans i),λb o i p _ _=>?_,?_,λb i=>by cases i⟩
 ·have:(l.update d.objs.size (xf (·.setIfInBounds 3 ((zB:Option zN).elim qx λf=>ZF f)))).objs.size=d.objs.size+1:=by
   rw[Ez,n,Ez,JV]
  show s.heap.objs.size <= (l.update d.objs.size (xf (·.setIfInBounds 3 ((zB:Option zN).elim qx λf=>ZF f)))).objs.size
  lia
 ·obtain⟨U,hs⟩:=s1.2.2 b o i;exact⟨U,keep b _ p hs⟩
 ·refine⟨xf (·.setIfInBounds 1 (jv d.objs.size)) oe,d.objs.size,Obj.cls_mapFields _ _,?_,⟨_,_,_,?_,v,by simp[t],te,Vg _ J (AH N),N,by simp⟩,by lia⟩
  ·obtain⟨c,dd,dt,U⟩:=oe;cases dt<;>rfl
  ·rw[xM _ _ te];exact I
theorem dj {Q:Unit->zU->Prop} (l:A.frames=zA (env::outer)) (u:s.heap.FunFrames base (env::outer)) (v:env.frame=zA L) (h:Tr s.heap e oe t)
  (q:∀ m,u5 (env::outer) e t oe s.heap m->Q () { s with heap:=m }):zc M A (BB (.ref e) env) (λ_ s'=>zc M A (VQ (.ref e) zB) Q E s') E s:=by
 unfold BB;simp only[v];cases t with
 | none =>
  obtain⟨vs,n,hd,p⟩:=h;apply zw;refine VT n hd p ?_;rw[if_neg (by decide)];exact Cy l u v n hd (yq.mp p).1 q
 | some T =>
  obtain⟨vs,Y,ts,n,hd,p,I,r,c,J⟩:=h;apply zw;refine VT n hd p ?_;rw[if_pos (show (jv T != qx)=zC by simp)];apply zw;refine VT r c J ?_;rw[if_neg (show ¬ (qx == ZF L)=zC by simp[ZF])];apply zw;have z3:=(yq.mp J).1;refine A5 r c z3 ?_;obtain⟨f,hm⟩:∃ f,f=s.heap.update T (xf (·.setIfInBounds 3 qx)):=⟨_,rfl⟩
  change zc _ _ _ _ _ { s with heap:=s.heap.update T _ }
  rw[<- hm];have i:∀ b,b≠T->f.get? b=s.heap.get? b:=λb d=>by rw[hm];exact xM _ _ d.symm
  have dT:=aO c (·.setIfInBounds 3 qx);have T1:f.get? T=zA (xf (·.setIfInBounds 3 qx) Y):=by rw[hm];exact Vg _ r (AH dT)
  have x:T∉(env::outer).filterMap (·.frame):=λy=>by
   obtain⟨_,o,N,j⟩:=u.mem y;rw[r] at N;cases N;exact j ts c
  have B:f.FunFrames base (env::outer):=u.of_keeps λb o d j=>⟨o,(i b λz=>by rw[z,r] at d;cases d;exact j ts c).trans d,rfl⟩
  refine Cy (s:={ s with heap:=f }) l B v ((i e I.symm).trans n) hd (yq.mp p).1 λm g=>q m ?_;have sz:f.objs.size=s.heap.objs.size:=by rw[hm,Ez]
  have gs:f.objs.size <= m.objs.size:=g.size;refine⟨by lia,λb o d C G j=>g.far b o ((i b λz=>G (by rw[z])).trans d) C (by simp) j,λb o d C G j=>g.fra b o ((i b λz=>G (by rw[z])).trans d) C (by simp) j,?_,λb d=>?_⟩
  ·obtain⟨H,U,a1,a2,a3,a4⟩:=g.exc;have a4':f.objs.size <= U:=a4;exact⟨H,U,a1,a2,a3,by lia⟩
  ·cases d;exact⟨_,g.far T _ T1 I (by simp) x⟩
theorem left {Q:Unit->zU->Prop} (c:A.frames=zA (env::outer)) (f:s.heap.FunFrames base (env::outer)) (g:env.frame=zA L) (h:Tr s.heap e oe t)
  (q:∀ d,u5 (env::outer) e t oe s.heap d->Q () { s with heap:=d }):zc M A (az env (.ref e)) Q E s:=by
 unfold az;apply zw;exact dj c f g h q
theorem Im {T:zN}{Q:Unit->zU->Prop} (h:Tr s.heap e oe (zA T))
  (q:∀ g,(∀ b o,s.heap.get? b=zA o->b≠T->g.get? b=zA o)->Tr g e oe (zA T)->Q () { s with heap:=g }):zc M A (VQ (.ref e) zB) Q E s:=by
 obtain⟨vs,v,ts,i,hd,j,l,m,c,r⟩:=h;unfold VQ;apply zw;refine VT i hd j ?_;rw[if_pos (show (jv T != qx)=zC by simp)];have n:=(yq.mp r).1;have p:=aO c (·.setIfInBounds 3 ((zB:Option zN).elim qx λf=>ZF f));have d:∀ b o,s.heap.get? b=zA o->b≠T->(s.heap.update T (xf (·.setIfInBounds 3 ((zB:Option zN).elim qx λf=>ZF f)))).get? b=zA o:=λb o t u=>by
  rw[xM _ _ u.symm];exact t
 exact A5 m c n (q _ d ⟨vs,_,_,d e _ i l.symm,hd,j,l,Vg _ m (AH p),p,by simp[n]⟩)
end
end TE
namespace L2
open PySem PySem.Spec PyProof.Rows
def XAt (n:Nat) (H:Hp) (h:zg) (x C:zN) (d:Option zN):Prop:=∃ c t,TE.Tr h x c t/\c.cls=.ref C/\c.dict=d/\n <= x/\H x=zB/\∀ T,t=zA T->n <= T/\H T=zB
theorem XAt.mono {m:Nat} (a:XAt n H h x C d) (l:m <= n):XAt m H h x C d:=by
 obtain⟨f,t,a1,a2,g,i,j,c⟩:=a;exact⟨f,t,a1,a2,g,qe l i,j,λT e=>⟨qe l (c T e).1,(c T e).2⟩⟩
def CX1 (P:jF) (w:z7):CXT:=λouter H s E e s'=>∃ x C d c,e=.ref x/\s'.os=s.os/\Je s'.gens/\Un (frs outer) [] H c s.heap s'.heap/\HOk P w c s'.heap/\0 < s'.toks/\XAt s.heap.objs.size c s'.heap x C d/\E (.ref C) d c
structure xi (X:Cx) (E:XK):Prop where
 xe:∃ Er:zO->zU->Prop,X.xe=λe s'=>zc (za X.prog X.w) X.A (az X.env e) (λ_ s''=>CX1 X.prog X.w X.outer X.H₀ X.s₀ E e s'') Er s'
 st:X.stack=X.env::X.outer
 fr:X.env.frame=zA X.env.locals
 ex:X.ex=[]
theorem IW {P:jF}{w:z7}{K:zV}{mg:Str->Option zO}{base:zg}{outer:List Env}:xi (yf (CX1 P w) P w K mg base N qual scope f c A outer s H E) E:=⟨⟨_,rfl⟩,rfl,rfl,rfl⟩
def UA (X:Cx) (E:XK):Prop:=∀ {c:List (zN×Obj)}{σ:St}{H:Hp}{s:zU}{x C:zN}{d:Option zN}{N:Nat},Inv X c σ H s->X.s₀.heap.objs.size <= N->(∀ p∈X.pn++c,p.1 < N)->XAt N H s.heap x C d->E (.ref C) d H->X.xe (.ref x) s
section
variable {X:Cx}{pins:List (zN×Obj)}{σ:St}{H:Hp}{s:zU}{E:XK}{x C:zN}{od:Option zN}
theorem xi.leave (W:xi X E) (I:Inv X pins σ H s) (a:XAt X.s₀.heap.objs.size H s.heap x C od) (q:E (.ref C) od H):X.xe (.ref x) s:=by
 obtain⟨Er,hx⟩:=W.xe;obtain⟨oe,t,tr,a2,a3,Q,U,Y⟩:=a;rw[hx];have i:=I.ok.frames;have hl:=I.stack;have j:=I.stkFree;rw[W.st] at i hl j;have L0:X.s₀.heap.objs.size <= X.env.locals:=I.ok.above;have y:∀ b,b∈frs (X.env::X.outer)->b=X.env.locals\/b∈frs X.outer:=λb d=>by
  unfold frs at d;rw[uF,W.fr] at d;exact jc.mp d
 refine TE.left i hl W.fr tr λm' g=>?_;have far:∀ b o,s.heap.get? b=zA o->b≠x->t≠zA b->b∉frs (X.env::X.outer)->m'.get? b=zA o:=g.far;have fra:∀ b o,s.heap.get? b=zA o->b≠x->t≠zA b->∃ A,m'.get? b=zA { o with slots:=A }:=λb o d n1 n2=>by
  by_cases r:b∈frs (X.env::X.outer)
  ·exact g.fra b o d n1 n2 r
  ·exact⟨o.slots,far b o d n1 n2 r⟩
 have f:∀ b o,X.s₀.heap.get? b=zA o->b≠x/\t≠zA b/\b≠X.env.locals:=λb o d=>by
  have:=jM d;exact⟨je (j6 this Q),λz=>Zq _ (j6 this (Y b z).1),je (j6 this L0)⟩
 have ne:∀ b,b∉X.ex:=λb d=>by rw[W.ex] at d;cases d
 refine⟨x,C,od,H,rfl,I.os,I.bare,⟨?_,?_,?_,?_,I.base.tups,I.base.frzs,I.base.tbls⟩,?_,I.tk,?_,q⟩
 ·intro b o d n nf _;obtain⟨l,m,B⟩:=f b o d;exact far b o (I.base.keep b o d n nf (ne b)) l m λz=>(y b z).elim B nf
 ·intro b o d n r _;obtain⟨l,m,B⟩:=f b o d;obtain⟨A,G⟩:=I.base.slot b o d n r (ne b);obtain⟨J,L⟩:=fra b _ G l m;exact⟨J,L⟩
 ·intro b o d n _;exact I.base.free b o d n (ne b)
 ·intro b o d _;obtain⟨l,m,B⟩:=f b o d;obtain⟨o',G⟩:=I.base.there b o d (ne b);obtain⟨A,L⟩:=fra b o' G l m;exact⟨_,L⟩
 ·intro b u e;refine (I.hok b u e).stay (λc v M hv=>?_) (λ_ z=>z) λ_ _ z=>z;have tk:∃ u,H c=zA u:=by
   rcases M with rfl | M
   ·exact⟨u,e⟩
   ·exact⟨_,M⟩
  obtain⟨u',h⟩:=tk;refine far c v hv (λz=>by rw[z,U] at h;cases h) (λz=>by rw[(Y c z).2] at h;cases h) λz=>by rw[j c z] at h;cases h
 ·obtain⟨N,T,b1,b2,b3,b4⟩:=g.exc;refine⟨N,zA T,b3,b1.trans a2,b2.trans a3,Q,U,λT' e=>?_⟩;cases e;have p:s.heap.objs.size <= T:=b4;exact⟨qe I.sz p,I.hok.fresh p⟩
theorem xi.leaves (W:xi X E):UA X E:=λI c _ a q=>W.leave I (a.mono c) q
end
noncomputable abbrev Tab.w (Θ:Tab) (E:XK):Tab:={ Θ with x:=E }
def SpX (K:zV) (Θ:Tab) (n:Nat) (f:M.F):Sp:=λvs H Q E=>∃ c ds S,ds.length=n/\zl K c H ds vs/\zh K (Θ.w E) c S H/\zR K (Θ.w E) (zZ K) c H (f ds S) Q
section
variable {P:jF}{w:z7}{K:zV}{mg:Str->Option zO}{base:zg}{Θ:Tab}
theorem iH {st:zo}{k:Nat}{b:M.SM} (F:Fun K x qual st f fd) (n:jG N ps (zv st))
  (d:∀ (c:zO) (A:jf) (outer:List Env) (s:zU) (H:Hp) (E:XK),jE k (A.deeper (y8 qual (zv st) s.heap.objs.size f c)) ->
   xi (yf (CX1 P w) P w K mg base N qual (zv st) f c A outer s H E) E->MSs (yf (CX1 P w) P w K mg base N qual (zv st) f c A outer s H E) (Θ.w E) (yc st) b):z4 P w K mg base (CX1 P w) (k+1) f fd ps (SpX K Θ ps.length (M.fn N.length b)):=by
 obtain⟨C,G,kV,o,pm,I,c,ct,p,rfl,q,i⟩:=F.ex;refine EC q i n (λvs H Q E h=>?_) λA outer s H vs Q E t h=>?_
 ·obtain⟨g,ds,S,m,r,_⟩:=h;rw[<- r.length,m]
 ·obtain⟨g,ds,S,m,r,u,h⟩:=h;refine⟨_,d c A outer s H E t IW,g,_,S,bD r N,u,?_⟩;have h':zR K (Θ.w E) (zZ K) g H (b (ds.map zA++zm (N.length - ds.length) zB) S).out Q:=h;show jD K (Θ.w E) g H (b (ds.map zA++zm (N.length - ds.length) zB) S) _;revert h';cases b (ds.map zA++zm (N.length - ds.length) zB) S with
  | rt a s=>exact λh'=>h'
  | nx a s=>exact λh' j v y z B l _=>h' j v .non z B l rfl
  | bk a s=>exact λh'=>h'.elim
  | ct a s=>exact λh'=>h'.elim
  | exc e a s=>exact λh'=>h'
  | no=>exact λh'=>h'.elim
end
noncomputable abbrev tlV:List zO:=[.type "ValueError",.type "Exception",.type "BaseException",.type "object"]
section
variable {X:Cx}{pins:List (zN×Obj)}{σ:St}{H:Hp}{s:zU}{x:zN}{oe:Obj}{t:Option zN}
theorem Inv.gone0 {j:zg} (I:Inv X pins σ H s) (st:X.stack=X.env::X.outer) (fr:X.env.frame=zA X.env.locals) (Y:TE.Tr s.heap x oe t) (h0:X.s₀.heap.objs.size <= x) (hx:H x=zB) (ht:∀ T,t=zA T->X.s₀.heap.objs.size <= T/\H T=zB)
  (px:∀ p∈X.pn++pins,p.1≠x/\t≠zA p.1)
  (far:∀ b o,s.heap.get? b=zA o->b≠x->t≠zA b->b∉frs (X.env::X.outer)->j.get? b=zA o) (l:∀ b o,s.heap.get? b=zA o->b≠x->t≠zA b->b∈frs (X.env::X.outer)->∃ h,j.get? b=zA { o with slots:=h }):Inv X pins σ H { s with heap:=j }:=by
 have q:=I.stkFree;rw[st] at q;obtain⟨ve,ge,de,_⟩:=Y.at;have A:∀ b o,s.heap.get? b=zA o->(∀ vs,o.data≠.fields vs)->b≠x/\t≠zA b:=λb o d B=>by
  refine⟨λz=>?_,λz=>?_⟩
  ·rw[z,ge] at d;cases d;exact B ve de
  ·rw[z] at Y;obtain⟨_,ot,ts,_,_,_,_,gT,dT,_⟩:=Y;rw[gT] at d;cases d;exact B ts dT
 have fra:∀ b o,s.heap.get? b=zA o->b≠x->t≠zA b->∃ h,j.get? b=zA { o with slots:=h }:=λb o d n1 n2=>by
  by_cases N:b∈frs (X.env::X.outer)
  ·exact l b o d n1 n2 N
  ·exact⟨o.slots,far b o d n1 n2 N⟩
 have L0:X.s₀.heap.objs.size <= X.env.locals:=I.ok.above;have C:∀ b,b∈frs (X.env::X.outer)->b=X.env.locals\/b∈frs X.outer:=λb d=>by
  unfold frs at d;rw[uF,fr] at d;exact jc.mp d
 have f:∀ b o,X.s₀.heap.get? b=zA o->b≠x/\t≠zA b/\b≠X.env.locals:=λb o d=>by
  have:=jM d;exact⟨je (j6 this h0),λz=>Zq _ (j6 this (ht b z).1),je (j6 this L0)⟩
 have tracked:∀ b u,H b=zA u->∀ o,s.heap.get? b=zA o->j.get? b=zA o:=λb u e o d=>far b o d (λz=>by rw[z,hx] at e;cases e) (λz=>by rw[(ht b z).2] at e;cases e) λz=>by rw[q b z] at e;cases e
 have ye:∀ c v,s.heap.IsCell c v->j.IsCell c v:=λc v zq=>by
  obtain⟨o,E,hd⟩:=zq;obtain⟨n1,n2⟩:=A c o E λvs z=>by rw[hd] at z;cases z
  obtain⟨h,e⟩:=fra c o E n1 n2;exact⟨_,e,hd⟩
 refine⟨I.ok,I.os,I.bare,⟨?_,?_,I.base.free,?_,I.base.tups,I.base.frzs,I.base.tbls⟩,?_,?_,I.free,I.freeC,λp hp=>?_,λb u e=>?_,I.len,I.tk⟩
 ·intro b o d n B g;obtain⟨G,J,y3⟩:=f b o d;exact far b o (I.base.keep b o d n B g) G J λz=>(C b z).elim y3 B
 ·intro b o d n N g;obtain⟨G,J,y3⟩:=f b o d;obtain⟨h,e1⟩:=I.base.slot b o d n N g;obtain⟨sl',L⟩:=fra b _ e1 G J;exact⟨sl',L⟩
 ·intro b o d g;obtain⟨G,J,y3⟩:=f b o d;obtain⟨o',e1⟩:=I.base.there b o d g;obtain⟨h,L⟩:=fra b o' e1 G J;exact⟨_,L⟩
 ·obtain⟨m,⟨o,es,ep,E,hd,r⟩,lk⟩:=I.loc;obtain⟨n1,n2⟩:=A _ o E λvs z=>by rw[hd] at z;cases z
  obtain⟨h,L⟩:=fra _ o E n1 n2;refine⟨m,⟨_,es,ep,L,hd,r⟩,λi y v a1 a2 Q=>?_⟩;obtain⟨u,b1,M⟩:=lk i y v a1 a2 Q;refine⟨u,b1,?_⟩;rcases M with M | ⟨M,c,b3,b4⟩
  ·exact .inl M
  ·exact .inr ⟨M,c,b3,ye c _ b4⟩
 ·intro y c e;obtain⟨v,U⟩:=I.cell y c e;exact⟨v,ye c v U⟩
 ·obtain⟨a1,a2,Q,a4,a5⟩:=I.pin p hp;obtain⟨n1,n2⟩:=px p hp;refine⟨far p.1 p.2 a1 n1 n2 λz=>(C p.1 z).elim Q a4,a2,Q,a4,a5⟩
 ·refine (I.hok b u e).stay (λc v hc U=>?_) (λ_ z=>z) λ_ _ z=>z;rcases hc with rfl | hc
  ·exact tracked _ u e v U
  ·exact tracked c _ hc v U
theorem Inv.gone (I:Inv X pins σ H s) (st:X.stack=X.env::X.outer) (fr:X.env.frame=zA X.env.locals) (c:TE.Tr s.heap x oe t) (d:X.s₀.heap.objs.size <= x) (hx:H x=zB) (e:∀ T,t=zA T->X.s₀.heap.objs.size <= T/\H T=zB)
  (f:∀ p∈X.pn++pins,p.1≠x/\t≠zA p.1) (g:TE.u5 (X.env::X.outer) x t oe s.heap h):Inv X pins σ H { s with heap:=h }:=I.gone0 st fr c d hx e f g.far g.fra
end
noncomputable abbrev Cx.xw (X:Cx) (xe:zO->zU->Prop):Cx:={ X with xe:=xe }
section
variable {X:Cx}{pins:List (zN×Obj)}{σ:St}{H:Hp}{s:zU}{xe:zO->zU->Prop}
theorem Inv.xw (I:Inv X pins σ H s):Inv (X.xw xe) pins σ H s :=
 have o:=I.ok
 ⟨⟨o.mod,o.kind,o.glob,o.blt,o.above,o.inj,o.has,o.cab,o.hd,o.frames,o.stk,o.exf,o.bs,o.bsz,o.noex,o.exfs,o.funs,o.frf⟩,I.os,I.bare,I.base,I.loc,I.cell,I.free,I.freeC,I.pin,I.hok,I.len,I.tk⟩
theorem Inv.unxw (I:Inv (X.xw xe) pins σ H s):Inv X pins σ H s :=
 have o:=I.ok
 ⟨⟨o.mod,o.kind,o.glob,o.blt,o.above,o.inj,o.has,o.cab,o.hd,o.frames,o.stk,o.exf,o.bs,o.bsz,o.noex,o.exfs,o.funs,o.frf⟩,I.os,I.bare,I.base,I.loc,I.cell,I.free,I.freeC,I.pin,I.hok,I.len,I.tk⟩
end
def PX (X:Cx) (e:zi) (te:XK->TE):Prop :=
 ∀ (c:List (zN×Obj)) (s:zU) (σ:St) (H:Hp) (Q:VK) (E:XK) (d:zO->zU->Prop),Inv X c σ H s->te E σ H Q ->
  (∀ f s1 v s',Inv X c σ f s1->CX1 X.prog X.w X.stack f s1 E v s'->d v s')->zc (za X.prog X.w) X.A (eval e X.env) (EP X c σ Q) d s
theorem ObR.w {K:zV}{Θ:Tab}{E:XK}{a:zN}:ObR K (Θ.w E) c H a o↔ObR K Θ c H a o:=by cases o<;>exact Iff.rfl
theorem zh.w {K:zV}{E:XK}{S:M.S} (h:zh K Θ c S H):zh K (Θ.w E) c S H:=⟨h.len,h.nd,λi o e=>let ⟨a,x,y⟩:=h.obj i o e;⟨a,x,ObR.w.mpr y⟩⟩
theorem zh.unw {K:zV}{Θ:Tab}{E:XK}{S:M.S} (h:zh K (Θ.w E) c S H):zh K Θ c S H:=⟨h.len,h.nd,λi o e=>let ⟨a,x,y⟩:=h.obj i o e;⟨a,x,ObR.w.mp y⟩⟩
def RdX (K:zV) (Θ:Tab) (m:M.EM):XK->TE:=λE σ H Q=>∃ d c S,jW K d H c σ/\zh K (Θ.w E) d S H/\zR K (Θ.w E) (zZ K) d H (m c S) Q
abbrev MX (X:Cx) (Θ:Tab) (e:zi) (m:M.EM):Prop:=PX X e (RdX X.K Θ m)
@[irreducible] def WX (X:Cx) (Θ:Tab) (e:zi) (m:M.EM):Prop:=MX X Θ e m
theorem yY.gc {K:zV}{S g:M.S} (c:M.clS S.length S=zC) (y:M.D.cl S.length d=zC) (n:zh K Θ m S H) (h:yY K Θ m H d S):yY K Θ m H d (S++g):=by
 intro r z C A p l B ⟨k,ds,N,v,E,s⟩;have f:∀ (i j:Nat) a,(yT S.length)[i]? = zA j->r[j]? = zA a->m[i]? = zA a:=λi j a G I=>by
  obtain⟨hi,e⟩:=yp.mp G;have t:i < S.length:=by simpa using hi
  have J:i=j:=by simpa using e
  subst J;have x:i < m.length:=by rw[n.len];exact t
  have:=Js p (xl x);rw[I] at this;rw[xl x,<- this]
 refine h m z C A (jd _) l ⟨n.len,n.nd,λi o q=>?_⟩ ⟨k,ds,N,v,E,s.imp id λ⟨L,vs,a1,a2,Q,U⟩=>⟨L,vs,a1,a2,Q,?_⟩⟩
 ·have hi:i < S.length:=(yp.mp q).1;obtain⟨a,Y,x2⟩:=B.obj i o (by rw[yQ hi];exact q);refine⟨a,f i i a (by rw[XB hi]) Y,ObR.unren (e:=yT S.length) f (by rw[UB];exact M.wc c q) (by rw[M.O.ren_id (M.KI _)];exact x2)⟩
 ·refine zl.unren (e:=yT S.length) f ?_ (by rw[M.D.rens_id (M.KI _)];exact U);rw[UB];subst v;have u:(M.D.cl S.length (.int k) && M.D.cl.all S.length ds)=zC:=y;exact (j8 _ _ ▸ u).2
section
variable {P:jF}{w:z7}{K:zV}{mg:Str->Option zO}{base:zg}{Θ:Tab}
theorem Oq {st:zo}{k:Nat}{b:M.SM} (F:Fun K x qual st f fd) (t:jG N ps (zv st)) (u:M.Yb ps.length (M.fn N.length b) q)
  (c:∀ (i:zO) (A:jf) (outer:List Env) (s:zU) (H:Hp) (E:XK),jE k (A.deeper (y8 qual (zv st) s.heap.objs.size f i)) ->
   xi (yf (CX1 P w) P w K mg base N qual (zv st) f i A outer s H E) E->MSs (yf (CX1 P w) P w K mg base N qual (zv st) f i A outer s H E) (Θ.w E) (yc st) b):z4 P w K mg base (CX1 P w) (k+1) f fd ps (SpX K Θ ps.length q):=by
 refine (iH (Θ:=Θ) F t c).imp λvs H Q E ⟨v,ds,S,p,r,j,h⟩=>⟨v,ds,S,p,r,j,?_⟩
 rcases u ds S p j.cl (j.len ▸ r.cl) with e | ⟨d,y,z,B,l,m,n,o⟩ | ⟨d,g,l,m,o⟩
 ·rw[e] at h;exact h.elim
 ·rw[l] at h;rw[m];exact zR.gc n o j h
 ·rw[l] at h;rw[m];exact yY.gc j.cl o j h
theorem nP {st:zo}{k:Nat}{b:M.SM} (F:Fun K x qual st f fd) (e:jG N ps (zv st)) (g:M.Yb ps.length (M.fn N.length b) q)
  (c:∀ (d:zO) (A:jf) (outer:List Env) (s:zU) (H:Hp) (E:XK),jE k (A.deeper (y8 qual (zv st) s.heap.objs.size f d)) ->
   xi (yf (CX1 P w) P w K mg base N qual (zv st) f d A outer s H E) E->WSs (yf (CX1 P w) P w K mg base N qual (zv st) f d A outer s H E) (Θ.w E) (yc st) b):z4 P w K mg base (CX1 P w) (k+1) f fd ps (SpX K Θ ps.length q):=by with_unfolding_all exact Oq (x:=x) (qual:=qual) (st:=st) (f:=f) (fd:=fd) (N:=N) (ps:=ps) (k:=k) (b:=b) (q:=q) F e g c
theorem Has.wish {k:Nat}{E:XK} (h:Has P w K mg base x k ps (SpM K Θ n q)) (m:M.jl n f q):Has P w K mg base x k ps (SpM K (Θ.w E) n q):=by
 obtain⟨a,fd,F,z⟩:=h.ex;refine⟨a,fd,F.imp λvs H Q v ⟨o,ds,S,j,r,c,h⟩=>⟨o,ds,S,j,r,c.unw,?_⟩,z⟩;rcases m ds S j c.unw.cl (c.len ▸ r.cl) with e | ⟨d,y,A,B,s,_⟩
 ·rw[e] at h;exact h.elim
 ·rw[s] at h ⊢;intro g t b p l i u;exact h g t b p l i.w u
end
section
variable {X:Cx}{Θ:Tab}{e:zi}{m:M.EM}
theorem FN (h:WX X Θ e m) (i:∀ a b c,¬ Θ.x a b c):WE X Θ e m:=by
 delta WE WX at h ⊢
 exact λd s σ H Q I ⟨j,f,S,st,l,q⟩=>h d s σ H Q Θ.x X.xe I ⟨j,f,S,st,l,q⟩ λn s1 v s' _ g=>by
  obtain⟨_,_,_,_,_,_,_,_,_,_,_,z⟩:=g;exact (i _ _ _ z).elim
end
noncomputable def isS:zO->Bool
 | .str _ _=>zC
 | _=>zP
def YA (K:zV) (N:zN):Bool:=match K.lookup N with
 | some ⟨_,_,.dict es _,_⟩=>es.toList.all λe=>isS e.key
 | _=>zP
noncomputable def xNo (K:zV) (N:zN) (n:Str):Bool:=match j2 K N n with
 | some zB=>zC
 | _=>zP
theorem bp {K:zV} (q:YA K N=zC):∃ m,(∀ h:zg,K.In h->h.Ns N m)/\∀ n r,j2 K N n=zA r->m n=r:=by
 unfold YA at q;split at q
 ·rename_i c d es g o f;refine⟨nsFind es,λh X=>⟨_,es,g,X _ _ f,rfl,λe i=>?_,λ_=>rfl⟩,λn r e=>?_⟩
  ·have:=ja.mp q e (Oo.mpr i);cases j:e.key<;>rw[j] at this<;>first | exact⟨_,_,rfl⟩ | cases this
  ·obtain⟨l⟩:=es;unfold j2 at e;rw[f] at e;dsimp only at e;unfold nsFind findBy;rw[List.find?_toArray];split at e
   ·rename_i p h';rw[h'];exact QA e
   ·rename_i h';rw[h'];split at e
    ·cases e
    ·exact QA e
 ·cases q
theorem er {K:zV} (q:xNo K N n=zC):j2 K N n=zA zB:=by
 unfold xNo at q;split at q
 ·assumption
 ·cases q
noncomputable abbrev Cx.hx (X:Cx) (A:jf):Cx:={ X with A:=A,calm:=false,xe:=λ_ _=>False }
section
variable {X:Cx}{pins:List (zN×Obj)}{σ:St}{H:Hp}{s:zU}{A:jf}
theorem Inv.hx (I:Inv X pins σ H s) (c:A.frames=X.A.frames):Inv (X.hx A) pins σ H s :=
 have o:=I.ok
 ⟨⟨o.mod,o.kind,o.glob,o.blt,o.above,o.inj,o.has,o.cab,(λz=>by cases z),c.trans o.frames,o.stk,o.exf,o.bs,o.bsz,o.noex,o.exfs,o.funs,o.frf⟩,I.os,I.bare,I.base,I.loc,I.cell,I.free,I.freeC,I.pin,I.hok,I.len,I.tk⟩
theorem Inv.unhx (o:X.Ok) (I:Inv (X.hx A) pins σ H s):Inv X pins σ H s:=⟨o,I.os,I.bare,I.base,I.loc,I.cell,I.free,I.freeC,I.pin,I.hok,I.len,I.tk⟩
end
def PSX (X:Cx) (b:zo) (ts:XK->TS):Prop :=
 ∀ (c:List (zN×Obj)) (s:zU) (σ:St) (H:Hp) (D:ZU) (E:XK) (d:zO->zU->Prop),Inv X c σ H s->ts E D σ H ->
  (∀ e s1 v s',Inv X c σ e s1->CX1 X.prog X.w X.stack e s1 E v s'->d v s')->zc (za X.prog X.w) X.A (exec b X.env) (SP X c D) d s
section
variable {X:Cx}{e:zi}{es:List zi}{te:XK->TE}{t:TA}{pos:Pos}
theorem Fb (d:PX X e te):PSX X (.Return (zA e) pos) (λE=>di (te E)):=λc s σ H D E f I h hx =>
 Hr (jC (d c s σ H _ E f I h hx) λv s1 x g i j l=>⟨x,σ,g,i,j,l⟩)
end
theorem qc.w {K:zV}{E:XK} (h:qc K Θ c C N):qc K (Θ.w E) c C N:=⟨h.1,h.2,h.3,h.4,h.5⟩
def Fl (C:zN) (ts:XK->TS) (th:TS):TS:=λD σ H=>ts (λcls _ c=>cls=.ref C/\th D σ c) D σ H
section
variable {X:Cx}{C Y:zN}{mC mY:Str->Option zO}{c:Str}{ts:XK->TS}{th:TS}{b b0:zo}{hb:List zo}{cp hp pos:Pos}
theorem NP (st:X.stack=X.env::X.outer) (fr:X.env.frame=zA X.env.locals) (he:PSX X b ts) (hh:∀ A,A.depth=X.A.depth->A.units=X.A.units->PSs (X.hx A) (b0::hb) th) (two:∀ h:zg,X.K.In h->TE.Two h C Y "ValueError" tlV mC mY) (hg:Gl X c) (hm:X.mg c=zA (.ref C)) (G:(c == ("__debug__" : Str))=zP) :
  PS X (.Try [b] [.ExceptHandler (zA (.Name c cp)) zB (b0::hb) hp] [] [] pos) (Fl C ts th):=by
 intro d s σ H D I h;refine wpAny_Try_except (Dr ?_);refine thn (he d s σ H _ _ _ I h λH1 s1 v s' J L=>?_) λf s1 z=>?_
 ·obtain⟨x,C',od,B,rfl,os,bare,un,hok,tk,⟨oe,t,tr,a2,a3,E,a5,M⟩,hC,q⟩:=L;cases hC;have n:Inv X d σ B s':=J.call' os un hok bare (λb z=>absurd z (by simp)) tk;have y:=n.ok.frames;have hl:=n.stack;rw[st] at y hl;have Q:X.s₀.heap.objs.size <= s1.heap.objs.size:=J.sz;have pl:∀ p∈X.pn++d,p.1 < s1.heap.objs.size:=λp hp=>jM (J.pin p hp).1;refine TE.dj y hl fr tr λm' g=>?_;have r:Inv X d σ B { s' with heap:=m' }:=n.gone st fr tr (qe Q E) a5 (λT z=>⟨qe Q (M T z).1,(M T z).2⟩) (λp hp=>⟨je (j6 (pl p hp) E),λz=>Zq _ (j6 (pl p hp) (M _ z).1)⟩) g;obtain⟨oe3,T,b1,b2,e,b4⟩:=g.exc;have i:s'.heap.objs.size <= T:=b4;have hB:tlV.contains (.type "BaseException")=zC:=by decide
  have hT:B T=zB:=n.hok.fresh i;obtain⟨ve,ge,de,_⟩:=e.at;refine wpAny_handleBy_cons (codeAny_handlers_test (b6 r.ok.kind hg (lN (by rw[r.ok.glob];exact r.mod.glob.keeps r.bk) hm ?_) G)) (by intro q;cases q);obtain⟨nm,qn,N,bs,sn,sub,ab,col,dd,k0,k1,k2,k3,k5,nw,cl,ns⟩:=(two _ r.kIn).lo;refine wpAny_excMatches_sub_self cl ge (b1.trans a2) (by rw[Du,hB,LJ]) (codeAny_handlers_suite ?_);refine TE.Im e λm4 k4 tr4=>?_;have I4:Inv X d σ B { s' with heap:=m4 }:=Inv.gone0 (s:={ s' with heap:=m' }) r st fr e (qe Q E) a5 (λT' z=>by cases z;exact⟨qe n.sz i,hT⟩)
   (λp hp=>⟨je (j6 (pl p hp) E),λz=>by cases z;exact Zq _ (j6 (jM (n.pin p hp).1) i)⟩)
   (λb o hb _ U _=>k4 b o hb λz=>U (by rw[z])) (λb o hb _ U _=>⟨o.slots,k4 b o hb λz=>U (by rw[z])⟩)
  refine ZD (hh (X.A.mark (zA (.ref x))) rfl rfl d _ _ _ D (I4.hx (by rfl)) q) (λfl s7 z=>?_) λ_ _ z=>z.elim;cases fl with
  | next =>
   obtain⟨j,H7,l,m⟩:=z;exact⟨_,_,l.unhx I.ok,m⟩
  | brk =>
   obtain⟨j,H7,l,m⟩:=z;exact⟨_,_,l.unhx I.ok,m⟩
  | cont =>
   obtain⟨j,H7,l,m⟩:=z;exact⟨_,_,l.unhx I.ok,m⟩
  | ret u =>
   obtain⟨v,j,H7,l,r7,m⟩:=z;exact⟨v,_,_,l.unhx I.ok,r7,m⟩
 ·cases f with
  | next=>exact Kt (Kt z)
  | brk=>exact z
  | cont=>exact z
  | ret u=>exact z
end
structure aU (k:Nat) (A:jf):Prop where
 dp:A.depth+3 * k+5 < Ea
 un:A.units+16 * k+200 < Zu
structure XC0 (K:zV) (C Y:zN) (mC mY:Str->Option zO):Prop where
 two:∀ h:zg,K.In h->TE.Two h C Y "ValueError" tlV mC mY
 g1:mC "__getattribute__" = zB
 g2:mY "__getattribute__" = zB
 a1:mC "__getattr__" = zB
 a2:mY "__getattr__" = zB
 n1:mC "__class__" = zB
 n2:mY "__class__" = zB
 hm:aL K C (.type "object")=zA zC
end L2
namespace TE
open PySem PySem.Builtin
def bB (m c:zg) (C:zN):Prop:=(∀ b o,m.get? b=zA o->c.get? b=zA o)/\∃ t,c.get? (m.objs.size+1)=zA { cls:=.ref C,data:=.fields #[.ref t,.none,.none,.none,.bool zP,.none] }
section
variable {pg:jF}{wo:z7}{Ar:jf}{Er:zO->zU->Prop}{s:zU}{en:Env}{C:zN}{B nw ini:String}{tl:List zO}
def XC (m:zg) (C:zN) (tl:List zO) (nw:String):Prop:=∃ nm q N bs d hd f sub g c h i j l n o e,m.get? C=zA (W2 nm q C N bs d hd f sub g c h i j l n o nw)/\OwnTail m tl d/\m.Ns N e/\e "__init__" = zB
theorem iL {h:Array GenState}{i:Drawn}{k:Nat}{j:OsState}{us:List zO}{Q:PySem.Fin->zU->Prop} (F:Ce B nw ini tl) (c:XC m C tl nw) (z:us.length <= z5)
  (q:∀ p,bB m p C->Q (.done (.ret (.ref (m.objs.size+1)))) ⟨p,h,i,k,j⟩):zc (za pg wo) Ar (Builtin.«type.__call__» ⟨.ref C::us,[]⟩) Q Er ⟨m,h,i,k,j⟩:=by
 obtain⟨nm,v,N,bs,l,hd,x,sub,y,t,A,E,G,H,I,J,L,cl,n,ns,u⟩:=c;have f:(jv C::l).contains (.ref C)=zC:=by simp
 have e:=Y4 (C:=C) (us:=us) cl
 repeat first
  | (with_reducible refine wpAny_madeBy_exc cl ?_)
  | (with_reducible refine YK cl ?_)
  | wp_step
 apply codeAny_call_builtin_code (Ex _ F.quiet);apply wpAny_check_new_subT F n cl;refine codeAny_exc_new_subT F n cl ?_ z
 change zc _ _ _ _ _ ⟨laid m C us,h,i,k,j⟩
 unfold isInstance
 repeat first
  | (with_reducible refine YK bQ ?_)
  | (with_reducible refine Hu e ?_;rw[f])
  | wp_step
 have g:=n.keeps (h':=laid m C us) λ_ _=>Y4
 change zc _ _ (dY (.ref C) _) _ _ _
 apply wpAny_typeLookup_tail e (gY ns) g F.mroIs F.init.lookup;rw[u];apply QV;apply zw;apply wpAny_of_eq (F.init.bind _);apply zw;refine vx (eU F.init.plain F.initEntry (wpAny_check_init_subT F g e bQ rfl ?_));have d:=bQ (m:=m) (C:=C) (us:=us);unfold laid bare at d ⊢
 wp_walk
 refine q _ ⟨λb o r=>?_,m.objs.size+2,?_⟩
 ·rw[xM _ _ (QZ (WN (jM r)))];exact j0 _ (Y4 r)
 ·rw[Vg _ (j0 _ d) rfl];simp only[JV];rfl
theorem nc {d:Array GenState}{e:Drawn}{k:Nat}{f:OsState}{us:List zO}{Q:zO->zU->Prop} (F:Ce B nw ini tl) (c:XC m C tl nw) (z:us.length <= z5)
  (q:∀ g,bB m g C->Q (.ref (m.objs.size+1)) ⟨g,d,e,k,f⟩):zc (za pg wo) Ar (call (.ref C) us) Q Er ⟨m,d,e,k,f⟩:=by
 obtain⟨nm,j,N,bs,h,hd,l,sub,n,i,o,p,r,t,u,v,x,cl,_⟩:=id c;have y:=tc_lookup;have A:=tc_bind (.ref C);have ty:Shared.TypeIs ⟨m,d,e,k,f⟩ (.ref C) "type" := ⟨_,cl,rfl⟩
 apply vx;apply pf
 change zc _ _ (callAny (.ref C) _) _ _ _
 repeat any_goals first
  | assumption
  | (with_reducible refine YK cl ?_)
  | wp_step
 constructor
 ·rfl
 ·exact codeAny_call_builtin_at (Ex _ (by decide +kernel)) entry_typeCall (wpAny_check_type_call_sub cl (iL F c z q))
theorem Nt {x:Str}{g pos:Pos} (F:Ce B nw ini tl) (j:Ar.handled=zB) (pl:(qT h (jS es en)).any (·.1)=zP)
  (hx:zc (za pg wo) Ar (eval (.Name x g) en) (λv s1=>v=.ref C/\zc (za pg wo) Ar (evalArgs (.ref C) zC (qT h (jS es en)) []) (λa s2=>a.kw=[]/\a.pos.length <= z5/\XC s2.heap C tl nw /\
   ∀ h',bB s2.heap h' C->IsX h' C/\Er (.ref (s2.heap.objs.size+1)) { s2 with heap:=h' }) Er s1) Er s) :
  zc (za pg wo) Ar (exec (.Raise (zA (.Call (.Name x g) es [] h)) zB pos) en) Q Er s:=by
 rw[arm_exec_Raise];simp only[evalOpt,Option.map];apply zw;apply Xo;apply fj (C:=C) j;apply zw;refine ZD (wpAny_Call_ofName (ZD hx (λv s1 i=>?_) λ_ _ z=>z)) (λv s3 d=>zw (Xo (jx d))) λ_ _ z=>z;rw[i.1];unfold kF;apply zw;apply QV;refine ZD i.2 (λa s2 l=>zw (Xo ?_)) λ_ _ z=>z;obtain⟨ps,M⟩:=a;obtain⟨rfl,z,c,d⟩:=l;obtain⟨m,U,Y,k,sy⟩:=s2;obtain⟨nm,n,N,bs,o,hd,p,sub,q,e,r,u,y,A,E,G,H,cl,I,ns,hi⟩:=c;simp only[pl];apply zw;apply wpAny_keeperOf_exc cl;apply zw;refine nc F ⟨nm,n,N,bs,o,hd,p,sub,q,e,r,u,y,A,E,G,H,cl,I,ns,hi⟩ z λh' me=>?_;obtain⟨J,L⟩:=d h' me;obtain⟨_,t,f⟩:=me;apply zw;apply QV;apply wpAny_point;exact jx ⟨_,rfl,J,⟨zB,_,t,f⟩,L⟩
end
end TE
namespace L2
open PySem PySem.Spec PyProof.Rows
def Y1 (K:zV) (C Y:zN) (ns:List Str):Bool:=match K.lookup C,K.lookup Y with
 | some ⟨cl,_,.cls d,c⟩,zA ⟨_,_,.cls e,_⟩=>cl == .type "type" && d.mro == .ref C::.ref Y::tlV && c == #[c.getD 0 zB,c.getD 1 zB,c.getD 2 zB,c.getD 3 zB,zA (.builtin "ValueError.__new__"),c.getD 5 zB] &&
  !d.hasDel && d.hasDict && YA K d.ns && YA K e.ns && ns.all (xNo K d.ns) && ns.all (xNo K e.ns) && aL K C (.type "object") == zA zC
 | _,_=>zP
theorem lI {K:zV}{ns:List Str} (q:Y1 K C Y ns=zC):∃ d f,(∀ h:zg,K.In h->TE.Two h C Y "ValueError" tlV d f)/\(∀ h:zg,K.In h->("__init__" : Str)∈ns->TE.XC h C tlV "ValueError.__new__")/\(∀ n∈ns,d n=zB/\f n=zB)/\aL K C (.type "object")=zA zC:=by
 unfold Y1 at q;split at q
 ·rename_i cl r B sl E G H l m s;simp only[j8,kq] at q;obtain⟨⟨⟨⟨⟨⟨⟨⟨⟨I,J⟩,L⟩,g⟩,c⟩,M⟩,N⟩,o⟩,p⟩,hm⟩:=q;cases eq_of_beq I;have Q:=eq_of_beq L;have U:=eq_of_beq J;obtain⟨d,t,vC⟩:=bp M;obtain⟨f,u,vY⟩:=bp N;have v:∀ n∈ns,d n=zB:=λn e=>vC n zB (er (ja.mp o n e));have x:∀ n∈ns,f n=zB:=λn e=>vY n zB (er (ja.mp p n e));obtain⟨nm,bs,mro,i,y,hd,z,sub,A,j,del⟩:=B;cases U;cases g;cases c;rw[Q] at m;exact⟨d,f,λh X=>⟨PySem.F.excBase_ValueError.mroIs,⟨nm,y,i,bs,z,sub,A,j,r,_,_,_,_,_,_,X _ _ m,t h X⟩,⟨E,G,H,l,X _ _ s,u h X⟩⟩,
   λh X hi=>⟨nm,y,i,bs,_,zC,z,sub,A,j,r,_,_,_,_,_,d,X _ _ m,.own (X _ _ s) (u h X) (x _ hi) .base,t h X,v _ hi⟩,λn e=>⟨v n e,x n e⟩,eq_of_beq hm⟩
 ·cases q
def iu (C:zN) (E:XK) (t:TA):TS:=λ_ σ H=>t σ H λvs c=>vs.length <= z5/\E (.ref C) zB c
theorem FD {X:Cx}{e:zi}{es:List zi}{m pos:Pos} (W:UA X E) (n:X.calm=zC) (o:∀ h:zg,X.K.In h->TE.XC h C tlV "ValueError.__new__") (u:∀ h:zg,X.K.In h->TE.IsX h C) (v:Gl X x) (hm:X.mg x=zA (.ref C)) (ha:PA X (e::es) t) (g:(x == ("__debug__" : Str))=zP:=by decide)
  (y:jS (e::es) X.env=(zP,eval e X.env)::jS es X.env:=by rfl) (i:(qT j (jS (e::es) X.env)).any (·.1)=zP:=by rfl):PS X (.Raise (zA (.Call (.Name x m) (e::es) [] j)) zB pos) (iu C E t):=by
 intro c s σ H D I h;refine TE.Nt PySem.F.excBase_ValueError (I.ok.hd n) i (VL I v hm ⟨rfl,?_⟩ g);have d:=ha j c s σ H _ I h;rw[y] at d ⊢;refine Es (jC d λus s1 vs A f r B=>?_);obtain⟨G,q⟩:=B;refine⟨rfl,by rw[<- r.length];exact G,o _ f.kIn,λh' me=>?_⟩;have l:Inv X c σ A { s1 with heap:=h',toks:=s1.toks }:=f.kept me.1;obtain⟨_,t',a1⟩:=me;exact⟨u _ l.kIn,W l f.sz (λp J=>jM (f.pin p J).1) ⟨_,zB,⟨_,a1,rfl,rfl⟩,rfl,rfl,Jy _,f.hok.fresh (Jy _),λT z=>by cases z⟩ q⟩
theorem oY {X:Cx}{Θ:Tab}{c:Nat}{e:zi}{es:List zi}{o pos:Pos} (W:UA X E) (p:X.calm=zC) (q:∀ h:zg,X.K.In h->TE.XC h C tlV "ValueError.__new__") (r:∀ h:zg,X.K.In h->TE.IsX h C) (g:Θ c=zA (C,[])) (t:Gl X x) (hm:X.mg x=zA (.ref C)) (ha:MA X (Θ.w E) (e::es) m) (ar:Ji m 1) (i:(x == ("__debug__" : Str))=zP:=by decide)
  (u:qS e=zC:=by rfl) (j:(qT v (jS (e::es) X.env)).any (·.1)=zP:=by rfl):MS X (Θ.w E) (.Raise (zA (.Call (.Name x o) (e::es) [] v)) zB pos) (M.AA c m) :=
 (FD W p q r t hm ha i (yI u) j).up λD σ H f d S st y h=>⟨f,d,S,st,y,by
  have h':jD X.K (Θ.w E) f H ((m d S).stm d λ_ s=>.exc (.tup [.int c]) d s) D:=h;cases hm:m d S with
  | no=>rw[hm] at h';exact h'.elim
  | exc a s=>rw[hm] at h';exact (show yY X.K (Θ.w E) f H a s from h')
  | ok ds z =>
   rw[hm] at h';have A:yY X.K (Θ.w E) f H (.tup [.int c]) z:=h';intro l B vs G I n J;refine⟨?_,A l B C zB G I n ⟨c,[],[],rfl,g,.inl ⟨rfl,rfl,rfl⟩⟩⟩;rw[<- J.length,ar _ _ _ _ hm,Zc];decide⟩
end L2
namespace TE
open PySem PySem.Builtin
section
variable {mo:Q9}{Ar:jf}{Er:zO->zU->Prop}{m:zg}{gs:Array GenState}{dr:Drawn}{k:Nat}{sy:OsState}{C Y x:zN}{o:Obj}
def BH (m:zg) (Y:zN) (d:List zO):Prop:=∃ nm q N bs hd e sub f c g h i j l n p,m.get? Y=zA (W2 nm q Y N bs d hd e sub f c g h i j l n p)
end
end TE
namespace L2
open PySem PySem.Spec PyProof.Rows
def yIn (K:zV) (Y:zN):Bool:=match K.lookup Y with
 | some ⟨cl,_,.cls d,c⟩=>cl == .type "type" && d.mro == .ref Y::tlV && c == #[c.getD 0 zB,c.getD 1 zB,c.getD 2 zB,c.getD 3 zB,zA (.builtin "ValueError.__new__"),c.getD 5 zB] && !d.hasDel
 | _=>zP
theorem Ho {K:zV} (q:yIn K Y=zC) (h:zg) (X:K.In h):TE.BH h Y tlV:=by
 unfold yIn at q;split at q
 ·rename_i cl g i v f;simp only[j8,kq] at q;obtain⟨⟨⟨j,l⟩,m⟩,c⟩:=q;cases eq_of_beq j;have n:=eq_of_beq m;have o:=eq_of_beq l;obtain⟨nm,bs,p,d,r,hd,s,sub,t,e,u⟩:=i;cases o;cases c;rw[n] at f;exact⟨nm,r,d,bs,hd,s,sub,t,e,g,_,_,_,_,_,_,X _ _ f⟩
 ·cases q
def IsG (K:zV) (n:Str) (st:zo):Prop:=∃ f,j2 K jY n=zA (zA (.ref f))/\∃ fd,Fun K n n st f fd
def IsM (K:zV) (C:zN) (n q:Str) (st:zo):Prop:=∃ f,jb K (.ref C) n=zA (zA (.ref f))/\YF K (.ref f)=zC/\∃ fd,Fun K n q st f fd
section
variable {K:zV}{h:zg}{mg:Str->Option zO}{n q x:Str}{st:zo}{f C:zN}{P:jF}{w:z7}{base:zg}{k:Nat}{ps:List Str}{sp:Sp}
theorem isM {g kV pm:zO}{j:Option zN}{d:Array (Option zO)} (a:jb K (.ref C) n=zA (zA (.ref f))) (i:YF K (.ref f)=zC) (l:K.lookup f=zA ⟨g,j,.func (QJ n q (JS st) (yc st) (zv st) .none kV m pm o e ct),d⟩) (c:VY K e q=zC) (kp:yX K (.ref f)=zC):IsM K C n q st:=⟨f,a,i,_,Aq l c kp⟩
theorem isG {g kV pm:zO}{i:Option zN}{d:Array (Option zO)} (a:j2 K jY n=zA (zA (.ref f))) (l:K.lookup f=zA ⟨g,i,.func (QJ n n (JS st) (yc st) (zv st) .none kV j pm m e ct),d⟩) (c:VY K e n=zC) (kp:yX K (.ref f)=zC):IsG K n st:=⟨f,a,_,Aq l c kp⟩
def BA (x q:Str) (st:zo) (ps:List Str) (us:List zO):Prop:=∀ (kV c pm:zO) (e:Option zN) (d ct:zO),aX (QJ x q (JS st) (yc st) (zv st) .none kV c pm e d ct) ⟨us,[]⟩=pure (ps.zip us)
def Bnd (x q:Str) (st:zo) (ps:List Str):Prop:=∀ (kV c pm:zO) (e:Option zN) (d ct:zO) (us:List zO),us.length=ps.length->aX (QJ x q (JS st) (yc st) (zv st) .none kV c pm e d ct) ⟨us,[]⟩=pure (ps.zip us)
noncomputable def wa:Nat->(List zO->Prop)->Prop
 | 0,p=>p []
 | n+1,p=>∀ a,wa n λus=>p (a::us)
theorem dE:∀ (n:Nat) (p:List zO->Prop),wa n p->∀ us:List zO,us.length=n->p us
 | 0,p,h,us,e=>by
  cases us with
  | nil=>exact h
  | cons a us=>cases e
 | n+1,p,h,us,e=>by
  cases us with
  | nil=>cases e
  | cons a us=>exact dE n _ (h a) us (Nat.succ.inj e)
theorem bnd {x q:Str}{st:zo}{ps:List Str} (h:wa ps.length (BA x q st ps)):Bnd x q st ps:=λkV c pm g d ct us e=>dE _ _ h us e kV c pm g d ct
theorem P1 (i:IsG K n st) (X:K.In h) (G:h.Ns jY mg) (b:Bnd n n st ps):∃ f fd,Fun K n n st f fd/\yx K fd ps []/\yX K (.ref f)=zC/\mg n=zA (.ref f):=by
 obtain⟨f,a,fd,F⟩:=i;exact⟨f,fd,F,F.binds b,F.kp,xx X G a⟩
theorem qu (i:IsG K n st) (X:K.In h) (G:h.Ns jY mg) (o:∀ f fd,Fun K n n st f fd->yx K fd ps []->yX K (.ref f)=zC->mg n=zA (.ref f)->z4 P w K mg base CX0 k f fd ps sp) (b:Bnd n n st ps:=by exact bnd (by (repeat intro _);rfl)):Has P w K mg base n k ps sp:=by
 obtain⟨f,fd,F,B,kp,m⟩:=P1 i X G b;exact⟨f,fd,o f fd F B kp m,B,kp,m⟩
theorem yz (i:IsM K C n q st) (o:∀ f fd,Fun K n q st f fd->z4 P w K mg base CX0 k f fd ps sp) (b:Bnd n q st ps:=by exact bnd (by (repeat intro _);rfl)):qk P w K mg base C n k ps sp:=by
 obtain⟨f,a,j,fd,F⟩:=i;exact⟨f,fd,o f fd F,F.binds b,a,j,F.kp⟩
theorem xt (i:IsM K C "__init__" q st) (X:K.In h) (G:h.Ns jY mg) (a:j2 K jY x=zA (zA (.ref C))) (mk:JO K C=zC) (c:yX K (.ref C)=zC) (o:∀ f fd,Fun K "__init__" q st f fd->z4 P w K mg base CX0 k f fd ps sp) (b:Bnd "__init__" q st ps:=by exact bnd (by (repeat intro _);rfl)):QO P w K mg base C x k ps sp:=by
 obtain⟨f,e,j,fd,F⟩:=i;exact⟨f,fd,o f fd F,F.binds b,⟨mk,e,j,c⟩,xx X G a⟩
end
structure u7 (K:zV) (mg:Str->Option zO) (C:zN) (x y:Str):Prop where
 ex:∃ Y mC mY,XC0 K C Y mC mY/\(∀ h:zg,K.In h->TE.XC h C tlV "ValueError.__new__")/\(∀ h:zg,K.In h->TE.BH h Y tlV)/\mg x=zA (.ref C)/\mg y=zA (.ref Y)
noncomputable abbrev xn0:List Str:=["__getattribute__","__getattr__","__class__","__init__"]
theorem lj {K:zV}{h:zg}{mg:Str->Option zO}{C Y:zN}{y:Str} (X:K.In h) (G:h.Ns jY mg) (a:j2 K jY x=zA (zA (.ref C))) (b:j2 K jY y=zA (zA (.ref Y))) (q:Y1 K C Y xn0=zC) (r:yIn K Y=zC):u7 K mg C x y:=by
 obtain⟨f,g,t,p,n,hm⟩:=lI q;have c:=n "__getattribute__" (.head _);have d:=n "__getattr__" (.tail _ (.head _));have e:=n "__class__" (.tail _ (.tail _ (.head _)));exact⟨Y,f,g,⟨t,c.1,c.2,d.1,d.2,e.1,e.2,hm⟩,λh X=>p h X (.tail _ (.tail _ (.tail _ (.head _)))),Ho r,xx X G a,xx X G b⟩
theorem iG {X:Cx}{Θ:Tab}{y:Str}{c:Nat}{e:zi}{es:List zi}{j pos:Pos} (h:u7 X.K X.mg C x y) (W:UA X E) (l:X.calm=zC) (d:Θ c=zA (C,[])) (n:Gl X x) (ha:WA X (Θ.w E) (e::es) m) (ar:Ji m 1) (f:(x == ("__debug__" : Str))=zP:=by decide)
  (o:qS e=zC:=by rfl) (g:(qT p (jS (e::es) X.env)).any (·.1)=zP:=by rfl):WS X (Θ.w E) (.Raise (zA (.Call (.Name x j) (e::es) [] p)) zB pos) (M.AA c m):=by
 delta WA WS at ha ⊢
 obtain⟨Y,J,L,r,s,Q,hm,_⟩:=h.ex;refine oY W l s (λh X=>?_) d n hm ha ar f o g;obtain⟨nm,q,N,bs,t,sub,u,i,v,z,A,B,G,H,I,cl,_⟩:=(r.two h X).lo;exact⟨nm,q,N,bs,_,zC,t,sub,u,i,v,z,A,B,G,H,I,cl,by simp⟩
section
variable {X:Cx}{a b o e:zi}{jo es:List zi}{ta:XK->TE}{tb to:TE}{t:TA}{pos apos pos':Pos}{C f:zN}{m:Str}{k j:Nat}{fd:Jr}{ps:List Str}{sp:Sp}
theorem NA (ha:PX X a ta) (p:∀ xe,PE (X.xw xe) (.BoolOp .And (b::jo) pos) tb):PX X (.BoolOp .And (a::b::jo) pos) (λE=>Dk (ta E) tb):=by
 intro d s σ H Q E i I h hx;refine BoolOp_and (jC (ha d s σ H _ E i I h hx) λv s1 x l n q g=>?_);obtain⟨c,rfl,g⟩:=g;cases q;refine Jn ?_;cases c with
 | true=>exact jC (p i d s1 σ l Q n.xw g) λv s2 y r u z A=>⟨y,r,u.unxw,z,A⟩
 | false=>exact⟨.bl zP,l,n,rfl,g⟩
theorem mh (ha:PX X a ta) (hm:Jt .Is (.Constant .none j pos')=zP):PX X (.Compare a [.Is] [.Constant .none j pos'] pos) (λE=>xr (ta E)):=by
 intro c s σ H Q E d I h hx;refine PD (jC (ha c s σ H _ E d I h hx) λv s1 x g i l n=>?_) hm;exact wm (is_none_gen ⟨.bl _,g,i,by rw[l.none_iff];rfl,n⟩)
theorem nW (U:∀ xe,PE (X.xw xe) o to) (c:Cls X.K C) (hm:KP X.K C m f) (F:z4 X.prog X.w X.K X.mg X.base (CX1 X.prog X.w) k f fd ps sp) (Y:jE k X.A) (hb:yx X.K fd ps []) (ha:∀ xe,PA (X.xw xe) (e::es) t)
  (v:jS (e::es) X.env=(zP,eval e X.env)::jS es X.env:=by rfl) (y:(qT pos (jS es X.env)).any (·.1)=zP:=by rfl)
  (ht:eval (.Call (.Attribute o m apos) (e::es) [] pos) X.env=(do
   let L <- eval o X.env
   Qh apos.atName
   let (f,first) <- holding [L] (XO L m pl)
   kF pos f first (qT pos (jS (e::es) X.env)) (Jw pos (J5 [] X.env))):=by rfl) :
  PX X (.Call (.Attribute o m apos) (e::es) [] pos) (λE=>wy C m sp [] E to t):=by
 intro d s σ H Q E z I h hx;refine BS (pl:=pl) (jC (U z d s σ H _ I.xw h) λu s1 x H1 M rx ⟨a,dx,fs,ex,ea,l,q⟩=>?_) ht;subst ex;obtain rfl:u=jv a:=rx;refine Wt (X:=X.xw z) M ea c hm l ?_;refine AK (first:=[.ref a]) (h₀:=X.base) I.ok.mod.kin hm.kp (jC (ha z pos d s1 σ H1 _ M q) λus s2 vs B G r i=>?_) v y;have g:=G.unxw;refine⟨g.kIn,?_⟩;have hl:(jv a::us).length=ps.length:=by
  have N:=F.len _ _ _ _ i;rw[qo] at N;rw[<- N];simp[r.length]
 have i:sp (.ref a::(vs++[])) B Q E:=i;rw[qo] at i;refine vx (Xf (EN (n:=1) g.tk (F.run X.A X.stack s2 B ⟨.ref a::us,[]⟩ (.ref a::us) (.ref a::vs) Q E Y g.env0 (.inl g.tk) (by have:=hb s2 (.ref a::us) g.kIn (by rw[qo];exact hl);rwa [qo] at this) (.cons rfl r) i)) λr s' ⟨J,p⟩=>?_);cases r with
 | error e=>exact hx B s2 e s' g p
 | ok fl =>
  cases fl with
  | ret u=>exact g.after p J
  | next=>exact jZ p
  | brk=>exact jZ p
  | cont=>exact jZ p
end
theorem qk.wish {P:jF}{w:z7}{K:zV}{mg:Str->Option zO}{base:zg}{k:Nat}{E:XK} (h:qk P w K mg base C x k ps (SpM K Θ n q)) (m:M.jl n f q):qk P w K mg base C x k ps (SpM K (Θ.w E) n q):=by
 obtain⟨a,fd,F,z⟩:=h.ex;refine⟨a,fd,F.imp λvs H Q v ⟨o,ds,S,j,r,c,h⟩=>⟨o,ds,S,j,r,c.unw,?_⟩,z⟩;rcases m ds S j c.unw.cl (c.len ▸ r.cl) with e | ⟨d,y,A,B,s,_⟩
 ·rw[e] at h;exact h.elim
 ·rw[s] at h ⊢;intro g t b p l i u;exact h g t b p l i.w u
theorem Oy {k:Nat} (c:aU k A):A.units+1 < Zu:=by have:=c.un;lia
theorem pA {X:Cx}{k:Nat} (d:aU k X.A):OpR X (jt .NotIn) (Xx X.K zC):=by
 refine OpR.or cz ?_;intro c s σ H x y v u Q I rx ry h;obtain⟨a,o,rfl,g,q⟩:=h;cases ry;exact b5 (Oy d) I g rx λs' e=>⟨.bl (!o.isSome),H,e,rfl,by rw[V9] at q;exact q⟩
structure aP (P:jF) (w:z7) (K:zV) (mg:Str->Option zO) (base:zg) (C:zN) (m:Str) (k:Nat) (ps:List Str) (sp:Sp):Prop where
 ex:∃ f fd,z4 P w K mg base (CX1 P w) k f fd ps sp/\yx K fd ps []/\KP K C m f
theorem gJ {K:zV}{mg:Str->Option zO}{st:zo}{P:jF}{w:z7}{base:zg}{k:Nat}{sp:Sp} (i:IsM K C n q st) (o:∀ f fd,Fun K n q st f fd->z4 P w K mg base (CX1 P w) k f fd ps sp) (b:Bnd n q st ps:=by exact bnd (by (repeat intro _);rfl)):aP P w K mg base C n k ps sp:=by
 obtain⟨f,a,j,fd,F⟩:=i;exact⟨f,fd,o f fd F,F.binds b,a,j,F.kp⟩
section
variable {X:Cx}{Θ:Tab}{a b o e:zi}{jo es:List zi}{ma mb mo:M.EM}{m:M.AM}{f:M.F}{pos apos pos':Pos}{C:zN}{N ps:List Str}{name:Str}{c k kk n j:Nat}
theorem lC (ha:WX X Θ a ma):WX X Θ (.Compare a [.Is] [.Constant .none j pos'] pos) (M.UN ma):=by
 delta WX at ha ⊢
 intro d s σ H Q E l I ⟨p,g,S,st,q,h⟩ hx;refine mh ha (BX _ (by decide) (by decide)) d s σ H Q E l I ⟨p,g,S,st,q,zR.bind h λr u x v y z A i rx t=>t.here i (by
  show V.bl _=V.bl _;rw[WV rx])⟩ hx
theorem Mr (ha:WX X Θ a ma) (q:∀ xe E,WE (X.xw xe) (Θ.w E) (.BoolOp .And (b::jo) pos) mb):WX X Θ (.BoolOp .And (a::b::jo) pos) (M.Q3 ma mb):=by
 delta WE WX at ha q ⊢
 intro g s σ H Q E t I ⟨i,d,S,st,u,h⟩ hx;refine NA (tb:=λσ H Q=>∃ i d S,jW X.K i H d σ/\zh X.K (Θ.w E) i S H/\zR X.K (Θ.w E) (zZ X.K) i H (mb d S) Q) ha (λxe=>q xe E) g s σ H Q E t I ⟨i,d,S,st,u,zR.bind h λp B x G v y z l rx A=>?_⟩ hx;obtain⟨k,e,r⟩:=Wq rx A;refine⟨k,e,?_⟩;cases k with
 | true=>exact JX ⟨p,d,v,st.mono y z,l,r⟩
 | false=>exact Jm (zR.here (b:=V.bl zP) r l rfl)
theorem dy (y:qc X.K Θ c C N) (h:aP X.prog X.w X.K X.mg X.base C name k ps (SpX X.K Θ (n+1) f)) (hr:jE kk X.A) (hk:k <= kk) (hm:name∉N) (ho:∀ xe E,WE (X.xw xe) (Θ.w E) o mo) (ha:∀ xe E,WA (X.xw xe) (Θ.w E) (e::es) m) (ar:Ji m n)
  (he:qS e=zC:=by rfl) (L:es.all qS=zC:=by rfl)
  (ht:eval (.Call (.Attribute o name apos) (e::es) [] pos) X.env=(do
   let ov <- eval o X.env
   Qh apos.atName
   let (f,first) <- holding [ov] (XO ov name pl)
   kF pos f first (qT pos (jS (e::es) X.env)) (Jw pos (J5 [] X.env))):=by rfl):WX X Θ (.Call (.Attribute o name apos) (e::es) [] pos) (M.jg c f mo m):=by
 delta WA WE WX at ho ha ⊢
 obtain⟨g,fd,F,b,mt⟩:=h.ex;intro B s σ H Q E XE I ⟨r,d,S,st,rp,h⟩ hx;have U:qc X.K (Θ.w E) c C N:=⟨y.tab,y.cl,y.no,y.few,y.nd⟩
 refine nW (to:=λσ H Q=>∃ r d S,jW X.K r H d σ/\zh X.K (Θ.w E) r S H/\zR X.K (Θ.w E) (zZ X.K) r H (mo d S) Q) (t:=λσ H Q=>∃ r d S,jW X.K r H d σ/\zh X.K (Θ.w E) r S H/\zR X.K (Θ.w E) (zl X.K) r H (m d S) Q) (λxe=>ho xe E) y.cl mt F (hr.mono hk) b (λxe=>ha xe E) (yI he) (xc L) ht B s σ H Q E XE I ⟨r,d,S,st,rp,zR.bind h λu Y x X1 v p1 l1 G rx h1=>?_⟩ hx;cases x with
 | ref p =>
  have i:zR X.K (Θ.w E) (zZ X.K) u Y (match v[p]? with | some (.ins z _)=>if z=c then (m d v).bind λxs s=>f (.ref p::xs) s else .no | _=>.no) Q:=h1;cases q:v[p]? with
  | none=>rw[q] at i;exact i.elim
  | some ob =>
   rw[q] at i;cases ob with
   | ins z fs =>
    by_cases hc:z=c
    ·subst hc;have l:zR X.K (Θ.w E) (zZ X.K) u Y (if z=z then (m d v).bind λxs s=>f (.ref p::xs) s else .no) Q:=i;rw[if_pos rfl] at l;obtain⟨a,rfl,ha'⟩:=id rx;obtain⟨dx,gs,e1,e2⟩:=Ko U G ha' q;refine⟨a,dx,gs,rfl,e1,wQ e2 hm,u,d,v,st.mono p1 l1,G,?_⟩;cases J:m d v with
     | no=>rw[J] at l;exact l.elim
     | exc a s=>rw[J] at l;exact l
     | ok ds S2 =>
      rw[J] at l;intro ρ2 H2 vs p2 l2 rp2 r2;rw[qo];exact⟨ρ2,.ref p::ds,S2,by rw[qL,ar _ _ _ _ J],⟨_,_,rfl,rx.mono p2 l2,r2⟩,rp2,zR.weak l p2 l2⟩
    ·have l:zR X.K (Θ.w E) (zZ X.K) u Y (if z=c then (m d v).bind λxs s=>f (.ref p::xs) s else .no) Q:=i;rw[if_neg hc] at l;exact l.elim
   | lst _=>exact i.elim
   | dct _=>exact i.elim
   | fdc _=>exact i.elim
   | dtt _=>exact i.elim
   | ftt _=>exact i.elim
 | _=>exact h1.elim
end
section
variable {X:Cx}{Θ:Tab}{C:zN}{c y:Str}{cn kk:Nat}{e:zi}{m:M.EM}{hm:M.SM}{b0:zo}{hb:List zo}{ep cp hp pos:Pos}
theorem oH (v:jE kk X.A) (I:u7 X.K X.mg C c y) (st:X.stack=X.env::X.outer) (fr:X.env.frame=zA X.env.locals) (x:WX X Θ e m) (B:∀ A,aU kk A->WSs (X.hx A) Θ (b0::hb) hm) (o:Θ cn=zA (C,[])) (J:Gl X c) (q:(c == ("__debug__" : Str))=zP:=by decide) :
  WS X Θ (.Try [.Return (zA e) ep] [.ExceptHandler (zA (.Name c cp)) zB (b0::hb) hp] [] [] pos) (M.ka cn m hm):=by
 delta WS WSs WX at x B ⊢
 obtain⟨Y,mC,mY,L,pc,Q,s,_⟩:=I.ex;refine (NP (th:=RdS X.K Θ hm) st fr (Fb x) (λA U eu=>B A ⟨by rw[U];exact v.dp,by rw[eu];exact v.un⟩) L.two J s q).imp λD σ H ⟨t,f,S,E,rp,h⟩=>⟨t,f,S,E,rp.w,?_⟩
 unfold M.ka at h;cases u:m f S with
 | no=>rw[u] at h;exact h.elim
 | ok d i =>
  rw[u] at h;intro g G b p l r rd;exact h g G b p l r.unw rd
 | exc a i =>
  rw[u] at h;show yY X.K _ t H a i;intro g G C' od p l r ⟨k,ds,N,ea,j,alt⟩;subst ea;have n:jD X.K Θ t H (if (k:Int)=cn then hm f i else .no) D:=h;by_cases z:(k:Int)=cn
  ·rw[if_pos z] at n;obtain rfl:k=cn:=Int.ofNat.inj z;have j:Θ k=zA (C',N):=j;rw[o] at j;cases j;exact⟨rfl,g,f,i,E.mono p l,r.unw,jD.weak n p l⟩
  ·rw[if_neg z] at n;exact n.elim
end
def Fd (te:TE):TI:=λσ H R=>te σ H λv c=>∃ a o kvs,v=.ref a/\c a=zA (.frz o (.dK kvs))/\R (Iti a o kvs) c
theorem pG {X:Cx}{c d:Pos}{j:List zi}{B:_}{C:Pos} (E:PE X e te)
  (f:JI e "items" X.env (eval e X.env)=eval e X.env:=by rfl) (i:(c.endLine == d.line)=zC:=by rfl):PI X (.Tuple j B C) (.Call (.Attribute e "items" c) [] [] d) (Fd te):=by
 intro l s σ H R I h;refine GC f i (jC (E l s σ H _ I h) λv s1 x u m G J=>?_);obtain⟨a,o,kvs,rfl,ha,q⟩:=J;obtain rfl:v=jv a:=G;obtain⟨go,z,hd,vs,rel,N,es,n,y,ex,r⟩:=(show jz X.prog X.w u s1.heap a (.frz o (.dK kvs)) from m.hok a _ ha)
 rw[go] at y;cases y;have A:∀ h:zg,h.get? a=zA o->h.DictAt (jm X.prog X.w) a vs n:=λh q=>⟨o,es,q,ex,r⟩
 have t:s1.heap.DictOf (jm X.prog X.w) a vs:=⟨o,es,n,go,ex,r⟩
 refine⟨"dict","dict.items",kY,Lc,PySem.F.type_dict_items,t.typeIs,λb e=>by cases e;exact⟨o,go,ex.2.1⟩,ak rfl (Gm ?_)⟩;refine Xn Lc t.typeIs PySem.F.entry_dict_items (PySem.F.args_dict_items_1 _) (meets_dict_items (jm X.prog X.w) a hd) ⟨⟨vs,t⟩,?_⟩;have up:∀ {h:zg}{o p b},h.get? b=zA o->(h.push p).get? b=zA o:=λe=>j0 _ e;refine wpAny_pyIter_items ⟨_,yV _ rfl,rfl,rfl⟩ (A _ (up go)) ?_;have n1:(s1.heap.push { cls:=.type "dict_items",data:=.fields #[.ref a] }).objs.size=s1.heap.objs.size+1:=JV ..;refine⟨s1.heap.objs.size+1,[s1.heap.objs.size+1],_,_,u,by rw[<- n1],m.kept (t':=s1.toks) (λb ob e=>up (up e)),Gc a _ o kvs vs n rel A,⟨qx,qx,?_⟩,λb L=>?_,q⟩
 ·have g:=yV (h:=s1.heap.push { cls:=.type "dict_items",data:=.fields #[.ref a] }) (o:={ cls:=.type "dict_itemiterator",data:=.fields #[.none,.bool zP,.ref a,.int 0 0,.int vs.length 0,.int n 0,.none,.none] }) rfl;rw[n1] at g;exact g
 ·have M:b=s1.heap.objs.size+1:=by simpa using L
  subst M;exact m.fpOk (Jy _) (m.hok.fresh (Jy _))
section
variable {X:Cx}{Θ:Tab}
theorem lR {g j:Pos}{u:List zi}{G:_}{I:Pos} (E:WE X Θ e m)
  (n:JI e "items" X.env (eval e X.env)=eval e X.env:=by rfl) (r:(g.endLine == j.line)=zC:=by rfl):WI X Θ (.Tuple u G I) (.Call (.Attribute e "items" g) [] [] j) (M.Xj m):=by
 delta WE WI at E ⊢
 exact (pG E n r).imp λσ H R ⟨A,t,S,st,J,h⟩=>⟨A,t,S,st,J,by
  have h':zR X.K Θ _ A H (((m t S).bind λx s=>match x with
   | .ref i=>(match s[i]? with | some (.fdc kvs)=>M.R.ok (kvs.map λp:M.D×M.D=>M.D.tup [p.1,p.2],([]:M.Gd)) s | _=>.no)
   | _=>.no).bind λp s=>if M.z8 p.2 s then .ok p s else .no) R:=h
  clear h;cases hm:m t S with
  | no=>rw[hm] at h';exact h'.elim
  | exc a s=>rw[hm] at h';exact h'
  | ok d B =>
   rw[hm] at h';intro C L v p l y N;cases d with
   | ref i =>
    obtain⟨a,rfl,hi⟩:=N;have f:zR X.K Θ _ A H ((match B[i]? with | some (.fdc kvs)=>M.R.ok (kvs.map λp:M.D×M.D=>M.D.tup [p.1,p.2],([]:M.Gd)) B | _=>.no).bind λp s=>if M.z8 p.2 s then .ok p s else .no) R:=h';cases q:B[i]? with
    | none=>rw[q] at f;exact f.elim
    | some ob =>
     rw[q] at f;cases ob with
     | fdc kvs =>
      obtain⟨b,z,o,ks,ha,Q⟩:=y.obj i _ q;rw[hi] at z;cases z;exact⟨a,o,ks,rfl,ha,f C L _ p l y (mV ha Q)⟩
     | lst xs=>exact f.elim
     | dct _=>exact f.elim
     | dtt _=>exact f.elim
     | ftt _=>exact f.elim
     | ins c fs=>exact f.elim
   | _=>exact h'.elim⟩
theorem LN {stm:zo} (t:WS X Θ stm m):WS X Θ stm (M.Yy c f i m):=by
 delta WS at t ⊢
 intro j s σ H D I ⟨l,d,S,st,u,h⟩;have h':jD X.K Θ l H (match d[i]? with
  | some (zA x)=>(M.Xi c f x S).stm d λy s=>(match y with
   | .ref p=>(match s[p]? with
    | some (.dct kvs)=>M.thaw p kvs (m d (s.set p (.fdc kvs)))
    | _=>.no)
   | _=>.no)
  | _=>.no) D:=h
 clear h;have go:∀ p kvs,S[p]? = zA (.dct kvs)->jD X.K Θ l H (M.thaw p kvs (m d (S.set p (.fdc kvs)))) D->zc _ _ _ _ _ s:=λp kvs q h'=>by
  obtain⟨a,hi,ks,ha,v⟩:=u.obj p _ q;obtain⟨o,B,E,A,G,go,C⟩:=I.freeze ha;have n:=I.dict_base rfl ha;have le:Le H (upd H a (.frz o (.dK ks))):=Le.put (Qz ha) _;have r:=Paired.mapP v λx y z=>(⟨z.1,z.2.mono (jd _) le⟩:qz x.1 y.1/\zZ X.K l (upd H a (.frz o (.dK ks))) x.2 y.2)
  exact ck t j s σ _ D C ⟨l,d,S.set p (.fdc kvs),st.mono (jd _) le,u.put (o:=.fdc kvs) hi (Qz ha) ⟨o,ks,qD,r⟩,Ci hi ha n v h'⟩
 split at h'
 ·rename_i x e;unfold M.Xi at h';split at h'
  ·rename_i p;split at h'
   ·split at h'
    ·split at h'
     ·have g:=h';simp only[M.jy] at g;split at g
      ·split at g
       ·rename_i q;exact go _ _ q g
       ·exact g.elim
      ·exact g.elim
     ·exact h'.elim
    ·exact h'.elim
   ·exact h'.elim
  ·exact h'.elim
 ·exact h'.elim
theorem Dt {k o:Nat}{pos p:Pos} (I:qc X.K Θ c C N) (h:QO X.prog X.w X.K X.mg X.base C x k ps (SpM X.K Θ 1 f)) (J:jE L X.A) (U:k+1 <= L) (Y:N.length=o) (hg:Gl X x) (hx:ZV CX0 X E0:=by exact Xz) (s:(x == ("__debug__" : Str))=zP:=by decide) :
  WE X Θ (.Call (.Name x p) [] [] pos) (M.Zx c o f M.zS):=by
 delta WE at ⊢
 obtain⟨g,fd,F,b,mk,t⟩:=h.ex;refine (hD mk F (J.mono U) hg t b .nil hx s).up λσ H Q l σ' S st G h=>?_;have h':zR X.K Θ (zZ X.K) l H ((f [.ref S.length] (S++[.ins c (zm o zB)])).bind λd s'=>if d=.non then .ok (.ref S.length) s' else .no) Q:=h;intro y j hy m u;have l2:Le H (upd H j (.own y)):=Le.new m _;have z:=G.aside m (.own y);have n:upd H j (.own y) y=zB:=by rw[jA (yJ u)];exact hy
 have l3:Le (upd H j (.own y)) (upd (upd H j (.own y)) y (.ins C j [])):=Le.new n _;have pre:l <+: l++[y]:=kU _ _;have B:zh X.K Θ (l++[y]) (S++[.ins c (zm o zB)]) (upd (upd H j (.own y)) y (.ins C j [])):=by
  refine z.alloc n ⟨C,j,[],N,qD,I.tab,by rw[w4];exact Y.symm,Ud,(λf hf=>nomatch hf),λi f d _ q=>?_⟩;rw[KS] at q;split at q<;>cases q
 have e:(l++[y])[S.length]? = zA y:=by rw[<- G.len];simp
 refine⟨l++[y],[.ref S.length],_,rfl,⟨_,_,rfl,⟨y,rfl,e⟩,rfl⟩,B,?_⟩;refine zR.bind (zR.weak h' pre (l2.trans l3)) λρ4 H4 d v S4 p4 l4 E rv r=>?_;by_cases hd:d=.non
 ·subst hd;rw[if_pos rfl] at r;cases rv;exact⟨rfl,zR.here r E ⟨y,rfl,Js p4 e⟩⟩
 ·rw[if_neg hd] at r;exact r.elim
def Bt:V->List V->Hp->VK->Prop:=λx vs H Q=>∃ a kvs k y,x=.ref a/\vs=[kV k,y]/\H a=zA (.dK kvs)/\((∃ v,qP kvs k=zA v/\Q v (upd H a (.dK (Z9 kvs k))))\/(qP kvs k=zB/\Q y H))
theorem NO {k:Nat} (_hr:jE k X.A):MtM X "dict.pop" Bt:=by
 intro g s σ H x vs v us Q I rx l h;obtain⟨a,kvs,k,y,rfl,rfl,i,h⟩:=h;cases rx;obtain⟨d,c,rfl,j,m⟩:∃ d c,us=[d,c]/\zx (kV k) d/\zx y c:=by
  cases l with
  | cons n o =>
   cases o with
   | cons p r=>cases r;exact⟨_,_,rfl,n,p⟩
 rcases h with ⟨w,e,q⟩ | ⟨e,q⟩
 ·exact Bj (more:=[c]) I i j e (.inr ⟨_,rfl⟩) λu s' f t=>⟨w,_,f,t,q⟩
 ·exact IP I i j e λs' f=>⟨y,H,f,m,q⟩
theorem Ls {K:zV}:AdM K Θ M.U5 Bt:=by
 intro i H S x xs X C Q f rx g h;unfold M.U5 at h;split at h
 ·rename_i p y m;obtain⟨Y,r,rfl,ry,Z,j,rfl,t,rfl⟩:=g;split at h
  ·rename_i kvs q;obtain⟨a,rfl,l⟩:=rx;split at h
   ·rename_i u;obtain⟨b,n,ks,c,r⟩:=f.obj _ _ q;rw[l] at n;cases n;obtain⟨k,o,rfl⟩:=JK u ry;have e:=DR.val r o;cases s:M.jJ y kvs with
    | none =>
     rw[s] at e h;exact⟨a,ks,k,Z,rfl,rfl,c,.inr ⟨e,zR.here h f t⟩⟩
    | some d =>
     rw[s] at e h;obtain⟨v,A,B⟩:=e;have le:=Le.put (Qz c) (.dK (Z9 ks k));refine⟨a,ks,k,Z,rfl,rfl,c,.inl ⟨v,A,?_⟩⟩;have j:DR K i (upd H a (.dK (Z9 ks k))) kvs ks:=Paired.mapP r λa b z=>⟨z.1,z.2.mono (jd _) le⟩
     exact h i _ _ (jd _) le (f.put l (Qz c) ⟨_,qD,DR.drop j o⟩) (B.mono (jd _) le)
   ·exact h.elim
  ·exact h.elim
 ·exact h.elim
end
end L2
set_option maxHeartbeats 4000000
namespace M
noncomputable section
def ug:SM :=
  (z9 (Z6 1 (iE (eM .str vy (eM .str DZ (zD 0) (zQ (eC (.str [10])) (zQ (eC (.str [32])) zS))) (zQ (eC (.str [32])) zS))) (jL 1) (jh cNe (zD 1) (eC (.str []))) (zD 1)))
def dC:F:=fn 1 ug
abbrev aC:F:=dC
def YT:SM :=
  (jP 1 (Zi zS))
def UC:SM :=
  (jP 2 (Zi zS))
def uM:SM :=
  (QE (C3 1 (eM .str vy (zD 0) (zQ (eC (.str [10])) zS))) (Zo (qq (jL 3) (qq (jL 4) Zf)))
  (ze (jP 5 (zp aC (zQ (zD 4) zS)))
  (ze (sIf (tOr (jh cEq (zp yN (zQ (zD 5) zS)) (eC (.int 0))) (yF (eM .str WK (zD 4) (zQ (eC (.str [35])) zS))))
  DU
  jT)
  (sIf (jh cEq (eOp jN (zD 5) (eC (.int 0))) (eC (.str [109,111,114,101])))
  QU
  QU))))
def Ys:SM :=
  (z9 (jq (zQ (zD 1) (zQ (zD 2) zS))))
def Ua:SM:=(ze YT (ze UC (ze uM Ys)))
def Ei:F:=fn 6 Ua
abbrev Ae:F:=Ei
def uz:SM :=
  (z9 (eOr (Va cLe cLe (eC (.str [32])) (zD 0) (eC (.str [36]))) (Va cLe cLe (eC (.str [38])) (zD 0) (eC (.str [126])))))
def cW:F:=fn 1 uz
noncomputable def Ai (x:T):Bool:=(!decide (x < [32]) && !decide ([36] < x)) || (!decide (x < [38]) && !decide ([126] < x))
def KQ:F
 | [.str x],s=>.ok (.bl (Ai x)) s
 | _,_=>.no
theorem OG:jl 1 cW KQ:=jl.pure λds S d c e=>by
 match ds,d with
 | [a],_ =>
  cases a with
  | str x=>exact .inr ⟨_,[],rfl,by simp[cW,uz,Ai],rfl⟩
  | _=>exact .inl rfl
def vB:SM :=
  (ze (sIf (tOr (q0 (yF (zp Qk (zQ (zD 0) (zQ (eC (.ty .str)) zS))))) (jh cGt (zp yN (zQ (zD 0) zS)) (eC (.int 900))))
  (z9 (eC (.bl zP)))
  jT)
  (z9 (Xm xQ 1 (iE (zD 0)) (jL 1) qE (eOr (Zv cEq (zD 1) (eC (.str [10]))) (zp KQ (zQ (zD 1) zS))))))
def WD:F:=fn 1 vB
def Vb (c:Nat):Bool:=decide (c=10) || Ai [c]
def Ja (x:T):Bool:=decide (x.length <= 900) && x.all Vb
def Jq:F
 | [.str x],s=>if x.length <= SZ then .ok (.bl (Ja x)) s else .no
 | _,_=>.no
theorem ia:jl 1 WD Jq:=jl.pure λds S i c j=>by
 match ds,i with
 | [a],_ =>
  cases a with
  | str x =>
   by_cases f:x.length <= SZ
   ·refine .inr ⟨_,[],by simp[Jq,f];rfl,?_,rfl⟩;by_cases g:x.length <= 900
    ·have d:¬ (900:Int) < (x.length:Int):=by lia
     have e:yd 1 (iE (zD 0)) (jL 1) qE (eOr (Zv cEq (zD 1) (eC (.str [10]))) (zp KQ (zQ (zD 1) zS))) [zA (.str x)] S=.ok (x.map λc=>.bl (Vb c)) S :=
      bh _ (by simp[f]) f λc _=>by by_cases h:c=10<;>simp[KQ,Vb,h]
     simp[WD,vB,f,d,e,all_map,Ja,g]
    ·have d:(900:Int) < (x.length:Int):=by lia
     simp[WD,vB,f,d,Ja,g]
   ·exact .inl (by simp[Jq,f])
  | _=>exact .inl rfl
def Yw:SM :=
  (ze (sIf (q0 (yF (zp Jq (zQ (zD 0) zS))))
  QU
  jT)
  (z9 (zp Ae (zQ (zD 0) zS))))
def Bv:F:=fn 1 Yw
abbrev wz:F:=Bv
def UR:SM :=
  (ze (sIf (tOr (q0 (yF (zp Qk (zQ (zD 0) (zQ (eC (.ty .int)) zS))))) (yF (zp Qk (zQ (zD 0) (zQ (eC (.ty .bool)) zS)))))
  (z9 (eC (.bl zP)))
  jT)
  (z9 (Va cLe cLe (eC (.int 0)) (zD 0) (eC (.int 1000)))))
def DW:F:=fn 1 UR
abbrev Wd:F:=DW
def uP:SM :=
  (ze (sIf (q0 (yF (zp Wd (zQ (zD 1) zS))))
  QU
  jT)
  (ze (j4 5 0 (zD 0) (zD 1))
  (j4 5 1 (zD 0) ZO)))
def DD:F:=fn 2 uP
abbrev WQ:F:=DD
def Uh:SM :=
  (ze (j4 7 0 (zD 0) (Zx 5 2 WQ (zQ (zD 1) zS)))
  (j4 7 1 (zD 0) (Zi zS)))
def E3:F:=fn 2 Uh
abbrev U0:F:=E3
def uw:SM :=
  (j4 6 0 (zD 0) ZO)
def cQ:F:=fn 1 uw
abbrev W6:F:=cQ
def YC:SM :=
  (j4 10 0 (zD 0) (zp wz (zQ (zD 1) zS)))
def Um:SM :=
  (j4 10 1 (zD 0) (Zx 7 2 U0 (zQ (zD 2) zS)))
def V5:SM :=
  (j4 10 2 (zD 0) ZO)
def Yr:SM :=
  (j4 10 3 (zD 0) (Zx 6 1 W6 zS))
def Yv:SM:=(ze YC (ze Um (ze V5 Yr)))
def dw:F:=fn 3 Yv
abbrev Ks:F:=dw
def vu:SM :=
  (jP 1 (eOp Q1 (eC (.str [120])) (eOp qa (zD 0) (eC (.int 4)))))
def Kr:SM :=
  (jP 2 (eOp Q1 (eC (.str [121])) (eOp qa (eOp y7 (zD 0) (eC (.int 4))) (eC (.int 3)))))
def vh:SM :=
  (jP 3 (Zi (zQ (eC (.str [98])) (zQ (eC (.str [99])) (zQ (eC (.str [100])) (zQ (eC (.str [102])) (zQ (eC (.str [103])) (zQ (eC (.str [104])) zS))))))))
def XW:SM :=
  (sIf (jh cEq (eOp qa (eOp y7 (zD 0) (eC (.int 12))) (eC (.int 2))) (eC (.int 1)))
  (jP 3 (Zi (zQ (eC (.str [98])) (zQ (eC (.str [98,98])) (zQ (eC (.str [99])) (zQ (eC (.str [99,98])) (zQ (eC (.str [98,99])) (zQ (eC (.str [98,98,98])) zS))))))))
  jT)
def VC:SM :=
  (z9 (Z6 1 (iE (zD 3)) (jL 4) qE (eOp yb (eOp yb (zD 1) (zD 4)) (zD 2))))
def kM:SM:=(ze vu (ze Kr (ze vh (ze XW VC))))
def dH:F:=fn 4 kM
def Kw:F:=chN dH
theorem FA:jl 1 dH Kw:=vj _
def vG:SM :=
  (ze (sIf (jh cLt (zD 1) (zp yN (zQ (zD 0) zS)))
  (z9 (eOp qa (eOp yb (eOp Q1 (eOp jN (zD 0) (zD 1)) (eC (.int 48271))) (eOp Q1 (eC (.int 7919)) (zD 1))) (eC (.int 1000003))))
  jT)
  (z9 (eC (.int 0))))
def UI:F:=fn 2 vG
def Qg:F:=chS UI
theorem Fj:jl 2 UI Qg:=YW _
def Kp:SM :=
  (z9 (Z6 1 (UW (zD 1) (zp vA (zQ (zD 2) (zQ (zp yN (zQ (zD 0) zS)) zS)))) (jL 3) qE (zp Qg (zQ (zD 0) (zQ (zD 3) zS)))))
def ER:F:=fn 3 Kp
def KH:F:=chN ER
theorem Om:jl 3 ER KH:=vj _
def vz:SM :=
  (z9 (zp xT (zQ (Z6 1 (iE (zp xh (zQ (jI 10 2 (zD 0)) zS))) (jL 1) qE (jq (zQ (zD 1) (zQ (eOp jN (jI 10 2 (zD 0)) (zD 1)) zS)))) zS)))
def Bd:F:=fn 1 vz
def kI:F:=chN Bd
theorem IA:jl 1 Bd kI:=vj _
def vm:SM :=
  (ze (jP 1 ZO)
  (ze (UM (zD 0) (jL 2)
  (QE (iE (eOp jN (zD 0) (zD 2))) (jL 3)
  (ze (sIf (jh QH (zD 3) (zD 1))
  (ZZ (zD 1) (zD 3) ZO)
  jT)
  (ZZ (eOp jN (zD 1) (zD 3)) (zD 2) (eC (.bl zC))))))
  (z9 (zD 1))))
def Cj:F:=fn 4 vm
abbrev Aw:F:=Cj
def ux:SM :=
  (jP 2 (zp Aw (zQ (zD 0) zS)))
def uU:SM :=
  (jP 3 ZO)
def YN:SM :=
  (jP 4 (zp Zr (zQ (zD 1) zS)))
def ud:SM :=
  (Xy (jh cGt (zp yN (zQ (zD 4) zS)) (eC (.int 0)))
  (ze (jP 5 (eM .list Uj (zD 4) zS))
  (UM (eM .dict uD (zD 2) (zQ (zD 5) (zQ ZO zS))) (jL 6)
  (sIf (jh QH (zD 6) (zD 3))
  (ze (ZZ (zD 3) (zD 6) (eC (.bl zC)))
  (qQ (eM .list vl (zD 4) (zQ (zD 6) zS))))
  jT))))
def UP:SM :=
  (z9 (zp xh (zQ (zD 3) zS)))
def VF:SM:=(ze ux (ze uU (ze YN (ze ud UP))))
def eR:F:=fn 7 VF
abbrev Ag:F:=eR
def Vl:SM :=
  (ze (Yy 6 0 0 (jP 2 (zp xT (zQ (Z6 2 (Xj (jI 6 0 (zD 0))) (Zo (qq (jL 3) (qq (jL 4) Zf))) qE (jq (zQ (zD 3) (zQ (zp Zr (zQ (eOp jN (zD 4) (eC (.int 1))) zS)) zS)))) zS))))
  (z9 (zp Ag (zQ (zD 2) (zQ (Zi (zQ (zD 1) zS)) zS)))))
def dg:F:=fn 3 Vl
def Ky:F:=chN dg
theorem pk:jl 2 dg Ky:=vj _
def XJ:SM :=
  (ze (sIf (jh QH (zD 1) (jI 6 0 (zD 0)))
  De
  jT)
  (ze (QE (iE (jg 6 Ky (zD 0) (zQ (zD 1) zS))) (jL 2)
  (qQ (eM .dict xo (jI 6 0 (zD 0)) (zQ (zD 2) zS))))
  (qQ (eM .dict U5 (jI 6 0 (zD 0)) (zQ (zD 1) (zQ (eC .non) zS))))))
def uu:F:=fn 3 XJ
def Kl:F:=chO uu
theorem E4:jl 2 uu Kl:=kf _
def uj:SM :=
  (z9 (Va cLe cLe (eC (.str [97])) (zD 0) (eC (.str [122]))))
def Dg:F:=fn 1 uj
def Kh:F
 | [.str x],s=>.ok (.bl (vW x)) s
 | _,_=>.no
theorem om:jl 1 Dg Kh:=jl.pure λds S d c e=>by
 match ds,d with
 | [a],_ =>
  cases a with
  | str x=>exact .inr ⟨_,[],rfl,by by_cases h:x < [97]<;>simp[Dg,uj,vW,h],rfl⟩
  | _=>exact .inl rfl
def XM:SM :=
  (ze (sIf (tOr (q0 (yF (zp Qk (zQ (zD 0) (zQ (eC (.ty .str)) zS))))) (q0 (Ku cLe cLe (eC (.int 1)) (zp yN (zQ (zD 0) zS)) (eC (.int 8)))))
  (z9 (eC (.bl zP)))
  jT)
  (z9 (Q3 (Xm xQ 1 (iE (zD 0)) (jL 1) qE (zp Kh (zQ (zD 1) zS))) (Zv QH (zD 0) (eC (.tup [(.str [111,102]),(.str [105,102]),(.str [105,115]),(.str [116,104,101,110]),(.str [101,108,115,101]),(.str [101,97,99,104]),(.str [100,111]),(.str [105,116]),(.str [98,97,99,107]),(.str [102,105,114,115,116]),(.str [114,101,115,116]),(.str [99,111,117,110,116]),(.str [115,111,114,116,101,100]),(.str [102,97,105,108]),(.str [108,105,110,101]),(.str [109,111,114,101])]))))))
def VI:F:=fn 1 XM
def JZ:F
 | [.str x],s=>if x.length <= SZ then .ok (.bl (xu x)) s else .no
 | _,_=>.no
theorem G2:jl 1 VI JZ:=jl.pure λds S l c n=>by
 match ds,l with
 | [a],_ =>
  cases a with
  | str x =>
   by_cases g:x.length <= SZ
   ·refine .inr ⟨_,[],by simp[JZ,g];rfl,?_,rfl⟩;have e:yd 1 (iE (zD 0)) (jL 1) qE (zp Kh (zQ (zD 1) zS)) [zA (.str x)] S=.ok (x.map λc=>.bl (vW [c])) S :=
     bh _ (by simp[g]) g λc _=>by simp[Kh]
    by_cases h:1 <= x.length
    ·by_cases i:x.length <= 8
     ·have d:¬ (x.length:Int) < 1:=by lia
      have f:¬ (8:Int) < (x.length:Int):=by lia
      cases j:(x.all λc=>vW [c]) with
      | true =>
       by_cases m:x∈AN<;>simp[VI,XM,g,d,f,h,i,e,all_map,j,xu,IV,EX,flat,m]
      | false=>simp[VI,XM,g,d,f,h,i,e,all_map,j,xu]
     ·have f:(8:Int) < (x.length:Int):=by lia
      simp[VI,XM,g,f,xu,i]
    ·have d:(x.length:Int) < 1:=by lia
     simp[VI,XM,g,d,xu,h]
   ·exact .inl (by simp[JZ,g])
  | _=>exact .inl rfl
def VP:SM :=
  (ze (sIf (q0 (yF (zp Qk (zQ (zD 0) (zQ (eC (.ty .str)) zS)))))
  (z9 (eC (.bl zP)))
  jT)
  (ze (jP 1 (eM .str vy (zD 0) (zQ (eC (.str [46])) zS)))
  (z9 (Q3 (Zv cLe (zp yN (zQ (zD 1) zS)) (eC (.int 2))) (Xm xQ 1 (iE (zD 1)) (jL 2) qE (zp JZ (zQ (zD 2) zS)))))))
def wF:F:=fn 2 VP
def Kb (x:T):Bool:=decide ((qb 46 x).length <= 2) && (qb 46 x).all xu
def Q6:F
 | [.str x],s=>if x.length+2 <= 10000 then .ok (.bl (Kb x)) s else .no
 | _,_=>.no
theorem Ef (c:Nat):∀ x:T,(qb c x).length <= x.length+1
 | []=>by simp[qb]
 | d::r=>by
  have e:=Ef c r;unfold qb;split
  ·simp;lia
  ·split<;>simp_all<;>lia
theorem CT (c:Nat):∀ (x:T),∀ p∈qb c x,p.length <= x.length
 | [],p,h=>by simp[qb] at h;subst h;simp
 | d::r,p,h=>by
  have f:=CT c r;unfold qb at h;split at h
  ·rcases jc.mp h with rfl | h
   ·simp
   ·have:=f p h;simp;lia
  ·split at h
   ·simp at h;subst h;simp
   ·rename_i q g e;rw[e] at f;rcases jc.mp h with rfl | h
    ·have:=f q (by simp);simp;lia
    ·have:=f p (by simp[h]);simp;lia
theorem Ct:jl 1 wF Q6:=jl.pure λds S l c q=>by
 match ds,l with
 | [a],_ =>
  cases a with
  | str x =>
   by_cases h:x.length+2 <= 10000
   ·refine .inr ⟨.bl (Kb x),[.lst ((qb 46 x).map .str)],by simp[Q6,h],?_,rfl⟩;have r:=Ef 46 x;have i:x.length+2 <= SZ:=qe h (by decide);have m:(qb 46 x).length <= SZ:=qe (by lia:_ <= 10000) (by decide);have e:yd 1 (iE (zD 1)) (jL 2) qE (zp JZ (zQ (zD 2) zS)) [zA (.str x),zA (.ref S.length)] (S++[.lst ((qb 46 x).map .str)])=.ok ((qb 46 x).map λt=>.bl (xu t)) (S++[.lst ((qb 46 x).map .str)]):=by
     have:=Ui (n:=1) (it:=iE (zD 1)) (tg:=jL 2) (e:=zp JZ (zQ (zD 2) zS)) (σ:=[zA (.str x),zA (.ref S.length)]) (s:=S++[.lst ((qb 46 x).map .str)]) (xs:=(qb 46 x).map .str) (g:=[(S.length,.lst ((qb 46 x).map .str))]) (λd=>match d with | .str y=>.bl (xu y) | _=>.non) (by simp) (by simpa using m) (by simp[z8]) (λd hd=>by
      obtain⟨t,o,rfl⟩:=Zn.mp hd;have:=CT 46 x t o;have p:t.length <= SZ:=qe (by lia:_ <= 10000) (by decide);simp[JZ,p])
     rw[this,JA];rfl
    by_cases j:(qb 46 x).length <= 2
    ·have f:((qb 46 x).length:Int) <= 2:=by lia
     simp[wF,VP,i,e,all_map,f,Kb,j]
    ·have f:¬ ((qb 46 x).length:Int) <= 2:=by lia
     simp[wF,VP,i,f,Kb,j]
   ·exact .inl (by simp[Q6];lia)
  | _=>exact .inl rfl
def V2:SM :=
  (sIf (q0 (yF (zp Q6 (zQ (zD 1) zS))))
  QU
  jT)
def YH:SM :=
  (sIf (q0 (yF (zp Jq (zQ (zD 2) zS))))
  QU
  jT)
def Vu:SM :=
  (ZZ (jI 10 2 (zD 0)) (zD 1) (zD 2))
def Vt:SM :=
  (qQ (jg 6 Kl (jI 10 3 (zD 0)) (zQ (zD 1) zS)))
def vk:SM:=(ze V2 (ze YH (ze Vu Vt)))
def Cr:F:=fn 3 vk
def kR:F:=chO Cr
theorem II:jl 3 Cr kR:=kf _
def kO:SM :=
  (ze (sIf (tOr (q0 (yF (zp Q6 (zQ (zD 1) zS)))) (jh QH (zD 1) (jI 10 2 (zD 0))))
  (AA 26 (zQ (eC (.str [116,104,105,115,32,116,104,105,110,103,32,105,115,110,39,116,32,103,105,118,101,110])) zS))
  jT)
  (ze (qQ (eM .dict xo (jI 10 2 (zD 0)) (zQ (zD 1) zS)))
  (qQ (jg 6 Kl (jI 10 3 (zD 0)) (zQ (zD 1) zS)))))
def uT:F:=fn 2 kO
def xg:F:=chX chO uT
theorem GF:Yb 2 uT xg:=Gw (kf _)
def v7:SM :=
  (z9 (zp Zr (zQ (jI 7 1 (jI 10 1 (zD 0))) zS)))
def DK:F:=fn 1 v7
def vw:F:=chN DK
theorem O5:jl 1 DK vw:=vj _
def Vi:SM :=
  (z9 (eM .dict uD (jI 6 0 (zD 0)) (zQ (zD 1) zS)))
def AY:F:=fn 2 Vi
abbrev uV:F:=AY
def VB:SM :=
  (ZZ (jI 6 0 (zD 0)) (zD 1) (zD 2))
def Uz:F:=fn 3 VB
abbrev UY:F:=Uz
def UD:SM :=
  (ze (QE (iE (eOp jN (zD 0) (eC (.int 0)))) (Zo (qq (jL 2) (qq (jL 3) Zf)))
  (sIf (jh cEq (zD 2) (zD 1))
  (z9 (zD 3))
  jT))
  (z9 (eC .non)))
def eS:F:=fn 4 UD
abbrev V3:F:=eS
def vM:SM :=
  (ze (sIf (jh QH (eC (.str [46])) (zD 0))
  (z9 (eC .non))
  jT)
  (z9 (eOp jN (eM .str Yn (zD 0) (zQ (eC (.str [46])) zS)) (eC (.int 0)))))
def aB:F:=fn 1 vM
def J4:F
 | [.str x],s=>if x.length <= SZ then .ok (if Z7 [46] x=zC then .str (y1 46 x).1 else .non) s else .no
 | _,_=>.no
theorem LV:jl 1 aB J4:=jl.pure λds S e c f=>by
 match ds,e with
 | [.str x],_ =>
  by_cases d:x.length <= SZ
  ·cases h:Z7 [46] x with
   | true=>exact .inr ⟨.str (y1 46 x).1,[],by simp[J4,d,h],by simp[aB,vM,d,h,atI,ixN],rfl⟩
   | false=>exact .inr ⟨.non,[],by simp[J4,d,h],by simp[aB,vM,d,h],rfl⟩
  ·exact .inl (by simp[J4,d])
 | [.non],_=>exact .inl rfl
 | [.bl _],_=>exact .inl rfl
 | [.int _],_=>exact .inl rfl
 | [.ty _],_=>exact .inl rfl
 | [.ref _],_=>exact .inl rfl
 | [.tup _],_=>exact .inl rfl
 | [.ro _],_=>exact .inl rfl
def WM:SM :=
  (ze (sIf (jh QH (eC (.str [46])) (zD 0))
  (z9 (eC .non))
  jT)
  (z9 (eOp jN (eM .str Yn (zD 0) (zQ (eC (.str [46])) zS)) (eC (.int 2)))))
def M5:F:=fn 1 WM
abbrev WR:F:=M5
def UU:SM :=
  (jP 2 (zp V3 (zQ (zD 0) (zQ (zD 1) zS))))
def UO:SM :=
  (sIf (x9 (zD 2))
  (z9 (jq (zQ (zD 2) (zQ (eC .non) zS))))
  jT)
def Ue:SM :=
  (jP 3 (zp J4 (zQ (zD 1) zS)))
def uR:SM :=
  (sIf (xr (zD 3))
  (z9 (eC .non))
  jT)
def YM:SM :=
  (jP 2 (zp V3 (zQ (zD 0) (zQ (eOp yb (zD 3) (eC (.str [46,42]))) zS))))
def Ya:SM :=
  (sIf (xr (zD 2))
  (z9 (eC .non))
  jT)
def A4:SM :=
  (z9 (jq (zQ (zD 2) (zQ (zp WR (zQ (zD 1) zS)) zS))))
def uB:SM:=(ze UU (ze UO (ze Ue (ze uR (ze YM (ze Ya A4))))))
def CA:F:=fn 4 uB
abbrev bH:F:=CA
def uI:SM :=
  (ze (j4 3 1 (zD 0) (zp bH (zQ (zD 1) (zQ (jI 3 0 (zD 0)) zS))))
  (QE (iE (eOp jN (zD 1) (eC (.int 1)))) (jL 2)
  (sIf (jh QH (zD 2) (jI 3 2 (zD 0)))
  (qQ (eM .list vl (jI 3 2 (zD 0)) (zQ (zD 2) zS)))
  jT)))
def Ec:F:=fn 3 uI
abbrev WY:F:=Ec
def uL:SM :=
  (j4 3 0 (zD 0) (zD 1))
def ui:SM :=
  (j4 3 1 (zD 0) (eC .non))
def uq:SM :=
  (j4 3 2 (zD 0) (Zi zS))
def YG:SM :=
  (qQ (jg 3 WY (zD 0) (zQ (zD 2) zS)))
def uN:SM:=(ze uL (ze ui (ze uq YG)))
def E7:F:=fn 3 uN
abbrev U3:F:=E7
def UJ:SM :=
  (j4 8 0 (zD 0) (zD 1))
def YI:SM :=
  (j4 8 1 (zD 0) (Zx 3 3 U3 (zQ (zD 1) (zQ (zD 2) zS))))
def uO:SM :=
  (j4 8 2 (zD 0) (jq (zQ (eC (.str [110,111,110,101])) zS)))
def Yc:SM :=
  (j4 8 3 (zD 0) (Zi zS))
def uW:SM :=
  (j4 8 4 (zD 0) ZO)
def Y0:SM :=
  (j4 8 5 (zD 0) (jq zS))
def Yi:SM :=
  (j4 8 6 (zD 0) (eC .non))
def u3:SM :=
  (j4 8 7 (zD 0) (eC .non))
def V6:SM:=(ze UJ (ze YI (ze uO (ze Yc (ze uW (ze Y0 (ze Yi u3)))))))
def Ey:F:=fn 3 V6
abbrev w8:F:=Ey
def uE:SM :=
  (ze (jP 1 (zp yN (zQ (jI 8 3 (zD 0)) zS)))
  (sIf (jh cEq (zD 1) (zp yN (zQ (jI 3 2 (jI 8 1 (zD 0))) zS)))
  (j4 8 7 (zD 0) (jq (zQ (eC (.str [102,97,105,108,115])) (zQ (eC (.str [110,111,32,114,117,108,101])) zS))))
  QU))
def B7:F:=fn 2 uE
abbrev Au:F:=B7
def Ul:SM :=
  (ze (j4 8 6 (zD 0) (eC .non))
  (sIf (xr (jI 3 1 (jI 8 1 (zD 0))))
  (qQ (jg 8 Au (zD 0) zS))
  QU))
def BV:F:=fn 2 Ul
abbrev Wv:F:=BV
def ue:SM :=
  (ze (qQ (jg 8 Wv (zD 1) (zQ (jI 9 3 (zD 0)) zS)))
  (ZZ (jI 9 5 (zD 0)) (jI 8 0 (zD 1)) (jI 8 6 (zD 1))))
def DY:F:=fn 2 ue
abbrev bV:F:=DY
def u4:SM :=
  (z9 (jq (zQ (jq (zQ (eC (.str [103,105,118,101,110])) zS)) (zQ (jq zS) (zQ (jq (zQ (eC (.str [116,101,120,116])) (zQ (zD 0) zS))) zS)))))
def E8:F:=fn 1 u4
abbrev AJ:F:=E8
def K2:SM :=
  (sIf (jh cIn (zD 1) (jI 9 1 (zD 0)))
  (qQ (jg 6 UY (jI 9 2 (zD 0)) (zQ (zD 1) (zQ (zp AJ (zQ (eOp jN (jI 9 1 (zD 0)) (zD 1)) zS)) zS))))
  (ze (jP 2 (Zx 8 8 w8 (zQ (zD 1) (zQ (jI 9 0 (zD 0)) zS))))
  (ze (qQ (eM .list vl (jI 9 4 (zD 0)) (zQ (zD 2) zS)))
  (qQ (jg 9 bV (zD 0) (zQ (zD 2) zS))))))
def Yf:F:=fn 3 K2
abbrev bX:F:=Yf
def uA:SM :=
  (z9 (jq (zQ (jI 8 2 (zD 0)) (zQ (zp w5 (zQ (jI 8 3 (zD 0)) zS)) (zQ (zD 1) zS)))))
def c9:F:=fn 2 uA
abbrev bT:F:=c9
def YP:SM :=
  (ze (jP 2 (eM .list Uj (jI 9 4 (zD 0)) zS))
  (ze (qQ (eM .dict xo (jI 9 5 (zD 0)) (zQ (jI 8 0 (zD 2)) zS)))
  (qQ (jg 6 UY (jI 9 2 (zD 0)) (zQ (jI 8 0 (zD 2)) (zQ (jg 8 bT (zD 2) (zQ (zD 1) zS)) zS))))))
def EA:F:=fn 3 YP
abbrev wx:F:=EA
def XI:SM :=
  (ze (qQ (jg 9 bX (zD 0) (zQ (zD 1) zS)))
  (Xy (jh cGt (zp yN (zQ (jI 9 4 (zD 0)) zS)) (eC (.int 0)))
  (ze (jP 2 (eOp jN (jI 9 4 (zD 0)) (eUn dZ (eC (.int 1)))))
  (sIf (x9 (jI 8 7 (zD 2)))
  (qQ (jg 9 wx (zD 0) (zQ (jI 8 7 (zD 2)) zS)))
  QU))))
def UZ:F:=fn 3 XI
abbrev WH:F:=UZ
def UQ:SM :=
  (j4 2 0 (zD 0) ZO)
def Bu:F:=fn 1 UQ
abbrev Af:F:=Bu
def Yg:SM :=
  (j4 9 0 (zD 0) (zD 1))
def Yt:SM :=
  (j4 9 1 (zD 0) (zD 2))
def Yz:SM :=
  (j4 9 2 (zD 0) (zD 3))
def Yx:SM :=
  (j4 9 3 (zD 0) (zD 4))
def Yl:SM :=
  (j4 9 4 (zD 0) (Zi zS))
def um:SM :=
  (j4 9 5 (zD 0) ZO)
def Ur:SM :=
  (j4 9 6 (zD 0) (Zx 2 1 Af zS))
def uY:SM:=(ze Yg (ze Yt (ze Yz (ze Yx (ze Yl (ze um Ur))))))
def du:F:=fn 5 uY
abbrev aj:F:=du
def VZ:SM :=
  (ze (sIf (q0 (yF (zp Q6 (zQ (zD 1) zS))))
  QU
  jT)
  (ze (sIf (xr (jg 6 uV (jI 10 3 (zD 0)) (zQ (zD 1) zS)))
  (qQ (jg 9 WH (Zx 9 7 aj (zQ (jI 10 0 (zD 0)) (zQ (jI 10 2 (zD 0)) (zQ (jI 10 3 (zD 0)) (zQ (jI 10 1 (zD 0)) zS))))) (zQ (zD 1) zS)))
  jT)
  (z9 (jg 6 uV (jI 10 3 (zD 0)) (zQ (zD 1) zS)))))
def xN:F:=fn 2 VZ
def xb:F:=chO xN
theorem NZ:jl 2 xN xb:=kf _
def Vk:SM :=
  (z9 (eOp jN (jg 10 xb (zD 0) (zQ (zD 1) zS)) (eC (.int 2))))
def eX:F:=fn 2 Vk
def XA:F:=chO eX
theorem fV:jl 2 eX XA:=kf _
def vZ:SM :=
  (QE (iE (eOp yb (zD 1) (zD 1))) (jL 3)
  (ze (jP 4 (jq (zQ (jq (zQ (eC (.str [110,111,110,101])) zS)) (zQ (jq zS) (zQ (jq (zQ (eC (.str [102,97,105,108,115])) (zQ (eC (.str [110,111,32,114,117,108,101])) zS))) zS)))))
  (ze (sIf (jh cIn (zD 3) (zD 2))
  (jP 4 (jq (zQ (jq (zQ (eC (.str [103,105,118,101,110])) zS)) (zQ (jq zS) (zQ (jq (zQ (eC (.str [116,101,120,116])) (zQ (eOp jN (zD 2) (zD 3)) zS))) zS)))))
  jT)
  (sIf (tOr (jh cNe (jg 10 xb (zD 0) (zQ (zD 3) zS)) (zD 4)) (jh cNe (jg 10 XA (zD 0) (zQ (zD 3) zS)) (eOp jN (zD 4) (eC (.int 2)))))
  (z9 (eC (.bl zP)))
  jT))))
def K5:SM :=
  (jP 5 (jg 10 kI (zD 0) zS))
def VJ:SM :=
  (sIf (tOr (jh cNe (zp Zr (zQ (zD 5) zS)) (zp xh (zQ (zD 2) zS))) (jh cNe (zD 5) (zD 2)))
  (z9 (eC (.bl zP)))
  jT)
def va:SM :=
  (ZZ (zD 5) (eC (.str [122])) (eC (.str [122])))
def VU:SM :=
  (jP 6 (jg 10 kI (zD 0) zS))
def vn:SM :=
  (qQ (jg 10 kR (zD 0) (zQ (eC (.str [122])) (zQ (eC (.str [122])) zS))))
def K0:SM :=
  (qQ (jg 10 xg (zD 0) (zQ (eC (.str [122])) zS)))
def Kq:SM :=
  (z9 (Q3 (Zv cEq (zD 6) (zD 2)) (Q3 (Zv cEq (jg 10 kI (zD 0) zS) (zD 2)) (Zv cEq (jg 10 vw (zD 0) zS) (Zi zS)))))
def Vn:SM:=(ze vZ (ze K5 (ze VJ (ze va (ze VU (ze vn (ze K0 Kq)))))))
def CB:F:=fn 7 Vn
def xq:F:=chO CB
theorem fY:jl 3 CB xq:=kf _
def Y5:SM :=
  (ze (jP 1 (eC (.str [32,33,34,35,36,38,39,40,41,42,43,44,45,46,47,48,49,50,51,52,53,54,55,56,57,58,59,60,61,62,63,64,65,66,67,68,69,70,71,72,73,74,75,76,77,78,79,80,81,82,83,84,85,86,87,88,89,90,91,92,93,94,95,96])))
  (ze (jP 1 (eOp yb (zD 1) (eC (.str [97,98,99,100,101,102,103,104,105,106,107,108,109,110,111,112,113,114,115,116,117,118,119,120,121,122,123,124,125,126,10]))))
  (z9 (eOp jN (zD 1) (eOp qa (zD 0) (eC (.int 95)))))))
def bU:F:=fn 2 Y5
def ki:F:=chS bU
theorem pP:jl 1 bU ki:=YW _
def UX:SM :=
  (z9 (Xm (J6 []) 1 (Vw (zD 1)) (jL 2) qE (zp ki (zQ (eOp yb (zD 0) (eOp Q1 (eC (.int 7)) (eOp y7 (zD 2) (eOp yb (eC (.int 1)) (eOp qa (zD 0) (eC (.int 3))))))) zS))))
def AR:F:=fn 2 UX
def X8:F:=chS AR
theorem GI:jl 2 AR X8:=YW _
def X0:SM :=
  (ze (sIf (jh cEq (eOp qa (eOp y7 (zD 0) (eC (.int 14))) (eC (.int 8))) (eC (.int 1)))
  (z9 (zp X8 (zQ (eOp y7 (zD 0) (eC (.int 14))) (zQ (eOp qa (eOp Q1 (eOp y7 (zD 0) (eC (.int 14))) (eC (.int 7))) (eC (.int 900))) zS))))
  jT)
  (ze (sIf (jh cEq (eOp qa (eOp y7 (zD 0) (eC (.int 14))) (eC (.int 8))) (eC (.int 2)))
  (z9 (eOp Q1 (eC (.str [97])) (eC (.int 900))))
  jT)
  (z9 (zp X8 (zQ (eOp y7 (zD 0) (eC (.int 14))) (zQ (eOp qa (eOp y7 (zD 0) (eC (.int 14))) (eC (.int 9))) zS))))))
def Vo:F:=fn 1 X0
def XX:F:=chS Vo
theorem M9:jl 1 Vo XX:=YW _
def kg:SM :=
  (ka 26 (Q3 (UN (jg 10 xg (zD 0) (zQ (zD 1) zS))) (Zv cIn (zD 1) (zD 2))) (z9 (Zv QH (zD 1) (zD 2))))
def E9:F:=fn 3 kg
def Kf:F:=chO E9
theorem nT:jl 3 E9 Kf:=kf _
def VS:SM :=
  (jP 1 (Zx 10 4 Ks (zQ (eC (.str [])) (zQ (eOp qa (zp Qg (zQ (zD 0) (zQ (eC (.int 0)) zS))) (eC (.int 1001))) zS))))
def vb:SM :=
  (jP 2 (zp Kw (zQ (zp Qg (zQ (zD 0) (zQ (eC (.int 1)) zS))) zS)))
def u9:SM :=
  (jP 3 ZO)
def K1:SM :=
  (QE (iE (zp KH (zQ (zD 0) (zQ (eC (.int 2)) (zQ (eC (.int 10)) zS))))) (jL 4)
  (ze (jP 5 (eOp jN (zD 2) (eOp qa (eOp y7 (zD 4) (eC (.int 2))) (eC (.int 6)))))
  (ze (sIf (jh cEq (eOp qa (zD 4) (eC (.int 2))) (eC (.int 0)))
  (ze (ZZ (zD 3) (zD 5) (zp XX (zQ (zD 4) zS)))
  (sIf (x9 (jg 10 kR (zD 1) (zQ (zD 5) (zQ (eOp jN (zD 3) (zD 5)) zS))))
  (z9 (eC (.bl zP)))
  jT))
  (ze (sIf (q0 (yF (zp Kf (zQ (zD 1) (zQ (zD 5) (zQ (zD 3) zS))))))
  (z9 (eC (.bl zP)))
  jT)
  (sIf (jh cIn (zD 5) (zD 3))
  (qQ (eM .dict xo (zD 3) (zQ (zD 5) zS)))
  jT)))
  (sIf (q0 (yF (zp xq (zQ (zD 1) (zQ (zD 2) (zQ (zD 3) zS))))))
  (z9 (eC (.bl zP)))
  jT))))
def UK:SM :=
  (z9 (zp xq (zQ (zD 1) (zQ (zD 2) (zQ (zD 3) zS)))))
def VO:SM:=(ze VS (ze vb (ze u9 (ze K1 UK))))
def AX:F:=fn 6 VO
noncomputable def yS (b:Int) (T K:List (D×D)) (r:M.S):M.S:=.ins 10 [zA (.tup [.ref 1,.ref 2]),zA (.ref 6),zA (.ref 10),zA (.ref 11)]::.lst []::.lst []::.lst [.str []]::.lst [.str []]::.lst []::.ins 7 [zA (.ref 7),zA (.ref 9)]::.ins 5 [zA (.int b),zA (.ref 8)]::.dct []::.lst []::.dct T::.ins 6 [zA (.ref 12)]::.dct K::r
theorem lU (b:Int) (c:0 <= b) (d:b <= 1000):Zx 10 4 Ks (zQ (eC (.str [])) (zQ (eC (.int b)) zS)) [] []=.ok (.ref 0) (yS b [] [] []):=by
 simp[dw,Yv,YC,Um,V5,Yr,Bv,Yw,Jq,Ja,kB,Ei,Ua,YT,UC,uM,Ys,dC,ug,E3,Uh,DD,uP,DW,UR,c,d,cQ,uw,qb,ZX,qR,yd,ym,z8,zm];rfl
structure GN (n:T):Prop where
 nm:Kb n=zC
 len:n.length <= 100
 dot:Z7 [46] n=zP
noncomputable def Zd (t:T):D:=.tup [.tup [.str [103,105,118,101,110]],.tup [],.tup [.str [116,101,120,116],.str t]]
noncomputable def Z2:D:=.tup [.tup [.str [110,111,110,101]],.tup [],.tup [.str [102,97,105,108,115],.str [110,111,32,114,117,108,101]]]
theorem aq {k v:D}:∀ {K:List (D×D)},jJ k K=zB->jJ k (K++[(k,v)])=zA v
 | [],_=>by simp[jJ,xk]
 | (a,b)::K,h=>by
  unfold jJ at h ⊢;rw[Ws];rw[Zz] at h ⊢;cases e:(k == a) with
  | true=>rw[e] at h;cases h
  | false=>rw[e] at h;exact aq (K:=K) h
theorem cK {k:D}{K:List (D×D)} (h:jJ k K=zB):j1 k v K=K++[(k,v)]:=by
 unfold j1;rw[if_neg];intro z;obtain⟨p,c,e⟩:=CW.mp z;have e:p.1=k:=of_decide_eq_true e;unfold jJ at h;rw[O7] at h;have:=h p c;rw[e] at this;simp at this
section
variable {b:Int}{TT K:List (D×D)}{n:T}
theorem VH (g:GN n) (s:M.S):Q6 [.str n] s=.ok (.bl zC) s:=by
 have:=g.len;simp[Q6,g.nm];lia
theorem lA (g:GN n) (s:M.S):J4 [.str n] s=.ok .non s:=by
 have:=g.len;have z:n.length <= SZ:=by unfold SZ;lia
 simp[J4,g.dot,z]
end
theorem Hb {c:TM}{σ:St}{s s':M.S} (h:c σ s=.ok zP s'):Xy c m σ s=.nx σ s':=by
 show ZG (999999999999+1) c m σ s=_;rw[ZG,h];rfl
theorem b9 {c:TM}{m:SM}{σ σ2:St}{s s1 s2 s3:M.S} (h:c σ s=.ok zC s1) (d:m σ s1=.nx σ2 s2) (e:c σ2 s2=.ok zP s3):Xy c m σ s=.nx σ2 s3:=by
 show ZG (999999999998+1+1) c m σ s=_;rw[ZG,h];show (match m σ s1 with | .nx σ s=>ZG (999999999998+1) c m σ s | .ct σ s=>ZG (999999999998+1) c m σ s | .bk σ s=>.nx σ s | r=>r)=_;rw[d];show ZG (999999999998+1) c m σ2 s2=_;rw[ZG,e];rfl
section
variable {b:Int}{TT K:List (D×D)}{n:T}
theorem Ht (g:GN n) {ds:List D} (h:jJ (.str n) K=zA (.tup ds)) (r:M.S):xN [.ref 0,.str n] (yS b TT K r)=.ok (.tup ds) (yS b TT K r):=by
 unfold yS;simp[xN,VZ,VH g,AY,Vi,h,jn]
noncomputable abbrev xy:O:=.ins 9 [zA (.tup [.ref 1,.ref 2]),zA (.ref 10),zA (.ref 11),zA (.ref 6),zA (.ref 18),zA (.ref 19),zA (.ref 20)]
theorem IK (h:jJ (.str n) K=zB) (f:K.length < SZ) {t:T} (g:jJ (.str n) TT=zA (.str t)) (o1 c o3 o4:O):UZ [.ref 17,.str n] (yS b TT K [o1,c,o3,o4,xy,.lst [],.dct [],.ins 2 [zA (.ref 21)],.dct []])=.ok .non (yS b TT (K++[(.str n,Zd t)]) [o1,c,o3,o4,xy,.lst [],.dct [],.ins 2 [zA (.ref 21)],.dct []]):=by
 have d:=cK (v:=Zd t) h;have e:=aq (v:=Zd t) h;unfold Zd at d e;unfold yS Zd;show (XI _ _).out=_;unfold XI;simp[-Xy,Yf,K2,g,Uz,VB,E8,u4,d,e,f,zm,kB,jn];rw[Hb (s':=_) (by simp;rfl)];rfl
theorem CH {a:D} (g:GN n) (h:jJ (.str n) K=zB) (o1 c o3 o4:O) {d:M.S} (e:UZ [.ref 17,.str n] (yS b TT K [o1,c,o3,o4,xy,.lst [],.dct [],.ins 2 [zA (.ref 21)],.dct []])=.ok .non (yS b TT (K++[(.str n,a)]) ([o1,c,o3,o4]++d))):xN [.ref 0,.str n] (yS b TT K [o1,c,o3,o4])=.ok a (yS b TT (K++[(.str n,a)]) [o1,c,o3,o4]++d):=by
 have f:=aq (v:=a) h;unfold yS xy at e;unfold yS;simp[xN,VZ,VH g,AY,Vi,h,jn,du,uY,Yg,Yt,Yz,Yx,Yl,um,Ur,Bu,UQ,e,f,zm]
end
section
variable {b:Int}{TT K:List (D×D)}{n:T}
noncomputable abbrev mkI (n:T) (e:D):O:=.ins 8 [zA (.str n),zA (.ref 23),zA (.tup [.str [110,111,110,101]]),zA (.ref 25),zA (.ref 26),zA (.tup []),zA .non,zA e]
noncomputable abbrev seI (n:T):O:=.ins 3 [zA (.str n),zA .non,zA (.ref 24)]
noncomputable abbrev noR:D:=.tup [.str [102,97,105,108,115],.str [110,111,32,114,117,108,101]]
theorem p9 (g:GN n) (d:jJ (.str n) TT=zB) (o1 c o3 o4:O):Yf [.ref 17,.str n] (yS b TT K [o1,c,o3,o4,xy,.lst [],.dct [],.ins 2 [zA (.ref 21)],.dct []])=.ok .non (yS b TT K [o1,c,o3,o4,xy,.lst [.ref 22],.dct [(.str n,.non)],.ins 2 [zA (.ref 21)],.dct [],mkI n noR,seI n,.lst [],.lst [],.dct []]):=by
 unfold yS;simp[Yf,K2,d,jn,Ey,V6,UJ,YI,uO,Yc,uW,Y0,Yi,u3,E7,uN,Ec,uI,CA,uB,UU,UO,Ue,uR,YM,Ya,eS,UD,lA g,uL,ui,uq,YG,atI,ixN,qR,z8,DY,ue,BV,Ul,B7,uE,zm,kB,gd,j1]
theorem HF (g:GN n) (h:jJ (.str n) K=zB) (f:K.length < SZ) (i:jJ (.str n) TT=zB) (o1 c o3 o4:O):UZ [.ref 17,.str n] (yS b TT K [o1,c,o3,o4,xy,.lst [],.dct [],.ins 2 [zA (.ref 21)],.dct []])=.ok .non (yS b TT (K++[(.str n,Z2)]) [o1,c,o3,o4,xy,.lst [],.dct [],.ins 2 [zA (.ref 21)],.dct [],mkI n noR,seI n,.lst [],.lst [],.dct []]):=by
 have d:=cK (v:=Z2) h;have e:=p9 (b:=b) (K:=K) g i o1 c o3 o4;unfold Z2 at d;unfold yS Z2;unfold yS at e;show (XI _ _).out=_;unfold XI;simp only[ze,qQ,jg,zD,zQ,zS,ju,vU,Ws,Xw,qw,qO,ji,e,jy,if_true,y2];rw[b9 (s1:=_) (s2:=_) (s3:=_) (σ2:=_) (by simp;rfl) (by simp[EA,YP,Uz,VB,c9,uA,atI,ixN,jn,jJ,jR,d,f,zm,kB];exact⟨rfl,rfl⟩) (by simp;rfl)];rfl
end
theorem EV {k:D}:∀ {K:List (D×D)},(∃ p∈K,p.1=k)->∃ v,jJ k K=zA v/\(k,v)∈K
 | [],h=>by obtain⟨p,c,_⟩:=h;cases c
 | (a,v)::K,h=>by
  unfold jJ;rw[Zz];cases e:(k == a) with
  | true =>
   have e:k=a:=by simpa using e
   subst e;exact⟨v,rfl,qM⟩
  | false =>
   obtain⟨p,c,d⟩:=h;rcases jc.mp c with rfl | c
   ·have:k=a:=d.symm;subst this;simp at e
   ·obtain⟨w,f,g⟩:=EV (K:=K) ⟨p,c,d⟩;exact⟨w,f,jj _ g⟩
def yZ (s:M.S) (N:List (D×D)):Prop:=∀ p∈N,(∃ k,p.1=.str k)/\∃ j,p.2=.ref j/\s[j]? = zA (.lst [])
theorem yZ.app {g:M.S} (h:yZ s N):yZ (s++g) N:=λp c=>let ⟨d,j,e,f⟩:=h p c;⟨d,j,e,Jh f g⟩
theorem yZ.put {p:D×D} (h:yZ s N) (d:(∃ k,p.1=.str k)/\∃ j,p.2=.ref j/\s[j]? = zA (.lst [])):yZ s (j1 p.1 p.2 N):=by
 unfold j1;split
 ·intro q c;obtain⟨x,hx,rfl⟩:=Zn.mp c;by_cases e:x.1=p.1
  ·rw[if_pos e];exact⟨(h x hx).1,d.2⟩
  ·rw[if_neg e];exact h x hx
 ·intro q c;rcases Jl.mp c with c | c
  ·exact h q c
  ·have:q=(p.1,p.2):=by simpa using c
   subst this;exact d
theorem yZ.puts:∀ {N:List (D×D)}{c:List (D×D)},yZ s c->yZ s N->yZ s (N.foldl (λa p=>j1 p.1 p.2 a) c)
 | [],c,h,_=>h
 | p::N,c,h,d=>yZ.puts (N:=N) (h.put (d p qM)) λq e=>d q (jj _ e)
theorem c2:∀ {N:List (D×D)},yZ s N->Qy (N.map λp=>.tup [p.1,p.2])=zA N
 | [],_=>rfl
 | (a,v)::N,h=>by
  obtain⟨⟨k,e⟩,_⟩:=h (a,v) qM;have e:a=.str k:=e;subst e;show (if jn (.str k) then (Qy (N.map λp=>.tup [p.1,p.2])).map ((.str k,v) :: ·) else zB)=_;rw[c2 λq c=>h q (jj _ c)];rfl
def KOk (K:List (D×D)):Prop:=∀ p∈K,(∃ k,p.1=.str k)/\∃ x z,p.2=.tup [x,.tup [],z]
theorem Ck {σ:St} (d:σ.length=3) {s0:M.S}:∀ {K:List (D×D)} (t:M.S),KOk K->∃ N t',ym [] (yL 2 (Zo (qq (jL 3) (qq (jL 4) Zf))) qE (jq (zQ (zD 3) (zQ (zp Zr (zQ (eOp jN (zD 4) (eC (.int 1))) zS)) zS))) σ) (K.map λp:D×D=>D.tup [p.1,p.2]) (s0++t)=.ok (N.map λp:D×D=>.tup [p.1,p.2]) (s0++(t++t'))/\yZ (s0++(t++t')) N/\N.length=K.length
 | [],t,_=>⟨[],[],by rw[qo];rfl,(λp f=>by cases f),rfl⟩
 | (a,v)::K,t,h=>by
  obtain⟨⟨k,g⟩,x,z,i⟩:=h (a,v) qM;have g:a=.str k:=g;have i:v=.tup [x,.tup [],z]:=i;subst g i;obtain⟨N,t',e,n,o⟩:=Ck d (s0:=s0) (K:=K) (t++[.lst []]) λq r=>h q (jj _ r);obtain⟨j,l,m,rfl⟩:∃ j l m,σ=[j,l,m]:=by
   match σ,d with
   | [a,b,c],_=>exact⟨a,b,c,rfl⟩
  refine⟨(.str k,.ref (s0++t).length)::N,.lst []::t',?_,λp f=>?_,by simp[o]⟩
  ·rw[ju,ym];have:yL 2 (Zo (qq (jL 3) (qq (jL 4) Zf))) qE (jq (zQ (zD 3) (zQ (zp Zr (zQ (eOp jN (zD 4) (eC (.int 1))) zS)) zS))) [j,l,m] (.tup [.str k,.tup [x,.tup [],z]]) (s0++t)=.ok (zA (.tup [.str k,.ref (s0++t).length])) (s0++(t++[.lst []])):=by
    simp[zm,atI,ixN,kB]
   rw[this,ji];show (if zC=zC then _ else _)=_;rw[if_pos rfl,e,ji];simp
  ·rcases jc.mp f with rfl | f
   ·refine⟨⟨k,rfl⟩,_,rfl,?_⟩;rw[show s0++(t++O.lst []::t')=(s0++t)++O.lst []::t' by simp];simp
   ·have:=n p f;simpa using this
theorem NV {s:M.S}{p:Nat}{N:List (D×D)} (l:s[p]? = zA (.dct N)) (h:yZ s N):Cj [.ref p] s=.ok (.ref s.length) (s++[.dct []]):=by
 have Y:p < s.length:=(yp.mp l).1;have d:(s++[.dct []])[p]? = zA (.dct N):=Jh l _;show (vm [zA (.ref p),zB,zB,zB] s).out=_;have m:∀ (L:List (D×D)) (c v3:Option D),(∀ q∈L,∃ k v,q.1=.str k/\(.str k,v)∈N/\jJ (.str k) N=zA v)->∃ n o,qR [] (yO (jL 2) (QE (iE (eOp jN (zD 0) (zD 2))) (jL 3) (ze (sIf (jh QH (zD 3) (zD 1)) (ZZ (zD 1) (zD 3) ZO) jT) (ZZ (eOp jN (zD 1) (zD 3)) (zD 2) (eC (.bl zC)))))) (L.map (·.1)) [zA (.ref p),zA (.ref s.length),c,v3] ((s++[O.dct []]).set p (.fdc N))=.nx [zA (.ref p),zA (.ref s.length),n,o] ((s++[O.dct []]).set p (.fdc N)):=by
  intro L
  induction L with
  | nil=>intro c v3 _;exact⟨c,v3,rfl⟩
  | cons q L y =>
   intro c v3 x;obtain⟨k,v,f,A,B⟩:=x q qM;obtain⟨_,j,r,t⟩:=h _ A;have r:v=.ref j:=r;subst r;have C:j≠p:=λz=>by subst z;rw[l] at t;cases t
   have E:((s++[O.dct []]).set p (.fdc N))[j]? = zA (.lst []):=by rw[Qd (yJ C)];exact Jh t _
   have G:((s++[O.dct []]).set p (.fdc N))[p]? = zA (.fdc N):=by rw[Z3 (by simp;lia)]
   obtain⟨H,I,J⟩:=y (zA (.str k)) v3 λq g=>x q (jj _ g);refine⟨H,I,?_⟩;rw[ju,qR,f];simp only[yO,jL,QE,iE,eOp,zD,Qq,Qa,qw,qO,ji,jN,G,jn,if_true,B,itD,E,jy,z8,JJ,nQ,decide_true,US,qR];exact J
 obtain⟨c,v3,e⟩:=m N zB zB λq g=>by
  obtain⟨⟨k,f⟩,_⟩:=h q g;obtain⟨v,d,Q⟩:=EV (k:=.str k) (K:=N) ⟨q,g,f⟩;exact⟨k,v,f,Q,d⟩
 have U:((s++[O.dct []]).set p (.fdc N))[p]? = zA (.fdc N):=by rw[Z3 (by simp;lia)]
 have u:((s++[O.dct []]).set p (.fdc N)).set p (.dct N)=s++[.dct []]:=by
  rw[nG];refine OW λi=>?_;by_cases hi:p=i
  ·subst hi;rw[Z3 (by simp;lia),d]
  ·rw[Qd hi]
 unfold vm;simp only[ze,jP,ZO,alloc,jy,Qq,Qa,y2,UM,zD,qw,qO,d,e,thaw,UL,U,u,if_true,z9,xW]
section
variable {s:M.S}{a b c d:O}{g:M.S}
theorem ga0:(s++a::g)[s.length]? = zA a:=by simp
theorem ga1:(s++a::b::g)[s.length+1]? = zA b:=by rw[yi (by lia),show s.length+1 - s.length=1 by lia];rfl
theorem ga2:(s++a::b::c::g)[s.length+2]? = zA c:=by rw[yi (by lia),show s.length+2 - s.length=2 by lia];rfl
theorem ga3:(s++a::b::c::d::g)[s.length+3]? = zA d:=by rw[yi (by lia),show s.length+3 - s.length=3 by lia];rfl
theorem gs2 {x:O}:(s++a::b::c::g).set (s.length+2) x=s++a::b::x::g:=by rw[Al _ _ (by lia),show s.length+2 - s.length=2 by lia];rfl
theorem gs3 {x:O}:(s++a::b::c::d::g).set (s.length+3) x=s++a::b::c::x::g:=by rw[Al _ _ (by lia),show s.length+3 - s.length=3 by lia];rfl
end
theorem LK {s:M.S}{p q:Nat}{n:T}{N:List (D×D)} (c:s[p]? = zA (.dct N)) (h:yZ s N) (d:s[q]? = zA (.lst [.str n])):∃ g,eR [.ref p,.ref q] s=.ok (.ref (s.length+4)) (s++g)/\(s++g)[s.length+4]? = zA (.lst []):=by
 refine⟨[.dct [],.dct [],.lst [],.dct [],.lst []],?_,by rw[yi (by lia),show s.length+4 - s.length=4 by lia];rfl⟩;show (VF [zA (.ref p),zA (.ref q),zB,zB,zB,zB,zB] s).out=_;unfold VF ux uU YN ud UP;have e:=NV c h;have f:(s++[O.dct []])++[O.dct []]=s++[O.dct [],O.dct []]:=by simp
 have i:(s++[O.dct [],O.dct []])[q]? = zA (.lst [.str n]):=Jh d _;have j:(s++[O.dct []]).length=s.length+1:=by simp
 have l:(s++[O.dct [],O.dct []]).length=s.length+2:=by simp
 have m:(s++[O.dct [],O.dct []])++[O.lst [.str n]]=s++[O.dct [],O.dct [],.lst [.str n]]:=by simp
 simp only[ze,jP,zp,zD,zQ,zS,qw,qO,ji,e,jy,Qq,Qa,y2,ZO,alloc,j,f,Zr,i,l,m];have o:∀ x,(s++[O.dct [],O.dct [],x])++[O.dct []]=s++[O.dct [],O.dct [],x,O.dct []]:=λx=>by simp
 have r:∀ x,(s++[O.dct [],O.dct [],x]).length=s.length+3:=λx=>by simp
 have t:(s++[O.dct [],O.dct [],O.lst [],O.dct []]).length=s.length+4:=by simp
 rw[b9 (s1:=s++[O.dct [],O.dct [],.lst [.str n]]) (s2:=s++[O.dct [],O.dct [],.lst [],.dct []]) (σ2:=[zA (.ref p),zA (.ref q),zA (.ref s.length),zA (.ref (s.length+1)),zA (.ref (s.length+2)),zA (.str n),zB]) (s3:=s++[O.dct [],O.dct [],.lst [],.dct []])]
 ·simp[ga0,ga1,t,VA,kB,Qn];rfl
 ·simp[ga2]
 ·simp[ga0,ga1,ga2,gs2,o,r,ga3,gs3,jn,jJ,qR,yj]
 ·simp[ga2]
section
variable {b:Int}{TT K:List (D×D)}{n:T}{r:M.S}
theorem iM (x:KOk K) (Y:K.length <= 1000):Ky [.ref 11,.str n] (yS b TT K r)=.ok (.ref (yS b TT K r).length) (yS b TT K r++[.lst []]):=by
 obtain⟨N,t',e,l,hn⟩:=Ck (σ:=[zA (.ref 11),zA (.str n),zB]) rfl (s0:=(yS b TT K r).set 12 (.fdc K)) (K:=K) [] x;rw[qo,Xw] at e;rw[Xw] at l;have z:K.length <= SZ:=by unfold SZ;lia
 have y:yd 2 (Xj (jI 6 0 (zD 0))) (Zo (qq (jL 3) (qq (jL 4) Zf))) qE (jq (zQ (zD 3) (zQ (zp Zr (zQ (eOp jN (zD 4) (eC (.int 1))) zS)) zS))) [zA (.ref 11),zA (.str n),zB] ((yS b TT K r).set 12 (.fdc K))=.ok (N.map λp:D×D=>.tup [p.1,p.2]) ((yS b TT K r).set 12 (.fdc K)++t'):=by
  unfold yd;have:Xj (jI 6 0 (zD 0)) [zA (.ref 11),zA (.str n),zB] ((yS b TT K r).set 12 (.fdc K))=.ok (K.map λp:D×D=>D.tup [p.1,p.2],[]) ((yS b TT K r).set 12 (.fdc K)):=by simp[yS]
  rw[this,ji,if_pos ⟨by simpa using z,rfl⟩];exact e
 have A:(yS b TT K r)[11]? = zA (.ins 6 [zA (.ref 12)]):=rfl;have u:(yS b TT K r)[12]? = zA (.dct K):=rfl;have d:12 < (yS b TT K r).length:=by simp[yS]
 generalize hS:yS b TT K r=S at *;have B:=c2 l;have C:((S.set 12 (.fdc K)++t')++[O.lst (N.map λp=>.tup [p.1,p.2])])[(S.set 12 (.fdc K)++t').length]? = zA (.lst (N.map λp=>.tup [p.1,p.2])):=by simp
 have n1:N.length <= 1000:=by lia
 obtain⟨s1,f⟩:∃ s1,s1=((S.set 12 (.fdc K)++t')++[O.lst (N.map λp=>.tup [p.1,p.2])])++[O.dct (Qp N)]:=⟨_,rfl⟩
 have E:(jP 2 (zp xT (zQ (Z6 2 (Xj (jI 6 0 (zD 0))) (Zo (qq (jL 3) (qq (jL 4) Zf))) qE (jq (zQ (zD 3) (zQ (zp Zr (zQ (eOp jN (zD 4) (eC (.int 1))) zS)) zS)))) zS))) [zA (.ref 11),zA (.str n),zB] (S.set 12 (.fdc K))=.nx [zA (.ref 11),zA (.str n),zA (.ref ((S.set 12 (.fdc K)++t').length+1))] s1:=by
  simp only[jP,zp,zQ,zS,Z6,y,ji,alloc,xT,C,B,n1,if_true,jy,Qq,Qa,f];simp
  lia
 have a1:s1[12]? = zA (.fdc K):=by
  rw[f,yr,yr];exact Jh (Z3 d) _
 have a2:s1.set 12 (.dct K)=S++(t'++[O.lst (N.map λp=>.tup [p.1,p.2])]++[O.dct (Qp N)]):=by
  rw[f,yr,yr,List.set_append_left _ _ (by simpa using d),nG,yr]
  congr 1
  refine OW λi=>?_;by_cases hi:12=i
  ·subst hi;rw[Z3 d,u]
  ·rw[Qd hi]
 obtain⟨s2,c⟩:∃ s2,s2=S++(t'++[O.lst (N.map λp=>.tup [p.1,p.2])]++[O.dct (Qp N)]):=⟨_,rfl⟩
 have lt:(S.set 12 (.fdc K)++t').length+1=S.length+t'.length+1:=by simp
 have G:s2[S.length+t'.length+1]? = zA (.dct (Qp N)):=by
  rw[c,yi (by lia),show S.length+t'.length+1 - S.length=t'.length+1 by lia];simp
 have H:yZ s2 (Qp N):=by
  have m:yZ s2 N:=λp o=>by
   obtain⟨m,j,I,h⟩:=l p o;refine⟨m,j,I,?_⟩;have J:j≠12:=λz=>by
    subst z;rw[yQ (by simpa using d),Z3 d] at h;cases h
   rw[c,<- yr,<- yr,yr];refine Jh ?_ _;by_cases v:j < S.length
   ·rw[yQ (by simpa using v),Qd (yJ J)] at h;rw[yQ v];exact h
   ·rw[yi (by simp;lia),xK] at h;rw[yi (by lia)];exact h
  exact yZ.puts (λp o=>by cases o) m
 have t:yZ (s2++[O.lst [.str n]]) (Qp N):=H.app;obtain⟨g,L,Q⟩:=LK (s:=s2++[O.lst [.str n]]) (p:=S.length+t'.length+1) (q:=s2.length) (n:=n) (Jh G _) t (by simp);refine KD (g:=(t'++[O.lst (N.map λp=>.tup [p.1,p.2])]++[O.dct (Qp N)])++([O.lst [.str n]]++g)) (j:=(s2++[O.lst [.str n]]).length+4) ?_ ?_ ?_ rfl
 ·show (Vl [zA (.ref 11),zA (.str n),zB] S).out=_;unfold Vl;have U:(Yy 6 0 0 (jP 2 (zp xT (zQ (Z6 2 (Xj (jI 6 0 (zD 0))) (Zo (qq (jL 3) (qq (jL 4) Zf))) qE (jq (zQ (zD 3) (zQ (zp Zr (zQ (eOp jN (zD 4) (eC (.int 1))) zS)) zS)))) zS)))) [zA (.ref 11),zA (.str n),zB] S=.nx [zA (.ref 11),zA (.str n),zA (.ref (S.length+t'.length+1))] s2:=by
   rw[c,<- a2,<- lt];unfold Yy;simp only[qO,Xi,A,if_true,jy,u,E,thaw,UL,a1]
  rw[ze,U,y2];simp only[z9,zp,zQ,zS,zD,Zi,qw,qO,ji,qL,Jb,alloc,kB,if_true];rw[if_pos (by unfold SZ;decide)];simp only[ji,L,jy,xW];rw[c];simp
 ·have:S++(t'++[O.lst (N.map λp=>.tup [p.1,p.2])]++[O.dct (Qp N)]++([O.lst [.str n]]++g))=s2++[O.lst [.str n]]++g:=by rw[c];simp
  rw[this];exact Q
 ·rw[c];simp;lia
theorem M1 (f:KOk K) (g:K.length <= 1000) {v:D} (h:jJ (.str n) K=zA v):uu [.ref 11,.str n] (yS b TT K r)=.ok .non (yS b TT (jR (.str n) K) r++[.lst []]):=by
 show (XJ [zA (.ref 11),zA (.str n),zB] (yS b TT K r)).out=_;have e:=iM (b:=b) (TT:=TT) (n:=n) (r:=r) f g;unfold XJ;have i:(yS b TT K r)[11]? = zA (.ins 6 [zA (.ref 12)]):=rfl;have j:(yS b TT K r)[12]? = zA (.dct K):=rfl;have c:(yS b TT K r++[O.lst []])[11]? = zA (.ins 6 [zA (.ref 12)]):=rfl;have d:(yS b TT K r++[O.lst []])[12]? = zA (.dct K):=rfl;have l:(yS b TT K r++[O.lst []]).set 12 (.dct (jR (.str n) K))=yS b TT (jR (.str n) K) r++[.lst []]:=rfl;have m:(yS b TT K r++[O.lst []])[(yS b TT K r).length]? = zA (.lst []):=ga0;generalize yS b TT K r=S at *;simp[i,j,jn,h,e,m,z8,qR,c,d,yj,l]
theorem Hx (h:jJ (.str n) K=zB):uu [.ref 11,.str n] (yS b TT K r)=.ok .non (yS b TT K r):=by
 show (XJ [zA (.ref 11),zA (.str n),zB] (yS b TT K r)).out=_;unfold XJ;have c:(yS b TT K r)[11]? = zA (.ins 6 [zA (.ref 12)]):=rfl;have d:(yS b TT K r)[12]? = zA (.dct K):=rfl;generalize yS b TT K r=S at *;simp[c,d,jn,h]
end
def KC (K:List (D×D)):Prop:=∀ p∈K,(∃ k,p.1=.str k)/\(p.2=Z2\/∃ t,p.2=Zd t)
def TC (TT:List (D×D)):Prop:=∀ p∈TT,(∃ k,p.1=.str k)/\∃ t,p.2=.str t
def RC (r:M.S):Prop:=clS (r.length+13) r=zC
theorem KC.ok {K:List (D×D)} (h:KC K):KOk K:=λp d=>by
 obtain⟨e,c⟩:=h p d;refine⟨e,?_⟩;rcases c with c | ⟨t,c⟩
 ·exact⟨_,_,c⟩
 ·exact⟨_,_,c⟩
theorem KC.cl {K:List (D×D)} (h:KC K) (n:Nat):(K.all λp=>D.cl n p.1 && D.cl n p.2)=zC:=by
 rw[ja];intro p d;obtain⟨⟨k,e⟩,c⟩:=h p d;rcases c with c | ⟨t,c⟩<;>rw[e,c]<;>rfl
theorem TC.cl {K:List (D×D)} (h:TC K) (n:Nat):(K.all λp=>D.cl n p.1 && D.cl n p.2)=zC:=by
 rw[ja];intro p c;obtain⟨⟨k,d⟩,t,e⟩:=h p c;rw[d,e];rfl
theorem KC.drop {K:List (D×D)} (h:KC K) (k:D):KC (jR k K):=λp c=>h p (X3.mp c).1
theorem TC.drop {K:List (D×D)} (h:TC K) (k:D):TC (jR k K):=λp c=>h p (X3.mp c).1
theorem TC.put {K:List (D×D)} (h:TC K) (n t:T):TC (j1 (.str n) (.str t) K):=by
 unfold j1;split
 ·intro q c;obtain⟨x,hx,rfl⟩:=Zn.mp c;by_cases e:x.1=.str n
  ·rw[if_pos e];exact⟨(h x hx).1,_,rfl⟩
  ·rw[if_neg e];exact h x hx
 ·intro q c;rcases Jl.mp c with c | c
  ·exact h q c
  ·have:q=(.str n,.str t):=by simpa using c
   subst this;exact⟨⟨_,rfl⟩,_,rfl⟩
theorem oB {k:D}{K:List (D×D)} (h:jJ k K=zB):jR k K=K:=by
 unfold jJ at h;rw[O7] at h;unfold jR;rw[lu];intro p c;have:=h p c;simp at this;simp;exact λz=>this z.symm
theorem lT {k:D}{K:List (D×D)}:(jR k K).length <= K.length:=kP _ _
section
variable {b:Int}{TT K:List (D×D)}{n t:T}{r:M.S}
theorem yy:(yS b TT K r).length=r.length+13:=by simp[yS]
theorem kC (c:TC TT) (d:KC K) (e:RC r):clS (yS b TT K r).length (yS b TT K r)=zC:=by
 rw[yy];have f:=c.cl (r.length+13);have g:=d.cl (r.length+13);have i:(r.all (O.cl (r.length+13)))=zC:=e;unfold yS clS;have l:∀ k:Nat,k < 13->k < r.length+13:=λk h=>by lia
 simp only[JJ,O.cl,D.cl,D.cl.all,nQ,f,g,i,US,Xd,Eb,decide_eq_true_eq];simp only[l 0 (by lia),l 1 (by lia),l 2 (by lia),l 6 (by lia),l 7 (by lia),l 8 (by lia),l 9 (by lia),l 10 (by lia),l 11 (by lia),l 12 (by lia),decide_true,Eb]
theorem cI (f:TC TT) (d:KC K) (i:RC r) (j:K.length <= 1000):Kl [.ref 11,.str n] (yS b TT K r)=.ok .non (yS b TT (jR (.str n) K) r):=by
 have c:=kC (b:=b) f (d.drop (.str n)) i;have e:(yS b TT (jR (.str n) K) r).length=(yS b TT K r).length:=by rw[yy,yy]
 rw[e] at c;cases h:jJ (.str n) K with
 | none =>
  have q:=oB h;rw[q] at c ⊢;exact JN (g:=[]) (by rw[qo];exact Hx h) rfl c rfl
 | some v=>exact JN (M1 d.ok j h) e c rfl
theorem D2 (g:GN n) (d:Ja t=zC) (f:TC TT) (h:KC K) (i:RC r) (j:K.length <= 1000) (v:TT.length <= 1000):kR [.ref 0,.str n,.str t] (yS b TT K r)=.ok .non (yS b (j1 (.str n) (.str t) TT) (jR (.str n) K) r):=by
 have c:=kC (b:=b) (f.put n t) (h.drop (.str n)) i;have e:(yS b (j1 (.str n) (.str t) TT) (jR (.str n) K) r).length=(yS b TT K r).length:=by rw[yy,yy]
 rw[e] at c;refine JN (g:=[]) ?_ e c rfl;rw[qo];have l:=cI (b:=b) (n:=n) (f.put n t) h i j;have m:t.length <= SZ:=by
  unfold Ja at d;rw[j8] at d;have:=of_decide_eq_true d.1;unfold SZ;lia
 have zz:TT.length < SZ:=by unfold SZ;lia
 have o:(yS b TT K r)[0]? = zA (.ins 10 [zA (.tup [.ref 1,.ref 2]),zA (.ref 6),zA (.ref 10),zA (.ref 11)]):=rfl;have p:(yS b TT K r)[10]? = zA (.dct TT):=rfl;have q:(yS b TT K r).set 10 (.dct (j1 (.str n) (.str t) TT))=yS b (j1 (.str n) (.str t) TT) K r:=rfl;have s:(yS b (j1 (.str n) (.str t) TT) K r)[0]? = zA (.ins 10 [zA (.tup [.ref 1,.ref 2]),zA (.ref 6),zA (.ref 10),zA (.ref 11)]):=rfl;have u:(yS b (j1 (.str n) (.str t) TT) K r)[11]? = zA (.ins 6 [zA (.ref 12)]):=rfl;show (vk [zA (.ref 0),zA (.str n),zA (.str t)] (yS b TT K r)).out=_;unfold vk V2 YH Vu Vt;simp[VH g,Jq,d,m,o,p,q,s,u,jn,zz,l]
theorem Dl (g:GN n) {v:D} (i:jJ (.str n) TT=zA v) (d:TC TT) (f:KC K) (h:RC r) (j:K.length <= 1000):xg [.ref 0,.str n] (yS b TT K r)=.ok .non (yS b (jR (.str n) TT) (jR (.str n) K) r):=by
 have c:=kC (b:=b) (d.drop (.str n)) (f.drop (.str n)) h;have e:(yS b (jR (.str n) TT) (jR (.str n) K) r).length=(yS b TT K r).length:=by rw[yy,yy]
 rw[e] at c;have l:=cI (b:=b) (n:=n) (d.drop (.str n)) f h j;have o:(yS b TT K r)[0]? = zA (.ins 10 [zA (.tup [.ref 1,.ref 2]),zA (.ref 6),zA (.ref 10),zA (.ref 11)]):=rfl;have p:(yS b TT K r)[10]? = zA (.dct TT):=rfl;have q:(yS b TT K r).set 10 (.dct (jR (.str n) TT))=yS b (jR (.str n) TT) K r:=rfl;have s:(yS b (jR (.str n) TT) K r)[0]? = zA (.ins 10 [zA (.tup [.ref 1,.ref 2]),zA (.ref 6),zA (.ref 10),zA (.ref 11)]):=rfl;have u:(yS b (jR (.str n) TT) K r)[11]? = zA (.ins 6 [zA (.ref 12)]):=rfl;have m:uT [.ref 0,.str n] (yS b TT K r)=.ok .non (yS b (jR (.str n) TT) (jR (.str n) K) r++[]):=by
  rw[qo];show (kO [zA (.ref 0),zA (.str n)] (yS b TT K r)).out=_;unfold kO;simp[VH g,o,p,q,s,u,jn,i,l,yj]
 unfold xg;rw[Gf m];exact JN m e c rfl
theorem L8 (g:GN n) (c:jJ (.str n) TT=zB):xg [.ref 0,.str n] (yS b TT K r)=.exc (.tup [.int 26]) (yS b TT K r):=by
 have d:(yS b TT K r)[0]? = zA (.ins 10 [zA (.tup [.ref 1,.ref 2]),zA (.ref 6),zA (.ref 10),zA (.ref 11)]):=rfl;have e:(yS b TT K r)[10]? = zA (.dct TT):=rfl;have m:uT [.ref 0,.str n] (yS b TT K r)=.exc (.tup [.int 26]) (yS b TT K r++[]):=by
  rw[qo];show (kO [zA (.ref 0),zA (.str n)] (yS b TT K r)).out=_;unfold kO;simp[VH g,d,e,jn,c]
 exact hV m rfl
end
noncomputable def fD (V:List T) (f:T->D):List (D×D):=V.map λx=>(D.str x,f x)
theorem JB:∀ {V:List T}{x:T},x∈V->jJ (.str x) (fD V f)=zA (f x)
 | [],_,h=>by cases h
 | v::V,x,h=>by
  unfold fD jJ;rw[ju,Zz];by_cases e:x=v
  ·subst e;simp
  ·have c:(D.str x == D.str v)=zP:=by simpa using e
   rw[c];exact JB (by rcases jc.mp h with h | h;exact absurd h e;exact h)
theorem Kn:∀ {V:List T}{x:T},x∉V->jJ (.str x) (fD V f)=zB
 | [],_,_=>rfl
 | v::V,x,h=>by
  unfold fD jJ;rw[ju,Zz];have c:(D.str x == D.str v)=zP:=by
   have:x≠v:=λe=>h (e ▸ qM);simpa using this
  rw[c];exact Kn λq=>h (jj _ q)
theorem mZ {V:List T}{x:T} (h:x∈V):j1 (.str x) v (fD V f)=fD V λz=>if z=x then v else f z:=by
 unfold j1 fD;rw[if_pos (by rw[mJ,CW];exact⟨x,h,by simp⟩),JA];refine Jd λz _=>?_;simp only[eK,D.str.injEq];split<;>rfl
theorem QR {V:List T}:(fD V f).length=V.length:=by unfold fD;simp
theorem bf {V:List T}:(fD V f).map (·.1)=V.map D.str:=by unfold fD;rw[JA];rfl
theorem DA:∀ {V:List T} (c:List (D×D)),V.Nodup->(∀ x∈V,(c.any λp=>decide (p.1=.str x))=zP)->(fD V f).foldl (λa p=>j1 p.1 p.2 a) c=c++fD V f
 | [],c,_,_=>by simp[fD]
 | v::V,c,d,h=>by
  rw[Q4] at d;have e:j1 (.str v) (f v) c=c++[(.str v,f v)]:=by
   unfold j1;rw[h v qM];rfl
  show (fD V f).foldl _ (j1 (.str v) (f v) c)=_;rw[e,DA _ d.2 λx hx=>by
   rw[List.any_append,h x (jj _ hx)];have:v≠x:=λq=>d.1 (q ▸ hx);simp[this]]
  rw[yr];rfl
theorem OV {V:List T} (c:V.Nodup):Qp (fD V f)=fD V f:=by
 unfold Qp;rw[DA [] c λ_ _=>rfl,Xw]
theorem BL {f:T->D} (h:∀ x,D.cl n (f x)=zC) (V:List T):O.cl n (.dct (fD V f))=zC:=by
 show ((fD V f).all λp=>D.cl n p.1 && D.cl n p.2)=zC;unfold fD;rw[eZ];refine ja.mpr λx _=>?_;simp only[eK,h x,US];rfl
theorem bu (x:T):∀ ts:List T,(zt.insT' x ts).Perm (x::ts)
 | []=>.refl _
 | y::r=>by
  unfold zt.insT';split
  ·exact ((bu x r).cons y).trans (.swap x y r)
  ·exact .refl _
theorem kS:∀ ts:List T,(zt ts).Perm ts
 | []=>.refl _
 | x::r=>(bu x _).trans ((kS r).cons x)
theorem IR {ts:List T} (h:ts.Nodup):(zt ts).Nodup:=(kS ts).nodup_iff.mpr h
theorem fF {ts:List T} (h:ts.length <= 1000) (s:M.S):VA (ts.map .str) s=alloc (.lst ((zt ts).map .str)) s:=by
 unfold VA;rw[GP];dsimp only;rw[if_pos (by lia)]
def jV (y:T) (ks:List T):List T:=if y∈ks then ks else ks++[y]
theorem Uc {x y:T}:x∈jV y ks↔x∈ks\/x=y:=by
 unfold jV;split
 ·rename_i h;constructor
  ·exact .inl
  ·rintro (c | rfl)
   ·exact c
   ·exact h
 ·simp
theorem C4 {y:T}{ks:List T} (h:ks.Nodup):(jV y ks).Nodup:=by
 unfold jV;split
 ·exact h
 ·rename_i q;rw[DC];exact⟨h,by simp,λa ha b c z=>by simp at c;subst c;subst z;exact q ha⟩
theorem oo {f:T->D}{K:List T}{x:T} (h:x∉K):j1 (.str x) (f x) (fD K f)=fD (K++[x]) f:=by
 unfold j1;rw[if_neg (by
  unfold fD;rw[mJ,CW]
  rintro ⟨y,c,e⟩
  simp at e;exact h (e ▸ c))]
 unfold fD;rw[BM];rfl
theorem lX {d:Type} (k:d->T) (f:d->D) (c:List d):Qy (c.map λy=>.tup [.str (k y),f y])=zA (c.map λy=>(.str (k y),f y)):=by
 induction c with
 | nil=>rfl
 | cons y c e =>
  show (if jn (.str (k y)) then (Qy (c.map λy=>.tup [.str (k y),f y])).map _ else zB)=_;rw[e];rfl
theorem Mp (f:T->D) (V:List T):Qy (V.map λx=>.tup [.str x,f x])=zA (fD V f):=lX (λx=>x) f V
abbrev tD (L:List T) (f:T->T):List (D×D):=fD L λx=>.str (f x)
def qG (L:List T) (f:T->T) (n:T):D:=if n∈L then Zd (f n) else Z2
def Jz (L:List T) (f:T->T) (n:T):D:=if n∈L then .tup [.str [116,101,120,116],.str (f n)] else .tup [.str [102,97,105,108,115],.str [110,111,32,114,117,108,101]]
abbrev kD (L:List T) (f:T->T) (ks:List T):List (D×D):=fD ks (qG L f)
theorem wY (L:List T) (f:T->T) (n:T):qG L f n=Z2\/∃ t,qG L f n=Zd t:=by
 unfold qG;split
 ·exact .inr ⟨_,rfl⟩
 ·exact .inl rfl
theorem xP (L:List T) (f:T->T) (ks:List T):KC (kD L f ks):=λp c=>by
 obtain⟨x,_,rfl⟩:=Zn.mp c;exact⟨⟨_,rfl⟩,wY L f x⟩
theorem JY (L:List T) (f:T->T):TC (tD L f):=λp c=>by
 obtain⟨x,_,rfl⟩:=Zn.mp c;exact⟨⟨_,rfl⟩,_,rfl⟩
theorem Kj {V:List T}{x:T}:jR (.str x) (fD V f)=fD (V.filter λz=>decide (z≠x)) f:=by
 unfold jR fD;rw[List.filter_map]
 congr 1
 refine List.filter_congr λz _=>?_;simp[eK]
theorem K9 {f g:T->D}{V:List T} (h:∀ x∈V,f x=g x):fD V f=fD V g:=Jd λx hx=>by rw[h x hx]
def yK (f:T->T) (n t:T):T->T:=λz=>if z=n then t else f z
theorem VX {n t:T}:j1 (.str n) (.str t) (tD L f)=tD (jV n L) (yK f n t):=by
 unfold jV yK;by_cases h:n∈L
 ·rw[if_pos h,mZ h];exact K9 λx _=>by by_cases e:x=n<;>simp[e]
 ·rw[if_neg h];have c:tD L f=fD L λx=>.str (if x=n then t else f x):=K9 λx hx=>by
   have:x≠n:=λz=>h (z ▸ hx);simp[this]
  have:=oo (f:=λx=>D.str (if x=n then t else f x)) h;rw[if_pos rfl] at this;rw[c,this]
theorem LA {n:T}:jR (.str n) (kD L f ks)=kD (jV n L) (yK f n t) (ks.filter λz=>decide (z≠n)):=by
 rw[Kj];refine K9 λx hx=>?_;have hx:x≠n:=by simpa using (X3.mp hx).2
 unfold qG yK;have e:x∈jV n L↔x∈L:=by rw[Uc];simp[hx]
 by_cases h:x∈L<;>simp[h,e,hx]
theorem f7 {n:T}:jR (.str n) (kD L f ks)=kD (L.filter λz=>decide (z≠n)) f (ks.filter λz=>decide (z≠n)):=by
 rw[Kj];refine K9 λx hx=>?_;have hx:x≠n:=by simpa using (X3.mp hx).2
 unfold qG;have e:x∈(L.filter λz=>decide (z≠n))↔x∈L:=by simp[hx]
 by_cases h:x∈L
 ·rw[if_pos h,if_pos (e.mpr h)]
 ·rw[if_neg h,if_neg (λz=>h (e.mp z))]
section
variable {b:Int}{L ks:List T}{f:T->T}{n:T}{o1 o2 o3 o4:O}
theorem Cm (g:GN n) (r:RC [o1,o2,o3,o4]) (s:ks.length <= 1000):xb [.ref 0,.str n] (yS b (tD L f) (kD L f ks) [o1,o2,o3,o4])=.ok (qG L f n) (yS b (tD L f) (kD L f (jV n ks)) [o1,o2,o3,o4]):=by
 have c:=kC (b:=b) (JY L f) (xP L f (jV n ks)) r;have e:∀ j,(yS b (tD L f) (kD L f j) [o1,o2,o3,o4]).length=17:=λ_=>by rw[yy];rfl
 rw[e] at c;have m:(kD L f ks).length < SZ:=by rw[QR];unfold SZ;lia
 have o:D.cl 17 (qG L f n)=zC:=by rcases wY L f n with h | ⟨t,h⟩<;>rw[h]<;>rfl
 by_cases h:n∈ks
 ·have l:jV n ks=ks:=by unfold jV;rw[if_pos h]
  rw[l] at c ⊢;have d:=JB (f:=qG L f) h;have a:xN [.ref 0,.str n] (yS b (tD L f) (kD L f ks) [o1,o2,o3,o4])=.ok (qG L f n) (yS b (tD L f) (kD L f ks) [o1,o2,o3,o4]++[]):=by
   rw[qo];rcases wY L f n with p | ⟨t,p⟩<;>rw[p] at d ⊢<;>exact Ht g d _
  exact JN a rfl (by rw[e];exact c) (by rw[e];exact o)
 ·have l:kD L f (jV n ks)=kD L f ks++[(.str n,qG L f n)]:=by
   unfold jV;rw[if_neg h];unfold kD fD;rw[BM];rfl
  have d:jJ (.str n) (kD L f ks)=zB:=Kn h;have a:∃ q,xN [.ref 0,.str n] (yS b (tD L f) (kD L f ks) [o1,o2,o3,o4])=.ok (qG L f n) (yS b (tD L f) (kD L f (jV n ks)) [o1,o2,o3,o4]++q):=by
   rw[l];by_cases i:n∈L
   ·have hd:qG L f n=Zd (f n):=by unfold qG;rw[if_pos i]
    rw[hd];exact⟨_,CH g d o1 o2 o3 o4 (IK (t:=f n) d m (JB (f:=λx=>D.str (f x)) i) o1 o2 o3 o4)⟩
   ·have hd:qG L f n=Z2:=by unfold qG;rw[if_neg i]
    rw[hd];exact⟨_,CH g d o1 o2 o3 o4 (HF g d m (Kn i) o1 o2 o3 o4)⟩
  obtain⟨q,a⟩:=a;exact JN a (by rw[e,e]) (by rw[e];exact c) (by rw[e];exact o)
theorem gA (g:GN n) (i:RC [o1,o2,o3,o4]) (l:ks.length <= 1000):XA [.ref 0,.str n] (yS b (tD L f) (kD L f ks) [o1,o2,o3,o4])=.ok (Jz L f n) (yS b (tD L f) (kD L f (jV n ks)) [o1,o2,o3,o4]):=by
 have c:=kC (b:=b) (JY L f) (xP L f (jV n ks)) i;have e:∀ d,(yS b (tD L f) (kD L f d) [o1,o2,o3,o4]).length=17:=λ_=>by rw[yy];rfl
 rw[e] at c;have a:=Cm (b:=b) (L:=L) (f:=f) (n:=n) g i l;have m:D.cl 17 (Jz L f n)=zC:=by unfold Jz;split<;>rfl
 refine JN (g:=[]) ?_ (by rw[e,e]) (by rw[e];exact c) (by rw[e];exact m);rw[qo];show (Vk [zA (.ref 0),zA (.str n)] _).out=_;unfold Vk;have j:(yS b (tD L f) (kD L f ks) [o1,o2,o3,o4])[0]? = zA (.ins 10 [zA (.tup [.ref 1,.ref 2]),zA (.ref 6),zA (.ref 10),zA (.ref 11)]):=rfl;generalize yS b (tD L f) (kD L f ks) [o1,o2,o3,o4]=s at *;unfold qG at a;unfold Jz;by_cases h:n∈L
 ·rw[if_pos h] at a ⊢;simp[j,a,Zd,atI,ixN]
 ·rw[if_neg h] at a ⊢;simp[j,a,Z2,atI,ixN]
end
theorem Ij {b:Int}{L:List T}{K:List (D×D)} (q:L.Nodup) (B:L.length <= 900):kI [.ref 0] (yS b (tD L f) K r)=alloc (.dct (tD (zt L) f)) (yS b (tD L f) K r):=by
 have l:(yS b (tD L f) K r)[0]? = zA (.ins 10 [zA (.tup [.ref 1,.ref 2]),zA (.ref 6),zA (.ref 10),zA (.ref 11)]):=rfl;have m:(yS b (tD L f) K r)[10]? = zA (.dct (tD L f)):=rfl;generalize yS b (tD L f) K r=s at *;have o:(zt L).length=L.length:=(kS L).length_eq;have ks:=fF (ts:=L) (by lia) s;have p:(s++[O.lst ((zt L).map .str)])[s.length]? = zA (.lst ((zt L).map .str)):=ga0;have h:=Jh l [O.lst ((zt L).map .str)];have i:=Jh m [O.lst ((zt L).map .str)];have st:∀ (s':M.S) x,s'[0]? = zA (.ins 10 [zA (.tup [.ref 1,.ref 2]),zA (.ref 6),zA (.ref 10),zA (.ref 11)])->s'[10]? = zA (.dct (tD L f))->x∈L->yL 1 (jL 1) qE (jq (zQ (zD 1) (zQ (eOp jN (jI 10 2 (zD 0)) (zD 1)) zS))) [zA (.ref 0)] (.str x) s'=.ok (zA (.tup [.str x,.str (f x)])) s':=λs' x h i hx=>by
  have t:=JB (f:=λx=>D.str (f x)) hx;simp[zm,h,i,jn,t,kB]
 have c:=ir (n:=1) (it:=iE (zp xh (zQ (jI 10 2 (zD 0)) zS))) (tg:=jL 1) (e:=jq (zQ (zD 1) (zQ (eOp jN (jI 10 2 (zD 0)) (zD 1)) zS))) (σ:=[zA (.ref 0)]) (s:=s) (s1:=s++[O.lst ((zt L).map .str)]) (xs:=(zt L).map .str) (g:=[(s.length,.lst ((zt L).map .str))]) (λd=>match d with | .str x=>.tup [.str x,.str (f x)] | d=>d)
  (by simp[l,m,bf,ks,p]) (by rw[qd,o];unfold SZ;lia) (by simp[z8,p]) λd hd=>by
   obtain⟨x,hx,rfl⟩:=Zn.mp hd;exact st _ x h i ((kS L).mem_iff.mp hx)
 rw[JA] at c;have u:=Mp (λx=>.str (f x)) (zt L);have pd:=OV (f:=λx=>.str (f x)) (IR q);have v:(tD (zt L) f).length <= 1000:=by rw[QR,o];lia
 refine KD (g:=[O.lst ((zt L).map .str),O.lst ((zt L).map λx=>.tup [.str x,.str (f x)]),.dct (tD (zt L) f)]) (j:=s.length+2) ?_ ga2 (by lia) (BL (λx=>rfl) _);show (vz [zA (.ref 0)] s).out=_;unfold vz;have y:(s++[O.lst ((zt L).map .str)])++[O.lst ((zt L).map λx=>.tup [.str x,.str (f x)])]=s++[O.lst ((zt L).map .str),O.lst ((zt L).map λx=>.tup [.str x,.str (f x)])]:=by simp
 have g1:(s++[O.lst ((zt L).map .str),O.lst ((zt L).map λx=>.tup [.str x,.str (f x)])])[s.length+1]? = zA (.lst ((zt L).map λx=>.tup [.str x,.str (f x)])):=ga1;have z:yd 1 (iE (zp xh (zQ (jI 10 2 (zD 0)) zS))) (jL 1) qE (jq (zQ (zD 1) (zQ (eOp jN (jI 10 2 (zD 0)) (zD 1)) zS))) [zA (.ref 0)] s=.ok ((zt L).map λx=>.tup [.str x,.str (f x)]) (s++[O.lst ((zt L).map .str)]):=c;have A:(s++[O.lst ((zt L).map .str)]).length=s.length+1:=by simp
 simp only[z9,zp,zQ,zS,Z6,z,ji,alloc,y,A,xT,g1,u,v,if_true,pd,jy,xW];simp
theorem cM {L:List T}:∀ (V:List T),(∀ x∈V,x∈L)->dEq s (tD L f) (tD V f)=zA zC
 | [],_=>rfl
 | x::V,h=>by
  have c:=JB (f:=λx=>D.str (f x)) (h x qM);have d:=cM (s:=s) (f:=f) V λy e=>h y (jj _ e);show (match jJ (.str x) (tD L f) with
   | none=>zA zP
   | some w=>match toP 8 s (.str (f x)),toP 8 s w,dEq s (tD L f) (tD V f) with
    | some p,zA q,zA b=>if P.dep p <= 64/\P.dep q <= 64 then zA (P.eqv p q && b) else zB
    | _,_,_=>zB)=_
  rw[c,d];show (if P.dep (.str (f x)) <= 64/\P.dep (.str (f x)) <= 64 then zA (P.eqv (.str (f x)) (.str (f x)) && zC) else zB)=_;simp[P.dep,P.eqv]
theorem w9 {s:M.S}{i j:Nat} (hi:s[i]? = zA (.dct (tD (zt L) f))) (c:s[j]? = zA (.dct (tD L f))):eqD (.ref i) (.ref j) s=.ok zC s:=by
 have e:toP ZP s (.ref i)=zB:=by
  show (match qf s i with | some xs=>(qI.all (λj=>toP 8 s (.ref j)) xs).map P.lst | none=>zB)=zB;rw[show qf s i=zB by simp[hi]]
 have l:(tD (zt L) f).length=(tD L f).length:=by rw[QR,QR];exact (kS L).length_eq
 have d:=cM (s:=s) (L:=L) (f:=f) (zt L) λx hx=>(kS L).mem_iff.mp hx;simp only[eqD,e,vT,hi,c,l,if_true,d]
theorem OH (L:List T) (f:T->T) (n:T):eqD (qG L f n) (qG L f n) s=.ok zC s:=by
 unfold qG;split
 ·simp[Zd,toP,ZP,qI,qI.all,P.dep,P.deps,P.eqv,P.eqvs]
 ·simp[Z2,toP,ZP,qI,qI.all,P.dep,P.deps,P.eqv,P.eqvs]
theorem Fc (L:List T) (f:T->T) (n:T):eqD (Jz L f n) (Jz L f n) s=.ok zC s:=by
 unfold Jz;split
 ·simp[toP,ZP,qI,qI.all,P.dep,P.deps,P.eqv,P.eqvs]
 ·simp[toP,ZP,qI,qI.all,P.dep,P.deps,P.eqv,P.eqvs]
noncomputable abbrev Xp:SM:=(ze (jP 4 (jq (zQ (jq (zQ (eC (.str [110,111,110,101])) zS)) (zQ (jq zS) (zQ (jq (zQ (eC (.str [102,97,105,108,115])) (zQ (eC (.str [110,111,32,114,117,108,101])) zS))) zS)))))
  (ze (sIf (jh cIn (zD 3) (zD 2))
  (jP 4 (jq (zQ (jq (zQ (eC (.str [103,105,118,101,110])) zS)) (zQ (jq zS) (zQ (jq (zQ (eC (.str [116,101,120,116])) (zQ (eOp jN (zD 2) (zD 3)) zS))) zS)))))
  jT)
  (sIf (tOr (jh cNe (jg 10 xb (zD 0) (zQ (zD 3) zS)) (zD 4)) (jh cNe (jg 10 XA (zD 0) (zQ (zD 3) zS)) (eOp jN (zD 4) (eC (.int 2)))))
  (z9 (eC (.bl zP)))
  jT)))
section
variable {b:Int}{L ks:List T}{f:T->T}{n:T}{o1 o3 o4:O}
theorem IU (g:GN n) (p:RC [o1,.dct (tD L f),o3,o4]) (B:ks.length+1 <= 1000) {v3 v4:Option D}:yO (jL 3) Xp (.str n) [zA (.ref 0),zA (.ref 13),zA (.ref 14),v3,v4,zB,zB] (yS b (tD L f) (kD L f ks) [o1,.dct (tD L f),o3,o4])=.nx [zA (.ref 0),zA (.ref 13),zA (.ref 14),zA (.str n),zA (qG L f n),zB,zB] (yS b (tD L f) (kD L f (jV n (jV n ks))) [o1,.dct (tD L f),o3,o4]):=by
 have a:=Cm (b:=b) (L:=L) (f:=f) (ks:=ks) g p (by lia);have l:(jV n ks).length <= ks.length+1:=by unfold jV;split<;>simp
 have o:=gA (b:=b) (L:=L) (f:=f) (ks:=jV n ks) g p (by lia);have q:∀ c,(yS b (tD L f) (kD L f c) [o1,.dct (tD L f),o3,o4])[0]? = zA (.ins 10 [zA (.tup [.ref 1,.ref 2]),zA (.ref 6),zA (.ref 10),zA (.ref 11)]):=λ_=>rfl;have t:∀ c,(yS b (tD L f) (kD L f c) [o1,.dct (tD L f),o3,o4])[14]? = zA (.dct (tD L f)):=λ_=>rfl;have u:=λs=>OH (s:=s) L f n;have v:=λs=>Fc (s:=s) L f n;have y:∀ s,jN (qG L f n) (.int 2) s=.ok (Jz L f n) s:=λs=>by
  unfold qG Jz;split<;>simp[Zd,Z2,atI,ixN]
 have z:=q ks;have A:=q (jV n ks);have r:=t ks;generalize yS b (tD L f) (kD L f ks) [o1,.dct (tD L f),o3,o4]=s0 at *;generalize yS b (tD L f) (kD L f (jV n ks)) [o1,.dct (tD L f),o3,o4]=s1 at *;generalize yS b (tD L f) (kD L f (jV n (jV n ks))) [o1,.dct (tD L f),o3,o4]=s2 at *;have tail:(sIf (tOr (jh cNe (jg 10 xb (zD 0) (zQ (zD 3) zS)) (zD 4)) (jh cNe (jg 10 XA (zD 0) (zQ (zD 3) zS)) (eOp jN (zD 4) (eC (.int 2))))) (z9 (eC (.bl zP))) jT) [zA (.ref 0),zA (.ref 13),zA (.ref 14),zA (.str n),zA (qG L f n),zB,zB] s0=.nx [zA (.ref 0),zA (.ref 13),zA (.ref 14),zA (.str n),zA (qG L f n),zB,zB] s2:=by
  simp only[sIf,tOr,jh,cNe,jg,zD,zQ,zS,qw,qO,ji,z,if_true,a,u,J0,jy,qj,if_false,A,o,eOp,eC,y,v,jT]
 by_cases h:n∈L
 ·have d:=JB (f:=λx=>D.str (f x)) h;have hd:qG L f n=Zd (f n):=by unfold qG;rw[if_pos h]
  rw[hd] at tail ⊢;show (Xp [zA (.ref 0),zA (.ref 13),zA (.ref 14),zA (.str n),v4,zB,zB] s0)=_;have e:(1:Nat) <= SZ:=by decide
  have i:(2:Nat) <= SZ:=by decide
  have j:(3:Nat) <= SZ:=by decide
  have m:(0:Nat) <= SZ:=by decide
  simp only[Xp,ze,jP,jq,eC,zQ,zS,zD,ji,qL,Jb,m3,m,e,i,j,if_true,jy,Qq,Qa,y2,sIf,jh,cIn,inD,qw,qO,r,jn,d,bP,eOp,jN];exact tail
 ·have d:=Kn (f:=λx=>D.str (f x)) h;have hd:qG L f n=Z2:=by unfold qG;rw[if_neg h]
  rw[hd] at tail ⊢;show (Xp [zA (.ref 0),zA (.ref 13),zA (.ref 14),zA (.str n),v4,zB,zB] s0)=_;have e:(1:Nat) <= SZ:=by decide
  have i:(2:Nat) <= SZ:=by decide
  have j:(3:Nat) <= SZ:=by decide
  have m:(0:Nat) <= SZ:=by decide
  simp only[Xp,ze,jP,jq,eC,zQ,zS,zD,ji,qL,Jb,m3,m,e,i,j,if_true,jy,Qq,Qa,y2,sIf,jh,cIn,inD,qw,qO,r,jn,d,av,jT,qj,if_false];exact tail
theorem EU (h:RC [o1,.dct (tD L f),o3,o4]) (i:∀ ks,z8 G (yS b (tD L f) (kD L f ks) [o1,.dct (tD L f),o3,o4])=zC):∀ (ns ks:List T) (v3 v4:Option D),(∀ n∈ns,GN n)->ks.length+2 * ns.length <= 1000->∃ c d g,qR G (yO (jL 3) Xp) (ns.map .str) [zA (.ref 0),zA (.ref 13),zA (.ref 14),v3,v4,zB,zB] (yS b (tD L f) (kD L f ks) [o1,.dct (tD L f),o3,o4])=.nx [zA (.ref 0),zA (.ref 13),zA (.ref 14),d,g,zB,zB] (yS b (tD L f) (kD L f c) [o1,.dct (tD L f),o3,o4])/\c.length <= ks.length+2 * ns.length
 | [],ks,v3,v4,_,_=>⟨ks,v3,v4,rfl,by simp⟩
 | n::ns,ks,v3,v4,j,o=>by
  rw[qL] at o;have e:=IU (b:=b) (L:=L) (f:=f) (ks:=ks) (v3:=v3) (v4:=v4) (j n qM) h (by lia);have l:∀ ks:List T,(jV n ks).length <= ks.length+1:=λks=>by unfold jV;split<;>simp
  have s:=l ks;have t:=l (jV n ks);obtain⟨c,p,q,r,u⟩:=EU h i ns (jV n (jV n ks)) (zA (.str n)) (zA (qG L f n)) (λm hm=>j m (jj _ hm)) (by lia);refine⟨c,p,q,?_,by rw[qL];lia⟩;rw[ju,qR,e];dsimp only;rw[if_pos (i _),r]
end
def OC (o:O):Prop:=∀ n,O.cl n o=zC
theorem OC.strs (ts:List T):OC (.lst (ts.map .str)):=λn=>C2 n ts
theorem OC.tD (L:List T) (f:T->T):OC (.dct (tD L f)):=λn=>BL (λx=>rfl) L
theorem RC.of {r:M.S} (h:∀ o∈r,OC o):RC r:=ja.mpr λo c=>h o c _
theorem OC.ints (cs:List Int):OC (.lst (cs.map .int)):=λn=>by
 show D.cl.all n (cs.map .int)=zC
 induction cs with
 | nil=>rfl
 | cons c cs d=>exact d
noncomputable abbrev zT:T:=[122]
theorem eN:GN zT:=⟨by decide +kernel,by decide,by decide +kernel⟩
theorem OM {b:Int}{TT K:List (D×D)}:vw [.ref 0] (yS b TT K r)=alloc (.lst []) (yS b TT K r):=by
 refine KD (g:=[.lst []]) (j:=(yS b TT K r).length) ?_ ga0 (jB _) rfl;have c:(yS b TT K r)[0]? = zA (.ins 10 [zA (.tup [.ref 1,.ref 2]),zA (.ref 6),zA (.ref 10),zA (.ref 11)]):=rfl;have d:(yS b TT K r)[6]? = zA (.ins 7 [zA (.ref 7),zA (.ref 9)]):=rfl;have e:(yS b TT K r)[9]? = zA (.lst []):=rfl;show (v7 [zA (.ref 0)] (yS b TT K r)).out=_;unfold v7;generalize yS b TT K r=s at *;simp[c,d,e]
section
variable {b:Int}{L ks nm:List T}{cs:List Int}{f:T->T}
theorem cN (hn:L.Nodup) (hL:L.length <= 800) (Q:zT∉L) (hg:∀ n∈nm,GN n) (h6:nm.length <= 6) (hk:ks.length <= 900):∃ d:List T,xq [.ref 0,.ref 13,.ref 14] (yS b (tD L f) (kD L f ks) [.lst (nm.map .str),.dct (tD L f),.lst (cs.map .int)])=.ok (.bl zC) (yS b (tD L f) (kD L f d) [.lst (nm.map .str),.dct (tD L f),.lst (cs.map .int)])/\d.length <= ks.length+24:=by
 have r4:∀ o∈[O.lst (nm.map .str),.dct (tD L f),.lst (cs.map .int),.lst ((nm++nm).map .str)],OC o:=by
  intro o v;simp only[jc,vP,or_false] at v;rcases v with rfl | rfl | rfl | rfl
  ·exact OC.strs _
  ·exact OC.tD _ _
  ·exact OC.ints _
  ·exact OC.strs _
 obtain⟨A,v3,v4,e1,l1⟩:=EU (b:=b) (L:=L) (f:=f) (o1:=.lst (nm.map .str)) (o3:=.lst (cs.map .int)) (o4:=.lst ((nm++nm).map .str)) (G:=[(16,.lst ((nm++nm).map .str))]) (RC.of r4) (λks=>by simp[z8,yS]) (nm++nm) ks zB zB (λn h=>hg n (by simpa using h)) (by simp;lia);obtain⟨K,J⟩:∃ K,K=kD L f A:=⟨_,rfl⟩
 have kc:KC K:=by rw[J];exact xP L f A
 have kl:K.length <= 1000:=by rw[J,QR];simp at l1;lia
 rw[<- J] at e1;have sl:(zt L).length=L.length:=(kS L).length_eq;have U:∀ K r,kI [.ref 0] (yS b (tD L f) K r)=alloc (.dct (tD (zt L) f)) (yS b (tD L f) K r):=λK r=>Ij hn (by lia);have x1:vZ [zA (.ref 0),zA (.ref 13),zA (.ref 14),zB,zB,zB,zB] (yS b (tD L f) (kD L f ks) [.lst (nm.map .str),.dct (tD L f),.lst (cs.map .int)])=.nx [zA (.ref 0),zA (.ref 13),zA (.ref 14),v3,v4,zB,zB] (yS b (tD L f) K [.lst (nm.map .str),.dct (tD L f),.lst (cs.map .int),.lst ((nm++nm).map .str)]):=by
  unfold vZ;have ei:iE (eOp yb (zD 1) (zD 1)) [zA (.ref 0),zA (.ref 13),zA (.ref 14),zB,zB,zB,zB] (yS b (tD L f) (kD L f ks) [.lst (nm.map .str),.dct (tD L f),.lst (cs.map .int)])=.ok ((nm++nm).map .str,[(16,.lst ((nm++nm).map .str))]) (yS b (tD L f) (kD L f ks) [.lst (nm.map .str),.dct (tD L f),.lst (cs.map .int),.lst ((nm++nm).map .str)]):=by
   have z:nm.length+nm.length <= SZ:=by unfold SZ;lia
   simp[yS,z]
  have eg:z8 [(16,.lst ((nm++nm).map .str))] (yS b (tD L f) (kD L f ks) [.lst (nm.map .str),.dct (tD L f),.lst (cs.map .int),.lst ((nm++nm).map .str)])=zC:=by simp[z8,yS]
  simp only[QE,ei,jy,eg,if_true];exact e1
 have Y:=fF (ts:=L) (by lia);obtain⟨C,u⟩:∃ C:M.S,C=[.lst (nm.map .str),.dct (tD L f),.lst (cs.map .int),.lst ((nm++nm).map .str),.dct (tD (jV zT (zt L)) (yK f zT zT)),.lst ((zt L).map .str),.lst ((zt L).map .str)]:=⟨_,rfl⟩
 have x2:K5 [zA (.ref 0),zA (.ref 13),zA (.ref 14),v3,v4,zB,zB] (yS b (tD L f) K [.lst (nm.map .str),.dct (tD L f),.lst (cs.map .int),.lst ((nm++nm).map .str)])=.nx [zA (.ref 0),zA (.ref 13),zA (.ref 14),v3,v4,zA (.ref 17),zB] (yS b (tD L f) K [.lst (nm.map .str),.dct (tD L f),.lst (cs.map .int),.lst ((nm++nm).map .str),.dct (tD (zt L) f)]):=by
  unfold K5;have B:(yS b (tD L f) K [.lst (nm.map .str),.dct (tD L f),.lst (cs.map .int),.lst ((nm++nm).map .str)])[0]? = zA (.ins 10 [zA (.tup [.ref 1,.ref 2]),zA (.ref 6),zA (.ref 10),zA (.ref 11)]):=rfl;simp only[jP,jg,zD,zS,qO,ji,B,if_true,U,alloc,jy,Qq,Qa];rfl
 have x3:VJ [zA (.ref 0),zA (.ref 13),zA (.ref 14),v3,v4,zA (.ref 17),zB] (yS b (tD L f) K [.lst (nm.map .str),.dct (tD L f),.lst (cs.map .int),.lst ((nm++nm).map .str),.dct (tD (zt L) f)])=.nx [zA (.ref 0),zA (.ref 13),zA (.ref 14),v3,v4,zA (.ref 17),zB] (yS b (tD L f) K [.lst (nm.map .str),.dct (tD L f),.lst (cs.map .int),.lst ((nm++nm).map .str),.dct (tD (zt L) f),.lst ((zt L).map .str),.lst ((zt L).map .str)]):=by
  unfold VJ;have B:(yS b (tD L f) K [.lst (nm.map .str),.dct (tD L f),.lst (cs.map .int),.lst ((nm++nm).map .str),.dct (tD (zt L) f)])[17]? = zA (.dct (tD (zt L) f)):=rfl;have E:(yS b (tD L f) K [.lst (nm.map .str),.dct (tD L f),.lst (cs.map .int),.lst ((nm++nm).map .str),.dct (tD (zt L) f)]++[O.lst ((zt L).map .str)])[14]? = zA (.dct (tD L f)):=rfl;have h3:(yS b (tD L f) K [.lst (nm.map .str),.dct (tD L f),.lst (cs.map .int),.lst ((nm++nm).map .str),.dct (tD (zt L) f)]).length=18:=by rw[yy];rfl
  obtain⟨s2,y⟩:∃ s2,s2=yS b (tD L f) K [.lst (nm.map .str),.dct (tD L f),.lst (cs.map .int),.lst ((nm++nm).map .str),.dct (tD (zt L) f),.lst ((zt L).map .str),.lst ((zt L).map .str)]:=⟨_,rfl⟩
  have h4:(yS b (tD L f) K [.lst (nm.map .str),.dct (tD L f),.lst (cs.map .int),.lst ((nm++nm).map .str),.dct (tD (zt L) f)]++[O.lst ((zt L).map .str)])++[O.lst ((zt L).map .str)]=s2:=by rw[y];rfl
  have h5:(yS b (tD L f) K [.lst (nm.map .str),.dct (tD L f),.lst (cs.map .int),.lst ((nm++nm).map .str),.dct (tD (zt L) f)]++[O.lst ((zt L).map .str)]).length=19:=by rw[ZI,yy];rfl
  have q1:eqD (.ref 18) (.ref 19) s2=.ok zC s2:=by
   have:=e7 (s:=s2) (p:=18) (q:=19) (ts:=zt L) (us:=zt L) (by rw[y];rfl) (by rw[y];rfl);rw[this,decide_eq_true rfl]
  have q2:eqD (.ref 17) (.ref 14) s2=.ok zC s2:=w9 (L:=L) (f:=f) (by rw[y];rfl) (by rw[y];rfl);rw[<- y];simp only[sIf,tOr,jh,cNe,zp,zD,zQ,zS,qw,qO,ji,Zr,B,alloc,xh,E,bf,Y,h3,h4,h5,q1,q2,J0,jy,qj,if_false,jT]
 have x4:va [zA (.ref 0),zA (.ref 13),zA (.ref 14),v3,v4,zA (.ref 17),zB] (yS b (tD L f) K [.lst (nm.map .str),.dct (tD L f),.lst (cs.map .int),.lst ((nm++nm).map .str),.dct (tD (zt L) f),.lst ((zt L).map .str),.lst ((zt L).map .str)])=.nx [zA (.ref 0),zA (.ref 13),zA (.ref 14),v3,v4,zA (.ref 17),zB] (yS b (tD L f) K C):=by
  unfold va;have zz:(tD (zt L) f).length < SZ:=by rw[QR,sl];unfold SZ;lia
  have tp:=VX (L:=zt L) (f:=f) (n:=zT) (t:=zT);rw[u,<- tp];simp[yS,jn,zz]
 have r7o:∀ o∈C,OC o:=by
  intro o v;rw[u] at v;simp only[jc,vP,or_false] at v;rcases v with rfl | rfl | rfl | rfl | rfl | rfl | rfl
  ·exact OC.strs _
  ·exact OC.tD _ _
  ·exact OC.ints _
  ·exact OC.strs _
  ·exact OC.tD _ _
  ·exact OC.strs _
  ·exact OC.strs _
 have N:C.length=7:=by rw[u];rfl
 obtain⟨l,m⟩:∃ l:M.S,l=C++[.dct (tD (zt L) f)]:=⟨_,rfl⟩
 have H:RC l:=RC.of λo v=>by
  rw[m] at v;rcases Jl.mp v with v | v
  ·exact r7o o v
  ·have:=Jg.mp v;subst this;exact OC.tD _ _
 have x5:VU [zA (.ref 0),zA (.ref 13),zA (.ref 14),v3,v4,zA (.ref 17),zB] (yS b (tD L f) K C)=.nx [zA (.ref 0),zA (.ref 13),zA (.ref 14),v3,v4,zA (.ref 17),zA (.ref 20)] (yS b (tD L f) K l):=by
  unfold VU;have B:(yS b (tD L f) K C)[0]? = zA (.ins 10 [zA (.tup [.ref 1,.ref 2]),zA (.ref 6),zA (.ref 10),zA (.ref 11)]):=rfl;have E:(yS b (tD L f) K C).length=20:=by rw[yy,N]
  rw[m];simp only[jP,jg,zD,zS,qO,ji,B,if_true,U,alloc,jy,Qq,Qa,E];rfl
 have pq:=D2 (b:=b) (n:=zT) (t:=zT) (r:=l) eN (by decide +kernel) (JY L f) kc H kl (by rw[QR];lia);have x6:vn [zA (.ref 0),zA (.ref 13),zA (.ref 14),v3,v4,zA (.ref 17),zA (.ref 20)] (yS b (tD L f) K l)=.nx [zA (.ref 0),zA (.ref 13),zA (.ref 14),v3,v4,zA (.ref 17),zA (.ref 20)] (yS b (j1 (.str zT) (.str zT) (tD L f)) (jR (.str zT) K) l):=by
  unfold vn;have B:(yS b (tD L f) K l)[0]? = zA (.ins 10 [zA (.tup [.ref 1,.ref 2]),zA (.ref 6),zA (.ref 10),zA (.ref 11)]):=rfl;simp only[qQ,jg,zD,zQ,zS,eC,qO,ji,B,if_true,pq,jy]
 have I:jR (.str zT) (j1 (.str zT) (.str zT) (tD L f))=tD L f:=by
  rw[VX,Kj];have:jV zT L=L++[zT]:=by unfold jV;rw[if_neg Q]
  rw[this,List.filter_append,lu.mpr λx hx=>by
   have:x≠zT:=λz=>Q (z ▸ hx);simp[this]]
  simp only[Ug,List.filter_nil,ne_eq,not_true_eq_false,decide_false,qj,if_false,qo];refine K9 λx hx=>?_;have:x≠zT:=λz=>Q (z ▸ hx);unfold yK;rw[if_neg this]
 have hin:jJ (.str zT) (j1 (.str zT) (.str zT) (tD L f))=zA (.str zT):=by
  rw[VX];have:=JB (f:=λx=>D.str (yK f zT zT x)) (V:=jV zT L) (x:=zT) (Uc.mpr (.inr rfl));rw[this];unfold yK;rw[if_pos rfl]
 have dq:=Dl (b:=b) (n:=zT) (r:=l) eN hin ((JY L f).put zT zT) (kc.drop (.str zT)) H (qe lT kl);rw[I] at dq;have x7:K0 [zA (.ref 0),zA (.ref 13),zA (.ref 14),v3,v4,zA (.ref 17),zA (.ref 20)] (yS b (j1 (.str zT) (.str zT) (tD L f)) (jR (.str zT) K) l)=.nx [zA (.ref 0),zA (.ref 13),zA (.ref 14),v3,v4,zA (.ref 17),zA (.ref 20)] (yS b (tD L f) (jR (.str zT) (jR (.str zT) K)) l):=by
  unfold K0;have B:(yS b (j1 (.str zT) (.str zT) (tD L f)) (jR (.str zT) K) l)[0]? = zA (.ins 10 [zA (.tup [.ref 1,.ref 2]),zA (.ref 6),zA (.ref 10),zA (.ref 11)]):=rfl;simp only[qQ,jg,zD,zQ,zS,eC,qO,ji,B,if_true,dq,jy]
 have e9:jR (.str zT) (jR (.str zT) K)=kD L f ((A.filter λz=>decide (z≠zT)).filter λz=>decide (z≠zT)):=by rw[J,Kj,Kj]
 generalize hks:(A.filter λz=>decide (z≠zT)).filter (λz=>decide (z≠zT))=d at e9;have l9:d.length <= A.length:=by rw[<- hks];exact qe (kP _ _) (kP _ _)
 rw[e9] at x7;have x8:Kq [zA (.ref 0),zA (.ref 13),zA (.ref 14),v3,v4,zA (.ref 17),zA (.ref 20)] (yS b (tD L f) (kD L f d) l)=.rt (.bl zC) (yS b (tD L f) (kD L f d) l++[.dct (tD (zt L) f),.lst [],.lst []]):=by
  unfold Kq;have B:(yS b (tD L f) (kD L f d) l)[0]? = zA (.ins 10 [zA (.tup [.ref 1,.ref 2]),zA (.ref 6),zA (.ref 10),zA (.ref 11)]):=rfl;have E:(yS b (tD L f) (kD L f d) l).length=21:=by rw[yy,m,ZI,N];rfl
  have h3:(yS b (tD L f) (kD L f d) l)[20]? = zA (.dct (tD (zt L) f)):=by rw[m,u];rfl
  have h4:(yS b (tD L f) (kD L f d) l)[14]? = zA (.dct (tD L f)):=by rw[m,u];rfl
  have q1:=w9 (L:=L) (f:=f) h3 h4;have f1:yS b (tD L f) (kD L f d) l++[.dct (tD (zt L) f)]=yS b (tD L f) (kD L f d) (l++[.dct (tD (zt L) f)]):=rfl;have q2:=w9 (s:=yS b (tD L f) (kD L f d) (l++[.dct (tD (zt L) f)])) (i:=21) (j:=14) (L:=L) (f:=f) (by rw[m,u];rfl) (by rw[m,u];rfl);have lq:=OM (b:=b) (TT:=tD L f) (K:=kD L f d) (r:=l++[.dct (tD (zt L) f)]);have h5:(yS b (tD L f) (kD L f d) (l++[.dct (tD (zt L) f)]))[0]? = zA (.ins 10 [zA (.tup [.ref 1,.ref 2]),zA (.ref 6),zA (.ref 10),zA (.ref 11)]):=rfl;have h6:(yS b (tD L f) (kD L f d) (l++[.dct (tD (zt L) f)])).length=22:=by rw[yy,m,ZI,ZI,N];rfl
  have f2:yS b (tD L f) (kD L f d) (l++[.dct (tD (zt L) f)])++[O.lst []]=yS b (tD L f) (kD L f d) (l++[.dct (tD (zt L) f),.lst []]):=by unfold yS;simp
  have h7:(yS b (tD L f) (kD L f d) (l++[.dct (tD (zt L) f),.lst []])).length=23:=by rw[yy,m,ZI,ZI,N];rfl
  have f3:yS b (tD L f) (kD L f d) (l++[.dct (tD (zt L) f),.lst []])++[O.lst []]=yS b (tD L f) (kD L f d) (l++[.dct (tD (zt L) f),.lst [],.lst []]):=by unfold yS;simp
  have q3:eqD (.ref 22) (.ref 23) (yS b (tD L f) (kD L f d) (l++[.dct (tD (zt L) f),.lst [],.lst []]))=.ok zC (yS b (tD L f) (kD L f d) (l++[.dct (tD (zt L) f),.lst [],.lst []])):=by
   have:=e7 (s:=yS b (tD L f) (kD L f d) (l++[.dct (tD (zt L) f),.lst [],.lst []])) (p:=22) (q:=23) (ts:=[]) (us:=[]) (by rw[m,u];rfl) (by rw[m,u];rfl);rw[this,decide_eq_true rfl]
  have z0:(0:Nat) <= SZ:=by decide
  have f4:yS b (tD L f) (kD L f d) l++[.dct (tD (zt L) f),.lst [],.lst []]=yS b (tD L f) (kD L f d) (l++[.dct (tD (zt L) f),.lst [],.lst []]):=rfl;rw[f4];simp only[z9,Q3,asB,Zv,cEq,jg,zD,zS,Zi,qw,qO,ji,q1,B,if_true,U,alloc,E,f1,q2,h5,lq,h6,f2,h7,Jb,z0,f3,q3,jy]
 refine⟨d,?_,by simp at l1;lia⟩;have c:=kC (b:=b) (JY L f) (xP L f d) (RC.of (r:=[.lst (nm.map .str),.dct (tD L f),.lst (cs.map .int)]) λo v=>r4 o (by simp only[jc,vP,or_false] at v ⊢;rcases v with h | h | h<;>simp[h]));have e:∀ ks,(yS b (tD L f) (kD L f ks) [.lst (nm.map .str),.dct (tD L f),.lst (cs.map .int)]).length=16:=λ_=>by rw[yy];rfl
 rw[e] at c;refine JN (g:=[.lst ((nm++nm).map .str),.dct (tD (jV zT (zt L)) (yK f zT zT)),.lst ((zt L).map .str),.lst ((zt L).map .str),.dct (tD (zt L) f)]++[.dct (tD (zt L) f),.lst [],.lst []]) ?_ (by rw[e,e]) (by rw[e];exact c) rfl;show (Vn [zA (.ref 0),zA (.ref 13),zA (.ref 14),zB,zB,zB,zB] _).out=_;unfold Vn;simp only[ze,x1,x2,x3,x4,x5,x6,x7,x8,y2,xW];rw[m,u];rfl
end
noncomputable def vi:T:=[32,33,34,35,36,38,39,40,41,42,43,44,45,46,47,48,49,50,51,52,53,54,55,56,57,58,59,60,61,62,63,64,65,66,67,68,69,70,71,72,73,74,75,76,77,78,79,80,81,82,83,84,85,86,87,88,89,90,91,92,93,94,95,96]++[97,98,99,100,101,102,103,104,105,106,107,108,109,110,111,112,113,114,115,116,117,118,119,120,121,122,123,124,125,126,10]
def sgN (c:Int):Nat:=vi.getD (c % 95).toNat 0
theorem mO (c:Int) (S:M.S):ki [.int c] S=.ok (.str [sgN c]) S:=by
 have a:=Ju c (show (95:Int)≠0 by decide);have b:=xY c (show (0:Int) < 95 by decide);have e:atI vi (c % 95)=zA (sgN c):=wt (xs:=vi) a (show c % 95 < ((95:Nat):Int) from b) 0;have d:(95:Nat) <= SZ:=by decide
 refine Ka (g:=[]) ?_ rfl;rw[qo];unfold vi at e;simp only[bU,Y5,fn,ju,vU,qL,Jb,zm,Ws,Xw,ze,jP,eC,jy,Qq,Qa,y2,eOp,zD,qw,qO,ji,yb,z9,qa];simp only[Ws,Xw] at e;simp[e,d,RS.out]
theorem GJ (c:Int):Vb (sgN c)=zC:=by
 have a:=Ju c (show (95:Int)≠0 by decide);have b:=xY c (show (0:Int) < 95 by decide);have:∀ n:Nat,n < 95->Vb (vi.getD n 0)=zC:=by decide +kernel
 exact this _ (by lia)
theorem cY (c:Int) (d:0 <= c) (n:Nat) (j:n <= 900) (S:M.S):∃ t:T,X8 [.int c,.int (n:Int)] S=.ok (.str t) S/\Ja t=zC:=by
 have s1:Qr 7=zC:=by decide
 have a:=Ju c (show (3:Int)≠0 by decide);have b:=xY c (show (0:Int) < 3 by decide);have f:0 < 1+c % 3/\(1+c % 3).natAbs < 1073741824:=by lia
 have h:n < 4611686018427387904:=by lia
 have d:yd 1 (Vw (zD 1)) (jL 2) qE (zp ki (zQ (eOp yb (zD 0) (eOp Q1 (eC (.int 7)) (eOp y7 (zD 2) (eOp yb (eC (.int 1)) (eOp qa (zD 0) (eC (.int 3))))))) zS)) [zA (.int c),zA (.int (n:Int))] S=.ok ((yT n).map λ(k:Nat)=>.str [sgN (c+7 * ((k:Int) / (1+c % 3)))]) S:=by
  have:=Bb (n:=1) (it:=Vw (zD 1)) (tg:=jL 2) (e:=zp ki (zQ (eOp yb (zD 0) (eOp Q1 (eC (.int 7)) (eOp y7 (zD 2) (eOp yb (eC (.int 1)) (eOp qa (zD 0) (eC (.int 3))))))) zS)) (σ:=[zA (.int c),zA (.int (n:Int))]) (s:=S) (lo:=0) (hi:=(n:Int)) (λ(k:Nat)=>.str [sgN (c+7 * ((k:Int) / (1+c % 3)))]) (by simp[h]) (by unfold SZ;lia) λk l=>by
   simp[mO,s1,f]
  simpa using this
 have i:=F9 (λ(k:Nat)=>sgN (c+7 * ((k:Int) / (1+c % 3)))) (yT n) S (by rw[UB];unfold SZ;lia);refine⟨(yT n).map λ(k:Nat)=>sgN (c+7 * ((k:Int) / (1+c % 3))),?_,?_⟩
 ·refine Ka (g:=[]) ?_ rfl;rw[qo];simp[AR,UX,d,i]
 ·unfold Ja;rw[j8];refine⟨decide_eq_true (by simp;lia),?_⟩;rw[ja];intro x hx;obtain⟨k,_,rfl⟩:=Zn.mp hx;exact GJ _
theorem lS (c:Int) (h:0 <= c) (S:M.S):∃ t:T,XX [.int c] S=.ok (.str t) S/\Ja t=zC:=by
 have e:0 <= c / 14:=Int.ediv_nonneg h (by decide);have i:Qr 7=zC:=by decide
 have a1:=Ju (c / 14 * 7) (show (900:Int)≠0 by decide);have s:=xY (c / 14 * 7) (show (0:Int) < 900 by decide);have a2:=Ju (c / 14) (show (9:Int)≠0 by decide);have u:=xY (c / 14) (show (0:Int) < 9 by decide);obtain⟨n1,j⟩:∃ n1:Nat,c / 14 * 7 % 900=n1:=⟨(c / 14 * 7 % 900).toNat,by lia⟩
 obtain⟨n2,l⟩:∃ n2:Nat,c / 14 % 9=n2:=⟨(c / 14 % 9).toNat,by lia⟩
 obtain⟨m,n,o⟩:=cY (c / 14) e n1 (by lia) S;obtain⟨p,q,r⟩:=cY (c / 14) e n2 (by lia) S;by_cases d:c / 14 % 8=1
 ·refine⟨m,Ka (g:=[]) ?_ rfl,o⟩;simp[Vo,X0,d,i,j,n]
 ·by_cases f:c / 14 % 8=2
  ·refine⟨zm 900 97,Ka (g:=[]) ?_ rfl,by decide +kernel⟩;have:(zm 900 [97]).flatten=zm 900 97:=by decide +kernel
   simp[Vo,X0,d,f,this,-List.reduceReplicate]
  ·refine⟨p,Ka (g:=[]) ?_ rfl,r⟩;simp[Vo,X0,d,f,l,q]
def ye (ns:List Int) (k:Nat):Int:=if k < ns.length then (ns.getD k 0 * 48271+7919 * (k:Int)) % 1000003 else 0
theorem W4 (ns:List Int) (k:Nat):0 <= ye ns k:=by
 unfold ye;split
 ·exact Ju _ (by decide)
 ·decide
theorem U2 (ns:List Int) (k:Nat) (s:M.S):Qg [.ro (ns.map .int),.int (k:Int)] s=.ok (.int (ye ns k)) s:=by
 have s1:Qr 48271=zC:=by decide
 have s2:Qr 7919=zC:=by decide
 refine Ka (g:=[]) ?_ rfl;rw[qo];unfold ye;by_cases h:k < ns.length
 ·have h':(k:Int) < (ns.length:Int):=by lia
  have e:atI (ns.map D.int) (k:Int)=zA (.int (ns.getD k 0)):=by
   rw[wt (d:=.int 0) (by lia) (by rw[qd];exact h'),Int.toNat_natCast,QB,y9,QB];cases ns[k]?<;>rfl
  rw[if_pos h];simp[UI,vG,h,e,s1,s2]
 ·have h':¬ (k:Int) < (ns.length:Int):=by lia
  rw[if_neg h];simp[UI,vG,h]
theorem Ob (ns:List Int) (l:ns.length <= 63) (S:M.S):∃ cs:List Int,cs.length <= 8/\(∀ c∈cs,0 <= c)/\KH [.ro (ns.map .int),.int 2,.int 10] S=alloc (.lst (cs.map .int)) S:=by
 obtain⟨h,f⟩:∃ h:Int,h=if (ns.length:Int) < 10 then (ns.length:Int) else 10:=⟨_,rfl⟩
 have m:h <= 10/\0 <= h:=by rw[f];split<;>lia
 have i:(2:Int).natAbs < 4611686018427387904/\h.natAbs < 4611686018427387904:=by lia
 have d:=Bb (n:=1) (it:=UW (zD 1) (zp vA (zQ (zD 2) (zQ (zp yN (zQ (zD 0) zS)) zS)))) (tg:=jL 3) (e:=zp Qg (zQ (zD 0) (zQ (zD 3) zS))) (σ:=[zA (.ro (ns.map .int)),zA (.int 2),zA (.int 10)]) (s:=S) (lo:=2) (hi:=h) (λ(k:Nat)=>.int (ye ns (2+k)))
  (by simp only[UW,zD,zp,zQ,zS,qO,qw,ji,yN,qd,vA,<- f,i,and_self,if_true]) (by unfold SZ;lia) λk o=>by
   have:=U2 ns (2+k) S;rw[show ((2+k:Nat):Int)=2+(k:Int) by simp] at this;simp[this]
 refine⟨(yT (h - 2).toNat).map λ(k:Nat)=>ye ns (2+k),by rw[qd,UB];lia,λc d=>?_,?_⟩
 ·obtain⟨k,_,rfl⟩:=Zn.mp d;exact W4 _ _
 ·refine KD (g:=[.lst (((yT (h - 2).toNat).map λ(k:Nat)=>ye ns (2+k)).map .int)]) (j:=S.length) ?_ (by simp) (jB _) (OC.ints _ _);show (Kp [zA (.ro (ns.map .int)),zA (.int 2),zA (.int 10)] S).out=_;unfold Kp;rw[JA];simp only[z9,Z6,d,ji,alloc,jy,RS.out];rfl
def nmT (a d:Nat) (e:Bool):List T:=(if e then [[98],[98,98],[99],[99,98],[98,99],[98,98,98]] else [[98],[99],[100],[102],[103],[104]]:List T).map λl=>zm a 120++l++zm d 121
theorem Pp {a d:Nat} (ha:a < 4) (hd:d < 3) (e:Bool):∀ n∈nmT a d e,GN n/\n≠zT:=by
 have:∀ a < 4,∀ d < 3,∀ e:Bool,(nmT a d e).all (λn=>Kb n && decide (n.length <= 100) && !Z7 [46] n && decide (n≠zT))=zC:=by decide +kernel
 intro n c;have h:=ja.mp (this a ha d hd e) n c;simp only[j8,decide_eq_true_eq,kq] at h;exact⟨⟨h.1.1.1,h.1.1.2,h.1.2⟩,h.2⟩
theorem Gh (c:Int) (hc:0 <= c) (S:M.S):∃ nm:List T,Kw [.int c] S=alloc (.lst (nm.map .str)) S/\nm.length=6/\∀ n∈nm,GN n/\n≠zT:=by
 have J:=Ju c (show (4:Int)≠0 by decide);have a1:=xY c (show (0:Int) < 4 by decide);have L:=Ju (c / 4) (show (3:Int)≠0 by decide);have N:=xY (c / 4) (show (0:Int) < 3 by decide);obtain⟨a,y⟩:∃ a:Nat,c % 4=a:=⟨(c % 4).toNat,by lia⟩
 obtain⟨d,z⟩:∃ d:Nat,c / 4 % 3=d:=⟨(c / 4 % 3).toNat,by lia⟩
 rw[y] at J a1;rw[z] at L N;have Q:(zm a [120]).flatten=zm a 120:=by simp
 have U:(zm d [121]).flatten=zm d 121:=by simp
 have Y:a <= 1000000:=by lia
 have zd:d <= 1000000:=by lia
 have la:∀ k,k <= 20->a+k <= SZ:=λk h=>by unfold SZ;lia
 have ld:∀ k,k <= 20->a+k+d <= SZ:=λk h=>by unfold SZ;lia
 refine⟨nmT a d (decide (c / 12 % 2=1)),?_,by unfold nmT;rw[qd];split<;>rfl,Pp (by lia) (by lia) _⟩;have cl:O.cl S.length (.lst ((nmT a d (decide (c / 12 % 2=1))).map .str))=zC:=OC.strs _ _;have q:∀ (ls:List T),(∀ l∈ls,l.length <= 20)->ls.length <= 20->∀ s p,s[p]? = zA (O.lst (ls.map .str))->yd 1 (iE (zD 3)) (jL 4) qE (eOp yb (eOp yb (zD 1) (zD 4)) (zD 2)) [zA (.int c),zA (.str (zm a 120)),zA (.str (zm d 121)),zA (.ref p)] s=.ok ((ls.map λl=>zm a 120++l++zm d 121).map .str) s:=λls A hz s p B=>by
  have:=Ui (n:=1) (it:=iE (zD 3)) (tg:=jL 4) (e:=eOp yb (eOp yb (zD 1) (zD 4)) (zD 2)) (σ:=[zA (.int c),zA (.str (zm a 120)),zA (.str (zm d 121)),zA (.ref p)]) (s:=s) (xs:=ls.map .str) (g:=[(p,.lst (ls.map .str))]) (λd'=>match d' with | .str l=>.str (zm a 120++l++zm d 121) | d=>d) (by simp[B]) (by rw[qd];unfold SZ;lia) (by simp[z8,B]) λd' r=>by
   obtain⟨l,j,rfl⟩:=Zn.mp r;have t:=la _ (A l j);have i:=ld _ (A l j);have u:a+(l.length+d) <= SZ:=by rw[<- Vm];exact i
   simp[t,i,u]
  rw[this,JA,JA];rfl
 have C:(6:Nat) <= SZ:=by decide
 have E:vu [zA (.int c),zB,zB,zB] S=.nx [zA (.int c),zA (.str (zm a 120)),zB,zB] S:=by
  unfold vu;simp[y,Y,Q]
 have G:Kr [zA (.int c),zA (.str (zm a 120)),zB,zB] S=.nx [zA (.int c),zA (.str (zm a 120)),zA (.str (zm d 121)),zB] S:=by
  unfold Kr;simp[z,zd,U]
 obtain⟨s1,f⟩:∃ s1,s1=S++[O.lst ([[98],[99],[100],[102],[103],[104]].map .str)]:=⟨_,rfl⟩
 have H:vh [zA (.int c),zA (.str (zm a 120)),zA (.str (zm d 121)),zB] S=.nx [zA (.int c),zA (.str (zm a 120)),zA (.str (zm d 121)),zA (.ref S.length)] s1:=by
  unfold vh;rw[f];simp[C]
 have l1:s1.length=S.length+1:=by rw[f];simp
 have fin:∀ (ls:List T) (s2:M.S) (p:Nat) (g:M.S),(∀ l∈ls,l.length <= 20)->ls.length <= 20->s2=S++g->s2[p]? = zA (O.lst (ls.map .str))->VC [zA (.int c),zA (.str (zm a 120)),zA (.str (zm d 121)),zA (.ref p)] s2=.rt (.ref s2.length) (S++(g++[.lst ((ls.map λl=>zm a 120++l++zm d 121).map .str)])):=λls s2 p g t i u h4=>by
  have k:=q ls t i s2 p h4;unfold VC;simp only[z9,Z6,k,ji,alloc,jy];rw[u,yr]
 have I:∀ (g:M.S) (o:O),(S++(g++[o]))[(S++g).length]? = zA o:=λg o=>by rw[<- yr];exact ga0
 cases m:decide (c / 12 % 2=1) with
 | true =>
  have e:c / 12 % 2=1:=of_decide_eq_true m;rw[m] at cl;have v:XW [zA (.int c),zA (.str (zm a 120)),zA (.str (zm d 121)),zA (.ref S.length)] s1=.nx [zA (.int c),zA (.str (zm a 120)),zA (.str (zm d 121)),zA (.ref s1.length)] (s1++[O.lst ([[98],[98,98],[99],[99,98],[98,99],[98,98,98]].map .str)]):=by
   unfold XW;simp[e,C]
  have i:s1++[O.lst ([[98],[98,98],[99],[99,98],[98,99],[98,98,98]].map .str)]=S++[O.lst ([[98],[99],[100],[102],[103],[104]].map .str),O.lst ([[98],[98,98],[99],[99,98],[98,99],[98,98,98]].map .str)]:=by rw[f];simp
  have x:=fin [[98],[98,98],[99],[99,98],[98,99],[98,98,98]] _ s1.length _ (by decide) (by decide) i ga0;refine KD ?_ (I [O.lst ([[98],[99],[100],[102],[103],[104]].map .str),O.lst ([[98],[98,98],[99],[99,98],[98,99],[98,98,98]].map .str)] _) (by simp) cl;show (kM [zA (.int c),zB,zB,zB] S).out=_;unfold kM;simp only[ze,E,G,H,v,y2,x,xW];rw[i];rfl
 | false =>
  have e:¬ c / 12 % 2=1:=of_decide_eq_false m;rw[m] at cl;have v:XW [zA (.int c),zA (.str (zm a 120)),zA (.str (zm d 121)),zA (.ref S.length)] s1=.nx [zA (.int c),zA (.str (zm a 120)),zA (.str (zm d 121)),zA (.ref S.length)] s1:=by
   unfold XW;simp[e]
  have x:=fin [[98],[99],[100],[102],[103],[104]] _ S.length _ (by decide) (by decide) f (by rw[f];exact ga0);refine KD ?_ (I [O.lst ([[98],[99],[100],[102],[103],[104]].map .str)] _) (by simp) cl;show (kM [zA (.int c),zB,zB,zB] S).out=_;unfold kM;simp only[ze,E,G,H,v,y2,x,xW];rw[f];rfl
abbrev bE:SM:=(ze (jP 5 (eOp jN (zD 2) (eOp qa (eOp y7 (zD 4) (eC (.int 2))) (eC (.int 6)))))
  (ze (sIf (jh cEq (eOp qa (zD 4) (eC (.int 2))) (eC (.int 0)))
  (ze (ZZ (zD 3) (zD 5) (zp XX (zQ (zD 4) zS)))
  (sIf (x9 (jg 10 kR (zD 1) (zQ (zD 5) (zQ (eOp jN (zD 3) (zD 5)) zS))))
  (z9 (eC (.bl zP)))
  jT))
  (ze (sIf (q0 (yF (zp Kf (zQ (zD 1) (zQ (zD 5) (zQ (zD 3) zS))))))
  (z9 (eC (.bl zP)))
  jT)
  (sIf (jh cIn (zD 5) (zD 3))
  (qQ (eM .dict xo (zD 3) (zQ (zD 5) zS)))
  jT)))
  (sIf (q0 (yF (zp xq (zQ (zD 1) (zQ (zD 2) (zQ (zD 3) zS))))))
  (z9 (eC (.bl zP)))
  jT)))
section
variable {b:Int}{L ks nm:List T}{cs:List Int}{f:T->T}{n:T}
abbrev yR (nm:List T) (L:List T) (f:T->T) (cs:List Int):M.S:=[.lst (nm.map .str),.dct (tD L f),.lst (cs.map .int)]
theorem Vy:RC (yR nm L f cs):=RC.of λo c=>by
 simp only[jc,vP,or_false] at c;rcases c with rfl | rfl | rfl
 ·exact OC.strs _
 ·exact OC.tD _ _
 ·exact OC.ints _
theorem Ld (g:GN n) (m:ks.length <= 1000):Kf [.ref 0,.str n,.ref 14] (yS b (tD L f) (kD L f ks) (yR nm L f cs))=.ok (.bl zC) (if n∈L then yS b (jR (.str n) (tD L f)) (jR (.str n) (kD L f ks)) (yR nm L f cs) else yS b (tD L f) (kD L f ks) (yR nm L f cs)):=by
 have l:(yS b (tD L f) (kD L f ks) (yR nm L f cs))[0]? = zA (.ins 10 [zA (.tup [.ref 1,.ref 2]),zA (.ref 6),zA (.ref 10),zA (.ref 11)]):=rfl;have e:∀ TT K,(yS b TT K (yR nm L f cs)).length=16:=λ_ _=>by rw[yy];rfl
 by_cases h:n∈L
 ·rw[if_pos h];have i:=JB (f:=λx=>D.str (f x)) h;have d:=Dl (b:=b) (r:=yR nm L f cs) g i (JY L f) (xP L f ks) Vy (by rw[QR];exact m);have j:(yS b (jR (.str n) (tD L f)) (jR (.str n) (kD L f ks)) (yR nm L f cs))[14]? = zA (.dct (tD L f)):=rfl;have c:=kC (b:=b) ((JY L f).drop (.str n)) ((xP L f ks).drop (.str n)) (Vy (nm:=nm) (L:=L) (f:=f) (cs:=cs));refine JN (g:=[]) ?_ (by rw[e,e]) (by rw[e] at c ⊢;exact c) rfl;rw[qo];show (kg [zA (.ref 0),zA (.str n),zA (.ref 14)] (yS b (tD L f) (kD L f ks) (yR nm L f cs))).out=_;unfold kg;rw[OJ (d:=.bl zC) (s':=yS b (jR (.str n) (tD L f)) (jR (.str n) (kD L f ks)) (yR nm L f cs))]
  ·rfl
  ·simp only[Q3,UN,jg,zD,zQ,zS,qw,qO,ji,l,if_true,d,asB,Zv,cIn,inD,j,jn,i,bP];simp
 ·rw[if_neg h];have i:=Kn (f:=λx=>D.str (f x)) h;have d:=L8 (b:=b) (K:=kD L f ks) (r:=yR nm L f cs) g i;have j:(yS b (tD L f) (kD L f ks) (yR nm L f cs))[14]? = zA (.dct (tD L f)):=rfl;have c:=kC (b:=b) (JY L f) (xP L f ks) (Vy (nm:=nm) (L:=L) (f:=f) (cs:=cs));refine JN (g:=[]) ?_ rfl c rfl;rw[qo];show (kg [zA (.ref 0),zA (.str n),zA (.ref 14)] (yS b (tD L f) (kD L f ks) (yR nm L f cs))).out=_;unfold kg;rw[Gx (ds:=[]) (s':=yS b (tD L f) (kD L f ks) (yR nm L f cs))]
  ·simp only[z9,Zv,QH,zD,inD,qw,qO,ji,j,jn,i,av,if_true,HE,jy,xW]
  ·simp only[Q3,UN,jg,zD,zQ,zS,qw,qO,ji,l,if_true,d,my];rfl
theorem mU (ns:List Int) (y:L.Nodup) (E:zT∉L) (hL:L.length <= 700) (H:nm.length=6) (U:∀ n∈nm,GN n/\n≠zT) (hk:ks.length <= 800) {c:Int} (hc:0 <= c) {v4 v5:Option D} :
  ∃ j o m n,yO (jL 4) bE (.int c) [zA (.ro (ns.map .int)),zA (.ref 0),zA (.ref 13),zA (.ref 14),v4,v5] (yS b (tD L f) (kD L f ks) (yR nm L f cs))=.nx [zA (.ro (ns.map .int)),zA (.ref 0),zA (.ref 13),zA (.ref 14),zA (.int c),zA (.str n)] (yS b (tD j o) (kD j o m) (yR nm j o cs))/\j.Nodup/\zT∉j/\j.length <= L.length+1/\m.length <= ks.length+24:=by
 have a0:=Ju (c / 2) (show (6:Int)≠0 by decide);have a1:=xY (c / 2) (show (0:Int) < 6 by decide);obtain⟨n,I,A⟩:∃ n,atI (nm.map D.str) (c / 2 % 6)=zA (.str n)/\n∈nm:=by
  refine⟨nm.getD (c / 2 % 6).toNat [],?_,?_⟩
  ·rw[wt (d:=.str []) a0 (by rw[qd,H];exact a1),QB,y9,QB];cases nm[(c / 2 % 6).toNat]?<;>rfl
  ·have:(c / 2 % 6).toNat < nm.length:=by lia
   rw[QB,xl this];exact List.getElem_mem this
 obtain⟨g,nz⟩:=U n A;have J:∀ n∈nm,GN n:=λn h=>(U n h).1;have i1:(yS b (tD L f) (kD L f ks) (yR nm L f cs))[13]? = zA (.lst (nm.map .str)):=rfl;have M:(jP 5 (eOp jN (zD 2) (eOp qa (eOp y7 (zD 4) (eC (.int 2))) (eC (.int 6))))) [zA (.ro (ns.map .int)),zA (.ref 0),zA (.ref 13),zA (.ref 14),zA (.int c),v5] (yS b (tD L f) (kD L f ks) (yR nm L f cs))=.nx [zA (.ro (ns.map .int)),zA (.ref 0),zA (.ref 13),zA (.ref 14),zA (.int c),zA (.str n)] (yS b (tD L f) (kD L f ks) (yR nm L f cs)):=by
  have v:(0:Int) < 2/\(2:Int).natAbs < 1073741824:=by decide
  have d6:(0:Int) < 6:=by decide
  generalize yS b (tD L f) (kD L f ks) (yR nm L f cs)=s at *;simp only[jP,eOp,zD,eC,qw,qO,ji,y7,v,and_self,if_true,qa,d6,jN,i1,I,jy,Qq,Qa]
 have p:∀ j o m,j.Nodup->zT∉j->j.length <= 800->m.length <= 900->∃ i:List T,(sIf (q0 (yF (zp xq (zQ (zD 1) (zQ (zD 2) (zQ (zD 3) zS)))))) (z9 (eC (.bl zP))) jT) [zA (.ro (ns.map .int)),zA (.ref 0),zA (.ref 13),zA (.ref 14),zA (.int c),zA (.str n)] (yS b (tD j o) (kD j o m) (yR nm j o cs))=.nx [zA (.ro (ns.map .int)),zA (.ref 0),zA (.ref 13),zA (.ref 14),zA (.int c),zA (.str n)] (yS b (tD j o) (kD j o i) (yR nm j o cs))/\i.length <= m.length+24:=λj o m h1 h2 h3 h4=>by
  obtain⟨i,e,l⟩:=cN (b:=b) (f:=o) (cs:=cs) h1 h3 h2 J (by lia) h4;refine⟨i,?_,l⟩;simp only[sIf,q0,yF,zp,zD,zQ,zS,qw,qO,ji,e,asB,Zh,jy,J0,qj,if_false,jT]
 show ∃ j o m n,bE [zA (.ro (ns.map .int)),zA (.ref 0),zA (.ref 13),zA (.ref 14),zA (.int c),v5] (yS b (tD L f) (kD L f ks) (yR nm L f cs))=_/\_;by_cases N:c % 2=0
 ·obtain⟨t,et,it⟩:=lS c hc (yS b (tD L f) (kD L f ks) (yR nm L f cs));have l1:(jV n L).length <= L.length+1:=by unfold jV;split<;>simp
  have B:zT∉jV n L:=λh=>by rcases Uc.mp h with h | h;exact E h;exact nz h.symm
  obtain⟨i,e,l⟩:=p (jV n L) (yK f n t) (ks.filter λz=>decide (z≠n)) (C4 y) B (by lia) (qe (kP _ _) (by lia));have lf:=kP (λz=>decide (z≠n)) ks;refine⟨jV n L,yK f n t,i,n,?_,C4 y,B,l1,by lia⟩;have zz:(tD L f).length < SZ:=by rw[QR];unfold SZ;lia
  have C:(yS b (tD L f) (kD L f ks) (yR nm L f cs))[14]? = zA (.dct (tD L f)):=rfl;have Q:(yS b (tD L f) (kD L f ks) (yR nm L f cs)).set 14 (.dct (j1 (.str n) (.str t) (tD L f)))=yS b (tD L f) (kD L f ks) (yR nm (jV n L) (yK f n t) cs):=by rw[VX];rfl
  have Y:=D2 (b:=b) (r:=yR nm (jV n L) (yK f n t) cs) g it (JY L f) (xP L f ks) Vy (by rw[QR];lia) (by rw[QR];lia);rw[VX,LA (t:=t)] at Y;have i4:(yS b (tD L f) (kD L f ks) (yR nm (jV n L) (yK f n t) cs))[14]? = zA (.dct (tD (jV n L) (yK f n t))):=rfl;have i5:(yS b (tD L f) (kD L f ks) (yR nm (jV n L) (yK f n t) cs))[0]? = zA (.ins 10 [zA (.tup [.ref 1,.ref 2]),zA (.ref 6),zA (.ref 10),zA (.ref 11)]):=rfl;have gt:jJ (.str n) (tD (jV n L) (yK f n t))=zA (.str t):=by
   have:=JB (f:=λx=>D.str (yK f n t x)) (V:=jV n L) (x:=n) (Uc.mpr (.inr rfl));rw[this];unfold yK;rw[if_pos rfl]
  have v:(0:Int) < 2:=by decide
  show ((jP 5 _) _ _).then _=_;rw[M,y2];generalize yS b (tD L f) (kD L f ks) (yR nm L f cs)=s0 at *;generalize yS b (tD L f) (kD L f ks) (yR nm (jV n L) (yK f n t) cs)=s1 at *;simp only[ze,sIf,jh,cEq,eqD,eOp,zD,eC,qw,qO,ji,qa,v,if_true,N,decide_true,jy,ZZ,zp,zQ,zS,et,Zs,C,jn,zz,Eb,Q,y2,x9,jg,i5,jN,i4,gt,Y,jT];exact e
 ·have G:=Ld (b:=b) (L:=L) (f:=f) (ks:=ks) (nm:=nm) (cs:=cs) g (by lia);have v:(0:Int) < 2:=by decide
  have lf:=kP (λz=>decide (z≠n)) ks;by_cases h:n∈L
  ·rw[if_pos h] at G;have u:=JB (f:=λx=>D.str (f x)) h;have nl:=kP (λz=>decide (z≠n)) L;have B:zT∉L.filter λz=>decide (z≠n):=λq=>E (X3.mp q).1;have n1:(L.filter λz=>decide (z≠n)).Nodup:=y.sublist List.filter_sublist;obtain⟨i,e,l⟩:=p (L.filter λz=>decide (z≠n)) f (ks.filter λz=>decide (z≠n)) n1 B (by lia) (by lia);refine⟨_,f,i,n,?_,n1,B,by lia,by lia⟩;have C:(yS b (jR (.str n) (tD L f)) (jR (.str n) (kD L f ks)) (yR nm L f cs))[14]? = zA (.dct (tD L f)):=rfl;have Q:(yS b (jR (.str n) (tD L f)) (jR (.str n) (kD L f ks)) (yR nm L f cs)).set 14 (.dct (jR (.str n) (tD L f)))=yS b (tD (L.filter λz=>decide (z≠n)) f) (kD (L.filter λz=>decide (z≠n)) f (ks.filter λz=>decide (z≠n))) (yR nm (L.filter λz=>decide (z≠n)) f cs):=by
    rw[f7,Kj];rfl
   show ((jP 5 _) _ _).then _=_;rw[M,y2];generalize yS b (tD L f) (kD L f ks) (yR nm L f cs)=s0 at *;generalize yS b (jR (.str n) (tD L f)) (jR (.str n) (kD L f ks)) (yR nm L f cs)=s1 at *;simp only[ze,sIf,jh,cEq,cIn,inD,eqD,eOp,zD,eC,qw,qO,ji,qa,v,if_true,N,decide_false,qj,if_false,jy,q0,yF,zp,zQ,zS,G,Zh,J0,jT,y2,C,jn,u,bP,qQ,eM,yj,xo,Q];exact e
  ·rw[if_neg h] at G;have u:=Kn (f:=λx=>D.str (f x)) h;obtain⟨i,e,l⟩:=p L f ks y E (by lia) (by lia);refine⟨L,f,i,n,?_,y,E,by lia,by lia⟩;have C:(yS b (tD L f) (kD L f ks) (yR nm L f cs))[14]? = zA (.dct (tD L f)):=rfl;show ((jP 5 _) _ _).then _=_;rw[M,y2];generalize yS b (tD L f) (kD L f ks) (yR nm L f cs)=s0 at *;simp only[ze,sIf,jh,cEq,cIn,inD,eqD,eOp,zD,eC,qw,qO,ji,qa,v,if_true,N,decide_false,qj,if_false,jy,q0,yF,zp,zQ,zS,G,Zh,J0,jT,y2,C,jn,u,av];exact e
end
theorem DH {b:Int}{nm:List T}{cs:List Int} (ns:List Int) (h:nm.length=6) (s:∀ n∈nm,GN n/\n≠zT):∀ (jo:List Int) (L ks:List T) (f:T->T) (v4 v5:Option D),(∀ c∈jo,0 <= c)->L.Nodup->zT∉L->L.length+jo.length <= 500->ks.length+24 * jo.length <= 700 ->
  ∃ g i d j l,qR [(15,.lst (cs.map .int))] (yO (jL 4) bE) (jo.map .int) [zA (.ro (ns.map .int)),zA (.ref 0),zA (.ref 13),zA (.ref 14),v4,v5] (yS b (tD L f) (kD L f ks) (yR nm L f cs))=.nx [zA (.ro (ns.map .int)),zA (.ref 0),zA (.ref 13),zA (.ref 14),j,l] (yS b (tD g i) (kD g i d) (yR nm g i cs))/\g.Nodup/\zT∉g/\g.length <= 500/\d.length <= 700
 | [],L,ks,f,v4,v5,_,m,o,p,q=>⟨L,f,ks,v4,v5,rfl,m,o,by simp at p;lia,by simp at q;lia⟩
 | c::jo,L,ks,f,v4,v5,t,m,o,p,q=>by
  rw[qL] at p q;obtain⟨g,i,d,n,e,g1,g2,C,E⟩:=mU (b:=b) (L:=L) (ks:=ks) (nm:=nm) (cs:=cs) (f:=f) ns m o (by lia) h s (by lia) (t c qM) (v4:=v4) (v5:=v5);obtain⟨L2,u,r,j,l,v,x,y,z,A⟩:=DH (b:=b) (cs:=cs) ns h s jo g d i (zA (.int c)) (zA (.str n)) (λc B=>t c (jj _ B)) g1 g2 (by lia) (by lia);refine⟨L2,u,r,j,l,?_,x,y,z,A⟩;rw[ju,qR,e];dsimp only;rw[if_pos (by simp[z8,yS]),v]
theorem oU (ns:List Int) (q:ns.length <= 63):∃ s,AX [.ro (ns.map .int)] []=.ok (.bl zC) s:=by
 have U:=W4 ns 0;have Y:=Ju (ye ns 0) (show (1001:Int)≠0 by decide);have b1:=xY (ye ns 0) (show (0:Int) < 1001 by decide);obtain⟨b,r⟩:∃ b,b=ye ns 0 % 1001:=⟨_,rfl⟩
 have mk:=lU b (by lia) (by lia);have t:VS [zA (.ro (ns.map .int)),zB,zB,zB,zB,zB] []=.nx [zA (.ro (ns.map .int)),zA (.ref 0),zB,zB,zB,zB] (yS b [] [] []):=by
  have a:=U2 ns 0 [];have d:(0:Int) < 1001:=by decide
  have e:(zQ (eC (.str [])) (zQ (eOp qa (zp Qg (zQ (zD 0) (zQ (eC (.int 0)) zS))) (eC (.int 1001))) zS)) [zA (.ro (ns.map .int)),zB,zB,zB,zB,zB] []=.ok [.str [],.int b] []:=by
   have u:Qg [.ro (ns.map .int),.int 0] []=.ok (.int (ye ns 0)) []:=a;simp only[zQ,zS,eC,eOp,zp,zD,qO,ji,u,qa,d,if_true,<- r]
  unfold VS;have j:(Ks (.ref 0::[.str [],.int b]) ([]++[.ins 10 (zm 4 zB)])).bind (λ(d:D) s'=>if d=.non then R.ok (D.ref 0) s' else .no)=.ok (.ref 0) (yS b [] [] []):=mk;simp only[jP,Zx,e,ji,Jb,j,jy,Qq,Qa]
 obtain⟨nm,v,l,p⟩:=Gh (ye ns 1) (W4 ns 1) (yS b [] [] []);have y:vb [zA (.ro (ns.map .int)),zA (.ref 0),zB,zB,zB,zB] (yS b [] [] [])=.nx [zA (.ro (ns.map .int)),zA (.ref 0),zA (.ref 13),zB,zB,zB] (yS b [] [] [.lst (nm.map .str)]):=by
  have a:Qg [.ro (ns.map .int),.int 1] (yS b [] [] [])=.ok (.int (ye ns 1)) (yS b [] [] []):=U2 ns 1 _;unfold vb;simp only[jP,zp,zQ,zS,zD,eC,qO,ji,a,v,alloc,jy,Qq,Qa];rfl
 have z:u9 [zA (.ro (ns.map .int)),zA (.ref 0),zA (.ref 13),zB,zB,zB] (yS b [] [] [.lst (nm.map .str)])=.nx [zA (.ro (ns.map .int)),zA (.ref 0),zA (.ref 13),zA (.ref 14),zB,zB] (yS b [] [] [.lst (nm.map .str),.dct []]):=rfl;obtain⟨cs,A,m,B⟩:=Ob ns q (yS b [] [] [.lst (nm.map .str),.dct []]);obtain⟨g,c,i,C,E,e,G,H,k3,k4⟩:=DH (b:=b) (cs:=cs) ns l p cs [] [] (λx=>x) zB zB m Ud (by simp) (by simp;lia) (by simp;lia);have I:K1 [zA (.ro (ns.map .int)),zA (.ref 0),zA (.ref 13),zA (.ref 14),zB,zB] (yS b [] [] [.lst (nm.map .str),.dct []])=.nx [zA (.ro (ns.map .int)),zA (.ref 0),zA (.ref 13),zA (.ref 14),C,E] (yS b (tD g c) (kD g c i) (yR nm g c cs)):=by
  have J:iE (zp KH (zQ (zD 0) (zQ (eC (.int 2)) (zQ (eC (.int 10)) zS)))) [zA (.ro (ns.map .int)),zA (.ref 0),zA (.ref 13),zA (.ref 14),zB,zB] (yS b [] [] [.lst (nm.map .str),.dct []])=.ok (cs.map .int,[(15,.lst (cs.map .int))]) (yS b [] [] [.lst (nm.map .str),.dct [],.lst (cs.map .int)]):=by
   have h:(yS b [] [] [.lst (nm.map .str),.dct []]).length=15:=rfl;have L:yS b [] [] [.lst (nm.map .str),.dct []]++[O.lst (cs.map .int)]=yS b [] [] [.lst (nm.map .str),.dct [],.lst (cs.map .int)]:=rfl;have M:(yS b [] [] [.lst (nm.map .str),.dct [],.lst (cs.map .int)])[15]? = zA (.lst (cs.map .int)):=rfl;simp only[iE,zp,zQ,zS,zD,eC,qO,ji,B,alloc,h,L,itD,M]
  have N:z8 [(15,.lst (cs.map .int))] (yS b [] [] [.lst (nm.map .str),.dct [],.lst (cs.map .int)])=zC:=by simp[z8,yS]
  unfold K1;simp only[QE,J,jy,N,if_true];exact e
 obtain⟨o,Q,_⟩:=cN (b:=b) (f:=c) (cs:=cs) (nm:=nm) G (by lia) H (λn h=>(p n h).1) (by lia) (show i.length <= 900 by lia);refine⟨yS b (tD g c) (kD g c o) (yR nm g c cs),?_⟩;show (VO [zA (.ro (ns.map .int)),zB,zB,zB,zB,zB] []).out=_;unfold VO;simp only[ze,t,y,z,I,y2];unfold UK;simp only[z9,zp,zQ,zS,zD,qw,qO,ji];rw[Q,jy,xW]
end
end M
namespace My
open PySem L2 PyProof.Rows
noncomputable def top (i:Nat):zo:=PySem.Challenge.pw_thingyard_k71_given.main.body.getD i (.Pass ⟨0,0,0,0⟩)
theorem vv {X:Cx}{pos:Pos}{x:Str} (i:Nat) (c:X.N[i]? = zA x:=by rfl) (d:Vis X.env.scope x:=by exact jO (by kernel_rfl)) (e:(x == ("__debug__" : Str))=zP:=by kernel_rfl) (f:(x == ("__classdict__" : Str))=zP:=by kernel_rfl):WE X Θ (.Name x pos) (M.zD i):=DM i c d e f
theorem vc {X:Cx}{pos:Pos}{x:Str} (i:Nat) (c:X.N[i]? = zA x:=by rfl) (d:Vis X.env.scope x:=by exact vX (jO (by kernel_rfl))) (e:(x == ("__debug__" : Str))=zP:=by kernel_rfl) (f:(x == ("__classdict__" : Str))=zP:=by kernel_rfl):WE X Θ (.Name x pos) (M.zD i):=DM i c d e f
theorem zz {X:Cx}{pos:Pos}{y:M.T}{x:Str}{j:Nat} (h:x=ofT y:=by decide +kernel) (ok:okT y:=by decide +kernel):WE X Θ (.Constant (.str x) j pos) (M.eC (.str y)):=nL h ok
theorem gk {X:Cx}{x:Str} (h:X.env.kindOf x=zA .globalImplicit:=by kernel_rfl):Gl X x:=h
abbrev cX (P:jF) (w:z7) (K:zV) (mg:Str->Option zO) (base:zg) (N:List Str) (n:Str) (st:zo) (f:zN) (c:zO) (A:jf) (outer:List Env) (s:zU) (H:Hp) (E:XK):Cx:=(yf CX0 P w K mg base N n (zv st) f c A outer s H E).nox
abbrev RM (k:Nat) (n:Str) (st:zo) (A:jf) (s:zU) (f:zN) (c:zO):Prop:=jE k (A.deeper (y8 n (zv st) s.heap.objs.size f c))
abbrev bd (st:zo) (j:Nat):zo:=(yc st).getD j (.Pass ⟨0,0,0,0⟩)
def Ye (K:zV):Sp:=λvs H Q E=>∀ Θ:Tab,SpM K Θ 1 M.AX vs H Q E
theorem Fm {K:zV}{a:zN}{ns:List Int} (c:ns.length <= 63) (d:vN H) (e:SqL K H a (ns.map V.int)):Ye K [.ref a] H (λv _=>v=.bl zC) E:=λ_=>Pk M.oU c d e
def Θ1 (j l d m h i e f g:zN):Tab:=⟨λc=>if c=5 then zA (j,["bound","kept"]) else if c=7 then zA (l,["shelf","rows"]) else if c=6 then zA (d,["kept"]) else if c=10 then zA (m,["own","bench","texts","remembered"]) else if c=3 then zA (h,["name","rule","mores"]) else if c=8 then zA (i,["name","search","way","asked","texts","answers","wanted","end"]) else if c=9 then zA (e,["own","texts","remembered","bench","row","nexts","pile"]) else if c=2 then zA (f,["read"]) else if c=26 then zA (g,[]) else zB,λ_=>0,λ_ _ _=>False⟩
section
variable (P:jF) (w:z7) (K:zV) (mg:Str->Option zO) (base:zg) (zK zJ zH zE zI zG zF zL zM:zN)
abbrev Ax:Prop:=Has P w K mg base "words_of" 1 ["text"] (SpM K (Θ1 zK zJ zH zE zI zG zF zL zM) 1 M.aC)
abbrev d5:Prop:=Has P w K mg base "read_rows" 2 ["text"] (SpM K (Θ1 zK zJ zH zE zI zG zF zL zM) 1 M.Ae)
abbrev E5:Prop:=Has P w K mg base "is_row_sign" 1 ["sign"] (SpM K (Θ1 zK zJ zH zE zI zG zF zL zM) 1 M.KQ)
abbrev Vv:Prop:=Has P w K mg base "is_text" 2 ["thing"] (SpM K (Θ1 zK zJ zH zE zI zG zF zL zM) 1 M.Jq)
abbrev wB:Prop:=Has P w K mg base "read_book" 3 ["text"] (SpM K (Θ1 zK zJ zH zE zI zG zF zL zM) 1 M.wz)
abbrev Bp:Prop:=Has P w K mg base "is_bound" 1 ["thing"] (SpM K (Θ1 zK zJ zH zE zI zG zF zL zM) 1 M.Wd)
abbrev c1:Prop:=QO P w K mg base zK "Shelf" 3 ["self","bound"] (SpM K (Θ1 zK zJ zH zE zI zG zF zL zM) 2 M.WQ)
abbrev A1:Prop:=QO P w K mg base zJ "Bench" 5 ["self","bound"] (SpM K (Θ1 zK zJ zH zE zI zG zF zL zM) 2 M.U0)
abbrev aQ:Prop:=QO P w K mg base zH "Accounts" 1 ["self"] (SpM K (Θ1 zK zJ zH zE zI zG zF zL zM) 1 M.W6)
abbrev ai:Prop:=QO P w K mg base zE "Yard" 7 ["self","text","bound"] (SpM K (Θ1 zK zJ zH zE zI zG zF zL zM) 3 M.Ks)
abbrev AQ:Prop:=Has P w K mg base "_law_names" 1 ["_law_cell"] (SpM K (Θ1 zK zJ zH zE zI zG zF zL zM) 1 M.Kw)
abbrev vV:Prop:=Has P w K mg base "_law_cell_at" 1 ["_law_script","_law_k"] (SpM K (Θ1 zK zJ zH zE zI zG zF zL zM) 2 M.Qg)
abbrev Wc:Prop:=Has P w K mg base "_law_cells" 2 ["_law_script","_law_first","_law_end"] (SpM K (Θ1 zK zJ zH zE zI zG zF zL zM) 3 M.KH)
abbrev Vq:Prop:=qk P w K mg base zE "given" 1 ["self"] (SpM K (Θ1 zK zJ zH zE zI zG zF zL zM) 1 M.kI)
abbrev U7:Prop:=Has P w K mg base "needers_of" 1 ["needs"] (SpM K (Θ1 zK zJ zH zE zI zG zF zL zM) 1 M.Aw)
abbrev dh:Prop:=Has P w K mg base "leaners" 2 ["needs","names"] (SpM K (Θ1 zK zJ zH zE zI zG zF zL zM) 2 M.Ag)
abbrev Cb:Prop:=qk P w K mg base zH "leaning_on" 3 ["self","name"] (SpM K (Θ1 zK zJ zH zE zI zG zF zL zM) 2 M.Ky)
abbrev uy:Prop:=qk P w K mg base zH "let_go" 4 ["self","name"] (SpM K (Θ1 zK zJ zH zE zI zG zF zL zM) 2 M.Kl)
abbrev DF:Prop:=Has P w K mg base "is_letter" 1 ["sign"] (SpM K (Θ1 zK zJ zH zE zI zG zF zL zM) 1 M.Kh)
abbrev Be:Prop:=Has P w K mg base "is_plain" 2 ["thing"] (SpM K (Θ1 zK zJ zH zE zI zG zF zL zM) 1 M.JZ)
abbrev VW:Prop:=Has P w K mg base "is_name" 3 ["thing"] (SpM K (Θ1 zK zJ zH zE zI zG zF zL zM) 1 M.Q6)
abbrev vt:Prop:=qk P w K mg base zE "put" 5 ["self","name","text"] (SpM K (Θ1 zK zJ zH zE zI zG zF zL zM) 3 M.kR)
abbrev Y7:Prop:=aP P w K mg base zE "drop" 5 ["self","name"] (SpX K (Θ1 zK zJ zH zE zI zG zF zL zM) 2 M.xg)
abbrev As:Prop:=qk P w K mg base zE "log" 1 ["self"] (SpM K (Θ1 zK zJ zH zE zI zG zF zL zM) 1 M.vw)
abbrev dB:Prop:=qk P w K mg base zH "kept_of" 1 ["self","name"] (SpM K (Θ1 zK zJ zH zE zI zG zF zL zM) 2 M.uV)
abbrev aZ:Prop:=qk P w K mg base zH "keep" 1 ["self","name","account"] (SpM K (Θ1 zK zJ zH zE zI zG zF zL zM) 3 M.UY)
abbrev Yk:Prop:=Has P w K mg base "tree_under" 1 ["book","wanted"] (SpM K (Θ1 zK zJ zH zE zI zG zF zL zM) 2 M.V3)
abbrev Ux:Prop:=Has P w K mg base "family_of" 1 ["name"] (SpM K (Θ1 zK zJ zH zE zI zG zF zL zM) 1 M.J4)
abbrev wO:Prop:=Has P w K mg base "stem_of" 1 ["name"] (SpM K (Θ1 zK zJ zH zE zI zG zF zL zM) 1 M.WR)
abbrev dc:Prop:=Has P w K mg base "rule_in" 2 ["book","name"] (SpM K (Θ1 zK zJ zH zE zI zG zF zL zM) 2 M.bH)
abbrev Wz:Prop:=qk P w K mg base zI "look_in" 3 ["self","book"] (SpM K (Θ1 zK zJ zH zE zI zG zF zL zM) 2 M.WY)
abbrev bF:Prop:=QO P w K mg base zI "Search" 4 ["self","name","book"] (SpM K (Θ1 zK zJ zH zE zI zG zF zL zM) 3 M.U3)
abbrev Ed:Prop:=QO P w K mg base zG "Making" 6 ["self","name","book"] (SpM K (Θ1 zK zJ zH zE zI zG zF zL zM) 3 M.w8)
abbrev D9:Prop:=qk P w K mg base zG "seek" 1 ["self"] (SpM K (Θ1 zK zJ zH zE zI zG zF zL zM) 1 M.Au)
abbrev cP:Prop:=qk P w K mg base zG "go_on" 2 ["self","bench"] (SpM K (Θ1 zK zJ zH zE zI zG zF zL zM) 2 M.Wv)
abbrev bx:Prop:=qk P w K mg base zF "go_on" 3 ["self","making"] (SpM K (Θ1 zK zJ zH zE zI zG zF zL zM) 2 M.bV)
abbrev bz:Prop:=Has P w K mg base "given_account" 1 ["text"] (SpM K (Θ1 zK zJ zH zE zI zG zF zL zM) 1 M.AJ)
abbrev DP:Prop:=qk P w K mg base zF "begin" 8 ["self","name"] (SpM K (Θ1 zK zJ zH zE zI zG zF zL zM) 2 M.bX)
abbrev cZ:Prop:=qk P w K mg base zG "account_with" 1 ["self","outcome"] (SpM K (Θ1 zK zJ zH zE zI zG zF zL zM) 2 M.bT)
abbrev fE:Prop:=qk P w K mg base zF "finish" 2 ["self","outcome"] (SpM K (Θ1 zK zJ zH zE zI zG zF zL zM) 2 M.wx)
abbrev Df:Prop:=qk P w K mg base zF "settle" 9 ["self","name"] (SpM K (Θ1 zK zJ zH zE zI zG zF zL zM) 2 M.WH)
abbrev aW:Prop:=QO P w K mg base zL "BookPile" 1 ["self"] (SpM K (Θ1 zK zJ zH zE zI zG zF zL zM) 1 M.Af)
abbrev DS:Prop:=QO P w K mg base zF "Settling" 3 ["self","book","texts","remembered","bench"] (SpM K (Θ1 zK zJ zH zE zI zG zF zL zM) 5 M.aj)
abbrev Y3:Prop:=qk P w K mg base zE "account" 10 ["self","name"] (SpM K (Θ1 zK zJ zH zE zI zG zF zL zM) 2 M.xb)
abbrev AU:Prop:=qk P w K mg base zE "outcome" 11 ["self","name"] (SpM K (Θ1 zK zJ zH zE zI zG zF zL zM) 2 M.XA)
abbrev Ub:Prop:=Has P w K mg base "_law_told" 12 ["_law_yard","_law_names_here","_law_texts"] (SpM K (Θ1 zK zJ zH zE zI zG zF zL zM) 3 M.xq)
abbrev br:Prop:=Has P w K mg base "_law_sign_by" 1 ["_law_cell"] (SpM K (Θ1 zK zJ zH zE zI zG zF zL zM) 1 M.ki)
abbrev cL:Prop:=Has P w K mg base "_law_text_by" 2 ["_law_cell","_law_size"] (SpM K (Θ1 zK zJ zH zE zI zG zF zL zM) 2 M.X8)
abbrev bI:Prop:=Has P w K mg base "_law_put_text" 3 ["_law_cell"] (SpM K (Θ1 zK zJ zH zE zI zG zF zL zM) 1 M.XX)
abbrev Am:Prop:=Has P w K mg base "_law_dropped" 6 ["_law_yard","_law_name","_law_texts"] (SpM K (Θ1 zK zJ zH zE zI zG zF zL zM) 3 M.Kf)
end
variable {P:jF}{w:z7}{K:zV}{mg:Str->Option zO}{base:zg}{f:zN}{fd:Jr}{cdv:zO}{A:jf}{outer:List Env}{s:zU}{H:Hp}{E:XK}{zK zJ zH zE zI zG zF zL zM:zN}
abbrev Ah (P:jF) (w:z7) (K:zV) (mg:Str->Option zO) (base:zg) (zM:zN):Prop:=u7 K mg zM "NoThing" "YardError"
abbrev Wx (K:zV) (zK zJ zH zE zI zG zF zL zM:zN):Prop:=qc K (Θ1 zK zJ zH zE zI zG zF zL zM) 5 zK ["bound","kept"]
abbrev vp (K:zV) (zK zJ zH zE zI zG zF zL zM:zN):Prop:=qc K (Θ1 zK zJ zH zE zI zG zF zL zM) 7 zJ ["shelf","rows"]
abbrev ZQ (K:zV) (zK zJ zH zE zI zG zF zL zM:zN):Prop:=qc K (Θ1 zK zJ zH zE zI zG zF zL zM) 6 zH ["kept"]
abbrev qg (K:zV) (zK zJ zH zE zI zG zF zL zM:zN):Prop:=qc K (Θ1 zK zJ zH zE zI zG zF zL zM) 10 zE ["own","bench","texts","remembered"]
abbrev Qi (K:zV) (zK zJ zH zE zI zG zF zL zM:zN):Prop:=qc K (Θ1 zK zJ zH zE zI zG zF zL zM) 3 zI ["name","rule","mores"]
abbrev y0 (K:zV) (zK zJ zH zE zI zG zF zL zM:zN):Prop:=qc K (Θ1 zK zJ zH zE zI zG zF zL zM) 8 zG ["name","search","way","asked","texts","answers","wanted","end"]
abbrev Za (K:zV) (zK zJ zH zE zI zG zF zL zM:zN):Prop:=qc K (Θ1 zK zJ zH zE zI zG zF zL zM) 9 zF ["own","texts","remembered","bench","row","nexts","pile"]
abbrev Vx (K:zV) (zK zJ zH zE zI zG zF zL zM:zN):Prop:=qc K (Θ1 zK zJ zH zE zI zG zF zL zM) 2 zL ["read"]
abbrev AV:zo:=top 27
noncomputable abbrev cA:List Str:=["text"]
theorem pM:jG cA ["text"] (zv AV):=⟨rfl,rfl,rfl,by decide +kernel,rfl,by decide +kernel,by decide +kernel⟩
theorem LQ:(["text","word"]:List Str).Nodup:=by decide +kernel
theorem Gq (F:Fun K "words_of" "words_of" AV f fd) :
  z4 P w K mg base CX0 1 f fd ["text"] (SpM K (Θ1 zK zJ zH zE zI zG zF zL zM) 1 M.aC):=by
 refine qK (N:=cA) (b:=M.ug) F pM λcdv A outer s H E c=>?_;unfold M.ug;exact (zk (jU (Vj (vars:=["word"]) rfl ⟨rfl,rfl,(by kernel_rfl),(by kernel_rfl),(by decide +kernel),trivial,(by kernel_rfl)⟩ (QC (y6 kQ E2 El aG A0 rfl (Ha (vv 0) (by decide +kernel) (by decide +kernel) rfl (by decide +kernel)) (zW zz zb))) (λ_ _ _ _=>(yC (i:=1) LQ rfl (jO (by kernel_rfl)) (.inr (by kernel_rfl)))) (λ_ _ _ _=>(N8 (qV (Ve c) K7 (vv 1) zz (qy _)))) (λ_ _ _ _=>(vv 1)) (by kernel_rfl))))
abbrev ZM:zo:=top 68
noncomputable abbrev KN:List Str:=["text","rules","mores","number","row","words"]
theorem Xh:jG KN ["text"] (zv ZM):=⟨rfl,rfl,rfl,by decide +kernel,rfl,by decide +kernel,by decide +kernel⟩
theorem ox (c:RM 1 "read_rows" ZM A s f cdv):WS (cX P w K mg base KN "read_rows" ZM f cdv A outer s H E) (Θ1 zK zJ zH zE zI zG zF zL zM) (bd ZM 0) M.YT:=by
 unfold M.YT;exact (qF (i:=1) Xh.nd rfl (jO (by kernel_rfl)) (Q5 zb))
theorem fH (c:RM 1 "read_rows" ZM A s f cdv):WS (cX P w K mg base KN "read_rows" ZM f cdv A outer s H E) (Θ1 zK zJ zH zE zI zG zF zL zM) (bd ZM 1) M.UC:=by
 unfold M.UC;exact (qF (i:=2) Xh.nd rfl (jO (by kernel_rfl)) (Q5 zb))
theorem FE (d:Ax P w K mg base zK zJ zH zE zI zG zF zL zM) (c:mg "enumerate" = zB) (e:mg "len" = zB) (g:RM 1 "read_rows" ZM A s f cdv):WS (cX P w K mg base KN "read_rows" ZM f cdv A outer s H E) (Θ1 zK zJ zH zE zI zG zF zL zM) (bd ZM 2) M.uM:=by
 unfold M.uM;exact (kz JM rfl (lz gk c (y6 kQ E2 El aG A0 rfl (vv 0) (zW zz zb))) (wd (n:=2) rfl (Xt (yC (i:=3) Xh.nd rfl (jO (by kernel_rfl)) (.inl rfl)) (Xt (yC (i:=4) Xh.nd rfl (jO (by kernel_rfl)) (.inl rfl)) WU (λa b=>XZ a b)) (λa b=>XZ a b)) (wq))
  (zu (qF (i:=5) Xh.nd rfl (jO (by kernel_rfl)) (j9 d g (by decide) gk (zW (vv 4) zb) (zy jH)))
  (zu (jr (kX (kW (qV (Zw g) Z8 (yW JL Qv gk e Q7 (zW (vv 5) zb)) jQ (qy _)) (kL (ZS (y6 kQ PySem.F.slot_str_startswith PySem.F.type_str_startswith iF OI rfl (vv 4) (zW zz zb))))))
  (zk iq)
  j7)
  (zk (jr (qV (Zw g) Z8 (yg (yu g) yl (vv 5) jQ) zz (qy _))
  (zk JP)
  (zk JP))))))
theorem LZ (c:RM 1 "read_rows" ZM A s f cdv):WS (cX P w K mg base KN "read_rows" ZM f cdv A outer s H E) (Θ1 zK zJ zH zE zI zG zF zL zM) (bd ZM 3) M.Ys:=by
 unfold M.Ys;exact (jU (yD (zW (vv 1) (zW (vv 2) zb))))
theorem HR (F:Fun K "read_rows" "read_rows" ZM f fd) (d:Ax P w K mg base zK zJ zH zE zI zG zF zL zM) (c:mg "enumerate" = zB) (e:mg "len" = zB) :
  z4 P w K mg base CX0 2 f fd ["text"] (SpM K (Θ1 zK zJ zH zE zI zG zF zL zM) 1 M.Ae):=by
 refine qK (N:=KN) (b:=M.Ua) F Xh λcdv A outer s H E g=>?_;unfold M.Ua;exact (zu (ox g) (zu (fH g) (zu (FE d c e g) (zk (LZ g)))))
abbrev Az:zo:=top 20
noncomputable abbrev oO:List Str:=["sign"]
theorem ik:jG oO ["sign"] (zv Az):=⟨rfl,rfl,rfl,by decide +kernel,rfl,by decide +kernel,by decide +kernel⟩
theorem Hy (F:Fun K "is_row_sign" "is_row_sign" Az f fd) :
  z4 P w K mg base CX0 1 f fd ["sign"] (SpM K (Θ1 zK zJ zH zE zI zG zF zL zM) 1 M.KQ):=by
 refine yA (b:=M.uz) F ik M.OG λcdv A outer s H E c=>?_;unfold M.uz;exact (zk (jU (CN (u1 QY QY QM QM zz (vv 0) zz) (KE (u1 QY QY QM QM zz (vv 0) zz)))))
abbrev An:zo:=top 22
noncomputable abbrev mB:List Str:=["thing"]
theorem LL:jG mB ["thing"] (zv An):=⟨rfl,rfl,rfl,by decide +kernel,rfl,by decide +kernel,by decide +kernel⟩
theorem O1:(["thing","sign"]:List Str).Nodup:=by decide +kernel
theorem iA (F:Fun K "is_text" "is_text" An f fd) (c:E5 P w K mg base zK zJ zH zE zI zG zF zL zM) (g:mg "all" = zB) (d:mg "isinstance" = zB) (h:mg "str" = zB) (j:mg "len" = zB) (e:Qt mg "MOST_SIGNS" (.int 900)) :
  z4 P w K mg base CX0 2 f fd ["thing"] (SpM K (Θ1 zK zJ zH zE zI zG zF zL zM) 1 M.Jq):=by
 refine yA (b:=M.vB) F LL M.ia λcdv A outer s H E l=>?_;unfold M.vB;exact (zu (jr (kX (kW (Zp (ZS (yW VM vH gk d vQ (zW (vv 0) (zW (Vr .str gk h wu) zb))))) (kL (qV aS AZ (yW JL Qv gk j Q7 (zW (vv 0) zb)) (Ac e gk (λ_ _=>rfl)) (qy _)))))
  (zk (jU QW))
  j7)
  (zk (jU (WB (bO rfl) ax gk g A7 (vars:=["sign"]) rfl ⟨rfl,rfl,(by kernel_rfl),(by kernel_rfl),(by decide +kernel),trivial,(by kernel_rfl)⟩ (QC (vv 0)) (λ_ _ _ _=>(yC (i:=1) O1 rfl (jO (by kernel_rfl)) (.inr (by kernel_rfl)))) (λ_ _ _ _=>xE) (λ_ _ _ _=>(CN (xX (Zw l) Z8 (vv 1) zz (qy _)) (KE (j9 c l (by decide) gk (zW (vv 1) zb) (zy jH))))) (by kernel_rfl)))))
abbrev AL:zo:=top 69
noncomputable abbrev bY:List Str:=["text"]
theorem IC:jG bY ["text"] (zv AL):=⟨rfl,rfl,rfl,by decide +kernel,rfl,by decide +kernel,by decide +kernel⟩
theorem nh (F:Fun K "read_book" "read_book" AL f fd) (c:d5 P w K mg base zK zJ zH zE zI zG zF zL zM) (d:Vv P w K mg base zK zJ zH zE zI zG zF zL zM) :
  z4 P w K mg base CX0 3 f fd ["text"] (SpM K (Θ1 zK zJ zH zE zI zG zF zL zM) 1 M.wz):=by
 refine qK (N:=bY) (b:=M.Yw) F IC λcdv A outer s H E e=>?_;unfold M.Yw;exact (zu (jr (Zp (ZS (j9 d e (by decide) gk (zW (vv 0) zb) (zy jH))))
  (zk JP)
  j7)
  (zk (jU (j9 c e (by decide) gk (zW (vv 0) zb) (zy jH)))))
abbrev U4:zo:=top 82
noncomputable abbrev DG:List Str:=["thing"]
theorem Od:jG DG ["thing"] (zv U4):=⟨rfl,rfl,rfl,by decide +kernel,rfl,by decide +kernel,by decide +kernel⟩
theorem fM (F:Fun K "is_bound" "is_bound" U4 f fd) (c:mg "isinstance" = zB) (e:mg "bool" = zB) (g:mg "int" = zB) (d:Qt mg "MOST_KEYS" (.int 1000)) :
  z4 P w K mg base CX0 1 f fd ["thing"] (SpM K (Θ1 zK zJ zH zE zI zG zF zL zM) 1 M.Wd):=by
 refine qK (N:=DG) (b:=M.UR) F Od λcdv A outer s H E h=>?_;unfold M.UR;exact (zu (jr (kX (kW (Zp (ZS (yW VM vH gk c vQ (zW (vv 0) (zW (Vr .int gk g O3) zb))))) (kL (ZS (yW VM vH gk c vQ (zW (vv 0) (zW (Vr .bool gk e lD) zb)))))))
  (zk (jU QW))
  j7)
  (zk (jU (u1 QY QY QM QM jQ (vv 0) (Ac d gk (λ_ _=>rfl))))))
abbrev wW:zo:=qZ (top 83) 0
noncomputable abbrev dI:List Str:=["self","bound"]
theorem Ol:jG dI ["self","bound"] (zv wW):=⟨rfl,rfl,rfl,by decide +kernel,rfl,by decide +kernel,by decide +kernel⟩
theorem lp (F:Fun K "__init__" "Shelf.__init__" wW f fd) (c:Wx K zK zJ zH zE zI zG zF zL zM) (d:Bp P w K mg base zK zJ zH zE zI zG zF zL zM) :
  z4 P w K mg base CX0 3 f fd ["self","bound"] (SpM K (Θ1 zK zJ zH zE zI zG zF zL zM) 2 M.WQ):=by
 refine qK (N:=dI) (b:=M.uP) F Ol λcdv A outer s H E e=>?_;unfold M.uP;exact (zu (jr (Zp (ZS (j9 d e (by decide) gk (zW (vv 1) zb) (zy jH))))
  (zk JP)
  j7)
  (zu (qC (i:=0) c rfl (vv 0) (vv 1))
  (zk (qC (i:=1) c rfl (vv 0) QK))))
abbrev au:zo:=qZ (top 96) 0
noncomputable abbrev EL:List Str:=["self","bound"]
theorem MF:jG EL ["self","bound"] (zv au):=⟨rfl,rfl,rfl,by decide +kernel,rfl,by decide +kernel,by decide +kernel⟩
theorem iP (F:Fun K "__init__" "Bench.__init__" au f fd) (d:vp K zK zJ zH zE zI zG zF zL zM) (e:Wx K zK zJ zH zE zI zG zF zL zM) (c:c1 P w K mg base zK zJ zH zE zI zG zF zL zM) :
  z4 P w K mg base CX0 5 f fd ["self","bound"] (SpM K (Θ1 zK zJ zH zE zI zG zF zL zM) 2 M.U0):=by
 refine qK (N:=EL) (b:=M.Uh) F MF λcdv A outer s H E g=>?_;unfold M.Uh;exact (zu (qC (i:=0) d rfl (vv 0) (Km e c g (by decide) rfl gk (zW (vv 1) zb) (zy jH)))
  (zk (qC (i:=1) d rfl (vv 0) (Q5 zb))))
abbrev U8:zo:=qZ (top 7) 0
noncomputable abbrev ES:List Str:=["self"]
theorem gH:jG ES ["self"] (zv U8):=⟨rfl,rfl,rfl,by decide +kernel,rfl,by decide +kernel,by decide +kernel⟩
theorem NX (F:Fun K "__init__" "Accounts.__init__" U8 f fd) (c:ZQ K zK zJ zH zE zI zG zF zL zM) :
  z4 P w K mg base CX0 1 f fd ["self"] (SpM K (Θ1 zK zJ zH zE zI zG zF zL zM) 1 M.W6):=by
 refine qK (N:=ES) (b:=M.uw) F gH λcdv A outer s H E d=>?_;unfold M.uw;exact (zk (qC (i:=0) c rfl (vv 0) QK))
abbrev ZH:zo:=qZ (top 100) 0
noncomputable abbrev KL:List Str:=["self","text","bound"]
theorem p7:jG KL ["self","text","bound"] (zv ZH):=⟨rfl,rfl,rfl,by decide +kernel,rfl,by decide +kernel,by decide +kernel⟩
theorem M2 (d:qg K zK zJ zH zE zI zG zF zL zM) (c:wB P w K mg base zK zJ zH zE zI zG zF zL zM) (e:RM 6 "Yard.__init__" ZH A s f cdv):WS (cX P w K mg base KL "Yard.__init__" ZH f cdv A outer s H E) (Θ1 zK zJ zH zE zI zG zF zL zM) (bd ZH 0) M.YC:=by
 unfold M.YC;exact (qC (i:=0) d rfl (vv 0) (j9 c e (by decide) gk (zW (vv 1) zb) (zy jH)))
theorem Ga (e:qg K zK zJ zH zE zI zG zF zL zM) (d:vp K zK zJ zH zE zI zG zF zL zM) (c:A1 P w K mg base zK zJ zH zE zI zG zF zL zM) (g:RM 6 "Yard.__init__" ZH A s f cdv):WS (cX P w K mg base KL "Yard.__init__" ZH f cdv A outer s H E) (Θ1 zK zJ zH zE zI zG zF zL zM) (bd ZH 1) M.Um:=by
 unfold M.Um;exact (qC (i:=1) e rfl (vv 0) (Km d c g (by decide) rfl gk (zW (vv 2) zb) (zy jH)))
theorem NH (c:qg K zK zJ zH zE zI zG zF zL zM) (d:RM 6 "Yard.__init__" ZH A s f cdv):WS (cX P w K mg base KL "Yard.__init__" ZH f cdv A outer s H E) (Θ1 zK zJ zH zE zI zG zF zL zM) (bd ZH 2) M.V5:=by
 unfold M.V5;exact (qC (i:=2) c rfl (vv 0) QK)
theorem g6 (e:qg K zK zJ zH zE zI zG zF zL zM) (d:ZQ K zK zJ zH zE zI zG zF zL zM) (c:aQ P w K mg base zK zJ zH zE zI zG zF zL zM) (g:RM 6 "Yard.__init__" ZH A s f cdv):WS (cX P w K mg base KL "Yard.__init__" ZH f cdv A outer s H E) (Θ1 zK zJ zH zE zI zG zF zL zM) (bd ZH 3) M.Yr:=by
 unfold M.Yr;exact (qC (i:=3) e rfl (vv 0) (Dt d c g (by decide) rfl gk))
theorem MR (F:Fun K "__init__" "Yard.__init__" ZH f fd) (e:qg K zK zJ zH zE zI zG zF zL zM) (i:vp K zK zJ zH zE zI zG zF zL zM) (h:ZQ K zK zJ zH zE zI zG zF zL zM) (g:wB P w K mg base zK zJ zH zE zI zG zF zL zM) (d:A1 P w K mg base zK zJ zH zE zI zG zF zL zM) (c:aQ P w K mg base zK zJ zH zE zI zG zF zL zM) :
  z4 P w K mg base CX0 7 f fd ["self","text","bound"] (SpM K (Θ1 zK zJ zH zE zI zG zF zL zM) 3 M.Ks):=by
 refine qK (N:=KL) (b:=M.Yv) F p7 λcdv A outer s H E j=>?_;unfold M.Yv;exact (zu (M2 e g j) (zu (Ga e i d j) (zu (NH e j) (zk (g6 e h c j)))))
abbrev yn:zo:=top 104
noncomputable abbrev Xl:List Str:=["_law_cell","_law_ahead","_law_tail","_law_some"]
theorem vJ:jG Xl ["_law_cell"] (zv yn):=⟨rfl,rfl,rfl,by decide +kernel,rfl,by decide +kernel,by decide +kernel⟩
theorem FG:(["_law_cell","_law_ahead","_law_tail","_law_some","_law_letters"]:List Str).Nodup:=by decide +kernel
theorem Gg (c:RM 0 "_law_names" yn A s f cdv):WS (cX P w K mg base Xl "_law_names" yn f cdv A outer s H E) (Θ1 zK zJ zH zE zI zG zF zL zM) (bd yn 0) M.vu:=by
 unfold M.vu;exact (qF (i:=1) vJ.nd rfl (vX (by kernel_rfl)) (jw XG k6 zz (jw Ze Zg (vv 0) jQ)))
theorem Pz (c:RM 0 "_law_names" yn A s f cdv):WS (cX P w K mg base Xl "_law_names" yn f cdv A outer s H E) (Θ1 zK zJ zH zE zI zG zF zL zM) (bd yn 1) M.Kr:=by
 unfold M.Kr;exact (qF (i:=2) vJ.nd rfl (vX (by kernel_rfl)) (jw XG k6 zz (jw Ze Zg (jw Qu JH (vv 0) jQ) jQ)))
theorem fG (c:RM 0 "_law_names" yn A s f cdv):WS (cX P w K mg base Xl "_law_names" yn f cdv A outer s H E) (Θ1 zK zJ zH zE zI zG zF zL zM) (bd yn 2) M.vh:=by
 unfold M.vh;exact (qF (i:=3) vJ.nd rfl (jO (by kernel_rfl)) (Q5 (zW zz (zW zz (zW zz (zW zz (zW zz (zW zz zb))))))))
theorem GS (c:RM 0 "_law_names" yn A s f cdv):WS (cX P w K mg base Xl "_law_names" yn f cdv A outer s H E) (Θ1 zK zJ zH zE zI zG zF zL zM) (bd yn 3) M.XW:=by
 unfold M.XW;exact (jr (qV (Zw c) Z8 (jw Ze Zg (jw Qu JH (vv 0) jQ) jQ) jQ (qy _))
  (zk (qF (i:=3) vJ.nd rfl (jO (by kernel_rfl)) (Q5 (zW zz (zW zz (zW zz (zW zz (zW zz (zW zz zb)))))))))
  j7)
theorem pH (c:RM 0 "_law_names" yn A s f cdv):WS (cX P w K mg base Xl "_law_names" yn f cdv A outer s H E) (Θ1 zK zJ zH zE zI zG zF zL zM) (bd yn 4) M.VC:=by
 unfold M.VC;exact (jU (Vj (vars:=["_law_letters"]) rfl ⟨rfl,rfl,(by kernel_rfl),(by kernel_rfl),(by decide +kernel),⟨(by kernel_rfl),(by kernel_rfl),trivial⟩,(by kernel_rfl)⟩ (QC (vv 3)) (λ_ _ _ _=>(yC (i:=4) FG rfl (jO (by kernel_rfl)) (.inr (by kernel_rfl)))) (λ_ _ _ _=>xE) (λ_ _ _ _=>(jw (OpR.or xn kE) xI (jw (OpR.or xn kE) xI (vc 1) (vv 4)) (vc 2))) (by kernel_rfl)))
theorem Pd (F:Fun K "_law_names" "_law_names" yn f fd) :
  z4 P w K mg base CX0 1 f fd ["_law_cell"] (SpM K (Θ1 zK zJ zH zE zI zG zF zL zM) 1 M.Kw):=by
 refine yA (b:=M.kM) F vJ M.FA λcdv A outer s H E c=>?_;unfold M.kM;exact (zu (Gg c) (zu (Pz c) (zu (fG c) (zu (GS c) (zk (pH c))))))
abbrev We:zo:=top 102
noncomputable abbrev fh:List Str:=["_law_script","_law_k"]
theorem hW:jG fh ["_law_script","_law_k"] (zv We):=⟨rfl,rfl,rfl,by decide +kernel,rfl,by decide +kernel,by decide +kernel⟩
theorem O9 (F:Fun K "_law_cell_at" "_law_cell_at" We f fd) (c:mg "len" = zB) :
  z4 P w K mg base CX0 1 f fd ["_law_script","_law_k"] (SpM K (Θ1 zK zJ zH zE zI zG zF zL zM) 2 M.Qg):=by
 refine yA (b:=M.vG) F hW M.Fj λcdv A outer s H E d=>?_;unfold M.vG;exact (zu (jr (qV n3 G1 (vv 1) (yW JL Qv gk c Q7 (zW (vv 0) zb)) (qy _))
  (zk (jU (jw Ze Zg (jw (OpR.or xn kE) xI (jw XG k6 (yg (yu d) yl (vv 0) (vv 1)) jQ) (jw XG k6 jQ (vv 1))) jQ)))
  j7)
  (zk (jU jQ)))
abbrev Wg:zo:=top 103
noncomputable abbrev GX:List Str:=["_law_script","_law_first","_law_end"]
theorem L7:jG GX ["_law_script","_law_first","_law_end"] (zv Wg):=⟨rfl,rfl,rfl,by decide +kernel,rfl,by decide +kernel,by decide +kernel⟩
theorem MM:(["_law_script","_law_first","_law_end","_law_k"]:List Str).Nodup:=by decide +kernel
theorem o7 (F:Fun K "_law_cells" "_law_cells" Wg f fd) (c:vV P w K mg base zK zJ zH zE zI zG zF zL zM) (d:mg "range" = zB) (e:mg "min" = zB) (g:mg "len" = zB) :
  z4 P w K mg base CX0 2 f fd ["_law_script","_law_first","_law_end"] (SpM K (Θ1 zK zJ zH zE zI zG zF zL zM) 3 M.KH):=by
 refine yA (b:=M.Kp) F L7 M.Om λcdv A outer s H E h=>?_;unfold M.Kp;exact (zk (jU (Vj (vars:=["_law_k"]) rfl ⟨rfl,rfl,(by kernel_rfl),(by kernel_rfl),(by decide +kernel),⟨(by kernel_rfl),trivial⟩,(by kernel_rfl)⟩ (pT gk d (vv 1) (yW (F1 rfl) nU gk e nk (zW (vv 2) (zW (yW JL Qv gk g Q7 (zW (vc 0) zb)) zb)))) (λ_ _ _ _=>(yC (i:=3) MM rfl (jO (by kernel_rfl)) (.inr (by kernel_rfl)))) (λ_ _ _ _=>xE) (λ_ _ _ _=>(j9 c h (by decide) gk (zW (vc 0) (zW (vv 3) zb)) (zy (zy jH)))) (by kernel_rfl))))
abbrev Wn:zo:=qZ (top 100) 6
noncomputable abbrev Fx:List Str:=["self"]
theorem Nc:jG Fx ["self"] (zv Wn):=⟨rfl,rfl,rfl,by decide +kernel,rfl,by decide +kernel,by decide +kernel⟩
theorem G7:(["self","name"]:List Str).Nodup:=by decide +kernel
theorem oN (F:Fun K "given" "Yard.given" Wn f fd) (c:qg K zK zJ zH zE zI zG zF zL zM) (e:mg "dict" = zB) (d:mg "sorted" = zB) :
  z4 P w K mg base CX0 1 f fd ["self"] (SpM K (Θ1 zK zJ zH zE zI zG zF zL zM) 1 M.kI):=by
 refine yA (b:=M.vz) F Nc M.IA λcdv A outer s H E g=>?_;unfold M.vz;exact (zk (jU (ko (BW g) Co gk e CD (zW (Vj (vars:=["name"]) rfl ⟨rfl,rfl,(by kernel_rfl),(by kernel_rfl),(by decide +kernel),⟨(by kernel_rfl),trivial⟩,(by kernel_rfl)⟩ (QC (yW (aK g) AD gk d wI (zW (jX (i:=2) c rfl (vc 0)) zb))) (λ_ _ _ _=>(yC (i:=1) G7 rfl (jO (by kernel_rfl)) (.inr (by kernel_rfl)))) (λ_ _ _ _=>xE) (λ_ _ _ _=>(yD (zW (vv 1) (zW (yg (yu g) yl (jX (i:=2) c rfl (vc 0)) (vv 1)) zb)))) (by kernel_rfl)) zb))))
abbrev Ww:zo:=top 2
noncomputable abbrev EY:List Str:=["needs","needers","name","needed"]
theorem Y2:jG EY ["needs"] (zv Ww):=⟨rfl,rfl,rfl,by decide +kernel,rfl,by decide +kernel,by decide +kernel⟩
theorem nV (F:Fun K "needers_of" "needers_of" Ww f fd) :
  z4 P w K mg base CX0 1 f fd ["needs"] (SpM K (Θ1 zK zJ zH zE zI zG zF zL zM) 1 M.Aw):=by
 refine qK (N:=EY) (b:=M.vm) F Y2 λcdv A outer s H E c=>?_;unfold M.vm;exact (zu (qF (i:=1) Y2.nd rfl (jO (by kernel_rfl)) QK)
  (zu (ef JM rfl (vv 0) (yC (i:=2) Y2.nd rfl (jO (by kernel_rfl)) (.inl rfl))
  (zk (kz JM rfl (QC (yg (yu c) yl (vv 0) (vv 2))) (yC (i:=3) Y2.nd rfl (jO (by kernel_rfl)) (.inl rfl))
  (zu (jr (qV (xH c) xC (vv 3) (vv 1) (by rfl))
  (zk (xp c (vv 1) (vv 3) QK))
  j7)
  (zk (xp c (yg (yu c) yl (vv 1) (vv 3)) (vv 2) QW))))))
  (zk (jU (vv 1)))))
abbrev yk:zo:=top 3
noncomputable abbrev k9:List Str:=["needs","names","needers","leaning","todo","name","needer"]
theorem KY:jG k9 ["needs","names"] (zv yk):=⟨rfl,rfl,rfl,by decide +kernel,rfl,by decide +kernel,by decide +kernel⟩
theorem nA (c:U7 P w K mg base zK zJ zH zE zI zG zF zL zM) (d:RM 1 "leaners" yk A s f cdv):WS (cX P w K mg base k9 "leaners" yk f cdv A outer s H E) (Θ1 zK zJ zH zE zI zG zF zL zM) (bd yk 0) M.ux:=by
 unfold M.ux;exact (qF (i:=2) KY.nd rfl (jO (by kernel_rfl)) (j9 c d (by decide) gk (zW (vv 0) zb) (zy jH)))
theorem NI (c:RM 1 "leaners" yk A s f cdv):WS (cX P w K mg base k9 "leaners" yk f cdv A outer s H E) (Θ1 zK zJ zH zE zI zG zF zL zM) (bd yk 1) M.uU:=by
 unfold M.uU;exact (qF (i:=3) KY.nd rfl (jO (by kernel_rfl)) QK)
theorem FH (c:mg "list" = zB) (d:RM 1 "leaners" yk A s f cdv):WS (cX P w K mg base k9 "leaners" yk f cdv A outer s H E) (Θ1 zK zJ zH zE zI zG zF zL zM) (bd yk 2) M.YN:=by
 unfold M.YN;exact (qF (i:=4) KY.nd rfl (jO (by kernel_rfl)) (ko (Y6 d) uQ gk c Vs (zW (vv 1) zb)))
theorem gK (c:mg "len" = zB) (d:RM 1 "leaners" yk A s f cdv):WS (cX P w K mg base k9 "leaners" yk f cdv A outer s H E) (Θ1 zK zJ zH zE zI zG zF zL zM) (bd yk 3) M.ud:=by
 unfold M.ud;exact (Eo JM (qV aS AZ (yW JL Qv gk c Q7 (zW (vv 4) zb)) jQ (qy _))
  (zu (qF (i:=5) KY.nd rfl (jO (by kernel_rfl)) (BG Y8 gL FI CU B0 rfl (vv 4)))
  (zk (ef JM rfl (y6 kY VE i0 (df d) Cf rfl (vv 2) (zW (vv 5) (zW QK zb))) (yC (i:=6) KY.nd rfl (jO (by kernel_rfl)) (.inl rfl))
  (zk (jr (qV (xH d) xC (vv 6) (vv 3) (by rfl))
  (zu (xp d (vv 3) (vv 6) QW)
  (zk (yH (y6 Y8 BU D7 bA ao rfl (vv 4) (zW (vv 6) zb)))))
  j7))))))
theorem oR (c:mg "sorted" = zB) (d:RM 1 "leaners" yk A s f cdv):WS (cX P w K mg base k9 "leaners" yk f cdv A outer s H E) (Θ1 zK zJ zH zE zI zG zF zL zM) (bd yk 4) M.UP:=by
 unfold M.UP;exact (jU (yW (aK d) AD gk c wI (zW (vv 3) zb)))
theorem M4 (F:Fun K "leaners" "leaners" yk f fd) (c:U7 P w K mg base zK zJ zH zE zI zG zF zL zM) (e:mg "list" = zB) (d:mg "sorted" = zB) (g:mg "len" = zB) :
  z4 P w K mg base CX0 2 f fd ["needs","names"] (SpM K (Θ1 zK zJ zH zE zI zG zF zL zM) 2 M.Ag):=by
 refine qK (N:=k9) (b:=M.VF) F KY λcdv A outer s H E h=>?_;unfold M.VF;exact (zu (nA c h) (zu (NI h) (zu (FH e h) (zu (gK g h) (zk (oR d h))))))
abbrev bW:zo:=qZ (top 7) 3
noncomputable abbrev pv:List Str:=["self","name","needs"]
theorem CI:jG pv ["self","name"] (zv bW):=⟨rfl,rfl,rfl,by decide +kernel,rfl,by decide +kernel,by decide +kernel⟩
theorem C1:(["self","name","needs","other","account"]:List Str).Nodup:=by decide +kernel
theorem m7 (F:Fun K "leaning_on" "Accounts.leaning_on" bW f fd) (d:ZQ K zK zJ zH zE zI zG zF zL zM) (e:dh P w K mg base zK zJ zH zE zI zG zF zL zM) (g:mg "dict" = zB) (h:mg "list" = zB) :
  z4 P w K mg base CX0 3 f fd ["self","name"] (SpM K (Θ1 zK zJ zH zE zI zG zF zL zM) 2 M.Ky):=by
 refine yA (b:=M.Vl) F CI M.pk λcdv A outer s H E j=>?_;unfold M.Vl;exact (zu (LN (c:=6) (f:=0) (i:=0) (qF (i:=2) CI.nd rfl (jO (by kernel_rfl)) (ko (BW j) Co gk g CD (zW (Vj (vars:=["other","account"]) rfl ⟨rfl,rfl,(by kernel_rfl),(by kernel_rfl),(by decide +kernel),trivial,(by kernel_rfl)⟩ (lR (jX (i:=0) d rfl (vv 0))) (λ_ _ _ _=>(wd (n:=2) rfl (Xt (yC (i:=3) C1 rfl (jO (by kernel_rfl)) (.inr (by kernel_rfl))) (Xt (yC (i:=4) C1 rfl (jO (by kernel_rfl)) (.inr (by kernel_rfl))) WU (λa b=>XZ a b)) (λa b=>XZ a b)) (wq))) (λ_ _ _ _=>xE) (λ_ _ _ _=>(yD (zW (vv 3) (zW (ko (Y6 j) uQ gk h Vs (zW (yg (yu j) yl (vv 4) jQ) zb)) zb)))) (by kernel_rfl)) zb))))
  (zk (jU (j9 e j (by decide) gk (zW (vv 2) (zW (Q5 (zW (vv 1) zb)) zb)) (zy (zy jH))))))
abbrev AS:zo:=qZ (top 7) 4
noncomputable abbrev Pm:List Str:=["self","name","leaner"]
theorem Dj:jG Pm ["self","name"] (zv AS):=⟨rfl,rfl,rfl,by decide +kernel,rfl,by decide +kernel,by decide +kernel⟩
theorem N1 (F:Fun K "let_go" "Accounts.let_go" AS f fd) (c:ZQ K zK zJ zH zE zI zG zF zL zM) (d:Cb P w K mg base zK zJ zH zE zI zG zF zL zM) :
  z4 P w K mg base CX0 4 f fd ["self","name"] (SpM K (Θ1 zK zJ zH zE zI zG zF zL zM) 2 M.Kl):=by
 refine yA (b:=M.XJ) F Dj M.E4 λcdv A outer s H E e=>?_;unfold M.XJ;exact (zu (jr (qV (xH e) xC (vv 1) (jX (i:=0) c rfl (vv 0)) (by rfl))
  (zk iz)
  j7)
  (zu (kz JM rfl (QC (yU c d e (by decide) (by decide +kernel) (vv 0) (zW (vv 1) zb) (zy jH))) (yC (i:=2) Dj.nd rfl (jO (by kernel_rfl)) (.inl rfl))
  (zk (yH (y6 kY KA uc (YB e) YO rfl (jX (i:=0) c rfl (vv 0)) (zW (vv 2) zb)))))
  (zk (yH (y6 kY KA uc (NO e) Ls rfl (jX (i:=0) c rfl (vv 0)) (zW (vv 1) (zW QN zb)))))))
abbrev wR:zo:=top 21
noncomputable abbrev Pu:List Str:=["sign"]
theorem oZ:jG Pu ["sign"] (zv wR):=⟨rfl,rfl,rfl,by decide +kernel,rfl,by decide +kernel,by decide +kernel⟩
theorem ft (F:Fun K "is_letter" "is_letter" wR f fd) :
  z4 P w K mg base CX0 1 f fd ["sign"] (SpM K (Θ1 zK zJ zH zE zI zG zF zL zM) 1 M.Kh):=by
 refine yA (b:=M.uj) F oZ M.om λcdv A outer s H E c=>?_;unfold M.uj;exact (zk (jU (u1 QY QY QM QM zz (vv 0) zz)))
abbrev A6:zo:=top 23
noncomputable abbrev Pb:List Str:=["thing"]
theorem NU:jG Pb ["thing"] (zv A6):=⟨rfl,rfl,rfl,by decide +kernel,rfl,by decide +kernel,by decide +kernel⟩
theorem Gk:(["thing","sign"]:List Str).Nodup:=by decide +kernel
theorem P2 (F:Fun K "is_plain" "is_plain" A6 f fd) (j:DF P w K mg base zK zJ zH zE zI zG zF zL zM) (l:mg "all" = zB) (e:mg "isinstance" = zB) (m:mg "str" = zB) (n:mg "len" = zB) {c:zN} (g:Qt mg "KEPT_WORDS" (.ref c)) (h:∀ H,SqT K H c [(.str "of"),(.str "if"),(.str "is"),(.str "then"),(.str "else"),(.str "each"),(.str "do"),(.str "it"),(.str "back"),(.str "first"),(.str "rest"),(.str "count"),(.str "sorted"),(.str "fail"),(.str "line"),(.str "more")]) (d:Qt mg "MOST_LETTERS" (.int 8)) :
  z4 P w K mg base CX0 2 f fd ["thing"] (SpM K (Θ1 zK zJ zH zE zI zG zF zL zM) 1 M.JZ):=by
 refine yA (b:=M.XM) F NU M.G2 λcdv A outer s H E o=>?_;unfold M.XM;exact (zu (jr (kX (kW (Zp (ZS (yW VM vH gk e vQ (zW (vv 0) (zW (Vr .str gk m wu) zb))))) (kL (Zp (gj QY QY QM QM jQ (yW JL Qv gk n Q7 (zW (vv 0) zb)) (Ac d gk (λ_ _=>rfl)))))))
  (zk (jU QW))
  j7)
  (zk (jU (uX (WB (bO rfl) ax gk l A7 (vars:=["sign"]) rfl ⟨rfl,rfl,(by kernel_rfl),(by kernel_rfl),(by decide +kernel),trivial,(by kernel_rfl)⟩ (QC (vv 0)) (λ_ _ _ _=>(yC (i:=1) Gk rfl (jO (by kernel_rfl)) (.inr (by kernel_rfl)))) (λ_ _ _ _=>xE) (λ_ _ _ _=>(j9 j o (by decide) gk (zW (vv 1) zb) (zy jH))) (by kernel_rfl)) (KE (xX (xH o) xC (vv 0) (GV g gk λp H=>⟨_,_,rfl,h H,⟨_,_,rfl,⟨by decide +kernel,by decide +kernel⟩,⟨_,_,rfl,⟨by decide +kernel,by decide +kernel⟩,⟨_,_,rfl,⟨by decide +kernel,by decide +kernel⟩,⟨_,_,rfl,⟨by decide +kernel,by decide +kernel⟩,⟨_,_,rfl,⟨by decide +kernel,by decide +kernel⟩,⟨_,_,rfl,⟨by decide +kernel,by decide +kernel⟩,⟨_,_,rfl,⟨by decide +kernel,by decide +kernel⟩,⟨_,_,rfl,⟨by decide +kernel,by decide +kernel⟩,⟨_,_,rfl,⟨by decide +kernel,by decide +kernel⟩,⟨_,_,rfl,⟨by decide +kernel,by decide +kernel⟩,⟨_,_,rfl,⟨by decide +kernel,by decide +kernel⟩,⟨_,_,rfl,⟨by decide +kernel,by decide +kernel⟩,⟨_,_,rfl,⟨by decide +kernel,by decide +kernel⟩,⟨_,_,rfl,⟨by decide +kernel,by decide +kernel⟩,⟨_,_,rfl,⟨by decide +kernel,by decide +kernel⟩,⟨_,_,rfl,⟨by decide +kernel,by decide +kernel⟩,rfl⟩⟩⟩⟩⟩⟩⟩⟩⟩⟩⟩⟩⟩⟩⟩⟩⟩) (by rfl)))))))
abbrev we:zo:=top 24
noncomputable abbrev Iy:List Str:=["thing","parts"]
theorem EH:jG Iy ["thing"] (zv we):=⟨rfl,rfl,rfl,by decide +kernel,rfl,by decide +kernel,by decide +kernel⟩
theorem GH:(["thing","parts","part"]:List Str).Nodup:=by decide +kernel
theorem O0 (F:Fun K "is_name" "is_name" we f fd) (d:Be P w K mg base zK zJ zH zE zI zG zF zL zM) (c:mg "isinstance" = zB) (e:mg "str" = zB) (g:mg "all" = zB) (h:mg "len" = zB) :
  z4 P w K mg base CX0 3 f fd ["thing"] (SpM K (Θ1 zK zJ zH zE zI zG zF zL zM) 1 M.Q6):=by
 refine yA (b:=M.VP) F EH M.Ct λcdv A outer s H E j=>?_;unfold M.VP;exact (zu (jr (Zp (ZS (yW VM vH gk c vQ (zW (vv 0) (zW (Vr .str gk e wu) zb)))))
  (zk (jU QW))
  j7)
  (zu (qF (i:=1) EH.nd rfl (jO (by kernel_rfl)) (y6 kQ E2 El aG A0 rfl (vv 0) (zW zz zb)))
  (zk (jU (uX (xX QY QM (yW JL Qv gk h Q7 (zW (vv 1) zb)) jQ (qy _)) (KE (WB (bO rfl) ax gk g A7 (vars:=["part"]) rfl ⟨rfl,rfl,(by kernel_rfl),(by kernel_rfl),(by decide +kernel),trivial,(by kernel_rfl)⟩ (QC (vv 1)) (λ_ _ _ _=>(yC (i:=2) GH rfl (jO (by kernel_rfl)) (.inr (by kernel_rfl)))) (λ_ _ _ _=>xE) (λ_ _ _ _=>(j9 d j (by decide) gk (zW (vv 2) zb) (zy jH))) (by kernel_rfl))))))))
abbrev ZJ:zo:=qZ (top 100) 1
noncomputable abbrev vK:List Str:=["self","name","text"]
theorem i9:jG vK ["self","name","text"] (zv ZJ):=⟨rfl,rfl,rfl,by decide +kernel,rfl,by decide +kernel,by decide +kernel⟩
theorem Mo (c:VW P w K mg base zK zJ zH zE zI zG zF zL zM) (d:RM 4 "Yard.put" ZJ A s f cdv):WS (cX P w K mg base vK "Yard.put" ZJ f cdv A outer s H E) (Θ1 zK zJ zH zE zI zG zF zL zM) (bd ZJ 0) M.V2:=by
 unfold M.V2;exact (jr (Zp (ZS (j9 c d (by decide) gk (zW (vv 1) zb) (zy jH))))
  (zk JP)
  j7)
theorem mD (c:Vv P w K mg base zK zJ zH zE zI zG zF zL zM) (d:RM 4 "Yard.put" ZJ A s f cdv):WS (cX P w K mg base vK "Yard.put" ZJ f cdv A outer s H E) (Θ1 zK zJ zH zE zI zG zF zL zM) (bd ZJ 1) M.YH:=by
 unfold M.YH;exact (jr (Zp (ZS (j9 c d (by decide) gk (zW (vv 2) zb) (zy jH))))
  (zk JP)
  j7)
theorem Og (c:qg K zK zJ zH zE zI zG zF zL zM) (d:RM 4 "Yard.put" ZJ A s f cdv):WS (cX P w K mg base vK "Yard.put" ZJ f cdv A outer s H E) (Θ1 zK zJ zH zE zI zG zF zL zM) (bd ZJ 2) M.Vu:=by
 unfold M.Vu;exact (xp d (jX (i:=2) c rfl (vv 0)) (vv 1) (vv 2))
theorem IZ (e:qg K zK zJ zH zE zI zG zF zL zM) (d:ZQ K zK zJ zH zE zI zG zF zL zM) (c:uy P w K mg base zK zJ zH zE zI zG zF zL zM) (g:RM 4 "Yard.put" ZJ A s f cdv):WS (cX P w K mg base vK "Yard.put" ZJ f cdv A outer s H E) (Θ1 zK zJ zH zE zI zG zF zL zM) (bd ZJ 3) M.Vt:=by
 unfold M.Vt;exact (yH (yU d c g (by decide) (by decide +kernel) (jX (i:=3) e rfl (vv 0)) (zW (vv 1) zb) (zy jH)))
theorem G6 (F:Fun K "put" "Yard.put" ZJ f fd) (h:qg K zK zJ zH zE zI zG zF zL zM) (d:ZQ K zK zJ zH zE zI zG zF zL zM) (c:uy P w K mg base zK zJ zH zE zI zG zF zL zM) (e:VW P w K mg base zK zJ zH zE zI zG zF zL zM) (g:Vv P w K mg base zK zJ zH zE zI zG zF zL zM) :
  z4 P w K mg base CX0 5 f fd ["self","name","text"] (SpM K (Θ1 zK zJ zH zE zI zG zF zL zM) 3 M.kR):=by
 refine yA (b:=M.vk) F i9 M.II λcdv A outer s H E i=>?_;unfold M.vk;exact (zu (Mo e i) (zu (mD g i) (zu (Og h i) (zk (IZ h d c i)))))
abbrev wC:zo:=qZ (top 100) 2
noncomputable abbrev PF:List Str:=["self","name"]
theorem Lb:jG PF ["self","name"] (zv wC):=⟨rfl,rfl,rfl,by decide +kernel,rfl,by decide +kernel,by decide +kernel⟩
theorem iR (F:Fun K "drop" "Yard.drop" wC f fd) (g:Ah P w K mg base zM) (d:qg K zK zJ zH zE zI zG zF zL zM) (e:ZQ K zK zJ zH zE zI zG zF zL zM) (c:uy P w K mg base zK zJ zH zE zI zG zF zL zM) (h:VW P w K mg base zK zJ zH zE zI zG zF zL zM) :
  z4 P w K mg base (CX1 P w) 5 f fd ["self","name"] (SpX K (Θ1 zK zJ zH zE zI zG zF zL zM) 2 M.xg):=by
 refine nP (b:=M.kO) F Lb M.GF λcdv A outer s H E j W=>?_;unfold M.kO;exact (zu (jr (kX (kW (Zp (ZS (j9 (Has.wish h M.Ct) j (by decide) gk (zW (vv 1) zb) (zy jH)))) (kL (qV (xH j) xC (vv 1) (jX (i:=2) (qc.w d) rfl (vv 0)) (by rfl)))))
  (zk (iG g W.leaves rfl rfl gk (zW zz zb) (zy jH)))
  j7)
  (zu (yH (y6 kY KA uc (YB j) YO rfl (jX (i:=2) (qc.w d) rfl (vv 0)) (zW (vv 1) zb)))
  (zk (yH (yU (qc.w e) (qk.wish c M.E4) j (by decide) (by decide +kernel) (jX (i:=3) (qc.w d) rfl (vv 0)) (zW (vv 1) zb) (zy jH))))))
abbrev aR:zo:=qZ (top 100) 9
noncomputable abbrev lr:List Str:=["self"]
theorem FL:jG lr ["self"] (zv aR):=⟨rfl,rfl,rfl,by decide +kernel,rfl,by decide +kernel,by decide +kernel⟩
theorem fw (F:Fun K "log" "Yard.log" aR f fd) (d:qg K zK zJ zH zE zI zG zF zL zM) (c:vp K zK zJ zH zE zI zG zF zL zM) (e:mg "list" = zB) :
  z4 P w K mg base CX0 1 f fd ["self"] (SpM K (Θ1 zK zJ zH zE zI zG zF zL zM) 1 M.vw):=by
 refine yA (b:=M.v7) F FL M.O5 λcdv A outer s H E g=>?_;unfold M.v7;exact (zk (jU (ko (Y6 g) uQ gk e Vs (zW (jX (i:=1) c rfl (jX (i:=1) d rfl (vv 0))) zb))))
abbrev aV:zo:=qZ (top 7) 2
noncomputable abbrev bq:List Str:=["self","name"]
theorem fv:jG bq ["self","name"] (zv aV):=⟨rfl,rfl,rfl,by decide +kernel,rfl,by decide +kernel,by decide +kernel⟩
theorem fT (F:Fun K "kept_of" "Accounts.kept_of" aV f fd) (c:ZQ K zK zJ zH zE zI zG zF zL zM) :
  z4 P w K mg base CX0 1 f fd ["self","name"] (SpM K (Θ1 zK zJ zH zE zI zG zF zL zM) 2 M.uV):=by
 refine qK (N:=bq) (b:=M.Vi) F fv λcdv A outer s H E d=>?_;unfold M.Vi;exact (zk (jU (y6 kY VE i0 (df d) Cf rfl (jX (i:=0) c rfl (vv 0)) (zW (vv 1) zb))))
abbrev aJ:zo:=qZ (top 7) 1
noncomputable abbrev B8:List Str:=["self","name","account"]
theorem M3:jG B8 ["self","name","account"] (zv aJ):=⟨rfl,rfl,rfl,by decide +kernel,rfl,by decide +kernel,by decide +kernel⟩
theorem iJ (F:Fun K "keep" "Accounts.keep" aJ f fd) (c:ZQ K zK zJ zH zE zI zG zF zL zM) :
  z4 P w K mg base CX0 1 f fd ["self","name","account"] (SpM K (Θ1 zK zJ zH zE zI zG zF zL zM) 3 M.UY):=by
 refine qK (N:=B8) (b:=M.VB) F M3 λcdv A outer s H E d=>?_;unfold M.VB;exact (zk (xp d (jX (i:=0) c rfl (vv 0)) (vv 1) (vv 2)))
abbrev AG:zo:=top 74
noncomputable abbrev BD:List Str:=["book","wanted","head","tree"]
theorem Wr:jG BD ["book","wanted"] (zv AG):=⟨rfl,rfl,rfl,by decide +kernel,rfl,by decide +kernel,by decide +kernel⟩
theorem mm (F:Fun K "tree_under" "tree_under" AG f fd) :
  z4 P w K mg base CX0 1 f fd ["book","wanted"] (SpM K (Θ1 zK zJ zH zE zI zG zF zL zM) 2 M.V3):=by
 refine qK (N:=BD) (b:=M.UD) F Wr λcdv A outer s H E c=>?_;unfold M.UD;exact (zu (kz JM rfl (QC (yg (yu c) yl (vv 0) jQ)) (wd (n:=2) rfl (Xt (yC (i:=2) Wr.nd rfl (jO (by kernel_rfl)) (.inl rfl)) (Xt (yC (i:=3) Wr.nd rfl (jO (by kernel_rfl)) (.inl rfl)) WU (λa b=>XZ a b)) (λa b=>XZ a b)) (wq))
  (zk (jr (qV (Zw c) Z8 (vv 2) (vv 1) (qy _))
  (zk (jU (vv 3)))
  j7)))
  (zk (jU QN)))
abbrev A3:zo:=top 25
noncomputable abbrev Ii:List Str:=["name"]
theorem fz:jG Ii ["name"] (zv A3):=⟨rfl,rfl,rfl,by decide +kernel,rfl,by decide +kernel,by decide +kernel⟩
theorem Nn (F:Fun K "family_of" "family_of" A3 f fd) :
  z4 P w K mg base CX0 1 f fd ["name"] (SpM K (Θ1 zK zJ zH zE zI zG zF zL zM) 1 M.J4):=by
 refine yA (b:=M.vM) F fz M.LV λcdv A outer s H E c=>?_;unfold M.vM;exact (zu (jr (qV (xH c) xC zz (vv 0) (by rfl))
  (zk (jU QN))
  j7)
  (zk (jU (yg (yu c) yl (y6 kQ iw Mu CJ fC rfl (vv 0) (zW zz zb)) jQ))))
abbrev aa:zo:=top 26
noncomputable abbrev D4:List Str:=["name"]
theorem ic:jG D4 ["name"] (zv aa):=⟨rfl,rfl,rfl,by decide +kernel,rfl,by decide +kernel,by decide +kernel⟩
theorem GU (F:Fun K "stem_of" "stem_of" aa f fd) :
  z4 P w K mg base CX0 1 f fd ["name"] (SpM K (Θ1 zK zJ zH zE zI zG zF zL zM) 1 M.WR):=by
 refine qK (N:=D4) (b:=M.WM) F ic λcdv A outer s H E c=>?_;unfold M.WM;exact (zu (jr (qV (xH c) xC zz (vv 0) (by rfl))
  (zk (jU QN))
  j7)
  (zk (jU (yg (yu c) yl (y6 kQ iw Mu CJ fC rfl (vv 0) (zW zz zb)) jQ))))
abbrev qs:zo:=top 75
noncomputable abbrev J3:List Str:=["book","name","tree","family"]
theorem Up:jG J3 ["book","name"] (zv qs):=⟨rfl,rfl,rfl,by decide +kernel,rfl,by decide +kernel,by decide +kernel⟩
theorem Fk (c:Yk P w K mg base zK zJ zH zE zI zG zF zL zM) (d:RM 1 "rule_in" qs A s f cdv):WS (cX P w K mg base J3 "rule_in" qs f cdv A outer s H E) (Θ1 zK zJ zH zE zI zG zF zL zM) (bd qs 0) M.UU:=by
 unfold M.UU;exact (qF (i:=2) Up.nd rfl (jO (by kernel_rfl)) (j9 c d (by decide) gk (zW (vv 0) (zW (vv 1) zb)) (zy (zy jH))))
theorem oz (c:RM 1 "rule_in" qs A s f cdv):WS (cX P w K mg base J3 "rule_in" qs f cdv A outer s H E) (Θ1 zK zJ zH zE zI zG zF zL zM) (bd qs 1) M.UO:=by
 unfold M.UO;exact (jr (Wf (vv 2))
  (zk (jU (yD (zW (vv 2) (zW QN zb)))))
  j7)
theorem F7 (c:Ux P w K mg base zK zJ zH zE zI zG zF zL zM) (d:RM 1 "rule_in" qs A s f cdv):WS (cX P w K mg base J3 "rule_in" qs f cdv A outer s H E) (Θ1 zK zJ zH zE zI zG zF zL zM) (bd qs 2) M.Ue:=by
 unfold M.Ue;exact (qF (i:=3) Up.nd rfl (jO (by kernel_rfl)) (j9 c d (by decide) gk (zW (vv 1) zb) (zy jH)))
theorem nS (c:RM 1 "rule_in" qs A s f cdv):WS (cX P w K mg base J3 "rule_in" qs f cdv A outer s H E) (Θ1 zK zJ zH zE zI zG zF zL zM) (bd qs 3) M.uR:=by
 unfold M.uR;exact (jr (Y9 (vv 3))
  (zk (jU QN))
  j7)
theorem lW (c:Yk P w K mg base zK zJ zH zE zI zG zF zL zM) (d:RM 1 "rule_in" qs A s f cdv):WS (cX P w K mg base J3 "rule_in" qs f cdv A outer s H E) (Θ1 zK zJ zH zE zI zG zF zL zM) (bd qs 4) M.YM:=by
 unfold M.YM;exact (qF (i:=2) Up.nd rfl (jO (by kernel_rfl)) (j9 c d (by decide) gk (zW (vv 0) (zW (jw (OpR.or xn kE) xI (vv 3) zz) zb)) (zy (zy jH))))
theorem Ll (c:RM 1 "rule_in" qs A s f cdv):WS (cX P w K mg base J3 "rule_in" qs f cdv A outer s H E) (Θ1 zK zJ zH zE zI zG zF zL zM) (bd qs 5) M.Ya:=by
 unfold M.Ya;exact (jr (Y9 (vv 2))
  (zk (jU QN))
  j7)
theorem MQ (c:wO P w K mg base zK zJ zH zE zI zG zF zL zM) (d:RM 1 "rule_in" qs A s f cdv):WS (cX P w K mg base J3 "rule_in" qs f cdv A outer s H E) (Θ1 zK zJ zH zE zI zG zF zL zM) (bd qs 6) M.A4:=by
 unfold M.A4;exact (jU (yD (zW (vv 2) (zW (j9 c d (by decide) gk (zW (vv 1) zb) (zy jH)) zb))))
theorem oS (F:Fun K "rule_in" "rule_in" qs f fd) (c:Yk P w K mg base zK zJ zH zE zI zG zF zL zM) (d:Ux P w K mg base zK zJ zH zE zI zG zF zL zM) (e:wO P w K mg base zK zJ zH zE zI zG zF zL zM) :
  z4 P w K mg base CX0 2 f fd ["book","name"] (SpM K (Θ1 zK zJ zH zE zI zG zF zL zM) 2 M.bH):=by
 refine qK (N:=J3) (b:=M.uB) F Up λcdv A outer s H E g=>?_;unfold M.uB;exact (zu (Fk c g) (zu (oz g) (zu (F7 d g) (zu (nS g) (zu (lW c g) (zu (Ll g) (zk (MQ e g))))))))
abbrev wN:zo:=qZ (top 76) 1
noncomputable abbrev dD:List Str:=["self","book","more"]
theorem CQ:jG dD ["self","book"] (zv wN):=⟨rfl,rfl,rfl,by decide +kernel,rfl,by decide +kernel,by decide +kernel⟩
theorem lF (F:Fun K "look_in" "Search.look_in" wN f fd) (c:Qi K zK zJ zH zE zI zG zF zL zM) (d:dc P w K mg base zK zJ zH zE zI zG zF zL zM) :
  z4 P w K mg base CX0 3 f fd ["self","book"] (SpM K (Θ1 zK zJ zH zE zI zG zF zL zM) 2 M.WY):=by
 refine qK (N:=dD) (b:=M.uI) F CQ λcdv A outer s H E e=>?_;unfold M.uI;exact (zu (qC (i:=1) c rfl (vv 0) (j9 d e (by decide) gk (zW (vv 1) (zW (jX (i:=0) c rfl (vv 0)) zb)) (zy (zy jH))))
  (zk (kz JM rfl (QC (yg (yu e) yl (vv 1) jQ)) (yC (i:=2) CQ.nd rfl (jO (by kernel_rfl)) (.inl rfl))
  (zk (jr (qV (xH e) xC (vv 2) (jX (i:=2) c rfl (vv 0)) (by rfl))
  (zk (yH (y6 Y8 BU D7 bA ao rfl (jX (i:=2) c rfl (vv 0)) (zW (vv 2) zb))))
  j7)))))
abbrev ZK:zo:=qZ (top 76) 0
noncomputable abbrev KG:List Str:=["self","name","book"]
theorem N2:jG KG ["self","name","book"] (zv ZK):=⟨rfl,rfl,rfl,by decide +kernel,rfl,by decide +kernel,by decide +kernel⟩
theorem PP (c:Qi K zK zJ zH zE zI zG zF zL zM) (d:RM 3 "Search.__init__" ZK A s f cdv):WS (cX P w K mg base KG "Search.__init__" ZK f cdv A outer s H E) (Θ1 zK zJ zH zE zI zG zF zL zM) (bd ZK 0) M.uL:=by
 unfold M.uL;exact (qC (i:=0) c rfl (vv 0) (vv 1))
theorem fQ (c:Qi K zK zJ zH zE zI zG zF zL zM) (d:RM 3 "Search.__init__" ZK A s f cdv):WS (cX P w K mg base KG "Search.__init__" ZK f cdv A outer s H E) (Θ1 zK zJ zH zE zI zG zF zL zM) (bd ZK 1) M.ui:=by
 unfold M.ui;exact (qC (i:=1) c rfl (vv 0) QN)
theorem N3 (c:Qi K zK zJ zH zE zI zG zF zL zM) (d:RM 3 "Search.__init__" ZK A s f cdv):WS (cX P w K mg base KG "Search.__init__" ZK f cdv A outer s H E) (Θ1 zK zJ zH zE zI zG zF zL zM) (bd ZK 2) M.uq:=by
 unfold M.uq;exact (qC (i:=2) c rfl (vv 0) (Q5 zb))
theorem Mf (d:Qi K zK zJ zH zE zI zG zF zL zM) (c:Wz P w K mg base zK zJ zH zE zI zG zF zL zM) (e:RM 3 "Search.__init__" ZK A s f cdv):WS (cX P w K mg base KG "Search.__init__" ZK f cdv A outer s H E) (Θ1 zK zJ zH zE zI zG zF zL zM) (bd ZK 3) M.YG:=by
 unfold M.YG;exact (yH (yU d c e (by decide) (by decide +kernel) (vv 0) (zW (vv 2) zb) (zy jH)))
theorem pF (F:Fun K "__init__" "Search.__init__" ZK f fd) (c:Qi K zK zJ zH zE zI zG zF zL zM) (d:Wz P w K mg base zK zJ zH zE zI zG zF zL zM) :
  z4 P w K mg base CX0 4 f fd ["self","name","book"] (SpM K (Θ1 zK zJ zH zE zI zG zF zL zM) 3 M.U3):=by
 refine qK (N:=KG) (b:=M.uN) F N2 λcdv A outer s H E e=>?_;unfold M.uN;exact (zu (PP c e) (zu (fQ c e) (zu (N3 c e) (zk (Mf c d e)))))
abbrev qX:zo:=qZ (top 97) 0
noncomputable abbrev JC:List Str:=["self","name","book"]
theorem MK:jG JC ["self","name","book"] (zv qX):=⟨rfl,rfl,rfl,by decide +kernel,rfl,by decide +kernel,by decide +kernel⟩
theorem HB (c:y0 K zK zJ zH zE zI zG zF zL zM) (d:RM 5 "Making.__init__" qX A s f cdv):WS (cX P w K mg base JC "Making.__init__" qX f cdv A outer s H E) (Θ1 zK zJ zH zE zI zG zF zL zM) (bd qX 0) M.UJ:=by
 unfold M.UJ;exact (qC (i:=0) c rfl (vv 0) (vv 1))
theorem Hn (d:y0 K zK zJ zH zE zI zG zF zL zM) (e:Qi K zK zJ zH zE zI zG zF zL zM) (c:bF P w K mg base zK zJ zH zE zI zG zF zL zM) (g:RM 5 "Making.__init__" qX A s f cdv):WS (cX P w K mg base JC "Making.__init__" qX f cdv A outer s H E) (Θ1 zK zJ zH zE zI zG zF zL zM) (bd qX 1) M.YI:=by
 unfold M.YI;exact (qC (i:=1) d rfl (vv 0) (Km e c g (by decide) rfl gk (zW (vv 1) (zW (vv 2) zb)) (zy (zy jH))))
theorem Fu (c:y0 K zK zJ zH zE zI zG zF zL zM) (d:RM 5 "Making.__init__" qX A s f cdv):WS (cX P w K mg base JC "Making.__init__" qX f cdv A outer s H E) (Θ1 zK zJ zH zE zI zG zF zL zM) (bd qX 2) M.uO:=by
 unfold M.uO;exact (qC (i:=2) c rfl (vv 0) (yD (zW zz zb)))
theorem GZ (c:y0 K zK zJ zH zE zI zG zF zL zM) (d:RM 5 "Making.__init__" qX A s f cdv):WS (cX P w K mg base JC "Making.__init__" qX f cdv A outer s H E) (Θ1 zK zJ zH zE zI zG zF zL zM) (bd qX 3) M.Yc:=by
 unfold M.Yc;exact (qC (i:=3) c rfl (vv 0) (Q5 zb))
theorem Mq (c:y0 K zK zJ zH zE zI zG zF zL zM) (d:RM 5 "Making.__init__" qX A s f cdv):WS (cX P w K mg base JC "Making.__init__" qX f cdv A outer s H E) (Θ1 zK zJ zH zE zI zG zF zL zM) (bd qX 4) M.uW:=by
 unfold M.uW;exact (qC (i:=4) c rfl (vv 0) QK)
theorem HA (c:y0 K zK zJ zH zE zI zG zF zL zM) (d:RM 5 "Making.__init__" qX A s f cdv):WS (cX P w K mg base JC "Making.__init__" qX f cdv A outer s H E) (Θ1 zK zJ zH zE zI zG zF zL zM) (bd qX 5) M.Y0:=by
 unfold M.Y0;exact (qC (i:=5) c rfl (vv 0) (yD zb))
theorem pS (c:y0 K zK zJ zH zE zI zG zF zL zM) (d:RM 5 "Making.__init__" qX A s f cdv):WS (cX P w K mg base JC "Making.__init__" qX f cdv A outer s H E) (Θ1 zK zJ zH zE zI zG zF zL zM) (bd qX 6) M.Yi:=by
 unfold M.Yi;exact (qC (i:=6) c rfl (vv 0) QN)
theorem Gy (c:y0 K zK zJ zH zE zI zG zF zL zM) (d:RM 5 "Making.__init__" qX A s f cdv):WS (cX P w K mg base JC "Making.__init__" qX f cdv A outer s H E) (Θ1 zK zJ zH zE zI zG zF zL zM) (bd qX 7) M.u3:=by
 unfold M.u3;exact (qC (i:=7) c rfl (vv 0) QN)
theorem Gv (F:Fun K "__init__" "Making.__init__" qX f fd) (c:y0 K zK zJ zH zE zI zG zF zL zM) (e:Qi K zK zJ zH zE zI zG zF zL zM) (d:bF P w K mg base zK zJ zH zE zI zG zF zL zM) :
  z4 P w K mg base CX0 6 f fd ["self","name","book"] (SpM K (Θ1 zK zJ zH zE zI zG zF zL zM) 3 M.w8):=by
 refine qK (N:=JC) (b:=M.V6) F MK λcdv A outer s H E g=>?_;unfold M.V6;exact (zu (HB c g) (zu (Hn c e d g) (zu (Fu c g) (zu (GZ c g) (zu (Mq c g) (zu (HA c g) (zu (pS c g) (zk (Gy c g)))))))))
abbrev W5:zo:=qZ (top 97) 2
noncomputable abbrev bo:List Str:=["self","number"]
theorem cT:jG bo ["self"] (zv W5):=⟨rfl,rfl,rfl,by decide +kernel,rfl,by decide +kernel,by decide +kernel⟩
theorem OX (F:Fun K "seek" "Making.seek" W5 f fd) (c:y0 K zK zJ zH zE zI zG zF zL zM) (d:Qi K zK zJ zH zE zI zG zF zL zM) (e:mg "len" = zB) :
  z4 P w K mg base CX0 1 f fd ["self"] (SpM K (Θ1 zK zJ zH zE zI zG zF zL zM) 1 M.Au):=by
 refine qK (N:=bo) (b:=M.uE) F cT λcdv A outer s H E g=>?_;unfold M.uE;exact (zu (qF (i:=1) cT.nd rfl (jO (by kernel_rfl)) (yW JL Qv gk e Q7 (zW (jX (i:=3) c rfl (vv 0)) zb)))
  (zk (jr (qV (Zw g) Z8 (vv 1) (yW JL Qv gk e Q7 (zW (jX (i:=2) d rfl (jX (i:=1) c rfl (vv 0))) zb)) (qy _))
  (zk (qC (i:=7) c rfl (vv 0) (yD (zW zz (zW zz zb)))))
  (zk JP))))
abbrev AI:zo:=qZ (top 97) 1
noncomputable abbrev d2:List Str:=["self","bench"]
theorem Pn:jG d2 ["self","bench"] (zv AI):=⟨rfl,rfl,rfl,by decide +kernel,rfl,by decide +kernel,by decide +kernel⟩
theorem Ni (F:Fun K "go_on" "Making.go_on" AI f fd) (c:y0 K zK zJ zH zE zI zG zF zL zM) (e:Qi K zK zJ zH zE zI zG zF zL zM) (d:D9 P w K mg base zK zJ zH zE zI zG zF zL zM) :
  z4 P w K mg base CX0 2 f fd ["self","bench"] (SpM K (Θ1 zK zJ zH zE zI zG zF zL zM) 2 M.Wv):=by
 refine qK (N:=d2) (b:=M.Ul) F Pn λcdv A outer s H E g=>?_;unfold M.Ul;exact (zu (qC (i:=6) c rfl (vv 0) QN)
  (zk (jr (Y9 (jX (i:=1) e rfl (jX (i:=1) c rfl (vv 0))))
  (zk (yH (vd c d g (by decide) (by decide +kernel) (vv 0))))
  (zk JP))))
abbrev w1:zo:=qZ (top 98) 3
noncomputable abbrev cu:List Str:=["self","making"]
theorem h9:jG cu ["self","making"] (zv w1):=⟨rfl,rfl,rfl,by decide +kernel,rfl,by decide +kernel,by decide +kernel⟩
theorem NB (F:Fun K "go_on" "Settling.go_on" w1 f fd) (d:Za K zK zJ zH zE zI zG zF zL zM) (c:y0 K zK zJ zH zE zI zG zF zL zM) (e:cP P w K mg base zK zJ zH zE zI zG zF zL zM) :
  z4 P w K mg base CX0 3 f fd ["self","making"] (SpM K (Θ1 zK zJ zH zE zI zG zF zL zM) 2 M.bV):=by
 refine qK (N:=cu) (b:=M.ue) F h9 λcdv A outer s H E g=>?_;unfold M.ue;exact (zu (yH (yU c e g (by decide) (by decide +kernel) (vv 1) (zW (jX (i:=3) d rfl (vv 0)) zb) (zy jH)))
  (zk (xp g (jX (i:=5) d rfl (vv 0)) (jX (i:=0) c rfl (vv 1)) (jX (i:=6) c rfl (vv 1)))))
abbrev Uv:zo:=top 5
noncomputable abbrev Br:List Str:=["text"]
theorem GD:jG Br ["text"] (zv Uv):=⟨rfl,rfl,rfl,by decide +kernel,rfl,by decide +kernel,by decide +kernel⟩
theorem M8 (F:Fun K "given_account" "given_account" Uv f fd) :
  z4 P w K mg base CX0 1 f fd ["text"] (SpM K (Θ1 zK zJ zH zE zI zG zF zL zM) 1 M.AJ):=by
 refine qK (N:=Br) (b:=M.u4) F GD λcdv A outer s H E c=>?_;unfold M.u4;exact (zk (jU (yD (zW (yD (zW zz zb)) (zW (yD zb) (zW (yD (zW zz (zW (vv 0) zb))) zb))))))
abbrev wg:zo:=qZ (top 98) 2
noncomputable abbrev Dv:List Str:=["self","name","making"]
theorem eh:jG Dv ["self","name"] (zv wg):=⟨rfl,rfl,rfl,by decide +kernel,rfl,by decide +kernel,by decide +kernel⟩
theorem FF (F:Fun K "begin" "Settling.begin" wg f fd) (c:Za K zK zJ zH zE zI zG zF zL zM) (l:y0 K zK zJ zH zE zI zG zF zL zM) (j:ZQ K zK zJ zH zE zI zG zF zL zM) (g:aZ P w K mg base zK zJ zH zE zI zG zF zL zM) (d:Ed P w K mg base zK zJ zH zE zI zG zF zL zM) (e:bx P w K mg base zK zJ zH zE zI zG zF zL zM) (h:bz P w K mg base zK zJ zH zE zI zG zF zL zM) :
  z4 P w K mg base CX0 8 f fd ["self","name"] (SpM K (Θ1 zK zJ zH zE zI zG zF zL zM) 2 M.bX):=by
 refine qK (N:=Dv) (b:=M.K2) F eh λcdv A outer s H E m=>?_;unfold M.K2;exact (zk (jr (qV (ub m) UE (vv 1) (jX (i:=1) c rfl (vv 0)) (by rfl))
  (zk (yH (yU j g m (by decide) (by decide +kernel) (jX (i:=2) c rfl (vv 0)) (zW (vv 1) (zW (j9 h m (by decide) gk (zW (yg (yu m) yl (jX (i:=1) c rfl (vv 0)) (vv 1)) zb) (zy jH)) zb)) (zy (zy jH)))))
  (zu (qF (i:=2) eh.nd rfl (jO (by kernel_rfl)) (Km l d m (by decide) rfl gk (zW (vv 1) (zW (jX (i:=0) c rfl (vv 0)) zb)) (zy (zy jH))))
  (zu (yH (y6 Y8 BU D7 bA ao rfl (jX (i:=4) c rfl (vv 0)) (zW (vv 2) zb)))
  (zk (yH (yU c e m (by decide) (by decide +kernel) (vv 0) (zW (vv 2) zb) (zy jH))))))))
abbrev Ap:zo:=qZ (top 97) 9
noncomputable abbrev cf:List Str:=["self","outcome"]
theorem iS:jG cf ["self","outcome"] (zv Ap):=⟨rfl,rfl,rfl,by decide +kernel,rfl,by decide +kernel,by decide +kernel⟩
theorem gQ (F:Fun K "account_with" "Making.account_with" Ap f fd) (c:y0 K zK zJ zH zE zI zG zF zL zM) (d:mg "tuple" = zB) :
  z4 P w K mg base CX0 1 f fd ["self","outcome"] (SpM K (Θ1 zK zJ zH zE zI zG zF zL zM) 2 M.bT):=by
 refine qK (N:=cf) (b:=M.uA) F iS λcdv A outer s H E e=>?_;unfold M.uA;exact (zk (jU (yD (zW (jX (i:=2) c rfl (vv 0)) (zW (ko Pe G8 gk d gB (zW (jX (i:=3) c rfl (vv 0)) zb)) (zW (vv 1) zb))))))
abbrev AC:zo:=qZ (top 98) 7
noncomputable abbrev bj:List Str:=["self","outcome","making"]
theorem dM:jG bj ["self","outcome"] (zv AC):=⟨rfl,rfl,rfl,by decide +kernel,rfl,by decide +kernel,by decide +kernel⟩
theorem HH (F:Fun K "finish" "Settling.finish" AC f fd) (d:Za K zK zJ zH zE zI zG zF zL zM) (h:ZQ K zK zJ zH zE zI zG zF zL zM) (e:y0 K zK zJ zH zE zI zG zF zL zM) (g:aZ P w K mg base zK zJ zH zE zI zG zF zL zM) (c:cZ P w K mg base zK zJ zH zE zI zG zF zL zM) :
  z4 P w K mg base CX0 2 f fd ["self","outcome"] (SpM K (Θ1 zK zJ zH zE zI zG zF zL zM) 2 M.wx):=by
 refine qK (N:=bj) (b:=M.YP) F dM λcdv A outer s H E j=>?_;unfold M.YP;exact (zu (qF (i:=2) dM.nd rfl (jO (by kernel_rfl)) (BG Y8 gL FI CU B0 rfl (jX (i:=4) d rfl (vv 0))))
  (zu (yH (y6 kY KA uc (YB j) YO rfl (jX (i:=5) d rfl (vv 0)) (zW (jX (i:=0) e rfl (vv 2)) zb)))
  (zk (yH (yU h g j (by decide) (by decide +kernel) (jX (i:=2) d rfl (vv 0)) (zW (jX (i:=0) e rfl (vv 2)) (zW (yU e c j (by decide) (by decide +kernel) (vv 2) (zW (vv 1) zb) (zy jH)) zb)) (zy (zy jH)))))))
abbrev Av:zo:=qZ (top 98) 1
noncomputable abbrev D1:List Str:=["self","name","making"]
theorem be:jG D1 ["self","name"] (zv Av):=⟨rfl,rfl,rfl,by decide +kernel,rfl,by decide +kernel,by decide +kernel⟩
theorem Fp (F:Fun K "settle" "Settling.settle" Av f fd) (c:Za K zK zJ zH zE zI zG zF zL zM) (g:y0 K zK zJ zH zE zI zG zF zL zM) (e:DP P w K mg base zK zJ zH zE zI zG zF zL zM) (d:fE P w K mg base zK zJ zH zE zI zG zF zL zM) (h:mg "len" = zB) :
  z4 P w K mg base CX0 9 f fd ["self","name"] (SpM K (Θ1 zK zJ zH zE zI zG zF zL zM) 2 M.WH):=by
 refine qK (N:=D1) (b:=M.XI) F be λcdv A outer s H E j=>?_;unfold M.XI;exact (zu (yH (yU c e j (by decide) (by decide +kernel) (vv 0) (zW (vv 1) zb) (zy jH)))
  (zk (Eo JM (qV aS AZ (yW JL Qv gk h Q7 (zW (jX (i:=4) c rfl (vv 0)) zb)) jQ (qy _))
  (zu (qF (i:=2) be.nd rfl (jO (by kernel_rfl)) (yg (yu j) yl (jX (i:=4) c rfl (vv 0)) (LY fc ib jQ)))
  (zk (jr (Wf (jX (i:=7) g rfl (vv 2)))
  (zk (yH (yU c d j (by decide) (by decide +kernel) (vv 0) (zW (jX (i:=7) g rfl (vv 2)) zb) (zy jH))))
  (zk JP)))))))
abbrev aH:zo:=qZ (top 71) 0
noncomputable abbrev E6:List Str:=["self"]
theorem fk:jG E6 ["self"] (zv aH):=⟨rfl,rfl,rfl,by decide +kernel,rfl,by decide +kernel,by decide +kernel⟩
theorem PN (F:Fun K "__init__" "BookPile.__init__" aH f fd) (c:Vx K zK zJ zH zE zI zG zF zL zM) :
  z4 P w K mg base CX0 1 f fd ["self"] (SpM K (Θ1 zK zJ zH zE zI zG zF zL zM) 1 M.Af):=by
 refine qK (N:=E6) (b:=M.UQ) F fk λcdv A outer s H E d=>?_;unfold M.UQ;exact (zk (qC (i:=0) c rfl (vv 0) QK))
abbrev qt:zo:=qZ (top 98) 0
abbrev xA:List Str:=["self","book","texts","remembered","bench"]
theorem fu:jG xA ["self","book","texts","remembered","bench"] (zv qt):=⟨rfl,rfl,rfl,by decide +kernel,rfl,by decide +kernel,by decide +kernel⟩
theorem pU (c:Za K zK zJ zH zE zI zG zF zL zM) (d:RM 2 "Settling.__init__" qt A s f cdv):WS (cX P w K mg base xA "Settling.__init__" qt f cdv A outer s H E) (Θ1 zK zJ zH zE zI zG zF zL zM) (bd qt 0) M.Yg:=by
 unfold M.Yg;exact (qC (i:=0) c rfl (vv 0) (vv 1))
theorem Lp (c:Za K zK zJ zH zE zI zG zF zL zM) (d:RM 2 "Settling.__init__" qt A s f cdv):WS (cX P w K mg base xA "Settling.__init__" qt f cdv A outer s H E) (Θ1 zK zJ zH zE zI zG zF zL zM) (bd qt 1) M.Yt:=by
 unfold M.Yt;exact (qC (i:=1) c rfl (vv 0) (vv 2))
theorem Nw (c:Za K zK zJ zH zE zI zG zF zL zM) (d:RM 2 "Settling.__init__" qt A s f cdv):WS (cX P w K mg base xA "Settling.__init__" qt f cdv A outer s H E) (Θ1 zK zJ zH zE zI zG zF zL zM) (bd qt 2) M.Yz:=by
 unfold M.Yz;exact (qC (i:=2) c rfl (vv 0) (vv 3))
theorem Ia (c:Za K zK zJ zH zE zI zG zF zL zM) (d:RM 2 "Settling.__init__" qt A s f cdv):WS (cX P w K mg base xA "Settling.__init__" qt f cdv A outer s H E) (Θ1 zK zJ zH zE zI zG zF zL zM) (bd qt 3) M.Yx:=by
 unfold M.Yx;exact (qC (i:=3) c rfl (vv 0) (vv 4))
theorem IE (c:Za K zK zJ zH zE zI zG zF zL zM) (d:RM 2 "Settling.__init__" qt A s f cdv):WS (cX P w K mg base xA "Settling.__init__" qt f cdv A outer s H E) (Θ1 zK zJ zH zE zI zG zF zL zM) (bd qt 4) M.Yl:=by
 unfold M.Yl;exact (qC (i:=4) c rfl (vv 0) (Q5 zb))
theorem fJ (c:Za K zK zJ zH zE zI zG zF zL zM) (d:RM 2 "Settling.__init__" qt A s f cdv):WS (cX P w K mg base xA "Settling.__init__" qt f cdv A outer s H E) (Θ1 zK zJ zH zE zI zG zF zL zM) (bd qt 5) M.um:=by
 unfold M.um;exact (qC (i:=5) c rfl (vv 0) QK)
theorem gm (d:Za K zK zJ zH zE zI zG zF zL zM) (e:Vx K zK zJ zH zE zI zG zF zL zM) (c:aW P w K mg base zK zJ zH zE zI zG zF zL zM) (g:RM 2 "Settling.__init__" qt A s f cdv):WS (cX P w K mg base xA "Settling.__init__" qt f cdv A outer s H E) (Θ1 zK zJ zH zE zI zG zF zL zM) (bd qt 6) M.Ur:=by
 unfold M.Ur;exact (qC (i:=6) d rfl (vv 0) (Dt e c g (by decide) rfl gk))
theorem fO (F:Fun K "__init__" "Settling.__init__" qt f fd) (c:Za K zK zJ zH zE zI zG zF zL zM) (e:Vx K zK zJ zH zE zI zG zF zL zM) (d:aW P w K mg base zK zJ zH zE zI zG zF zL zM) :
  z4 P w K mg base CX0 3 f fd ["self","book","texts","remembered","bench"] (SpM K (Θ1 zK zJ zH zE zI zG zF zL zM) 5 M.aj):=by
 refine qK (N:=xA) (b:=M.uY) F fu λcdv A outer s H E g=>?_;unfold M.uY;exact (zu (pU c g) (zu (Lp c g) (zu (Nw c g) (zu (Ia c g) (zu (IE c g) (zu (fJ c g) (zk (gm c e d g))))))))
abbrev U1:zo:=qZ (top 100) 5
noncomputable abbrev oi:List Str:=["self","name"]
theorem Ou:jG oi ["self","name"] (zv U1):=⟨rfl,rfl,rfl,by decide +kernel,rfl,by decide +kernel,by decide +kernel⟩
theorem NF (F:Fun K "account" "Yard.account" U1 f fd) (e:qg K zK zJ zH zE zI zG zF zL zM) (h:Za K zK zJ zH zE zI zG zF zL zM) (j:ZQ K zK zJ zH zE zI zG zF zL zM) (c:dB P w K mg base zK zJ zH zE zI zG zF zL zM) (l:VW P w K mg base zK zJ zH zE zI zG zF zL zM) (g:Df P w K mg base zK zJ zH zE zI zG zF zL zM) (d:DS P w K mg base zK zJ zH zE zI zG zF zL zM) :
  z4 P w K mg base CX0 10 f fd ["self","name"] (SpM K (Θ1 zK zJ zH zE zI zG zF zL zM) 2 M.xb):=by
 refine yA (b:=M.VZ) F Ou M.NZ λcdv A outer s H E m=>?_;unfold M.VZ;exact (zu (jr (Zp (ZS (j9 l m (by decide) gk (zW (vv 1) zb) (zy jH))))
  (zk JP)
  j7)
  (zu (jr (Y9 (yU j c m (by decide) (by decide +kernel) (jX (i:=3) e rfl (vv 0)) (zW (vv 1) zb) (zy jH)))
  (zk (yH (yU h g m (by decide) (by decide +kernel) (Km h d m (by decide) rfl gk (zW (jX (i:=0) e rfl (vv 0)) (zW (jX (i:=2) e rfl (vv 0)) (zW (jX (i:=3) e rfl (vv 0)) (zW (jX (i:=1) e rfl (vv 0)) zb)))) (zy (zy (zy (zy jH))))) (zW (vv 1) zb) (zy jH))))
  j7)
  (zk (jU (yU j c m (by decide) (by decide +kernel) (jX (i:=3) e rfl (vv 0)) (zW (vv 1) zb) (zy jH))))))
abbrev wD:zo:=qZ (top 100) 4
noncomputable abbrev NL:List Str:=["self","name"]
theorem lg:jG NL ["self","name"] (zv wD):=⟨rfl,rfl,rfl,by decide +kernel,rfl,by decide +kernel,by decide +kernel⟩
theorem pI (F:Fun K "outcome" "Yard.outcome" wD f fd) (d:qg K zK zJ zH zE zI zG zF zL zM) (c:Y3 P w K mg base zK zJ zH zE zI zG zF zL zM) :
  z4 P w K mg base CX0 11 f fd ["self","name"] (SpM K (Θ1 zK zJ zH zE zI zG zF zL zM) 2 M.XA):=by
 refine yA (b:=M.Vk) F lg M.fV λcdv A outer s H E e=>?_;unfold M.Vk;exact (zk (jU (yg (yu e) yl (yU d c e (by decide) (by decide +kernel) (vv 0) (zW (vv 1) zb) (zy jH)) jQ)))
abbrev qW:zo:=top 109
noncomputable abbrev Jf:List Str:=["_law_yard","_law_names_here","_law_texts","_law_name","_law_due","_law_found","_law_held"]
theorem X7:jG Jf ["_law_yard","_law_names_here","_law_texts"] (zv qW):=⟨rfl,rfl,rfl,by decide +kernel,rfl,by decide +kernel,by decide +kernel⟩
theorem lh (e:qg K zK zJ zH zE zI zG zF zL zM) (c:Y3 P w K mg base zK zJ zH zE zI zG zF zL zM) (d:AU P w K mg base zK zJ zH zE zI zG zF zL zM) (g:RM 11 "_law_told" qW A s f cdv):WS (cX P w K mg base Jf "_law_told" qW f cdv A outer s H E) (Θ1 zK zJ zH zE zI zG zF zL zM) (bd qW 0) M.vZ:=by
 unfold M.vZ;exact (kz JM rfl (QC (jw (OpR.or xn kE) xI (vv 1) (vv 1))) (yC (i:=3) X7.nd rfl (jO (by kernel_rfl)) (.inl rfl))
  (zu (qF (i:=4) X7.nd rfl (jO (by kernel_rfl)) (yD (zW (yD (zW zz zb)) (zW (yD zb) (zW (yD (zW zz (zW zz zb))) zb)))))
  (zu (jr (qV (ub g) UE (vv 3) (vv 2) (by rfl))
  (zk (qF (i:=4) X7.nd rfl (jO (by kernel_rfl)) (yD (zW (yD (zW zz zb)) (zW (yD zb) (zW (yD (zW zz (zW (yg (yu g) yl (vv 2) (vv 3)) zb))) zb))))))
  j7)
  (zk (jr (kX (kW (qV (Ve g) K7 (yU e c g (by decide) (by decide +kernel) (vv 0) (zW (vv 3) zb) (zy jH)) (vv 4) (qy _)) (kL (qV (Ve g) K7 (yU e d g (by decide) (by decide +kernel) (vv 0) (zW (vv 3) zb) (zy jH)) (yg (yu g) yl (vv 4) jQ) (qy _)))))
  (zk (jU QW))
  j7)))))
theorem gR (d:qg K zK zJ zH zE zI zG zF zL zM) (c:Vq P w K mg base zK zJ zH zE zI zG zF zL zM) (e:RM 11 "_law_told" qW A s f cdv):WS (cX P w K mg base Jf "_law_told" qW f cdv A outer s H E) (Θ1 zK zJ zH zE zI zG zF zL zM) (bd qW 1) M.K5:=by
 unfold M.K5;exact (qF (i:=5) X7.nd rfl (jO (by kernel_rfl)) (vd d c e (by decide) (by decide +kernel) (vv 0)))
theorem O2 (d:mg "list" = zB) (c:mg "sorted" = zB) (e:RM 11 "_law_told" qW A s f cdv):WS (cX P w K mg base Jf "_law_told" qW f cdv A outer s H E) (Θ1 zK zJ zH zE zI zG zF zL zM) (bd qW 2) M.VJ:=by
 unfold M.VJ;exact (jr (kX (kW (qV (Ve e) K7 (ko (Y6 e) uQ gk d Vs (zW (vv 5) zb)) (yW (aK e) AD gk c wI (zW (vv 2) zb)) (qy _)) (kL (qV (Ve e) K7 (vv 5) (vv 2) (qy _)))))
  (zk (jU QW))
  j7)
theorem hE (c:RM 11 "_law_told" qW A s f cdv):WS (cX P w K mg base Jf "_law_told" qW f cdv A outer s H E) (Θ1 zK zJ zH zE zI zG zF zL zM) (bd qW 3) M.va:=by
 unfold M.va;exact (xp c (vv 5) zz zz)
theorem pN (d:qg K zK zJ zH zE zI zG zF zL zM) (c:Vq P w K mg base zK zJ zH zE zI zG zF zL zM) (e:RM 11 "_law_told" qW A s f cdv):WS (cX P w K mg base Jf "_law_told" qW f cdv A outer s H E) (Θ1 zK zJ zH zE zI zG zF zL zM) (bd qW 4) M.VU:=by
 unfold M.VU;exact (qF (i:=6) X7.nd rfl (jO (by kernel_rfl)) (vd d c e (by decide) (by decide +kernel) (vv 0)))
theorem rA (d:qg K zK zJ zH zE zI zG zF zL zM) (c:vt P w K mg base zK zJ zH zE zI zG zF zL zM) (e:RM 11 "_law_told" qW A s f cdv):WS (cX P w K mg base Jf "_law_told" qW f cdv A outer s H E) (Θ1 zK zJ zH zE zI zG zF zL zM) (bd qW 5) M.vn:=by
 unfold M.vn;exact (yH (yU d c e (by decide) (by decide +kernel) (vv 0) (zW zz (zW zz zb)) (zy (zy jH))))
theorem Ir (d:qg K zK zJ zH zE zI zG zF zL zM) (c:Y7 P w K mg base zK zJ zH zE zI zG zF zL zM) (e:RM 11 "_law_told" qW A s f cdv):WS (cX P w K mg base Jf "_law_told" qW f cdv A outer s H E) (Θ1 zK zJ zH zE zI zG zF zL zM) (bd qW 6) M.K0:=by
 unfold M.K0;exact (yH (FN (dy d c e (by decide) (by decide +kernel) (λxe E=>(vv 0)) (λxe E=>(zW zz zb)) (zy jH)) (λ_ _ _ z=>z)))
theorem HP (e:qg K zK zJ zH zE zI zG zF zL zM) (c:Vq P w K mg base zK zJ zH zE zI zG zF zL zM) (d:As P w K mg base zK zJ zH zE zI zG zF zL zM) (g:RM 11 "_law_told" qW A s f cdv):WS (cX P w K mg base Jf "_law_told" qW f cdv A outer s H E) (Θ1 zK zJ zH zE zI zG zF zL zM) (bd qW 7) M.Kq:=by
 unfold M.Kq;exact (jU (uX (xX (Zw g) Z8 (vv 6) (vv 2) (qy _)) (uX (xX (Zw g) Z8 (vd e c g (by decide) (by decide +kernel) (vv 0)) (vv 2) (qy _)) (KE (xX (Zw g) Z8 (vd e d g (by decide) (by decide +kernel) (vv 0)) (Q5 zb) (qy _))))))
theorem nX (F:Fun K "_law_told" "_law_told" qW f fd) (d:qg K zK zJ zH zE zI zG zF zL zM) (c:Vq P w K mg base zK zJ zH zE zI zG zF zL zM) (i:vt P w K mg base zK zJ zH zE zI zG zF zL zM) (h:Y7 P w K mg base zK zJ zH zE zI zG zF zL zM) (j:As P w K mg base zK zJ zH zE zI zG zF zL zM) (e:Y3 P w K mg base zK zJ zH zE zI zG zF zL zM) (g:AU P w K mg base zK zJ zH zE zI zG zF zL zM) (m:mg "list" = zB) (l:mg "sorted" = zB) :
  z4 P w K mg base CX0 12 f fd ["_law_yard","_law_names_here","_law_texts"] (SpM K (Θ1 zK zJ zH zE zI zG zF zL zM) 3 M.xq):=by
 refine yA (b:=M.Vn) F X7 M.fY λcdv A outer s H E n=>?_;unfold M.Vn;exact (zu (lh d e g n) (zu (gR d c n) (zu (O2 m l n) (zu (hE n) (zu (pN d c n) (zu (rA d i n) (zu (Ir d h n) (zk (HP d c j n)))))))))
abbrev A9:zo:=top 105
noncomputable abbrev Oz:List Str:=["_law_cell","_law_some"]
theorem aM:jG Oz ["_law_cell"] (zv A9):=⟨rfl,rfl,rfl,by decide +kernel,rfl,by decide +kernel,by decide +kernel⟩
theorem F3 (F:Fun K "_law_sign_by" "_law_sign_by" A9 f fd) :
  z4 P w K mg base CX0 1 f fd ["_law_cell"] (SpM K (Θ1 zK zJ zH zE zI zG zF zL zM) 1 M.ki):=by
 refine yA (b:=M.Y5) F aM M.pP λcdv A outer s H E c=>?_;unfold M.Y5;exact (zu (qF (i:=1) aM.nd rfl (jO (by kernel_rfl)) zz)
  (zu (qF (i:=1) aM.nd rfl (jO (by kernel_rfl)) (jw (OpR.or xn kE) xI (vv 1) zz))
  (zk (jU (yg (yu c) yl (vv 1) (jw Ze Zg (vv 0) jQ))))))
abbrev AO:zo:=top 106
noncomputable abbrev fS:List Str:=["_law_cell","_law_size"]
theorem iO:jG fS ["_law_cell","_law_size"] (zv AO):=⟨rfl,rfl,rfl,by decide +kernel,rfl,by decide +kernel,by decide +kernel⟩
theorem gh:(["_law_cell","_law_size","_law_k"]:List Str).Nodup:=by decide +kernel
theorem Md (F:Fun K "_law_text_by" "_law_text_by" AO f fd) (c:br P w K mg base zK zJ zH zE zI zG zF zL zM) (d:mg "range" = zB) :
  z4 P w K mg base CX0 2 f fd ["_law_cell","_law_size"] (SpM K (Θ1 zK zJ zH zE zI zG zF zL zM) 2 M.X8):=by
 refine yA (b:=M.UX) F iO M.GI λcdv A outer s H E e=>?_;unfold M.UX;exact (zk (jU (PL (by decide +kernel) (vars:=["_law_k"]) rfl ⟨rfl,rfl,(by kernel_rfl),(by kernel_rfl),(by decide +kernel),⟨(by kernel_rfl),trivial⟩,(by kernel_rfl)⟩ (Mi gk d (vv 1)) (λ_ _ _ _=>(yC (i:=2) gh rfl (jO (by kernel_rfl)) (.inr (by kernel_rfl)))) (λ_ _ _ _=>xE) (λ_ _ _ _=>(j9 c e (by decide) gk (zW (jw (OpR.or xn kE) xI (vc 0) (jw XG k6 jQ (jw Qu JH (vv 2) (jw (OpR.or xn kE) xI jQ (jw Ze Zg (vc 0) jQ))))) zb) (zy jH))) (by kernel_rfl) (λg H S ds j p Q l r m h=>nq (by decide +kernel) g H S ds j p Q l r (.inl m) h))))
abbrev Wo:zo:=top 107
noncomputable abbrev fq:List Str:=["_law_cell"]
theorem fI:jG fq ["_law_cell"] (zv Wo):=⟨rfl,rfl,rfl,by decide +kernel,rfl,by decide +kernel,by decide +kernel⟩
theorem Gp (F:Fun K "_law_put_text" "_law_put_text" Wo f fd) (c:cL P w K mg base zK zJ zH zE zI zG zF zL zM) :
  z4 P w K mg base CX0 3 f fd ["_law_cell"] (SpM K (Θ1 zK zJ zH zE zI zG zF zL zM) 1 M.XX):=by
 refine yA (b:=M.X0) F fI M.M9 λcdv A outer s H E d=>?_;unfold M.X0;exact (zu (jr (qV (Zw d) Z8 (jw Ze Zg (jw Qu JH (vv 0) jQ) jQ) jQ (qy _))
  (zk (jU (j9 c d (by decide) gk (zW (jw Qu JH (vv 0) jQ) (zW (jw Ze Zg (jw XG k6 (jw Qu JH (vv 0) jQ) jQ) jQ) zb)) (zy (zy jH)))))
  j7)
  (zu (jr (qV (Zw d) Z8 (jw Ze Zg (jw Qu JH (vv 0) jQ) jQ) jQ (qy _))
  (zk (jU (jw XG k6 zz jQ)))
  j7)
  (zk (jU (j9 c d (by decide) gk (zW (jw Qu JH (vv 0) jQ) (zW (jw Ze Zg (jw Qu JH (vv 0) jQ) jQ) zb)) (zy (zy jH)))))))
abbrev AW:zo:=top 108
noncomputable abbrev P4:List Str:=["_law_yard","_law_name","_law_texts"]
theorem lK:jG P4 ["_law_yard","_law_name","_law_texts"] (zv AW):=⟨rfl,rfl,rfl,by decide +kernel,rfl,by decide +kernel,by decide +kernel⟩
theorem OQ (F:Fun K "_law_dropped" "_law_dropped" AW f fd) (d:Ah P w K mg base zM) (e:qg K zK zJ zH zE zI zG zF zL zM) (c:Y7 P w K mg base zK zJ zH zE zI zG zF zL zM) :
  z4 P w K mg base CX0 6 f fd ["_law_yard","_law_name","_law_texts"] (SpM K (Θ1 zK zJ zH zE zI zG zF zL zM) 3 M.Kf):=by
 refine yA (b:=M.kg) F lK M.nT λcdv A outer s H E g=>?_;unfold M.kg;exact (zk (oH (cn:=26) g d rfl rfl (Mr (lC (dy e c g (by decide) (by decide +kernel) (λxe E=>(vv 0)) (λxe E=>(zW (vv 1) zb)) (zy jH))) (λxe E=>(KE (xX (ub g) UE (vv 1) (vv 2) (by rfl))))) (λ_ h=>(zk (jU (xX (pA h) xC (vv 1) (vv 2) (by rfl))))) rfl gk))
abbrev ql:zo:=top 110
noncomputable abbrev kN:List Str:=["_law_script","_law_yard","_law_names_here","_law_texts","_law_cell","_law_name"]
theorem Ki:jG kN ["_law_script"] (zv ql):=⟨rfl,rfl,rfl,by decide +kernel,rfl,by decide +kernel,by decide +kernel⟩
theorem n6 (e:qg K zK zJ zH zE zI zG zF zL zM) (c:ai P w K mg base zK zJ zH zE zI zG zF zL zM) (d:vV P w K mg base zK zJ zH zE zI zG zF zL zM) (g:RM 12 "law" ql A s f cdv):WS (cX P w K mg base kN "law" ql f cdv A outer s H E) (Θ1 zK zJ zH zE zI zG zF zL zM) (bd ql 0) M.VS:=by
 unfold M.VS;exact (qF (i:=1) Ki.nd rfl (jO (by kernel_rfl)) (Km e c g (by decide) rfl gk (zW zz (zW (jw Ze Zg (j9 d g (by decide) gk (zW (vv 0) (zW jQ zb)) (zy (zy jH))) jQ) zb)) (zy (zy jH))))
theorem N9 (d:AQ P w K mg base zK zJ zH zE zI zG zF zL zM) (c:vV P w K mg base zK zJ zH zE zI zG zF zL zM) (e:RM 12 "law" ql A s f cdv):WS (cX P w K mg base kN "law" ql f cdv A outer s H E) (Θ1 zK zJ zH zE zI zG zF zL zM) (bd ql 1) M.vb:=by
 unfold M.vb;exact (qF (i:=2) Ki.nd rfl (jO (by kernel_rfl)) (j9 d e (by decide) gk (zW (j9 c e (by decide) gk (zW (vv 0) (zW jQ zb)) (zy (zy jH))) zb) (zy jH)))
theorem Hz (c:RM 12 "law" ql A s f cdv):WS (cX P w K mg base kN "law" ql f cdv A outer s H E) (Θ1 zK zJ zH zE zI zG zF zL zM) (bd ql 2) M.u9:=by
 unfold M.u9;exact (qF (i:=3) Ki.nd rfl (jO (by kernel_rfl)) QK)
theorem Fv (l:qg K zK zJ zH zE zI zG zF zL zM) (e:Wc P w K mg base zK zJ zH zE zI zG zF zL zM) (g:Ub P w K mg base zK zJ zH zE zI zG zF zL zM) (c:bI P w K mg base zK zJ zH zE zI zG zF zL zM) (h:vt P w K mg base zK zJ zH zE zI zG zF zL zM) (d:Am P w K mg base zK zJ zH zE zI zG zF zL zM) (j:RM 12 "law" ql A s f cdv):WS (cX P w K mg base kN "law" ql f cdv A outer s H E) (Θ1 zK zJ zH zE zI zG zF zL zM) (bd ql 3) M.K1:=by
 unfold M.K1;exact (kz JM rfl (QC (j9 e j (by decide) gk (zW (vv 0) (zW jQ (zW jQ zb))) (zy (zy (zy jH))))) (yC (i:=4) Ki.nd rfl (jO (by kernel_rfl)) (.inl rfl))
  (zu (qF (i:=5) Ki.nd rfl (jO (by kernel_rfl)) (yg (yu j) yl (vv 2) (jw Ze Zg (jw Qu JH (vv 4) jQ) jQ)))
  (zu (jr (qV (Zw j) Z8 (jw Ze Zg (vv 4) jQ) jQ (qy _))
  (zu (xp j (vv 3) (vv 5) (j9 c j (by decide) gk (zW (vv 4) zb) (zy jH)))
  (zk (jr (Wf (yU l h j (by decide) (by decide +kernel) (vv 1) (zW (vv 5) (zW (yg (yu j) yl (vv 3) (vv 5)) zb)) (zy (zy jH))))
  (zk (jU QW))
  j7)))
  (zu (jr (Zp (ZS (j9 d j (by decide) gk (zW (vv 1) (zW (vv 5) (zW (vv 3) zb))) (zy (zy (zy jH))))))
  (zk (jU QW))
  j7)
  (zk (jr (qV (ub j) UE (vv 5) (vv 3) (by rfl))
  (zk (yH (y6 kY KA uc (YB j) YO rfl (vv 3) (zW (vv 5) zb))))
  j7))))
  (zk (jr (Zp (ZS (j9 g j (by decide) gk (zW (vv 1) (zW (vv 2) (zW (vv 3) zb))) (zy (zy (zy jH))))))
  (zk (jU QW))
  j7)))))
theorem Fi (c:Ub P w K mg base zK zJ zH zE zI zG zF zL zM) (d:RM 12 "law" ql A s f cdv):WS (cX P w K mg base kN "law" ql f cdv A outer s H E) (Θ1 zK zJ zH zE zI zG zF zL zM) (bd ql 4) M.UK:=by
 unfold M.UK;exact (jU (j9 c d (by decide) gk (zW (vv 1) (zW (vv 2) (zW (vv 3) zb))) (zy (zy (zy jH)))))
theorem GO (F:Fun K "law" "law" ql f fd) (m:qg K zK zJ zH zE zI zG zF zL zM) (e:ai P w K mg base zK zJ zH zE zI zG zF zL zM) (i:AQ P w K mg base zK zJ zH zE zI zG zF zL zM) (j:Wc P w K mg base zK zJ zH zE zI zG zF zL zM) (d:Ub P w K mg base zK zJ zH zE zI zG zF zL zM) (c:vV P w K mg base zK zJ zH zE zI zG zF zL zM) (g:bI P w K mg base zK zJ zH zE zI zG zF zL zM) (l:vt P w K mg base zK zJ zH zE zI zG zF zL zM) (h:Am P w K mg base zK zJ zH zE zI zG zF zL zM) :
  z4 P w K mg base CX0 13 f fd ["_law_script"] (SpM K (Θ1 zK zJ zH zE zI zG zF zL zM) 1 M.AX):=by
 refine qK (N:=kN) (b:=M.VO) F Ki λcdv A outer s H E n=>?_;unfold M.VO;exact (zu (n6 m e c n) (zu (N9 i c n) (zu (Hz n) (zu (Fv m j d g l h n) (zk (Fi d n))))))
theorem GB {l:Ee}{w:z7}{K:zV}{h:zg}{mg:Str->Option zO}{fa f51:zN}{zK zJ zH zE zI zG zF zL zM:zN} (X:K.In h) (G:h.Ns jY mg) (hfa:mg "law" = zA (.ref fa))
  {od51 an51:Option zN}{sl51:Array (Option zO)}{oc51 kV51 dc51 pm51 cd51 ct51:zO}
  {N:zN} (PM:j2 K jY "NoThing" = zA (zA (.ref zM))) (aY_NoThing:j2 K jY "YardError" = zA (zA (.ref N))) (x_NoThing:Y1 K zM N xn0=zC) (y_NoThing:yIn K N=zC)
  (oV:j2 K jY "Shelf" = zA (zA (.ref zK))) (PB:Qf K zK QL=zC) (mj:JU K zK=zC) (FR:J8 K zK=zC) (mu:jb K (.ref zK) "__setattr__" = zA (zA (.builtin "object.__setattr__"))) (P0:JO K zK=zC) (L9:yX K (.ref zK)=zC)
  (gn:jb K (.ref zK) "bound" = zA zB)
  (Gr:jb K (.ref zK) "kept" = zA zB)
  (oQ:j2 K jY "Bench" = zA (zA (.ref zJ))) (pQ:Qf K zJ QL=zC) (pL:JU K zJ=zC) (Fo:J8 K zJ=zC) (iZ:jb K (.ref zJ) "__setattr__" = zA (zA (.builtin "object.__setattr__"))) (oE:JO K zJ=zC) (MJ:yX K (.ref zJ)=zC)
  (MN:jb K (.ref zJ) "shelf" = zA zB)
  (iV:jb K (.ref zJ) "rows" = zA zB)
  (lZ:j2 K jY "Accounts" = zA (zA (.ref zH))) (NR:Qf K zH QL=zC) (lJ:JU K zH=zC) (hY:J8 K zH=zC) (N6:jb K (.ref zH) "__setattr__" = zA (zA (.builtin "object.__setattr__"))) (FZ:JO K zH=zC) (Ny:yX K (.ref zH)=zC)
  (IT:jb K (.ref zH) "kept" = zA zB)
  (Hl:j2 K jY "Yard" = zA (zA (.ref zE))) (iU:Qf K zE QL=zC) (oj:JU K zE=zC) (og:J8 K zE=zC) (P8:jb K (.ref zE) "__setattr__" = zA (zA (.builtin "object.__setattr__"))) (l8:JO K zE=zC) (HG:yX K (.ref zE)=zC)
  (Lq:jb K (.ref zE) "own" = zA zB)
  (Py:jb K (.ref zE) "bench" = zA zB)
  (FV:jb K (.ref zE) "texts" = zA zB)
  (m6:jb K (.ref zE) "remembered" = zA zB)
  (Gu:j2 K jY "Search" = zA (zA (.ref zI))) (pW:Qf K zI QL=zC) (Iq:JU K zI=zC) (Io:J8 K zI=zC) (fb:jb K (.ref zI) "__setattr__" = zA (zA (.builtin "object.__setattr__"))) (Hm:JO K zI=zC) (hU:yX K (.ref zI)=zC)
  (Mw:jb K (.ref zI) "name" = zA zB)
  (nN:jb K (.ref zI) "rule" = zA zB)
  (FT:jb K (.ref zI) "mores" = zA zB)
  (lM:j2 K jY "Making" = zA (zA (.ref zG))) (Fz:Qf K zG QL=zC) (MZ:JU K zG=zC) (n4:J8 K zG=zC) (G5:jb K (.ref zG) "__setattr__" = zA (zA (.builtin "object.__setattr__"))) (IG:JO K zG=zC) (LS:yX K (.ref zG)=zC)
  (Nj:jb K (.ref zG) "name" = zA zB)
  (L5:jb K (.ref zG) "search" = zA zB)
  (Ly:jb K (.ref zG) "way" = zA zB)
  (GL:jb K (.ref zG) "asked" = zA zB)
  (LW:jb K (.ref zG) "texts" = zA zB)
  (oT:jb K (.ref zG) "answers" = zA zB)
  (gC:jb K (.ref zG) "wanted" = zA zB)
  (Po:jb K (.ref zG) "end" = zA zB)
  (FC:j2 K jY "Settling" = zA (zA (.ref zF))) (OT:Qf K zF QL=zC) (Nm:JU K zF=zC) (oF:J8 K zF=zC) (Fg:jb K (.ref zF) "__setattr__" = zA (zA (.builtin "object.__setattr__"))) (L3:JO K zF=zC) (lE:yX K (.ref zF)=zC)
  (Fy:jb K (.ref zF) "own" = zA zB)
  (pD:jb K (.ref zF) "texts" = zA zB)
  (gv:jb K (.ref zF) "remembered" = zA zB)
  (Pj:jb K (.ref zF) "bench" = zA zB)
  (Pg:jb K (.ref zF) "row" = zA zB)
  (oy:jb K (.ref zF) "nexts" = zA zB)
  (oP:jb K (.ref zF) "pile" = zA zB)
  (Mx:j2 K jY "BookPile" = zA (zA (.ref zL))) (Ph:Qf K zL QL=zC) (Nu:JU K zL=zC) (oh:J8 K zL=zC) (nM:jb K (.ref zL) "__setattr__" = zA (zA (.builtin "object.__setattr__"))) (oq:JO K zL=zC) (Lm:yX K (.ref zL)=zC)
  (On:jb K (.ref zL) "read" = zA zB)
  (a1:IsG K "words_of" AV)
  (a2:IsG K "read_rows" ZM)
  (a3:IsG K "is_row_sign" Az)
  (a4:IsG K "is_text" An)
  (a5:IsG K "read_book" AL)
  (a6:IsG K "is_bound" U4)
  (a7:IsM K zK "__init__" "Shelf.__init__" wW)
  (a8:IsM K zJ "__init__" "Bench.__init__" au)
  (a9:IsM K zH "__init__" "Accounts.__init__" U8)
  (a10:IsM K zE "__init__" "Yard.__init__" ZH)
  (a11:IsG K "_law_names" yn)
  (a12:IsG K "_law_cell_at" We)
  (a13:IsG K "_law_cells" Wg)
  (a14:IsM K zE "given" "Yard.given" Wn)
  (a15:IsG K "needers_of" Ww)
  (a16:IsG K "leaners" yk)
  (a17:IsM K zH "leaning_on" "Accounts.leaning_on" bW)
  (a18:IsM K zH "let_go" "Accounts.let_go" AS)
  (a19:IsG K "is_letter" wR)
  (a20:IsG K "is_plain" A6)
  (a21:IsG K "is_name" we)
  (a22:IsM K zE "put" "Yard.put" ZJ)
  (a23:IsM K zE "drop" "Yard.drop" wC)
  (a24:IsM K zE "log" "Yard.log" aR)
  (a25:IsM K zH "kept_of" "Accounts.kept_of" aV)
  (a26:IsM K zH "keep" "Accounts.keep" aJ)
  (a27:IsG K "tree_under" AG)
  (a28:IsG K "family_of" A3)
  (a29:IsG K "stem_of" aa)
  (a30:IsG K "rule_in" qs)
  (a31:IsM K zI "look_in" "Search.look_in" wN)
  (a32:IsM K zI "__init__" "Search.__init__" ZK)
  (a33:IsM K zG "__init__" "Making.__init__" qX)
  (a34:IsM K zG "seek" "Making.seek" W5)
  (a35:IsM K zG "go_on" "Making.go_on" AI)
  (a36:IsM K zF "go_on" "Settling.go_on" w1)
  (a37:IsG K "given_account" Uv)
  (a38:IsM K zF "begin" "Settling.begin" wg)
  (a39:IsM K zG "account_with" "Making.account_with" Ap)
  (a40:IsM K zF "finish" "Settling.finish" AC)
  (a41:IsM K zF "settle" "Settling.settle" Av)
  (a42:IsM K zL "__init__" "BookPile.__init__" aH)
  (a43:IsM K zF "__init__" "Settling.__init__" qt)
  (a44:IsM K zE "account" "Yard.account" U1)
  (a45:IsM K zE "outcome" "Yard.outcome" wD)
  (a46:IsG K "_law_told" qW)
  (a47:IsG K "_law_sign_by" A9)
  (a48:IsG K "_law_text_by" AO)
  (a49:IsG K "_law_put_text" Wo)
  (a50:IsG K "_law_dropped" AW)
  (a51:j2 K jY "law" = zA (zA (.ref f51))) (l51:K.lookup f51=zA ⟨oc51,od51,.func (QJ "law" "law" (JS ql) (yc ql) (zv ql) .none kV51 dc51 pm51 an51 cd51 ct51),sl51⟩) (c51:VY K cd51 "law" = zC) (k51:yX K (.ref f51)=zC)
  (z_enumerate:j2 K jY "enumerate" = zA zB)
  (z_len:j2 K jY "len" = zA zB)
  (z_all:j2 K jY "all" = zA zB)
  (z_isinstance:j2 K jY "isinstance" = zA zB)
  (z_str:j2 K jY "str" = zA zB)
  (z_bool:j2 K jY "bool" = zA zB)
  (z_int:j2 K jY "int" = zA zB)
  (z_range:j2 K jY "range" = zA zB)
  (z_min:j2 K jY "min" = zA zB)
  (z_dict:j2 K jY "dict" = zA zB)
  (z_sorted:j2 K jY "sorted" = zA zB)
  (z_list:j2 K jY "list" = zA zB)
  (z_tuple:j2 K jY "tuple" = zA zB)
  {M:zO} (v_MOST_SIGNS:j2 K jY "MOST_SIGNS" = zA (zA M)) (r_MOST_SIGNS:KO (.int 900) M=zC)
  {u_MOST_KEYS:zO} (v_MOST_KEYS:j2 K jY "MOST_KEYS" = zA (zA u_MOST_KEYS)) (r_MOST_KEYS:KO (.int 1000) u_MOST_KEYS=zC)
  {i:zN}{u:Array zO}{n_KEPT_WORDS:Nat}{d_KEPT_WORDS:Option zN}{s_KEPT_WORDS:Array (Option zO)} (v_KEPT_WORDS:j2 K jY "KEPT_WORDS" = zA (zA (.ref i))) (w_KEPT_WORDS:K.lookup i=zA ⟨.type "tuple",d_KEPT_WORDS,.seq u n_KEPT_WORDS,s_KEPT_WORDS⟩) (r_KEPT_WORDS:VR [(.str "of"),(.str "if"),(.str "is"),(.str "then"),(.str "else"),(.str "each"),(.str "do"),(.str "it"),(.str "back"),(.str "first"),(.str "rest"),(.str "count"),(.str "sorted"),(.str "fail"),(.str "line"),(.str "more")] u.toList=zC)
  {y:zO} (v_MOST_LETTERS:j2 K jY "MOST_LETTERS" = zA (zA y)) (r_MOST_LETTERS:KO (.int 8) y=zC)
  : ∃ fd:Jr,(∀ (s:zU) (v:zO),K8 s fd ⟨[v],[]⟩ [("_law_script",v)])/\fd.scope.names.lookup ("_law_script" : Str)=zA .local/\∀ base:zg,K.In base->base.Ns jY mg->z4 l.prog w K mg base CX0 13 fa fd ["_law_script"] (Ye K):=by
 have e:=hfa.symm.trans (xx X G a51);cases e;have F51:=Aq (x := "law") (qual := "law") (st:=ql) l51 c51 k51;have gi:=Zy X G z_enumerate;have q:=Zy X G z_len;have aF:=Zy X G z_all;have j:=Zy X G z_isinstance;have Ab:=Zy X G z_str;have o8:=Zy X G z_bool;have GQ:=Zy X G z_int;have cg:=Zy X G z_range;have n7:=Zy X G z_min;have eP:=Zy X G z_dict;have aE:=Zy X G z_sorted;have YZ:=Zy X G z_list;have Iu:=Zy X G z_tuple;have nu:Qt mg "MOST_SIGNS" (.int 900):=⟨_,xx X G v_MOST_SIGNS,uG r_MOST_SIGNS⟩
 have iD:Qt mg "MOST_KEYS" (.int 1000):=⟨_,xx X G v_MOST_KEYS,uG r_MOST_KEYS⟩
 have gF:Qt mg "KEPT_WORDS" (.ref i):=⟨_,xx X G v_KEPT_WORDS,rfl⟩
 have Ng:∀ H,SqT K H i [(.str "of"),(.str "if"),(.str "is"),(.str "then"),(.str "else"),(.str "each"),(.str "do"),(.str "it"),(.str "back"),(.str "first"),(.str "rest"),(.str "count"),(.str "sorted"),(.str "fail"),(.str "line"),(.str "more")]:=λH=>NC w_KEPT_WORDS r_KEPT_WORDS;have G3:Qt mg "MOST_LETTERS" (.int 8):=⟨_,xx X G v_MOST_LETTERS,uG r_MOST_LETTERS⟩
 have EK:Wx K zK zJ zH zE zI zG zF zL zM:=⟨rfl,⟨PB,mj,FR,mu⟩,qN gn (qN Gr (λf hf=>nomatch hf)),by decide +kernel,by decide +kernel⟩
 have Aa:vp K zK zJ zH zE zI zG zF zL zM:=⟨rfl,⟨pQ,pL,Fo,iZ⟩,qN MN (qN iV (λf hf=>nomatch hf)),by decide +kernel,by decide +kernel⟩
 have c:ZQ K zK zJ zH zE zI zG zF zL zM:=⟨rfl,⟨NR,lJ,hY,N6⟩,qN IT (λf hf=>nomatch hf),by decide +kernel,by decide +kernel⟩
 have m:qg K zK zJ zH zE zI zG zF zL zM:=⟨rfl,⟨iU,oj,og,P8⟩,qN Lq (qN Py (qN FV (qN m6 (λf hf=>nomatch hf)))),by decide +kernel,by decide +kernel⟩
 have o:Qi K zK zJ zH zE zI zG zF zL zM:=⟨rfl,⟨pW,Iq,Io,fb⟩,qN Mw (qN nN (qN FT (λf hf=>nomatch hf))),by decide +kernel,by decide +kernel⟩
 have d:y0 K zK zJ zH zE zI zG zF zL zM:=⟨rfl,⟨Fz,MZ,n4,G5⟩,qN Nj (qN L5 (qN Ly (qN GL (qN LW (qN oT (qN gC (qN Po (λf hf=>nomatch hf)))))))),by decide +kernel,by decide +kernel⟩
 have g:Za K zK zJ zH zE zI zG zF zL zM:=⟨rfl,⟨OT,Nm,oF,Fg⟩,qN Fy (qN pD (qN gv (qN Pj (qN Pg (qN oy (qN oP (λf hf=>nomatch hf))))))),by decide +kernel,by decide +kernel⟩
 have eG:Vx K zK zJ zH zE zI zG zF zL zM:=⟨rfl,⟨Ph,Nu,oh,nM⟩,qN On (λf hf=>nomatch hf),by decide +kernel,by decide +kernel⟩
 refine⟨(QJ "law" "law" (JS ql) (yc ql) (zv ql) .none kV51 dc51 pm51 an51 cd51 ct51),λs v=>.of_eq rfl,by kernel_rfl,λbase _ _=>?_⟩;have e_NoThing:Ah l.prog w K mg base zM:=lj X G PM aY_NoThing x_NoThing y_NoThing;have iB:Ax l.prog w K mg base zK zJ zH zE zI zG zF zL zM:=qu a1 X G λ_ _ F _ _ _=>Gq F;have gW:d5 l.prog w K mg base zK zJ zH zE zI zG zF zL zM:=qu a2 X G λ_ _ F _ _ _=>HR F iB gi q;have Fe:E5 l.prog w K mg base zK zJ zH zE zI zG zF zL zM:=qu a3 X G λ_ _ F _ _ _=>Hy F;have ej:Vv l.prog w K mg base zK zJ zH zE zI zG zF zL zM:=qu a4 X G λ_ _ F _ _ _=>iA F Fe aF j Ab q nu;have OR:wB l.prog w K mg base zK zJ zH zE zI zG zF zL zM:=qu a5 X G λ_ _ F _ _ _=>nh F gW ej;have LP:Bp l.prog w K mg base zK zJ zH zE zI zG zF zL zM:=qu a6 X G λ_ _ F _ _ _=>fM F j o8 GQ iD;have g0:c1 l.prog w K mg base zK zJ zH zE zI zG zF zL zM:=xt a7 X G oV P0 L9 λ_ _ F=>lp F EK LP;have P6:A1 l.prog w K mg base zK zJ zH zE zI zG zF zL zM:=xt a8 X G oQ oE MJ λ_ _ F=>iP F Aa EK g0;have C:aQ l.prog w K mg base zK zJ zH zE zI zG zF zL zM:=xt a9 X G lZ FZ Ny λ_ _ F=>NX F c;have P9:ai l.prog w K mg base zK zJ zH zE zI zG zF zL zM:=xt a10 X G Hl l8 HG λ_ _ F=>MR F m Aa c OR P6 C;have Pl:AQ l.prog w K mg base zK zJ zH zE zI zG zF zL zM:=qu a11 X G λ_ _ F _ _ _=>Pd F;have z:vV l.prog w K mg base zK zJ zH zE zI zG zF zL zM:=qu a12 X G λ_ _ F _ _ _=>O9 F q;have OE:Wc l.prog w K mg base zK zJ zH zE zI zG zF zL zM:=qu a13 X G λ_ _ F _ _ _=>o7 F z cg n7 q;have PH:Vq l.prog w K mg base zK zJ zH zE zI zG zF zL zM:=yz a14 λ_ _ F=>oN F m eP aE;have mS:U7 l.prog w K mg base zK zJ zH zE zI zG zF zL zM:=qu a15 X G λ_ _ F _ _ _=>nV F;have F0:dh l.prog w K mg base zK zJ zH zE zI zG zF zL zM:=qu a16 X G λ_ _ F _ _ _=>M4 F mS YZ aE q;have r:Cb l.prog w K mg base zK zJ zH zE zI zG zF zL zM:=yz a17 λ_ _ F=>m7 F c F0 eP YZ;have n:uy l.prog w K mg base zK zJ zH zE zI zG zF zL zM:=yz a18 λ_ _ F=>N1 F c r;have Me:DF l.prog w K mg base zK zJ zH zE zI zG zF zL zM:=qu a19 X G λ_ _ F _ _ _=>ft F;have mW:Be l.prog w K mg base zK zJ zH zE zI zG zF zL zM:=qu a20 X G λ_ _ F _ _ _=>P2 F Me aF j Ab q gF Ng G3;have Q:VW l.prog w K mg base zK zJ zH zE zI zG zF zL zM:=qu a21 X G λ_ _ F _ _ _=>O0 F mW j Ab aF q;have C0:vt l.prog w K mg base zK zJ zH zE zI zG zF zL zM:=yz a22 λ_ _ F=>G6 F m c n Q ej;have ec:Y7 l.prog w K mg base zK zJ zH zE zI zG zF zL zM:=gJ a23 λ_ _ F=>iR F e_NoThing m c n Q;have NG:As l.prog w K mg base zK zJ zH zE zI zG zF zL zM:=yz a24 λ_ _ F=>fw F m Aa YZ;have L:dB l.prog w K mg base zK zJ zH zE zI zG zF zL zM:=yz a25 λ_ _ F=>fT F c;have p:aZ l.prog w K mg base zK zJ zH zE zI zG zF zL zM:=yz a26 λ_ _ F=>iJ F c;have P7:Yk l.prog w K mg base zK zJ zH zE zI zG zF zL zM:=qu a27 X G λ_ _ F _ _ _=>mm F;have H8:Ux l.prog w K mg base zK zJ zH zE zI zG zF zL zM:=qu a28 X G λ_ _ F _ _ _=>Nn F;have ix:wO l.prog w K mg base zK zJ zH zE zI zG zF zL zM:=qu a29 X G λ_ _ F _ _ _=>GU F;have iW:dc l.prog w K mg base zK zJ zH zE zI zG zF zL zM:=qu a30 X G λ_ _ F _ _ _=>oS F P7 H8 ix;have Ic:Wz l.prog w K mg base zK zJ zH zE zI zG zF zL zM:=yz a31 λ_ _ F=>lF F o iW;have U:bF l.prog w K mg base zK zJ zH zE zI zG zF zL zM:=xt a32 X G Gu Hm hU λ_ _ F=>pF F o Ic;have Y:Ed l.prog w K mg base zK zJ zH zE zI zG zF zL zM:=xt a33 X G lM IG LS λ_ _ F=>Gv F d o U;have mI:D9 l.prog w K mg base zK zJ zH zE zI zG zF zL zM:=yz a34 λ_ _ F=>OX F d o q;have F4:cP l.prog w K mg base zK zJ zH zE zI zG zF zL zM:=yz a35 λ_ _ F=>Ni F d o mI;have gg:bx l.prog w K mg base zK zJ zH zE zI zG zF zL zM:=yz a36 λ_ _ F=>NB F g d F4;have Nv:bz l.prog w K mg base zK zJ zH zE zI zG zF zL zM:=qu a37 X G λ_ _ F _ _ _=>M8 F;have mP:DP l.prog w K mg base zK zJ zH zE zI zG zF zL zM:=yz a38 λ_ _ F=>FF F g d c p Y gg Nv;have t:cZ l.prog w K mg base zK zJ zH zE zI zG zF zL zM:=yz a39 λ_ _ F=>gQ F d Iu;have Ml:fE l.prog w K mg base zK zJ zH zE zI zG zF zL zM:=yz a40 λ_ _ F=>HH F g c d p t;have gU:Df l.prog w K mg base zK zJ zH zE zI zG zF zL zM:=yz a41 λ_ _ F=>Fp F g d mP Ml q;have I:aW l.prog w K mg base zK zJ zH zE zI zG zF zL zM:=xt a42 X G Mx oq Lm λ_ _ F=>PN F eG;have J:DS l.prog w K mg base zK zJ zH zE zI zG zF zL zM:=xt a43 X G FC L3 lE λ_ _ F=>fO F g eG I;have B:Y3 l.prog w K mg base zK zJ zH zE zI zG zF zL zM:=yz a44 λ_ _ F=>NF F m g c L Q gU J;have nr:AU l.prog w K mg base zK zJ zH zE zI zG zF zL zM:=yz a45 λ_ _ F=>pI F m B;have F8:Ub l.prog w K mg base zK zJ zH zE zI zG zF zL zM:=qu a46 X G λ_ _ F _ _ _=>nX F m PH C0 ec NG B nr YZ aE;have gM:br l.prog w K mg base zK zJ zH zE zI zG zF zL zM:=qu a47 X G λ_ _ F _ _ _=>F3 F;have MC:cL l.prog w K mg base zK zJ zH zE zI zG zF zL zM:=qu a48 X G λ_ _ F _ _ _=>Md F gM cg;have fm:bI l.prog w K mg base zK zJ zH zE zI zG zF zL zM:=qu a49 X G λ_ _ F _ _ _=>Gp F MC;have IX:Am l.prog w K mg base zK zJ zH zE zI zG zF zL zM:=qu a50 X G λ_ _ F _ _ _=>OQ F e_NoThing m ec;exact (GO F51 m P9 Pl OE F8 z fm C0 IX).imp λ_ _ _ _ h=>h _
theorem lY {l:Ee}{g:z7->zg->Prop}{d:DefRec}{K:Params->zV} (j:l.most=zA 63) (c:d.params.defaults=[])
  (m:∀ (w:z7) (h:zg),g w h->(K w.params).In h)
  (F:∀ (w:z7) (mg:Str->Option zO) (i:zN) (h:zg),(K w.params).In h->h.Ns jY mg->mg d.name=zA (.ref i) ->
   ∃ fd:Jr,(∀ (s:zU) (u:zO),K8 s fd ⟨[u],[]⟩ [("_law_script",u)])/\fd.scope.names.lookup ("_law_script" : Str)=zA .local/\∀ base:zg,(K w.params).In base->base.Ns jY mg->z4 l.prog w (K w.params) mg base CX0 13 i fd ["_law_script"] (Ye (K w.params))) :
  Ge q e t g l.row.toRowW d [] (λf vs=>DV f vs) :=
 L2.mX (n:=63) (k:=13) (x := "_law_script") (CX:=λ_=>CX0) (sp:=λw=>Ye (K w.params)) j (by decide) c ⟨rfl,by decide,by decide⟩ m F (λ_ _ _ _ o p r=>Fm o p r) λ_ _ _ _ _ z=>z
end My
open PySem PySem.W PyProof.Rows
set_option maxRecDepth 100000 in
set_option maxHeartbeats 0 in
theorem PySem.Challenge.cw_thingyard_k71_given_holds : PySem.Challenge.rw_thingyard_k71_given.Holds := by
 refine PySem.Challenge.hd ?_
 k_fill
 refine My.lY (l:=PySem.Challenge.rw_thingyard_k71_given) rfl rfl (λw h Y=>PySem.W.kIn_of Y) ?F
 case F =>
  intro w mg fa h KX G hmg;refine' My.GB KX G hmg ?_ ?_ ?x_NoThing ?y_NoThing ?_ ?_ ?_ ?_ ?_ ?_ ?_ ?_ ?_ ?_ ?_ ?_ ?_ ?_ ?_ ?_ ?_ ?_ ?_ ?_ ?_ ?_ ?_ ?_ ?_ ?_ ?_ ?_ ?_ ?_ ?_ ?_ ?_ ?_ ?_ ?_ ?_ ?_ ?_ ?_ ?_ ?_ ?_ ?_ ?_ ?_ ?_ ?_ ?_ ?_ ?_ ?_ ?_ ?_ ?_ ?_ ?_ ?_ ?_ ?_ ?_ ?_ ?_ ?_ ?_ ?_ ?_ ?_ ?_ ?_ ?_ ?_ ?_ ?_ ?_ ?_ ?_ ?_ ?_ ?_ ?_ ?_ ?_ ?_ ?_ ?_ ?_ ?_ ?_ ?_ ?_ ?_ ?_ ?_ ?_ ?_ ?_ ?_ ?_ ?_ ?_ ?_ ?_ ?_ ?_ ?_ ?_ ?_ ?_ ?_ ?_ ?_ ?_ ?_ ?_ ?_ ?_ ?_ ?_ ?_ ?_ ?_ ?_ ?_ ?_ ?_ ?_ ?_ ?_ ?_ ?_ ?_ ?_ ?_ ?_ ?_ ?_ ?_ ?_ ?_ ?_ ?_ ?_ ?_ ?_ ?_ ?_ ?_ ?_ ?_ ?_ ?_ ?r_MOST_SIGNS ?_ ?r_MOST_KEYS ?_ ?_ ?r_KEPT_WORDS ?_ ?r_MOST_LETTERS
  all_goals first | k_is | (refine' L2.isG ?a ?l ?c ?k;(case a=>k_is);(case l=>k_is);(case c=>k_is);(case k=>k_is)) | (refine' L2.isM ?a ?i ?l ?c ?k;(case a=>k_is);(case i=>k_is);(case l=>k_is);(case c=>k_is);(case k=>k_is)) | skip
  (case x_NoThing=>first | rfl | kernel_rfl)
  (case y_NoThing=>first | rfl | kernel_rfl)
  (case r_MOST_SIGNS=>rfl)
  (case r_MOST_KEYS=>rfl)
  (case r_KEPT_WORDS=>rfl)
  (case r_MOST_LETTERS=>rfl)
