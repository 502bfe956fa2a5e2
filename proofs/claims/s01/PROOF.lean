import PyProof.Rows.All
import Wide.All
import OpenK.AllK
import Wide.FinOn
import PyProof.EqAt
import PyProof.EqKinds
import PyProof.TupleCall
import KE.BitLaws
import Open.SpecLaws
import KE.OsHead
import KE.OsGo
import KE.KLam
import KE.KDictOf
import KE.KDictSum
import KE.KMinKey
import VbahakSpec
import PyVbahak
import KE.KSortKeySt
import PyProof.ListRange
import PyProof.Rows.CallKwBuiltin
import PyProof.FactsAll.list_2
import PyProof.ZipIter
import PyProof.TupleIter
import PyProof.WalksMore
import PySem.Challenge.RW_carriermoney_s01_answers
import KE.SpHead
import KE.OsShapes
set_option Elab.async false
set_option linter.all false
set_option maxRecDepth 100000
open Array renaming length_toList->mJ,getElem?_toList->uy,getElem?_eq_getElem->Pb,toList->Ql,mem_toList_iff->aeI,toList_append->aeV,find?_toList->ae3
open Bool renaming and_eq_true->cM,false_ne_true->df,noConfusion->kd,eq_iff_iff->ki,and_true->mO,false_eq_true->uD,false_and->Bj,and_false->Iq,and_eq_false_iff->Pq,or_eq_true->PZ,true_and->Qe,or_false->Qg,or_eq_false_iff->aeT,and_eq_true_iff->aeU
open Classical renaming byContradiction->aeg
open Except renaming error->Iv,ok->IG
open False renaming elim->ft
open ForInStep renaming yield->HS
open Function renaming comp->lE
open Int renaming le_trans->dO,toNat_natCast->iT,natCast_ediv->Ic,natCast_mul->P6
open List renaming length_map->ao,getElem?_map->aS,mem_map->bh,map_map->bw,length_cons->bH,mem_of_getElem?->bP,map_cons->bQ,mem_cons_of_mem->bR,mem_cons_self->bS,mem_cons->b0,getElem?_eq_getElem->cE,getElem?_eq_some_iff->cJ,range->cN,map_append->cZ,mem_filter->c9,length_append->dJ,size_toArray->dN,length_eq_zero_iff->eB,mem_append->ff,getElem?_of_mem->fH,map_congr_left->fW,pairwise_map->gN,filter_cons->gO,mem_singleton->ik,take_length->iq,mem_map_of_mem->iS,length_take->iU,length->iV,filterMap_cons->jf,replicate->jg,getElem?_eq_none->jG,nodup_cons->jI,getElem?_zip_eq_some->j9,find?_cons->ke,filter_map->kh,mem_range->kj,getD_eq_getElem?_getD->ly,getElem?_set_self->lz,length_filter_le->lA,getElem?_set_ne->lB,filter_append->mK,getElem?_append_left->ox,length_zipIdx->oz,ext_getElem?->oA,all_eq_true->oC,filterMap_map->pN,sum_cons->pV,any_cons->pW,all_cons->pY,getElem?_append_right->qV,mem_append_right->qX,getElem?_zipIdx->qZ,cons_append->rh,length_zip->rk,all_map->rA,lookup->rB,length_singleton->uz,not_mem_nil->uG,lookup_cons->uH,length_set->uJ,append_nil->uK,Nodup->uU,range_succ_eq_map->xy,replicate_succ->xC,getElem?_range->xD,flatMap_append->xE,pairwise_cons->xG,nodup_append->xH,length_range->xI,flatMap_cons->xJ,append_assoc->xK,zipIdx_cons->xM,map_snd_zip->xN,range_succ->xQ,forIn_nil->xT,map_nil->xZ,mem_zipIdx_iff_getElem?->AW,mem_of_find?_eq_some->AX,drop_eq_getElem_cons->AY,take_of_length_le->A1,filterMap_append->A2,mem_of_mem_take->A5,flatten_cons->A9,mem_flatMap->Bb,nil_append->Bf,forIn_cons->Bg,foldr_cons->Bh,map_id->Bs,map->Bz,filterMap_eq_map->Hx,length_pos_iff->Hz,filter_sublist->HG,mem_filterMap->HI,take_sublist->HP,map_fst_zip->HV,getElem_inj->HW,zipIdx_nil->Ih,of_mem_zip->Ii,length_nil->Ij,nodup_nil->Io,drop_drop->Ip,flatMap->Iy,pairwise_iff_getElem->Pc,getElem?_eq_none_iff->Pd,getElem?_cons_zero->Pj,drop_of_length_le->Pn,length_replicate->Po,mem_append_left->Pt,getElem?_take->PD,map_flatMap->PQ,length_drop->PR,find?_some->PY,range_add->P8,map_take->Qc,zipWith->Qo,foldl->Qy,ofFn->QB,findIdx_lt_length_of_exists->aed,mem_or_eq_of_mem_set->aeu,length_filterMap_le->aez,getElem?_cons_succ->aeD,getElem?_zipWith->aeH,pairwise_append->aeR,getElem?_append->aeS,map_filterMap->ae8,find?_eq_none->ae9,contains_cons->afa,find?_filter->aff,sublist_nil->afn,getElem_mem->afo,flatMap_map->afp
open List.Nodup renaming sublist->aeA
open List.Pairwise renaming filter->aei
open List.Perm renaming refl->Ib
open List.cons renaming inj->PV
open Nat renaming le_refl->aI,ne_of_lt->cW,le_trans->dr,zero_le->du,lt_of_lt_of_le->d6,le_of_lt->fO,le_succ->iz,ne_of_gt->jh,le_add_right->jH,pow_succ->jK,lt_irrefl->mP,succ->rE,testBit_zero->xO,mul_comm->x6,min_self->x8,testBit_succ->Bc,div_eq_of_lt->Be,zero_add->Bq,lt_of_le_of_lt->HK,lt_succ_of_lt->HQ,le_of_succ_le->HR,succ_le_succ->HY,lt_succ_self->HZ,lt_of_not_le->Ia,testBit_and->Il,min_eq_left->Im,sub_self->IA,le_of_eq->IB,mul_add->IF,one_le_two_pow->PH,two_pow_pos->P4,le_antisymm->P5,add_assoc->Qk,add_comm->Qq,mod_lt->QA,le_of_ble_eq_true->aeQ,pow_le_pow_right->ae0,eq_of_testBit_eq->ae1,div_le_of_le_mul->ae2,lt_trichotomy->afl,le_succ_of_le->afm,zero_testBit->afu,mod_eq_of_lt->afv
open Ne renaming symm->d7
open Option renaming none->cu,map_some->iu,map_eq_some_iff->oy,isSome_iff_exists->AZ,isSome_some->Pw,isSome_map->Pz,getD_none->ae7
open Option.some renaming inj->fe,injEq->uC
open Prod renaming snd->rD
open Prod.mk renaming injEq->P2
open PyFlat renaming calls->lK,row->Qr,played->aft
open PyProof.Rows renaming IntsAre->eS,IsTup->oK,callWith_type1->qU,AllBare->uX,Subscript_->By,callWith_builtin1->aec,subscriptTail_builtinR->afe
open PySem renaming Addr->aa,Value->ab,Shared->ak,wpAny_bind->aq,Heap->aB,Expr->aG,Stmt->aL,wpAny_pure->aO,FuncData->aU,World->aW,Program->bg,Around->bY,Scope->dY,IsZip->eK,wpAny_field->fY,IsPair->gR,wpAny_seqItems->iy,wpAny_mono->iA,DictEntry->iC,NameKind->iW,mem_of_lookup->je,wpAny_setField_rec->mL,wpAny_call_entry->mM,wpAny_holding->oH,wpAny_letGo->oJ,wpAny_Call_Name_kw->pO,Arguments->qc,wpAny_callSpecial?_slot->qW,wpAny_truthy_bool->rf,wpAny_onRaise->rp,Operator->rF,Keyword->rH,Params->rK,wpAny_pyIter_list->uE,wpAny_newObj_type->uF,wpAny_passesOwn->uN,codeAny_builtin->uO,plainId_quiet->uQ,sizeLine_eq->uS,wpAny_Name->uV,Paired->uY,wpAny_pyIter_zip->xP,wpAny_tryCatch->xX,wpAny_attempt->xY,wpAny_nextOf_list_item->A3,wpAny_loadName_local->A7,tupleKind_room_in1->Ba,wpAny_updateSeq->Bk,codeAny_mono->Bt,wpAny_rule->Bw,call_meets->Bx,wpAny_typeNameOfWhole_keyiter->Hs,wpAny_typeNameOf_keyiter->Hu,wpAny_execs_nil->Ir,pushCells_keeps->Iu,wpAny_setField->Iw,wpAny_standAt->IC,wpAny_letOwnedTupleGo_zip->Pk,wpAny_updateSeq_pair->PF,wpAny_dictEntries->P0,wpAny_Call_method->P1,wpAny_isInstance->P9,wpAny_getItem_of->Qa,wpAny_dictEpoch->Qi,Within->Qj,isSubtype_stop->Qp,wpAny_newList->Qs,nums_intItems->Qt,evalPart_none->Qu,call->Qv,wpAny_AugAssign_SubscriptAny->aeB,evalArgs_none->aeJ,wpAny_getItem_list_slice->aeX,richCompare_meets_room->afb,wpAny_nextOf_list_end->afh,wpAny_isTrue_Compare1->afi,wpAny_isOneOf_keyiter->afj,getD_mem->afr
open PySem.Around renaming under_plainId->uA,under->Qb
open PySem.AutoSeq1 renaming sub_tuple_tuple->aem,sub_list_list->aeq
open PySem.Builtin renaming bitAnd->uM,divisionGoesByPylong->aef
open PySem.Builtin.Builtins renaming bindParams->aeb
open PySem.Builtin.Dict renaming showsAll->aeh
open PySem.Builtin.Dict_items renaming ownsTuple->aea
open PySem.Builtin.List renaming listTooLong->xt
open PySem.Builtin.Range renaming rangeSize->Ht,small->Ph
open PySem.Builtin.SmallTypes renaming nextOf->ll,ownedTupleHandOut->Hq,ownedTupleIsFree->Hr
open PySem.Calls renaming spliced_cons->xF,spliced_nil->HM,Name_function_global->Pa,loadGlobal_builtin->aet,callWith_builtin->aeC,evalArgs_plain->aeG,call_len_list->aeP
open PySem.Challenge renaming rw_carriermoney_s01_answers->pM
open PySem.Code renaming isFrame->Qn
open PySem.F renaming plainAttrs_list->ka,type_list_extend->uv,slot_list_extend->uw,plain_min_loop->ux,type_list_append->xu,slot_list_append->xw,entry_min_loop->Pg,slot_dict_get->Pl,slot_dict_getitem->ael,plain_list_iadd->aeo,args_dict_get_3->aep,entry_dict_get->aes
open PySem.Heap renaming lt_size->br,get?_push_of_some->cx,get?_push_size->cG,size_push->fI,SameBut->rq,get?_update_self->Hw,IsList->IE,get?_update_other->aeE,get?_none_of_le->aeO
open PySem.Heap.IsSliceOf renaming new->aek
open PySem.Heap.SameBut renaming update->qY
open PySem.MeetsSeq3 renaming plain_eq_loop->ID
open PySem.NameKind renaming free->xU,cell->PX
open PySem.Obj renaming mapSeq->lM,data_mapFields->HJ,isFreed_of_fields->aeN,cls_mapFields->afk
open PySem.Paired renaming length->lJ
open PySem.PassesOwn renaming never->fX
open PySem.PyData renaming keyHash->xS
open PySem.SeqAt renaming EqAt->Qx
open PySem.SeqAt.EqAt renaming str_int->aew,int_str->aex,int_int->aey
open PySem.Shared renaming heap->Br
open PySem.Str renaming ofString->cU
open PySem.Value renaming ref->cO,int->jM,none->lL,bool->rC,isInt->uR,type->uT,isStrOf->Bm,str->Bv,notImplemented->aeF
open PySem.Value.type renaming inj->aeM
open PySem.W renaming Frag->aC,WData->eC,findIn->lD,nsIn->mQ,fnOf->mR,mg_none_of->mU,keepIn->oE,mg_of->oG,emptyDict->pP,instObj->rj,WellAll->rG,CodeHd->rJ,CodeHd->uL,codeIn->xR,tabIn->xW,isFn->Bn,plainGet->HN,kla_obj->HU,lookIn->Ig,plainGet_of->Pr,callWith_K->Pu,methodObj->Px,hasDictIn->Py,takerIn->PL,makesIn->PM,length_le_weightAllW->aee,cellsFrom_some->aer,methodCall_KW->aev,plainOver->aeK,ktu_apart->aeL,handedIn->aeY,WRecords->aeZ,mapOf_K->ae5,KeysLit->ae6,tab_of->afc,tabObj->afd,envX->afs
open PySem.W.Codec renaming encAll->Bp,denoteAll->PU,app->Qz,app->aen
open PySem.W.WData renaming weightAll->Ie
open PySem.Walks renaming list->Qw
open PyVbahak renaming shape->iw,answers->HL,answers_asked->Pf,whole->PN,calls->ae4
open Sum renaming inl->jN,inr->uW
open Sum.inl renaming inj->Qh
open True renaming intro->p9
open Vbahak renaming Nets->aM,known->bq,sum->bz,step->bE,Ticket->bI,Part->bT,Carrier->d8,billable->eR,converted->gz,netsOf->gC,plan->gQ,claimNew->ir,claimOf->jJ,nats->jL,clears->km,rateOf->lG,effect->lI,chargeOf->mN,payIn->mS,cut->mT,carrierOf->oB,onClaim->oF,netOf->oI,MOSTCLAIMS->pQ,spread->pS,paidBy->pU,split->pZ,gotBy->p0,triples->rm,onPart->rn,isSuspended->uB,ticketOf->uI,pairs->uP,putCarrier->A8,nonzero->Bi,payRow->Bl,start->Bo,Pay->Bu,MOSTCARRIERS->Hy,MOSTTICKETS->HH,setPart->Ik,most->Iz,MOSTCLAIMS->IH,MOSTDEPTH->PJ,MONTHS->P7,Call->Qm,listBefore->aeW,placeIn->afg,settle->afq
open VbahakNeutral renaming step->A4,row->A6,whole->Hv,asked1->Pe,asked->aej
namespace L2
open PySem PySem.Spec PyProof.Rows
abbrev Key:=Sum Int Str
def lN:Key->ab->Bool
 | .inl k,v=>uR k v
 | .inr x,v=>Bm x v
def QC(w:aW):Key->Int
 | .inl k=>hashInt k
 | .inr x=>hashStr w x
theorem kr:∀{k:Key} {v:ab},lN k v=true->(∃i t,k=jN i/\v=jM i t)\/(∃x t,k=uW x/\v=Bv x t)
 | .inl i,v,h=>by
  obtain⟨t,e⟩:=Value.isInt_shape (k:=i) (v:=v) h;exact .inl ⟨i,t,rfl,e⟩
 | .inr x,v,h=>by
  obtain⟨t,e⟩:=Value.isStrOf_shape (x:=x) (v:=v) h;exact .inr ⟨x,t,rfl,e⟩
theorem QD(i:Int)(t:Tok):lN (.inl i) (.int i t)=true:=by simp[lN,uR]
theorem QE(x:Str)(t:Tok):lN (.inr x) (.str x t)=true:=by simp[lN,Bm]
theorem QF(a b:Int):decide ((jN a:Key)=jN b)=(a==b):=by
 by_cases e:a=b
 ·subst e;simp
 ·have h:¬(jN a:Key)=jN b:=fun q=>e (Qh q);rw[decide_eq_false h];exact(beq_eq_false_iff_ne.mpr e).symm
theorem QG(a b:Str):decide ((uW a:Key)=uW b)=decide (a=b):=by
 by_cases e:a=b
 ·subst e;simp
 ·have h:¬(uW a:Key)=uW b:=fun q=>e (Sum.inr.inj q);rw[decide_eq_false h,decide_eq_false e]
theorem QH(a:Int)(b:Str):decide ((jN a:Key)=uW b)=false:=decide_eq_false (fun q=>nomatch q)
theorem QI(a:Str)(b:Int):decide ((uW a:Key)=jN b)=false:=decide_eq_false (fun q=>nomatch q)
def fg(prog:bg)(w:aW):PySem.KeyKind prog w Key where
 is:=lN
 hash:=QC w
 inj:=fun v a b ha hb=>by
  rcases kr ha with⟨i,t,rfl,rfl⟩|⟨x,t,rfl,rfl⟩
  ·rcases kr hb with⟨j,u,rfl,e⟩|⟨y,u,rfl,e⟩
   ·injection e with e1 _;rw[e1]
   ·exact nomatch e
  ·rcases kr hb with⟨j,u,rfl,e⟩|⟨y,u,rfl,e⟩
   ·exact nomatch e
   ·injection e with e1 _;rw[e1]
 byValue:=fun k v h=>by
  rcases kr h with⟨i,t,rfl,rfl⟩|⟨x,t,rfl,rfl⟩<;>rfl
 pyHash:=fun hv h=>by
  rcases kr hv with⟨i,t,rfl,rfl⟩|⟨x,t,rfl,rfl⟩
  ·exact wpAny_pyHash_int h
  ·exact wpAny_pyHash_str h
 eqBool:=fun hu hv h=>by
  rcases kr hu with⟨i,t,rfl,rfl⟩|⟨x,t,rfl,rfl⟩
  ·rcases kr hv with⟨j,u,rfl,rfl⟩|⟨y,u,rfl,rfl⟩
   ·rw[QF] at h;exact wpAny_eqBool_int h
   ·rw[QH] at h;exact aex i t y u _ _ _ _ h
  ·rcases kr hv with⟨j,u,rfl,rfl⟩|⟨y,u,rfl,rfl⟩
   ·rw[QI] at h;exact aew x t j u _ _ _ _ h
   ·rw[QG] at h;exact wpAny_eqBool_str h
 «strs»:=fun k x t v h=>by
  rcases kr h with⟨i,u,rfl,e⟩|⟨y,u,rfl,e⟩
  ·exact nomatch e
  ·injection e with e1 _;subst e1;cases v<;>rfl
theorem QJ(prog:bg)(w:aW)(i:Int)(t:Tok):(fg prog w).is (.inl i) (.int i t)=true:=QD i t
theorem QK(prog:bg)(w:aW)(x:Str)(t:Tok):(fg prog w).is (.inr x) (.str x t)=true:=QE x t
inductive V where
 |bc|bl (b:Bool)|int (i:Int)|str (x:Str)|fZ (b:Array UInt8)|x9 (b:UInt64)|ref (a:aa)|ty (n:String)
 deriving DecidableEq
def RelV:V->ab->Prop
 | .bc,u=>u=lL
 | .bl b,u=>u=rC b
 | .int i,u=>∃t,u=jM i t
 | .str x,u=>∃t,u=Bv x t
 | .fZ b,u=>∃t,u=Value.bytes b t
 | .x9 b,u=>∃t,u=Value.float b t
 | .ref a,u=>u=cO a
 | .ty n,u=>u=uT n
abbrev Vals:List V->List ab->Prop:=uY RelV
theorem Vals.length{xs:List V}{us:List ab}(r:Vals xs us):xs.length=us.length:=lJ r
theorem Vals.get:∀{xs:List V} {us:List ab} {i:Nat} {x:V},Vals xs us->xs[i]? =some x->∃u,us[i]? =some u/\RelV x u
 |_,_,_,_,.nil,e=>by simp at e
 |_,_,0,_,.cons r _,e=>by simp at e;subst e;exact⟨_,rfl,r⟩
 |_,_,i+1,x,.cons _ t,e=>by
  obtain⟨u,h1,h2⟩:=Vals.get (i:=i) (x:=x) t (by simpa using e);exact⟨u,by simpa using h1,h2⟩
theorem Vals.set{x:V}{u:ab}(r:RelV x u):∀{xs:List V} {us:List ab} (i:Nat),Vals xs us->Vals (xs.set i x) (us.set i u)
 |_,_,_,.nil=> .nil
 |_,_,0,.cons _ t=> .cons r t
 |_,_,i+1,.cons q t=> .cons q (Vals.set r i t)
theorem Vals.append:∀{xs ys:List V} {us ws:List ab},Vals xs us->Vals ys ws->Vals (xs++ys) (us++ws)
 |_,_,_,_,.nil,s=>s
 |_,_,_,_,.cons r t,s=> .cons r (Vals.append t s)
theorem Vals.take:∀{xs:List V} {us:List ab} (n:Nat),Vals xs us->Vals (xs.take n) (us.take n)
 |_,_,0,_=> .nil
 |_,_,_+1,.nil=> .nil
 |_,_,n+1,.cons r t=> .cons r (Vals.take n t)
theorem Vals.drop:∀{xs:List V} {us:List ab} (n:Nat),Vals xs us->Vals (xs.drop n) (us.drop n)
 |_,_,0,r=>r
 |_,_,_+1,.nil=> .nil
 |_,_,n+1,.cons _ t=>Vals.drop n t
theorem Vals.none_of:∀{xs:List V} {us:List ab} {i:Nat},Vals xs us->xs[i]? =none->us[i]? =none:=fun {xs us i} r e=>by
 have h1:=r.length;have h2:xs.length<=i:=Pd.mp e;exact Pd.mpr (by omega)
def eT:Option V->Option ab->Prop
 |some v,some u=>RelV v u
 |none,none=>True
 |_,_=>False
def KV{κ:Type}:List (κ×V)->List (κ×ab)->Prop:=uY fun(p:κ×V) (q:κ×ab)=>p.1=q.1/\RelV p.2 q.2
def kV:Key->V
 | .inl i=> .int i
 | .inr x=> .str x
inductive HO where
 |lst (xs:List V)
 |tup (xs:List V)
 |dK (kvs:List (Key×V))|dT (kvs:List (List Key×V))
 |set (S:Int->Bool) (n:Nat)
 |ins (C dx:aa) (fs:List (Str×V))
 |own (x:aa)
 |xd (fs:List (Str×V))
 |met (f x:aa)
 |oM (lo hi:Int)
 |bF (o:Obj) (u:HO)
 |eD (ps:Array ab)
 |ext (φ:aB->Prop)
abbrev Hp:=aa->Option HO
def upd(H:Hp)(a:aa)(o:HO):Hp:=fun b=>if b=a then some o else H b
theorem au{H:Hp}{a:aa}{o:HO}:upd H a o a=some o:=by unfold upd;rw[if_pos rfl]
theorem ag{H:Hp}{a b:aa}{o:HO}(h:b≠a):upd H a o b=H b:=by unfold upd;rw[if_neg h]
theorem yb{H:Hp}{a:aa}{o u:HO}:upd (upd H a o) a u=upd H a u:=by
 funext b;unfold upd;split<;>rfl
theorem cv{H:Hp}{a b:aa}{o u:HO}(h:H a=some o)(h':H b=some u)(d:o≠u):a≠b:=by
 intro e;subst e;rw[h] at h';exact d (fe h')
theorem aV{H:Hp}{a b:aa}{o:HO}(h:H a=some o)(h':H b=none):a≠b:=by
 intro e;subst e;rw[h] at h';cases h'
section
variable(P:bg)(w:aW)
def de(H:Hp)(h:aB)(a:aa):HO->Prop
 | .lst xs=>xs.length<=sizeLine/\∃(aj:List ab) (n:Nat),Vals xs aj/\h.get? a=some {cls:= .type "list",data:= .seq aj.toArray n}
 | .tup xs=>xs.length<=sizeLine/\∃aj:List ab,Vals xs aj/\oK h a aj.toArray
 | .dK kvs=>kvs.length<=sizeLine/\(a==sysModules)=false/\∃vs,KV kvs vs/\h.DictOf (fg P w) a vs
 | .dT kvs=>kvs.length<=sizeLine/\(a==sysModules)=false/\∃xs:List (List Key×aa×ab),
   uY (fun(p:List Key×V) (q:List Key×aa×ab)=>p.1=q.1/\H q.2.1=some (.tup (p.1.map kV))/\RelV p.2 q.2.2) kvs xs/\
   ∃o es ep,h.get? a=some o/\o.ExactDict/\o.data= .dict es ep/\es.toList=xs.map (entryOfKey (tupleKind (fg P w)))/\(xs.map (·.1)).Nodup
 | .set S n=>h.SetOf (intKind P w) a S n
 | .ins C dx fs=>H dx=some (.own a)/\fs.length<=1000/\dx≠a/\h.get? a=some (rj C dx)/\
   ∃mA,h.Ns1 dx mA/\(∀f,eT (fs.lookup f) (mA f))/\Qj mA (fs.map (·.1))
 | .own _=>∃o,h.get? a=some o
 | .xd fs=>∃mA,h.Ns1 a mA/\∀f,eT (fs.lookup f) (mA f)
 | .oM lo hi=>∃t u v,h.get? a=some {cls:= .type "range",data:= .fields #[.int lo t,.int hi u,.int 1 v]}
 | .bF o u=>h.get? a=some o/\de H h a u
 | .eD ps=>h.get? a=some {cls:= .none,data:= .fields ps}
 | .met f x=>h.get? a=some (Px (.ref f) (.ref x))
 | .ext φ=>φ h/\(∃o,h.get? a=some o)/\∀h1 h2:aB,φ h1->(∀o,h1.get? a=some o->h2.get? a=some o)->φ h2
def cS(H:Hp)(h:aB):Prop:=∀a o,H a=some o->de P w H h a o
end
section
variable{P:bg}{w:aW}{H H':Hp}{h h':aB}{a:aa}{o:HO}
theorem de.lt(x:de P w H h a o):a<h.objs.size:=by
 cases o with
 |lst xs=>obtain⟨_,_,_,_,e⟩:=x;exact br e
 |tup xs=>obtain⟨_,_,_,p⟩:=x;exact p.lt
 |dK kvs=>obtain⟨_,_,_,_,o,_,_,e,_⟩:=x;exact br e
 |dT kvs=>obtain⟨_,_,_,_,o,_,_,e,_⟩:=x;exact br e
 |set S n=>obtain⟨o,_,_,_,e,_⟩:=x;exact br e
 |ins C dx fs=>obtain⟨_,_,_,e,_⟩:=x;exact br e
 |own y=>obtain⟨_,e⟩:=x;exact br e
 |xd fs=>obtain⟨_,⟨_,_,_,e,_⟩,_⟩:=x;exact br e
 |oM lo hi=>obtain⟨_,_,_,e⟩:=x;exact br e
 |bF ob u=>obtain⟨e,_⟩:=x;exact br e
 |eD ps=>exact br (show h.get? a=some _ from x)
 |met f y=>exact br (show h.get? a=some _ from x)
 |ext φ=>obtain⟨_,⟨_,e⟩,_⟩:=x;exact br e
theorem Paired.BA{α β:Type}{F G:α->β->Prop}:∀{l₁:List α} {l₂:List β},uY F l₁ l₂->(∀a b,F a b->G a b)->uY G l₁ l₂
 |_,_,.nil,_=> .nil
 |_,_,.cons r t,f=> .cons (f _ _ r) (Paired.BA t f)
theorem de.ji(x:de P w H h a o)(k:∀b u,(b=a\/H b=some (.own a))->h.get? b=some u->h'.get? b=some u)
  (ho:∀b,H b=some (.own a)->H' b=some (.own a)) (ht:∀b xs,H b=some (.tup xs)->H' b=some (.tup xs)):de P w H' h' a o:=by
 induction o with
 |lst xs=>obtain⟨z,aj,n,r,e⟩:=x;exact⟨z,aj,n,r,k _ _ (.inl rfl) e⟩
 |tup xs=>obtain⟨z,aj,r,ob,e,c⟩:=x;exact⟨z,aj,r,ob,k _ _ (.inl rfl) e,c⟩
 |dK kvs=>obtain⟨z,y,vs,r,ob,es,ep,e,c⟩:=x;exact⟨z,y,vs,r,ob,es,ep,k _ _ (.inl rfl) e,c⟩
 |dT kvs=>
  obtain⟨z,y,xs,r,ob,es,ep,e,c⟩:=x
  exact⟨z,y,xs,Paired.BA r fun p q z=>⟨z.1,ht _ _ z.2.1,z.2.2⟩,ob,es,ep,k _ _ (.inl rfl) e,c⟩
 |set S n=>obtain⟨ob,es,ep,t,e,c⟩:=x;exact⟨ob,es,ep,t,k _ _ (.inl rfl) e,c⟩
 |ins C dx fs=>
  obtain⟨d,z,ne,e,mA,⟨od,es,ep,e2,c⟩,r⟩:=x
  exact⟨ho _ d,z,ne,k _ _ (.inl rfl) e,mA,⟨od,es,ep,k _ _ (.inr d) e2,c⟩,r⟩
 |own y=>obtain⟨ob,e⟩:=x;exact⟨ob,k _ _ (.inl rfl) e⟩
 |xd fs=>obtain⟨mA,⟨od,es,ep,e,c⟩,r⟩:=x;exact⟨mA,⟨od,es,ep,k _ _ (.inl rfl) e,c⟩,r⟩
 |oM lo hi=>obtain⟨t,u,v,e⟩:=x;exact⟨t,u,v,k _ _ (.inl rfl) e⟩
 |bF ob u ih=>obtain⟨e,q⟩:=x;exact⟨k _ _ (.inl rfl) e,ih q⟩
 |eD ps=>
  have e:h.get? a=some {cls:= .none,data:= .fields ps}:=x
  show h'.get? a=some {cls:= .none,data:= .fields ps}
  exact k a _ (.inl rfl) e
 |met f y=>
  have e:h.get? a=some (Px (.ref f) (.ref y)):=x
  show h'.get? a=some (Px (.ref f) (.ref y))
  exact k a _ (.inl rfl) e
 |ext φ=>obtain⟨p,⟨o,e⟩,st⟩:=x;exact⟨st _ _ p fun o q=>k _ _ (.inl rfl) q,⟨o,k _ _ (.inl rfl) e⟩,st⟩
theorem cS.lt(x:cS P w H h)(e:H a=some o):a<h.objs.size:=(x a o e).lt
theorem cS.fresh(x:cS P w H h)(e:h.objs.size<=a):H a=none:=by
 cases q:H a with
 |none=>rfl
 |some u=>exact absurd (d6 (x.lt q) e) (mP _)
theorem cS.kept(x:cS P w H h)(k:∀b u,h.get? b=some u->h'.get? b=some u):cS P w H h':=fun a o e=>
 (x a o e).ji (fun b u _ q=>k b u q) (fun _ q=>q) fun _ _ q=>q
theorem cS.laid(x:cS P w H h)(k:∀b u,h.get? b=some u->h'.get? b=some u)(hp:h.objs.size<=a)(new:de P w (upd H a o) h' a o):cS P w (upd H a o) h':=fun b u e=>by
 have hn:=x.fresh hp;by_cases hb:b=a
 ·subst hb;rw[au] at e;cases e;exact new
 ·rw[ag hb] at e;exact(x b u e).ji (fun c v _ q=>k c v q) (fun c q=>by rw[ag (aV q hn)];exact q) fun c xs q=>by rw[ag (aV q hn)];exact q
end
def Rd(H:Hp)(a:aa)(u:HO):Prop:=H a=some u\/∃o,H a=some (.bF o u)
theorem Rd.ok{P:bg}{w:aW}{H:Hp}{h:aB}{a:aa}{u:HO}(r:Rd H a u)(x:cS P w H h):de P w H h a u:=by
 rcases r with r|⟨o,r⟩
 ·exact x a u r
 ·obtain⟨_,q⟩:=x a _ r;exact q
def mV:Option HO->Prop
 |some (.lst _)=>True
 |some (.dK _)=>True
 |some (.dT _)=>True
 |some (.set _ _)=>True
 |some (.ins _ _ _)=>True
 |some (.ext _)=>True
 |_=>False
section
variable{P:bg}{w:aW}{H:Hp}{h h':aB}{x e:aa}{o':HO}
theorem cS.write(ok:cS P w H h)(mu:mV (H x))(he:e=x\/H e=some (.own x))(k:∀b u,b≠e->h.get? b=some u->h'.get? b=some u)(rM:∃u,h'.get? e=some u)
  (new:de P w (upd H x o') h' x o'):cS P w (upd H x o') h':=fun b u q=>by
 have nown:∀c y,H c=some (.own y)->c≠x:=fun c y r z=>by subst z;rw[r] at mu;exact mu
 have ntup:∀c xs,H c=some (.tup xs)->c≠x:=fun c xs r z=>by subst z;rw[r] at mu;exact mu
 by_cases hb:b=x
 ·subst hb;rw[au] at q;cases q;exact new
 ·rw[ag hb] at q;by_cases jj:b=e
  ·have q':H b=some (.own x):=by
    rcases he with z|z
    ·exact absurd (jj.trans z) hb
    ·rw[jj];exact z
   rw[q] at q';cases q';obtain⟨v,hv⟩:=rM;exact⟨v,by rw[jj];exact hv⟩
  ·refine(ok b u q).ji (fun c v hc r=>k c v ?_ r) (fun c r=>by rw[ag (nown c b r)];exact r) fun c xs r=>by rw[ag (ntup c xs r)];exact r
   rcases hc with rfl|hc
   ·exact jj
   ·rintro rfl;rcases he with z|z
    ·exact nown c b hc z
    ·rw[hc] at z;cases z;exact hb rfl
end
structure Un(fs ex:List aa)(H H':Hp)(h h':aB):Prop where
 keep:∀b o,h.get? b=some o->H b=none->b∉fs->b∉ex->h'.get? b=some o
 slot:∀b o,h.get? b=some o->H b=none->b∈fs->b∉ex->∃sl,h'.get? b=some {o with slots:=sl}
 free:∀b o,h.get? b=some o->H b=none->b∉ex->H' b=none
 there:∀b o,h.get? b=some o->b∉ex->∃o',h'.get? b=some o'
 mW:∀b xs,H b=some (.tup xs)->H' b=some (.tup xs)
 ku:∀b o u,H b=some (.bF o u)->H' b=some (.bF o u)
 lO:∀b ps,H b=some (.eD ps)->∃more,H' b=some (.eD (ps++more))
section
variable{fs fs' ex ex':List aa}{H H1 H2:Hp}{h h1 h2 h':aB}{a x e:aa}{o:HO}
theorem Un.any(u:Un fs ex H H1 h h1){b:aa}{ob:Obj}(q:h.get? b=some ob)(n:H b=none)(hx:b∉ex):∃sl,h1.get? b=some {ob with slots:=sl}:=by
 by_cases hb:b∈fs
 ·exact u.slot b ob q n hb hx
 ·exact⟨ob.slots,u.keep b ob q n hb hx⟩
theorem Un.kept(k:∀b u,h.get? b=some u->h'.get? b=some u):Un fs ex H H h h':=
 ⟨fun b ob q _ _ _=>k b ob q,fun b ob q _ _ _=>⟨ob.slots,k b ob q⟩,fun _ _ _ n _=>n,fun b ob q _=>⟨ob,k b ob q⟩,fun _ _ q=>q,fun _ _ _ q=>q,fun _ ps q=>⟨#[],by rw[q];simp⟩⟩
theorem Un.refl:Un fs ex H H h h:=Un.kept fun _ _ q=>q
theorem Un.laid(k:∀b u,h.get? b=some u->h'.get? b=some u)(hp:h.objs.size<=a)(hn:H a=none):Un fs ex H (upd H a o) h h' where
 keep:=fun b u q _ _ _=>k b u q
 slot:=fun b u q _ _ _=>⟨u.slots,k b u q⟩
 free:=fun b u q n _=>by rw[ag (cW (d6 (br q) hp))];exact n
 there:=fun b u q _=>⟨u,k b u q⟩
 mW:=fun b xs q=>by rw[ag (aV q hn)];exact q
 ku:=fun b u xs q=>by rw[ag (aV q hn)];exact q
 lO:=fun b ps q=>⟨#[],by rw[ag (aV q hn),q];simp⟩
theorem Un.write(mu:mV (H x))(he:e=x\/H e=some (.own x))(k:∀b u,b≠e->h.get? b=some u->h'.get? b=some u)(rM:∃u,h'.get? e=some u):Un fs ex H (upd H x o) h h':=by
 have hx:∀b,H b=none->b≠x:=fun b n z=>by subst z;rw[n] at mu;exact mu
 have hb:∀b,H b=none->b≠e:=fun b n z=>by
  subst z;rcases he with r|r
  ·exact hx b n r
  ·rw[n] at r;cases r
 have hm:∀b u,H b=some u->¬mV (some u)->b≠x:=fun b u q nm z=>by subst z;rw[q] at mu;exact nm mu
 refine⟨fun b u q n _ _=>k b u (hb b n) q,fun b u q n _ _=>⟨u.slots,k b u (hb b n) q⟩,fun b u q n _=>by rw[ag (hx b n)];exact n,fun b u q _=> ?_,
  fun b xs q=>by rw[ag (hm b _ q fun z=>z)];exact q,fun b u xs q=>by rw[ag (hm b _ q fun z=>z)];exact q,fun b ps q=>⟨#[],by rw[ag (hm b _ q fun z=>z),q];simp⟩⟩
 by_cases jj:b=e
 ·subst jj;exact rM
 ·exact⟨u,k b u jj q⟩
end
def yc(h:aB)(H:Hp):List aa:=(cN h.objs.size).filter fun a=>(H a).isSome
def kx(h:aB)(H:Hp):aB:=PySem.W.hideAll h (yc h H)
theorem QL(h:aB)(H:Hp):(kx h H).objs.size=h.objs.size:=PySem.W.hideAll_size _ _
theorem QM{h:aB}{H:Hp}{b:aa}{o:Obj}(e:h.get? b=some o)(n:H b=none):(kx h H).get? b=some o:=
 PySem.W.hideAll_get _ e fun hm=>by
  have q:(H b).isSome=true:=(c9.mp hm).2;rw[n] at q;simp at q
theorem QN{h:aB}{H:Hp}{b:aa}{o:Obj}(e:(kx h H).get? b=some o):h.get? b=some o/\H b=none:=by
 have e':h.get? b=some o:=PySem.W.of_hideAll (yc h H) e;refine⟨e',?_⟩;cases q:H b with
 |none=>rfl
 |some x=>
  have hm:b∈yc h H:=c9.mpr ⟨kj.mpr (br e'),by simp[q]⟩
  have z:(kx h H).get? b=none:=PySem.W.hideAll_none (yc h H) hm
  rw[z] at e;cases e
def uZ(g h:aB)(L:aa):List (aa×Obj):=(cN h.objs.size).filterMap fun a=>if a=L\/(g.get? a).isSome=true then none else(h.get? a).map fun o=>(a,o)
theorem QO{g h:aB}{L a:aa}{o:Obj}(h1:a≠L)(h2:g.get? a=none)(h3:h.get? a=some o):(a,o)∈uZ g h L:=
 HI.mpr ⟨a,kj.mpr (br h3),by simp[h1,h2,h3]⟩
theorem QP{g h:aB}{L:aa}{p:aa×Obj}(hp:p∈uZ g h L):p.1≠L/\g.get? p.1=none/\h.get? p.1=some p.2:=by
 obtain⟨b,_,e⟩:=HI.mp hp;split at e
 ·cases e
 ·rename_i hn;cases q:h.get? b with
  |none=>rw[q] at e;simp at e
  |some u=>
   rw[q] at e
   simp only[iu,uC] at e
   subst e
   refine⟨fun z=>hn (.inl z),?_,q⟩
   show g.get? b=none
   cases r:g.get? b with
   |none=>rfl
   |some v=>exact(hn (.inr (by simp[r]))).elim
def rest(g h:aB)(L d:aa):List (aa×Obj):=(uZ g h L).filter fun p=>decide (p.1≠d)
theorem QQ{g h:aB}{L:aa}:News g L h (uZ g h L):=fun p hp=>let ⟨a,b,c⟩:=QP hp;⟨c,a,b⟩
structure Mod(K:aC)(mg:Str->Option ab)(base:aB):Prop where
 u0:K.In base
 glob:base.Ns mainGlobals mg
 blt:∃mb,base.Ns builtinsNs mb/\∀x:Str,x≠"__name__"->mb x=bootBuiltins x
 nolimit:base.NoLimit
structure Cx where
 prog:bg
 w:aW
 K:aC
 mg:Str->Option ab
 base:aB
 A:bY
 N:List Str
 fJ:ak
 qd:Hp
 env:Env
 outer:List Env
 stack:List Env
 ex:List aa
 fn:Str->Bool
 calm:Bool
 pn:List (aa×Obj)
 xe:ab->ak->Prop
def kC(l:List Env):List aa:=l.filterMap (·.frame)
abbrev Cx.fs(X:Cx):List aa:=kC X.outer
def rO(sc:dY)(x:Str):Prop:=sc.names.lookup x=some .local\/sc.names.lookup x=some .cell\/sc.names.lookup x=some .free
def Loc(sc:dY)(x:Str):Prop:=sc.names.lookup x=some .local\/sc.names.lookup x=some .cell
def Look(env:Env)(h:aB)(m:Str->Option ab)(x:Str)(u:ab):Prop:=
 (env.kindOf x=some .local/\m x=some u)\/((env.kindOf x=some .cell\/env.kindOf x=some .free)/\∃c,env.cells.lookup x=some c/\h.IsCell c (some u))
structure Cx.Ok(X:Cx):Prop where
 mod:Mod X.K X.mg X.base
 kind:X.env.scope.kind= .function
 glob:X.env.globals=mainGlobals
 blt:X.env.builtins=builtinsNs
 above:X.fJ.heap.objs.size<=X.env.locals
 inj:∀x y c,X.env.cells.lookup x=some c->X.env.cells.lookup y=some c->x=y
 has:∀x,(X.env.kindOf x=some .cell\/X.env.kindOf x=some .free)->∃c,X.env.cells.lookup x=some c
 u4:∀x c,X.fn x=true->X.env.cells.lookup x=some c->X.fJ.heap.objs.size<=c
 hd:X.calm=true->X.A.handled=none
 frames:X.A.frames=some X.stack
 yd:X.stack=X.outer\/(X.stack=X.env::X.outer/\X.env.frame=some X.env.locals)
 ye:∀b∈X.ex,b≠X.env.locals/\∀x c,X.env.cells.lookup x=some c->c≠b
 bs:∀b o,X.base.get? b=some o->X.fJ.heap.get? b=some o/\X.qd b=none
 lP:X.base.objs.size<=X.fJ.heap.objs.size
 u5:∀b o,X.base.get? b=some o->b∉X.ex
 u6:∀b∈X.ex,b∉X.fs
 jO:X.fJ.heap.FunFrames X.base X.outer
 qe:∀b∈X.fs,X.qd b=none
structure Inv(X:Cx)(pins:List (aa×Obj))(σ:List (Option V))(H:Hp)(s:ak):Prop where
 ok:X.Ok
 os:s.os=X.fJ.os
 bare:uX s.gens
 base:Un X.fs X.ex X.qd H X.fJ.heap s.heap
 loc:∃m,s.heap.Ns X.env.locals m/\∀(i:Nat) (x:Str) (v:V),X.N[i]? =some x->σ[i]? =some (some v)->rO X.env.scope x->∃u,RelV v u/\Look X.env s.heap m x u
 cell:∀x c,X.env.cells.lookup x=some c->∃v,s.heap.IsCell c v
 free:H X.env.locals=none
 jk:∀x c,X.env.cells.lookup x=some c->H c=none
 pin:∀p∈X.pn++pins,s.heap.get? p.1=some p.2/\H p.1=none/\p.1≠X.env.locals/\p.1∉X.fs/\∀v,p.2.data≠.cell v
 az:cS X.prog X.w H s.heap
 len:σ.length=X.N.length
section
variable{X:Cx}{pins:List (aa×Obj)}{σ:List (Option V)}{H H':Hp}{s:ak}{h':aB}
theorem Cx.Ok.QR(ok:X.Ok){b:aa}{o:Obj}(e:X.base.get? b=some o):b∉X.fs:=fun hb=>by
 have:=(ok.jO.mem hb).1;rw[e] at this;cases this
theorem Inv.bs(I:Inv X pins σ H s):∀b o,X.base.get? b=some o->s.heap.get? b=some o/\H b=none:=fun b o e=>
 ⟨I.base.keep b o (I.ok.bs b o e).1 (I.ok.bs b o e).2 (I.ok.QR e) (I.ok.u5 b o e),I.base.free b o (I.ok.bs b o e).1 (I.ok.bs b o e).2 (I.ok.u5 b o e)⟩
theorem Inv.bk(I:Inv X pins σ H s):∀b o,X.base.get? b=some o->s.heap.get? b=some o:=fun b o e=>(I.bs b o e).1
theorem Inv.mod(I:Inv X pins σ H s):Mod X.K X.mg X.base:=I.ok.mod
theorem Inv.gd(I:Inv X pins σ H s):X.K.In s.heap:=I.ok.mod.u0.keeps I.bk
theorem Inv.fr(I:Inv X pins σ H s):∃m,Fr X.base X.env.locals s.heap m:=
 let ⟨m,hn,_⟩:=I.loc
 ⟨m,hn,I.bk,dr I.ok.lP I.ok.above⟩
theorem Inv.lt(I:Inv X pins σ H s):X.env.locals<s.heap.objs.size:=let ⟨_,hn,_⟩:=I.loc;hn.lt
theorem Inv.sz(I:Inv X pins σ H s):X.fJ.heap.objs.size<=s.heap.objs.size:=dr I.ok.above (fO I.lt)
theorem Inv.QS(I:Inv X pins σ H s){a:aa}(h:s.heap.objs.size<=a):a∉X.fs:=fun hb=>by
 obtain⟨_,o,ho,_⟩:=I.ok.jO.mem hb;exact absurd (d6 (br ho) (dr I.sz h)) (mP _)
theorem Inv.lQ(I:Inv X pins σ H s):∀x c,X.env.cells.lookup x=some c->c≠X.env.locals:=fun x c e z=>by
 obtain⟨v,o,ho,hd⟩:=I.cell x c e;obtain⟨m,⟨o',es,ep,ho',hd',_⟩,_⟩:=I.loc;rw[z,ho'] at ho;cases ho;rw[hd'] at hd;cases hd
theorem Inv.jO(I:Inv X pins σ H s):s.heap.FunFrames X.base X.outer:=by
 have all:∀(l:List Env),(∀b∈kC l,b∈X.fs)->X.fJ.heap.FunFrames X.base l->s.heap.FunFrames X.base l:=by
  intro l
  induction l with
  |nil=>intro _ _;trivial
  |cons env r ih=>
   intro hs hl
   obtain⟨hk,⟨L,o,hf,hn,ho,hd⟩,hr⟩:=hl
   have hL:L∈X.fs:=hs L (by unfold kC;rw[jf,hf];exact bS)
   obtain⟨sl,e⟩:=I.base.slot L o ho (I.ok.qe L hL) hL fun z=>I.ok.u6 L z hL
   exact⟨hk,⟨L,_,hf,hn,e,hd⟩,ih (fun b hb=>hs b (by unfold kC;rw[jf,hf];exact bR _ hb)) hr⟩
 exact all X.outer (fun _ hb=>hb) I.ok.jO
theorem Inv.stack(I:Inv X pins σ H s):s.heap.FunFrames X.base X.stack:=by
 rcases I.ok.yd with e|⟨e,hf⟩
 ·rw[e];exact I.jO
 ·rw[e];obtain⟨m,hn,_⟩:=I.loc;refine .cons (by rw[I.ok.kind];decide) hf hn ?_ I.jO;exact aeO (dr I.ok.lP I.ok.above)
theorem Inv.BB(I:Inv X pins σ H s):∀b∈kC X.stack,b∈X.env.locals::X.fs:=fun b hb=>by
 rcases I.ok.yd with e|⟨e,hf⟩
 ·rw[e] at hb;exact bR _ hb
 ·rw[e] at hb;unfold kC at hb;rw[jf,hf] at hb;exact hb
theorem Inv.II(I:Inv X pins σ H s):∀b∈kC X.stack,H b=none:=fun b hb=>by
 rcases b0.mp (I.BB b hb) with e|hb
 ·rw[e];exact I.free
 ·obtain⟨_,o,ho,_⟩:=I.ok.jO.mem hb;exact I.base.free b o ho (I.ok.qe b hb) fun z=>I.ok.u6 b z hb
theorem Inv.step{g':Array GenState}{t':Nat}{d':Drawn}{ch:List aa}(I:Inv X pins σ H s)
  (lS:∀b∈ch,(b∈X.ex\/X.fJ.heap.objs.size<=b)/\b≠X.env.locals/\(∀x c,X.env.cells.lookup x=some c->c≠b)/\∀p∈X.pn++pins,p.1≠b)
  (keep:∀b o,b≠X.env.locals->b∉X.fs->b∉ch->s.heap.get? b=some o->H b=none->h'.get? b=some o)
  (slot:∀b o,b≠X.env.locals->b∈X.fs->b∉ch->s.heap.get? b=some o->H b=none->∃sl,h'.get? b=some {o with slots:=sl}) (free:∀b o,b∉ch->s.heap.get? b=some o->H b=none->H' b=none)
  (there:∀b o,b∉ch->s.heap.get? b=some o->∃o',h'.get? b=some o')
  (mW:∀b xs,H b=some (.tup xs)->H' b=some (.tup xs)) (ku:∀b o u,H b=some (.bF o u)->H' b=some (.bF o u)) (lO:∀b ps,H b=some (.eD ps)->∃more,H' b=some (.eD (ps++more)))
  (ns:∀m,s.heap.Ns X.env.locals m->h'.Ns X.env.locals m) (az:cS X.prog X.w H' h') (hg:uX g'):
  Inv X pins σ H' {s with heap:=h',gens:=g',drawn:=d',toks:=t'}:=by
 have neL:∀b o,X.fJ.heap.get? b=some o->b≠X.env.locals:=fun b o e=>cW (d6 (br e) I.ok.above);have neC:∀b o,X.fJ.heap.get? b=some o->b∉X.ex->b∉ch:=fun b o e hx hb=>by
  rcases(lS b hb).1 with z|z
  ·exact hx z
  ·exact absurd (d6 (br e) z) (mP _)
 have cellK:∀x c,X.env.cells.lookup x=some c->∀v,s.heap.IsCell c v->h'.IsCell c v:=fun x c e v ⟨o,ho,hd⟩=>by
  have nch:c∉ch:=fun z=>(lS c z).2.2.1 x c e rfl;by_cases hc:c∈X.fs
  ·obtain⟨sl,q⟩:=slot c o (I.lQ x c e) hc nch ho (I.jk x c e);exact⟨_,q,hd⟩
  ·exact⟨o,keep c o (I.lQ x c e) hc nch ho (I.jk x c e),hd⟩
 refine⟨I.ok,I.os,hg,⟨fun b o e n hb hx=> ?_,fun b o e n hb hx=> ?_,fun b o e n hx=> ?_,fun b o e hx=> ?_,fun b xs e=>mW b xs (I.base.mW b xs e),fun b o xs e=>ku b o xs (I.base.ku b o xs e),fun b ps e=> ?_⟩,?_,fun x c e=> ?_,?_,fun x c e=> ?_,fun p hp=> ?_,az,I.len⟩
 ·exact keep b o (neL b o e) hb (neC b o e hx) (I.base.keep b o e n hb hx) (I.base.free b o e n hx)
 ·obtain⟨sl,e1⟩:=I.base.slot b o e n hb hx;obtain⟨sl',e2⟩:=slot b _ (neL b o e) hb (neC b o e hx) e1 (I.base.free b o e n hx);exact⟨sl',e2⟩
 ·obtain⟨o',e1⟩:=I.base.there b o e hx;exact free b o' (neC b o e hx) e1 (I.base.free b o e n hx)
 ·obtain⟨o',e1⟩:=I.base.there b o e hx;exact there b o' (neC b o e hx) e1
 ·obtain⟨m1,e1⟩:=I.base.lO b ps e;obtain⟨m2,e2⟩:=lO b _ e1;exact⟨m1++m2,by rw[e2,Array.append_assoc]⟩
 ·obtain⟨m,hn,hl⟩:=I.loc;refine⟨m,ns m hn,fun i x v e1 e2 e3=> ?_⟩;obtain⟨u,r,l⟩:=hl i x v e1 e2 e3;refine⟨u,r,?_⟩;rcases l with l|⟨k,c,e,z⟩
  ·exact .inl l
  ·exact .inr ⟨k,c,e,cellK x c e _ z⟩
 ·obtain⟨v,z⟩:=I.cell x c e;exact⟨v,cellK x c e v z⟩
 ·obtain⟨m,⟨o,_,_,ho,_⟩,_⟩:=I.loc;exact free _ o (fun z=>(lS _ z).2.1 rfl) ho I.free
 ·obtain⟨v,o,ho,hd⟩:=I.cell x c e;exact free c o (fun z=>(lS c z).2.2.1 x c e rfl) ho (I.jk x c e)
 ·obtain⟨e,n,ne,nf,d⟩:=I.pin p hp;have nch:p.1∉ch:=fun z=>(lS p.1 z).2.2.2 p hp rfl;exact⟨keep p.1 p.2 ne nf nch e n,free p.1 p.2 nch e n,ne,nf,d⟩
theorem Inv.un{t':Nat}(I:Inv X pins σ H s)(u:Un X.fs [] H H' s.heap h')(az:cS X.prog X.w H' h'):Inv X pins σ H' {s with heap:=h',toks:=t'}:=by
 obtain⟨m,⟨o,es,ep,ho,r⟩,_⟩:=id I.loc;obtain⟨sl,hL⟩:=u.any ho I.free (by simp);exact I.step (g':=s.gens) (d':=s.drawn) (ch:=[]) (fun _ z=>nomatch z) (fun b o _ hb _ e n=>u.keep b o e n hb (by simp)) (fun b o _ hb _ e n=>u.slot b o e n hb (by simp)) (fun b o _ e n=>u.free b o e n (by simp)) (fun b o _ e=>u.there b o e (by simp)) u.mW u.ku u.lO (fun m' hm=>by
  obtain⟨o',es',ep',ho',r'⟩:=hm;rw[ho] at ho';cases ho';exact⟨_,es',ep',hL,r'⟩) az I.bare
theorem Inv.call{g':Array GenState}{t':Nat}{d':Drawn}{ch:List aa}(I:Inv X pins σ H s)(u:Un (kC X.stack) ch H H' s.heap h')(az:cS X.prog X.w H' h')(hg:uX g')
  (lS:∀b∈ch,(b∈X.ex\/X.fJ.heap.objs.size<=b)/\b≠X.env.locals/\(∀x c,X.env.cells.lookup x=some c->c≠b)/\∀p∈X.pn++pins,p.1≠b):
  Inv X pins σ H' {s with heap:=h',gens:=g',drawn:=d',toks:=t'}:=by
 obtain⟨m,⟨o,es,ep,ho,r⟩,_⟩:=id I.loc;obtain⟨sl,hL⟩:=u.any ho I.free fun z=>(lS _ z).2.1 rfl;exact I.step (ch:=ch) lS (fun b o hL hb hc e n=>u.keep b o e n (fun z=>(b0.mp (I.BB b z)).elim hL hb) hc) (fun b o _ _ hc e n=>u.any e n hc) (fun b o hc e n=>u.free b o e n hc) (fun b o hc e=>u.there b o e hc) u.mW u.ku u.lO (fun m' hm=>by
  obtain⟨o',es',ep',ho',r'⟩:=hm;rw[ho] at ho';cases ho';exact⟨_,es',ep',hL,r'⟩) az hg
theorem Inv.turned{t':Nat}{it:aa}(I:Inv X pins σ H s)(k:∀b o,b≠it->s.heap.get? b=some o->h'.get? b=some o)(hn:H it=none)(hL:it≠X.env.locals)
  (h1:it∈X.ex\/X.fJ.heap.objs.size<=it) (h2:∀x c,X.env.cells.lookup x=some c->c≠it) (h3:∀p∈X.pn++pins,p.1≠it):Inv X pins σ H {s with heap:=h',toks:=t'}:=by
 have nit:∀b u,H b=some u->b≠it:=fun b u e z=>by rw[z,hn] at e;cases e
 refine I.step (g':=s.gens) (d':=s.drawn) (ch:=[it]) (fun b hb=> ?_) (fun b o _ _ hc e _=>k b o (fun z=>hc (by simp[z])) e) (fun b o _ _ hc e _=>⟨o.slots,k b o (fun z=>hc (by simp[z])) e⟩) (fun _ _ _ _ n=>n)
  (fun b o hc e=>⟨o,k b o (fun z=>hc (by simp[z])) e⟩) (fun _ _ e=>e) (fun _ _ _ e=>e) (fun b ps e=>⟨#[],by rw[e];simp⟩) (fun m hm=> ?_) (fun b u e=> ?_) I.bare
 ·have e:b=it:=by simpa using hb
  subst e;exact⟨h1,hL,h2,h3⟩
 ·obtain⟨o,es,ep,ho,r⟩:=hm;exact⟨o,es,ep,k _ o (d7 hL) ho,r⟩
 ·refine(I.az b u e).ji (fun c v hc q=>k c v ?_ q) (fun _ q=>q) fun _ _ q=>q;rcases hc with z|z
  ·rw[z];exact nit b u e
  ·exact nit c _ z
theorem Inv.tok(I:Inv X pins σ H s)(t:Nat):Inv X pins σ H {s with toks:=t}:=I.un (h':=s.heap) (t':=t) Un.refl I.az
theorem Inv.kept{t':Nat}(I:Inv X pins σ H s)(k:∀b u,s.heap.get? b=some u->h'.get? b=some u):Inv X pins σ H {s with heap:=h',toks:=t'}:=I.un (Un.kept k) (I.az.kept k)
theorem Inv.laid{a:aa}{o:HO}{t':Nat}(I:Inv X pins σ H s)(k:∀b u,s.heap.get? b=some u->h'.get? b=some u)(hp:s.heap.objs.size<=a)(new:de X.prog X.w (upd H a o) h' a o):
  Inv X pins σ (upd H a o) {s with heap:=h',toks:=t'}:=I.un (Un.laid k hp (I.az.fresh hp)) (I.az.laid k hp new)
theorem Inv.write{x e:aa}{o:HO}{t':Nat}(I:Inv X pins σ H s)(mu:mV (H x))(he:e=x\/H e=some (.own x))(k:∀b u,b≠e->s.heap.get? b=some u->h'.get? b=some u)(rM:∃u,h'.get? e=some u)
  (new:de X.prog X.w (upd H x o) h' x o):Inv X pins σ (upd H x o) {s with heap:=h',toks:=t'}:=I.un (Un.write mu he k rM) (I.az.write mu he k rM new)
theorem Inv.weak{σ':List (Option V)}(I:Inv X pins σ H s)(hl:σ'.length=σ.length)(w:∀(i:Nat) v,σ'[i]? =some (some v)->σ[i]? =some (some v)):Inv X pins σ' H s:=
 ⟨I.ok,I.os,I.bare,I.base,let ⟨m,hn,hl'⟩:=I.loc;⟨m,hn,fun i x v e1 e2 e3=>hl' i x v e1 (w i v e2) e3⟩,I.cell,I.free,I.jk,I.pin,I.az,hl.trans I.len⟩
theorem Inv.IJ{pins':List (aa×Obj)}(I:Inv X pins σ H s)(h:∀p∈pins',s.heap.get? p.1=some p.2/\H p.1=none/\p.1≠X.env.locals/\p.1∉X.fs/\∀v,p.2.data≠.cell v):Inv X pins' σ H s:=
 ⟨I.ok,I.os,I.bare,I.base,I.loc,I.cell,I.free,I.jk,fun p hp=>(ff.mp hp).elim (fun z=>I.pin p (Pt _ z)) (h p),I.az,I.len⟩
theorem BC{N:List Str}(hN:N.Nodup){i j:Nat}{x:Str}(a:N[i]? =some x)(b:N[j]? =some x):i=j:=by
 obtain⟨h1,e1⟩:=cJ.mp a;obtain⟨h2,e2⟩:=cJ.mp b;exact(HW hN).mp (e1.trans e2.symm)
theorem IK{M:Model}{A:bY}{E:ab->ak->Prop}{i:Nat}{x:Str}{v:V}{u:ab}{Q:Unit->ak->Prop}(I:Inv X pins σ H s)(hN:X.N.Nodup)(hi:X.N[i]? =some x)(hx:Loc X.env.scope x)(r:RelV v u)
  (h:∀s',Inv X pins (σ.set i (some v)) H s'->(∃a,rq a s.heap s'.heap/\(a=X.env.locals\/X.env.cells.lookup x=some a))->Q () s') (hf:X.fn x=true\/X.env.scope.names.lookup x=some .local:=by first|exact .inl rfl|exact .inr rfl|assumption):wpAny M A (storeName X.env x u) Q E s:=by
 obtain⟨m,hn,hl⟩:=id I.loc;have QT:(X.env.scope.kind== .class||(X.env.scope.kind== .module&&X.env.locals !=X.env.globals))=false:=by rw[I.ok.kind];rfl
 have hiσ:i<σ.length:=by rw[I.len];exact(cJ.mp hi).1
 have lQ:=I.lQ;have tracked:∀{a:aa} {h':aB},(∃o,s.heap.get? a=some o/\H a=none)->rq a s.heap h'->cS X.prog X.w H h':=fun {a h'} ha hs b ob e=>by
  obtain⟨_,_,rP⟩:=ha;refine(I.az b ob e).ji (fun c w' hc q=>(hs.2 c ?_).trans q) (fun _ q=>q) fun _ _ q=>q;rintro rfl;rcases hc with rfl|hc
  ·rw[rP] at e;cases e
  ·rw[rP] at hc;cases hc
 rcases hx with hk|hk
 ·refine wpAny_storeName_local hk hn (fun h' hn' hs=> ?_) QT;obtain⟨oL,_,_,yf,_⟩:=id hn;refine h _ ⟨I.ok,I.os,I.bare,⟨fun b o e n hb hx=> ?_,fun b o e n hb hx=> ?_,I.base.free,fun b o e hx=> ?_,I.base.mW,I.base.ku,I.base.lO⟩,⟨_,hn',fun j y v' e1 e2 e3=> ?_⟩,fun y c e=> ?_,I.free,I.jk,fun p hp=> ?_,tracked ⟨oL,yf,I.free⟩ hs,by simpa using I.len⟩ ⟨_,hs,.inl rfl⟩
  ·exact(hs.2 b (cW (d6 (br e) I.ok.above))).trans (I.base.keep b o e n hb hx)
  ·obtain⟨sl,e1⟩:=I.base.slot b o e n hb hx;exact⟨sl,(hs.2 b (cW (d6 (br e) I.ok.above))).trans e1⟩
  ·obtain⟨o',e1⟩:=I.base.there b o e hx;exact⟨o',(hs.2 b (cW (d6 (br e) I.ok.above))).trans e1⟩
  ·by_cases hj:j=i
   ·subst hj;rw[hi] at e1;cases e1;rw[lz hiσ] at e2;cases e2;exact⟨u,r,.inl ⟨hk,by simp⟩⟩
   ·rw[lB (d7 hj)] at e2;obtain⟨u',r',q⟩:=hl j y v' e1 e2 e3;refine⟨u',r',?_⟩;rcases q with⟨k,e⟩|⟨k,c,e,z⟩
    ·refine .inl ⟨k,?_⟩;have:y≠x:=fun e=>hj (BC hN e1 (e▸hi));simp[this,e]
    ·exact .inr ⟨k,c,e,z.sameBut hs (lQ y c e)⟩
  ·obtain⟨w',z⟩:=I.cell y c e;exact⟨w',z.sameBut hs (lQ y c e)⟩
  ·obtain⟨e,n,ne,nf,d⟩:=I.pin p hp;exact⟨(hs.2 p.1 ne).trans e,n,ne,nf,d⟩
 ·have BD:X.fn x=true:=by
   rcases hf with z|z
   ·exact z
   ·rw[z] at hk;cases hk
  obtain⟨c,hc⟩:=I.ok.has x (.inl hk);obtain⟨w',z⟩:=I.cell x c hc;refine wpAny_storeName_cell I.ok.kind hk hc z (fun h' hc' hs=> ?_);obtain⟨oc,iD,QU⟩:=id z;refine h {s with heap:=h'} ⟨I.ok,I.os,I.bare,⟨fun b o e n hb hx=> ?_,fun b o e n hb hx=> ?_,I.base.free,fun b o e hx=> ?_,I.base.mW,I.base.ku,I.base.lO⟩,⟨m,hn.sameBut hs (d7 (lQ x c hc)),fun j y v' e1 e2 e3=> ?_⟩,fun y c' e=> ?_,I.free,I.jk,fun p hp=> ?_,tracked ⟨oc,iD,I.jk x c hc⟩ hs,by simpa using I.len⟩ ⟨c,hs,.inr hc⟩
  ·exact(hs.2 b (cW (d6 (br e) (I.ok.u4 x c BD hc)))).trans (I.base.keep b o e n hb hx)
  ·obtain⟨sl,e1⟩:=I.base.slot b o e n hb hx;exact⟨sl,(hs.2 b (cW (d6 (br e) (I.ok.u4 x c BD hc)))).trans e1⟩
  ·obtain⟨o',e1⟩:=I.base.there b o e hx;exact⟨o',(hs.2 b (cW (d6 (br e) (I.ok.u4 x c BD hc)))).trans e1⟩
  ·by_cases hj:j=i
   ·subst hj;rw[hi] at e1;cases e1;rw[lz hiσ] at e2;cases e2;exact⟨u,r,.inr ⟨.inl hk,c,hc,hc'⟩⟩
   ·rw[lB (d7 hj)] at e2;obtain⟨u',r',q⟩:=hl j y v' e1 e2 e3;refine⟨u',r',?_⟩;rcases q with q|⟨k,c',e,z'⟩
    ·exact .inl q
    ·refine .inr ⟨k,c',e,z'.sameBut hs ?_⟩;rintro rfl;exact hj (BC hN e1 (I.ok.inj _ _ _ e hc▸hi))
  ·by_cases IL:c'=c
   ·subst IL;exact⟨_,hc'⟩
   ·obtain⟨w2,z2⟩:=I.cell y c' e;exact⟨w2,z2.sameBut hs IL⟩
  ·obtain⟨e,n,ne,nf,d⟩:=I.pin p hp;refine⟨(hs.2 p.1 ?_).trans e,n,ne,nf,d⟩;intro q;rw[q,iD] at e;have q':oc=p.2:=fe e;exact d w' (by rw[<-q'];exact QU)
theorem BE{M:Model}{A:bY}{E:ab->ak->Prop}{i:Nat}{x:Str}{v:V}{u:ab}{Q:Unit->ak->Prop}(I:Inv X pins σ H s)(hN:X.N.Nodup)(hi:X.N[i]? =some x)(hx:Loc X.env.scope x)(r:RelV v u)
  (h:∀s',Inv X pins (σ.set i (some v)) H s'->Q () s') (hf:X.fn x=true\/X.env.scope.names.lookup x=some .local:=by first|exact .inl rfl|exact .inr rfl|assumption):wpAny M A (storeName X.env x u) Q E s:=
 IK I hN hi hx r (fun s' I' _=>h s' I') hf
theorem Inv.QV{s':ak}{ch:List aa}(I:Inv X pins σ H s)(ho:s'.os=s.os)(u:Un (kC X.stack) ch H H' s.heap s'.heap)(az:cS X.prog X.w H' s'.heap)(hg:uX s'.gens)
  (lS:∀b∈ch,(b∈X.ex\/X.fJ.heap.objs.size<=b)/\b≠X.env.locals/\(∀x c,X.env.cells.lookup x=some c->c≠b)/\∀p∈X.pn++pins,p.1≠b):Inv X pins σ H' s':=by
 obtain⟨h',g',d',t',o'⟩:=s';have e:o'=s.os:=ho;subst e;exact I.call (g':=g') (t':=t') (d':=d') u az hg lS
end
abbrev XK:=ab->Option aa->Hp->Prop
abbrev St:=List (Option V)
abbrev VK:=V->Hp->Prop
abbrev TE:=St->Hp->VK->Prop
abbrev TT:=St->Hp->(Bool->Hp->Prop)->Prop
abbrev TA:=St->Hp->(List V->Hp->Prop)->Prop
structure Ends where
 nx:St->Hp->Prop
 rt:VK
 bk:St->Hp->Prop:=fun _ _=>False
 ct:St->Hp->Prop:=fun _ _=>False
abbrev TS:=Ends->St->Hp->Prop
def EP(X:Cx)(pins:List (aa×Obj))(σ:St)(Q:VK)(u:ab)(s':ak):Prop:=∃v H',Inv X pins σ H' s'/\RelV v u/\Q v H'
def TP(X:Cx)(pins:List (aa×Obj))(σ:St)(Q:Bool->Hp->Prop)(b:Bool)(s':ak):Prop:=∃H',Inv X pins σ H' s'/\Q b H'
def AP(X:Cx)(pins:List (aa×Obj))(σ:St)(Q:List V->Hp->Prop)(us:List ab)(s':ak):Prop:=∃vs H',Inv X pins σ H' s'/\Vals vs us/\Q vs H'
def SP(X:Cx)(pins:List (aa×Obj))(D:Ends)(f:Flow)(s':ak):Prop:=
 match f with
 | .next=>∃σ' H',Inv X pins σ' H' s'/\D.nx σ' H'
 | .brk=>∃σ' H',Inv X pins σ' H' s'/\D.bk σ' H'
 | .cont=>∃σ' H',Inv X pins σ' H' s'/\D.ct σ' H'
 | .ret u=>∃v σ' H',Inv X pins σ' H' s'/\RelV v u/\D.rt v H'
def PE(X:Cx)(e:aG)(t:TE):Prop:=
 ∀(pins:List (aa×Obj)) (s:ak) (σ:St) (H:Hp) (Q:VK),Inv X pins σ H s->t σ H Q->wpAny (model X.prog X.w) X.A (eval e X.env) (EP X pins σ Q) X.xe s
def PT(X:Cx)(e:aG)(t:TT):Prop:=
 ∀(pins:List (aa×Obj)) (s:ak) (σ:St) (H:Hp) (Q:Bool->Hp->Prop),Inv X pins σ H s->t σ H Q->wpAny (model X.prog X.w) X.A (isTrue e X.env (eval e X.env)) (TP X pins σ Q) X.xe s
def PW(X:Cx)(e:aG)(t:TT):Prop:=
 ∀(whole:Sem ab) (pins:List (aa×Obj)) (s:ak) (σ:St) (H:Hp) (Q:Bool->Hp->Prop),Inv X pins σ H s->t σ H Q->wpAny (model X.prog X.w) X.A (isTrue e X.env whole) (TP X pins σ Q) X.xe s
theorem PW.pt{X:Cx}{e:aG}{t:TT}(h:PW X e t):PT X e t:=h _
def PA(X:Cx)(es:List aG)(t:TA):Prop:=
 ∀(pos:Pos) (pins:List (aa×Obj)) (s:ak) (σ:St) (H:Hp) (Q:List V->Hp->Prop),Inv X pins σ H s->t σ H Q->wpAny (model X.prog X.w) X.A (spliced (backTo pos (starEach es X.env))) (AP X pins σ Q) X.xe s
def PS(X:Cx)(st:aL)(t:TS):Prop:=
 ∀(pins:List (aa×Obj)) (s:ak) (σ:St) (H:Hp) (D:Ends),Inv X pins σ H s->t D σ H->wpAny (model X.prog X.w) X.A (exec st X.env) (SP X pins D) X.xe s
def gT(X:Cx)(st:List aL)(t:TS):Prop:=
 ∀(pins:List (aa×Obj)) (s:ak) (σ:St) (H:Hp) (D:Ends),Inv X pins σ H s->t D σ H->wpAny (model X.prog X.w) X.A (execs st X.env) (SP X pins D) X.xe s
theorem aH{α:Type}{t:Sem α}{Q Q':α->ak->Prop}{M:Model}{A:bY}{E:ab->ak->Prop}{s:ak}(h:wpAny M A t Q E s)(hQ:∀a s,Q a s->Q' a s):wpAny M A t Q' E s:=iA h hQ fun _ _ x=>x
section
variable{X:Cx}
theorem bin{a b:aG}{ta tb:TE}(ha:PE X a ta)(hb:PE X b tb){pins:List (aa×Obj)}{s:ak}{σ:St}{H:Hp}{R:V->V->Hp->Prop}(I:Inv X pins σ H s)(h:ta σ H fun x H1=>tb σ H1 fun y H2=>R x y H2)
  {α:Type} {Q:α->ak->Prop} {f:ab->ab->Sem α}
  (hf:∀v u s2 x y H2,Inv X pins σ H2 s2->RelV x v->RelV y u->R x y H2->wpAny (model X.prog X.w) X.A (f v u) Q X.xe s2):
  wpAny (model X.prog X.w) X.A (eval a X.env) (fun v s₁=>wpAny (model X.prog X.w) X.A (eval b X.env) (fun u s₂=>wpAny (model X.prog X.w) X.A (f v u) Q X.xe s₂) X.xe s₁) X.xe s:=by
 refine aH (ha pins s σ H _ I h) fun v s1 ⟨x,H1,I1,r1,q1⟩=> ?_;refine aH (hb pins s1 σ H1 _ I1 q1) fun u s2 ⟨y,H2,I2,r2,q2⟩=> ?_;exact hf v u s2 x y H2 I2 r1 r2 q2
def lT(i:Nat):TE:=fun σ H Q=>∃v,σ[i]? =some (some v)/\Q v H
def tC(v:V):TE:=fun _ H Q=>Q v H
theorem QW{i:Nat}{x:Str}{pos:Pos}(hN:X.N[i]? =some x)(hv:rO X.env.scope x)(hd:(x==("__debug__":Str))=false:=by decide)(eU:(x==("__classdict__":Str))=false:=by decide):PE X (.Name x pos) (lT i):=by
 intro pins s σ H Q I h;obtain⟨v,e,h⟩:=h;obtain⟨m,hn,hl⟩:=I.loc;obtain⟨u,r,l⟩:=hl i x v hN e hv;have fin:EP X pins σ Q u s:=⟨v,H,I,r,h⟩;rcases l with⟨hk,hm⟩|⟨hk,c,hc,oN⟩
 ·exact uV (A7 I.ok.kind hk hn hm fin) hd
 ·rcases hk with hk|hk
  ·exact uV (wpAny_loadName_cell I.ok.kind hk hc oN fin) hd
  ·exact uV (wpAny_loadName_free I.ok.kind hk hc oN fin eU) hd
theorem ay{i j pos}:PE X (.Constant (.int i) j pos) (tC (.int i)):=fun _ _ _ H _ I h=>wpAny_Constant_int ⟨.int i,H,I.tok _,⟨_,rfl⟩,h⟩
theorem qf{b j pos}:PE X (.Constant (.bool b) j pos) (tC (.bl b)):=fun _ _ _ H _ I h=>Constant_bool ⟨.bl b,H,I,rfl,h⟩
theorem mX{j pos}:PE X (.Constant .none j pos) (tC .bc):=fun _ _ _ H _ I h=>Constant_none ⟨.bc,H,I,rfl,h⟩
theorem gf{x j pos}:PE X (.Constant (.str x) j pos) (tC (.str x)):=fun _ _ _ H _ I h=>Calls.Constant_str ⟨.str x,H,I.tok _,⟨_,rfl⟩,h⟩
def Gl(X:Cx)(x:Str):Prop:=X.env.kindOf x=some .globalImplicit
theorem yg{E:ab->ak->Prop}{pins:List (aa×Obj)}{s:ak}{σ:St}{H:Hp}{x:Str}{u:ab}{pos:Pos}{Q:ab->ak->Prop}(I:Inv X pins σ H s)(hg:Gl X x)(hm:X.mg x=some u)(h:Q u s)
  (hd:(x==("__debug__":Str))=false:=by decide):wpAny (model X.prog X.w) X.A (eval (.Name x pos) X.env) Q E s:=
 Pa I.ok.kind hg (Calls.loadGlobal_global (by rw[I.ok.glob];exact I.mod.glob.keeps I.bk) hm h) hd
theorem kD{E:ab->ak->Prop}{pins:List (aa×Obj)}{s:ak}{σ:St}{H:Hp}{x:Str}{u:ab}{pos:Pos}{Q:ab->ak->Prop}(I:Inv X pins σ H s)(hg:Gl X x)(hm:X.mg x=none)(hv:bootBuiltins x=some u)(h:Q u s)
  (hn:x≠"__name__":=by decide) (hd:(x==("__debug__":Str))=false:=by decide):wpAny (model X.prog X.w) X.A (eval (.Name x pos) X.env) Q E s:=by
 obtain⟨mb,h1,h2⟩:=I.mod.blt;exact Pa I.ok.kind hg (aet (by rw[I.ok.glob];exact I.mod.glob.keeps I.bk) hm (by rw[I.ok.blt];exact h1.keeps I.bk) ((h2 x hn).trans hv) h) hd
theorem IM{x:Str}{v:V}{u:ab}{pos:Pos}(hg:Gl X x)(hm:X.mg x=some u)(r:RelV v u)(hd:(x==("__debug__":Str))=false:=by decide):PE X (.Name x pos) (tC v):=
 fun _ _ _ H _ I h=>yg I hg hm ⟨v,H,I,r,h⟩ hd
variable{a b:aG}{ta tb:TE}{pos:Pos}
def PC(X:Cx)(op:CmpOp)(a b:aG)(t:TE):Prop:=
 ∀(pins:List (aa×Obj)) (s:ak) (σ:St) (H:Hp) (Q:VK),Inv X pins σ H s->t σ H Q->
  wpAny (model X.prog X.w) X.A (eval a X.env) (fun v s₁=>wpAny (model X.prog X.w) X.A (eval b X.env) (fun u s₂=>wpAny (model X.prog X.w) X.A (compareOp op v u) (EP X pins σ Q) X.xe s₂) X.xe s₁) X.xe s
theorem IP(b:aG){op:CmpOp}(h:op≠.In)(h2:op≠.NotIn):behindInMarks op b=false:=by
 have e1:(op==CmpOp.In)=false:=by cases op<;>first|rfl|exact absurd rfl h
 have e2:(op==CmpOp.NotIn)=false:=by cases op<;>first|rfl|exact absurd rfl h2
 cases b<;>simp[behindInMarks,e1,e2]
def tB(t:TE):TT:=fun σ H Q=>t σ H fun x H1=>∃c,x= .bl c/\Q c H1
theorem IQ{op:CmpOp}{t:TE}(h:PC X op a b t)(h1:behindInMarks op b=false:=by first|exact IP _ (by decide) (by decide)|rfl):PE X (.Compare a [op] [b] pos) t:=fun pins s σ H Q I hw=>wpAny_Compare1 (h pins s σ H Q I hw) h1
theorem yh{op:CmpOp}{t:TE}(h:PC X op a b t)(h1:behindInMarks op b=false:=by first|exact IP _ (by decide) (by decide)|rfl):PT X (.Compare a [op] [b] pos) (tB t):=by
 intro pins s σ H Q I hw;refine afi (aH (h pins s σ H _ I hw) fun v s1 h1=>aH h1 fun u s2 h2=>aH h2 fun c s3 ⟨x,H1,I1,r1,q1⟩=> ?_) h1;obtain⟨d,rfl,q⟩:=q1;cases r1;exact rf ⟨H1,I1,q⟩
theorem fh{e:aG}{t:TE}(h:PE X e t)(he:∀whole,isTrue e X.env whole=(do let v<-whole;standAt e.pos;holding [v] (truthy v)):=by intro _;rfl):PT X e (tB t):=by
 intro pins s σ H Q I hw;refine isTrue_plain (aH (h pins s σ H _ I hw) fun v s1 ⟨x,H1,I1,r1,q1⟩=> ?_) (he _);obtain⟨d,rfl,q⟩:=q1;cases r1;exact rf ⟨H1,I1,q⟩
variable{tA tB':TT}{rest:List aG}
def QX(t u:TT):TT:=fun σ H Q=>t σ H fun c H1=>if c=true then u σ H1 Q else Q false H1
def QY(t u:TT):TT:=fun σ H Q=>t σ H fun c H1=>if c=true then Q true H1 else u σ H1 Q
def QZ(t:TT):TT:=fun σ H Q=>t σ H fun c H1=>Q (!c) H1
theorem yi(ha:PT X a tA):PW X (.BoolOp .And [a] pos) tA:=by
 intro wh pins s σ H Q I h;refine isTrue_and (aH (ha pins s σ H Q I h) fun c s1 e=> ?_);cases c with
 |true=>exact isTrue_and_nil e
 |false=>exact e
theorem u7(ha:PT X a tA):PW X (.BoolOp .Or [a] pos) tA:=by
 intro wh pins s σ H Q I h;refine isTrue_or (aH (ha pins s σ H Q I h) fun c s1 e=> ?_);cases c with
 |false=>exact isTrue_or_nil e
 |true=>exact e
theorem u9(ha:PT X a tA)(hb:PW X (.BoolOp .And (b::rest) pos) tB'):PW X (.BoolOp .And (a::b::rest) pos) (QX tA tB'):=by
 intro wh pins s σ H Q I h;refine isTrue_and (aH (ha pins s σ H _ I h) fun c s1 ⟨H1,I1,q1⟩=> ?_);cases c with
 |true=>exact hb wh pins s1 σ H1 Q I1 q1
 |false=>exact⟨H1,I1,q1⟩
theorem va(ha:PT X a tA)(hb:PW X (.BoolOp .Or (b::rest) pos) tB'):PW X (.BoolOp .Or (a::b::rest) pos) (QY tA tB'):=by
 intro wh pins s σ H Q I h;refine isTrue_or (aH (ha pins s σ H _ I h) fun c s1 ⟨H1,I1,q1⟩=> ?_);cases c with
 |true=>exact⟨H1,I1,q1⟩
 |false=>exact hb wh pins s1 σ H1 Q I1 q1
theorem iE(ha:PT X a tA):PT X (.UnaryOp .Not a pos) (QZ tA):=by
 intro pins s σ H Q I h;exact isTrue_not (ha pins s σ H (fun c H1=>Q (!c) H1) I h)
def Q0(ta tb:TE):TE:=fun σ H Q=>ta σ H fun x H1=>∃c,x= .bl c/\if c=true then tb σ H1 Q else Q (.bl false) H1
def Q1(ta tb:TE):TE:=fun σ H Q=>ta σ H fun x H1=>∃c,x= .bl c/\if c=true then Q (.bl true) H1 else tb σ H1 Q
def Q2(ta:TE):TE:=fun σ H Q=>ta σ H fun x H1=>∃c,x= .bl c/\Q (.bl (!c)) H1
theorem yj{op}{t:TE}(h:PE X a t):PE X (.BoolOp op [a] pos) t:=fun pins s σ H Q I hw=>BoolOp_one (h pins s σ H Q I hw)
theorem BF(ha:PE X a ta)(hb:PE X (.BoolOp .And (b::rest) pos) tb):PE X (.BoolOp .And (a::b::rest) pos) (Q0 ta tb):=by
 intro pins s σ H Q I h;refine BoolOp_and (aH (ha pins s σ H _ I h) fun v s1 ⟨x,H1,I1,r1,q1⟩=> ?_);obtain⟨c,rfl,q1⟩:=q1;cases r1;refine rf ?_;cases c with
 |true=>exact hb pins s1 σ H1 Q I1 q1
 |false=>exact⟨.bl false,H1,I1,rfl,q1⟩
theorem Q3(ha:PE X a ta)(hb:PE X (.BoolOp .Or (b::rest) pos) tb):PE X (.BoolOp .Or (a::b::rest) pos) (Q1 ta tb):=by
 intro pins s σ H Q I h;refine BoolOp_or (aH (ha pins s σ H _ I h) fun v s1 ⟨x,H1,I1,r1,q1⟩=> ?_);obtain⟨c,rfl,q1⟩:=q1;cases r1;refine rf ?_;cases c with
 |false=>exact hb pins s1 σ H1 Q I1 q1
 |true=>exact⟨.bl true,H1,I1,rfl,q1⟩
theorem BG(ha:PE X a ta):PE X (.UnaryOp .Not a pos) (Q2 ta):=by
 intro pins s σ H Q I h;refine UnaryOp_ (aH (ha pins s σ H _ I h) fun v s1 ⟨x,H1,I1,r1,q1⟩=> ?_);obtain⟨c,rfl,q1⟩:=q1;cases r1;exact not_of (rf ⟨.bl (!c),H1,I1,rfl,q1⟩)
def Q4(t:TT)(ta tb:TE):TE:=fun σ H Q=>t σ H fun c H1=>if c=true then ta σ H1 Q else tb σ H1 Q
theorem yk{c:aG}(hc:PT X c tA)(ha:PE X a ta)(hb:PE X b tb):PE X (.IfExp c a b pos) (Q4 tA ta tb):=by
 intro pins s σ H Q I h;refine wpAny_IfExp (aH (hc pins s σ H _ I h) fun d s1 ⟨H1,I1,q1⟩=> ?_);cases d with
 |true=>exact ha pins s1 σ H1 Q I1 q1
 |false=>exact hb pins s1 σ H1 Q I1 q1
end
def ah(K:aC)(H:Hp)(a:aa)(xs:List V):Prop:=
 Rd H a (.lst xs)\/
  ∃(o:Obj) (aj:Array ab) (n:Nat),K.lookup a=some o/\o.cls= .type "list"/\o.dict=none/\o.data= .seq aj n/\aj.size<=sizeLine/\Vals xs aj.toList
def cH(K:aC)(H:Hp)(a:aa)(xs:List V):Prop:=
 Rd H a (.tup xs)\/
  ∃(o:Obj) (aj:Array ab) (n:Nat),K.lookup a=some o/\o.cls= .type "tuple"/\o.data= .seq aj n/\aj.size<=sizeLine/\Vals xs aj.toList
def Q5:ab->Option V
 | .none=>some .bc
 | .bool b=>some (.bl b)
 | .int i _=>some (.int i)
 | .str x _=>some (.str x)
 | .bytes b _=>some (.fZ b)
 | .float b _=>some (.x9 b)
 | .ref a=>some (.ref a)
 | .type n=>some (.ty n)
 |_=>none
theorem RelV.abs{x:V}{u:ab}(r:RelV x u):Q5 u=some x:=by
 cases x with
 |bc=>cases r;rfl
 |bl _=>cases r;rfl
 |int _=>obtain⟨t,rfl⟩:=r;rfl
 |str _=>obtain⟨t,rfl⟩:=r;rfl
 |fZ _=>obtain⟨t,rfl⟩:=r;rfl
 |x9 _=>obtain⟨t,rfl⟩:=r;rfl
 |ref _=>cases r;rfl
 |ty _=>cases r;rfl
theorem RelV.inj{x y:V}{u:ab}(r:RelV x u)(q:RelV y u):x=y:=fe (r.abs.symm.trans q.abs)
theorem Vals.inj:∀{xs ys:List V} {us:List ab},Vals xs us->Vals ys us->xs=ys
 |_,_,_,.nil,.nil=>rfl
 |_,_,_,.cons r t,.cons r' t'=>by rw[r.inj r',Vals.inj t t']
section
variable{X:Cx}{pins:List (aa×Obj)}{σ:St}{H:Hp}{s:ak}{a:aa}{xs ys:List V}
theorem ah.of{K:aC}(h:H a=some (.lst xs)):ah K H a xs:= .inl (.inl h)
theorem cH.of{K:aC}(h:H a=some (.tup xs)):cH K H a xs:= .inl (.inl h)
theorem Inv.list(I:Inv X pins σ H s)(h:ah X.K H a xs):∃aj:List ab,Vals xs aj/\PlainL s.heap a aj.toArray/\xs.length<=sizeLine:=by
 rcases h with h|⟨o,aj,n,hk,hc,hd,hs,hz,r⟩
 ·obtain⟨z,aj,n,r,e⟩:=h.ok I.az;exact⟨aj,r,⟨_,n,e,rfl,rfl,rfl⟩,z⟩
 ·refine⟨aj.toList,r,⟨o,n,I.gd a o hk,hc,hd,by simpa using hs⟩,?_⟩;have e:=r.length;simp only[mJ] at e;omega
theorem Inv.tuple(I:Inv X pins σ H s)(h:cH X.K H a xs):∃aj:List ab,Vals xs aj/\oK s.heap a aj.toArray/\xs.length<=sizeLine:=by
 rcases h with h|⟨o,aj,n,hk,hc,hs,hz,r⟩
 ·obtain⟨z,aj,r,p⟩:=h.ok I.az;exact⟨aj,r,p,z⟩
 ·refine⟨aj.toList,r,⟨o,I.gd a o hk,hc,n,by simpa using hs⟩,?_⟩;have e:=r.length;simp only[mJ] at e;omega
theorem Inv.oO(I:Inv X pins σ H s)(h:ah X.K H a xs)(h':ah X.K H a ys):xs=ys:=by
 obtain⟨aj,r,⟨o,n,e,_,_,d⟩,_⟩:=I.list h;obtain⟨its',r',⟨o',n',e',_,_,d'⟩,_⟩:=I.list h';rw[e] at e';cases e';rw[d] at d';injection d' with d1 _;have:aj=its':=by simpa using congrArg Ql d1
 subst this;exact r.inj r'
theorem Inv.Q6(I:Inv X pins σ H s)(h:cH X.K H a xs)(h':cH X.K H a ys):xs=ys:=by
 obtain⟨aj,r,⟨o,e,_,n,d⟩,_⟩:=I.tuple h;obtain⟨its',r',⟨o',e',_,n',d'⟩,_⟩:=I.tuple h';rw[e] at e';cases e';rw[d] at d';injection d' with d1 _;have:aj=its':=by simpa using congrArg Ql d1
 subst this;exact r.inj r'
end
abbrev Cx.lU(X:Cx)(E:ab->ak->Prop):Cx:={X with xe:=E}
abbrev Cx.oP(X:Cx):Cx:=X.lU fun _ _=>False
theorem Cx.Ok.lU{X:Cx}(ok:X.Ok)(E:ab->ak->Prop):(X.lU E).Ok:=
 ⟨ok.mod,ok.kind,ok.glob,ok.blt,ok.above,ok.inj,ok.has,ok.u4,ok.hd,ok.frames,ok.yd,ok.ye,ok.bs,ok.lP,ok.u5,ok.u6,ok.jO,ok.qe⟩
theorem Cx.Ok.oQ{X:Cx}{E:ab->ak->Prop}(ok:(X.lU E).Ok):X.Ok:=
 ⟨ok.mod,ok.kind,ok.glob,ok.blt,ok.above,ok.inj,ok.has,ok.u4,ok.hd,ok.frames,ok.yd,ok.ye,ok.bs,ok.lP,ok.u5,ok.u6,ok.jO,ok.qe⟩
section
variable{X:Cx}{pins:List (aa×Obj)}{σ:St}{H:Hp}{s:ak}{E:ab->ak->Prop}
theorem Inv.lU(I:Inv X pins σ H s)(E:ab->ak->Prop):Inv (X.lU E) pins σ H s:=⟨I.ok.lU E,I.os,I.bare,I.base,I.loc,I.cell,I.free,I.jk,I.pin,I.az,I.len⟩
theorem Inv.oQ(I:Inv (X.lU E) pins σ H s):Inv X pins σ H s:=⟨I.ok.oQ,I.os,I.bare,I.base,I.loc,I.cell,I.free,I.jk,I.pin,I.az,I.len⟩
theorem SP.oQ{D:Ends}{f:Flow}{s':ak}(h:SP (X.lU E) pins D f s'):SP X pins D f s':=by
 cases f with
 |next=>obtain⟨σ',H',I,q⟩:=h;exact⟨σ',H',I.oQ,q⟩
 |brk=>obtain⟨σ',H',I,q⟩:=h;exact⟨σ',H',I.oQ,q⟩
 |cont=>obtain⟨σ',H',I,q⟩:=h;exact⟨σ',H',I.oQ,q⟩
 |ret u=>obtain⟨v,σ',H',I,r,q⟩:=h;exact⟨v,σ',H',I.oQ,r,q⟩
theorem gT.oP{st:List aL}{t:TS}(h:gT X.oP st t):gT X st t:=fun pins s σ H D I hw=>
 iA (h pins s σ H D (I.lU _) hw) (fun _ _ q=>q.oQ) fun _ _ z=>ft z
end
section
variable{X:Cx}{st:aL}{rest:List aL}{t u:TS}{e:aG}{te:TE}{pos:Pos}
def Q7:TS:=fun D σ H=>D.nx σ H
def yl(t u:TS):TS:=fun D σ H=>t {D with nx:=u D} σ H
theorem bJ:gT X [] Q7:=fun _ _ σ H _ I h=>Ir ⟨σ,H,I,h⟩
theorem aw(h1:PS X st t)(h2:gT X rest u):gT X (st::rest) (yl t u):=by
 intro pins s σ H D I h;refine wpAny_execs_cons (aH (h1 pins s σ H {D with nx:=u D} I h) fun f s1 q=> ?_);cases f with
 |next=>
  obtain⟨σ',H',I',q⟩:=q
  exact h2 pins s1 σ' H' D I' q
 |ret v=>exact q
 |brk=>exact q
 |cont=>exact q
theorem ax(h1:PS X st t):gT X [st] t:=by
 intro pins s σ H D I h;refine wpAny_execs_cons (aH (h1 pins s σ H D I h) fun f s1 q=> ?_);cases f with
 |next=>exact Ir q
 |ret v=>exact q
 |brk=>exact q
 |cont=>exact q
theorem Inv.quiet{pins:List (aa×Obj)}{σ:St}{H:Hp}{s:ak}(I:Inv X pins σ H s):interactive X.env=false:=by simp[interactive,I.ok.kind]
def BH(te:TE):TS:=fun D σ H=>te σ H fun _ H1=>D.nx σ H1
theorem iX(he:PE X e te)(hs:swapsWith e none pos.line X.env=pure false:=by rfl):PS X (.Expr e pos) (BH te):=by
 intro pins s σ H D I h;exact wpAny_Expr_any (aH (he pins s σ H _ I h) fun v s1 ⟨x,H1,I1,r1,q1⟩=>⟨σ,H1,I1,q1⟩) I.quiet hs
def Q8(te:TE):TS:=fun D σ H=>te σ H D.rt
theorem aF(he:PE X e te):PS X (.Return (some e) pos) (Q8 te):=by
 intro pins s σ H D I h;exact wpAny_Return_some (aH (he pins s σ H _ I h) fun v s1 ⟨x,H1,I1,r1,q1⟩=>⟨x,σ,H1,I1,r1,q1⟩)
def Q9(c:TT)(t u:TS):TS:=fun D σ H=>c σ H fun b H1=>if b=true then t D σ H1 else u D σ H1
theorem bG{c:aG}{a b:List aL}{tc:TT}(hc:PT X c tc)(ha:gT X a t)(hb:gT X b u):PS X (.If c a b pos) (Q9 tc t u):=by
 intro pins s σ H D I h;refine wpAny_If (aH (hc pins s σ H _ I h) fun d s1 ⟨H1,I1,q1⟩=> ?_);cases d with
 |true=>exact ha pins s1 σ H1 D I1 q1
 |false=>exact hb pins s1 σ H1 D I1 q1
end
abbrev TG:=V->St->Hp->(St->Hp->Prop)->Prop
abbrev oR:=List V->St->Hp->(St->Hp->Prop)->Prop
def PG(X:Cx)(target:aG)(t:TG):Prop:=
 ∀(pins:List (aa×Obj)) (s:ak) (σ:St) (H:Hp) (v:V) (u:ab) (Q:St->Hp->Prop),Inv X pins σ H s->RelV v u->t v σ H Q->
  wpAny (model X.prog X.w) X.A (assign target X.env u) (fun _ s'=>∃σ' H',Inv X pins σ' H' s'/\Q σ' H') X.xe s
def vc(X:Cx)(ts:List aG)(t:oR):Prop:=
 ∀(pins:List (aa×Obj)) (s:ak) (σ:St) (H:Hp) (vs:List V) (us:List ab) (Q:St->Hp->Prop),Inv X pins σ H s->Vals vs us->t vs σ H Q->
  wpAny (model X.prog X.w) X.A (assignInOrder ((assignEach ts X.env).map (·.2)) us) (fun _ s'=>∃σ' H',Inv X pins σ' H' s'/\Q σ' H') X.xe s
abbrev vd:=V->V->V->Hp->(Hp->Prop)->Prop
def BI(X:Cx)(t:vd):Prop:=
 ∀(pins:List (aa×Obj)) (s:ak) (σ:St) (H:Hp) (o i v:V) (ov iv u:ab) (Q:Hp->Prop),Inv X pins σ H s->RelV o ov->RelV i iv->RelV v u->t o i v H Q->
  wpAny (model X.prog X.w) X.A (setItem ov iv u) (fun _ s'=>∃H',Inv X pins σ H' s'/\Q H') X.xe s
abbrev rQ:=V->V->Hp->VK->Prop
def ym(X:Cx)(op:rF)(t:rQ):Prop:=
 ∀(pins:List (aa×Obj)) (s:ak) (σ:St) (H:Hp) (x y:V) (v u:ab) (Q:VK),Inv X pins σ H s->RelV x v->RelV y u->t x y H Q->
  wpAny (model X.prog X.w) X.A (inplaceOp op v u) (EP X pins σ Q) X.xe s
section
variable{X:Cx}{pos:Pos}
def mY(i:Nat):TG:=fun v σ H Q=>Q (σ.set i (some v)) H
theorem bU{i:Nat}{x:Str}(hN:X.N.Nodup)(hi:X.N[i]? =some x)(hx:Loc X.env.scope x)(hf:X.fn x=true\/X.env.scope.names.lookup x=some .local:=by first|exact .inl rfl|exact .inr rfl|assumption):PG X (.Name x pos) (mY i):=by
 intro pins s σ H v u Q I r h;exact wpAny_assign_Name (BE I hN hi hx r (fun s' I'=>⟨_,H,I',h⟩) hf)
def BJ:oR:=fun vs σ H Q=>vs=[]/\Q σ H
def ve(t:TG)(u:oR):oR:=fun vs σ H Q=>∃v r,vs=v::r/\t v σ H fun σ' H'=>u r σ' H' Q
theorem oS:vc X [] BJ:=by
 intro pins s σ H vs us Q I r h;obtain⟨e,h⟩:=h;subst e;cases r;exact assignInOrder_nil ⟨σ,H,I,h⟩
theorem gD{e:aG}{es:List aG}{t:TG}{u:oR}(h1:PG X e t)(h2:vc X es u)
  (hs:(assignEach (e::es) X.env).map (·.2)=assign e X.env::(assignEach es X.env).map (·.2):=by rfl):vc X (e::es) (ve t u):=by
 intro pins s σ H vs us Q I r h;obtain⟨v,vr,e1,h⟩:=h;subst e1;cases r with
 |cons r rr=>
  rw[hs]
  refine assignInOrder_cons (aH (h1 pins s σ H _ _ _ I r h) fun _ s1 ⟨σ1,H1,I1,q1⟩=> ?_)
  exact h2 pins s1 σ1 H1 _ _ Q I1 rr q1
def yo(K:aC)(n:Nat)(t:oR):TG:=fun v σ H Q=>∃a xs,v= .ref a/\cH K H a xs/\xs.length=n/\t xs σ H Q
theorem Ra{es:List aG}{k:Nat}{t:oR}{n:Nat}(hc:X.calm=true)(h:vc X es t)
  (hn:(assignEach es X.env).length=n:=by rfl) (eV:(assignEach es X.env).findIdx? (·.1)=none:=by rfl):PG X (.Tuple es k pos) (yo X.K n t):=by
 intro pins s σ H v u Q I r hw;obtain⟨a,xs,e1,hq,hl,hw⟩:=hw;subst e1;cases r;obtain⟨aj,rv,ht,hz⟩:=I.tuple hq;refine assign_Tuple_tuple (I.ok.hd hc) ht (by simp[hn,<-hl,rv.length]) eV fun h' hx=> ?_;have I1:Inv X pins σ H {s with heap:=h'}:=I.kept (t':=s.toks) fun b o e=>hx b o (cW (br e)) e;exact h pins _ σ H xs _ Q I1 (by simpa using rv) hw
def Rb(to ti:TE)(t:vd):TG:=fun v σ H Q=>to σ H fun o H1=>ti σ H1 fun i H2=>t o i v H2 fun H3=>Q σ H3
theorem Rc{o i:aG}{to ti:TE}{t:vd}(ho:PE X o to)(hi:PE X i ti)(hs:BI X t)
  (ha:∀v,assign (.Subscript o i pos) X.env v=(do
   let ov<-holding [v] (eval o X.env)
   let iv<-holding [v,ov] (eval i X.env)
   standAt pos
   holding [v,ov,iv] (setItem ov iv v)
   release [v,ov,iv] []):=by intro _;rfl):PG X (.Subscript o i pos) (Rb to ti t):=by
 intro pins s σ H v u Q I r h;rw[ha];refine aq (oH (aH (ho pins s σ H _ I h) fun ov s1 ⟨x,H1,I1,r1,q1⟩=> ?_));refine aq (oH (aH (hi pins s1 σ H1 _ I1 q1) fun iv s2 ⟨y,H2,I2,r2,q2⟩=> ?_));refine aq (IC (aq (oH (aH (hs pins s2 σ H2 x y v ov iv u _ I2 r1 r2 r q2) fun _ s3 ⟨H3,I3,q3⟩=> ?_))));exact wpAny_release ⟨σ,H3,I3,q3⟩
def yp(te:TE)(g:TG):TS:=fun D σ H=>te σ H fun x H1=>g x σ H1 D.nx
theorem Rf{tg e:aG}{te:TE}{g:TG}(he:PE X e te)(hg:PG X tg g)(hs:swapsWithSole [tg] e pos.line X.env=pure false:=by rfl)(hw:swappedStores [tg] e X.env=pure none:=by rfl)
  (h1:(assignEach [tg] X.env).map (·.2)=[assign tg X.env]:=by rfl):PS X (.Assign [tg] e pos) (yp te g):=by
 intro pins s σ H D I h;refine wpAny_Assign_stores (aH (he pins s σ H _ I h) fun v s1 ⟨x,H1,I1,r1,q1⟩=> ?_) hs hw;rw[h1];exact aH (hg pins s1 σ H1 x v _ I1 r1 q1) fun _ s2 q=>q
theorem aP{i:Nat}{x:Str}{e:aG}{te:TE}{pos':Pos}(hN:X.N.Nodup)(hi:X.N[i]? =some x)(hx:Loc X.env.scope x)(he:PE X e te)(hs:swapsWith e (some (.Name x pos')) pos.line X.env=pure false:=by rfl)(hf:X.fn x=true\/X.env.scope.names.lookup x=some .local:=by first|exact .inl rfl|exact .inr rfl|assumption):
  PS X (.Assign [.Name x pos'] e pos) (yp te (mY i)):=by
 intro pins s σ H D I h;refine wpAny_Assign_Name (aH (he pins s σ H _ I h) fun v s1 ⟨y,H1,I1,r1,q1⟩=> ?_) hs;exact BE I1 hN hi hx r1 (fun s2 I2=>⟨_,H1,I2,q1⟩) hf
def Rg(i:Nat)(te:TE)(ti:rQ):TS:=fun D σ H=>∃x,σ[i]? =some (some x)/\te σ H fun y H1=>ti x y H1 fun z H2=>D.nx (σ.set i (some z)) H2
theorem BK{i:Nat}{x:Str}{e:aG}{te:TE}{op:rF}{ti:rQ}{pos':Pos}(hN:X.N.Nodup)(hi:X.N[i]? =some x)(hx:Loc X.env.scope x)(he:PE X e te)(ho:ym X op ti)(hf:X.fn x=true\/X.env.scope.names.lookup x=some .local:=by first|exact .inl rfl|exact .inr rfl|assumption):
  PS X (.AugAssign (.Name x pos') op e pos) (Rg i te ti):=by
 intro pins s σ H D I h;obtain⟨v,e1,h⟩:=h;obtain⟨m,hn,hl⟩:=I.loc;have vis:rO X.env.scope x:=by rcases hx with k|k;exact .inl k;exact .inr (.inl k)
 obtain⟨u,r,l⟩:=hl i x v hi e1 vis;refine wpAny_AugAssign_Name ?_;have go:wpAny (model X.prog X.w) X.A (eval e X.env) (fun w s₂=>wpAny (model X.prog X.w) X.A (inplaceOp op u w) (fun r s₃=>wpAny (model X.prog X.w) X.A (storeName X.env x r) (fun _=>SP X pins D .next) X.xe s₃) X.xe s₂) X.xe s:=by
  refine aH (he pins s σ H _ I h) fun w s1 ⟨y,H1,I1,r1,q1⟩=> ?_;refine aH (ho pins s1 σ H1 v y u w _ I1 r r1 q1) fun z s2 ⟨zv,H2,I2,r2,q2⟩=> ?_;exact BE I2 hN hi hx r2 (fun s3 I3=>⟨_,H2,I3,q2⟩) hf
 rcases l with⟨hk,hm⟩|⟨hk,c,hc,oN⟩
 ·exact A7 I.ok.kind hk hn hm go
 ·rcases hk with hk|hk
  ·exact wpAny_loadName_cell I.ok.kind hk hc oN go
  ·rcases hx with k|k
   ·have:X.env.scope.names.lookup x=some .free:=hk;rw[k] at this;cases this
   ·have:X.env.scope.names.lookup x=some .free:=hk;rw[k] at this;cases this
def Rh(to ti te:TE)(tget:V->V->Hp->VK->Prop)(tip:rQ)(tset:vd):TS:=fun D σ H=>to σ H fun o H1=>ti σ H1 fun i H2=>tget o i H2 fun x H3=>te σ H3 fun y H4=>tip x y H4 fun z H5=>tset o i z H5 fun H6=>D.nx σ H6
def IS(X:Cx)(t:V->V->Hp->VK->Prop):Prop:=
 ∀(pins:List (aa×Obj)) (s:ak) (σ:St) (H:Hp) (o i:V) (ov iv:ab) (Q:VK),Inv X pins σ H s->RelV o ov->RelV i iv->t o i H Q->
  wpAny (model X.prog X.w) X.A (getItem ov iv) (EP X pins σ Q) X.xe s
theorem Ri{o i e:aG}{to ti te:TE}{tget:V->V->Hp->VK->Prop}{tip:rQ}{tset:vd}{op:rF}{dP:Pos}(ho:PE X o to)(hi:PE X i ti)(hg:IS X tget)(he:PE X e te)(hp:ym X op tip)(hs:BI X tset)
  (ha:∀ov iv new,augStore i ov iv new=(do holding [new,ov,iv] (setItem ov iv new);release [new,ov,iv] [];pure .next):=by intros;rfl):PS X (.AugAssign (.Subscript o i dP) op e pos) (Rh to ti te tget tip tset):=by
 intro pins s σ H D I h;refine aeB (aH (ho pins s σ H _ I h) fun ov s1 ⟨x1,H1,I1,r1,q1⟩=> ?_) ha;refine aH (hi pins s1 σ H1 _ I1 q1) fun iv s2 ⟨x2,H2,I2,r2,q2⟩=> ?_;refine aH (hg pins s2 σ H2 x1 x2 ov iv _ I2 r1 r2 q2) fun old s3 ⟨x3,H3,I3,r3,q3⟩=> ?_;refine aH (he pins s3 σ H3 _ I3 q3) fun v s4 ⟨x4,H4,I4,r4,q4⟩=> ?_;refine aH (hp pins s4 σ H4 x3 x4 old v _ I4 r3 r4 q4) fun new s5 ⟨x5,H5,I5,r5,q5⟩=> ?_;exact aH (hs pins s5 σ H5 x1 x2 x5 ov iv new _ I5 r1 r2 r5 q5) fun _ s6 ⟨H6,I6,q6⟩=>⟨σ,H6,I6,q6⟩
def IT(f:Int->Int->Int):rQ:=fun x y H Q=>∃i j,x= .int i/\y= .int j/\Q (.int (f i j)) H
theorem BL:ym X .Add (IT fun i j=>i+j):=by
 intro pins s σ H x y v u Q I r1 r2 h;obtain⟨i,j,e1,e2,q⟩:=h;subst e1;subst e2;obtain⟨t,rfl⟩:=r1;obtain⟨t',rfl⟩:=r2;exact iadd_int ⟨.int _,H,I.tok _,⟨_,rfl⟩,q⟩
theorem Rj:ym X .Sub (IT fun i j=>i-j):=by
 intro pins s σ H x y v u Q I r1 r2 h;obtain⟨i,j,e1,e2,q⟩:=h;subst e1;subst e2;obtain⟨t,rfl⟩:=r1;obtain⟨t',rfl⟩:=r2;exact isub_int ⟨.int _,H,I.tok _,⟨_,rfl⟩,q⟩
end
section
variable{X:Cx}{pos:Pos}
def Rk(c:TT)(tb:TS):TS:=fun D σ H=>∃W:Nat->St->Hp->Prop,(∃m,W m σ H)/\∀m σ H,W m σ H->
 c σ H fun b H1=>if b=true then ∃N:St->Hp->Prop,(∀σ' H',N σ' H'->∃m',m'<m/\W m' σ' H')/\tb {D with nx:=N,ct:=N,bk:=D.nx} σ H1 else D.nx σ H1
theorem vf{c:aG}{body:List aL}{tc:TT}{tb:TS}(hp:PassesOwn (model X.prog X.w) X.A X.env X.xe)(hc:PT X c tc)(hb:gT X body tb):PS X (.While c body [] pos) (Rk tc tb):=by
 intro pins s σ H D I h;obtain⟨W,⟨m0,w0⟩,turn⟩:=h;refine wpAny_While (codeAny_whileLoop (fun n s'=>∃σ' H',Inv X pins σ' H' s'/\W n σ' H') ?_ m0 ⟨σ,H,I,w0⟩);rintro n s1 ⟨σ1,H1,I1,w1⟩;refine uN hp (aH (hc pins s1 σ1 H1 _ I1 (turn n σ1 H1 w1)) fun b s2 ⟨H2,I2,q2⟩=> ?_);cases b with
 |true=>
  obtain⟨N,hN,q2⟩:=q2
  rw[if_pos rfl]
  refine uN hp (aH (hb pins s2 σ1 H2 _ I2 q2) fun f s3 q3=> ?_)
  cases f with
  |next=>
   obtain⟨σ3,H3,I3,n3⟩:=q3
   obtain⟨m',hm,w3⟩:=hN σ3 H3 n3
   exact⟨m',hm,σ3,H3,I3,w3⟩
  |cont=>
   obtain⟨σ3,H3,I3,n3⟩:=q3
   obtain⟨m',hm,w3⟩:=hN σ3 H3 n3
   exact⟨m',hm,σ3,H3,I3,w3⟩
  |brk=>exact q3
  |ret v=>exact q3
 |false=>
  rw[if_neg df]
  exact Ir ⟨σ1,H2,I2,q2⟩
end
structure It where
 go:Nat->Hp->Prop
 fP:Nat->Hp->V->Hp->Prop
 stop:Nat->Hp->Prop
def jP(X:Cx)(pins:List (aa×Obj))(H:Hp)(b:aa):Prop:=
 H b=none/\b≠X.env.locals/\b∉X.fs/\(b∈X.ex\/X.fJ.heap.objs.size<=b)/\(∀x c,X.env.cells.lookup x=some c->c≠b)/\∀p∈X.pn++pins,p.1≠b
theorem Inv.oT{X:Cx}{pins:List (aa×Obj)}{σ:St}{H H':Hp}{s:ak}{b:aa}(I:Inv X pins σ H s)(hb:s.heap.objs.size<=b)(hn:H' b=none):jP X pins H' b:=by
 refine⟨hn,jh (d6 I.lt hb),I.QS hb,.inr (dr I.sz hb),fun x c e z=> ?_,fun p hp z=> ?_⟩
 ·obtain⟨v,q⟩:=I.cell x c e;exact absurd (d6 q.lt (by rw[z];exact hb)) (mP _)
 ·exact absurd (d6 (br (I.pin p hp).1) (by rw[z];exact hb)) (mP _)
structure Turn(P:bg)(w:aW)(K:aC)(tg:aG)(J:It)(fp:List aa)(it:aa)(tn:Nat->aB->Prop):Prop where
 mem:it∈fp
 obj:∀i h,tn i h->∀b∈fp,∃o,h.get? b=some o/\∀v,o.data≠.cell v
 keep:∀i h h',tn i h->(∀b∈fp,∀o,h.get? b=some o->h'.get? b=some o)->tn i h'
 item:∀(X:Cx),X.prog=P->X.w=w->X.K=K->X.calm=true->∀(i:Nat) (pins:List (aa×Obj)) (s:ak) (σ:St) (H:Hp) (E:ab->ak->Prop),Inv X pins σ H s->(∀b∈fp,jP X pins H b)->tn i s.heap->J.go i H->
  wpAny (model P w) X.A (pyNext (.ref it)) (fun r s1=>∃u,r=some u/\
   wpAny (model P w) X.A (letOwnedTupleGo tg (.ref it) u) (fun _ s2=>∃x H',Inv X pins σ H' s2/\RelV x u/\J.fP i H x H'/\tn (i+1) s2.heap/\∀b∈fp,H' b=none) E s1) E s
 done:∀(X:Cx),X.prog=P->X.w=w->X.K=K->X.calm=true->∀(i:Nat) (pins:List (aa×Obj)) (s:ak) (σ:St) (H:Hp) (E:ab->ak->Prop),Inv X pins σ H s->(∀b∈fp,jP X pins H b)->tn i s.heap->J.stop i H->
  wpAny (model P w) X.A (pyNext (.ref it)) (fun r s1=>r=none/\Inv X pins σ H s1) E s
 self:∀(A:bY) (i:Nat) (s:ak) (Q:ab->ak->Prop) (E:ab->ak->Prop),tn i s.heap->Q (.ref it) s->wpAny (model P w) A (pyIter (.ref it)) Q E s
abbrev TI:=St->Hp->(It->Hp->Prop)->Prop
def vg(X:Cx)(pins:List (aa×Obj))(σ:St)(tg:aG)(R:It->Hp->Prop)(itv:ab)(s2:ak):Prop:=
 ∃(it:aa) (fp:List aa) (tn:Nat->aB->Prop) (J:It) (H':Hp),itv= .ref it/\Inv X pins σ H' s2/\Turn X.prog X.w X.K tg J fp it tn/\tn 0 s2.heap/\(∀b∈fp,jP X pins H' b)/\R J H'
def PI(X:Cx)(tg iter:aG)(wi:TI):Prop:=
 ∀(pins:List (aa×Obj)) (s:ak) (σ:St) (H:Hp) (R:It->Hp->Prop),Inv X pins σ H s->wi σ H R->
  wpAny (model X.prog X.w) X.A (eval iter X.env) (fun v s1=>wpAny (model X.prog X.w) X.A (pyIter v) (vg X pins σ tg R) X.xe s1) X.xe s
theorem vh{M:Model}{A:bY}{E:ab->ak->Prop}{s:ak}{tg:aG}{it:aa}{u:ab}{o:Obj}{n:String}{vs:Array ab}{Q:Unit->ak->Prop}(ho:s.heap.get? it=some o)(hc:o.cls= .type n)(hd:o.data= .fields vs)
  (hn:["enumerate","zip","dict_itemiterator","dict_reverseitemiterator","odict_iterator","itertools.zip_longest","itertools.pairwise"].contains n=false) (hQ:Q () s):wpAny M A (letOwnedTupleGo tg (.ref it) u) Q E s:=by
 unfold letOwnedTupleGo;cases tg<;>first
  |exact aO hQ
  |(cases u<;>first
    |exact aO hQ
    |(refine aq (wpAny_load ho ?_)
      rw[hc,hd]
      show wpAny M A (if (["enumerate","zip","dict_itemiterator","dict_reverseitemiterator","odict_iterator","itertools.zip_longest","itertools.pairwise"].contains n&&vs[0]? ==some (rawInt _))=true then _ else _) Q E s
      rw[if_neg (by intro h;rw[hn,Bj] at h;cases h)]
      exact aO hQ))
def iY(K:aC)(a:aa):It:=
 ⟨fun i H=>∃xs x,ah K H a xs/\xs[i]? =some x,fun i H x H'=>H'=H/\∀xs,ah K H a xs->xs[i]? =some x,fun i H=>∃xs,ah K H a xs/\xs.length<=i⟩
def kE(lo:Int)(n:Nat):It:=⟨fun i _=>i<n,fun i H x H'=>H'=H/\x= .int (lo+i),fun i _=>n<=i⟩
theorem Rl{P:bg}{w:aW}{K:aC}{tg:aG}(a it:aa):Turn P w K tg (iY K a) [it] it (fun i h=>h.IsListIter it a i) where
 mem:=by simp
 obj:=fun i h st b hb=>by
  have e:b=it:=by simpa using hb
  subst e;obtain⟨o,e,c,d⟩:=st;exact⟨o,e,fun v z=>by rw[d] at z;cases z⟩
 keep:=fun i h h' st k=>st.at fun o e=>k it (by simp) o e
 item:=by
  intro X hP hw hK hc i pins s σ H E I hf st hg;subst hP hw hK;obtain⟨xs,x,hq,hx⟩:=hg;obtain⟨aj,rv,p,hz⟩:=I.list hq;obtain⟨u,hu,ru⟩:=rv.get hx;obtain⟨f0,f1,f2,f3,f4,f5⟩:=hf it (by simp);refine wpAny_pyNext_list_item st p.isList (x:=u) (by simpa using hu) fun h' st' sb=> ?_;have I1:Inv X pins σ H {s with heap:=h'}:=I.turned (t':=s.toks) (fun b o hb e=>(sb.2 b hb).trans e) f0 f1 f3 f4 f5;obtain⟨o,e,c,d⟩:=id st';exact⟨u,rfl,vh (s:={s with heap:=h'}) e c d (by decide) ⟨x,H,I1,ru,⟨rfl,fun ys hy=>by rw[I.oO hy hq];exact hx⟩,st',fun b hb=>(hf b hb).1⟩⟩
 done:=by
  intro X hP hw hK hc i pins s σ H E I hf st hg;subst hP hw hK;obtain⟨xs,hq,hx⟩:=hg;obtain⟨aj,rv,p,hz⟩:=I.list hq;obtain⟨f0,f1,f2,f3,f4,f5⟩:=hf it (by simp);have hl:=rv.length;exact wpAny_pyNext_list_end (I.ok.hd hc) st p.isList (by simp;omega) fun h' eb=>⟨rfl,I.turned (t':=s.toks) (fun b o hb e=>eb b o hb e) f0 f1 f3 f4 f5⟩
 self:=fun _ _ _ _ _ st h=>wpAny_pyIter_listiter st h
theorem Rm{P:bg}{w:aW}{K:aC}{tg:aG}(it:aa)(lo:Int)(n:Nat):Turn P w K tg (kE lo n) [it] it (fun i h=>IsRangeIter h it (lo+(i:Nat)*1) ((n:Int)-(i:Nat)) 1) where
 mem:=by simp
 obj:=fun i h st b hb=>by
  have e:b=it:=by simpa using hb
  subst e;exact⟨_,st,fun v z=>by
   have z':Data.fields _=Data.cell v:=z;cases z'⟩
 keep:=fun i h h' st k=>k it (by simp) _ st
 item:=by
  intro X hP hw hK hc i pins s σ H E I hf st hg;subst hP hw hK;obtain⟨f0,f1,f2,f3,f4,f5⟩:=hf it (by simp);have W:=Walks.range (prog:=X.prog) (w:=X.w) (I.ok.hd hc) it lo 1 n;refine W.item i s _ _ hg st fun v h' tk hv st' kk=> ?_;obtain⟨t,rfl⟩:=hv;have I1:Inv X pins σ H {s with heap:=h',toks:=tk}:=I.turned (fun b o hb e=>kk b o (by simpa using hb) e) f0 f1 f3 f4 f5;refine⟨_,rfl,vh (s:={s with heap:=h',toks:=tk}) (n:="range_iterator") st' rfl rfl (by decide) ⟨.int (lo+i),H,I1,⟨t,?_⟩,⟨rfl,rfl⟩,st',fun b hb=>(hf b hb).1⟩⟩;rw[Int.mul_one]
 done:=by
  intro X hP hw hK hc i pins s σ H E I hf st hg;subst hP hw hK;obtain⟨f0,f1,f2,f3,f4,f5⟩:=hf it (by simp);exact wpAny_pyNext_range_end (I.ok.hd hc) st (by have:n<=i:=hg;omega) fun h' eb=>⟨rfl,I.turned (t':=s.toks) (fun b o hb e=>eb b o hb e) f0 f1 f3 f4 f5⟩
 self:=fun _ _ _ _ _ st h=>wpAny_pyIter_rangeiter st h
section
variable{X:Cx}{tg:aG}
def IU(K:aC)(tl:TE):TI:=fun σ H R=>tl σ H fun x H1=>∃a,x= .ref a/\(∃xs,ah K H1 a xs)/\R (iY K a) H1
theorem Rn{l:aG}{tl:TE}(hl:PE X l tl):PI X tg l (IU X.K tl):=by
 intro pins s σ H R I h;refine aH (hl pins s σ H _ I h) fun v s1 ⟨x,H1,I1,r1,q1⟩=> ?_;obtain⟨a,e,⟨xs,hq⟩,q⟩:=q1;subst e;cases r1;obtain⟨aj,rv,p,hz⟩:=I1.list hq;refine uE p.isList ?_;refine⟨s1.heap.objs.size,[s1.heap.objs.size],_,_,H1,rfl,I1.kept (t':=s1.toks) fun b o e=>cx _ e,Rl a _,⟨_,cG _ rfl,rfl,rfl⟩,fun b hb=> ?_,q⟩;have e:b=s1.heap.objs.size:=by simpa using hb
 subst e;exact I1.oT (aI _) (I1.az.fresh (aI _))
theorem IV{pins:List (aa×Obj)}{σ:St}{H:Hp}{s:ak}{R:It->Hp->Prop}{E:ab->ak->Prop}{lo hi:Int}{t u v:Tok}{tk:Nat}(I:Inv X pins σ H s)(h1: -(2^62)<=lo)(h2:lo<2^62)(h3: -(2^62)<=hi)(h4:hi<2^62)
  (q:R (kE lo (hi-lo).toNat) H):wpAny (model X.prog X.w) X.A (pyIter (.ref s.heap.objs.size)) (vg X pins σ tg R) E {s with heap:=s.heap.push {cls:= .type "range",data:= .fields #[.int lo t,.int hi u,.int 1 v]},toks:=tk}:=by
 refine wpAny_pyIter_range (IsRange.new ..) (small_one h1 h2 h3 h4) ?_;have I1:Inv X pins σ H {s with heap:=s.heap.push {cls:= .type "range",data:= .fields #[.int lo t,.int hi u,.int 1 v]},toks:=tk}:=I.kept fun b o e=>cx _ e;refine⟨(s.heap.push {cls:= .type "range",data:= .fields #[.int lo t,.int hi u,.int 1 v]}).objs.size,[(s.heap.push {cls:= .type "range",data:= .fields #[.int lo t,.int hi u,.int 1 v]}).objs.size],_,_,H,rfl,
  I1.kept (t':=tk) fun b o e=>cx _ e,Rm _ lo (hi-lo).toNat,?_,fun b hb=> ?_,q⟩
 ·have e1:lo+((0:Nat):Int)*1=lo:=by simp
  have e2:(((hi-lo).toNat:Nat):Int)-((0:Nat):Int)=Ht lo hi 1:=by rw[rangeSize_one];split<;>omega
  show IsRangeIter _ _ (lo+((0:Nat):Int)*1) ((((hi-lo).toNat:Nat):Int)-((0:Nat):Int)) 1;rw[e1,e2];exact cG _ rfl
 ·have e:b=(s.heap.push {cls:= .type "range",data:= .fields #[.int lo t,.int hi u,.int 1 v]}).objs.size:=by simpa using hb
  subst e;exact I1.oT (aI _) (I1.az.fresh (aI _))
def Ro(ta:TA):TI:=fun σ H R=>ta σ H fun vs H1=>∃j:Int,vs=[.int j]/\ -(2^62)<=j/\j<2^62/\R (kE 0 j.toNat) H1
def Rp(ta:TA):TI:=fun σ H R=>ta σ H fun vs H1=>∃i j:Int,vs=[.int i,.int j]/\(-(2^62)<=i/\i<2^62/\ -(2^62)<=j/\j<2^62)/\R (kE i (j-i).toNat) H1
theorem Rq{a:aG}{ta:TA}{p pos:Pos}(hg:Gl X "range")(hm:X.mg "range"=none)(ha:PA X [a] ta)(hs:starEach [a] X.env=[(false,eval a X.env)]:=by rfl):PI X tg (.Call (.Name "range" p) [a] [] pos) (Ro ta):=by
 intro pins s σ H R I h;refine Call_ (kD I hg hm boot_range (qU (aH (ha pos pins s σ H _ I h) fun us s1 ⟨vs,H1,I1,r1,q1⟩=> ?_) hs rfl));obtain⟨j,e,q1,q2,q⟩:=q1;subst e;cases r1 with
 |cons r rr=>
  cases rr
  obtain⟨t,rfl⟩:=r
  exact call_range_1 (IV I1 (by omega) (by omega) q1 q2 (by simpa using q))
theorem Rr{a b:aG}{ta:TA}{p pos:Pos}(hg:Gl X "range")(hm:X.mg "range"=none)(ha:PA X [a,b] ta)(hs:starEach [a,b] X.env=[(false,eval a X.env),(false,eval b X.env)]:=by rfl)(jQ:starEach [b] X.env=[(false,eval b X.env)]:=by rfl):
  PI X tg (.Call (.Name "range" p) [a,b] [] pos) (Rp ta):=by
 intro pins s σ H R I h;refine Call_ (kD I hg hm boot_range (qU (aH (ha pos pins s σ H _ I h) fun us s1 ⟨vs,H1,I1,r1,q1⟩=> ?_) (by rw[hs,jQ]) (by rw[jQ];rfl)));obtain⟨i,j,e,⟨q1,q2,q3,q4⟩,q⟩:=q1;subst e;cases r1 with
 |cons r rr=>
  cases rr with
  |cons r' rr=>
   cases rr
   obtain⟨t,rfl⟩:=r
   obtain⟨t',rfl⟩:=r'
   exact call_range_2 (IV I1 q1 q2 q3 q4 q)
def Rt(wi:TI)(g:TG)(tb:TS):TS:=fun D σ H=>wi σ H fun J H1=>∃W:Nat->Nat->St->Hp->Prop,(∃m,W 0 m σ H1)/\∀i m σ H,W i m σ H->
 (J.stop i H/\D.nx σ H)\/(J.go i H/\∃N:St->Hp->Prop,(∀σ' H',N σ' H'->∃m',m'<m/\W (i+1) m' σ' H')/\∀x H',J.fP i H x H'->g x σ H' fun σ2 H2=>tb {D with nx:=N,ct:=N,bk:=D.nx} σ2 H2)
def vi(fp:List aa)(h:aB):List (aa×Obj):=fp.filterMap fun b=>(h.get? b).map fun o=>(b,o)
theorem BM{fp:List aa}{h:aB}{b:aa}{o:Obj}(hb:b∈fp)(e:h.get? b=some o):(b,o)∈vi fp h:=HI.mpr ⟨b,hb,by rw[e];rfl⟩
theorem Ru{fp:List aa}{h:aB}{p:aa×Obj}(hp:p∈vi fp h):p.1∈fp/\h.get? p.1=some p.2:=by
 obtain⟨b,hb,e⟩:=HI.mp hp;cases q:h.get? b with
 |none=>rw[q] at e;cases e
 |some o=>
  rw[q] at e
  have e':(b,o)=p:=fe e
  subst e'
  exact⟨hb,q⟩
theorem Inv.pinned{pins:List (aa×Obj)}{σ:St}{H:Hp}{s:ak}{fp:List aa}(I:Inv X pins σ H s)(hf:∀b∈fp,jP X pins H b)(ho:∀b∈fp,∃o,s.heap.get? b=some o/\∀v,o.data≠.cell v):Inv X (pins++vi fp s.heap) σ H s:=
 I.IJ fun p hp=>(ff.mp hp).elim (fun z=>I.pin p (qX _ z)) fun z=>by
  obtain⟨hb,e⟩:=Ru z;obtain⟨f0,f1,f2,_⟩:=hf p.1 hb;obtain⟨o,e',d⟩:=ho p.1 hb;rw[e] at e';cases e';exact⟨e,f0,f1,f2,d⟩
theorem Inv.yq{pins pl:List (aa×Obj)}{σ:St}{H:Hp}{s:ak}(I:Inv X (pins++pl) σ H s):Inv X pins σ H s:=I.IJ fun p hp=>I.pin p (qX _ (Pt _ hp))
theorem iF{iter:aG}{body:List aL}{wi:TI}{g:TG}{tb:TS}{pos:Pos}(hp:PassesOwn (model X.prog X.w) X.A X.env X.xe)(hc:X.calm=true)(hi:PI X tg iter wi)(hg:PG X tg g)(hb:gT X body tb)
  (hs:∀x,foldedSetIterable iter X.env x=pure x:=by intro _;rfl):PS X (.For tg iter body [] pos) (Rt wi g tb):=by
 intro pins s σ H D I h;refine wpAny_For (aH (hi pins s σ H _ I h) fun v s1 h1=>aH h1 fun itv s2 h2=> ?_) hs;obtain⟨it,fp,tn,J,H2,e,I2,T,st2,f2,W,⟨m0,w0⟩,turn⟩:=h2;subst e;have stat:∀{H':Hp},(∀b∈fp,H' b=none)->∀b∈fp,jP X pins H' b:=fun hn b hb=>⟨hn b hb,(f2 b hb).2⟩;refine codeAny_forLoop_any (fun n s'=>∃i σ' H',Inv X pins σ' H' s'/\tn i s'.heap/\(∀b∈fp,H' b=none)/\W i n σ' H') ?_ m0 ⟨0,σ,H2,I2,st2,fun b hb=>(f2 b hb).1,w0⟩;rintro n s3 ⟨i,σ3,H3,I3,st3,fr3,w3⟩;rcases turn i n σ3 H3 w3 with⟨stop,qn⟩|⟨go,N,hN,step⟩
 ·refine uN hp (aH (T.done X rfl rfl rfl hc i pins s3 σ3 H3 X.xe I3 (stat fr3) st3 stop) fun r s4 ⟨hr,I4⟩=> ?_);subst hr;exact Ir ⟨σ3,H3,I4,qn⟩
 ·refine uN hp (aH (T.item X rfl rfl rfl hc i pins s3 σ3 H3 X.xe I3 (stat fr3) st3 go) fun r s4 ⟨u,hr,h4⟩=> ?_);subst hr;refine uN hp (aH h4 fun _ s5 ⟨x,H5,I5,r5,y5,st5,fr5⟩=> ?_);have I5':=I5.pinned (stat fr5) (T.obj _ _ st5);refine uN hp (aH (hg _ s5 σ3 H5 x u _ I5' r5 (step x H5 y5)) fun _ s6 ⟨σ6,H6,I6,q6⟩=> ?_);refine uN hp (aH (hb _ s6 σ6 H6 _ I6 q6) fun f s7 q7=> ?_);have again:∀{σ7:St} {H7:Hp},Inv X (pins++vi fp s5.heap) σ7 H7 s7->N σ7 H7->∃m,m<n/\∃i σ' H',Inv X pins σ' H' s7/\tn i s7.heap/\(∀b∈fp,H' b=none)/\W i m σ' H':=fun {σ7 H7} I7 n7=>by
   obtain⟨m',hm,w7⟩:=hN σ7 H7 n7;refine⟨m',hm,i+1,σ7,H7,I7.yq,T.keep _ _ _ st5 fun b hb o e=>(I7.pin (b,o) (qX _ (qX _ (BM hb e)))).1,fun b hb=> ?_,w7⟩;obtain⟨o,e,d⟩:=T.obj _ _ st5 b hb;exact(I7.pin (b,o) (qX _ (qX _ (BM hb e)))).2.1
  cases f with
  |next=>obtain⟨σ7,H7,I7,n7⟩:=q7;exact again I7 n7
  |cont=>obtain⟨σ7,H7,I7,n7⟩:=q7;exact again I7 n7
  |brk=>obtain⟨σ7,H7,I7,q7⟩:=q7;exact⟨σ7,H7,I7.yq,q7⟩
  |ret v=>obtain⟨x7,σ7,H7,I7,r7,q7⟩:=q7;exact⟨x7,σ7,H7,I7.yq,r7,q7⟩
end
theorem lV{K:aC}{a:aa}{xs:List V}{g:TG}{tb:TS}{D:Ends}{σ:St}{H:Hp}(Pv:Nat->St->Hp->Prop)(h0:Pv 0 σ H)(hl:∀i σ H,i<=xs.length->Pv i σ H->ah K H a xs)
  (hs:∀i x σ H,xs[i]? =some x->Pv i σ H->g x σ H fun σ2 H2=>tb {D with nx:=Pv (i+1),ct:=Pv (i+1),bk:=D.nx} σ2 H2) (hd:∀σ H,Pv xs.length σ H->D.nx σ H):
  ∃W:Nat->Nat->St->Hp->Prop,(∃m,W 0 m σ H)/\∀i m σ H,W i m σ H->
   ((iY K a).stop i H/\D.nx σ H)\/((iY K a).go i H/\∃N:St->Hp->Prop,(∀σ' H',N σ' H'->∃m',m'<m/\W (i+1) m' σ' H')/\∀x H',(iY K a).fP i H x H'->g x σ H' fun σ2 H2=>tb {D with nx:=N,ct:=N,bk:=D.nx} σ2 H2):=by
 refine⟨fun i m σ H=>m=xs.length-i/\i<=xs.length/\Pv i σ H,⟨xs.length,by simp,du _,h0⟩,?_⟩;rintro i m σ H ⟨rfl,hi,p⟩;have q:=hl i σ H hi p;by_cases aY:i<xs.length
 ·refine .inr ⟨⟨xs,xs[i],q,by simp[aY]⟩,Pv (i+1),fun σ' H' p'=>⟨xs.length-(i+1),by omega,rfl,aY,p'⟩,fun x H' y=> ?_⟩;obtain⟨e,y⟩:=y;subst e;exact hs i x σ _ (y xs q) p
 ·have e:i=xs.length:=by omega
  subst e;exact .inl ⟨⟨xs,q,aI _⟩,hd σ H p⟩
theorem Rv{lo:Int}{n:Nat}{g:TG}{tb:TS}{D:Ends}{σ:St}{H:Hp}(Pv:Nat->St->Hp->Prop)(h0:Pv 0 σ H)
  (hs:∀i σ H,i<n->Pv i σ H->g (.int (lo+i)) σ H fun σ2 H2=>tb {D with nx:=Pv (i+1),ct:=Pv (i+1),bk:=D.nx} σ2 H2) (hd:∀σ H,Pv n σ H->D.nx σ H):
  ∃W:Nat->Nat->St->Hp->Prop,(∃m,W 0 m σ H)/\∀i m σ H,W i m σ H->
   ((kE lo n).stop i H/\D.nx σ H)\/((kE lo n).go i H/\∃N:St->Hp->Prop,(∀σ' H',N σ' H'->∃m',m'<m/\W (i+1) m' σ' H')/\∀x H',(kE lo n).fP i H x H'->g x σ H' fun σ2 H2=>tb {D with nx:=N,ct:=N,bk:=D.nx} σ2 H2):=by
 refine⟨fun i m σ H=>m=n-i/\i<=n/\Pv i σ H,⟨n,by simp,du _,h0⟩,?_⟩;rintro i m σ H ⟨rfl,hi,p⟩;by_cases aY:i<n
 ·refine .inr ⟨aY,Pv (i+1),fun σ' H' p'=>⟨n-(i+1),by omega,rfl,aY,p'⟩,fun x H' y=> ?_⟩;obtain⟨e,y⟩:=y;subst e y;exact hs i σ _ aY p
 ·have e:i=n:=by omega
  subst e;exact .inl ⟨aI _,hd σ H p⟩
abbrev R2:=V->V->Hp->VK->Prop
def eh(X:Cx)(f:ab->ab->Sem ab)(r:R2):Prop:=
 ∀(pins:List (aa×Obj)) (s:ak) (σ:St) (H:Hp) (x y:V) (v u:ab) (Q:VK),Inv X pins σ H s->RelV x v->RelV y u->r x y H Q->
  wpAny (model X.prog X.w) X.A (f v u) (EP X pins σ Q) X.xe s
def BN(X:Cx)(f:ab->Sem ab)(r:V->Hp->VK->Prop):Prop:=
 ∀(pins:List (aa×Obj)) (s:ak) (σ:St) (H:Hp) (x:V) (v:ab) (Q:VK),Inv X pins σ H s->RelV x v->r x H Q->
  wpAny (model X.prog X.w) X.A (f v) (EP X pins σ Q) X.xe s
def fK(X:Cx)(f:ab)(r:List V->Hp->VK->Prop):Prop:=
 ∀(pins:List (aa×Obj)) (s:ak) (σ:St) (H:Hp) (xs:List V) (us:List ab) (Q:VK),Inv X pins σ H s->Vals xs us->r xs H Q->
  wpAny (model X.prog X.w) X.A (call f us) (EP X pins σ Q) X.xe s
def yr(r:R2)(ta tb:TE):TE:=fun σ H Q=>ta σ H fun x H1=>tb σ H1 fun y H2=>r x y H2 Q
def Rw(r:V->Hp->VK->Prop)(ta:TE):TE:=fun σ H Q=>ta σ H fun x H1=>r x H1 Q
def rI(C:Int->Int->Prop)(g:Int->Int->V):R2:=fun x y H Q=>∃i j,x= .int i/\y= .int j/\C i j/\Q (g i j) H
def mZ(g:Int->Int->V):R2:=fun x y H Q=>∃i j,x= .int i/\y= .int j/\Q (g i j) H
def rU(g:Int->V):V->Hp->VK->Prop:=fun x H Q=>∃i,x= .int i/\Q (g i) H
section
variable{X:Cx}{a b c:aG}{ta tb tc:TE}{pos:Pos}
theorem BO(ha:PE X a ta)(hb:PE X b tb){pins:List (aa×Obj)}{s:ak}{σ:St}{H:Hp}{R:V->V->Hp->Prop}(I:Inv X pins σ H s)
  (h:ta σ H fun x H1=>tb σ H1 fun y H2=>R x y H2) {Q:ab->ak->Prop} {f:ab->ab->Sem ab}
  (hf:∀v u s2 x y H2,Inv X pins σ H2 s2->RelV x v->RelV y u->R x y H2->wpAny (model X.prog X.w) X.A (f v u) Q X.xe s2):
  wpAny (model X.prog X.w) X.A (eval a X.env) (fun v s₁=>wpAny (model X.prog X.w) X.A (eval b X.env) (fun u s₂=>wpAny (model X.prog X.w) X.A (f v u) Q X.xe s₂) X.xe s₁) X.xe s:=by
 refine aH (ha pins s σ H _ I h) fun v s1 ⟨x,H1,I1,r1,q1⟩=> ?_;refine aH (hb pins s1 σ H1 _ I1 q1) fun u s2 ⟨y,H2,I2,r2,q2⟩=> ?_;exact hf v u s2 x y H2 I2 r1 r2 q2
theorem cp{op:rF}{r:R2}(ho:eh X (binaryOp op) r)(ha:PE X a ta)(hb:PE X b tb):PE X (.BinOp a op b pos) (yr r ta tb):=by
 intro pins s σ H Q I h;exact wpAny_BinOp (BO ha hb I h fun v u s2 x y H2 I2 rx ry q=>ho pins s2 σ H2 x y v u Q I2 rx ry q)
theorem IW{op:UnaryOp}{r:V->Hp->VK->Prop}(ho:BN X (unaryOp op) r)(ha:PE X a ta):PE X (.UnaryOp op a pos) (Rw r ta):=by
 intro pins s σ H Q I h;exact UnaryOp_ (aH (ha pins s σ H _ I h) fun v s1 ⟨x,H1,I1,r1,q1⟩=>ho pins s1 σ H1 x v Q I1 r1 q1)
theorem BP{f:ab->ab->Sem ab}{C:Int->Int->Prop}{g:Int->Int->Int}
  (rule:∀(i j:Int) (t u:Tok) (s:ak) (Q:ab->ak->Prop) (E:ab->ak->Prop),C i j->Q (.int (g i j) s.toks) {s with toks:=s.toks+1}->wpAny (model X.prog X.w) X.A (f (.int i t) (.int j u)) Q E s):
  eh X f (rI C fun i j=> .int (g i j)):=by
 intro pins s σ H x y v u Q I rx ry h;obtain⟨i,j,rfl,rfl,hc,q⟩:=h;obtain⟨t,rfl⟩:=rx;obtain⟨t',rfl⟩:=ry;exact rule i j t t' s _ _ hc ⟨.int (g i j),H,I.tok _,⟨_,rfl⟩,q⟩
theorem BQ{f:ab->ab->Sem ab}{g:Int->Int->Int}
  (rule:∀(i j:Int) (t u:Tok) (s:ak) (Q:ab->ak->Prop) (E:ab->ak->Prop),Q (.int (g i j) s.toks) {s with toks:=s.toks+1}->wpAny (model X.prog X.w) X.A (f (.int i t) (.int j u)) Q E s):
  eh X f (mZ fun i j=> .int (g i j)):=by
 intro pins s σ H x y v u Q I rx ry h;obtain⟨i,j,rfl,rfl,q⟩:=h;obtain⟨t,rfl⟩:=rx;obtain⟨t',rfl⟩:=ry;exact rule i j t t' s _ _ ⟨.int (g i j),H,I.tok _,⟨_,rfl⟩,q⟩
theorem yt{f:ab->ab->Sem ab}{g:Int->Int->Bool}
  (rule:∀(i j:Int) (t u:Tok) (s:ak) (Q:ab->ak->Prop) (E:ab->ak->Prop),Q (.bool (g i j)) s->wpAny (model X.prog X.w) X.A (f (.int i t) (.int j u)) Q E s):
  eh X f (mZ fun i j=> .bl (g i j)):=by
 intro pins s σ H x y v u Q I rx ry h;obtain⟨i,j,rfl,rfl,q⟩:=h;obtain⟨t,rfl⟩:=rx;obtain⟨t',rfl⟩:=ry;exact rule i j t t' s _ _ ⟨.bl (g i j),H,I,rfl,q⟩
def BR(i j:Int):Prop:=(-(2^64)<i/\i<2^64)\/(-(2^64)<j/\j<2^64)
theorem BR.ok{i j:Int}(h:BR i j):IntMulOk i j:=by
 rcases h with⟨h1,h2⟩|⟨h1,h2⟩
 ·exact .of_left (intBits_le_64 h1 h2)
 ·exact .of_right (intBits_le_64 h1 h2)
theorem jR:eh X (binaryOp .Add) (mZ fun i j=> .int (i+j)):=BQ fun _ _ _ _ _ _ _ q=>add_int q
theorem kF:eh X (binaryOp .Sub) (mZ fun i j=> .int (i-j)):=BQ fun _ _ _ _ _ _ _ q=>sub_int q
theorem qg:eh X (binaryOp .Mult) (rI BR fun i j=> .int (i*j)):=BP fun _ _ _ _ _ _ _ hc q=>mul_int q hc.ok
theorem BS:eh X (binaryOp .Mod) (rI (fun _ j=>0<j) fun i j=> .int (i%j)):=BP fun i j _ _ _ _ _ hc q=>by
 have h1:(0:Int)<j:=hc;exact mod_int' (by omega) (by rw[Int.fmod_eq_emod_of_nonneg i (by omega)];exact q)
theorem yu:eh X (binaryOp .BitAnd) (mZ fun i j=> .int (uM i j)):=BQ fun _ _ _ _ _ _ _ q=>and_int q
theorem Rx{f:ab->Sem ab}{g:Int->Int}
  (rule:∀(i:Int) (t:Tok) (s:ak) (Q:ab->ak->Prop) (E:ab->ak->Prop),Q (.int (g i) s.toks) {s with toks:=s.toks+1}->wpAny (model X.prog X.w) X.A (f (.int i t)) Q E s):
  BN X f (rU fun i=> .int (g i)):=by
 intro pins s σ H x v Q I rx h;obtain⟨i,rfl,q⟩:=h;obtain⟨t,rfl⟩:=rx;exact rule i t s _ _ ⟨.int (g i),H,I.tok _,⟨_,rfl⟩,q⟩
theorem IX:BN X (unaryOp .USub) (rU fun i=> .int (-i)):=Rx fun _ _ _ _ _ q=>neg_int q
end
def IY:V->V->Bool
 | .bc,.bc=>true| .bc,.int _=>true| .int _,.bc=>true| .bc,.bl _=>true| .bl _,.bc=>true| .bc,.str _=>true| .str _,.bc=>true
 | .int _,.int _=>true| .bl _,.bl _=>true| .str _,.str _=>true| .fZ _,.fZ _=>true
 | .int _,.str _=>true| .str _,.int _=>true| .bl _,.str _=>true| .str _,.bl _=>true
 |_,_=>false
def Ry:R2:=fun x y H Q=>IY x y=true/\Q (.bl (decide (x=y))) H
def Rz:R2:=fun x y H Q=>IY x y=true/\Q (.bl (!decide (x=y))) H
theorem IZ{i j:Int}:decide (V.int i=V.int j)=(i==j):=by
 rw[ki];simp
theorem I0{i j:Bool}:decide (V.bl i=V.bl j)=(i==j):=by
 rw[ki];simp
theorem Ja{i j:Str}:decide (V.str i=V.str j)=(i==j):=by
 rw[ki];simp
theorem Jb{i j:Array UInt8}:decide (V.fZ i=V.fZ j)=(i.toList==j.toList):=by
 rw[ki];cases i;cases j;simp
section
variable{X:Cx}{a b c:aG}{ta tb tc:TE}{pos:Pos}
theorem dv{pins:List (aa×Obj)}{σ:St}{H:Hp}{s:ak}{Q:VK}{k k':Bool}(I:Inv X pins σ H s)(q:Q (.bl k) H)(e:k=k'):EP X pins σ Q (.bool k') s:=by
 subst e;exact⟨.bl k,H,I,rfl,q⟩
theorem cQ:eh X (compareOp .Eq) Ry:=by
 intro pins s σ H x y v u Q I rx ry h;obtain⟨hs,q⟩:=h;cases x with
 |bc=>
  cases rx
  cases y with
  |bc=>cases ry;exact PySem.EqNone.eq_none_none (dv I q (by simp))
  |bl j=>cases ry;exact PySem.EqNone.eq_none_bool (dv I q (by simp))
  |int j=>obtain⟨t',rfl⟩:=ry;exact PySem.EqNone.eq_none_int (dv I q (by simp))
  |str j=>obtain⟨t',rfl⟩:=ry;exact PySem.EqNone.eq_none_str (dv I q (by simp))
  |_=>exact absurd (show false=true from hs) df
 |bl i=>
  cases rx
  cases y with
  |bc=>cases ry;exact PySem.EqNone.eq_bool_none (dv I q (by simp))
  |bl j=>cases ry;exact eq_bool (dv I q I0)
  |str j=>obtain⟨t',rfl⟩:=ry;exact PySem.EqMixed.eq_bool_str (dv I q (by simp))
  |_=>exact absurd (show false=true from hs) df
 |int i=>
  obtain⟨t,rfl⟩:=rx
  cases y with
  |bc=>cases ry;exact PySem.EqNone.eq_int_none (dv I q (by simp))
  |int j=>obtain⟨t',rfl⟩:=ry;exact eq_int (dv I q IZ)
  |str j=>obtain⟨t',rfl⟩:=ry;exact PySem.EqMixed.eq_int_str (dv I q (by simp))
  |_=>exact absurd (show false=true from hs) df
 |str i=>
  obtain⟨t,rfl⟩:=rx
  cases y with
  |bc=>cases ry;exact PySem.EqNone.eq_str_none (dv I q (by simp))
  |bl j=>cases ry;exact PySem.EqMixed.eq_str_bool (dv I q (by simp))
  |int j=>obtain⟨t',rfl⟩:=ry;exact PySem.EqMixed.eq_str_int (dv I q (by simp))
  |str j=>obtain⟨t',rfl⟩:=ry;exact eq_str (dv I q Ja)
  |_=>exact absurd (show false=true from hs) df
 |fZ i=>
  obtain⟨t,rfl⟩:=rx
  cases y with
  |fZ j=>obtain⟨t',rfl⟩:=ry;exact PySem.W.eq_bytes (dv I q Jb)
  |_=>exact absurd (show false=true from hs) df
 |_=>cases y<;>exact absurd (show false=true from hs) df
theorem lW:eh X (compareOp .NotEq) Rz:=by
 intro pins s σ H x y v u Q I rx ry h;obtain⟨hs,q⟩:=h;cases x with
 |bc=>
  cases rx
  cases y with
  |bc=>cases ry;exact PySem.EqNone.ne_none_none (dv I q (by simp))
  |bl j=>cases ry;exact PySem.EqNone.ne_none_bool (dv I q (by simp))
  |int j=>obtain⟨t',rfl⟩:=ry;exact PySem.EqNone.ne_none_int (dv I q (by simp))
  |str j=>obtain⟨t',rfl⟩:=ry;exact PySem.EqNone.ne_none_str (dv I q (by simp))
  |_=>exact absurd (show false=true from hs) df
 |bl i=>
  cases rx
  cases y with
  |bc=>cases ry;exact PySem.EqNone.ne_bool_none (dv I q (by simp))
  |bl j=>cases ry;exact ne_bool (dv I q (congrArg not I0))
  |str j=>obtain⟨t',rfl⟩:=ry;exact PySem.EqMixed.ne_bool_str (dv I q (by simp))
  |_=>exact absurd (show false=true from hs) df
 |int i=>
  obtain⟨t,rfl⟩:=rx
  cases y with
  |bc=>cases ry;exact PySem.EqNone.ne_int_none (dv I q (by simp))
  |int j=>obtain⟨t',rfl⟩:=ry;exact ne_int (dv I q (congrArg not IZ))
  |str j=>obtain⟨t',rfl⟩:=ry;exact PySem.EqMixed.ne_int_str (dv I q (by simp))
  |_=>exact absurd (show false=true from hs) df
 |str i=>
  obtain⟨t,rfl⟩:=rx
  cases y with
  |bc=>cases ry;exact PySem.EqNone.ne_str_none (dv I q (by simp))
  |bl j=>cases ry;exact PySem.EqMixed.ne_str_bool (dv I q (by simp))
  |int j=>obtain⟨t',rfl⟩:=ry;exact PySem.EqMixed.ne_str_int (dv I q (by simp))
  |str j=>obtain⟨t',rfl⟩:=ry;exact ne_str (dv I q (congrArg not Ja))
  |_=>exact absurd (show false=true from hs) df
 |fZ i=>
  obtain⟨t,rfl⟩:=rx
  cases y with
  |fZ j=>obtain⟨t',rfl⟩:=ry;exact PySem.W.ne_bytes (dv I q (congrArg not Jb))
  |_=>exact absurd (show false=true from hs) df
 |_=>cases y<;>exact absurd (show false=true from hs) df
theorem rR:eh X (compareOp .Lt) (mZ fun i j=> .bl (decide (i<j))):=yt fun _ _ _ _ _ _ _ q=>lt_int q
theorem BU:eh X (compareOp .LtE) (mZ fun i j=> .bl (decide (i<=j))):=yt fun _ _ _ _ _ _ _ q=>le_int q
theorem vj:eh X (compareOp .Gt) (mZ fun i j=> .bl (decide (j<i))):=yt fun _ _ _ _ _ _ _ q=>gt_int q
theorem vk:eh X (compareOp .GtE) (mZ fun i j=> .bl (decide (j<=i))):=yt fun _ _ _ _ _ _ _ q=>ge_int q
theorem rS:eh X (compareOp .Is) (fun x y H Q=>y= .bc/\Q (.bl (decide (x= .bc))) H):=by
 intro pins s σ H x y v u Q I rx ry h;obtain⟨rfl,q⟩:=h;cases ry;refine is_none_gen (dv I q ?_);cases x<;>first
  |(cases rx;rfl)
  |(obtain⟨t,rfl⟩:=rx;rfl)
theorem RA:eh X (compareOp .IsNot) (fun x y H Q=>y= .bc/\Q (.bl (!decide (x= .bc))) H):=by
 intro pins s σ H x y v u Q I rx ry h;obtain⟨rfl,q⟩:=h;cases ry;refine isnot_none_gen (dv I q ?_);cases x<;>first
  |(cases rx;rfl)
  |(obtain⟨t,rfl⟩:=rx;rfl)
theorem aZ(b:aG){op:CmpOp}(h:op≠.In:=by decide)(h2:op≠.NotIn:=by decide):behindInMarks op b=false:=by
 have e1:(op==CmpOp.In)=false:=by cases op<;>first|rfl|exact absurd rfl h
 have e2:(op==CmpOp.NotIn)=false:=by cases op<;>first|rfl|exact absurd rfl h2
 cases b<;>simp[behindInMarks,e1,e2]
theorem qh{op:CmpOp}{r:R2}(ho:eh X (compareOp op) r)(ha:PE X a ta)(hb:PE X b tb)(hm:behindInMarks op b=false):PE X (.Compare a [op] [b] pos) (yr r ta tb):=by
 intro pins s σ H Q I h;exact wpAny_Compare1 (BO ha hb I h fun v u s2 x y H2 I2 rx ry q=>ho pins s2 σ H2 x y v u Q I2 rx ry q) hm
def RB(t:TE):TT:=fun σ H Q=>t σ H fun x H'=>∃k,x= .bl k/\Q k H'
theorem bb{op:CmpOp}{r:R2}(ho:eh X (compareOp op) r)(ha:PE X a ta)(hb:PE X b tb)(hm:behindInMarks op b=false):PT X (.Compare a [op] [b] pos) (RB (yr r ta tb)):=by
 intro pins s σ H Q I h;refine afi (aH (ha pins s σ H _ I h) fun v s1 ⟨x,H1,I1,r1,q1⟩=>aH (hb pins s1 σ H1 _ I1 q1) fun u s2 ⟨y,H2,I2,r2,q2⟩=>
  aH (ho pins s2 σ H2 x y v u _ I2 r1 r2 q2) fun c s3 ⟨z,H3,I3,r3,k,e,q3⟩=> ?_) hm
 subst e;cases r3;exact rf ⟨H3,I3,q3⟩
theorem qi:(sizeLine:Nat)<2^63:=by rw[uS];decide
theorem vals1{x:V}{us:List ab}(r:Vals [x] us):∃u,us=[u]/\RelV x u:=by
 cases r with
 |cons r1 r2=>cases r2;exact⟨_,rfl,r1⟩
theorem vals2{x y:V}{us:List ab}(r:Vals [x,y] us):∃u w',us=[u,w']/\RelV x u/\RelV y w':=by
 cases r with
 |cons r1 r2=>
  cases r2 with
  |cons r3 r4=>cases r4;exact⟨_,_,rfl,r1,r3⟩
theorem RC(hc:X.calm=true):fK X (.builtin "min") (fun xs H Q=>∃i j,xs=[.int i,.int j]/\Q (.int (if j<i then j else i)) H):=by
 intro pins s σ H xs us Q I r h;obtain⟨i,j,rfl,q⟩:=h;obtain⟨u,w',rfl,⟨t,rfl⟩,⟨t',rfl⟩⟩:=vals2 r;refine min_two_ints (I.ok.hd hc) fun h' tk k=>⟨_,H,I.kept k,?_,q⟩;by_cases hj:j<i
 ·rw[if_pos hj,if_pos hj];exact⟨_,rfl⟩
 ·rw[if_neg hj,if_neg hj];exact⟨_,rfl⟩
end
structure qj(h:aB)(x dx C:aa)(mA:Str->Option ab):Prop where
 obj:h.get? x=some (rj C dx)
 ns:h.Ns1 dx mA
 ne:dx≠x
theorem RD{h:aB}{dx:aa}{mA:Str->Option ab}(n:h.Ns1 dx mA):∃od,h.get? dx=some od/\∀name,Ig name od=some (mA name):=by
 obtain⟨o,es,ep,ho,hd,hk,_,hm⟩:=n;refine⟨o,ho,fun name=> ?_⟩;have e:=hm name;unfold nsFind findBy at e;rw[<-ae3] at e;unfold Ig;rw[hd];dsimp only;split
 ·rename_i y q;rw[q] at e;exact congrArg some e
 ·rename_i q;rw[q] at e;have a:es.toList.any (·.refKey)=false:=by
   rw[List.any_eq_false];intro y hy;obtain⟨z,t,jm⟩:=hk y (aeI.mp hy);simp[DictEntry.refKey,jm]
  have a':¬es.toList.any (·.refKey)=true:=by rw[a];exact df
  rw[if_neg a'];exact congrArg some e
theorem qj.look{h:aB}{x dx C:aa}{mA:Str->Option ab}(I:qj h x dx C mA):∃od,PySem.W.InstAt h x (rj C dx) C (some od)/\∀name,Ig name od=some (mA name):=
 let ⟨od,ho,hl⟩:=RD I.ns
 ⟨od,⟨I.obj,rfl,rfl,ho⟩,hl⟩
section
variable{prog:bg}{w:aW}{A:bY}{E:ab->ak->Prop}{s:ak}{K:aC}{x dx C f:aa}{mA:Str->Option ab}{name:Str}{v:ab}
theorem get_map{expr:Bool}{Q:ab->ak->Prop}(X:K.In s.heap)(I:qj s.heap x dx C mA)(hg:HN K C name=true)(hh:Py K C=true)
  (ha:lD K (.ref C) name=some none) (hv:mA name=some v) (hv':aeY v=true) (h:Q v {s with toks:=s.toks+1}):
  wpAny (model prog w) A (getAttr (.ref x) name expr) Q E s:=by
 obtain⟨od,J,hl⟩:=I.look;exact PySem.W.get_value X J (Pr hg).1 (PySem.W.findObj_own hh ha rfl (by rw[hl,hv])) hv' h
theorem RE{pl:Sem Bool}{Q:ab×List ab->ak->Prop}(X:K.In s.heap)(I:qj s.heap x dx C mA)(hg:HN K C name=true)
  (hf:lD K (.ref C) name=some (some (.ref f))) (ht:Bn K (.ref f)=true) (hv:mA name=none) (h:Q (.ref f,[.ref x]) s):
  wpAny (model prog w) A (getMethod (.ref x) name pl) Q E s:=by
 obtain⟨od,J,hl⟩:=I.look;exact PySem.W.method_fn X J (Pr hg).1 (Pr hg).2 hf (beq_iff_eq.mp ht) (by show(Ig name od).map (·.isSome)=some false;rw[hl,hv];rfl) h
theorem RF{ns:List Str}{Q:Unit->ak->Prop}(X:K.In s.heap)(I:qj s.heap x dx C mA)
  (hs:lD K (.ref C) "__setattr__"=some (some (.builtin "object.__setattr__"))) (hp:aeK K C=true) (ht:PL K C name=some none) (hh:Py K C=true)
  (hw:Qj mA ns) (hsz:ns.length<=sizeLine)
  (h:∀h',qj h' x dx C (fun y=>if y=name then some v else mA y)->rq dx s.heap h'->Q () {s with heap:=h',toks:=s.toks+2}):
  wpAny (model prog w) A (setAttr (.ref x) name v) Q E s:=by
 obtain⟨od,J,hl⟩:=I.look;refine PySem.W.set_plain X J hs (PySem.W.osa_open (s:={s with toks:=s.toks+1}) (r:=none) X J hp ht fun b=> ?_);obtain⟨cd,hc,hd'⟩:=PySem.W.any_some hh;have hx:s.heap.get? x=some ⟨.ref C,some dx,.plain,#[]⟩:=I.obj;refine aq (aO (aq (aq (wpAny_loadPart hx (aq (PySem.W.Looks.here (s:={s with toks:=s.toks+1}) (PySem.W.looks_clsIn X hc) ?_))))));rw[hd'];refine aO (a:=some dx) (aq (aO (aq ?_)));refine wpAny_nsSet1 (s:={s with toks:=s.toks+1}) I.ns fun h' yw jQ=> ?_;obtain⟨oD,esD,epD,BV,qk,BW⟩:=yw.count (PySem.Within.cons name v hw);refine aq (wpAny_lookBehind BV (by rw[qk];exact pastItsLine_dict (dr BW (by rw[bH];omega))) ?_);exact aO (h _ ⟨(jQ.2 _ (d7 I.ne)).trans I.obj,yw,I.ne⟩ jQ)
theorem RG{R:Result->ak->Prop}{vs:List ab}{kw:List (Str×ab)}(X:K.In s.heap)(hm:PM K C=true)
  (hi:lD K (.ref C) "__init__"=some (some (.ref f))) (hf:PySem.W.typeIn K (.ref f)=some (.type "function"))
  (h:codeAny (model prog w) (A.under (.builtin "type.__call__" ⟨.ref C::vs,kw⟩)) (.call (.ref f) ⟨.ref (s.heap.objs.size+1)::vs,kw⟩) (PySem.W.InitBack (s.heap.objs.size+1) R)
   {s with heap:=(s.heap.push pP).push (rj C s.heap.objs.size)}):
  codeAny (model prog w) A (.call (.ref C) ⟨vs,kw⟩) R s:=by
 obtain⟨hh,g,d,t,os⟩:=s;exact PySem.W.make_core (PySem.W.makes_of X hm) (PySem.W.looks_findIn X hi) (fun self=>PySem.W.bind_fn X self hf) (.inl rfl) h
end
def cX(f:Str)(v:V):List (Str×V)->List (Str×V)
 |[]=>[(f,v)]
 |(g,x)::r=>if g=f then(g,v)::r else(g,x)::cX f v r
theorem Jc(f g:Str)(v:V):∀fs:List (Str×V),(cX f v fs).lookup g=if g=f then some v else fs.lookup g
 |[]=>by
  show rB g [(f,v)]=_;by_cases h:g=f
  ·have hb:(g==f)=true:=beq_iff_eq.mpr h;simp only[rB,hb,if_pos h]
  ·have hb:(g==f)=false:=beq_eq_false_iff_ne.mpr h;simp only[rB,hb,if_neg h]
 |(k,x)::r=>by
  have ih:=Jc f g v r;rw[show cX f v ((k,x)::r)=(if k=f then(k,v)::r else(k,x)::cX f v r) from rfl];by_cases hk:k=f
  ·rw[if_pos hk];by_cases h:g=k
   ·have hb:(g==k)=true:=beq_iff_eq.mpr h;simp only[rB,hb,if_pos (h.trans hk)]
   ·have hb:(g==k)=false:=beq_eq_false_iff_ne.mpr h;simp only[rB,hb,if_neg (fun e:g=f=>h (e.trans hk.symm))]
  ·rw[if_neg hk];by_cases h:g=k
   ·have hb:(g==k)=true:=beq_iff_eq.mpr h;simp only[rB,hb,if_neg (fun e:g=f=>hk (h.symm.trans e))]
   ·have hb:(g==k)=false:=beq_eq_false_iff_ne.mpr h;simp only[rB,hb];exact ih
theorem BX(f:Str)(v:V):∀fs:List (Str×V),f∈(cX f v fs).map (·.1)/\∀g,g∈fs.map (·.1)->g∈(cX f v fs).map (·.1)
 |[]=>⟨by simp[cX],fun g h=>by simp at h⟩
 |(k,x)::r=>by
  obtain⟨i1,i2⟩:=BX f v r;rw[show cX f v ((k,x)::r)=(if k=f then(k,v)::r else(k,x)::cX f v r) from rfl];by_cases hk:k=f
  ·rw[if_pos hk];subst hk;exact⟨by simp,fun g h=>by simpa using h⟩
  ·rw[if_neg hk];refine⟨?_,fun g h=> ?_⟩
   ·rw[bQ];exact bR _ i1
   ·rw[bQ] at h ⊢;rcases b0.mp h with e|e
    ·exact b0.mpr (.inl e)
    ·exact bR _ (i2 g e)
theorem Jd(f:Str)(v:V):∀fs:List (Str×V),(cX f v fs).length<=fs.length+1
 |[]=>by simp[cX]
 |(k,x)::r=>by
  have ih:=Jd f v r;rw[show cX f v ((k,x)::r)=(if k=f then(k,v)::r else(k,x)::cX f v r) from rfl];by_cases hk:k=f
  ·rw[if_pos hk,bH,bH];omega
  ·rw[if_neg hk,bH,bH];omega
theorem eT.some_of{v:V}{o:Option ab}(r:eT (some v) o):∃u,o=some u/\RelV v u:=by
 cases o with
 |none=>exact(show False from r).elim
 |some u=>exact⟨u,rfl,r⟩
theorem eT.none_of{o:Option ab}(r:eT none o):o=none:=by
 cases o with
 |none=>rfl
 |some u=>exact(show False from r).elim
theorem RH{v:V}{u:ab}(r:RelV v u):aeY u=true:=by
 cases v with
 |bc=>cases (show u=lL from r);rfl
 |bl b=>cases (show u=rC b from r);rfl
 |int i=>obtain⟨t,e⟩:=(show ∃t,u=jM i t from r);cases e;rfl
 |str x=>obtain⟨t,e⟩:=(show ∃t,u=Bv x t from r);cases e;rfl
 |fZ b=>obtain⟨t,e⟩:=(show ∃t,u=Value.bytes b t from r);cases e;rfl
 |x9 b=>obtain⟨t,e⟩:=(show ∃t,u=Value.float b t from r);cases e;rfl
 |ref a=>cases (show u=cO a from r);rfl
 |ty n=>cases (show u=uT n from r);rfl
section
variable{P:bg}{w:aW}{H H':Hp}{h h':aB}{a C dx:aa}{fs fs':List (Str×V)}
theorem BY(az:cS P w H h)(e:H a=some (.ins C dx fs)):∃mA,qj h a dx C mA/\(∀f,eT (fs.lookup f) (mA f))/\Qj mA (fs.map (·.1))/\fs.length<=1000/\H dx=some (.own a):=by
 obtain⟨d,z,ne,ob,mA,n,r,q⟩:=(show de P w H h a (.ins C dx fs) from az a _ e);exact⟨mA,⟨ob,n,ne⟩,r,q,z,d⟩
end
structure gh(K:aC)(C:aa):Prop where
 pg:HN K C Str.empty=true
 hd:Py K C=true
 po:aeK K C=true
 sa:lD K (.ref C) "__setattr__"=some (some (.builtin "object.__setattr__"))
theorem gh.get{K:aC}{C:aa}(c:gh K C)(f:Str):HN K C f=true:=c.pg
def c5(K:aC)(C:aa)(f:Str):Prop:=lD K (.ref C) f=some none
theorem c5.RI{K:aC}{C:aa}{f:Str}(n:c5 K C f):PL K C f=some none:=by
 unfold PL;rw[show lD K (.ref C) f=some none from n]
 rfl
structure Meth(K:aC)(C:aa)(m:Str)(f:aa):Prop where
 at_:lD K (.ref C) m=some (some (.ref f))
 fn:Bn K (.ref f)=true
 kp:oE K (.ref f)=true
section
variable{X:Cx}{pins:List (aa×Obj)}{σ:St}{H:Hp}{s:ak}{a C dx:aa}{fs:List (Str×V)}{f:Str}{v:V}{A:bY}{E:ab->ak->Prop}
theorem BZ{b:Bool}{Q:ab->ak->Prop}(I:Inv X pins σ H s)(e:H a=some (.ins C dx fs))(c:gh X.K C)(n:c5 X.K C f)(l:fs.lookup f=some v)
  (h:∀u s',Inv X pins σ H s'->RelV v u->Q u s'):wpAny (model X.prog X.w) A (getAttr (.ref a) f b) Q E s:=by
 obtain⟨mA,O,r,_,_,_⟩:=BY I.az e;obtain⟨u,hu,ru⟩:=eT.some_of (v:=v) (o:=mA f) (by rw[<-l];exact r f);exact get_map I.gd O (c.get f) c.hd n hu (RH ru) (h u _ (I.tok _) ru)
theorem Je{m:Str}{g:aa}{pl:Sem Bool}{Q:ab×List ab->ak->Prop}(I:Inv X pins σ H s)(e:H a=some (.ins C dx fs))(c:gh X.K C)(k:Meth X.K C m g)(l:fs.lookup m=none)
  (h:Q (.ref g,[.ref a]) s):wpAny (model X.prog X.w) A (getMethod (.ref a) m pl) Q E s:=by
 obtain⟨mA,O,r,_,_,_⟩:=BY I.az e;have hn:mA m=none:=eT.none_of (by rw[<-l];exact r m);exact RE I.gd O (c.get m) k.at_ k.fn hn h
theorem Jf{y:V}{u:ab}{Q:Unit->ak->Prop}(I:Inv X pins σ H s)(e:H a=some (.ins C dx fs))(c:gh X.K C)(n:c5 X.K C f)(hl:fs.length<1000)(ry:RelV y u)
  (h:∀s',Inv X pins σ (upd H a (.ins C dx (cX f y fs))) s'->Q () s'):wpAny (model X.prog X.w) A (setAttr (.ref a) f u) Q E s:=by
 obtain⟨mA,O,r,wi,_,ho⟩:=BY I.az e;have hz:(fs.map (·.1)).length<=sizeLine:=by rw[ao,uS];omega
 refine RF I.gd O c.sa c.po n.RI c.hd wi hz fun h' O' sb=>h _ ?_;have hd:∃o,h'.get? dx=some o:=let ⟨o,_,_,e',_⟩:=O'.ns;⟨o,e'⟩;refine I.write (x:=a) (e:=dx) (by rw[e];exact p9) (.inr ho) (fun b q hb z=>(sb.2 b hb).trans z) hd ?_;refine⟨by rw[ag O.ne];exact ho,?_,O.ne,O'.obj,_,O'.ns,fun g=> ?_,fun g hg=> ?_⟩
 ·have:=Jd f y fs;omega
 ·show eT ((cX f y fs).lookup g) (if g=f then some u else mA g);rw[Jc];by_cases q:g=f
  ·rw[if_pos q,if_pos q];exact ry
  ·rw[if_neg q,if_neg q];exact r g
 ·by_cases q:g=f
  ·rw[q];exact(BX f y fs).1
  ·refine(BX f y fs).2 g (wi g fun z=>hg ?_);show(if g=f then some u else mA g)=none;rw[if_neg q];exact z
theorem Inv.made(I:Inv X pins σ H s):Inv X pins σ (upd (upd H s.heap.objs.size (.own (s.heap.objs.size+1))) (s.heap.objs.size+1) (.ins C s.heap.objs.size []))
  {s with heap:=(s.heap.push pP).push (rj C s.heap.objs.size)}:=by
 have e1:(s.heap.push pP).get? s.heap.objs.size=some pP:=cG s.heap rfl;have e2:((s.heap.push pP).push (rj C s.heap.objs.size)).get? (s.heap.objs.size+1)=some (rj C s.heap.objs.size):=by
  have:=cG (s.heap.push pP) (o:=rj C s.heap.objs.size) rfl
  rwa [fI] at this
 have e3:(s.heap.push pP).Ns s.heap.objs.size (fun _=>none):=⟨pP,#[],_,e1,rfl,(fun e he=>absurd he (by simp)),fun _=>rfl⟩;have I1:=I.laid (a:=s.heap.objs.size) (o:= .own (s.heap.objs.size+1)) (h':=s.heap.push pP) (t':=s.toks) (fun b u q=>cx _ q) (aI _) ⟨_,e1⟩;refine I1.laid (a:=s.heap.objs.size+1) (o:= .ins C s.heap.objs.size []) (t':=s.toks) (fun b u q=>cx _ q) (IB (fI _ _)) ?_;have ne:s.heap.objs.size≠s.heap.objs.size+1:=cW (HZ _);refine⟨by rw[ag ne,au],du _,ne,e2,fun _=>none,(Heap.Ns1.of_empty e3).at fun o q=>cx _ q,fun _=>p9,fun y hy=>absurd rfl hy⟩
theorem Jg{prog:bg}{w:aW}{env:Env}{e:aG}{f:Str}{pos:Pos}{s:ak}{Q:ab->ak->Prop}(hb:attributeBase e f env (eval e env)=eval e env)
  (h:wpAny (model prog w) A (eval e env) (fun o s₁=>wpAny (model prog w) A (getAttr o f true) Q E s₁) E s):wpAny (model prog w) A (eval (.Attribute e f pos) env) Q E s:=
 Attribute_any_ h (by rw[arm_eval_Attribute,hb])
end
def RJ(K:aC)(ta:TE)(f:Str):TE:=fun σ H Q=>ta σ H fun x H1=>∃a C dx fs v,x= .ref a/\H1 a=some (.ins C dx fs)/\gh K C/\c5 K C f/\fs.lookup f=some v/\Q v H1
def Jh(K:aC)(ta tv:TE)(f:Str):TS:=fun D σ H=>tv σ H fun y H1=>ta σ H1 fun x H2=>∃a C dx fs,x= .ref a/\H2 a=some (.ins C dx fs)/\gh K C/\c5 K C f/\fs.length<1000/\
 D.nx σ (upd H2 a (.ins C dx (cX f y fs)))
def vn(X:Cx)(op:rF)(rd:V->V->Hp->VK->Prop):Prop:=
 ∀(pins:List (aa×Obj)) (s:ak) (σ:St) (H:Hp) (x y:V) (u v:ab) (Q:VK),Inv X pins σ H s->RelV x u->RelV y v->rd x y H Q->wpAny (model X.prog X.w) X.A (inplaceOp op u v) (EP X pins σ Q) X.xe s
def Ji(K:aC)(ta tv:TE)(rd:V->V->Hp->VK->Prop)(f:Str):TS:=fun D σ H=>ta σ H fun x H1=>∃a C dx fs v,x= .ref a/\H1 a=some (.ins C dx fs)/\gh K C/\c5 K C f/\fs.lookup f=some v/\
 tv σ H1 fun y H2=>rd v y H2 fun z H3=>∃dx' fs',H3 a=some (.ins C dx' fs')/\fs'.length<1000/\D.nx σ (upd H3 a (.ins C dx' (cX f z fs')))
section
variable{X:Cx}{o e value:aG}{f:Str}{pos pos' dP:Pos}{ta tv:TE}
theorem afw(he:PE X e ta)(hb:attributeBase e f X.env (eval e X.env)=eval e X.env):PE X (.Attribute e f pos) (RJ X.K ta f):=by
 intro pins s σ H Q I h;refine Jg hb (aH (he pins s σ H _ I h) fun u s1 ⟨x,H1,I1,rx,a,C,dx,fs,v,ex,ea,c,n,l,q⟩=> ?_);subst ex;obtain rfl:u=cO a:=rx;exact BZ I1 ea c n l fun u' s2 I2 ru=>⟨v,H1,I2,ru,q⟩
theorem RK(ha:PE X o ta)(hv:PE X value tv)(hs:swapsWith value (some (.Attribute o f pos')) pos.line X.env=pure false):PS X (.Assign [.Attribute o f pos'] value pos) (Jh X.K ta tv f):=by
 intro pins s σ H D I h;refine plainObj_wpAny_Assign_Attribute (aH (hv pins s σ H _ I h) fun u s1 ⟨y,H1,I1,ry,q⟩=>aH (ha pins s1 σ H1 _ I1 q) fun ov s2 ⟨x,H2,I2,rx,a,C,dx,fs,ex,ea,c,n,l,q2⟩=> ?_) hs;subst ex;obtain rfl:ov=cO a:=rx;exact Jf I2 ea c n l ry fun s3 I3=>⟨σ,_,I3,q2⟩
theorem RL{op:rF}{rd:V->V->Hp->VK->Prop}(ha:PE X o ta)(hv:PE X value tv)(vo:vn X op rd):PS X (.AugAssign (.Attribute o f dP) op value pos) (Ji X.K ta tv rd f):=by
 intro pins s σ H D I h;refine wpAny_AugAssign_AttributeAny (aH (ha pins s σ H _ I h) fun ov s1 ⟨x,H1,I1,rx,a,C,dx,fs,v,ex,ea,c,n,l,q⟩=> ?_);subst ex;obtain rfl:ov=cO a:=rx;refine BZ I1 ea c n l fun u s2 I2 ru=>aH (hv pins s2 σ H1 _ I2 q) fun w3 s3 ⟨y,H2,I3,ry,q3⟩=>aH (vo pins s3 σ H2 v y u w3 _ I3 ru ry q3) fun w4 s4 ⟨z,H3,I4,rz,dx',fs',ea',l',q4⟩=> ?_;exact Jf I4 ea' c n l' rz fun s5 I5=>⟨σ,_,I5,q4⟩
def RM:V->V->Hp->VK->Prop:=fun x y H Q=>∃i j,x= .int i/\y= .int j/\Q (.int (i+j)) H
def RN:V->V->Hp->VK->Prop:=fun x y H Q=>∃i j,x= .int i/\y= .int j/\Q (.int (i-j)) H
theorem rT:vn X .Add RM:=by
 rintro pins s σ H x y u v Q I rx ry ⟨i,j,rfl,rfl,q⟩;obtain⟨t,rfl⟩:=(show ∃t,u=jM i t from rx);obtain⟨t',rfl⟩:=(show ∃t',v=jM j t' from ry);exact PyProof.Rows.iadd_int ⟨.int (i+j),H,I.tok _,⟨_,rfl⟩,q⟩
theorem B0:vn X .Sub RN:=by
 rintro pins s σ H x y u v Q I rx ry ⟨i,j,rfl,rfl,q⟩;obtain⟨t,rfl⟩:=(show ∃t,u=jM i t from rx);obtain⟨t',rfl⟩:=(show ∃t',v=jM j t' from ry);exact PyProof.Rows.isub_int ⟨.int (i-j),H,I.tok _,⟨_,rfl⟩,q⟩
theorem afx{pl:Sem Bool}{m:Str}{apos:Pos}{args:List aG}{pins:List (aa×Obj)}{s:ak}{σ:St}{H:Hp}{Q:ab->ak->Prop}{te:TE}(he:PE X e te)(I:Inv X pins σ H s)
  (h:te σ H fun x H1=>∃a C dx fs g,x= .ref a/\H1 a=some (.ins C dx fs)/\gh X.K C/\Meth X.K C m g/\fs.lookup m=none/\
   ∀s1,Inv X pins σ H1 s1->wpAny (model X.prog X.w) X.A (callWith pos (.ref g) [.ref a] (backTo pos (starEach args X.env)) (backToKw pos (keywordEach [] X.env))) Q X.xe s1)
  (ht:eval (.Call (.Attribute e m apos) args [] pos) X.env=(do
   let ov<-eval e X.env
   standAt apos.atName
   let (f,first)<-holding [ov] (getMethod ov m pl)
   callWith pos f first (backTo pos (starEach args X.env)) (backToKw pos (keywordEach [] X.env)))):
  wpAny (model X.prog X.w) X.A (eval (.Call (.Attribute e m apos) args [] pos) X.env) Q X.xe s:=by
 refine aev (pl:=pl) (aH (he pins s σ H _ I h) fun u s1 ⟨x,H1,I1,rx,a,C,dx,fs,g,ex,ea,c,k,l,q⟩=> ?_) ht;subst ex;obtain rfl:u=cO a:=rx;exact Je I1 ea c k l (q s1 I1)
end
structure dw(k:Nat)(A:bY):Prop where
 hd:A.handled=none
 dp:A.depth+3*k+5<recursionLimit
 un:A.units+16*k+200<cLine
theorem dw.mono{j k:Nat}{A:bY}(r:dw k A)(h:j<=k):dw j A:=⟨r.hd,by have:=r.dp;omega,by have:=r.un;omega⟩
theorem dw.deeper{k:Nat}{A:bY}(r:dw (k+1) A)(env:Env):dw k (A.deeper env):=
 ⟨r.hd,by have:=r.dp;show A.depth+1+3*k+5<_;omega,by have:=r.un;show A.units+3+16*k+200<_;omega⟩
theorem RO{A:bY}{C:aa}{us:List ab}{kw:List (Str×ab)}:(A.under (.builtin "type.__call__" ⟨.ref C::us,kw⟩)).depth=A.depth+1:=by
 first|rfl|simp[Qb,Code.weight,Code.isCreation,Code.isGuard,Code.isCaller,Code.frames,Qn,guardIds]
theorem RP{A:bY}{C:aa}{us:List ab}{kw:List (Str×ab)}:(A.under (.builtin "type.__call__" ⟨.ref C::us,kw⟩)).units=A.units+1:=by
 first|rfl|simp[Qb,Code.cUnits,Code.frames,Qn]
theorem dw.make{k:Nat}{A:bY}(r:dw (k+1) A)(C:aa)(us:List ab)(kw:List (Str×ab)):dw k (A.under (.builtin "type.__call__" ⟨.ref C::us,kw⟩)):=
 ⟨r.hd,by have:=r.dp;rw[RO];omega,by have:=r.un;rw[RP];omega⟩
theorem dw.depth{k:Nat}{A:bY}(r:dw k A):A.depth<recursionLimit:=by have:=r.dp;omega
theorem dw.units{k:Nat}{A:bY}(r:dw k A):A.units+64<cLine:=by have:=r.un;omega
def m6:TA:=fun _ H Q=>Q [] H
def lX(ta:TE)(tr:TA):TA:=fun σ H Q=>ta σ H fun x H1=>tr σ H1 fun xs H2=>Q (x::xs) H2
section
variable{X:Cx}{e:aG}{es:List aG}{te:TE}{t:TA}{pos:Pos}
theorem ai:PA X [] m6:=fun _ _ _ _ H Q I h=>HM ⟨[],H,I,.nil,h⟩
theorem ae(ha:PE X e te)(hr:PA X es t)(hs:starEach (e::es) X.env=(false,eval e X.env)::starEach es X.env:=by rfl):PA X (e::es) (lX te t):=by
 intro pos pins s σ H Q I h;rw[hs];show wpAny _ _ (spliced ((false,eval e X.env)::backTo pos (starEach es X.env))) _ _ s;refine xF (aH (ha pins s σ H _ I h) fun u s1 ⟨x,H1,I1,r1,q1⟩=> ?_);exact aH (hr pos pins s1 σ H1 _ I1 q1) fun us s2 ⟨xs,H2,I2,r2,q2⟩=>⟨x::xs,H2,I2,.cons r1 r2,q2⟩
def RQ(t:TA):TE:=fun σ H Q=>t σ H fun xs H1=>xs.length<=sizeLine/\∀p,H1 p=none->Q (.ref p) (upd H1 p (.tup xs))
def RR(t:TA):TE:=fun σ H Q=>t σ H fun xs H1=>xs.length<=sizeLine/\∀p,H1 p=none->Q (.ref p) (upd H1 p (.lst xs))
theorem oU{x1}(h:PA X es t):PE X (.Tuple es x1 pos) (RQ t):=by
 intro pins s σ H Q I hq;refine wpAny_Tuple_spliced (aH (h pos pins s σ H _ I hq) fun us s1 ⟨xs,H1,I1,r,z,q⟩=>⟨by rw[<-r.length];exact z,?_⟩);have hf:H1 s1.heap.objs.size=none:=I1.az.fresh (aI _);refine⟨.ref s1.heap.objs.size,upd H1 s1.heap.objs.size (.tup xs),I1.laid (t':=s1.toks) (fun b u e=>cx _ e) (aI _) ?_,rfl,q _ hf⟩;exact⟨z,us,r,⟨_,cG _ rfl,rfl,_,rfl⟩⟩
theorem a7(h:PA X es t):PE X (.List es pos) (RR t):=by
 intro pins s σ H Q I hq;refine wpAny_List_spliced (aH (h pos pins s σ H _ I hq) fun us s1 ⟨xs,H1,I1,r,z,q⟩=>⟨by rw[<-r.length];exact z,?_⟩);have hf:H1 s1.heap.objs.size=none:=I1.az.fresh (aI _);refine⟨.ref s1.heap.objs.size,upd H1 s1.heap.objs.size (.lst xs),I1.laid (t':=s1.toks) (fun b u e=>cx _ e) (aI _) ?_,rfl,q _ hf⟩;exact⟨z,us,0,r,cG _ rfl⟩
end
abbrev Sp:=List V->Hp->VK->XK->Prop
abbrev kG:=List Env->Hp->ak->XK->ab->ak->Prop
structure qm(P:bg)(w:aW)(K:aC)(mg:Str->Option ab)(base:aB)(A:bY)(outer:List Env)(s:ak)(H:Hp):Prop where
 frames:A.frames=some outer
 mod:Mod K mg base
 bs:∀b o,base.get? b=some o->s.heap.get? b=some o/\H b=none
 lP:base.objs.size<=s.heap.objs.size
 jO:s.heap.FunFrames base outer
 qe:∀b∈kC outer,H b=none
 az:cS P w H s.heap
 bare:uX s.gens
def CE(outer:List Env)(P:bg)(w:aW)(H:Hp)(s:ak)(Q:VK)(u:ab)(s':ak):Prop:=
 ∃v H',s'.os=s.os/\uX s'.gens/\Un (kC outer) [] H H' s.heap s'.heap/\cS P w H' s'.heap/\RelV v u/\Q v H'
def CR(CX:kG)(outer:List Env)(P:bg)(w:aW)(H:Hp)(s:ak)(Q:VK)(E:XK)(r:Result)(s':ak):Prop:=
 match r with
 | .ok (.ret u)=>CE outer P w H s Q u s'
 | .ok _=>False
 | .error e=>CX outer H s E e s'
structure aN(P:bg)(w:aW)(K:aC)(mg:Str->Option ab)(base:aB)(CX:kG)(k:Nat)(f:aa)(fd:aU)(ps:List Str)(sp:Sp):Prop where
 len:∀vs H Q E,sp vs H Q E->vs.length=ps.length
 run:∀(A:bY) (outer:List Env) (s:ak) (H:Hp) (args:Args) (us:List ab) (vs:List V) (Q:VK) (E:XK),dw k A->qm P w K mg base A outer s H->BindsTo s fd args (ps.zip us)->Vals vs us->sp vs H Q E->
  codeAny (model P w) A (.call (.ref f) args) (CR CX outer P w H s Q E) s
theorem qm.make{P:bg}{w:aW}{K:aC}{mg:Str->Option ab}{base:aB}{A:bY}{outer:List Env}{s:ak}{H:Hp}(e:qm P w K mg base A outer s H)(C:aa)(us:List ab)(kw:List (Str×ab)):
  qm P w K mg base (A.under (.builtin "type.__call__" ⟨.ref C::us,kw⟩)) outer s H:=⟨by first|exact e.frames|(simpa[Qb,Code.envs,Qn,pushEnvs] using e.frames),e.mod,e.bs,e.lP,e.jO,e.qe,e.az,e.bare⟩
section
variable{X:Cx}{pins:List (aa×Obj)}{σ:St}{H:Hp}{s s':ak}
theorem Inv.Jj(I:Inv X pins σ H s):qm X.prog X.w X.K X.mg X.base X.A X.stack s H:=
 ⟨I.ok.frames,I.ok.mod,I.bs,dr I.ok.lP I.sz,I.stack,I.II,I.az,I.bare⟩
theorem Inv.after{Q:VK}{u:ab}(I:Inv X pins σ H s)(h:CE X.stack X.prog X.w H s Q u s'):EP X pins σ Q u s':=by
 obtain⟨v,H',os,bare,un,az,r,q⟩:=h;obtain⟨hh,g,d,t,os'⟩:=s';obtain rfl:os'=s.os:=os;exact⟨v,H',I.call (h':=hh) (g':=g) (d':=d) (t':=t) (ch:=[]) un az bare (fun b z=>absurd z (by simp)),r,q⟩
end
def B1(sp:Sp)(fu:List V)(E:XK)(t:TA):TE:=fun σ H Q=>t σ H fun vs H1=>sp (vs++fu) H1 Q E
def Jk(C:aa)(m:Str)(sp:Sp)(fu:List V)(E:XK)(ta:TE)(t:TA):TE:=fun σ H Q=>ta σ H fun x H1=>∃a dx fs,x= .ref a/\H1 a=some (.ins C dx fs)/\fs.lookup m=none/\
 t σ H1 fun vs H2=>sp (x::(vs++fu)) H2 Q E
def yx(C:aa)(sp:Sp)(fu:List V)(E:XK)(t:TA):TE:=fun σ H Q=>t σ H fun vs H1=>∀x dx,H1 x=none->H1 dx=none->dx≠x->
 sp (.ref x::(vs++fu)) (upd (upd H1 dx (.own x)) x (.ins C dx [])) (fun v H2=>v= .bc/\Q (.ref x) H2) E
def Binds(K:aC)(fd:aU)(ps:List Str)(ds:List ab):Prop:=
 ∀(s:ak) (us:List ab),K.In s.heap->(us++ds).length=ps.length->BindsTo s fd ⟨us,[]⟩ (ps.zip (us++ds))
theorem Binds.all{K:aC}{fd:aU}{ps:List Str}(h:∀us:List ab,us.length=ps.length->bindArgs fd ⟨us,[]⟩=pure (ps.zip us)):Binds K fd ps []:=fun s us _ hl=>by
 rw[uK] at hl ⊢;exact .of_eq (h us hl)
def Passes(CX:kG)(X:Cx)(E:XK):Prop:=∀(pins:List (aa×Obj)) (σ:St) (H:Hp) (s:ak) (e:ab) (s':ak),Inv X pins σ H s->CX X.stack H s E e s'->X.xe e s'
section
variable{X:Cx}{CX:kG}{k:Nat}{f C:aa}{fd:aU}{ps:List Str}{sp:Sp}{fu:List V}{ds:List ab}{E:XK}{x m:Str}{p pos apos:Pos}{e o:aG}{es:List aG}{ta:TE}{t:TA}
theorem Jl{pins:List (aa×Obj)}{σ:St}{H:Hp}{s:ak}{Q:VK}{us:List ab}{vs:List V}(F:aN X.prog X.w X.K X.mg X.base CX k f fd ps sp)(hr:dw k X.A)(hb:Binds X.K fd ps ds)(hd:Vals fu ds)(hx:Passes CX X E)
  (I:Inv X pins σ H s) (r:Vals vs us) (h:sp (vs++fu) H Q E):wpAny (model X.prog X.w) X.A (call (.ref f) us) (EP X pins σ Q) X.xe s:=by
 have r2:Vals (vs++fu) (us++ds):=r.append hd;have hl:(us++ds).length=ps.length:=by rw[<-r2.length];exact F.len _ _ _ _ h
 refine wpAny_call (Bt (F.run X.A X.stack s H ⟨us,[]⟩ (us++ds) (vs++fu) Q E hr I.Jj (hb s us I.gd hl) r2 h) fun r s' hq=> ?_);cases r with
 |error e=>exact hx pins σ H s e s' I hq
 |ok fl=>
  cases fl with
  |ret u=>exact I.after hq
  |next=>exact ft hq
  |brk=>exact ft hq
  |cont=>exact ft hq
theorem RS(F:aN X.prog X.w X.K X.mg X.base CX k f fd ps sp)(hr:dw k X.A)(hg:Gl X x)(hm:X.mg x=some (.ref f))(hk:oE X.K (.ref f)=true)(hb:Binds X.K fd ps ds)(hd:Vals fu ds)(hx:Passes CX X E)
  (ha:PA X (e::es) t) (iG:(x==("__debug__":Str))=false:=by decide) (he:starEach (e::es) X.env=(false,eval e X.env)::starEach es X.env:=by rfl) (cz:(backTo pos (starEach es X.env)).any (·.1)=false:=by rfl):
  PE X (.Call (.Name x p) (e::es) [] pos) (B1 sp fu E t):=by
 intro pins s σ H Q I h;refine pO (yg I hg hm ?_ iG);refine Pu (h₀:=X.base) I.ok.mod.u0 hk (aH (ha pos pins s σ H _ I h) fun us s1 ⟨vs,H1,I1,r,q⟩=>⟨I1.gd,?_⟩) he cz;exact Jl F hr hb hd hx I1 r q
theorem RU{pl:Sem Bool}(he:PE X o ta)(c:gh X.K C)(hm:Meth X.K C m f)(F:aN X.prog X.w X.K X.mg X.base CX k f fd ps sp)(hr:dw k X.A)(hb:Binds X.K fd ps ds)(hd:Vals fu ds)(hx:Passes CX X E)(ha:PA X (e::es) t)
  (eV:starEach (e::es) X.env=(false,eval e X.env)::starEach es X.env:=by rfl) (cz:(backTo pos (starEach es X.env)).any (·.1)=false:=by rfl)
  (ht:eval (.Call (.Attribute o m apos) (e::es) [] pos) X.env=(do
   let ov<-eval o X.env
   standAt apos.atName
   let (f,first)<-holding [ov] (getMethod ov m pl)
   callWith pos f first (backTo pos (starEach (e::es) X.env)) (backToKw pos (keywordEach [] X.env))):=by rfl):
  PE X (.Call (.Attribute o m apos) (e::es) [] pos) (Jk C m sp fu E ta t):=by
 intro pins s σ H Q I h;refine aev (pl:=pl) (aH (he pins s σ H _ I h) fun u s1 ⟨x,H1,I1,rx,a,dx,fs,ex,ea,l,q⟩=> ?_) ht;subst ex;obtain rfl:u=cO a:=rx;refine Je I1 ea c hm l ?_;refine Pu (first:=[.ref a]) (h₀:=X.base) I.ok.mod.u0 hm.kp (aH (ha pos pins s1 σ H1 _ I1 q) fun us s2 ⟨vs,H2,I2,r,q2⟩=>⟨I2.gd,?_⟩) eV cz;exact Jl (us:= .ref a::us) (vs:= .ref a::vs) F hr hb hd hx I2 (.cons rfl r) q2
structure Mk(K:aC)(C f:aa):Prop where
 makes:PM K C=true
 init:lD K (.ref C) "__init__"=some (some (.ref f))
 fn:Bn K (.ref f)=true
 kp:oE K (.ref C)=true
theorem Jm{pins:List (aa×Obj)}{σ:St}{H:Hp}{s:ak}{Q:VK}{us:List ab}{vs:List V}(M:Mk X.K C f)(F:aN X.prog X.w X.K X.mg X.base CX k f fd ps sp)(hr:dw (k+1) X.A)(hb:Binds X.K fd ps ds)(hd:Vals fu ds)
  (hx:Passes CX X E) (I:Inv X pins σ H s) (r:Vals vs us)
  (h:∀x dx,H x=none->H dx=none->dx≠x->sp (.ref x::(vs++fu)) (upd (upd H dx (.own x)) x (.ins C dx [])) (fun v H2=>v= .bc/\Q (.ref x) H2) E):
  wpAny (model X.prog X.w) X.A (call (.ref C) us) (EP X pins σ Q) X.xe s:=by
 have hq:=h (s.heap.objs.size+1) s.heap.objs.size (I.az.fresh (iz _)) (I.az.fresh (aI _)) (cW (HZ _));have I2:=Inv.made (C:=C) I;have r2:Vals (V.ref (s.heap.objs.size+1)::(vs++fu)) (cO (s.heap.objs.size+1)::(us++ds)):= .cons rfl (r.append hd);have hl:(cO (s.heap.objs.size+1)::us++ds).length=ps.length:=by
  have e:=r2.length;rw[F.len _ _ _ _ hq] at e;exact e.symm
 refine wpAny_call (RG (f:=f) I.gd M.makes M.init (beq_iff_eq.mp M.fn) (Bt (F.run _ X.stack _ _ ⟨cO (s.heap.objs.size+1)::us,[]⟩ (cO (s.heap.objs.size+1)::(us++ds)) _ _ E (hr.make C us [])
  (I2.Jj.make C us []) (hb _ (cO (s.heap.objs.size+1)::us) I2.gd hl) r2 hq) fun r s' hq'=> ?_))
 cases r with
 |error e=>exact hx pins σ _ _ e s' I2 hq'
 |ok fl=>
  cases fl with
  |ret u=>
   obtain⟨v,H',I3,rv,ev,q3⟩:=I2.after hq'
   subst ev
   exact⟨rv,⟨V.ref (s.heap.objs.size+1),H',I3,rfl,q3⟩⟩
  |next=>exact ft hq'
  |brk=>exact ft hq'
  |cont=>exact ft hq'
theorem RV(M:Mk X.K C f)(F:aN X.prog X.w X.K X.mg X.base CX k f fd ps sp)(hr:dw (k+1) X.A)(hg:Gl X x)(hm:X.mg x=some (.ref C))(hb:Binds X.K fd ps ds)(hd:Vals fu ds)(hx:Passes CX X E)
  (ha:PA X (e::es) t) (iG:(x==("__debug__":Str))=false:=by decide) (he:starEach (e::es) X.env=(false,eval e X.env)::starEach es X.env:=by rfl) (cz:(backTo pos (starEach es X.env)).any (·.1)=false:=by rfl):
  PE X (.Call (.Name x p) (e::es) [] pos) (yx C sp fu E t):=by
 intro pins s σ H Q I h;refine pO (yg I hg hm ?_ iG);refine Pu (h₀:=X.base) I.ok.mod.u0 M.kp (aH (ha pos pins s σ H _ I h) fun us s1 ⟨vs,H1,I1,r,q⟩=>⟨I1.gd,?_⟩) he cz;exact Jm M F hr hb hd hx I1 r q
theorem RW(M:Mk X.K C f)(F:aN X.prog X.w X.K X.mg X.base CX k f fd ps sp)(hr:dw (k+1) X.A)(hg:Gl X x)(hm:X.mg x=some (.ref C))(hb:Binds X.K fd ps ds)(hd:Vals fu ds)(hx:Passes CX X E)
  (iG:(x==("__debug__":Str))=false:=by decide):PE X (.Call (.Name x p) [] [] pos) (yx C sp fu E m6):=by
 intro pins s σ H Q I h;refine pO (yg I hg hm ?_ iG);exact PySem.W.callWith_K0 I.gd M.kp (Jm (us:=[]) M F hr hb hd hx I .nil h)
end
def PK(X:Cx)(kws:List rH)(t:TA):Prop:=
 ∀(pos:Pos) (pins:List (aa×Obj)) (s:ak) (σ:St) (H:Hp) (Q:List V->Hp->Prop),Inv X pins σ H s->t σ H Q->wpAny (model X.prog X.w) X.A (evalAll ((backToKw pos (keywordEach kws X.env)).map (·.2))) (AP X pins σ Q) X.xe s
section
variable{X:Cx}{CX:kG}{k:Nat}{f C:aa}{fd:aU}{ps ks:List Str}{sp:Sp}{E:XK}{x m:Str}{p pos apos kpos:Pos}{e o:aG}{es:List aG}{kws:List rH}{te ta:TE}{t tk:TA}{nm:Option Str}
theorem Jn:PK X [] m6:=fun _ _ _ _ H Q I h=>wpAny_evalAll_nil ⟨[],H,I,.nil,h⟩
theorem Jo(ha:PE X e te)(hr:PK X kws t):PK X (⟨nm,e,kpos⟩::kws) (lX te t):=by
 intro pos pins s σ H Q I h;show wpAny _ _ (evalAll ((do let v<-eval e X.env;standAt pos;pure v)::(backToKw pos (keywordEach kws X.env)).map (·.2))) _ _ s;refine wpAny_evalAll_cons (aq (aH (ha pins s σ H _ I h) fun u s1 ⟨x,H1,I1,r1,q1⟩=>aq (IC (aO ?_))));exact aH (hr pos pins s1 σ H1 _ I1 q1) fun us s2 ⟨xs,H2,I2,r2,q2⟩=>⟨x::xs,H2,I2,.cons r1 r2,q2⟩
variable{g:List ab->List ab->List ab}{gV:List V->List V->List V}
end
structure a9(N P:List Str)(sc:dY):Prop where
 kind:sc.kind= .function
 co:sc.isCoroutine=false
 gen:sc.isGenerator=false
 nd:N.Nodup
 pre:N.take P.length=P
 par:∀x∈P,sc.names.lookup x=some .local\/sc.names.lookup x=some .cell
 RX:∀y∈sc.names,y.2≠.free
theorem Jp{kindOf:Str->Option iW}{x:Str}:∀{binds:List (Str×ab)} {m:Str->Option ab},(∀v,(x,v)∉binds)->bindL kindOf binds m x=m x
 |[],_,_=>rfl
 |(n,v)::r,m,h=>by
  unfold bindL;rw[Jp fun w hw=>h w (bR _ hw)];split
  ·have:x≠n:=by rintro rfl;exact h v bS
   simp[this]
  ·rfl
theorem Jq{kindOf:Str->Option iW}{x:Str}:∀{binds:List (Str×ab)} {m:Str->Option ab},(∀v,(x,v)∉binds)->bindC kindOf binds m x=m x
 |[],_,_=>rfl
 |(n,v)::r,m,h=>by
  unfold bindC;rw[Jq fun w hw=>h w (bR _ hw)];split
  ·rfl
  ·have:x≠n:=by rintro rfl;exact h v bS
   simp[this]
theorem Jr{kindOf:Str->Option iW}{x:Str}{v:ab}:∀{P:List Str} {vs:List ab} {i:Nat} {m:Str->Option ab},P.Nodup->P[i]? =some x->vs[i]? =some v->kindOf x=some .local->
  bindL kindOf (P.zip vs) m x=some v
 |[],_,_,_,_,h,_,_=>by simp at h
 |_::_,[],_,_,_,_,h,_=>by simp at h
 |p::P,w::vs,0,m,nd,h1,h2,hk=>by
  simp at h1 h2;subst h1;subst h2;show bindL kindOf ((p,w)::P.zip vs) m p=_;unfold bindL;rw[Jp fun v hv=>(jI.mp nd).1 (Ii hv).1,if_pos hk];simp
 |p::P,w::vs,i+1,m,nd,h1,h2,hk=>by
  show bindL kindOf ((p,w)::P.zip vs) m x=_;unfold bindL;exact Jr (i:=i) (jI.mp nd).2 (by simpa using h1) (by simpa using h2) hk
theorem Js{kindOf:Str->Option iW}{x:Str}{v:ab}:∀{P:List Str} {vs:List ab} {i:Nat} {m:Str->Option ab},P.Nodup->P[i]? =some x->vs[i]? =some v->kindOf x≠some .local->
  bindC kindOf (P.zip vs) m x=some v
 |[],_,_,_,_,h,_,_=>by simp at h
 |_::_,[],_,_,_,_,h,_=>by simp at h
 |p::P,w::vs,0,m,nd,h1,h2,hk=>by
  simp at h1 h2;subst h1;subst h2;show bindC kindOf ((p,w)::P.zip vs) m p=_;unfold bindC;rw[Jq fun v hv=>(jI.mp nd).1 (Ii hv).1,if_neg hk];simp
 |p::P,w::vs,i+1,m,nd,h1,h2,hk=>by
  show bindC kindOf ((p,w)::P.zip vs) m x=_;unfold bindC;exact Js (i:=i) (jI.mp nd).2 (by simpa using h1) (by simpa using h2) hk
def start(N:List Str)(vs:List V):St:=vs.map some++jg (N.length-vs.length) none
def m7(CX:kG)(P:bg)(w:aW)(K:aC)(mg:Str->Option ab)(base:aB)(N:List Str)(qual:Str)(scope:dY)(f:aa)(cd:ab)(A:bY)(outer:List Env)(s:ak)(H:Hp)(E:XK):Cx where
 prog:=P
 w:=w
 K:=K
 mg:=mg
 base:=base
 A:=A.deeper (envOfC qual scope s.heap.objs.size f cd)
 N:=N
 fJ:=s
 qd:=H
 env:=envOfC qual scope s.heap.objs.size f cd
 outer:=outer
 stack:=envOfC qual scope s.heap.objs.size f cd::outer
 ex:=[]
 calm:=true
 fn:=fun _=>true
 pn:=[]
 xe:=fun e s'=>wpAny (model P w) (A.deeper (envOfC qual scope s.heap.objs.size f cd)) (leaving (envOfC qual scope s.heap.objs.size f cd) e) (fun _ s''=>CX outer H s E e s'') (fun e' s''=>CX outer H s E e' s'') s'
theorem Jt{sc:dY}{n:Nat}{x:Str}(h:sc.names.lookup x=some .cell):∃c,(cellsFrom n sc.names []).lookup x=some c:=by
 have q:=aer sc.names n [] (.inl h);exact AZ.mp q
theorem RY{CX:kG}{P:bg}{w:aW}{K:aC}{mg:Str->Option ab}{base:aB}{N ps:List Str}{qual:Str}{scope:dY}{f:aa}{cd:ab}{A:bY}{outer:List Env}{s s1:ak}{H:Hp}{E:XK}{us:List ab}{vs:List V}
  (S:a9 N ps scope) (hd:A.handled=none) (e0:qm P w K mg base A outer s H) (hl:vs.length=ps.length) (r:Vals vs us)
  (x:InCallC s s.heap.objs.size (bindL (envOfC qual scope s.heap.objs.size f cd).kindOf (ps.zip us) fun _=>none) (cellsFrom (s.heap.objs.size+1) scope.names []) (bindC (envOfC qual scope s.heap.objs.size f cd).kindOf (ps.zip us) fun _=>none) s1):
  Inv (m7 CX P w K mg base N qual scope f cd A outer s H E) [] (start N vs) H s1:=by
 have cz:ps.length<=N.length:=by have:=congrArg iV S.pre;rw[iU] at this;omega
 obtain⟨h1,tk,rfl,hk⟩:=x.done;have noA:∀b:aa,b∉(m7 CX P w K mg base N qual scope f cd A outer s H E).ex:=fun b z=>absurd (show b∈([]:List aa) from z) (by simp);refine⟨⟨e0.mod,S.kind,rfl,rfl,aI _,fun y z c h1 h2=> ?_,fun y hy=> ?_,fun y c _ h=> ?_,fun _=>hd,Around.frames_deeper e0.frames,.inr ⟨rfl,rfl⟩,fun b z=>absurd z (noA b),e0.bs,e0.lP,fun b _ _=>noA b,fun b z=>absurd z (noA b),e0.jO,e0.qe⟩,
  rfl,e0.bare,Un.kept hk,⟨_,x.toInCall.ns,fun i y v h1 h2 h3=> ?_⟩,fun y c h=>⟨_,x.cell y c h⟩,e0.az.fresh (aI _),fun y c h=> ?_,fun p hp=>absurd (show p∈([]:List (aa×Obj)) from hp) (by simp),e0.az.kept hk,?_⟩
 ·exact name_of_addr x.apart (je h1) (je h2)
 ·have hy:scope.names.lookup y=some .cell\/scope.names.lookup y=some .free:=hy;rcases hy with hy|hy
  ·exact Jt hy
  ·exact absurd rfl (S.RX _ (je hy))
 ·exact fO (x.above y c (je h))
 ·have hi:i<vs.length:=by
   unfold start at h2;by_cases hi:i<vs.length
   ·exact hi
   ·rw[qV (by simpa using hi)] at h2;rw[List.getElem?_replicate] at h2;split at h2<;>cases h2
  have ha:vs[i]? =some v:=by
   unfold start at h2;rw[ox (by simpa using hi),aS] at h2;cases e:vs[i]? with
   |none=>rw[e] at h2;cases h2
   |some a=>rw[e] at h2;cases h2;rfl
  obtain⟨u,hu,rv⟩:=r.get ha;have hp:ps[i]? =some y:=by
   rw[<-S.pre,List.getElem?_take_of_lt (by omega)];exact h1
  have ndP:ps.Nodup:=by rw[<-S.pre];exact S.nd.sublist (HP _ _)
  refine⟨u,rv,?_⟩;rcases S.par y (bP hp) with k|k
  ·exact .inl ⟨k,Jr ndP hp hu k⟩
  ·obtain⟨c,e⟩:=Jt (n:=s.heap.objs.size+1) k;refine .inr ⟨.inl k,c,e,?_⟩;have q:=x.cell y c e;rw[Js ndP hp hu (by show scope.names.lookup y≠_;rw[k];decide)] at q;exact q
 ·exact e0.az.fresh (fO (x.above y c (je h)))
 ·unfold start;show _=N.length;rw[dJ,ao,Po];omega
theorem Ju{CX:kG}{P:bg}{w:aW}{K:aC}{mg:Str->Option ab}{base:aB}{k:Nat}{f:aa}{name qual:Str}{params:qc}{body:List aL}{scope:dY}{dV kV doc pm aD ct oc:ab}{an od:Option aa}
  {osl:Array (Option ab)} {N ps:List Str} {sp:Sp} (lk:K.lookup f=some ⟨oc,od,.func (mR name qual params body scope dV kV doc pm an aD ct),osl⟩) (eU:xR K aD qual=true) (S:a9 N ps scope)
  (len:∀vs H Q E,sp vs H Q E->vs.length=ps.length)
  (oV:∀(A:bY) (outer:List Env) (s:ak) (H:Hp) (vs:List V) (Q:VK) (E:XK),dw k (A.deeper (envOfC qual scope s.heap.objs.size f aD))->sp vs H Q E->
   ∃t,gT (m7 CX P w K mg base N qual scope f aD A outer s H E) body t/\t {nx:=fun _ H'=>Q .bc H',rt:=Q} (start N vs) H):
  aN P w K mg base CX (k+1) f (mR name qual params body scope dV kV doc pm an aD ct) ps sp:=by
 refine⟨len,fun A outer s H args us vs Q E hr e0 hb r iZ=> ?_⟩;have hl:=len _ _ _ _ iZ;have KX:K.In s.heap:=e0.mod.u0.keeps fun b o e=>(e0.bs b o e).1;have lim:s.heap.NoLimit:=e0.mod.nolimit.keeps fun b o e=>(e0.bs b o e).1;have RZ:∀y∈ps.zip us,scope.names.lookup y.1=some .local\/(scope.names.lookup y.1=some .cell/\((cellsFrom (s.heap.objs.size+1) scope.names []).lookup y.1).isSome=true):=fun⟨n,v⟩ hy=>by
  rcases S.par n (Ii hy).1 with q|q
  ·exact .inl q
  ·exact .inr ⟨q,aer _ _ _ (.inl q)⟩
 refine codeAny_call_function hr.depth (KX _ _ lk) rfl S.co S.gen rfl (PySem.W.codeRec_of KX eU) (hb _ _ _ _ ?_);refine wpAny_newFunctionEnv_cells S.kind RZ fun env he s1 x=> ?_;subst he;refine⟨lim.keeps x.toInCall.keep,codeAny_func ?_⟩;obtain⟨t,ht,hq⟩:=oV A outer s H vs Q E (hr.deeper _) iZ;have I:Inv (m7 CX P w K mg base N qual scope f aD A outer s H E) [] (start N vs) H s1:=RY S hr.hd e0 hl r x;refine iA (ht [] s1 (start N vs) H _ I hq) (fun fl s' hs=> ?_) fun e s' hs=>hs;have fin:∀{σ':St} {H':Hp} {v:V} {u:ab},Inv (m7 CX P w K mg base N qual scope f aD A outer s H E) [] σ' H' s'->RelV v u->Q v H'->CE outer P w H s Q u s':=
  fun {σ' H' v u} J rv q=>⟨v,H',J.os,J.bare,J.base,J.az,rv,q⟩
 cases fl with
 |ret u=>
  obtain⟨v,σ',H',J,rv,q⟩:=hs
  exact fin J rv q
 |next=>
  obtain⟨σ',H',J,q⟩:=hs
  exact fin (v:=V.bc) (u:=lL) J rfl q
 |brk=>
  obtain⟨_,_,_,q⟩:=hs
  exact ft q
 |cont=>
  obtain⟨_,_,_,q⟩:=hs
  exact ft q
section
variable{X:Cx}{x:Str}{p pos:Pos}{e:aG}{es:List aG}{t:TA}{id T:String}{r:List V->Hp->VK->Prop}
def B2(r:List V->Hp->VK->Prop)(t:TA):TE:=fun σ H Q=>t σ H fun vs H1=>r vs H1 Q
theorem cC(hc:fK X (.builtin id) r)(hg:Gl X x)(hm:X.mg x=none)(hv:bootBuiltins x=some (.builtin id))(ha:PA X (e::es) t)(hn:x≠"__name__":=by decide)(iG:(x==("__debug__":Str))=false:=by decide)
  (he:starEach (e::es) X.env=(false,eval e X.env)::starEach es X.env:=by rfl) (cz:(backTo pos (starEach es X.env)).any (·.1)=false:=by rfl):PE X (.Call (.Name x p) (e::es) [] pos) (B2 r t):=by
 intro pins s σ H Q I h;refine pO (kD I hg hm hv ?_ hn iG);exact aec (aH (ha pos pins s σ H _ I h) fun us s1 ⟨vs,H1,I1,r1,q1⟩=>hc pins s1 σ H1 vs us Q I1 r1 q1) he cz
theorem Jv(hc:fK X (.type T) r)(hg:Gl X x)(hm:X.mg x=none)(hv:bootBuiltins x=some (.type T))(ha:PA X (e::es) t)(hn:x≠"__name__":=by decide)(iG:(x==("__debug__":Str))=false:=by decide)
  (he:starEach (e::es) X.env=(false,eval e X.env)::starEach es X.env:=by rfl) (cz:(backTo pos (starEach es X.env)).any (·.1)=false:=by rfl):PE X (.Call (.Name x p) (e::es) [] pos) (B2 r t):=by
 intro pins s σ H Q I h;refine pO (kD I hg hm hv ?_ hn iG);exact qU (aH (ha pos pins s σ H _ I h) fun us s1 ⟨vs,H1,I1,r1,q1⟩=>hc pins s1 σ H1 vs us Q I1 r1 q1) he cz
end
end L2
namespace HT
open PySem PyProof.Rows
def lexLt:List Int->List Int->Bool
 |[],[]=>false
 |[],_::_=>true
 |_::_,[]=>false
 |x::xs,y::ys=>if x=y then lexLt xs ys else decide (x<y)
theorem rW(x y:Int)(xs ys:List Int):lexLt (x::xs) (y::ys)=if x=y then lexLt xs ys else decide (x<y):=rfl
theorem Jw:lexLt [] []=false:=rfl
theorem R1(y:Int)(ys:List Int):lexLt [] (y::ys)=true:=rfl
theorem yy(x:Int)(xs:List Int):lexLt (x::xs) []=false:=rfl
theorem Jx(A:bY)(s:ak)(a:Int)(t:Tok)(c:Int)(u:Tok):∃e,Qx A s (.int a t) (.int c u) e/\(e=true↔a=c):=
 ⟨(a==c),aey a t c u,by simp⟩
theorem Jy(A:bY)(s:ak)(a:Int)(t:Tok)(c:Int)(u:Tok)(prog:bg)(w:aW)(E:ab->ak->Prop)(Q:ab->ak->Prop)(h:Q (.bool (decide (a<c))) s):
  wpAny (model prog w) A (richCompare .Lt (.int a t) (.int c u)) Q E s:=
 (PyProof.Rows.lt_int h:wpAny (model prog w) A (compareOp .Lt (.int a t) (.int c u)) Q E s)
section
variable{prog:bg}{w:aW}{A:bY}{E:ab->ak->Prop}{s:ak}
def gE(n d:Nat):Option Int->Nat
 |none=>d
 |some v=>if v<0 then(v+(n:Int)).toNat else min v.toNat n
theorem R3(n d:Nat):gE n d none=d:=rfl
theorem B3(n d k:Nat):gE n d (some (k:Int))=min k n:=by
 show(if (k:Int)<0 then((k:Int)+(n:Int)).toNat else min (k:Int).toNat n)=min k n;rw[if_neg (by omega),iT]
end
end HT
namespace L2
open PySem PySem.Spec PyProof.Rows
abbrev TO:=St->Hp->(Option Int->Hp->Prop)->Prop
def PO(X:Cx)(e:Option aG)(t:TO):Prop:=
 ∀(pins:List (aa×Obj)) (s:ak) (σ:St) (H:Hp) (Q:Option Int->Hp->Prop),Inv X pins σ H s->t σ H Q->
  wpAny (model X.prog X.w) X.A (evalPart e X.env) (fun u s'=>∃o H',Inv X pins σ H' s'/\IsPart u o/\Q o H') X.xe s
def R4:TO:=fun _ H Q=>Q none H
def R5(t:TE):TO:=fun σ H Q=>t σ H fun x H1=>∃i,x= .int i/\Q (some i) H1
section
variable{X:Cx}{e:aG}{te:TE}{lo hi:Option aG}{tl th:TO}{pos p2:Pos}
theorem R6:PO X none R4:=by
 intro pins s σ H Q I h;rw[Qu];exact aO ⟨none,H,I,.none,h⟩
theorem fw(h:PE X e te):PO X (some e) (R5 te):=by
 intro pins s σ H Q I hw;rw[evalPart_some];refine aH (h pins s σ H _ I hw) fun u s1 ⟨x,H1,I1,r1,q1⟩=> ?_;obtain⟨i,rfl,q⟩:=q1;obtain⟨t,rfl⟩:=r1;exact⟨some i,H1,I1,.int i t,q⟩
def B4(X:Cx)(r:V->Option Int->Option Int->Hp->VK->Prop):Prop:=
 ∀(pins:List (aa×Obj)) (s:ak) (σ:St) (H:Hp) (x:V) (v vl vu:ab) (lo hi:Option Int) (sl:aa) (Q:VK),Inv X pins σ H s->RelV x v->s.heap.IsSliceOf sl vl vu .none->IsPart vl lo->IsPart vu hi->r x lo hi H Q->
  ∃T id,typeLookup (.type T) "__getitem__"=pure (some (.builtin id))/\s.TypeIs v T/\wpAny (model X.prog X.w) X.A (getItem v (.ref sl)) (EP X pins σ Q) X.xe s
def R7(r:V->Option Int->Option Int->Hp->VK->Prop)(te:TE)(tl th:TO):TE:=fun σ H Q=>te σ H fun x H1=>tl σ H1 fun l H2=>th σ H2 fun u H3=>r x l u H3 Q
theorem B5{r:V->Option Int->Option Int->Hp->VK->Prop}(hr:B4 X r)(he:PE X e te)(hl:PO X lo tl)(hu:PO X hi th):PE X (.Subscript e (.Slice lo hi none p2) pos) (R7 r te tl th):=by
 intro pins s σ H Q I h;refine By (aH (he pins s σ H _ I h) fun v s1 ⟨x,H1,I1,r1,q1⟩=> ?_);refine wpAny_Slice (aH (hl pins s1 σ H1 _ I1 q1) fun vl s2 ⟨l,H2,I2,pl,q2⟩=>aH (hu pins s2 σ H2 _ I2 q2) fun vu s3 ⟨u,H3,I3,pu,q3⟩=> ?_);rw[Qu];refine aO ?_;have I4:Inv X pins σ H3 {s3 with heap:=s3.heap.push {cls:= .type "slice",data:= .fields #[vl,vu,.none]}}:=I3.kept (t':=s3.toks) fun b ob q=>cx _ q;obtain⟨T,id,hT,ht,hg⟩:=hr pins {s3 with heap:=s3.heap.push {cls:= .type "slice",data:= .fields #[vl,vu,.none]}} σ H3 x v vl vu l u s3.heap.objs.size Q I4 r1 (aek ..) pl pu q3;show wpAny (model X.prog X.w) X.A (subscriptTail e (.Slice lo hi none p2) v (.ref s3.heap.objs.size)) (EP X pins σ Q) X.xe {s3 with heap:=s3.heap.push {cls:= .type "slice",data:= .fields #[vl,vu,.none]}};exact tail_any (ops:=[.ref s3.heap.objs.size,v]) ht hT hg (by with_unfolding_all rfl)
def lY(xs:List V)(lo hi:Option Int):List V:=(xs.drop (HT.gE xs.length 0 lo)).take (HT.gE xs.length xs.length hi-HT.gE xs.length 0 lo)
theorem R8(xs:List V)(lo hi:Option Int):(lY xs lo hi).length<=xs.length:=by
 unfold lY;rw[iU,PR];omega
end
def m8(n:Nat)(i:Int):Option Nat:=if 0<=i then(if i<n then some i.toNat else none) else if-(n:Int)<=i then some (i+n).toNat else none
def jS{α:Type}(xs:List α)(i:Int):Option α:=(m8 xs.length i).bind fun j=>xs[j]?
theorem Jz{n:Nat}{i:Int}{j:Nat}(h:m8 n i=some j):seqIndex? i n=some j/\j<n/\ -(n:Int)<=i/\i<n:=by
 unfold m8 at h;by_cases h0:0<=i
 ·rw[if_pos h0] at h;by_cases h1:i<n
  ·rw[if_pos h1] at h;have e:i.toNat=j:=fe h;exact⟨by rw[seqIndex_of h0 h1,e],by omega,by omega,h1⟩
  ·rw[if_neg h1] at h;cases h
 ·rw[if_neg h0] at h;by_cases h1: -(n:Int)<=i
  ·rw[if_pos h1] at h;have e:(i+n).toNat=j:=fe h;exact⟨by rw[seqIndex_neg (by omega) h1,e],by omega,h1,by omega⟩
  ·rw[if_neg h1] at h;cases h
theorem JA{α:Type}{xs:List α}{i:Int}{v:α}(h:jS xs i=some v):∃j,seqIndex? i xs.length=some j/\xs[j]? =some v/\j<xs.length/\ -(xs.length:Int)<=i/\i<xs.length:=by
 unfold jS at h;cases e:m8 xs.length i with
 |none=>rw[e] at h;cases h
 |some j=>
  rw[e] at h
  obtain⟨h1,h2,h3,h4⟩:=Jz e
  exact⟨j,h1,h,h2,h3,h4⟩
theorem bL{α:Type}{xs:List α}{j:Nat}{v:α}(h:xs[j]? =some v):jS xs (j:Int)=some v:=by
 have hj:j<xs.length:=(cJ.mp h).1;have e:m8 xs.length (j:Int)=some j:=by
  unfold m8;rw[if_pos (by omega),if_pos (by omega)];simp
 unfold jS;rw[e];exact h
def R9(b:aG):Prop:=∀o i,subscripted b false o i=operate [o,i] (getItem o i)
def vp(X:Cx)(r:R2):Prop:=
 ∀(value slice:aG) (pins:List (aa×Obj)) (s:ak) (σ:St) (H:Hp) (x y:V) (v u:ab) (Q:VK),Inv X pins σ H s->RelV x v->RelV y u->r x y H Q->
  subscripted slice false v u=operate [v,u] (getItem v u)->wpAny (model X.prog X.w) X.A (subscriptTail value slice v u) (EP X pins σ Q) X.xe s
def Sa(X:Cx)(id:String)(r:V->List V->Hp->VK->Prop):Prop:=
 ∀(pins:List (aa×Obj)) (s:ak) (σ:St) (H:Hp) (x:V) (xs:List V) (v:ab) (us:List ab) (Q:VK),Inv X pins σ H s->RelV x v->Vals xs us->r x xs H Q->
  wpAny (model X.prog X.w) X.A (call (.builtin id) (v::us)) (EP X pins σ Q) X.xe s
section
variable{X:Cx}{a b:aG}{ta tb:TE}{pos:Pos}
theorem bK{r:R2}(hr:vp X r)(ha:PE X a ta)(hb:PE X b tb)(hs:R9 b):PE X (.Subscript a b pos) (yr r ta tb):=by
 intro pins s σ H Q I h;exact By (BO ha hb I h fun v u s2 x y H2 I2 rx ry q=>hr a b pins s2 σ H2 x y v u Q I2 rx ry q (hs _ _))
def JB(K:aC):R2:=fun x y H Q=>∃p xs i v,x= .ref p/\y= .int i/\ah K H p xs/\jS xs i=some v/\Q v H
def JC(K:aC):R2:=fun x y H Q=>∃p xs i v,x= .ref p/\y= .int i/\cH K H p xs/\jS xs i=some v/\Q v H
theorem Sb:vp X (JB X.K):=by
 intro value slice pins s σ H x y v u Q I rx ry h hs;obtain⟨p,xs,i,z,rfl,rfl,hq,he,q⟩:=h;cases rx;obtain⟨t,rfl⟩:=ry;obtain⟨aj,r,pl,hz⟩:=I.list hq;obtain⟨j,h1,h2,h3,h4,h5⟩:=JA he;obtain⟨w,ew,rw'⟩:=r.get h2;have hl:=r.length;have hn:=qi;have fin:EP X pins σ Q w s:=⟨z,H,I,rw',q⟩;by_cases h0:0<=i
 ·have hj:i.toNat=j:=by
   rw[seqIndex_of h0 h5] at h1;exact fe h1
  exact item_listR pl.isList h0 (by omega) (by rw[hj];simpa using ew) fin hs
 ·have hj:(i+(aj.toArray.size:Int)).toNat=j:=by
   rw[seqIndex_neg (by omega) h4] at h1;rw[dN,<-hl];exact fe h1
  exact afe (x:=w) pl.isList.typeIs slot_list_getitem.lookup
   (wpAny_getItem_list_neg (Q:=fun r s'=>r=w/\EP X pins σ Q r s') pl.isList (by omega) (by rw[dN]<;>omega) (by omega) (by rw[hj];simpa using ew) ⟨rfl,fin⟩) hs
theorem Sd:vp X (JC X.K):=by
 intro value slice pins s σ H x y v u Q I rx ry h hs;obtain⟨p,xs,i,z,rfl,rfl,hq,he,q⟩:=h;cases rx;obtain⟨t,rfl⟩:=ry;obtain⟨aj,r,pl,hz⟩:=I.tuple hq;obtain⟨j,h1,h2,h3,h4,h5⟩:=JA he;obtain⟨w,ew,rw'⟩:=r.get h2;have hl:=r.length;have hn:=qi;have fin:EP X pins σ Q w s:=⟨z,H,I,rw',q⟩;exact afe (x:=w) pl.typeIs slot_tuple_getitem.lookup
  (getItem_tuple (j:=j) (Q:=fun r s'=>r=w/\EP X pins σ Q r s') pl (by omega) (by omega) (by rw[dN,<-hl];exact h1) (by simpa using ew) ⟨rfl,fin⟩) hs
theorem Se(aj:List ab)(n j:Nat)(u:ab):lM (·.setIfInBounds j u) {cls:= .type "list",data:= .seq aj.toArray n}={cls:= .type "list",data:= .seq (aj.set j u).toArray n}:=by
 simp[lM]
theorem Inv.lst{pins:List (aa×Obj)}{σ:St}{H:Hp}{s:ak}{p:aa}{xs:List V}(I:Inv X pins σ H s)(h:H p=some (.lst xs)):
  ∃(aj:List ab) (n:Nat),Vals xs aj/\s.heap.get? p=some {cls:= .type "list",data:= .seq aj.toArray n}/\xs.length<=sizeLine:=by
 obtain⟨z,aj,n,r,e⟩:=I.az p _ h;exact⟨aj,n,r,e,z⟩
theorem Inv.Sf{pins:List (aa×Obj)}{σ:St}{H:Hp}{s:ak}{p:aa}{xs ys:List V}{aj its':List ab}{n n':Nat}{f:Obj->Obj}(I:Inv X pins σ H s)(h:H p=some (.lst xs))
  (ho:s.heap.get? p=some {cls:= .type "list",data:= .seq aj.toArray n}) (hf:f {cls:= .type "list",data:= .seq aj.toArray n}={cls:= .type "list",data:= .seq its'.toArray n'}) (r:Vals ys its') (hz:ys.length<=sizeLine) (t:Nat):
  Inv X pins σ (upd H p (.lst ys)) {s with heap:=s.heap.update p f,toks:=t}:=by
 have e:(s.heap.update p f).get? p=some {cls:= .type "list",data:= .seq its'.toArray n'}:=by
  rw[Hw f ho (by rw[hf]<;>rfl),hf]
 refine I.write (x:=p) (e:=p) (by rw[h];trivial) (.inl rfl) (fun b u hb q=>(aeE _ _ (d7 hb)).trans q) ⟨_,e⟩ ?_;exact⟨hz,its',n',r,e⟩
def Sg:V->V->V->Hp->(Hp->Prop)->Prop:=fun o i v H Q=>∃p xs k j,o= .ref p/\i= .int k/\H p=some (.lst xs)/\m8 xs.length k=some j/\Q (upd H p (.lst (xs.set j v)))
theorem set_list:BI X Sg:=by
 intro pins s σ H o i v ov iv u Q I ro ri rv h;obtain⟨p,xs,k,j,rfl,rfl,hp,hj,q⟩:=h;cases ro;obtain⟨t,rfl⟩:=ri;obtain⟨aj,n,r,ho,hz⟩:=I.lst hp;obtain⟨h1,h2,h3,h4⟩:=Jz hj;have hl:=r.length;have hn:=qi;have I':Inv X pins σ (upd H p (.lst (xs.set j v))) {s with heap:=s.heap.update p (lM (·.setIfInBounds j u))}:=
  I.Sf hp ho (Se aj n j u) (r.set rv j) (by rw[uJ];exact hz) s.toks
 by_cases h0:0<=k
 ·have hk:k.toNat=j:=by
   rw[seqIndex_of h0 h4] at h1;exact fe h1
  exact PySem.W.ki_setAt ho h0 (by omega) (by rw[dN,<-hl];exact h4) (by rw[hk];exact⟨_,I',q⟩)
 ·have hk:(k+(aj.toArray.size:Int)).toNat=j:=by
   rw[seqIndex_neg (by omega) h3] at h1;rw[dN,<-hl];exact fe h1
  exact PySem.W.ki_setBack ho (by omega) (by rw[dN,<-hl];exact h3) (by omega) (by rw[hk];exact⟨_,I',q⟩)
theorem Sh(lo hi:Option Int)(n:Nat):(sliceBounds lo hi none n).1=((HT.gE n 0 lo:Nat):Int)/\(sliceBounds lo hi none n).2.1=((HT.gE n n hi:Nat):Int)/\(sliceBounds lo hi none n).2.2=1:=by
 refine⟨?_,?_,rfl⟩
 ·cases lo with
  |none=>simp[sliceBounds,HT.gE]
  |some i=>
   simp only[sliceBounds,HT.gE,ae7,show(1:Int)>0 by decide,if_true]
   by_cases h:i<0
   ·simp only[h,if_true]<;>omega
   ·simp only[h,if_false]<;>omega
 ·cases hi with
  |none=>simp[sliceBounds,HT.gE]
  |some i=>
   simp only[sliceBounds,HT.gE,ae7,show(1:Int)>0 by decide,if_true]
   by_cases h:i<0
   ·simp only[h,if_true]<;>omega
   ·simp only[h,if_false]<;>omega
theorem Si(aj:List ab)(lo hi:Option Int):slicePick aj.toArray lo hi none=((aj.drop (HT.gE aj.length 0 lo)).take (HT.gE aj.length aj.length hi-HT.gE aj.length 0 lo)).toArray:=by
 obtain⟨h1,h2,h3⟩:=Sh lo hi aj.toArray.size;unfold slicePick;rw[h1,h2,h3];simp only[sliceRange_one,pick_run,dN]<;>rfl
def JD(K:aC):V->Option Int->Option Int->Hp->VK->Prop:=fun x lo hi H Q=>∃a xs,x= .ref a/\ah K H a xs/\∀p,H p=none->Q (.ref p) (upd H p (.lst (lY xs lo hi)))
theorem Sj:B4 X (JD X.K):=by
 intro pins s σ H x v vl vu lo hi sl Q I rx hs pl pu h;obtain⟨a,xs,rfl,hx,q⟩:=h;cases rx;obtain⟨aj,r,ht,hz⟩:=I.list hx;have hlen:=r.length;refine⟨"list",_,slot_list_getitem.lookup,ht.isList.typeIs,?_⟩;refine aeX ht.isList hs pl pu .none (by simp) ?_ (by rw[dN]<;>omega);rw[Si,<-hlen];refine⟨.ref s.heap.objs.size,_,I.laid (t':=s.toks) (o:= .lst (lY xs lo hi)) (fun b ob q=>cx _ q) (aI _) ?_,rfl,q _ (I.az.fresh (aI _))⟩;exact⟨dr (R8 xs lo hi) hz,_,0,(r.drop (HT.gE xs.length 0 lo)).take (HT.gE xs.length xs.length hi-HT.gE xs.length 0 lo),cG _ rfl⟩
def lZ:V->Bool
 | .bc=>true
 | .bl _=>true
 | .int _=>true
 | .str _=>true
 |_=>false
def m9:V->V->Bool
 | .bc,.bc=>true
 | .bl a,.bl b=>a==b
 | .bl a,.int b=>(if a then 1 else 0)==b
 | .int a,.bl b=>a==(if b then 1 else 0)
 | .int a,.int b=>a==b
 | .str a,.str b=>a==b
 |_,_=>false
theorem Sk{A:bY}{s:ak}{y x:V}{u v:ab}(ry:RelV y u)(rx:RelV x v)(fy:lZ y=true)(fx:lZ x=true):Qx A s u v (m9 y x):=by
 cases y with
 |bc=>
  cases ry
  cases x with
  |bc=>cases rx;exact SeqAt.EqAt.same _
  |bl b=>cases rx;exact SeqAt.EqAt.none_bool b
  |int b=>obtain⟨t,rfl⟩:=rx;exact SeqAt.EqAt.none_int b t
  |str b=>obtain⟨t,rfl⟩:=rx;exact SeqAt.EqAt.none_str b t
  |_=>exact absurd (show false=true from fx) df
 |bl a=>
  cases ry
  cases x with
  |bc=>cases rx;exact SeqAt.EqAt.bool_none a
  |bl b=>cases rx;exact SeqAt.EqAt.bool_bool a b
  |int b=>obtain⟨t,rfl⟩:=rx;exact SeqAt.EqAt.bool_int a b t
  |str b=>obtain⟨t,rfl⟩:=rx;exact SeqAt.EqAt.bool_str a b t
  |_=>exact absurd (show false=true from fx) df
 |int a=>
  obtain⟨t',rfl⟩:=ry
  cases x with
  |bc=>cases rx;exact SeqAt.EqAt.int_none a t'
  |bl b=>cases rx;exact SeqAt.EqAt.int_bool a t' b
  |int b=>obtain⟨t,rfl⟩:=rx;exact aey a t' b t
  |str b=>obtain⟨t,rfl⟩:=rx;exact aex a t' b t
  |_=>exact absurd (show false=true from fx) df
 |str a=>
  obtain⟨t',rfl⟩:=ry
  cases x with
  |bc=>cases rx;exact SeqAt.EqAt.str_none a t'
  |bl b=>cases rx;exact SeqAt.EqAt.str_bool a t' b
  |int b=>obtain⟨t,rfl⟩:=rx;exact aew a t' b t
  |str b=>obtain⟨t,rfl⟩:=rx;exact SeqAt.EqAt.str_str a t' b t
  |_=>exact absurd (show false=true from fx) df
 |_=>exact absurd (show false=true from fy) df
def iH(x:V)(u:ab):Bool:=match u with
 | .none=>m9 .bc x
 | .bool b=>m9 (.bl b) x
 | .int i _=>m9 (.int i) x
 | .str z _=>m9 (.str z) x
 |_=>false
theorem JE{x y:V}{u:ab}(r:RelV y u)(f:lZ y=true):iH x u=m9 y x:=by
 cases y with
 |bc=>cases r;rfl
 |bl b=>cases r;rfl
 |int i=>obtain⟨t,rfl⟩:=r;rfl
 |str z=>obtain⟨t,rfl⟩:=r;rfl
 |_=>exact absurd (show false=true from f) df
theorem vq{x:V}:∀{xs:List V} {us:List ab},Vals xs us->xs.all lZ=true->us.any (iH x)=xs.any fun y=>m9 y x
 |_,_,.nil,_=>rfl
 |y::xs,u::us,.cons r t,f=>by
  rw[pY,cM] at f;rw[pW,pW,JE r f.1,vq t f.2]
theorem vt{A:bY}{s:ak}{x:V}{v:ab}(rx:RelV x v)(fx:lZ x=true):∀{xs:List V} {us:List ab},Vals xs us->xs.all lZ=true->∀u∈us,Qx A s u v (iH x u)
 |_,_,.nil,_=>fun u hu=>by cases hu
 |y::xs,u::us,.cons r t,f=>fun u' hu=>by
  rw[pY,cM] at f;rcases b0.mp hu with rfl|hu
  ·rw[JE r f.1];exact Sk r rx f.1 fx
  ·exact vt rx fx t f.2 u' hu
def jT(x:V)(xs:List V):Bool:=xs.any fun y=>m9 y x
def yz(K:aC)(neg:Bool):R2:=fun x y H Q=>∃p xs,y= .ref p/\(ah K H p xs\/cH K H p xs)/\lZ x=true/\xs.all lZ=true/\Q (.bl (if neg then !jT x xs else jT x xs)) H
theorem Sl:eh X (compareOp .In) (yz X.K false):=by
 intro pins s σ H x y v u Q I rx ry h;obtain⟨p,xs,rfl,hq,fx,fs,q⟩:=h;cases ry;rcases hq with hq|hq
 ·obtain⟨aj,r,pl,hz⟩:=I.list hq;refine SeqAt.in_listAt (iH x) pl.isList (fun w hw=>vt rx fx r fs w (by simpa using hw)) ⟨.bl _,H,I,rfl,?_⟩;rw[show aj.toArray.any (iH x)=aj.any (iH x) by simp,vq r fs];exact q
 ·obtain⟨aj,r,pl,hz⟩:=I.tuple hq;refine SeqAt.in_tupleAt (iH x) pl (fun w hw=>vt rx fx r fs w (by simpa using hw)) ⟨.bl _,H,I,rfl,?_⟩;rw[show aj.toArray.any (iH x)=aj.any (iH x) by simp,vq r fs];exact q
theorem Sm:eh X (compareOp .NotIn) (yz X.K true):=by
 intro pins s σ H x y v u Q I rx ry h;obtain⟨p,xs,rfl,hq,fx,fs,q⟩:=h;cases ry;rcases hq with hq|hq
 ·obtain⟨aj,r,pl,hz⟩:=I.list hq;refine SeqAt.notIn_listAt (iH x) pl.isList (fun w hw=>vt rx fx r fs w (by simpa using hw)) ⟨.bl _,H,I,rfl,?_⟩;rw[show aj.toArray.any (iH x)=aj.any (iH x) by simp,vq r fs];exact q
 ·obtain⟨aj,r,pl,hz⟩:=I.tuple hq;refine SeqAt.notIn_tupleAt (iH x) pl (fun w hw=>vt rx fx r fs w (by simpa using hw)) ⟨.bl _,H,I,rfl,?_⟩;rw[show aj.toArray.any (iH x)=aj.any (iH x) by simp,vq r fs];exact q
theorem Sn:fK X (.builtin "len") (fun xs H Q=>∃p ys,xs=[.ref p]/\(ah X.K H p ys\/cH X.K H p ys)/\Q (.int ys.length) H):=by
 intro pins s σ H xs us Q I r h;obtain⟨p,ys,rfl,hq,q⟩:=h;obtain⟨u,rfl,rx⟩:=vals1 r;cases rx;have hn:=qi;rcases hq with hq|hq
 ·obtain⟨aj,r',pl,hz⟩:=I.list hq;have hlen:=r'.length;exact aeP pl.isList (by simp only[dN]<;>omega) ⟨.int ys.length,H,I.tok _,⟨s.toks+1,by rw[dN,hlen]⟩,q⟩
 ·obtain⟨aj,r',pl,hz⟩:=I.tuple hq;have hlen:=r'.length;exact len_tuple pl (by simp only[dN]<;>omega) ⟨.int ys.length,H,I.tok _,⟨s.toks+1,by rw[dN,hlen]⟩,q⟩
theorem So:fK X (.type "list") (fun xs H Q=>∃p ys,xs=[.ref p]/\(ah X.K H p ys\/cH X.K H p ys)/\∀l,H l=none->Q (.ref l) (upd H l (.lst ys))):=by
 intro pins s σ H xs us Q I r h;obtain⟨p,ys,rfl,hq,q⟩:=h;obtain⟨u,rfl,rx⟩:=vals1 r;cases rx;have fin:∀(aj:List ab),Vals ys aj->ys.length<=sizeLine->∀(h':aB) (c':Nat),(∀b o',s.heap.get? b=some o'->h'.get? b=some o')->
   h'.get? s.heap.objs.size=some {cls:= .type "list",dict:=none,data:= .seq aj.toArray c',slots:= #[]}->EP X pins σ Q (.ref s.heap.objs.size) {s with heap:=h'}:=fun aj r' hz h' c' kp e=>
  ⟨.ref s.heap.objs.size,_,I.laid (t':=s.toks) kp (aI _) (show de X.prog X.w _ h' _ (.lst ys) from⟨hz,aj,c',r',e⟩),rfl,q _ (I.az.fresh (aI _))⟩
 rcases hq with hq|hq
 ·obtain⟨aj,r',pl,hz⟩:=I.list hq;have hlen:=r'.length;obtain⟨o,ho,hc,n,hd⟩:=pl.isList;exact call_list_seq p (.inl rfl) ho hc hd (fun h' c' kp e=>fin aj r' hz h' c' kp e) (by simp only[dN]<;>omega)
 ·obtain⟨aj,r',pl,hz⟩:=I.tuple hq;have hlen:=r'.length;obtain⟨o,ho,hc,n,hd⟩:=pl;exact call_list_seq p (.inr rfl) ho hc hd (fun h' c' kp e=>fin aj r' hz h' c' kp e) (by simp only[dN]<;>omega)
def JF(K:aC)(T:String)(x:V)(H:Hp):Prop:=match x with
 | .str _=>T="str"
 | .int _=>T="int"
 | .ref p=>(T="list"/\∃xs,ah K H p xs)\/(T="tuple"/\∃o,K.lookup p=some o/\o.cls= .type "tuple"/\o.dict=none)\/
   (T="dict"/\((∃kvs,H p=some (.dK kvs))\/∃kvs,H p=some (.dT kvs)))\/(T="set"/\∃S n,H p=some (.set S n))
 |_=>False
theorem Sq{pins:List (aa×Obj)}{σ:St}{H:Hp}{s:ak}{T:String}{x:V}{v:ab}(I:Inv X pins σ H s)(r:RelV x v)(ty:JF X.K T x H):
  s.TypeIs v T/\∀a,v= .ref a->∃ob,s.heap.get? a=some ob/\ob.dict=none:=by
 cases x with
 |str z=>
  obtain⟨t,rfl⟩:=r
  cases (show T="str" from ty)
  exact⟨typeIs_str s z t,fun _ e=>nomatch e⟩
 |int i=>
  obtain⟨t,rfl⟩:=r
  cases (show T="int" from ty)
  exact⟨typeIs_int s i t,fun _ e=>nomatch e⟩
 |ref p=>
  cases r
  rcases ty with⟨rfl,xs,hq⟩|⟨rfl,o,hk,hc,hd⟩|⟨rfl,hk⟩|⟨rfl,S,n,hk⟩
  ·obtain⟨aj,_,pl,_⟩:=I.list hq
   refine⟨pl.isList.typeIs,fun a e=> ?_⟩
   cases e
   obtain⟨o,n,e,c,hd,_⟩:=pl
   exact⟨o,e,hd⟩
  ·refine⟨⟨o,I.gd p o hk,hc⟩,fun a e=> ?_⟩
   cases e
   exact⟨o,I.gd _ o hk,hd⟩
  ·have z:∃o,s.heap.get? p=some o/\o.ExactDict:=by
    rcases hk with⟨kvs,hk⟩|⟨kvs,hk⟩
    ·obtain⟨_,_,_,_,o,_,_,e,ex,_⟩:=I.az p _ hk;exact⟨o,e,ex⟩
    ·obtain⟨_,_,_,_,o,_,_,e,ex,_⟩:=I.az p _ hk;exact⟨o,e,ex⟩
   obtain⟨o,e,ex⟩:=z
   refine⟨⟨o,e,ex.1⟩,fun a e2=> ?_⟩
   cases e2
   exact⟨o,e,ex.2.1⟩
  ·obtain⟨o,_,_,_,e,ex,_⟩:=I.az p _ hk
   refine⟨⟨o,e,ex.1⟩,fun a e2=> ?_⟩
   cases e2
   exact⟨o,e,ex.2.1⟩
 |_=>exact ft ty
def B6(K:aC)(T:String)(r:V->List V->Hp->VK->Prop)(to:TE)(t:TA):TE:=fun σ H Q=>to σ H fun x H1=>JF K T x H1/\t σ H1 fun xs H2=>r x xs H2 Q
variable{o e:aG}{es:List aG}{to:TE}{t:TA}{name:Str}{apos d4:Pos}{T id:String}{r:V->List V->Hp->VK->Prop}
theorem jn(pa:PlainAttrs T)(slot:Slot T name id)(B7:typeOf (.builtin id)=pure (.type "method_descriptor"))(hm:Sa X id r)(ho:PE X o to)(ha:PA X (e::es) t)
  (vw:attributeBase o name X.env (eval o X.env)=eval o X.env:=by rfl)
  (Sr:((backTo d4 (starEach (e::es) X.env)).all (fun x=> !x.1)&&(backToKw d4 (keywordEach [] X.env)).all (fun x=>x.1.isSome)
   &&decide ((e::es).length+([]:List rH).length+(if ([]:List rH).isEmpty then 0 else 1)<30))=true:=by rfl)
  (vx:(apos.endLine==d4.line)=true:=by rfl) (hs:starEach (e::es) X.env=(false,eval e X.env)::starEach es X.env:=by rfl) (Ss:(backTo d4 (starEach es X.env)).any (·.1)=false:=by rfl):
  PE X (.Call (.Attribute o name apos) (e::es) [] d4) (B6 X.K T r to t):=by
 intro pins s σ H Q I h;refine wpAny_Call_method_late vw Sr vx rfl (aH (ho pins s σ H _ I h) fun v s1 ⟨x,H1,I1,r1,ty,q1⟩=> ?_);obtain⟨h1,h2⟩:=Sq I1 r1 ty;refine⟨T,id,pa,slot,B7,h1,h2,?_⟩;have hA:=ha d4 pins s1 σ H1 _ I1 q1;rw[hs] at hA ⊢;refine aeC (by show(false||(backTo d4 (starEach es X.env)).any (·.1))=false;rw[Ss]<;>rfl) (aeG ?_);exact aH hA fun us s2 ⟨vs,H2,I2,r2,q2⟩=>hm pins s2 σ H2 x vs v us Q I2 r1 r2 q2
end
def yA(X:Cx)(id:String)(r:V->List V->Hp->VK->Prop):Prop:=
 ∀(pins:List (aa×Obj)) (s:ak) (σ:St) (H:Hp) (x:V) (xs:List V) (v:ab) (us:List ab) (Q:VK),Inv X pins σ H s->RelV x v->Vals xs us->r x xs H Q->
  wpAny (model X.prog X.w) X.A (call (.builtin id) (v::us)) (EP X pins σ Q) X.xe s
theorem Vals.one:∀{x:V} {us:List ab},Vals [x] us->∃u,us=[u]/\RelV x u
 |_,_,.cons r .nil=>⟨_,rfl,r⟩
theorem Vals.rep{xs:List V}{us:List ab}(h:Vals xs us):∀k:Nat,Vals (jg k xs).flatten (jg k us).flatten
 |0=> .nil
 |k+1=>by
  rw[xC,xC,A9,A9];exact Vals.append h (Vals.rep h k)
theorem foldl_rep(aj:List ab):∀(k:Nat) (acc:List ab),
  Qy (fun x1 x2=>x1++x2) acc.toArray (jg k aj.toArray)=(acc++(jg k aj).flatten).toArray
 |0,acc=>by simp
 |k+1,acc=>by
  have e:acc.toArray++aj.toArray=(acc++aj).toArray:=by simp
  have e2:(acc++aj)++(jg k aj).flatten=acc++(jg (k+1) aj).flatten:=by
   rw[xC,A9,xK]
  rw[<-e2,<-foldl_rep aj k (acc++aj),<-e,xC,List.foldl_cons]
section
variable{X:Cx}{pins:List (aa×Obj)}{σ:St}{H:Hp}{s:ak}{l b:aa}{xs ys zs:List V}
theorem Inv.B8{aj its':List ab}{n:Nat}{f:Array ab->Array ab}{t':Nat}(I:Inv X pins σ H s)(hH:H l=some (.lst xs))
  (e:s.heap.get? l=some {cls:= .type "list",data:= .seq aj.toArray n}) (hf:f aj.toArray=its'.toArray) (hv:Vals ys its') (hz:ys.length<=sizeLine):
  Inv X pins σ (upd H l (.lst ys)) {s with heap:=s.heap.update l (lM f),toks:=t'}:=by
 have q:=PySem.IsL.update e f;rw[hf] at q;refine I.write (x:=l) (e:=l) (by rw[hH];exact trivial) (.inl rfl) (fun b' u hb hu=>(aeE s.heap (lM f) (d7 hb)).trans hu) ⟨_,q⟩ ?_;exact⟨hz,its',_,hv,q⟩
theorem Inv.JG{aj:List ab}{t':Nat}(I:Inv X pins σ H s)(hv:Vals ys aj)(hz:ys.length<=sizeLine):
  Inv X pins σ (upd H s.heap.objs.size (.lst ys)) {s with heap:=s.heap.push {cls:= .type "list",data:= .seq aj.toArray},toks:=t'}:=
 I.laid (fun _ _ q=>cx _ q) (aI _) ⟨hz,aj,0,hv,cG _ rfl⟩
theorem Inv.fresh(I:Inv X pins σ H s):H s.heap.objs.size=none:=I.az.fresh (aI _)
theorem Inv.qo(I:Inv X pins σ H s)(hH:H l=some (.lst xs)):xs.length<=sizeLine/\∃(aj:List ab) (n:Nat),Vals xs aj/\xs.length=aj.length/\s.heap.get? l=some {cls:= .type "list",data:= .seq aj.toArray n}:=by
 obtain⟨z,aj,n,r,e⟩:=I.az l _ hH;exact⟨z,aj,n,r,r.length,e⟩
theorem B9{n:Nat}(h:n<=sizeLine):xt n=false:=by
 unfold xt;exact decide_eq_false (by omega)
end
section
variable{X:Cx}
def JH:V->List V->Hp->VK->Prop:=fun x vs H Q=>∃l xs y,x= .ref l/\vs=[y]/\H l=some (.lst xs)/\xs.length<sizeLine/\Q .bc (upd H l (.lst (xs++[y])))
theorem rX:yA X "list.append" JH:=by
 intro pins s σ H x vs v us Q I rx rv h;obtain⟨l,xs,y,rfl,rfl,hH,hz,q⟩:=h;cases rx;obtain⟨u,rfl,ru⟩:=rv.one;obtain⟨z,aj,n,r,hl,e⟩:=I.qo hH;refine Bx F.slot_list_append ⟨_,e,rfl⟩ F.entry_list_append (F.args_list_append_2 _ _) (PySem.list_append l aj.toArray n u (by rw[dN];omega)) ⟨e,?_⟩;refine⟨.bc,_,I.B8 (its':=aj++[u]) hH e (by simp) (r.append (.cons ru .nil)) ?_,rfl,q⟩;rw[dJ,uz];omega
def JI:V->List V->Hp->VK->Prop:=fun x vs H Q=>∃l b xs zs,x= .ref l/\vs=[.ref b]/\H l=some (.lst xs)/\H b=some (.lst zs)/\xs.length+zs.length<=sizeLine/\Q .bc (upd H l (.lst (xs++zs)))
theorem rY:yA X "list.extend" JI:=by
 intro pins s σ H x vs v us Q I rx rv h;obtain⟨l,b,xs,zs,rfl,rfl,hH,hB,hz,q⟩:=h;cases rx;obtain⟨u,rfl,ru⟩:=rv.one;cases ru;obtain⟨z,aj,n,r,hl,e⟩:=I.qo hH;obtain⟨z2,fi,n2,r2,eL,e2⟩:=I.qo hB;have hsz:aj.toArray.size+fi.toArray.size<=sizeLine:=by rw[dN,dN];omega
 have vy:¬(!aj.toArray.isEmpty&&xt (aj.toArray.size+fi.toArray.size))=true:=by
  rw[B9 hsz,Iq];exact df
 refine Bx F.slot_list_extend ⟨_,e,rfl⟩ F.entry_list_extend (F.args_list_extend_2 _ _)
  (AutoSeq1.list_extend_list_list_0 l aj.toArray n b fi.toArray n2 vy (by rw[dN];omega) (by omega)) ⟨e,e2,?_⟩
 refine⟨.bc,_,I.B8 (its':=aj++fi) hH e (by simp) (r.append r2) ?_,rfl,q⟩;rw[dJ];omega
def Su:R2:=fun x y H Q=>∃l b xs zs,x= .ref l/\y= .ref b/\H l=some (.lst xs)/\H b=some (.lst zs)/\xs.length+zs.length<=sizeLine/\∀p,H p=none->Q (.ref p) (upd H p (.lst (xs++zs)))
theorem qp:eh X (binaryOp .Add) Su:=by
 intro pins s σ H x y v u Q I rx ry h;obtain⟨l,b,xs,zs,rfl,rfl,hH,hB,hz,q⟩:=h;cases rx;cases ry;obtain⟨z,aj,n,r,hl,e⟩:=I.qo hH;obtain⟨z2,fi,n2,r2,eL,e2⟩:=I.qo hB;refine PySem.P.add_list e e2 ?_ (by rw[dN,dN];omega);have ea:aj.toArray++fi.toArray=(aj++fi).toArray:=by simp
 rw[ea];exact⟨.ref _,_,I.JG (t':=s.toks) (r.append r2) (by rw[dJ];omega),rfl,q _ I.fresh⟩
def Sv:R2:=fun x y H Q=>∃l k xs,x= .ref l/\y= .int k/\H l=some (.lst xs)/\ -(2^63)<=k/\k<2^63/\xs.length*k.toNat<=sizeLine/\
 ∀p,H p=none->Q (.ref p) (upd H p (.lst (jg k.toNat xs).flatten))
theorem len_rep{α:Type}(xs:List α)(k:Nat):(jg k xs).flatten.length=k*xs.length:=by
 induction k with
 |zero=>simp
 |succ k ih=>rw[xC,A9,dJ,ih,Nat.succ_mul,Qq]
theorem Sw:eh X (binaryOp .Mult) Sv:=by
 intro pins s σ H x y v u Q I rx ry h;obtain⟨l,k,xs,rfl,rfl,hH,h1,h2,hz,q⟩:=h;cases rx;obtain⟨t,rfl⟩:=ry;obtain⟨z,aj,n,r,hl,e⟩:=I.qo hH;have hlen:aj.toArray.size*k.toNat<=sizeLine:=by rw[dN,<-hl];exact hz
 have Sx:¬aj.toArray.size*k.toNat>(2^63-1)/8:=by
  have:(sizeLine:Nat)<=(2^63-1)/8:=by decide
  omega
 have Sy:¬(!Builtin.List.listFitsIndex k)=true:=by
  rw[fitsIndex_both h1 h2];exact df
 have vy:¬xt (aj.toArray.size*k.toNat)=true:=by
  rw[B9 hlen];exact df
 have Ca:Qy (fun x1 x2=>x1++x2) #[] (jg (if aj.toArray.isEmpty=true then 0 else k.toNat) aj.toArray)=(jg k.toNat aj).flatten.toArray:=by
  have f0:∀m:Nat,Qy (fun x1 x2=>x1++x2) #[] (jg m aj.toArray)=(jg m aj).flatten.toArray:=fun m=>by
   have:=foldl_rep aj m [];rw[Bf] at this;exact this
  rw[f0];cases aj with
  |nil=>simp
  |cons a r'=>rw[if_neg (by simp)]
 refine wpAny_binaryOp_repeat_ref (T:="list") (U:="int") (by decide) ⟨_,e,rfl⟩ (fun s'=>typeIs_int s' k t) noFill_list_mul F.fills_int_mul F.slot_int_rmul repeat_list F.slot_int_index.lookup
  (Bx F.slot_int_rmul (typeIs_int s k t) F.entry_int_rmul (F.args_int_rmul_2 _ _) (int___rmul___int_list k t l aj.toArray n)
   ⟨e,rfl,⟨_,e,rfl⟩,Bx F.slot_list_mul ⟨_,e,rfl⟩ F.entry_list_mul (F.args_list_mul_2 _ _) (AutoListH.list___mul___list_int_3 l aj.toArray n k t Sy Sx vy) ⟨e,?_⟩⟩)
 rw[Ca];exact⟨.ref _,_,I.JG (t':=s.toks) (r.rep k.toNat) (by rw[len_rep,x6];exact hz),rfl,q _ I.fresh⟩
end
theorem Vals.ints:∀{ns:List Int} {us:List ab},Vals (ns.map V.int) us->eS us ns
 |[],us,h=>by
  rw[xZ] at h;cases h;exact IntsAre.nil
 |n::ns,us,h=>by
  rw[bQ] at h;cases h with
  |cons r t=>
   obtain⟨k,rfl⟩:=r
   exact IntsAre.cons n k (Vals.ints t)
theorem yB:∀{us:List ab} {ns:List Int},eS us ns->Vals (ns.map V.int) us
 |_,_,.nil=>by rw[xZ];exact Paired.nil
 |_,_,.cons n t h=>by rw[bQ];exact Paired.cons (show RelV (V.int n) (jM n t) from⟨t,rfl⟩) (yB h)
theorem Vals.JJ:∀{bs:List Bool} {us:List ab},Vals (bs.map V.bl) us->us=bs.map rC
 |[],us,h=>by
  rw[xZ] at h;cases h
  rfl
 |b::bs,us,h=>by
  rw[bQ] at h;cases h with
  |cons r t=>
   cases r
   rw[Vals.JJ t,bQ]
theorem Vals.l9{a:aa}{us:List ab}(r:Vals [V.ref a] us):us=[cO a]:=by
 cases r with
 |cons r t=>
  cases t
  cases r
  rfl
section
variable{prog:bg}{w:aW}{A:bY}{E:ab->ak->Prop}{s:ak}{l:aa}{aj:List ab}{ns:List Int}{Q:ab->ak->Prop}
theorem Sz(hh:A.handled=none)(hl:s.heap.IsList l aj.toArray)(hi:eS aj ns)
  (h:∀h' tk t',(∀b o,s.heap.get? b=some o->h'.get? b=some o)->Q (.int ns.sum t') {s with heap:=h',toks:=tk}):wpAny (model prog w) A (call (.builtin "sum") [.ref l]) Q E s:=by
 obtain⟨xs,e⟩:=hi.allInts.items;have hn:numsOf (intItems xs).toList=ns:=by rw[<-e];exact hi.numsOf
 rw[Qt] at hn;rw[e] at hl;refine PySem.sum_intListG hh hl fun h' tk t' hk=> ?_;have:=h h' tk t' hk;rw[preSum_eq,A1 (by simp),hn];exact this
theorem SA(hh:A.handled=none)(hl:s.heap.IsList l aj.toArray)(hi:eS aj ns)(cw:0<ns.length)
  (h:∀h' tk M t',(∀b o,s.heap.get? b=some o->h'.get? b=some o)->M∈ns->(∀a,a∈ns->a<=M)->Q (.int M t') {s with heap:=h',toks:=tk}):wpAny (model prog w) A (call (.builtin "max") [.ref l]) Q E s:=by
 obtain⟨xs,e⟩:=hi.allInts.items;have hn:numsOf (intItems xs).toList=ns:=by rw[<-e];exact hi.numsOf
 rw[Qt] at hn;subst hn;rw[e] at hl;have hsz:0<xs.size:=by simpa using cw
 refine PySem.max_intList hh hl hsz fun v h' tk hv hk=> ?_;obtain⟨t,rfl⟩:=intItems_at hv;obtain⟨h1,h2⟩:=argBest_gt (numAt xs) (xs.size-1);refine h h' tk _ t hk ?_ fun a ha=> ?_
 ·rw[numAt_eq];exact afr (by rw[ao,mJ];omega)
 ·obtain⟨j,hj,rfl⟩:=mem_getD ha;rw[ao,mJ] at hj;rw[<-numAt_eq];exact h2 j (by omega)
theorem SD(hh:A.handled=none)(hl:s.heap.IsList l aj.toArray)(hi:eS aj ns)(cw:0<ns.length)
  (h:∀h' tk M t',(∀b o,s.heap.get? b=some o->h'.get? b=some o)->M∈ns->(∀a,a∈ns->M<=a)->Q (.int M t') {s with heap:=h',toks:=tk}):wpAny (model prog w) A (call (.builtin "min") [.ref l]) Q E s:=by
 obtain⟨xs,e⟩:=hi.allInts.items;have hn:numsOf (intItems xs).toList=ns:=by rw[<-e];exact hi.numsOf
 rw[Qt] at hn;subst hn;rw[e] at hl;have hsz:0<xs.size:=by simpa using cw
 refine PySem.min_intList hh hl hsz fun v h' tk hv hk=> ?_;obtain⟨t,rfl⟩:=intItems_at hv;obtain⟨h1,h2⟩:=argBest_lt (numAt xs) (xs.size-1);refine h h' tk _ t hk ?_ fun a ha=> ?_
 ·rw[numAt_eq];exact afr (by rw[ao,mJ];omega)
 ·obtain⟨j,hj,rfl⟩:=mem_getD ha;rw[ao,mJ] at hj;rw[<-numAt_eq];exact h2 j (by omega)
end
section
variable{X:Cx}
def JK(K:aC):List V->Hp->VK->Prop:=fun vs H Q=>∃(a:aa) (ns:List Int),vs=[V.ref a]/\ah K H a (ns.map V.int)/\Q (.int ns.sum) H
def JL(K:aC):List V->Hp->VK->Prop:=fun vs H Q=>∃(a:aa) (ns:List Int),vs=[V.ref a]/\ah K H a (ns.map V.int)/\0<ns.length/\∀m,m∈ns->(∀y,y∈ns->y<=m)->Q (.int m) H
def JM(K:aC):List V->Hp->VK->Prop:=fun vs H Q=>∃(a:aa) (ns:List Int),vs=[V.ref a]/\ah K H a (ns.map V.int)/\0<ns.length/\∀m,m∈ns->(∀y,y∈ns->m<=y)->Q (.int m) H
theorem SE(hc:X.calm=true):fK X (.builtin "sum") (JK X.K):=by
 intro pins s σ H vs us Q I r h;obtain⟨a,ns,rfl,hs,q⟩:=h;obtain⟨aj,rv,hl,_⟩:=I.list hs;rw[Vals.l9 r];exact Sz (I.ok.hd hc) hl.isList rv.ints fun h' tk t' hk=>⟨.int _,H,I.kept hk,⟨_,rfl⟩,q⟩
theorem SF(hc:X.calm=true):fK X (.builtin "max") (JL X.K):=by
 intro pins s σ H vs us Q I r h;obtain⟨a,ns,rfl,hs,cw,q⟩:=h;obtain⟨aj,rv,hl,_⟩:=I.list hs;rw[Vals.l9 r];exact SA (I.ok.hd hc) hl.isList rv.ints cw fun h' tk m t' hk h1 h2=>⟨.int _,H,I.kept hk,⟨_,rfl⟩,q m h1 h2⟩
theorem SG(hc:X.calm=true):fK X (.builtin "min") (JM X.K):=by
 intro pins s σ H vs us Q I r h;obtain⟨a,ns,rfl,hs,cw,q⟩:=h;obtain⟨aj,rv,hl,_⟩:=I.list hs;rw[Vals.l9 r];exact SD (I.ok.hd hc) hl.isList rv.ints cw fun h' tk m t' hk h1 h2=>⟨.int _,H,I.kept hk,⟨_,rfl⟩,q m h1 h2⟩
def JN(K:aC):List V->Hp->VK->Prop:=fun vs H Q=>∃(a:aa) (ns:List Int),vs=[V.ref a]/\ah K H a (ns.map V.int)/\ns.length<64/\
 ∀(eN:List Int) (p:aa),eN.Perm ns->eN.Pairwise (·<=·)->H p=none->Q (.ref p) (upd H p (.lst (eN.map V.int)))
theorem yC{n:Nat}(h:n<64):n<=sizeLine:=by rw[uS];omega
theorem SH:fK X (.builtin "sorted") (JN X.K):=by
 intro pins s σ H vs us Q I r h;obtain⟨a,ns,rfl,hs,vz,q⟩:=h;obtain⟨aj,rv,hl,_⟩:=I.list hs;rw[Vals.l9 r];have hi:=rv.ints;refine PyProof.Rows.sorted_ints hl.isList hi (by rw[hi.length];exact vz) fun out eN h1 h2 h3=> ?_;obtain⟨ep,he'⟩:=PyProof.Rows.sortedAll_at s.heap aj out;have hlen:(eN.map V.int).length<=sizeLine:=by rw[ao,h2.length_eq];exact yC vz
 exact⟨.ref _,upd H (s.heap.objs.size+1) (.lst (eN.map V.int)),I.laid (t':=s.toks) (fun _ _=>PyProof.Rows.sortedAll_old) (iz _) ⟨hlen,out.toList,ep,yB h1,he'⟩,rfl,q eN _ h2 h3 (I.az.fresh (iz _))⟩
end
theorem SI{prog:bg}{w:aW}{A:bY}{E:ab->ak->Prop}{s:ak}{l:aa}{items:Array ab}{Q:ab->ak->Prop}(hl:s.heap.IsList l items)
  (h:∀s₂:ak,s₂={s with heap:=s.heap.push {cls:= .type "list_iterator",data:= .fields #[.ref l,.int 0 0]}}->
   (s₂.heap.IsListIter s.heap.objs.size l 0/\s₂.heap.IsList l items)->l≠s.heap.objs.size->Q (.ref s.heap.objs.size) s₂):wpAny (model prog w) A (pyIter (.ref l)) Q E s:=by
 have aY:l<s.heap.objs.size:=by obtain⟨_,e,_⟩:=hl;exact br e
 exact uE hl (h _ rfl ⟨⟨_,cG _ rfl,rfl,rfl⟩,hl.push _⟩ (cW aY))
theorem SJ{prog:bg}{w:aW}{A:bY}{bs:List Bool}{aj:List ab}(e:aj=bs.map rC):
  TruthOf prog w A (fun i v=>aj.toArray[i]? =some v) (fun i=>bs.getD i false):=fun i v s Q E hv hq=>by
 have hv':aj[i]? =some v:=by simpa using hv
 rw[e,aS] at hv';obtain⟨b,hb,rfl⟩:=oy.mp hv';have hg:bs.getD i false=b:=by rw[ly,hb]<;>rfl
 have hq':Q (bs.getD i false) s:=hq;rw[hg] at hq';exact rf hq'
theorem any_range:∀bs:List Bool,(cN bs.length).any (fun i=>bs.getD i false)=bs.any id
 |[]=>rfl
 |b::bs=>by
  rw[bH,xy,pW,List.any_map,pW,<-any_range bs];all_goals rfl
theorem all_range:∀bs:List Bool,(cN bs.length).all (fun i=>bs.getD i false)=bs.all id
 |[]=>rfl
 |b::bs=>by
  rw[bH,xy,pY,rA,pY,<-all_range bs];all_goals rfl
section
variable{X:Cx}
def JO(K:aC):List V->Hp->VK->Prop:=fun vs H Q=>∃(a:aa) (bs:List Bool),vs=[V.ref a]/\ah K H a (bs.map V.bl)/\Q (.bl (bs.all id)) H
theorem SK(hc:X.calm=true):fK X (.builtin "all") (JO X.K):=by
 intro pins s σ H vs us Q I r h;obtain⟨a,bs,rfl,hs,q⟩:=h;obtain⟨aj,rv,hl,_⟩:=I.list hs;rw[Vals.l9 r];have hb:=rv.JJ;refine call_all_walk (SI hl.isList fun s₂ e2 st cw=> ?_);subst e2;refine⟨_,_,_,_,_,_,_,rfl,Qw (A:=X.A.in1) (I.ok.hd hc) _ a cw aj.toArray,st,SJ hb,fun h' tk hk=> ?_⟩;refine⟨.bl _,H,I.kept fun b o eo=>hk b o (fun Cb=> ?_) (cx _ eo),?_,q⟩
 ·rcases b0.mp Cb with e1|Cb
  ·exact absurd (e1▸br eo) (mP _)
  ·cases Cb
 ·show rC _=rC _;rw[<-all_range,hb,dN,ao]
end
abbrev JP(h:aB)(c:aa)(v:Option ab):Prop:=h.IsCell c v
def SM(scope sc:dY):dY:=
 {scope with names:=scope.names.map fun(n,k)=>if (k== .free&&sc.kind== .function&&sc.names.lookup n==some .cell) then(n,.cell) else(n,k)}
def fA(cells:List (Str×aa)):List (Str×iW)->List (Str×aa)->List (Str×aa)
 |[],acc=>acc
 |(n,k)::r,acc=>if k== .free then fA cells r ((n,(cells.lookup n).getD 0)::acc) else fA cells r acc
theorem JQ(env:Env)(f:Str×iW->List (Str×aa)->Sem (ForInStep (List (Str×aa))))
  (hf:∀n k c,f (n,k) c=if k== .free then(do let a<-cellOf env n;pure (.yield ((n,a)::c))) else pure (.yield c)):
  ∀(names:List (Str×iW)) (acc:List (Str×aa)),(∀y∈names,y.2= .free->∃c,env.cells.lookup y.1=some c)->forIn names acc f=pure (fA env.cells names acc)
 |[],acc,_=>by rw[xT];rfl
 |(n,k)::r,acc,h=>by
  rw[Bg,hf];have ih:=fun acc=>JQ env f hf r acc fun y hy=>h y (bR _ hy);unfold fA;by_cases hk:(k==xU)=true
  ·rw[if_pos hk,if_pos hk];obtain⟨c,hc⟩:=h (n,k) bS (by simpa using hk);have e:cellOf env n=pure c:=by unfold cellOf;rw[hc]
   rw[e];have e2:(env.cells.lookup n).getD 0=c:=by rw[hc];rfl
   rw[e2];exact ih _
  ·rw[if_neg hk,if_neg hk];exact ih _
theorem SN{scope:dY}{env:Env}(h:∀y∈scope.names,y.2= .free->∃c,env.cells.lookup y.1=some c):closureFor scope env=pure (fA env.cells scope.names []):=by
 simp only[closureFor];rw[JQ env _ (fun n k c=>rfl) scope.names [] h]
 rfl
theorem mem_lookup{α:Type}:∀{l:List (Str×α)} {n:Str} {c:α},(n,c)∈l->∃c',l.lookup n=some c'
 |(k,v)::r,n,c,h=>by
  rw[uH];cases hb:n==k with
  |true=>exact⟨_,rfl⟩
  |false=>
   rcases b0.mp h with e|h
   ·cases e;simp at hb
   ·exact mem_lookup h
theorem yD{cells:List (Str×aa)}:∀{names:List (Str×iW)} {acc:List (Str×aa)} {n:Str} {c:aa},(n,c)∈fA cells names acc->(n,c)∈acc\/((n,.free)∈names/\c=(cells.lookup n).getD 0)
 |[],_,_,_,h=> .inl h
 |(m,k)::r,acc,n,c,h=>by
  unfold fA at h;split at h
  ·rename_i hk;have hk:k= .free:=by simpa using hk
   rcases yD h with h|⟨h1,h2⟩
   ·rcases b0.mp h with e|h
    ·cases e;exact .inr ⟨hk▸bS,rfl⟩
    ·exact .inl h
   ·exact .inr ⟨bR _ h1,h2⟩
  ·rcases yD h with h|⟨h1,h2⟩
   ·exact .inl h
   ·exact .inr ⟨bR _ h1,h2⟩
theorem Cc{cells:List (Str×aa)}:∀{names:List (Str×iW)} {acc:List (Str×aa)} {p:Str×aa},p∈acc->p∈fA cells names acc
 |[],_,_,h=>h
 |(m,k)::r,acc,p,h=>by
  unfold fA;split
  ·exact Cc (bR _ h)
  ·exact Cc h
theorem Cd{cells:List (Str×aa)}:∀{names:List (Str×iW)} {acc:List (Str×aa)} {n:Str},(n,.free)∈names->(n,(cells.lookup n).getD 0)∈fA cells names acc
 |(m,k)::r,acc,n,h=>by
  unfold fA;rcases b0.mp h with e|h
  ·cases e;exact Cc bS
  ·split
   ·exact Cd h
   ·exact Cd h
theorem vA:∀{names:List (Str×iW)} {h:aB} {acc:List (Str×aa)} {x:Str} {c:aa},(x,c)∈cellsFrom h.objs.size names acc->
  (x,c)∈acc\/((x,.cell)∈names/\h.objs.size<=c/\JP (pushCells h names) c none)
 |[],_,_,_,_,h=> .inl h
 |(n,k)::r,h,acc,x,c,hm=>by
  unfold cellsFrom at hm;unfold pushCells;split at hm
  ·rename_i hk;rw[if_pos hk];have hk:k= .cell:=by simpa using hk
   rw[<-fI h {cls:= .type "cell",data:= .cell none}] at hm;rcases vA hm with hm|⟨h1,h2,h3⟩
   ·rcases b0.mp hm with e|hm
    ·cases e;exact .inr ⟨hk▸bS,aI _,_,Iu r _ _ _ (cG _ rfl),rfl⟩
    ·exact .inl hm
   ·rw[fI] at h2;exact .inr ⟨bR _ h1,HR h2,h3⟩
  ·rename_i hk;rw[if_neg hk];rcases vA hm with hm|⟨h1,h2,h3⟩
   ·exact .inl hm
   ·exact .inr ⟨bR _ h1,h2,h3⟩
theorem yE:∀{names:List (Str×iW)} {n:Nat} {acc:List (Str×aa)} {p:Str×aa},p∈acc->p∈cellsFrom n names acc
 |[],_,_,_,h=>h
 |(m,k)::r,n,acc,p,h=>by
  unfold cellsFrom;split
  ·exact yE (bR _ h)
  ·exact yE h
theorem Ce:∀{names:List (Str×iW)} {n:Nat} {acc:List (Str×aa)} {x:Str},(x,.cell)∈names->∃c,(x,c)∈cellsFrom n names acc
 |(m,k)::r,n,acc,x,h=>by
  unfold cellsFrom;rcases b0.mp h with e|h
  ·cases e;exact⟨n,yE bS⟩
  ·split
   ·exact Ce h
   ·exact Ce h
theorem Cf:∀{names:List (Str×iW)} {h:aB} {acc:List (Str×aa)} {x y:Str} {c:aa},(∀p∈acc,p.2<h.objs.size)->(∀x y c,(x,c)∈acc->(y,c)∈acc->x=y)->
  (x,c)∈cellsFrom h.objs.size names acc->(y,c)∈cellsFrom h.objs.size names acc->x=y
 |[],_,_,_,_,_,_,hi,h1,h2=>hi _ _ _ h1 h2
 |(n,k)::r,h,acc,x,y,c,hl,hi,h1,h2=>by
  unfold cellsFrom at h1 h2;split at h1
  ·rename_i hk;rw[if_pos hk] at h2;rw[<-fI h {cls:= .type "cell",data:= .cell none}] at h1 h2;refine Cf (h:=h.push _) (fun p hp=> ?_) (fun x y c a b=> ?_) h1 h2
   ·rw[fI];rcases b0.mp hp with rfl|hp
    ·exact HZ _
    ·exact HQ (hl p hp)
   ·rcases b0.mp a with e|a<;>rcases b0.mp b with e'|b
    ·cases e;cases e';rfl
    ·cases e;exact absurd (hl _ b) (mP _)
    ·cases e';exact absurd (hl _ a) (mP _)
    ·exact hi _ _ _ a b
  ·rename_i hk;rw[if_neg hk] at h2;exact Cf hl hi h1 h2
theorem SO{M:Model}{A:bY}{E:ab->ak->Prop}{s:ak}{scope:dY}{globals:aa}{closure:List (Str×aa)}{qual:Str}{func:Option aa}{code:ab}{around:Env}{builtins:aa}{Q:Env->ak->Prop}
  (h:Q (newEnv scope s.heap.objs.size globals (cellsFrom (s.heap.objs.size+1) scope.names closure) qual func code (some around) builtins)
   {s with heap:=pushCells (s.heap.push {cls:= .type "dict",data:= .dict #[]}) scope.names}):
  wpAny M A (newFunctionEnv scope globals closure [] qual func code (some around) builtins) Q E s:=by
 simp only[newFunctionEnv,Pw,if_true];refine aq (wpAny_alloc ?_);refine aq (wpAny_layCells _ (fun n k c=>rfl) scope.names closure _ _ ?_);rw[show({s with heap:=s.heap.push {cls:= .type "dict",data:= .dict #[]}}:ak).heap.objs.size=s.heap.objs.size+1 from fI ..];rw[xT];exact aq (aO (aO h))
theorem Cg{sc:dY}:∀{names:List (Str×iW)} {x:Str} {k:iW},
  (names.map fun(n,k)=>if (k==xU&&sc.kind== .function&&sc.names.lookup n==some .cell) then(n,PX) else(n,k)).lookup x=some k->
  ∃k',names.lookup x=some k'/\(k=k'\/(k'= .free/\k= .cell))
 |[],_,_,h=>by simp at h
 |(n,k₀)::r,x,k,h=>by
  have ih:= @Cg sc r x k;have h':rB x ((if (k₀==xU&&sc.kind== .function&&sc.names.lookup n==some .cell)=true then(n,PX) else(n,k₀))::(r.map _))=some k:=h;cases hx:x==n with
  |true=>
   simp only[uH,hx]
   by_cases hc:(k₀==xU&&sc.kind== .function&&sc.names.lookup n==some .cell)=true
   ·rw[if_pos hc] at h'
    simp only[uH,hx] at h'
    cases h'
    simp only[cM,beq_iff_eq] at hc
    exact⟨k₀,rfl,.inr ⟨hc.1.1,rfl⟩⟩
   ·rw[if_neg hc] at h'
    simp only[uH,hx] at h'
    cases h'
    exact⟨_,rfl,.inl rfl⟩
  |false=>
   simp only[uH,hx]
   by_cases hc:(k₀==xU&&sc.kind== .function&&sc.names.lookup n==some .cell)=true
   ·rw[if_pos hc] at h'
    simp only[uH,hx] at h'
    exact ih h'
   ·rw[if_neg hc] at h'
    simp only[uH,hx] at h'
    exact ih h'
structure vB(N:List Str)(sc scope:dY)(own:List (Str×Nat)):Prop where
 kind:scope.kind= .function
 uniq:∀y∈scope.names,scope.names.lookup y.1=some y.2
 ix:∀p∈own,N[p.2]? =some p.1
 free:∀y∈scope.names,y.2= .free->sc.names.lookup y.1=some .cell\/sc.names.lookup y.1=some .free
 own:∀y∈scope.names,y.2= .local\/y.2= .cell->y.1∈own.map (·.1)\/y.1∉N
def wipe(σ:St):List Nat->St
 |[]=>σ
 |v::vs=>(wipe σ vs).set v none
theorem Ci(σ:St):∀vs:List Nat,(wipe σ vs).length=σ.length
 |[]=>rfl
 |v::vs=>by unfold wipe;rw[uJ,Ci σ vs]
theorem Cj{σ:St}{i:Nat}{x:V}:∀{vs:List Nat},(wipe σ vs)[i]? =some (some x)->σ[i]? =some (some x)/\i∉vs
 |[],h=>⟨h,by simp⟩
 |v::vs,h=>by
  unfold wipe at h;by_cases hi:v=i
  ·subst hi;by_cases hv:v<(wipe σ vs).length
   ·rw[lz hv] at h;cases h
   ·rw[jG (by simpa using hv)] at h;cases h
  ·rw[lB hi] at h;obtain⟨h1,h2⟩:=Cj h;exact⟨h1,by simp only[b0,not_or];exact⟨fun e=>hi e.symm,h2⟩⟩
abbrev Cx.fQ(X:Cx)(s:ak)(H:Hp)(scope:dY)(dQ:Env)(fp:List aa):Cx:={X with fJ:=s,qd:=H,env:=dQ,outer:=X.stack,ex:=fp,fn:=fun x=>scope.names.lookup x==some .cell,pn:=[],xe:=fun _ _=>False}
section
variable{X:Cx}{pins:List (aa×Obj)}{σ:St}{H:Hp}{s:ak}
theorem SQ{scope:dY}{own:List (Str×Nat)}{fp:List aa}(I:Inv X pins σ H s)(ok:vB X.N X.env.scope scope own)(hN:X.N.Nodup)(rZ:∀b∈fp,jP X pins H b/\b<s.heap.objs.size):
  Inv (X.fQ s H scope (compEnvC scope (cellsFrom (s.heap.objs.size+1) scope.names (fA X.env.cells scope.names [])) s.heap.objs.size X.env) fp) [] (wipe σ (own.map (·.2))) H {s with heap:=pushCells (s.heap.push {cls:= .type "dict",data:= .dict #[]}) scope.names}:=by
 have rP:∀y∈scope.names,y.2= .free->∃c,X.env.cells.lookup y.1=some c:=fun y hy e=>by
  rcases ok.free y hy e with k|k
  ·exact I.ok.has _ (.inl k)
  ·exact I.ok.has _ (.inr k)
 generalize vC:compEnvC scope (cellsFrom (s.heap.objs.size+1) scope.names (fA X.env.cells scope.names [])) s.heap.objs.size X.env=dQ;have kp:∀b o,s.heap.get? b=some o->(pushCells (s.heap.push {cls:= .type "dict",data:= .dict #[]}) scope.names).get? b=some o:=fun b o e=>Iu _ _ _ _ (cx _ e);have hL:dQ.locals=s.heap.objs.size:=by rw[<-vC];rfl
 have iI:dQ.cells=cellsFrom (s.heap.objs.size+1) scope.names (fA X.env.cells scope.names []):=by rw[<-vC];rfl
 have Ck:dQ.scope=SM scope X.env.scope:=by rw[<-vC];rfl
 rw[<-fI s.heap {cls:= .type "dict",data:= .dict #[]}] at iI;have cm:∀{y c},(y,c)∈fA X.env.cells scope.names []->X.env.cells.lookup y=some c/\c<s.heap.objs.size:=fun {y c} hm=>by
  rcases yD hm with hm|⟨h1,rfl⟩
  ·cases hm
  ·obtain⟨c,hc⟩:=rP _ h1 rfl;rw[hc];obtain⟨w,z⟩:=I.cell _ _ hc;exact⟨rfl,z.lt⟩
 have mem:∀{y c},dQ.cells.lookup y=some c->(X.env.cells.lookup y=some c/\c<s.heap.objs.size)\/(s.heap.objs.size+1<=c/\JP (pushCells (s.heap.push {cls:= .type "dict",data:= .dict #[]}) scope.names) c none):=fun {y c} e=>by
  rw[iI] at e;rcases vA (je e) with hm|⟨_,h2,h3⟩
  ·exact .inl (cm hm)
  ·rw[fI] at h2;exact .inr ⟨h2,h3⟩
 have look:∀{y},scope.names.lookup y=some .free->∃c,dQ.cells.lookup y=some c/\X.env.cells.lookup y=some c:=fun {y} hl=>by
  have hy:(y,xU)∈scope.names:=je hl;obtain⟨c',e'⟩:=mem_lookup (yE (names:=scope.names) (n:=(s.heap.push {cls:= .type "dict",data:= .dict #[]}).objs.size) (Cd (cells:=X.env.cells) (acc:=[]) hy));rw[<-iI] at e';refine⟨c',e',?_⟩;rw[iI] at e';rcases vA (je e') with hm|⟨h1,_,_⟩
  ·exact(cm hm).1
  ·have:=ok.uniq _ h1;rw[hl] at this;cases this
 have okB:(X.fQ s H scope dQ fp).Ok:=by
  refine⟨I.ok.mod,by show dQ.scope.kind=_;rw[Ck];exact ok.kind,by show dQ.globals=_;rw[<-vC];exact I.ok.glob,by show dQ.builtins=_;rw[<-vC];exact I.ok.blt,by show s.heap.objs.size<=dQ.locals;rw[hL];exact aI _,
   fun y z c e1 e2=> ?_,fun y hy=> ?_,fun y c z e=> ?_,I.ok.hd,I.ok.frames,.inl rfl,fun b hb=>⟨?_,fun y c e z=> ?_⟩,I.bs,dr I.ok.lP I.sz,fun b o e hb=> ?_,fun b hb z=> ?_,I.stack,I.II⟩
  ·have e1:dQ.cells.lookup y=some c:=e1;have e2:dQ.cells.lookup z=some c:=e2;rw[iI] at e1 e2;refine Cf (fun p hp=> ?_) (fun y z c a b=>I.ok.inj y z c (cm a).1 (cm b).1) (je e1) (je e2);rw[fI];exact HQ (cm (y:=p.1) (c:=p.2) hp).2
  ·show ∃c,dQ.cells.lookup y=some c;have key:∀k,dQ.kindOf y=some k->(k= .cell\/k= .free)->∃c,dQ.cells.lookup y=some c:=fun k hk hk'=>by
    unfold Env.kindOf at hk;rw[Ck] at hk;obtain⟨k',e,r⟩:=Cg hk;have:k'= .cell\/k'= .free:=by
     rcases r with rfl|⟨rfl,_⟩
     ·exact hk'
     ·exact .inr rfl
    rcases this with rfl|rfl
    ·obtain⟨c,hm⟩:=Ce (n:=(s.heap.push {cls:= .type "dict",data:= .dict #[]}).objs.size) (acc:=fA X.env.cells scope.names []) (je e);obtain⟨c',e'⟩:=mem_lookup hm;exact⟨c',by rw[iI];exact e'⟩
    ·obtain⟨c,h1,_⟩:=look e;exact⟨c,h1⟩
   rcases hy with hy|hy
   ·exact key _ hy (.inl rfl)
   ·exact key _ hy (.inr rfl)
  ·have z:(scope.names.lookup y==some PX)=true:=z;have z:scope.names.lookup y=some .cell:=by simpa using z
   have e:dQ.cells.lookup y=some c:=e;rw[iI] at e;rcases vA (je e) with hm|⟨_,h2,_⟩
   ·rcases yD hm with hm|⟨h1,_⟩
    ·cases hm
    ·have q:=ok.uniq _ h1;rw[z] at q;cases q
   ·rw[fI] at h2;exact HR h2
  ·show b≠dQ.locals;rw[hL];exact cW (rZ b hb).2
  ·have e:dQ.cells.lookup y=some c:=e;rcases mem e with⟨h1,_⟩|⟨h1,_⟩
   ·exact(rZ b hb).1.2.2.2.2.1 y c h1 z
   ·have h2:s.heap.objs.size+1<=b:=by rw[<-z];exact h1
    exact absurd (d6 (rZ b hb).2 (HR h2)) (mP _)
  ·rcases(rZ b hb).1.2.2.2.1 with z|z
   ·exact I.ok.u5 b o e z
   ·exact absurd (d6 (br e) (dr I.ok.lP z)) (mP _)
  ·rcases b0.mp (I.BB b z) with z|z
   ·exact(rZ b hb).1.2.1 z
   ·exact(rZ b hb).1.2.2.1 z
 refine⟨okB,rfl,I.bare,Un.kept kp,⟨fun _=>none,?_,fun i y av e1 e2 e3=> ?_⟩,fun y c e=> ?_,?_,fun y c e=> ?_,fun p hp=> ?_,I.az.kept kp,by rw[Ci];exact I.len⟩
 ·show Heap.Ns _ dQ.locals _;rw[hL];exact Heap.Ns.keeps (Heap.Ns.new ..) fun b o e=>Iu _ _ _ _ e
 ·obtain⟨e2,cw⟩:=Cj e2;have yF:scope.names.lookup y=some .free/\(dQ.kindOf y=some .cell\/dQ.kindOf y=some .free):=by
   have key:∀k,dQ.scope.names.lookup y=some k->k= .local\/k= .cell\/k= .free->scope.names.lookup y=some .free/\(dQ.kindOf y=some .cell\/dQ.kindOf y=some .free):=fun k hk hk'=>by
    have JR:=hk;rw[Ck] at hk;obtain⟨k',e,r⟩:=Cg hk;have no:¬(k'= .local\/k'= .cell):=fun hh=>by
     rcases ok.own _ (je e) hh with e'|e'
     ·obtain⟨p,hp,Cm⟩:=bh.mp e';have e3:=ok.ix p hp;have:p.1=y:=Cm;rw[this] at e3;exact cw (bh.mpr ⟨p,hp,BC hN e3 e1⟩)
     ·exact e' (bP e1)
    rcases r with rfl|⟨rfl,rfl⟩
    ·rcases hk' with rfl|rfl|rfl
     ·exact absurd (.inl rfl) no
     ·exact absurd (.inr rfl) no
     ·exact⟨e,.inr JR⟩
    ·exact⟨e,.inl JR⟩
   have e3:rO dQ.scope y:=e3;rcases e3 with e3|e3|e3
   ·exact key _ e3 (.inl rfl)
   ·exact key _ e3 (.inr (.inl rfl))
   ·exact key _ e3 (.inr (.inr rfl))
  obtain⟨m,hn,hl⟩:=I.loc;have SR:rO X.env.scope y:=(ok.free _ (je yF.1) rfl).elim (fun k=> .inr (.inl k)) (fun k=> .inr (.inr k));obtain⟨w,r,q⟩:=hl i y av e1 e2 SR;refine⟨w,r,.inr ⟨yF.2,?_⟩⟩;obtain⟨c,h1,h2⟩:=look yF.1;rcases q with⟨k,_⟩|⟨_,c',e',z⟩
  ·have k:X.env.scope.names.lookup y=some .local:=k;rcases ok.free _ (je yF.1) rfl with k'|k'<;>rw[show X.env.scope.names.lookup y=_ from k'] at k<;>cases k
  ·rw[h2] at e';cases e';exact⟨c,h1,z.keeps kp⟩
 ·have e:dQ.cells.lookup y=some c:=e;rcases mem e with⟨h1,_⟩|⟨_,z⟩
  ·obtain⟨w,z⟩:=I.cell y c h1;exact⟨w,z.keeps kp⟩
  ·exact⟨_,z⟩
 ·show H dQ.locals=none;rw[hL];exact I.az.fresh (aI _)
 ·have e:dQ.cells.lookup y=some c:=e;rcases mem e with⟨h1,_⟩|⟨h1,_⟩
  ·exact I.jk y c h1
  ·exact I.az.fresh (HR h1)
 ·exact absurd (show p∈([]:List (aa×Obj))++[] from hp) (by simp)
theorem SS{E:ab->ak->Prop}{D:aa}{xs:List V}{y:V}{v:ab}{Q:ab->ak->Prop}(I:Inv X pins σ H s)(hD:H D=some (.lst xs))(hz:xs.length<sizeLine)(r:RelV y v)
  (h:∀s',Inv X pins σ (upd H D (.lst (xs++[y]))) s'->Q .none s'):wpAny (model X.prog X.w) X.A (call (.builtin "list.append") [.ref D,v]) Q E s:=by
 obtain⟨hz',aj,n,ri,e⟩:=I.az D _ hD;have hl:=ri.length;refine append_at (hsz:=by rw[dN];omega) e fun h' sb ho'=> ?_;refine h {s with heap:=h'} (I.write (t':=s.toks) (by rw[hD];trivial) (.inl rfl) (fun b u hb q=>(sb.2 b hb).trans q) ⟨_,ho'⟩ ⟨by rw[dJ];exact hz,aj++[v],n+1,ri.append (.cons r .nil),?_⟩);rw[ho'];simp
def vD(X:Cx)(ifs:List aG)(t:TT):Prop:=
 ∀(pins:List (aa×Obj)) (s:ak) (σ:St) (H:Hp) (Q:Bool->Hp->Prop),Inv X pins σ H s->t σ H Q->
  wpAny (model X.prog X.w) X.A (forIn ifs true fun c r=>if r=true then do let ok<-isTrue c X.env (eval c X.env);pure (HS ok) else pure (HS r)) (TP X pins σ Q) X.xe s
def JS:TT:=fun _ H Q=>Q true H
theorem iJ:vD X [] JS:=fun _ _ _ H _ I h=>wpAny_tests_nil ⟨H,I,h⟩
theorem gF{c:aG}{t:TT}(h:PT X c t):vD X [c] t:=fun pins s σ H Q I hw=>wpAny_tests_one (h pins s σ H Q I hw)
end
theorem r0{α:Type}{t:Sem α}{Q Q':α->ak->Prop}{M:Model}{A:bY}{E:ab->ak->Prop}{s:ak}(h:wpAny M A t Q (fun _ _=>False) s)(hQ:∀a s,Q a s->Q' a s):wpAny M A t Q' E s:=iA h hQ fun _ _ z=>ft z
theorem SU{prog:bg}{w:aW}{A:bY}{R:Result->ak->Prop}{s:ak}{elt target iter:aG}{ifs:List aG}{scope:dY}{pos:Pos}{it acc:ab}{env:Env}(I:Nat->ak->Prop)
  (turn:∀n s,I n s->wpAny (model prog w) A (pyNext it) (fun r s₁=>match r with
   |none=>R (.ok .next) s₁
   |some v=>wpAny (model prog w) A (letOwnedTupleGo target it v) (fun _ s₁'=>wpAny (model prog w) A (assign target env v) (fun _ s₂=>
     wpAny (model prog w) A (forIn ifs true fun c r=>if r=true then do let ok<-isTrue c env (eval c env);pure (HS ok) else pure (HS r)) (fun ok s₃=>
      if ok=true then wpAny (model prog w) A (eval elt env) (fun x s₄=>
       wpAny (model prog w) A (call (.builtin "list.append") [acc,x]) (fun _ s₅=>∃m,m<n/\I m s₅) (notedBy (model prog w) A env fun e s'=>R (.error e) s') s₄) (notedBy (model prog w) A env fun e s'=>R (.error e) s') s₃
      else ∃m,m<n/\I m s₃) (notedBy (model prog w) A env fun e s'=>R (.error e) s') s₂) (notedBy (model prog w) A env fun e s'=>R (.error e) s') s₁') (notedBy (model prog w) A env fun e s'=>R (.error e) s') s₁) (notedBy (model prog w) A env fun e s'=>R (.error e) s') s)
  (n:Nat) (h:I n s):
  codeAny (model prog w) A (.compLoop (.ListComp elt [⟨target,iter,ifs,0⟩] scope pos) 0 it acc env) R s:=by
 refine codeAny_loop rfl I (fun n s hI=> ?_) n h;show wpAny _ A ((compTurn (.ListComp elt [⟨target,iter,ifs,0⟩] scope pos) 0 it acc env).onRaise (fun x=>do noteFrame x env;theTreesLotGoes x)) _ _ s;refine wpAny_noted ?_;rw[compTurn_list];refine aq (IC (aq (iA (turn n s hI) (fun r s₁ h₁=> ?_) fun _ _ h'=>h')));cases r with
 |none=>exact aO h₁
 |some v=>
  refine aq (iA h₁ (fun _ s₁' h₁'=> ?_) fun _ _ h'=>h')
  refine aq (iA h₁' (fun _ s₂ h₂=>aq (iA h₂ (fun ok s₃ h₃=> ?_) fun _ _ h'=>h')) fun _ _ h'=>h')
  cases ok with
  |false=>exact aO ⟨rfl,h₃⟩
  |true=>
   exact aq (aq (iA h₃ (fun x s₄ h₄=>aq (iA h₄ (fun _ s₅ h₅=>aO (aO ⟨rfl,h₅⟩)) fun _ _ h'=>h')) fun _ _ h'=>h'))
section
variable{X:Cx}
def yG(wi:TI)(g:TG)(tt:TT)(te:TE)(vs:List Nat):TE:=fun σ H Q=>wi σ H fun J H1=>∀D,H1 D=none->∃W:Nat->Nat->Hp->Prop,(∃m,W 0 m (upd H1 D (.lst [])))/\∀i m H,W i m H->
 (J.stop i H/\Q (.ref D) H)\/(J.go i H/\∃Nx:Hp->Prop,(∀H',Nx H'->∃m',m'<m/\W (i+1) m' H')/\∀x H',J.fP i H x H'->g x (wipe σ vs) H' fun σ2 H2=>wipe σ2 vs=wipe σ vs/\tt σ2 H2 fun b H3=>
  if b=true then te σ2 H3 fun y H4=>∃acc,H4 D=some (.lst acc)/\acc.length<sizeLine/\Nx (upd H4 D (.lst (acc++[y]))) else Nx H3)
theorem JT{pins:List (aa×Obj)}{s:ak}{σ:St}{H:Hp}{Q:VK}{elt tg iter:aG}{ifs:List aG}{scope:dY}{own:List (Str×Nat)}{pos pos':Pos}{wi:TI}{g:TG}{tt:TT}{te:TE}{use:Option (ab->Sem Unit)}{Qf:ab->ak->Prop}
  (hc:X.calm=true) (hN:X.N.Nodup) (I:Inv X pins σ H s) (hi:PI X tg iter wi) (ok:vB X.N X.env.scope scope own)
  (hg:∀(s:ak) (H:Hp) (C:aa) (cl:List (Str×aa)) (fp:List aa),PG (X.fQ s H scope (compEnvC scope cl C X.env) fp) tg g) (ht:∀(s:ak) (H:Hp) (C:aa) (cl:List (Str×aa)) (fp:List aa),vD (X.fQ s H scope (compEnvC scope cl C X.env) fp) ifs tt)
  (he:∀(s:ak) (H:Hp) (C:aa) (cl:List (Str×aa)) (fp:List aa),PE (X.fQ s H scope (compEnvC scope cl C X.env) fp) elt te) (hs:∀x,foldedSetIterable iter X.env x=pure x)
  (h:yG wi g tt te (own.map (·.2)) σ H Q)
  (SV:∀D C s' m H',Inv X pins σ H' s'->Q (.ref D) H'->s'.heap.Ns C m->jP X pins H' C->compPost (model X.prog X.w) X.A X.xe use Qf (.ref D) C (.ok .next) s'):
  wpAny (model X.prog X.w) X.A (comprehension (.ListComp elt [⟨tg,iter,ifs,0⟩] scope pos) scope X.env pos' (newList []) false (eval iter X.env) use) Qf X.xe s:=by
 have rP:∀y∈scope.names,y.2= .free->∃c,X.env.cells.lookup y.1=some c:=fun y hy e=>by
  rcases ok.free y hy e with k|k
  ·exact I.ok.has _ (.inl k)
  ·exact I.ok.has _ (.inr k)
 refine wpAny_comprehension_free (use:=use) rfl hs (SN rP) ok.kind (fun y hy e=>by rw[ok.uniq y hy,e])
  (aH (hi pins s σ H _ I h) fun xv s1 hx=>aH hx fun itv s2 h2=> ?_)
 obtain⟨it,fp,tn,J,H2,e,I2,T,st2,f2,q⟩:=h2;subst e;refine uF (SO ?_) (by show 0<=sizeLine;decide);generalize hD:s2.heap.objs.size=D;have SW:H2 D=none:=I2.az.fresh (IB hD);obtain⟨W,⟨m0,w0⟩,turn⟩:=q D SW;generalize JU:({s2 with heap:=s2.heap.push {cls:= .type "list",data:= .seq ([]:List ab).toArray}}:ak)=s3;have I3:Inv X pins σ (upd H2 D (.lst [])) s3:=by
  rw[<-JU];refine I2.laid (t':=s2.toks) (fun b o e=>cx _ e) (IB hD) ⟨du _,[],0,.nil,?_⟩;rw[<-hD];exact cG _ rfl
 have h3:s3.heap=s2.heap.push {cls:= .type "list",data:= .seq ([]:List ab).toArray}:=by rw[<-JU]
 have sz:∀b∈fp,b<s2.heap.objs.size:=fun b hb=>by
  obtain⟨o,e,_⟩:=T.obj _ _ st2 b hb;exact br e
 have f3:∀b∈fp,jP X pins (upd H2 D (.lst [])) b/\b<s3.heap.objs.size:=fun b hb=>by
  have aY:=sz b hb;refine⟨⟨?_,(f2 b hb).2⟩,by rw[h3,fI];exact HQ aY⟩;rw[ag (by rw[<-hD];exact cW aY)];exact(f2 b hb).1
 have st3:tn 0 s3.heap:=T.keep _ _ _ st2 fun b _ o e=>by rw[h3];exact cx _ e
 have I4:=SQ I3 ok hN f3;have pg:=hg s3 (upd H2 D (.lst [])) s3.heap.objs.size (cellsFrom (s3.heap.objs.size+1) scope.names (fA X.env.cells scope.names [])) fp;have pt:=ht s3 (upd H2 D (.lst [])) s3.heap.objs.size (cellsFrom (s3.heap.objs.size+1) scope.names (fA X.env.cells scope.names [])) fp;have pe:=he s3 (upd H2 D (.lst [])) s3.heap.objs.size (cellsFrom (s3.heap.objs.size+1) scope.names (fA X.env.cells scope.names [])) fp;show codeAny _ _ (.compStart (.ListComp elt [⟨tg,iter,ifs,0⟩] scope pos) 0 (.ref it) (.ref D) (compEnvC scope (cellsFrom (s3.heap.objs.size+1) scope.names (fA X.env.cells scope.names [])) s3.heap.objs.size X.env)) (compPost (model X.prog X.w) X.A X.xe use Qf (.ref D) s3.heap.objs.size) {s3 with heap:=pushCells (s3.heap.push {cls:= .type "dict",data:= .dict #[]}) scope.names};have nfp:∀b∈fp,(upd H2 D (.lst [])) b=none:=fun b hb=>(f3 b hb).1.1;generalize jU:compEnvC scope (cellsFrom (s3.heap.objs.size+1) scope.names (fA X.env.cells scope.names [])) s3.heap.objs.size X.env=ce at I4 pg pt pe ⊢;have cL:ce.locals=s3.heap.objs.size:=by subst jU;rfl
 generalize hH3:upd H2 D (.lst [])=H3 at I3 I4 pg pt pe w0 nfp f3;generalize SX:({s3 with heap:=pushCells (s3.heap.push {cls:= .type "dict",data:= .dict #[]}) scope.names}:ak)=s4 at I4 ⊢;have st4:tn 0 s4.heap:=T.keep _ _ _ st3 fun b _ o e=>by rw[<-SX];exact Iu _ _ _ _ (cx _ e)
 have stat:∀{σ':St} {H':Hp} {s':ak},Inv (X.fQ s3 H3 scope ce fp) [] σ' H' s'->(∀b∈fp,H' b=none)->∀b∈fp,jP (X.fQ s3 H3 scope ce fp) [] H' b:=fun {σ' H' s'} I' hn b hb=>
  ⟨hn b hb,(I'.ok.ye b hb).1,I'.ok.u6 b hb,.inl hb,fun x c e=>(I'.ok.ye b hb).2 x c e,fun p hp=>absurd (show p∈([]:List (aa×Obj))++[] from hp) (by simp)⟩
 have loop:codeAny (model X.prog X.w) X.A (.compLoop (.ListComp elt [⟨tg,iter,ifs,0⟩] scope pos) 0 (.ref it) (.ref D) ce) (compPost (model X.prog X.w) X.A X.xe use Qf (.ref D) s3.heap.objs.size) s4:=by
  refine SU (fun n s'=>∃i H',Inv (X.fQ s3 H3 scope ce fp) [] (wipe σ (own.map (·.2))) H' s'/\tn i s'.heap/\(∀b∈fp,H' b=none)/\W i n H') ?_ m0 ⟨0,H3,I4,st4,nfp,w0⟩;rintro n s5 ⟨i,H5,I5,st5,n5,w5⟩;rcases turn i n H5 w5 with⟨stop,qq⟩|⟨go,Nx,SY,step⟩
  ·have td:=T.done (X.fQ s3 H3 scope ce fp) rfl rfl rfl hc i [] s5 _ H5 (fun _ _=>False) I5 (stat I5 n5) st5 stop;refine r0 td fun r s6 ⟨hr,I6⟩=> ?_;subst hr;have I7:Inv X pins σ H5 s6:=I3.QV (ch:=fp) I6.os I6.base I6.az I6.bare fun b hb=>⟨(f3 b hb).1.2.2.2.1,(f3 b hb).1.2.1,(f3 b hb).1.2.2.2.2.1,(f3 b hb).1.2.2.2.2.2⟩;have nC:H5 s3.heap.objs.size=none:=by
    have z:H5 ce.locals=none:=I6.free;rw[cL] at z;exact z
   obtain⟨m,hn,_⟩:=I6.loc;have hn:s6.heap.Ns ce.locals m:=hn;rw[cL] at hn;exact SV D s3.heap.objs.size s6 m H5 I7 qq hn (I3.oT (aI _) nC)
  ·have ti:=T.item (X.fQ s3 H3 scope ce fp) rfl rfl rfl hc i [] s5 _ H5 (fun _ _=>False) I5 (stat I5 n5) st5 go;refine r0 ti fun r s6 ⟨u,hr,h6⟩=> ?_;subst hr;refine r0 h6 fun _ s7 ⟨x,H7,I7,r7,y7,st7,n7⟩=> ?_;have I7':=I7.pinned (stat I7 n7) (T.obj _ _ st7);refine r0 (pg _ s7 _ H7 x u _ I7' r7 (step x H7 y7)) fun _ s8 ⟨σ8,H8,I8,JV,q8⟩=> ?_;refine r0 (pt _ s8 σ8 H8 _ I8 q8) fun b s9 ⟨H9,I9,q9⟩=> ?_;have fin:∀{s':ak} {H':Hp},Inv (X.fQ s3 H3 scope ce fp) ([]++vi fp s7.heap) σ8 H' s'->Nx H'->∃m,m<n/\∃i H',Inv (X.fQ s3 H3 scope ce fp) [] (wipe σ (own.map (·.2))) H' s'/\tn i s'.heap/\(∀b∈fp,H' b=none)/\W i m H':=fun {s' H'} I' nx=>by
    obtain⟨m',hm,w'⟩:=SY H' nx;have pin':∀b∈fp,∀o,s7.heap.get? b=some o->s'.heap.get? b=some o/\H' b=none:=fun b hb o e=>
     let z:=I'.pin (b,o) (qX _ (qX _ (BM hb e)))
     ⟨z.1,z.2.1⟩
    have hl:(wipe σ (own.map (·.2))).length=σ8.length:=by rw[<-JV,Ci]
    refine⟨m',hm,i+1,H',(I'.yq (pins:=[])).weak hl (fun j v e=> ?_),T.keep _ _ _ st7 fun b hb o e=>(pin' b hb o e).1,fun b hb=> ?_,w'⟩
    ·rw[<-JV] at e;exact(Cj e).1
    ·obtain⟨o,e,_⟩:=T.obj _ _ st7 b hb;exact(pin' b hb o e).2
   cases b with
   |false=>
    simp only[uD,if_false] at q9 ⊢
    exact fin I9 q9
   |true=>
    simp only[if_true] at q9 ⊢
    refine r0 (pe _ s9 σ8 H9 _ I9 q9) fun z s10 ⟨yv,H10,I10,r10,acc,S0,S1,nx⟩=> ?_
    exact SS (X:=X.fQ s3 H3 scope ce fp) I10 S0 S1 r10 fun s11 I11=>fin I11 nx
 exact codeAny_compStart_list loop (T.self X.A 0 _ _ _ st4 loop)
theorem eW{elt tg iter:aG}{ifs:List aG}{scope:dY}{own:List (Str×Nat)}{pos:Pos}{wi:TI}{g:TG}{tt:TT}{te:TE}(hc:X.calm=true)(hN:X.N.Nodup)(hi:PI X tg iter wi)(ok:vB X.N X.env.scope scope own)
  (hg:∀(s:ak) (H:Hp) (C:aa) (cl:List (Str×aa)) (fp:List aa),PG (X.fQ s H scope (compEnvC scope cl C X.env) fp) tg g) (ht:∀(s:ak) (H:Hp) (C:aa) (cl:List (Str×aa)) (fp:List aa),vD (X.fQ s H scope (compEnvC scope cl C X.env) fp) ifs tt)
  (he:∀(s:ak) (H:Hp) (C:aa) (cl:List (Str×aa)) (fp:List aa),PE (X.fQ s H scope (compEnvC scope cl C X.env) fp) elt te) (hs:∀x,foldedSetIterable iter X.env x=pure x:=by intro _;rfl):
  PE X (.ListComp elt [⟨tg,iter,ifs,0⟩] scope pos) (yG wi g tt te (own.map (·.2))):=by
 intro pins s σ H Q I h;rw[eval_ListComp];refine JT hc hN I hi ok hg ht he hs h fun D C s' m H' I' q hn f=>⟨m,hn,fun h'' sb=> ?_⟩;obtain⟨f0,f1,f2,f3,f4,f5⟩:=f;exact⟨.ref D,H',I'.turned (t':=s'.toks) (fun b o hb e=>(sb.2 b hb).trans e) f0 f1 f3 f4 f5,rfl,q⟩
theorem nh{i:Nat}{y:Str}{py:Pos}{elt tg iter:aG}{ifs:List aG}{scope:dY}{own:List (Str×Nat)}{pos spos:Pos}{wi:TI}{g:TG}{tt:TT}{te:TE}(hc:X.calm=true)(hN:X.N.Nodup)(hy:X.N[i]? =some y)(JW:X.env.scope.names.lookup y=some .local)
  (S2:swapsWith (.ListComp elt [⟨tg,iter,ifs,0⟩] scope pos) (some (.Name y py)) spos.line X.env=pure true) (hi:PI X tg iter wi) (ok:vB X.N X.env.scope scope own)
  (hg:∀(s:ak) (H:Hp) (C:aa) (cl:List (Str×aa)) (fp:List aa),PG (X.fQ s H scope (compEnvC scope cl C X.env) fp) tg g) (ht:∀(s:ak) (H:Hp) (C:aa) (cl:List (Str×aa)) (fp:List aa),vD (X.fQ s H scope (compEnvC scope cl C X.env) fp) ifs tt)
  (he:∀(s:ak) (H:Hp) (C:aa) (cl:List (Str×aa)) (fp:List aa),PE (X.fQ s H scope (compEnvC scope cl C X.env) fp) elt te) (hs:∀x,foldedSetIterable iter X.env x=pure x:=by intro _;rfl):
  PS X (.Assign [.Name y py] (.ListComp elt [⟨tg,iter,ifs,0⟩] scope pos) spos) (yp (yG wi g tt te (own.map (·.2))) (mY i)):=by
 intro pins s σ H D I h;rw[exec_Assign_Name_used _ _ _ _ S2];refine aq (IC (aq ?_));show wpAny _ X.A (do let _<-comprehension (.ListComp elt [⟨tg,iter,ifs,0⟩] scope pos) scope X.env (firstIterPos [⟨tg,iter,ifs,0⟩] pos) (newList []) false (eval iter X.env) (some (assign (.Name y py) X.env))) _ _ s;have h:yG wi g tt te (own.map (·.2)) σ H (fun x H1=>mY i x σ H1 D.nx):=h;refine aq (aH (JT (Qf:=fun _ s'=>SP X pins D .next s') hc hN I hi ok hg ht he hs h fun L C s' m H' I' q hn f=> ?_) fun _ s' hq=>aO (aO hq));show wpAny _ _ (assign (.Name y py) X.env (.ref L)) _ _ _;refine wpAny_assign_Name (IK (v:=V.ref L) I' hN hy (.inl JW) rfl (fun s2 I2 ⟨a,sb,ha⟩=> ?_) (.inr JW));obtain⟨f0,f1,f2,f3,f4,f5⟩:=f;have S3:C≠a:=by
  rcases ha with z|z
  ·rw[z];exact f1
  ·exact fun e=>f4 y a z e.symm
 refine⟨m,hn.sameBut sb S3,fun h3 sb3=> ?_⟩;exact⟨_,H',I2.turned (t':=s2.toks) (fun b o hb e=>(sb3.2 b hb).trans e) f0 f1 f3 f4 f5,q⟩
theorem nj{elt:aG}{gs:List Comprehension}{scope:dY}{pos py:Pos}{y:Str}{l:Nat}{env:Env}(hk:env.scope.kind= .function)(hy:env.scope.names.lookup y=some .local)(hl:(py.line==pos.line)=true)
  (ha:(scope.names.any fun(n,k)=>n==y&&(k== .local||k== .cell))=false):swapsWith (.ListComp elt gs scope pos) (some (.Name y py)) l env=pure true:=by
 have ky:env.kindOf y=some .local:=hy;have hb:env.blockKind= .function:=by unfold Env.blockKind;rw[hk];rfl
 unfold swapsWith;simp only[hb,ky,ha,Expr.pos,hl]
 rfl
end
def JX(N:List Str)(sc scope:dY)(own:List (Str×Nat)):Bool:=
 (match scope.kind with| .function=>true|_=>false)&&(scope.names.all fun y=>decide (scope.names.lookup y.1=some y.2))&&(own.all fun p=>decide (N[p.2]? =some p.1))&&
  (scope.names.all fun y=>match y.2 with
   | .free=>(match sc.names.lookup y.1 with|some .cell=>true|some .free=>true|_=>false)
   | .local=>decide (y.1∈own.map (·.1))||decide (y.1∉N)
   | .cell=>decide (y.1∈own.map (·.1))||decide (y.1∉N)
   |_=>true)
theorem dD{N:List Str}{sc scope:dY}{own:List (Str×Nat)}(h:JX N sc scope own=true):vB N sc scope own:=by
 unfold JX at h;simp only[cM,oC,decide_eq_true_eq] at h;obtain⟨⟨⟨h1,h2⟩,h3⟩,h4⟩:=h;refine⟨?_,h2,h3,fun y hy e=> ?_,fun y hy e=> ?_⟩
 ·split at h1
  ·assumption
  ·cases h1
 ·have q:=h4 y hy;simp only[e] at q;split at q<;>first|exact .inl (by assumption)|exact .inr (by assumption)|cases q
 ·have q:=h4 y hy;rcases e with e|e<;>(simp only[e,PZ,decide_eq_true_eq] at q;exact q)
section
variable{κ:Type}[DecidableEq κ]
def bW(kvs:List (κ×V))(k:κ):Option V:=(kvs.find? fun kv=>decide (kv.1=k)).map (·.2)
def putK(kvs:List (κ×V))(k:κ)(v:V):List (κ×V):=
 if (kvs.any fun kv=>decide (kv.1=k))=true then kvs.map (fun kv=>if kv.1=k then(kv.1,v) else kv) else kvs++[(k,v)]
theorem jo{p:κ×V}{r:List (κ×V)}{k:κ}(e:p.1=k):bW (p::r) k=some p.2:=by simp[bW,ke,e]
theorem iK{p:κ×V}{r:List (κ×V)}{k:κ}(e:¬p.1=k):bW (p::r) k=bW r k:=by simp[bW,ke,e]
theorem qt(k:κ):∀kvs:List (κ×V),(kvs.any fun kv=>decide (kv.1=k))=(bW kvs k).isSome
 |[]=>rfl
 |p::r=>by
  rw[pW];by_cases e:p.1=k
  ·simp only[jo e,decide_eq_true e,Bool.true_or,Pw]
  ·rw[iK e,decide_eq_false e,Bool.false_or];exact qt k r
theorem JY(k j:κ)(y:V):∀kvs:List (κ×V),bW (kvs.map fun kv=>if kv.1=k then(kv.1,y) else kv) j=(bW kvs j).map fun x=>if j=k then y else x
 |[]=>rfl
 |p::r=>by
  have ih:=JY k j y r;rw[bQ];by_cases h:p.1=k
  ·rw[if_pos h];by_cases e:p.1=j
   ·rw[jo (p:=(p.1,y)) e,jo e,iu,if_pos (e.symm.trans h)]
   ·rw[iK (p:=(p.1,y)) e,iK e,ih]
  ·rw[if_neg h];by_cases e:p.1=j
   ·rw[jo (p:=p) e,jo e,iu,if_neg (fun z=>h (e.trans z))]
   ·rw[iK (p:=p) e,iK e,ih]
theorem JZ(k j:κ)(y:V):∀kvs:List (κ×V),bW kvs k=none->bW (kvs++[(k,y)]) j=if j=k then some y else bW kvs j
 |[],_=>by
  by_cases e:k=j
  ·rw[if_pos e.symm];exact jo (p:=(k,y)) e
  ·rw[if_neg (fun z=>e z.symm)];exact iK (p:=(k,y)) e
 |p::r,hn=>by
  rw[rh];have hk:¬p.1=k:=fun z=>by rw[jo z] at hn;cases hn
  rw[iK hk] at hn;have ih:=JZ k j y r hn;by_cases e:p.1=j
  ·rw[jo e,jo e,if_neg (fun z=>hk (e.trans z))]
  ·rw[iK e,iK e,ih]
theorem vE(kvs:List (κ×V))(k j:κ)(y:V):bW (putK kvs k y) j=if j=k then some y else bW kvs j:=by
 unfold putK;by_cases a:(kvs.any fun kv=>decide (kv.1=k))=true
 ·rw[if_pos a,JY];rw[qt] at a;by_cases e:j=k
  ·obtain⟨x,hx⟩:=AZ.mp a;rw[if_pos e,e,hx,iu,if_pos rfl]
  ·rw[if_neg e];cases bW kvs j with
   |none=>rfl
   |some x=>rw[iu,if_neg e]
 ·rw[if_neg a];refine JZ k j y kvs ?_;rw[qt] at a;cases q:bW kvs k with
  |none=>rfl
  |some x=>rw[q] at a;exact(a rfl).elim
theorem yH(kvs:List (κ×V))(k:κ)(v:V):(putK kvs k v).length<=kvs.length+1:=by
 unfold putK;split
 ·rw[ao];omega
 ·rw[dJ,bH,Ij];omega
theorem Cn{kvs:List (κ×V)}{k:κ}(v:V)(h:bW kvs k=none):putK kvs k v=kvs++[(k,v)]:=by
 unfold putK;rw[qt,h];exact if_neg (by decide)
theorem eT.vF{o:Option V}{u:Option ab}(r:eT o u):o.isSome=u.isSome:=by
 cases o with
 |none=>cases u with
  |none=>rfl
  |some _=>exact(show False from r).elim
 |some _=>cases u with
  |none=>exact(show False from r).elim
  |some _=>rfl
theorem eT.getD{o:Option V}{u:Option ab}{d:V}{d':ab}(r:eT o u)(rd:RelV d d'):RelV (o.getD d) (u.getD d'):=by
 cases o with
 |none=>cases u with
  |none=>exact rd
  |some _=>exact(show False from r).elim
 |some _=>cases u with
  |none=>exact(show False from r).elim
  |some _=>exact r
theorem KV.val{kvs:List (κ×V)}{vs:List (κ×ab)}(r:KV kvs vs)(k:κ):eT (bW kvs k) (valueAt vs k):=by
 unfold KV at r
 induction r with
 |nil=>exact p9
 | @cons p q ps qs h t ih=>
  obtain⟨h1,h2⟩:=h
  by_cases e:p.1=k
  ·have e':q.1=k:=h1.symm.trans e
   have b:valueAt (q::qs) k=some q.2:=by simp[valueAt,ke,e']
   rw[jo e,b];exact h2
  ·have e':¬q.1=k:=fun z=>e (h1.trans z)
   have b:valueAt (q::qs) k=valueAt qs k:=by simp[valueAt,ke,e']
   rw[iK e,b];exact ih
theorem KV.any{kvs:List (κ×V)}{vs:List (κ×ab)}(r:KV kvs vs)(k:κ):(kvs.any fun kv=>decide (kv.1=k))=vs.any fun kv=>decide (kv.1=k):=by
 unfold KV at r
 induction r with
 |nil=>rfl
 |cons h t ih=>rw[pW,pW,ih,h.1]
theorem KV.Co{kvs:List (κ×V)}{vs:List (κ×ab)}(r:KV kvs vs)(k:κ){y:V}{u:ab}(ry:RelV y u):
  KV (kvs.map fun kv=>if kv.1=k then(kv.1,y) else kv) (vs.map fun kv=>if kv.1=k then(kv.1,u) else kv):=by
 unfold KV at r ⊢
 induction r with
 |nil=>exact .nil
 | @cons p q ps qs h t ih=>
  rw[bQ,bQ]
  refine .cons ?_ ih
  obtain⟨h1,h2⟩:=h
  by_cases e:p.1=k
  ·rw[if_pos e,if_pos (h1.symm.trans e)];exact⟨h1,ry⟩
  ·rw[if_neg e,if_neg (fun z=>e (h1.trans z))];exact⟨h1,h2⟩
theorem KV.put{kvs:List (κ×V)}{vs:List (κ×ab)}(r:KV kvs vs)(k:κ){y:V}{u:ab}(ry:RelV y u):KV (putK kvs k y) (stored vs k u):=by
 unfold putK stored;rw[r.any k];by_cases e:(vs.any fun kv=>decide (kv.1=k))=true
 ·rw[if_pos e,if_pos e];exact r.Co k ry
 ·rw[if_neg e,if_neg e];exact Paired.snoc r ⟨rfl,ry⟩
theorem KV.keys{kvs:List (κ×V)}{vs:List (κ×ab)}(r:KV kvs vs):kvs.map (·.1)=vs.map (·.1):=by
 unfold KV at r
 induction r with
 |nil=>rfl
 |cons h t ih=>rw[bQ,bQ,ih,h.1]
theorem KV.length{kvs:List (κ×V)}{vs:List (κ×ab)}(r:KV kvs vs):kvs.length=vs.length:=lJ r
end
theorem r6{P:bg}{w:aW}{k:Key}{u:ab}(r:RelV (kV k) u):(fg P w).is k u=true:=by
 cases k with
 |inl i=>obtain⟨t,e⟩:=(show ∃t,u=jM i t from r);subst e;exact QJ P w i t
 |inr x=>obtain⟨t,e⟩:=(show ∃t,u=Bv x t from r);subst e;exact QK P w x t
theorem J0{P:bg}{w:aW}:∀{ks:List Key} {us:List ab},Vals (ks.map kV) us->ItemsAre (fg P w) ks us
 |[],_,r=>by rw[xZ] at r;cases r;exact .nil
 |k::ks,_,r=>by
  rw[bQ] at r;cases r with
  |cons h t=>exact .cons (r6 h) (J0 t)
abbrev KT(H:Hp):List (List Key×V)->List (List Key×aa×ab)->Prop:=uY fun p q=>p.1=q.1/\H q.2.1=some (.tup (p.1.map kV))/\RelV p.2 q.2.2
theorem KT.val{H:Hp}{kvs:List (List Key×V)}{xs:List (List Key×aa×ab)}(r:KT H kvs xs)(k:List Key):eT (bW kvs k) ((atKey xs k).map (·.2)):=by
 induction r with
 |nil=>exact p9
 | @cons p q ps qs h t ih=>
  obtain⟨h1,_,h2⟩:=h
  by_cases e:p.1=k
  ·have e':q.1=k:=h1.symm.trans e
   have b:atKey (q::qs) k=some q.2:=by simp[atKey,ke,e']
   rw[jo e,b];exact h2
  ·have e':¬q.1=k:=fun z=>e (h1.trans z)
   have b:atKey (q::qs) k=atKey qs k:=by simp[atKey,ke,e']
   rw[iK e,b];exact ih
theorem KT.Co{H:Hp}{kvs:List (List Key×V)}{xs:List (List Key×aa×ab)}(r:KT H kvs xs)(k:List Key){y:V}{u:ab}(ry:RelV y u):
  KT H (kvs.map fun kv=>if kv.1=k then(kv.1,y) else kv) (xs.map (putAt k u)):=by
 induction r with
 |nil=>exact .nil
 | @cons p q ps qs h t ih=>
  rw[bQ,bQ]
  refine .cons ?_ ih
  obtain⟨h1,h2,h3⟩:=h
  unfold putAt
  by_cases e:p.1=k
  ·rw[if_pos e,if_pos (h1.symm.trans e)];exact⟨h1,h2,ry⟩
  ·rw[if_neg e,if_neg (fun z=>e (h1.trans z))];exact⟨h1,h2,h3⟩
theorem KT.put{H:Hp}{kvs:List (List Key×V)}{xs:List (List Key×aa×ab)}(r:KT H kvs xs)(k:List Key){b:aa}{y:V}{u:ab}(hb:H b=some (.tup (k.map kV)))(ry:RelV y u):
  KT H (putK kvs k y) (storedH xs k b u):=by
 have e:(kvs.any fun kv=>decide (kv.1=k))=(atKey xs k).isSome:=by
  rw[qt,(r.val k).vF,Pz]
 unfold putK storedH;rw[e];by_cases q:(atKey xs k).isSome=true
 ·rw[if_pos q,if_pos q];exact r.Co k ry
 ·rw[if_neg q,if_neg q];exact Paired.snoc r ⟨rfl,hb,ry⟩
theorem KT.keeps{H H':Hp}{kvs:List (List Key×V)}{xs:List (List Key×aa×ab)}(r:KT H kvs xs)(ht:∀b ys,H b=some (.tup ys)->H' b=some (.tup ys)):KT H' kvs xs:=
 Paired.BA r fun _ _ z=>⟨z.1,ht _ _ z.2.1,z.2.2⟩
section
variable{P:bg}{w:aW}{H:Hp}{h:aB}{a:aa}
theorem J1{u:HO}(ok:cS P w H h)(e:Rd H a u):de P w H h a u:=e.ok ok
theorem ma{kvs:List (Key×V)}(ok:cS P w H h)(e:Rd H a (.dK kvs)):kvs.length<=sizeLine/\(a==sysModules)=false/\∃vs,KV kvs vs/\h.DictOf (fg P w) a vs:=
 show de P w H h a (.dK kvs) from J1 ok e
theorem S4{kvs:List (Key×V)}(ok:cS P w H h)(e:H a=some (.dK kvs)):kvs.length<=sizeLine/\(a==sysModules)=false/\∃vs,KV kvs vs/\h.DictOf (fg P w) a vs:=ma ok (.inl e)
theorem r8{ks:List Key}(ok:cS P w H h)(e:H a=some (.tup (ks.map kV))):(tupleKind (fg P w)).is h ks a:=by
 obtain⟨_,aj,r,o,h1,h2,n,h3⟩:=(show de P w H h a (.tup (ks.map kV)) from ok a _ e);exact⟨o,aj.toArray,n,h1,h2,h3,by simpa using J0 r⟩
theorem qu{kvs:List (List Key×V)}(ok:cS P w H h)(e:Rd H a (.dT kvs)):kvs.length<=sizeLine/\(a==sysModules)=false/\
  ∃xs,KT H kvs xs/\h.DictOfH (tupleKind (fg P w)) a xs:=by
 obtain⟨z,y,xs,r,o,es,ep,h1,h2,h3,h4,h5⟩:=(show de P w H h a (.dT kvs) from J1 ok e);refine⟨z,y,xs,r,o,es,ep,h1,h2,h3,h4,fun x hx=> ?_,h5⟩;have all:∀{l:List (List Key×V)} {m:List (List Key×aa×ab)},KT H l m->∀x∈m,(tupleKind (fg P w)).is h x.1 x.2.1:=by
  intro l m q
  induction q with
  |nil=>intro x hx;exact nomatch hx
  | @cons p q ps qs hq t ih=>
   intro x hx
   rcases b0.mp hx with e|hx
   ·subst e
    exact r8 ok (by rw[<-hq.1];exact hq.2.1)
   ·exact ih x hx
 exact all r x hx
theorem S5{kvs:List (List Key×V)}(ok:cS P w H h)(e:H a=some (.dT kvs)):kvs.length<=sizeLine/\(a==sysModules)=false/\
  ∃xs,KT H kvs xs/\h.DictOfH (tupleKind (fg P w)) a xs:=qu ok (.inl e)
end
def bj(H:Hp)(a:aa)(y:V)(r:Option V):Prop:=
 (∃kvs k,Rd H a (.dK kvs)/\y=kV k/\r=bW kvs k)\/∃kvs k b,Rd H a (.dT kvs)/\y= .ref b/\H b=some (.tup (k.map kV))/\r=bW kvs k
def gj(H:Hp)(a:aa)(y v:V)(H':Hp):Prop:=
 (∃kvs k,H a=some (.dK kvs)/\y=kV k/\kvs.length<sizeLine/\H'=upd H a (.dK (putK kvs k v)))\/
 ∃kvs k b,H a=some (.dT kvs)/\y= .ref b/\H b=some (.tup (k.map kV))/\kvs.length<sizeLine/\H'=upd H a (.dT (putK kvs k v))
theorem bj.k{H:Hp}{a:aa}{kvs:List (Key×V)}{k:Key}(e:H a=some (.dK kvs)):bj H a (kV k) (bW kvs k):= .inl ⟨kvs,k,.inl e,rfl,rfl⟩
theorem bj.t{H:Hp}{a b:aa}{kvs:List (List Key×V)}{k:List Key}(e:H a=some (.dT kvs))(eb:H b=some (.tup (k.map kV))):bj H a (.ref b) (bW kvs k):= .inr ⟨kvs,k,b,.inl e,rfl,eb,rfl⟩
theorem gj.k{H:Hp}{a:aa}{kvs:List (Key×V)}{k:Key}{v:V}(e:H a=some (.dK kvs))(hl:kvs.length<sizeLine):gj H a (kV k) v (upd H a (.dK (putK kvs k v))):= .inl ⟨kvs,k,e,rfl,hl,rfl⟩
theorem gj.t{H:Hp}{a b:aa}{kvs:List (List Key×V)}{k:List Key}{v:V}(e:H a=some (.dT kvs))(eb:H b=some (.tup (k.map kV)))(hl:kvs.length<sizeLine):
  gj H a (.ref b) v (upd H a (.dT (putK kvs k v))):= .inr ⟨kvs,k,b,e,rfl,eb,hl,rfl⟩
section
variable{X:Cx}{pins:List (aa×Obj)}{σ:St}{H:Hp}{s:ak}{a:aa}{y v:V}{u r:ab}{o:Option V}{A:bY}{E:ab->ak->Prop}
theorem Inv.big(I:Inv X pins σ H s):sysModules<s.heap.objs.size:=by
 have h:mainGlobals<s.heap.objs.size:=(I.mod.glob.keeps I.bk).lt;exact Nat.lt_trans (by decide) h
theorem J2{Q:ab->ak->Prop}(hu:A.units+1<cLine)(I:Inv X pins σ H s)(g:bj H a y (some v))(ry:RelV y u)(h:∀w' s',Inv X pins σ H s'->RelV v w'->Q w' s'):
  wpAny (model X.prog X.w) A (getItem (.ref a) u) Q E s:=by
 rcases g with⟨kvs,k,e,ey,l⟩|⟨kvs,k,b,e,ey,eb,l⟩
 ·subst ey;obtain⟨z,hd,vs,rel,dd⟩:=ma I.az e;obtain⟨w',hw,rw'⟩:=eT.some_of (v:=v) (o:=valueAt vs k) (by rw[l];exact rel.val k);exact Qa (r6 ry) dd.mapOf hw (h w' _ (I.tok _) rw')
 ·subst ey;cases (show u=cO b from ry);obtain⟨z,hd,xs,rel,dd⟩:=qu I.az e;obtain⟨w',hw,rw'⟩:=eT.some_of (v:=v) (o:=(atKey xs k).map (·.2)) (by rw[l];exact rel.val k);obtain⟨p,hp,fL⟩:=oy.mp hw;refine wpAny_getItem_heap (Ba hu) (r8 I.az eb) dd hp ?_;rw[fL];exact h w' _ (I.tok _) rw'
theorem S6{Q:ab->ak->Prop}(hu:A.units+1<cLine)(I:Inv X pins σ H s)(g:bj H a y o)(ry:RelV y u)(h:∀s',Inv X pins σ H s'->Q (.bool o.isSome) s'):
  wpAny (model X.prog X.w) A (compareOp .In u (.ref a)) Q E s:=by
 rcases g with⟨kvs,k,e,ey,l⟩|⟨kvs,k,b,e,ey,eb,l⟩
 ·subst ey;obtain⟨z,hd,vs,rel,dd⟩:=ma I.az e;refine wpAny_in_of (r6 ry) hd dd.mapOf ?_;rw[<-(rel.val k).vF,<-l];exact h _ (I.tok _)
 ·subst ey;cases (show u=cO b from ry);obtain⟨z,hd,xs,rel,dd⟩:=qu I.az e;refine wpAny_in_heap (Ba hu) (r8 I.az eb) hd dd ?_;have q:=(rel.val k).vF;rw[Pz] at q;rw[<-q,<-l];exact h _ (I.tok _)
theorem S7{Q:ab->ak->Prop}(hu:A.units+1<cLine)(I:Inv X pins σ H s)(g:bj H a y o)(ry:RelV y u)(h:∀s',Inv X pins σ H s'->Q (.bool (!o.isSome)) s'):
  wpAny (model X.prog X.w) A (compareOp .NotIn u (.ref a)) Q E s:=by
 rcases g with⟨kvs,k,e,ey,l⟩|⟨kvs,k,b,e,ey,eb,l⟩
 ·subst ey;obtain⟨z,hd,vs,rel,dd⟩:=ma I.az e;refine wpAny_notIn_of (r6 ry) hd dd.mapOf ?_;rw[<-(rel.val k).vF,<-l];exact h _ (I.tok _)
 ·subst ey;cases (show u=cO b from ry);obtain⟨z,hd,xs,rel,dd⟩:=qu I.az e;refine wpAny_notIn_heap (Ba hu) (r8 I.az eb) hd dd ?_;have q:=(rel.val k).vF;rw[Pz] at q;rw[<-q,<-l];exact h _ (I.tok _)
theorem J3{h':aB}{t':Nat}{ob:HO}(I:Inv X pins σ H s)(mu:mV (H a))(hs:rq a s.heap h')(he:∃q,h'.get? a=some q)(new:de X.prog X.w (upd H a ob) h' a ob):
  Inv X pins σ (upd H a ob) {s with heap:=h',toks:=t'}:=
 I.write (x:=a) (e:=a) mu (.inl rfl) (fun b q hb z=>(hs.2 b hb).trans z) he new
theorem S8{P:bg}{w:aW}{H':Hp}{h':aB}{kvs:List (Key×V)}{vs:List (Key×ab)}(z:kvs.length<=sizeLine)(hd:(a==sysModules)=false)(rel:KV kvs vs)(dd:h'.DictOf (fg P w) a vs):
  de P w H' h' a (.dK kvs):=⟨z,hd,vs,rel,dd⟩
theorem J4{H':Hp}{Q:Unit->ak->Prop}(hu:A.units+1<cLine)(I:Inv X pins σ H s)(g:gj H a y v H')(ry:RelV y u)(rv:RelV v r)(h:∀s',Inv X pins σ H' s'->Q () s'):
  wpAny (model X.prog X.w) A (setItem (.ref a) u r) Q E s:=by
 rcases g with⟨kvs,k,e,ey,l,eH⟩|⟨kvs,k,b,e,ey,eb,l,eH⟩
 ·subst ey eH;obtain⟨z,hd,vs,rel,dd⟩:=S4 I.az e;have hz:vs.length<=sizeLine:=by rw[<-rel.length];exact z
  have hl:(putK kvs k v).length<=sizeLine:=by have:=yH kvs k v;omega
  refine wpAny_setItem_pairs (hsz:=hz) (r6 ry) dd fun h' dd' hs=>h _ ?_;have he:∃q,h'.get? a=some q:=let ⟨q,_,_,hq,_⟩:=dd';⟨q,hq⟩;exact J3 I (by rw[e];exact p9) hs he (S8 hl hd (rel.put k rv) dd')
 ·subst ey eH;cases (show u=cO b from ry);obtain⟨z,hd,xs,rel,dd⟩:=S5 I.az e;have hz:xs.length<=sizeLine:=by rw[<-lJ rel];exact z
  have hl:(putK kvs k v).length<=sizeLine:=by have:=yH kvs k v;omega
  refine wpAny_setItem_heap (hsz:=hz) (Ba hu) (r8 I.az eb) dd fun h' dd' hs=>h _ ?_;obtain⟨q,es,ep,hq,h2,h3,h4,_,h5⟩:=dd';refine J3 I (by rw[e];exact p9) hs ⟨q,hq⟩ ⟨hl,hd,_,(rel.put k eb rv).keeps fun c ys ec=> ?_,q,es,ep,hq,h2,h3,h4,h5⟩;rw[ag (cv ec e (fun z=>nomatch z))];exact ec
end
section
variable{X:Cx}{pins:List (aa×Obj)}{σ:St}{H:Hp}{s:ak}{a:aa}{kvs:List (Key×V)}{k:Key}{u:ab}{A:bY}{E:ab->ak->Prop}
theorem S9{Q:ab->ak->Prop}(I:Inv X pins σ H s)(e:Rd H a (.dK kvs))(h:∀t s',Inv X pins σ H s'->Q (.int kvs.length t) s'):wpAny (model X.prog X.w) A (call (.builtin "len") [.ref a]) Q E s:=by
 obtain⟨z,hd,vs,rel,dd⟩:=ma I.az e;refine call_len_dict hd dd (by rw[<-rel.length];rw[uS] at z;omega) ?_;rw[<-rel.length];exact h _ _ (I.tok _)
end
def Cp(i:aG):Prop:=∀ov iv,subscripted i false ov iv=operate [ov,iv] (getItem ov iv)
theorem J5{prog:bg}{w:aW}{A:bY}{E:ab->ak->Prop}{s:ak}{env:Env}{value slice:aG}{pos:Pos}{T id:String}{Q:ab->ak->Prop}
  (hl:typeLookup (.type T) "__getitem__"=pure (some (.builtin id))) (hs:Cp slice)
  (h:wpAny (model prog w) A (eval value env) (fun o s₁=>wpAny (model prog w) A (eval slice env) (fun i s₂=>s₂.TypeIs o T/\wpAny (model prog w) A (getItem o i) Q E s₂) E s₁) E s):
  wpAny (model prog w) A (eval (.Subscript value slice pos) env) Q E s:=by
 refine By (iA h (fun o s₁ h₁=>iA h₁ (fun i s₂ h₂=> ?_) fun _ _ x=>x) fun _ _ x=>x);obtain⟨hT,h₂⟩:=h₂;unfold subscriptTail;refine aq ?_;rw[getitemInPython_of_ne hT.not_modules];refine aq (wpAny_specialOf hT hl ?_);have fin:wpAny (model prog w) A (subscripted slice false o i) (fun r s₃=>wpAny (model prog w) A (letTemporaryGo value o r>>=fun _=>pure r) Q E s₃) E s₂:=by
  rw[hs o i];exact wpAny_operating (iA h₂ (fun r s₃ h₃=>aq (wpAny_letTemporaryGo (aO h₃))) fun _ _ x=>x)
 first
  |exact aO (aq fin)
  |exact aq (aO (aq fin))
  |exact aq fin
theorem Ta{X:Cx}{pins:List (aa×Obj)}{σ:St}{H:Hp}{s:ak}{a:aa}{y:V}{o:Option V}(I:Inv X pins σ H s)(g:bj H a y o):s.TypeIs (.ref a) "dict":=by
 rcases g with⟨kvs,k,e,_,_⟩|⟨kvs,k,b,e,_,_,_⟩
 ·obtain⟨_,_,vs,_,dd⟩:=ma I.az e;exact dd.typeIs
 ·obtain⟨_,_,xs,_,dd⟩:=qu I.az e;exact dd.typeIs
def Tc(td ty:TE):TE:=fun σ H Q=>td σ H fun x H1=>ty σ H1 fun y H2=>∃a v,x= .ref a/\bj H2 a y (some v)/\Q v H2
def Td(ty td:TE):TE:=fun σ H Q=>ty σ H fun y H1=>td σ H1 fun x H2=>∃a o,x= .ref a/\bj H2 a y o/\Q (.bl o.isSome) H2
def Te(ty td:TE):TE:=fun σ H Q=>ty σ H fun y H1=>td σ H1 fun x H2=>∃a o,x= .ref a/\bj H2 a y o/\Q (.bl (!o.isSome)) H2
def Tf(td ty tv:TE):TS:=fun D σ H=>tv σ H fun v H1=>td σ H1 fun x H2=>ty σ H2 fun y H3=>∃a H4,x= .ref a/\gj H3 a y v H4/\D.nx σ H4
def Th(td ty tv:TE)(rd:V->V->Hp->VK->Prop):TS:=fun D σ H=>td σ H fun x H1=>ty σ H1 fun y H2=>∃a v,x= .ref a/\bj H2 a y (some v)/\
 tv σ H2 fun y2 H3=>rd v y2 H3 fun z H4=>∃H5,gj H4 a y z H5/\D.nx σ H5
section
variable{X:Cx}{o i e value:aG}{pos pos' dP:Pos}{td ty tv:TE}
theorem fR(hu:X.A.units+1<cLine)(ho:PE X o td)(hi:PE X i ty)(hs:Cp i):PE X (.Subscript o i pos) (Tc td ty):=by
 intro pins s σ H Q I h;refine J5 ael.lookup hs (aH (ho pins s σ H _ I h) fun u s1 ⟨x,H1,I1,rx,q1⟩=>aH (hi pins s1 σ H1 _ I1 q1) fun iv s2 ⟨y,H2,I2,ry,a,v,ex,g,q2⟩=> ?_);subst ex;obtain rfl:u=cO a:=rx;exact⟨Ta I2 g,J2 hu I2 g ry fun w' s3 I3 rw'=>⟨v,H2,I3,rw',q2⟩⟩
theorem Cq(hu:X.A.units+1<cLine)(hi:PE X i ty)(ho:PE X o td):PC X .In i o (Td ty td):=by
 intro pins s σ H Q I h;refine aH (hi pins s σ H _ I h) fun iv s1 ⟨y,H1,I1,ry,q1⟩=>aH (ho pins s1 σ H1 _ I1 q1) fun u s2 ⟨x,H2,I2,rx,a,ov,ex,g,q2⟩=> ?_;subst ex;obtain rfl:u=cO a:=rx;exact S6 hu I2 g ry fun s3 I3=>⟨.bl ov.isSome,H2,I3,rfl,q2⟩
theorem J6(hu:X.A.units+1<cLine)(hi:PE X i ty)(ho:PE X o td):PC X .NotIn i o (Te ty td):=by
 intro pins s σ H Q I h;refine aH (hi pins s σ H _ I h) fun iv s1 ⟨y,H1,I1,ry,q1⟩=>aH (ho pins s1 σ H1 _ I1 q1) fun u s2 ⟨x,H2,I2,rx,a,ov,ex,g,q2⟩=> ?_;subst ex;obtain rfl:u=cO a:=rx;exact S7 hu I2 g ry fun s3 I3=>⟨.bl (!ov.isSome),H2,I3,rfl,q2⟩
theorem vG(hu:X.A.units+1<cLine)(ho:PE X o td)(hi:PE X i ty)(hv:PE X value tv)(hs:swapsWith value (some (.Subscript o i pos')) pos.line X.env=pure false):
  PS X (.Assign [.Subscript o i pos'] value pos) (Tf td ty tv):=by
 intro pins s σ H D I h;refine wpAny_Assign_Subscript (aH (hv pins s σ H _ I h) fun r s1 ⟨v,H1,I1,rv,q1⟩=>aH (ho pins s1 σ H1 _ I1 q1) fun u s2 ⟨x,H2,I2,rx,q2⟩=>aH (hi pins s2 σ H2 _ I2 q2) fun iv s3 ⟨y,H3,I3,ry,a,H4,ex,g,q3⟩=> ?_) hs;subst ex;obtain rfl:u=cO a:=rx;exact J4 hu I3 g ry rv fun s4 I4=>⟨σ,H4,I4,q3⟩
theorem r9{op:rF}{rd:V->V->Hp->VK->Prop}(hu:X.A.units+1<cLine)(ho:PE X o td)(hi:PE X i ty)(hv:PE X value tv)(vo:vn X op rd)
  (ha:∀ov iv new,augStore i ov iv new=(do holding [new,ov,iv] (setItem ov iv new);release [new,ov,iv] [];pure .next)):PS X (.AugAssign (.Subscript o i dP) op value pos) (Th td ty tv rd):=by
 intro pins s σ H D I h;refine aeB (aH (ho pins s σ H _ I h) fun u s1 ⟨x,H1,I1,rx,q1⟩=>aH (hi pins s1 σ H1 _ I1 q1) fun iv s2 ⟨y,H2,I2,ry,a,v,ex,g,q2⟩=> ?_) ha;subst ex;obtain rfl:u=cO a:=rx;refine J2 hu I2 g ry fun w' s3 I3 rw'=>aH (hv pins s3 σ H2 _ I3 q2) fun w2 s4 ⟨y2,H3,I4,ry2,q3⟩=>aH (vo pins s4 σ H3 v y2 w' w2 _ I4 rw' ry2 q3) fun w3 s5 ⟨z,H4,I5,rz,H5,g5,q4⟩=> ?_;exact J4 hu I5 g5 ry rz fun s6 I6=>⟨σ,H5,I6,q4⟩
end
theorem Ti{P:bg}{w:aW}{H:Hp}(h:aB)(hb:sysModules<h.objs.size):de P w H (h.push {cls:= .type "dict",data:= .dict #[]}) h.objs.size (.dK []):=
 ⟨du _,beq_eq_false_iff_ne.mpr (d7 (cW hb)),[],.nil,Heap.DictOf.new h⟩
theorem Tj{P:bg}{w:aW}{H:Hp}(h:aB)(hb:sysModules<h.objs.size):de P w H (h.push {cls:= .type "dict",data:= .dict #[]}) h.objs.size (.dT []):=
 ⟨du _,beq_eq_false_iff_ne.mpr (d7 (cW hb)),[],.nil,_,#[],0,cG _ rfl,⟨rfl,rfl,rfl⟩,rfl,rfl,Io⟩
def Tn:TE:=fun _ H Q=>∀p,H p=none->Q (.ref p) (upd H p (.dK []))
def To:TE:=fun _ H Q=>∀p,H p=none->Q (.ref p) (upd H p (.dT []))
section
variable{X:Cx}{pos:Pos}
theorem yI:PE X (.Dict [] [] pos) Tn:=fun pins s σ H Q I h=>
 wpAny_Dict_empty ⟨.ref s.heap.objs.size,_,I.laid (a:=s.heap.objs.size) (o:= .dK []) (t':=s.toks) (fun _ _ q=>cx _ q) (aI _) (Ti s.heap I.big),rfl,h _ (I.az.fresh (aI _))⟩
theorem Tp:PE X (.Dict [] [] pos) To:=fun pins s σ H Q I h=>
 wpAny_Dict_empty ⟨.ref s.heap.objs.size,_,I.laid (a:=s.heap.objs.size) (o:= .dT []) (t':=s.toks) (fun _ _ q=>cx _ q) (aI _) (Tj s.heap I.big),rfl,h _ (I.az.fresh (aI _))⟩
end
structure M1(X:Cx)(o:aG)(m:Str)(apos:Pos)(e:aG)(d4:Pos):Prop where
 base:attributeBase o m X.env (eval o X.env)=eval o X.env
 J7:((backTo d4 (starEach [e] X.env)).all (fun x=> !x.1)&&(backToKw d4 (keywordEach [] X.env)).all (fun x=>x.1.isSome)
  &&decide (([e]:List aG).length+([]:List rH).length+(if ([]:List rH).isEmpty then 0 else 1)<30))=true
 line:(apos.endLine==d4.line)=true
 trees:backTo d4 (starEach [e] X.env)=[(false,eval e X.env)]
structure M2(X:Cx)(o:aG)(m:Str)(apos:Pos)(e f:aG)(d4:Pos):Prop where
 base:attributeBase o m X.env (eval o X.env)=eval o X.env
 J7:((backTo d4 (starEach [e,f] X.env)).all (fun x=> !x.1)&&(backToKw d4 (keywordEach [] X.env)).all (fun x=>x.1.isSome)
  &&decide (([e,f]:List aG).length+([]:List rH).length+(if ([]:List rH).isEmpty then 0 else 1)<30))=true
 line:(apos.endLine==d4.line)=true
 trees:backTo d4 (starEach [e,f] X.env)=[(false,eval e X.env),(false,eval f X.env)]
def J8(H:Hp)(a:aa):Prop:=(∃kvs,Rd H a (.dK kvs))\/∃kvs,Rd H a (.dT kvs)
theorem Tq{X:Cx}{pins:List (aa×Obj)}{σ:St}{H:Hp}{s:ak}{a:aa}(I:Inv X pins σ H s)(d:J8 H a):
  s.TypeIs (.ref a) "dict"/\(∀b,cO a= .ref b->∃ob,s.heap.get? b=some ob/\ob.dict=none)/\(a==sysModules)=false:=by
 rcases d with⟨kvs,e⟩|⟨kvs,e⟩
 ·obtain⟨_,hd,vs,_,dd⟩:=ma I.az e;refine⟨dd.typeIs,fun b q=> ?_,hd⟩;cases q;obtain⟨ob,_,_,h1,h2,_⟩:=dd;exact⟨ob,h1,h2.2.1⟩
 ·obtain⟨_,hd,xs,_,dd⟩:=qu I.az e;refine⟨dd.typeIs,fun b q=> ?_,hd⟩;cases q;obtain⟨ob,_,_,h1,h2,_⟩:=dd;exact⟨ob,h1,h2.2.1⟩
section
variable{X:Cx}{pins:List (aa×Obj)}{σ:St}{H:Hp}{s:ak}{a:aa}{y d:V}{u r:ab}{o:Option V}{A:bY}{E:ab->ak->Prop}
theorem Tr{Q:ab->ak->Prop}(hu:A.units+1<cLine)(I:Inv X pins σ H s)(g:bj H a y o)(ry:RelV y u)(rd:RelV d r)(h:∀w' s',Inv X pins σ H s'->RelV (o.getD d) w'->Q w' s'):
  wpAny (model X.prog X.w) A (call (.builtin "dict.get") [.ref a,u,r]) Q E s:=by
 rcases g with⟨kvs,k,e,ey,l⟩|⟨kvs,k,b,e,ey,eb,l⟩
 ·subst ey;obtain⟨z,hd,vs,rel,dd⟩:=ma I.az e;refine call_meetsIn Pl dd.typeIs aes (aep _ _ _) (meets_dict_get_default (fg X.prog X.w) a (r6 ry) hd r) ⟨_,dd.mapOf,h _ _ (I.tok _) ?_⟩;rw[l];exact(rel.val k).getD rd
 ·subst ey;cases (show u=cO b from ry);obtain⟨z,hd,xs,rel,dd⟩:=qu I.az e;refine call_meetsIn Pl dd.typeIs aes (aep _ _ _) (meetsH_dict_get_default (tupleKind (fg X.prog X.w)) a b hd r) ⟨Ba hu,k,xs,r8 I.az eb,dd,h _ _ (I.tok _) ?_⟩;rw[l];exact(rel.val k).getD rd
end
def Ts(td ty tx:TE):TE:=fun σ H Q=>td σ H fun x H1=>∃a,x= .ref a/\J8 H1 a/\ty σ H1 fun y H2=>tx σ H2 fun z H3=>∃o,bj H3 a y o/\Q (o.getD z) H3
section
variable{X:Cx}{o e f:aG}{apos d4:Pos}{td ty tx:TE}
theorem Tt(hu:X.A.units+1<cLine)(ho:PE X o td)(he:PE X e ty)(hf:PE X f tx)(m:M2 X o "get" apos e f d4):PE X (.Call (.Attribute o "get" apos) [e,f] [] d4) (Ts td ty tx):=by
 intro pins s σ H Q I h;refine P1 m.base m.J7 m.line PySem.F.plainAttrs_dict Pl PySem.F.type_dict_get (aH (ho pins s σ H _ I h) fun u s1 ⟨x,H1,I1,rx,a,ex,d,q1⟩=> ?_);subst ex;obtain rfl:u=cO a:=rx;obtain⟨t1,t2,_⟩:=Tq I1 d;refine⟨t1,t2,?_⟩;rw[m.trees];refine aeC rfl (aeG (xF (aH (he pins s1 σ H1 _ I1 q1) fun iv s2 ⟨y,H2,I2,ry,q2⟩=>
  xF (aH (hf pins s2 σ H2 _ I2 q2) fun fv s3 ⟨z,H3,I3,rz,ov,g,q3⟩=>HM ?_))))
 exact Tr hu I3 g ry rz fun w' s4 I4 rw'=>⟨_,H3,I4,rw',q3⟩
end
section
variable{X:Cx}{pins:List (aa×Obj)}{σ:St}{H:Hp}{s:ak}{h':aB}
theorem Inv.Cr{t':Nat}{ch:List aa}(I:Inv X pins σ H s)(k:∀b o,b∉ch->s.heap.get? b=some o->h'.get? b=some o)(hf:∀b∈ch,jP X pins H b):Inv X pins σ H {s with heap:=h',toks:=t'}:=by
 have nit:∀b u,H b=some u->b∉ch:=fun b u e z=>by
  have q:=(hf b z).1;rw[q] at e;cases e
 refine I.step (g':=s.gens) (d':=s.drawn) (ch:=ch) (fun b hb=>⟨(hf b hb).2.2.2.1,(hf b hb).2.1,(hf b hb).2.2.2.2.1,(hf b hb).2.2.2.2.2⟩) (fun b o _ _ hc e _=>k b o hc e) (fun b o _ _ hc e _=>⟨o.slots,k b o hc e⟩)
  (fun _ _ _ _ n=>n) (fun b o hc e=>⟨o,k b o hc e⟩) (fun _ _ e=>e) (fun _ _ _ e=>e) (fun b ps e=>⟨#[],by rw[e];simp⟩) (fun m hm=> ?_) (fun b u e=> ?_) I.bare
 ·obtain⟨o,es,ep,ho,r⟩:=hm;exact⟨o,es,ep,k _ o (fun z=>(hf _ z).2.1 rfl) ho,r⟩
 ·refine(I.az b u e).ji (fun c v hc q=>k c v ?_ q) (fun _ q=>q) fun _ _ q=>q;rcases hc with z|z
  ·rw[z];exact nit b u e
  ·exact nit c _ z
theorem Inv.vH{t':Nat}{ch:List aa}{T:aa}{ob:HO}(I:Inv X pins σ H s)(k:∀b o,b∉ch->s.heap.get? b=some o->h'.get? b=some o)(hf:∀b∈ch,jP X pins H b)(hT:s.heap.objs.size<=T)
  (new:de X.prog X.w (upd H T ob) h' T ob):Inv X pins σ (upd H T ob) {s with heap:=h',toks:=t'}:=by
 have hn:H T=none:=I.az.fresh hT;have nit:∀b u,H b=some u->b∉ch:=fun b u e z=>by
  have q:=(hf b z).1;rw[q] at e;cases e
 refine I.step (g':=s.gens) (d':=s.drawn) (ch:=ch) (fun b hb=>⟨(hf b hb).2.2.2.1,(hf b hb).2.1,(hf b hb).2.2.2.2.1,(hf b hb).2.2.2.2.2⟩) (fun b o _ _ hc e _=>k b o hc e) (fun b o _ _ hc e _=>⟨o.slots,k b o hc e⟩)
  (fun b o _ e n=> ?_) (fun b o hc e=>⟨o,k b o hc e⟩) (fun b xs e=> ?_) (fun b o u e=> ?_) (fun b ps e=>⟨#[],?_⟩) (fun m hm=> ?_) (fun b u e=> ?_) I.bare
 ·rw[ag (cW (d6 (br e) hT))];exact n
 ·rw[ag (aV e hn)];exact e
 ·rw[ag (aV e hn)];exact e
 ·rw[ag (aV e hn),e];simp
 ·obtain⟨o,es,ep,ho,r⟩:=hm;exact⟨o,es,ep,k _ o (fun z=>(hf _ z).2.1 rfl) ho,r⟩
 ·by_cases hb:b=T
  ·subst hb;rw[au] at e;cases e;exact new
  ·rw[ag hb] at e;refine(I.az b u e).ji (fun c v hc q=>k c v ?_ q) (fun c q=>by rw[ag (aV q hn)];exact q) fun c xs q=>by rw[ag (aV q hn)];exact q
   rcases hc with z|z
   ·rw[z];exact nit b u e
   ·exact nit c _ z
theorem Inv.lock{d:aa}{u:HO}(I:Inv X pins σ H s)(h:H d=some u)(mu:mV (some u)):∃od,Inv X pins σ (upd H d (.bF od u)) s:=by
 have x:=I.az d u h;have ex:∃od,s.heap.get? d=some od:=by
  cases u with
  |lst xs=>obtain⟨_,_,_,_,e⟩:=x;exact⟨_,e⟩
  |dK kvs=>obtain⟨_,_,_,_,o,_,_,e,_⟩:=x;exact⟨o,e⟩
  |dT kvs=>obtain⟨_,_,_,_,o,_,_,e,_⟩:=x;exact⟨o,e⟩
  |set S n=>obtain⟨o,_,_,_,e,_⟩:=x;exact⟨o,e⟩
  |ins C dx fs=>obtain⟨_,_,_,e,_⟩:=x;exact⟨_,e⟩
  |ext φ=>obtain⟨_,⟨_,e⟩,_⟩:=x;exact⟨_,e⟩
  |_=>exact ft mu
 obtain⟨od,e⟩:=ex;have new:de X.prog X.w (upd H d (.bF od u)) s.heap d (.bF od u):=by
  refine⟨e,x.ji (fun b v _ q=>q) (fun b q=> ?_) fun b xs q=> ?_⟩
  ·rw[ag (fun z=>by rw[z,h] at q;cases q;exact mu)];exact q
  ·rw[ag (fun z=>by rw[z,h] at q;cases q;exact mu)];exact q
 exact⟨od,I.write (x:=d) (e:=d) (t':=s.toks) (h':=s.heap) (by rw[h];exact mu) (.inl rfl) (fun b v _ q=>q) ⟨od,e⟩ new⟩
theorem Inv.vI{d:aa}{u:HO}(I:Inv X pins σ H s)(h:H d=some u)(mu:mV (some u)):∀o' u',X.qd d≠some (.bF o' u'):=fun o' u' e=>by
 have q:=I.base.ku d o' u' e;rw[h] at q;cases q;exact mu
theorem Inv.unlock{d:aa}{od:Obj}{u:HO}(I:Inv X pins σ H s)(h:H d=some (.bF od u))(hn:∀o' u',X.qd d≠some (.bF o' u')):Inv X pins σ (upd H d u) s:=by
 have neH:∀b o,H b=some o->(∀o' u',o≠.bF o' u')->b≠d:=fun b o e cw z=>by
  rw[z,h] at e;cases e;exact cw _ _ rfl
 have neN:∀b,H b=none->b≠d:=fun b e z=>by rw[z,h] at e;cases e
 refine⟨I.ok,I.os,I.bare,⟨I.base.keep,I.base.slot,fun b o e n hx=> ?_,I.base.there,fun b xs e=> ?_,fun b o x e=> ?_,fun b ps e=> ?_⟩,I.loc,I.cell,?_,fun x c e=> ?_,fun p hp=> ?_,fun b o e=> ?_,I.len⟩
 ·rw[ag (neN b (I.base.free b o e n hx))];exact I.base.free b o e n hx
 ·have q:=I.base.mW b xs e;rw[ag (neH b _ q (fun _ _ z=>nomatch z))];exact q
 ·have q:=I.base.ku b o x e;rw[ag (fun z=>by rw[z] at e;exact hn _ _ e)];exact q
 ·obtain⟨m,q⟩:=I.base.lO b ps e;exact⟨m,by rw[ag (neH b _ q (fun _ _ z=>nomatch z))];exact q⟩
 ·rw[ag (neN _ I.free)];exact I.free
 ·rw[ag (neN c (I.jk x c e))];exact I.jk x c e
 ·obtain⟨e,n,r⟩:=I.pin p hp;exact⟨e,by rw[ag (neN _ n)];exact n,r⟩
 ·by_cases hb:b=d
  ·rw[hb,au] at e;cases e;rw[hb];obtain⟨_,x⟩:=I.az d _ h;exact x.ji (fun c v _ q=>q) (fun c q=>by rw[ag (neH c _ q (fun _ _ z=>nomatch z))];exact q) fun c xs q=>by rw[ag (neH c _ q (fun _ _ z=>nomatch z))];exact q
  ·rw[ag hb] at e;exact(I.az b o e).ji (fun c v _ q=>q) (fun c q=>by rw[ag (neH c _ q (fun _ _ z=>nomatch z))];exact q) fun c xs q=>by rw[ag (neH c _ q (fun _ _ z=>nomatch z))];exact q
end
def Tu(t:TS):TS:=fun D σ H=>∃d u,H d=some u/\mV (some u)/\∀od,t ⟨fun σ' H'=>H' d=some (.bF od u)/\D.nx σ' (upd H' d u),fun v H'=>H' d=some (.bF od u)/\D.rt v (upd H' d u),fun σ' H'=>H' d=some (.bF od u)/\D.bk σ' (upd H' d u),fun σ' H'=>H' d=some (.bF od u)/\D.ct σ' (upd H' d u)⟩ σ (upd H d (.bF od u))
def Tv(t:TE):TE:=fun σ H Q=>∃d u,H d=some u/\mV (some u)/\∀od,t σ (upd H d (.bF od u)) fun v H'=>H' d=some (.bF od u)/\Q v (upd H' d u)
section
variable{X:Cx}
theorem J9{st:aL}{t:TS}(h:PS X st t):PS X st (Tu t):=by
 intro pins s σ H D I hw;obtain⟨d,u,hd,mu,hw⟩:=hw;obtain⟨od,I1⟩:=I.lock hd mu;refine aH (h pins s σ _ _ I1 (hw od)) fun f s1 q=> ?_;cases f with
 |next=>obtain⟨σ',H',I2,e,q⟩:=q;exact⟨σ',_,I2.unlock e (I.vI hd mu),q⟩
 |brk=>obtain⟨σ',H',I2,e,q⟩:=q;exact⟨σ',_,I2.unlock e (I.vI hd mu),q⟩
 |cont=>obtain⟨σ',H',I2,e,q⟩:=q;exact⟨σ',_,I2.unlock e (I.vI hd mu),q⟩
 |ret v=>obtain⟨x,σ',H',I2,r,e,q⟩:=q;exact⟨x,σ',_,I2.unlock e (I.vI hd mu),r,q⟩
theorem Ka{e:aG}{t:TE}(h:PE X e t):PE X e (Tv t):=by
 intro pins s σ H Q I hw;obtain⟨d,u,hd,mu,hw⟩:=hw;obtain⟨od,I1⟩:=I.lock hd mu;refine aH (h pins s σ _ _ I1 (hw od)) fun v s1 ⟨x,H1,I2,r,e2,q⟩=> ?_;exact⟨x,_,I2.unlock e2 (I.vI hd mu),r,q⟩
theorem yJ{tg:aG}{pins:List (aa×Obj)}{σ:St}{H:Hp}{s:ak}{R:It->Hp->Prop}{J:It}{tn:Nat->aB->Prop}{tk:Nat}(I:Inv X pins σ H s)(o:Obj)
  (T:Turn X.prog X.w X.K tg J [s.heap.objs.size] s.heap.objs.size tn) (st:tn 0 (s.heap.push o)) (q:R J H):vg X pins σ tg R (.ref s.heap.objs.size) {s with heap:=s.heap.push o,toks:=tk}:=by
 refine⟨s.heap.objs.size,[s.heap.objs.size],tn,J,H,rfl,I.kept fun b ob e=>cx _ e,T,st,fun b hb=> ?_,q⟩;have e:b=s.heap.objs.size:=by simpa using hb
 subst e;exact I.oT (aI _) (I.az.fresh (aI _))
end
section
variable{prog:bg}{w:aW}{A:bY}{E:ab->ak->Prop}{s:ak}
theorem Kb{d:aa}{o:Obj}{es:Array iC}{ep:Nat}{Q:ab->ak->Prop}(hd:(d==sysModules)=false)(ho:s.heap.get? d=some o)(hc:o.ExactDict)(Kc:o.data= .dict es ep)
  (hQ:Q (.ref s.heap.objs.size) {s with heap:=s.heap.push {cls:= .type "dict_keyiterator",data:= .fields #[.ref d,.int 0 0,.int es.size 0,.int ep 0]}}):
  wpAny (model prog w) A (pyIter (.ref d)) Q E s:=by
 have hT:s.TypeIs (.ref d) "dict":=⟨o,ho,hc.1⟩;refine wpAny_pyIter_slot hT F.slot_dict_iter (mM F.slot_dict_iter hT F.entry_dict_iter ?_ (F.args_dict_iter_1 _));unfold Builtin.«dict.__iter__»;refine aq ?_;unfold Builtin.Dict.dictSlotNone;refine aq (wpAny_notOrdered_dict hT ?_);show wpAny _ _ (pure (cO d)) _ _ s;refine aO ?_;show wpAny _ _ (aeh d>>=_) _ _ s;unfold aeh;rw[if_neg (by rw[hd];exact df)];refine aq (aO ?_);refine aq (P0 ho Kc ?_);refine aq (Qi ho Kc ?_);refine aq (uF (aO ⟨_,rfl,"dict_keyiterator",_,⟨_,cG _ rfl,rfl⟩,F.slot_dict_keyiterator_next.lookup,?_⟩));simpa[rawInt] using hQ
theorem Tw{it d:aa}{i n ep:Nat}{od:Obj}{es:Array iC}{en:iC}{Q:Option ab->ak->Prop}(hit:s.heap.IsKeyIter it d i n ep)(fj:s.heap.get? d=some od)(vJ:od.data= .dict es ep)
  (hsz:es.size=n) (hx:es[i]? =some en) (hQ:∀h',h'.IsKeyIter it d (i+1) n ep->rq it s.heap h'->Q (some en.key) {s with heap:=h'}):wpAny (model prog w) A (pyNext (.ref it)) Q E s:=by
 obtain⟨o,ho,hc,hd⟩:=id hit;unfold pyNext;refine aq (xY (qW (name:=cU "__next__") hit.typeIs F.slot_dict_keyiterator_next
  (mM F.slot_dict_keyiterator_next hit.typeIs F.entry_dict_keyiterator_next ?_ (F.args_dict_keyiterator_next_1 _))))
 refine aq (aO ?_);refine aq ?_;refine aq ?_;first|refine aq (Hs hit.typeIs (aO ?_))|refine aq (Hu hit.typeIs (aO ?_))
 refine aq (wpAny_fieldsOf ho hd ?_);have Cs:aea "dict_keyiterator"=false:=by decide
 simp only[Cs,uD,if_false];show wpAny _ _ (if (cO d==lL)=true then _ else _) _ _ s;rw[if_neg (show ¬((cO d==lL)=true) from df)];refine aq (aO ?_);refine aq (P0 fj vJ ?_);rw[if_neg (by rw[hsz];simp)];refine aq (aO ?_);refine aq (Qi fj vJ ?_);rw[if_neg (by simp)];refine aO ?_;obtain⟨Tx,Ct⟩:=Array.getElem?_eq_some_iff.mp hx;simp only[show ¬((i:Int)<0) from by omega,if_false,iT,Pb Tx];refine aq ?_;first|refine aq (Hs hit.typeIs (aO ?_))|refine aq (Hu hit.typeIs (aO ?_))
 refine aq (afj hit.typeIs ?_);show wpAny _ _ (setField (.ref it) 1 (rawInt ((i:Int)+1))>>=_) _ _ s;refine aq (Iw ho hd (by simp) ?_);have yK:(s.heap.update it (Obj.mapFields (·.setIfInBounds 1 (rawInt ((i:Int)+1))))).IsKeyIter it d (i+1) n ep:=
  ⟨_,Hw _ ho (aeN (HJ hd _)),(afk ..).trans hc,by rw[HJ hd];simp[rawInt]⟩
 refine aq (oH ?_);refine aq (afj (s:={s with heap:=s.heap.update it (Obj.mapFields (·.setIfInBounds 1 (rawInt ((i:Int)+1))))}) yK.typeIs ?_);show wpAny _ _ (pure es[i].key) _ _ _;rw[Ct];exact aO (aO ⟨_,rfl,aO (hQ _ yK (qY ..))⟩)
theorem Kd{it d:aa}{i n ep:Nat}{od:Obj}{es:Array iC}{Q:Option ab->ak->Prop}(hh:A.handled=none)(hit:s.heap.IsKeyIter it d i n ep)(fj:s.heap.get? d=some od)(vJ:od.data= .dict es ep)
  (hsz:es.size=n) (oW:n<=i) (hQ:∀h',Heap.ExtBut it s.heap h'->Q none {s with heap:=h'}):wpAny (model prog w) A (pyNext (.ref it)) Q E s:=by
 obtain⟨o,ho,hc,hd⟩:=id hit;unfold pyNext;refine aq (xY (qW (name:=cU "__next__") hit.typeIs F.slot_dict_keyiterator_next
  (mM F.slot_dict_keyiterator_next hit.typeIs F.entry_dict_keyiterator_next ?_ (F.args_dict_keyiterator_next_1 _))))
 refine aq (aO ?_);refine aq ?_;refine aq ?_;first|refine aq (Hs hit.typeIs (aO ?_))|refine aq (Hu hit.typeIs (aO ?_))
 refine aq (wpAny_fieldsOf ho hd ?_);have Cs:aea "dict_keyiterator"=false:=by decide
 simp only[Cs,uD,if_false];show wpAny _ _ (if (cO d==lL)=true then _ else _) _ _ s;rw[if_neg (show ¬((cO d==lL)=true) from df)];refine aq (aO ?_);refine aq (P0 fj vJ ?_);rw[if_neg (by rw[hsz];simp)];refine aq (aO ?_);refine aq (Qi fj vJ ?_);rw[if_neg (by simp)];refine aO ?_;have Tz:es.size<=i:=by rw[hsz];exact oW
 simp only[show ¬((i:Int)<0) from by omega,if_false,iT,Array.getElem?_eq_none Tz];refine aq ?_;first|refine aq (Hs hit.typeIs (aO ?_))|refine aq (Hu hit.typeIs (aO ?_))
 show wpAny _ _ (setField (.ref it) 0 .none>>=_) _ _ s;refine aq (Iw ho hd (by simp) ?_);show wpAny _ _ (newExc (.type "StopIteration") []>>=_) _ _ _;refine aq ?_;simp only[newExc,newTuple];refine aq (uF ?_ (by size_fits));refine aq (m:=firstArgMember _ _) (wpAny_of_eq (a:=lL) (by first|rfl|(simp only[firstArgMember];rfl)) ?_);refine uF ?_ (by size_fits);simp only[raiseNew];refine aq (wpAny_handled ?_);rw[show A.in1.handled=none from hh];refine aq (aO (wpAny_throw ?_));refine aq (P9 (T:="StopIteration") (b:=true) ⟨_,cG _ rfl,rfl⟩ Qp ?_);exact aO (hQ _ (((qY ..).extBut.push _).push _))
end
theorem Cu{κ:Type}{kvs:List (κ×V)}{vs:List (κ×ab)}(h:KV kvs vs):∀{i:Nat} {k:κ} {v:V},kvs[i]? =some (k,v)->∃u,vs[i]? =some (k,u)/\RelV v u:=by
 unfold KV at h
 induction h with
 |nil=>intro i k v e;simp at e
 | @cons a b l₁ l₂ r t ih=>
  intro i k v e
  cases i with
  |zero=>
   simp only[Pj,uC] at e
   subst e
   refine⟨b.2,?_,r.2⟩
   simp only[Pj]
   exact congrArg some (Prod.ext r.1.symm rfl)
  |succ j=>
   simp only[aeD] at e ⊢
   exact ih e
theorem TB{α β:Type}{G:α->β->Prop}{l₁:List α}{l₂:List β}(h:uY G l₁ l₂):∀{i:Nat} {a:α},l₁[i]? =some a->∃b,l₂[i]? =some b/\G a b:=by
 induction h with
 |nil=>intro i a e;simp at e
 | @cons a b l₁ l₂ r t ih=>
  intro i a' e
  cases i with
  |zero=>
   simp only[Pj,uC] at e
   subst e
   exact⟨b,rfl,r⟩
  |succ j=>
   simp only[aeD] at e ⊢
   exact ih e
theorem Ke{k:Key}{u:ab}(h:lN k u=true):RelV (kV k) u:=by
 rcases kr h with⟨i,t,rfl,rfl⟩|⟨x,t,rfl,rfl⟩
 ·exact⟨t,rfl⟩
 ·exact⟨t,rfl⟩
section
variable{X:Cx}{pins:List (aa×Obj)}{σ:St}{H:Hp}{s:ak}{d:aa}{o:Obj}
theorem Inv.nr{kvs:List (Key×V)}(I:Inv X pins σ H s)(h:H d=some (.bF o (.dK kvs))):
  (d==sysModules)=false/\s.heap.get? d=some o/\o.ExactDict/\∃(es:Array iC) (ep:Nat) (vs:List (Key×ab)),o.data= .dict es ep/\es.size=kvs.length/\KV kvs vs/\s.heap.DictAt (fg X.prog X.w) d vs ep:=by
 obtain⟨hd,z,hs,vs,kv,o',es,ep,ho,hx,dg,r⟩:=I.az d _ h;rw[hd] at ho;cases ho;refine⟨hs,hd,hx,es,ep,vs,dg,?_,kv,o,es,hd,hx,dg,r⟩;have l1:=r.2.1.length;have l2:kvs.length=vs.length:=lJ kv;rw[mJ] at l1;omega
theorem Inv.Cv{kvs:List (List Key×V)}(I:Inv X pins σ H s)(h:H d=some (.bF o (.dT kvs))):
  (d==sysModules)=false/\s.heap.get? d=some o/\o.ExactDict/\∃(es:Array iC) (ep:Nat),o.data= .dict es ep/\es.size=kvs.length/\
   ∀(i:Nat) (k:List Key) (v:V),kvs[i]? =some (k,v)->∃(en:iC) (q:aa),es[i]? =some en/\en.key= .ref q/\H q=some (.tup (k.map kV)):=by
 obtain⟨hd,z,hs,xs,pr,o',es,ep,ho,hx,dg,he,_⟩:=I.az d _ h;rw[hd] at ho;cases ho;refine⟨hs,hd,hx,es,ep,dg,?_,fun i k v e=> ?_⟩
 ·have l1:es.size=xs.length:=size_of_entries he;have l2:kvs.length=xs.length:=lJ pr;omega
 ·obtain⟨b,hb,e1,e2,_⟩:=TB pr e;have q:=entry_at he i;rw[hb] at q;exact⟨_,b.2.1,q,rfl,e2⟩
end
def sd(d:aa)(o:Obj)(kvs:List (Key×V)):It:=
 ⟨fun i H=>H d=some (.bF o (.dK kvs))/\i<kvs.length,fun i H x H'=>H'=H/\∃k v,kvs[i]? =some (k,v)/\x=kV k,fun i H=>H d=some (.bF o (.dK kvs))/\kvs.length<=i⟩
def Kf(d:aa)(o:Obj)(kvs:List (List Key×V)):It:=
 ⟨fun i H=>H d=some (.bF o (.dT kvs))/\i<kvs.length,fun i H x H'=>H'=H/\∃(k:List Key) (v:V) (q:aa),kvs[i]? =some (k,v)/\x= .ref q/\H q=some (.tup (k.map kV)),fun i H=>H d=some (.bF o (.dT kvs))/\kvs.length<=i⟩
def kH(d:aa)(o:Obj)(kvs:List (Key×V)):It:=
 ⟨fun i H=>H d=some (.bF o (.dK kvs))/\i<kvs.length,fun i H x H'=>H'=H/\∃k,kvs[i]? =some (k,x),fun i H=>H d=some (.bF o (.dK kvs))/\kvs.length<=i⟩
def Cw(d:aa)(o:Obj)(kvs:List (Key×V)):It:=
 ⟨fun i H=>H d=some (.bF o (.dK kvs))/\i<kvs.length,fun i H x H'=>∃T k v,kvs[i]? =some (k,v)/\x= .ref T/\H T=none/\H'=upd H T (.tup [kV k,v]),fun i H=>H d=some (.bF o (.dK kvs))/\kvs.length<=i⟩
theorem oX{o:Obj}{es es':Array iC}{ep ep':Nat}(h:o.data= .dict es ep)(h':o.data= .dict es' ep'):es'=es/\ep'=ep:=by
 rw[h] at h';cases h';exact⟨rfl,rfl⟩
section
variable{P:bg}{w:aW}{K:aC}{tg:aG}{d:aa}{o:Obj}{es:Array iC}{ep:Nat}
theorem TC{kvs:List (Key×V)}(it:aa)(fj:o.data= .dict es ep):Turn P w K tg (sd d o kvs) [it] it (fun i h=>h.IsKeyIter it d i kvs.length ep) where
 mem:=by simp
 obj:=fun i h st b hb=>by
  have e:b=it:=by simpa using hb
  subst e;obtain⟨oi,e,c,dd⟩:=st;exact⟨oi,e,fun v z=>by rw[dd] at z;cases z⟩
 keep:=fun i h h' st k=>st.at fun oi e=>k it (by simp) oi e
 item:=by
  intro X hP hw hK hc i pins s σ H E I hf st hg;subst hP hw hK;obtain⟨hd,hi⟩:=hg;obtain⟨f0,f1,f2,f3,f4,f5⟩:=hf it (by simp);obtain⟨hs,gU,hx,es',ep',vs,dg,hsz,kv,hm⟩:=I.nr hd;obtain⟨rfl,rfl⟩:=oX fj dg;obtain⟨⟨k,v⟩,jq⟩:∃p,kvs[i]? =some p:=⟨kvs[i],cE hi⟩;obtain⟨u,hu,ru⟩:=Cu kv jq;have hl:kvs.length=vs.length:=lJ kv;rw[hl] at st;refine wpAny_pyNext_dict_item st hm hu fun key h' jm st' sb=> ?_;have I1:Inv X pins σ H {s with heap:=h'}:=I.turned (t':=s.toks) (fun b ob hb e=>(sb.2 b hb).trans e) f0 f1 f3 f4 f5;obtain⟨oi,e,c,dd⟩:=id st';refine⟨key,rfl,vh (s:={s with heap:=h'}) e c dd (by decide) ⟨kV k,H,I1,Ke (show lN k key=true from jm),⟨rfl,k,v,jq,rfl⟩,?_,fun b hb=>(hf b hb).1⟩⟩;show h'.IsKeyIter it d (i+1) kvs.length _;rw[hl];exact st'
 done:=by
  intro X hP hw hK hc i pins s σ H E I hf st hg;subst hP hw hK;obtain⟨hd,hi⟩:=hg;obtain⟨f0,f1,f2,f3,f4,f5⟩:=hf it (by simp);obtain⟨hs,gU,hx,es',ep',vs,dg,hsz,kv,hm⟩:=I.nr hd;obtain⟨rfl,rfl⟩:=oX fj dg;exact Kd (I.ok.hd hc) st gU dg hsz hi fun h' eb=>⟨rfl,I.turned (t':=s.toks) (fun b ob hb e=>eb b ob hb e) f0 f1 f3 f4 f5⟩
 self:=fun A i s Q E st h=>wpAny_pyIter_keyiter st h
theorem TH{kvs:List (List Key×V)}(it:aa)(fj:o.data= .dict es ep):Turn P w K tg (Kf d o kvs) [it] it (fun i h=>h.IsKeyIter it d i kvs.length ep) where
 mem:=by simp
 obj:=fun i h st b hb=>by
  have e:b=it:=by simpa using hb
  subst e;obtain⟨oi,e,c,dd⟩:=st;exact⟨oi,e,fun v z=>by rw[dd] at z;cases z⟩
 keep:=fun i h h' st k=>st.at fun oi e=>k it (by simp) oi e
 item:=by
  intro X hP hw hK hc i pins s σ H E I hf st hg;subst hP hw hK;obtain⟨hd,hi⟩:=hg;obtain⟨f0,f1,f2,f3,f4,f5⟩:=hf it (by simp);obtain⟨hs,gU,hx,es',ep',dg,hsz,ent⟩:=I.Cv hd;obtain⟨rfl,rfl⟩:=oX fj dg;obtain⟨⟨k,v⟩,jq⟩:∃p,kvs[i]? =some p:=⟨kvs[i],cE hi⟩;obtain⟨en,q,Ct,jm,hq⟩:=ent i k v jq;refine Tw st gU dg hsz Ct fun h' st' sb=> ?_;have I1:Inv X pins σ H {s with heap:=h'}:=I.turned (t':=s.toks) (fun b ob hb e=>(sb.2 b hb).trans e) f0 f1 f3 f4 f5;obtain⟨oi,e,c,dd⟩:=id st';exact⟨en.key,rfl,vh (s:={s with heap:=h'}) e c dd (by decide) ⟨.ref q,H,I1,jm,⟨rfl,k,v,q,jq,rfl,hq⟩,st',fun b hb=>(hf b hb).1⟩⟩
 done:=by
  intro X hP hw hK hc i pins s σ H E I hf st hg;subst hP hw hK;obtain⟨hd,hi⟩:=hg;obtain⟨f0,f1,f2,f3,f4,f5⟩:=hf it (by simp);obtain⟨hs,gU,hx,es',ep',dg,hsz,ent⟩:=I.Cv hd;obtain⟨rfl,rfl⟩:=oX fj dg;exact Kd (I.ok.hd hc) st gU dg hsz hi fun h' eb=>⟨rfl,I.turned (t':=s.toks) (fun b ob hb e=>eb b ob hb e) f0 f1 f3 f4 f5⟩
 self:=fun A i s Q E st h=>by
  refine wpAny_pyIter_slot st.typeIs F.slot_dict_keyiterator_iter (mM F.slot_dict_keyiterator_iter st.typeIs F.entry_dict_keyiterator_iter ?_ (F.args_dict_keyiterator_iter_1 _));show wpAny _ _ (ret (.ref it)) _ _ s;exact aO ⟨_,rfl,"dict_keyiterator",_,st.typeIs,F.slot_dict_keyiterator_next.lookup,h⟩
theorem TJ{kvs:List (Key×V)}(it:aa)(fj:o.data= .dict es ep):Turn P w K tg (kH d o kvs) [it] it (fun i h=>h.IsValIter it d i kvs.length ep) where
 mem:=by simp
 obj:=fun i h st b hb=>by
  have e:b=it:=by simpa using hb
  subst e;obtain⟨oi,e,c,dd⟩:=st;exact⟨oi,e,fun v z=>by rw[dd] at z;cases z⟩
 keep:=fun i h h' st k=>st.at fun oi e=>k it (by simp) oi e
 item:=by
  intro X hP hw hK hc i pins s σ H E I hf st hg;subst hP hw hK;obtain⟨hd,hi⟩:=hg;obtain⟨f0,f1,f2,f3,f4,f5⟩:=hf it (by simp);obtain⟨hs,gU,hx,es',ep',vs,dg,hsz,kv,hm⟩:=I.nr hd;obtain⟨rfl,rfl⟩:=oX fj dg;obtain⟨⟨k,v⟩,jq⟩:∃p,kvs[i]? =some p:=⟨kvs[i],cE hi⟩;obtain⟨u,hu,ru⟩:=Cu kv jq;have hl:kvs.length=vs.length:=lJ kv;rw[hl] at st;refine wpAny_pyNext_values_item st hm hu fun h' st' sb=> ?_;have I1:Inv X pins σ H {s with heap:=h'}:=I.turned (t':=s.toks) (fun b ob hb e=>(sb.2 b hb).trans e) f0 f1 f3 f4 f5;obtain⟨oi,e,c,dd⟩:=id st';refine⟨u,rfl,vh (s:={s with heap:=h'}) e c dd (by decide) ⟨v,H,I1,ru,⟨rfl,k,jq⟩,?_,fun b hb=>(hf b hb).1⟩⟩;show h'.IsValIter it d (i+1) kvs.length _;rw[hl];exact st'
 done:=by
  intro X hP hw hK hc i pins s σ H E I hf st hg;subst hP hw hK;obtain⟨hd,hi⟩:=hg;obtain⟨f0,f1,f2,f3,f4,f5⟩:=hf it (by simp);obtain⟨hs,gU,hx,es',ep',vs,dg,hsz,kv,hm⟩:=I.nr hd;obtain⟨rfl,rfl⟩:=oX fj dg;have hl:kvs.length=vs.length:=lJ kv;rw[hl] at st;exact wpAny_pyNext_values_end (I.ok.hd hc) st hm (jG (by omega)) fun h' eb=>⟨rfl,I.turned (t':=s.toks) (fun b ob hb e=>eb b ob hb e) f0 f1 f3 f4 f5⟩
 self:=fun A i s Q E st h=>wpAny_pyIter_valiter st h
theorem TM{kvs:List (Key×V)}{elts:List aG}{kk:Nat}{dP:Pos}(it:aa)(fj:o.data= .dict es ep):
  Turn P w K (.Tuple elts kk dP) (Cw d o kvs) [it] it (fun i h=>∃ok ov,IsItemIter h it d i kvs.length ep ok ov) where
 mem:=by simp
 obj:=fun i h st b hb=>by
  have e:b=it:=by simpa using hb
  subst e;obtain⟨ok,ov,e⟩:=st;exact⟨_,e,fun v z=>nomatch z⟩
 keep:=fun i h h' st k=>let ⟨ok,ov,e⟩:=st;⟨ok,ov,k it (by simp) _ e⟩
 item:=by
  intro X hP hw hK hc i pins s σ H E I hf st hg;subst hP hw hK;obtain⟨hd,hi⟩:=hg;obtain⟨hs,gU,hx,es',ep',vs,dg,hsz,kv,hm⟩:=I.nr hd;obtain⟨rfl,rfl⟩:=oX fj dg;obtain⟨⟨k,v⟩,jq⟩:∃p,kvs[i]? =some p:=⟨kvs[i],cE hi⟩;obtain⟨u,hu,ru⟩:=Cu kv jq;have hl:kvs.length=vs.length:=lJ kv;obtain⟨ok,ov,he⟩:=st;rw[hl] at he;have aY:it<s.heap.objs.size:=br he;refine wpAny_pyNext_items_item he hm hu fun key h' jm ho hT hz hk=> ?_;refine⟨_,rfl,wpAny_letOwnedTupleGo_items (s:={s with heap:=h'}) ho fun h'' he' sb=> ?_⟩;have nu:h''.get? s.heap.objs.size=some {cls:= .type "tuple",data:= .seq #[key,u]}:=(sb.2 _ (jh aY)).trans hT;have new:de X.prog X.w (upd H s.heap.objs.size (.tup [kV k,v])) h'' s.heap.objs.size (.tup [kV k,v]):=
   ⟨by show 2<=sizeLine;decide,[key,u],.cons (Ke (show lN k key=true from jm)) (.cons ru .nil),⟨_,nu,rfl,_,rfl⟩⟩
  have I1:Inv X pins σ (upd H s.heap.objs.size (.tup [kV k,v])) {s with heap:=h''}:=
   I.vH (t':=s.toks) (ch:=[it]) (fun b ob hb e=>(sb.2 b (by simpa using hb)).trans (hk b ob (by simpa using hb) e)) hf (aI _) new
  refine⟨.ref s.heap.objs.size,_,I1,rfl,⟨_,k,v,jq,rfl,I.az.fresh (aI _),rfl⟩,⟨key,u,?_⟩,fun b hb=> ?_⟩
  ·rw[hl];exact he'
  ·have e:b=it:=by simpa using hb
   rw[e,ag (cW aY)];exact(hf it (by simp)).1
 done:=by
  intro X hP hw hK hc i pins s σ H E I hf st hg;subst hP hw hK;obtain⟨hd,hi⟩:=hg;obtain⟨f0,f1,f2,f3,f4,f5⟩:=hf it (by simp);obtain⟨hs,gU,hx,es',ep',vs,dg,hsz,kv,hm⟩:=I.nr hd;obtain⟨rfl,rfl⟩:=oX fj dg;have hl:kvs.length=vs.length:=lJ kv;obtain⟨ok,ov,he⟩:=st;rw[hl] at he;exact wpAny_pyNext_items_end (I.ok.hd hc) he hm (jG (by omega)) fun h' eb=>⟨rfl,I.turned (t':=s.toks) (fun b ob hb e=>eb b ob hb e) f0 f1 f3 f4 f5⟩
 self:=fun A i s Q E st h=>let ⟨_,_,e⟩:=st;PySem.W.kcp_self e h
end
def TN(td:TE):TI:=fun σ H R=>td σ H fun x H1=>∃d o,x= .ref d/\((∃kvs,H1 d=some (.bF o (.dK kvs))/\R (sd d o kvs) H1)\/∃kvs,H1 d=some (.bF o (.dT kvs))/\R (Kf d o kvs) H1)
def TQ(td:TE):TI:=fun σ H R=>td σ H fun x H1=>∃d o kvs,x= .ref d/\H1 d=some (.bF o (.dK kvs))/\R (kH d o kvs) H1
def TR(td:TE):TI:=fun σ H R=>td σ H fun x H1=>∃d o kvs,x= .ref d/\H1 d=some (.bF o (.dK kvs))/\R (Cw d o kvs) H1
section
variable{X:Cx}{tg e:aG}{td:TE}{apos d4:Pos}
theorem TU(he:PE X e td):PI X tg e (TN td):=by
 intro pins s σ H R I h;refine aH (he pins s σ H _ I h) fun u s1 ⟨x,H1,I1,rx,d,o,ex,q⟩=> ?_;subst ex;obtain rfl:u=cO d:=rx;rcases q with⟨kvs,hd,q⟩|⟨kvs,hd,q⟩
 ·obtain⟨hs,gU,hx,es,ep,vs,dg,hsz,kv,hm⟩:=I1.nr hd;refine Kb hs gU hx dg (yJ (tk:=s1.toks) I1 _ (TC _ dg) ⟨_,cG _ rfl,rfl,?_⟩ q);rw[hsz]<;>rfl
 ·obtain⟨hs,gU,hx,es,ep,dg,hsz,ent⟩:=I1.Cv hd;refine Kb hs gU hx dg (yJ (tk:=s1.toks) I1 _ (TH _ dg) ⟨_,cG _ rfl,rfl,?_⟩ q);rw[hsz]<;>rfl
theorem Cy(he:PE X e td)(vw:attributeBase e "values" X.env (eval e X.env)=eval e X.env:=by rfl)(vx:(apos.endLine==d4.line)=true:=by rfl):PI X tg (.Call (.Attribute e "values" apos) [] [] d4) (TQ td):=by
 intro pins s σ H R I h;refine P1 (T:="dict") (id:="dict.values") vw rfl vx F.plainAttrs_dict F.slot_dict_values F.type_dict_values (aH (he pins s σ H _ I h) fun u s1 ⟨x,H1,I1,rx,d,o,kvs,ex,hd,q⟩=> ?_);subst ex;obtain rfl:u=cO d:=rx;obtain⟨hs,gU,hx,es,ep,vs,dg,hsz,kv,hm⟩:=I1.nr hd;have hl:kvs.length=vs.length:=lJ kv;refine⟨hm.dictOf.typeIs,hm.dictOf.mapOf.noDict,?_⟩;have I2:Inv X pins σ H1 {s1 with heap:=s1.heap.push {cls:= .type "dict_values",data:= .fields #[.ref d]}}:=I1.kept (t':=s1.toks) fun b ob q=>cx _ q;have fin:wpAny (model X.prog X.w) X.A (pyIter (.ref s1.heap.objs.size)) (vg X pins σ tg R) X.xe {s1 with heap:=s1.heap.push {cls:= .type "dict_values",data:= .fields #[.ref d]}}:=by
  refine wpAny_pyIter_values (d:=d) (knd:=fg X.prog X.w) ⟨_,cG _ rfl,rfl,rfl⟩ (hm.push _) (yJ (tk:=s1.toks) I2 _ (TJ _ dg) ⟨_,cG _ rfl,rfl,?_⟩ q);rw[hl]<;>rfl
 show wpAny _ _ (callWith d4 (.builtin "dict.values") [.ref d] [] []) _ X.xe s1;exact method_meetsIn F.slot_dict_values F.entry_dict_values rfl (aeJ ⟨rfl,hm.dictOf.typeIs,F.args_dict_values_1 _,_,meets_dict_values (fg X.prog X.w) d hs,⟨vs,hm.dictOf⟩,fin⟩)
theorem TV{elts:List aG}{kk:Nat}{dP:Pos}(he:PE X e td)(vw:attributeBase e "items" X.env (eval e X.env)=eval e X.env:=by rfl)(vx:(apos.endLine==d4.line)=true:=by rfl):
  PI X (.Tuple elts kk dP) (.Call (.Attribute e "items" apos) [] [] d4) (TR td):=by
 intro pins s σ H R I h;refine P1 (T:="dict") (id:="dict.items") vw rfl vx F.plainAttrs_dict F.slot_dict_items F.type_dict_items (aH (he pins s σ H _ I h) fun u s1 ⟨x,H1,I1,rx,d,o,kvs,ex,hd,q⟩=> ?_);subst ex;obtain rfl:u=cO d:=rx;obtain⟨hs,gU,hx,es,ep,vs,dg,hsz,kv,hm⟩:=I1.nr hd;have hl:kvs.length=vs.length:=lJ kv;refine⟨hm.dictOf.typeIs,hm.dictOf.mapOf.noDict,?_⟩;have I2:Inv X pins σ H1 {s1 with heap:=s1.heap.push {cls:= .type "dict_items",data:= .fields #[.ref d]}}:=I1.kept (t':=s1.toks) fun b ob q=>cx _ q;have fin:wpAny (model X.prog X.w) X.A (pyIter (.ref s1.heap.objs.size)) (vg X pins σ (.Tuple elts kk dP) R) X.xe {s1 with heap:=s1.heap.push {cls:= .type "dict_items",data:= .fields #[.ref d]}}:=by
  refine wpAny_pyIter_items (d:=d) (knd:=fg X.prog X.w) ⟨_,cG _ rfl,rfl,rfl⟩ (hm.push _) (yJ (tk:=s1.toks) I2 _ (TM _ dg) ⟨.none,.none,?_⟩ q);rw[hl];exact cG _ rfl
 show wpAny _ _ (callWith d4 (.builtin "dict.items") [.ref d] [] []) _ X.xe s1;exact method_meetsIn F.slot_dict_items F.entry_dict_items rfl (aeJ ⟨rfl,hm.dictOf.typeIs,F.args_dict_items_1 _,_,meets_dict_items (fg X.prog X.w) d hs,⟨vs,hm.dictOf⟩,fin⟩)
end
def se(K:aC)(a:aa):It:=
 ⟨fun i H=>∃(xs:List V) (x:V),ah K H a xs/\xs[i]? =some x,fun i H v H'=>∃T x,v= .ref T/\H T=none/\H'=upd H T (.tup [.int (i:Nat),x])/\∀xs,ah K H a xs->xs[i]? =some x,fun i H=>∃xs:List V,ah K H a xs/\xs.length<=i⟩
theorem TX{P:bg}{w:aW}{K:aC}{elts:List aG}{kk:Nat}{dP:Pos}(a e it:aa):
  Turn P w K (.Tuple elts kk dP) (se K a) [e,it] e (fun i h=>(∃old,IsEnum h e it ((i:Nat):Int) old)/\h.IsListIter it a i/\e≠it) where
 mem:=by simp
 obj:=fun i h st b hb=>by
  obtain⟨⟨old,he⟩,⟨o,ho,hc,hd⟩,_⟩:=st;have e':b=e\/b=it:=by simpa using hb
  rcases e' with z|z
  ·rw[z];exact⟨_,he,fun v q=>nomatch q⟩
  ·rw[z];exact⟨o,ho,fun v q=>by rw[hd] at q;cases q⟩
 keep:=fun i h h' st k=>let ⟨⟨old,he⟩,hi,cw⟩:=st;⟨⟨old,k e (by simp) _ he⟩,hi.at fun o q=>k it (by simp) o q,cw⟩
 item:=by
  intro X hP hw hK hc i pins s σ H E I hf st hg;subst hP hw hK;obtain⟨⟨old,he⟩,hit,cw⟩:=st;obtain⟨xs,x,hq,hx⟩:=hg;obtain⟨aj,rv,p,hz⟩:=I.list hq;obtain⟨u,hu,ru⟩:=rv.get hx;have Kg:e<s.heap.objs.size:=br he;have oY:it<s.heap.objs.size:=by obtain⟨_,q,_⟩:=hit;exact br q
  refine wpAny_pyNext_enum_item he hit p.isList (x:=u) (by simpa using hu) cw fun h' ho yK hT hsz hk=> ?_;refine⟨_,rfl,wpAny_letOwnedTupleGo_enum (s:={s with heap:=h',toks:=s.toks+1}) ho fun h'' he' sb=> ?_⟩;have nu:h''.get? s.heap.objs.size=some {cls:= .type "tuple",data:= .seq #[.int i s.toks,u]}:=(sb.2 _ (jh Kg)).trans hT;have new:de X.prog X.w (upd H s.heap.objs.size (.tup [.int (i:Nat),x])) h'' s.heap.objs.size (.tup [.int (i:Nat),x]):=
   ⟨by show 2<=sizeLine;decide,[.int i s.toks,u],.cons ⟨_,rfl⟩ (.cons ru .nil),⟨_,nu,rfl,_,rfl⟩⟩
  have I1:Inv X pins σ (upd H s.heap.objs.size (.tup [.int (i:Nat),x])) {s with heap:=h'',toks:=s.toks+1}:=
   I.vH (ch:=[e,it]) (fun b ob hb q=>(sb.2 b (fun z=>hb (by simp[z]))).trans (hk b ob (fun z=>hb (by simp[z])) (fun z=>hb (by simp[z])) q)) hf (aI _) new
  refine⟨.ref s.heap.objs.size,_,I1,rfl,⟨_,x,rfl,I.az.fresh (aI _),rfl,fun ys hy=>by rw[I.oO hy hq];exact hx⟩,⟨⟨u,?_⟩,yK.at fun o q=>(sb.2 it (d7 cw)).trans q,cw⟩,fun b hb=> ?_⟩
  ·have e1:((i+1:Nat):Int)=(i:Int)+1:=by omega
   rw[e1];exact he'
  ·have hb':b<s.heap.objs.size:=by
    have e':b=e\/b=it:=by simpa using hb
    rcases e' with z|z
    ·rw[z];exact Kg
    ·rw[z];exact oY
   rw[ag (cW hb')];exact(hf b hb).1
 done:=by
  intro X hP hw hK hc i pins s σ H E I hf st hg;subst hP hw hK;obtain⟨⟨old,he⟩,hit,cw⟩:=st;obtain⟨xs,hq,hx⟩:=hg;obtain⟨aj,rv,p,hz⟩:=I.list hq;obtain⟨f0,f1,f2,f3,f4,f5⟩:=hf it (by simp);have hl:=rv.length;exact wpAny_pyNext_enum_end (I.ok.hd hc) he hit p.isList (by simp;omega) fun h' eb=>⟨rfl,I.turned (t':=s.toks) (fun b o hb q=>eb b o hb q) f0 f1 f3 f4 f5⟩
 self:=fun A i s Q E st h=>let ⟨⟨_,he⟩,_⟩:=st;wpAny_pyIter_enum he h
def Kh(K:aC)(ta:TA):TI:=fun σ H R=>ta σ H fun vs H1=>∃a xs,vs=[.ref a]/\ah K H1 a xs/\R (se K a) H1
theorem TY{X:Cx}{e:aG}{ta:TA}{p pos dP:Pos}{elts:List aG}{kk:Nat}(hg:Gl X "enumerate")(hm:X.mg "enumerate"=none)(ha:PA X [e] ta)(hs:starEach [e] X.env=[(false,eval e X.env)]:=by rfl):
  PI X (.Tuple elts kk dP) (.Call (.Name "enumerate" p) [e] [] pos) (Kh X.K ta):=by
 intro pins s σ H R I h;refine Call_ (kD I hg hm boot_enumerate (qU (aH (ha pos pins s σ H _ I h) fun us s1 ⟨vs,H1,I1,r1,q1⟩=> ?_) hs rfl));obtain⟨a,xs,ex,hq,q⟩:=q1;subst ex;cases r1 with
 |cons r rr=>
  cases rr
  cases r
  obtain⟨aj,rv,p',hz⟩:=I1.list hq
  refine call_enumerate_list p'.isList fun h' he hit hsz hk=>wpAny_pyIter_enum he ?_
  have I2:Inv X pins σ H1 {s1 with heap:=h'}:=I1.kept (t':=s1.toks) hk
  refine⟨s1.heap.objs.size+1,[s1.heap.objs.size+1,s1.heap.objs.size],_,_,H1,rfl,I2,TX a (s1.heap.objs.size+1) s1.heap.objs.size,⟨⟨.none,he⟩,hit,Nat.succ_ne_self _⟩,fun b hb=> ?_,q⟩
  have e':b=s1.heap.objs.size+1\/b=s1.heap.objs.size:=by simpa using hb
  have hle:s1.heap.objs.size<=b:=by
   rcases e' with z|z
   ·rw[z];exact jH _ _
   ·rw[z];exact aI _
  exact I1.oT hle (I1.az.fresh hle)
theorem Cz:bootBuiltins "zip"=some (.type "zip"):=by decide+kernel
def yL(K:aC)(a b:aa):It:=
 ⟨fun i H=>∃(xs ys:List V) (x y:V),ah K H a xs/\ah K H b ys/\xs[i]? =some x/\ys[i]? =some y,
  fun i H v H'=>∃T x y,v= .ref T/\H T=none/\H'=upd H T (.tup [x,y])/\(∀xs,ah K H a xs->xs[i]? =some x)/\∀ys,ah K H b ys->ys[i]? =some y,
  fun i H=>∃xs ys:List V,ah K H a xs/\ah K H b ys/\(xs.length<=i\/ys.length<=i)⟩
theorem TZ{P:bg}{w:aW}{K:aC}{elts:List aG}{kk:Nat}{dP:Pos}{a b z TI TO i1 i2:aa}(D:ZipApart z TI TO i1 i2 a b):
  Turn P w K (.Tuple elts kk dP) (yL K a b) [z,TI,TO,i1,i2] z (fun i h=>eK h z TI TO .none/\gR h TI (.ref i1) (.ref i2)/\(∃x y,gR h TO x y)/\h.IsListIter i1 a i/\h.IsListIter i2 b i) where
 mem:=by simp
 obj:=fun i h st c hc=>by
  obtain⟨hz,c6,⟨x,y,dE⟩,⟨o1,e1,_,d1⟩,⟨o2,e2,_,d2⟩⟩:=st;have e':c=z\/c=TI\/c=TO\/c=i1\/c=i2:=by simpa using hc
  rcases e' with q|q|q|q|q
  ·rw[q];exact⟨_,hz,fun v q=>nomatch q⟩
  ·rw[q];exact⟨_,c6,fun v q=>nomatch q⟩
  ·rw[q];exact⟨_,dE,fun v q=>nomatch q⟩
  ·rw[q];exact⟨o1,e1,fun v q=>by rw[d1] at q;cases q⟩
  ·rw[q];exact⟨o2,e2,fun v q=>by rw[d2] at q;cases q⟩
 keep:=fun i h h' st k=>by
  obtain⟨hz,c6,⟨x,y,dE⟩,h1,h2⟩:=st;exact⟨k z (by simp) _ hz,k TI (by simp) _ c6,⟨x,y,k TO (by simp) _ dE⟩,h1.at fun o q=>k i1 (by simp) o q,h2.at fun o q=>k i2 (by simp) o q⟩
 item:=by
  intro X hP hw hK hc i pins s σ H E I hf st hg;subst hP hw hK;obtain⟨hz,c6,⟨x0,y0,dE⟩,h1,h2⟩:=st;obtain⟨xs,ys,x,y,fM,gk,hx,hy⟩:=hg;obtain⟨aj,rv,p,_⟩:=I.list fM;obtain⟨fi,rv2,p2,_⟩:=I.list gk;obtain⟨u,hu,ru⟩:=rv.get hx;obtain⟨u2,md,ru2⟩:=rv2.get hy;have oZ:z<s.heap.objs.size:=br hz;refine wpAny_pyNext_zip_item D hz c6 dE h1 h2 p.isList p2.isList (x:=u) (y:=u2) (by simpa using hu) (by simpa using md) fun h' z' TO' h1' h2' hT hsz hk=> ?_;refine⟨_,rfl,Pk (s:={s with heap:=h'}) z' fun h'' z'' sb=> ?_⟩;have nu:h''.get? s.heap.objs.size=some {cls:= .type "tuple",data:= .seq #[u,u2]}:=(sb.2 _ (jh oZ)).trans hT;have new:de X.prog X.w (upd H s.heap.objs.size (.tup [x,y])) h'' s.heap.objs.size (.tup [x,y]):=
   ⟨by show 2<=sizeLine;decide,[u,u2],.cons ru (.cons ru2 .nil),⟨_,nu,rfl,_,rfl⟩⟩
  have I1:Inv X pins σ (upd H s.heap.objs.size (.tup [x,y])) {s with heap:=h''}:=
   I.vH (t':=s.toks) (ch:=[z,TI,TO,i1,i2]) (fun c o hb q=>(sb.2 c (fun q'=>hb (by simp[q']))).trans (hk c o (fun q'=>hb (by simp[q'])) (fun q'=>hb (by simp[q'])) (fun q'=>hb (by simp[q'])) (fun q'=>hb (by simp[q'])) q)) hf (aI _) new
  refine⟨.ref s.heap.objs.size,_,I1,rfl,⟨_,x,y,rfl,I.az.fresh (aI _),rfl,fun l hl=>by rw[I.oO hl fM];exact hx,fun l hl=>by rw[I.oO hl gk];exact hy⟩,⟨z'',?_,⟨u,u2,?_⟩,?_,?_⟩,fun c eA=> ?_⟩
  ·exact(sb.2 _ D.TIz).trans (hk _ _ D.TIz D.TITO D.TIi1 D.TIi2 c6)
  ·exact(sb.2 _ D.TOz).trans TO'
  ·exact h1'.at fun o q=>(sb.2 _ D.i1z).trans q
  ·exact h2'.at fun o q=>(sb.2 _ D.i2z).trans q
  ·have aY:c<s.heap.objs.size:=by
    have e':c=z\/c=TI\/c=TO\/c=i1\/c=i2:=by simpa using eA
    rcases e' with q|q|q|q|q
    ·rw[q];exact oZ
    ·rw[q];exact br c6
    ·rw[q];exact br dE
    ·rw[q];obtain⟨_,e1,_⟩:=h1;exact br e1
    ·rw[q];obtain⟨_,e2,_⟩:=h2;exact br e2
   rw[ag (cW aY)];exact(hf c eA).1
 done:=by
  intro X hP hw hK hc i pins s σ H E I hf st hg;subst hP hw hK;obtain⟨hz,c6,⟨x0,y0,dE⟩,h1,h2⟩:=st;obtain⟨xs,ys,fM,gk,sf⟩:=hg;obtain⟨aj,rv,p,_⟩:=I.list fM;obtain⟨fi,rv2,p2,_⟩:=I.list gk;have l1:=rv.length;have l2:=rv2.length;have he:aj.toArray[i]? =none\/fi.toArray[i]? =none:=by
   rcases sf with q|q
   ·exact .inl (by simp;omega)
   ·exact .inr (by simp;omega)
  exact wpAny_pyNext_zip_end (I.ok.hd hc) D hz c6 dE h1 h2 p.isList p2.isList he fun h' hk=>⟨rfl,I.Cr (t':=s.toks) (ch:=[z,TI,TO,i1,i2]) (fun c o hb q=>
   hk c o (fun q'=>hb (by simp[q'])) (fun q'=>hb (by simp[q'])) (fun q'=>hb (by simp[q'])) (fun q'=>hb (by simp[q'])) q) hf⟩
 self:=fun A i s Q E st h=>xP st.1 h
def Ki(K:aC)(ta:TA):TI:=fun σ H R=>ta σ H fun vs H1=>∃a b xs ys,vs=[.ref a,.ref b]/\ah K H1 a xs/\ah K H1 b ys/\R (yL K a b) H1
theorem T6{X:Cx}{e e2:aG}{ta:TA}{p pos dP:Pos}{elts:List aG}{kk:Nat}(hg:Gl X "zip")(hm:X.mg "zip"=none)(ha:PA X [e,e2] ta)
  (hs:starEach [e,e2] X.env=(false,eval e X.env)::starEach [e2] X.env:=by rfl) (cz:(backTo pos (starEach [e2] X.env)).any (·.1)=false:=by rfl):
  PI X (.Tuple elts kk dP) (.Call (.Name "zip" p) [e,e2] [] pos) (Ki X.K ta):=by
 intro pins s σ H R I h;refine Call_ (kD I hg hm Cz (qU (aH (ha pos pins s σ H _ I h) fun us s1 ⟨vs,H1,I1,r1,q1⟩=> ?_) hs cz));obtain⟨a,b,xs,ys,ex,fM,gk,q⟩:=q1;subst ex;cases r1 with
 |cons r rr=>
  cases rr with
  |cons r' rr=>
   cases rr
   cases r
   cases r'
   obtain⟨aj,rv,p1,_⟩:=I1.list fM
   obtain⟨fi,rv2,p2,_⟩:=I1.list gk
   have la:a<s1.heap.objs.size:=p1.lt
   have lb:b<s1.heap.objs.size:=p2.lt
   refine call_zip_2 p1.isList p2.isList fun h' hz c6 dE h1 h2 hsz hk=>xP hz ?_
   have I2:Inv X pins σ H1 {s1 with heap:=h'}:=I1.kept (t':=s1.toks) hk
   refine⟨s1.heap.objs.size+4,[s1.heap.objs.size+4,s1.heap.objs.size+2,s1.heap.objs.size+3,s1.heap.objs.size,s1.heap.objs.size+1],_,_,H1,rfl,I2,TZ (aeL s1.heap.objs.size a b la lb),⟨hz,c6,⟨_,_,dE⟩,h1,h2⟩,fun c eA=> ?_,q⟩
   have e':c=s1.heap.objs.size+4\/c=s1.heap.objs.size+2\/c=s1.heap.objs.size+3\/c=s1.heap.objs.size\/c=s1.heap.objs.size+1:=by simpa using eA
   have hle:s1.heap.objs.size<=c:=by
    rcases e' with z|z|z|z|z
    ·rw[z];exact jH _ _
    ·rw[z];exact jH _ _
    ·rw[z];exact jH _ _
    ·rw[z];exact aI _
    ·rw[z];exact jH _ _
   exact I1.oT hle (I1.az.fresh hle)
end L2
section
end
section
namespace TL
open PySem PySem.Builtin PySem.Builtin.Str PySem.StrLaws
end TL
end
namespace L2
open PySem PySem.Spec PyProof.Rows
end L2
namespace T8
open PySem PySem.W PySem.Calls PyProof.Rows
end T8
namespace L2
open PySem PySem.Spec PyProof.Rows
def inClass(s:aL)(j:Nat):aL:=match s with
 | .ClassDef _ _ _ body _ _ _ _ _ _ _=>body.getD j (.Pass ⟨0,0,0,0⟩)
 |_=> .Pass ⟨0,0,0,0⟩
def nv(s:aL):qc:=match s with
 | .FunctionDef _ a _ _ _ _ _ _ _ _=>a
 |_=>{posonlyargs:=[],args:=[],vararg:=none,kwonlyargs:=[],kw_defaults:=[],kwarg:=none,defaults:=[]}
def jr(s:aL):List aL:=match s with
 | .FunctionDef _ _ b _ _ _ _ _ _ _=>b
 |_=>[]
def aQ(s:aL):dY:=match s with
 | .FunctionDef _ _ _ _ _ _ sc _ _ _=>sc
 |_=>{kind:= .function,names:=[],isGenerator:=false,isCoroutine:=false}
abbrev aT:kG:=fun _ _ _ _ _ _=>False
abbrev E0:XK:=fun _ _ _=>False
theorem yM{X:Cx}:Passes aT X E0:=fun _ _ _ _ _ _ _ h=>h.elim
structure aR(K:aC)(x qual:Str)(st:aL)(f:aa)(fd:aU):Prop where
 ex:∃(oc:ab) (od:Option aa) (kV doc pm:ab) (an:Option aa) (aD ct:ab) (osl:Array (Option ab)),
  fd=mR x qual (nv st) (jr st) (aQ st) .none kV doc pm an aD ct/\K.lookup f=some ⟨oc,od,.func fd,osl⟩/\xR K aD qual=true
 kp:oE K (.ref f)=true
section
variable{P:bg}{w:aW}{K:aC}{mg:Str->Option ab}{base:aB}
theorem aR.ok{x qual:Str}{st:aL}{f:aa}{fd:aU}{N ps:List Str}{k:Nat}{sp:Sp}(F:aR K x qual st f fd)(S:a9 N ps (aQ st))(len:∀vs H Q E,sp vs H Q E->vs.length=ps.length)
  (oV:∀(aD:ab) (A:bY) (outer:List Env) (s:ak) (H:Hp) (vs:List V) (Q:VK) (E:XK),dw k (A.deeper (envOfC qual (aQ st) s.heap.objs.size f aD))->sp vs H Q E->
   ∃t,gT (m7 aT P w K mg base N qual (aQ st) f aD A outer s H E).oP (jr st) t/\t {nx:=fun _ H'=>Q .bc H',rt:=Q} (start N vs) H):aN P w K mg base aT (k+1) f fd ps sp:=by
 obtain⟨oc,od,kV,doc,pm,an,aD,ct,osl,rfl,lk,eU⟩:=F.ex;refine Ju lk eU S len fun A outer s H vs Q E hr iZ=> ?_;obtain⟨t,h,q⟩:=oV aD A outer s H vs Q E hr iZ;exact⟨t,h.oP,q⟩
theorem aR.binds{x qual:Str}{st:aL}{f:aa}{fd:aU}{ps:List Str}(F:aR K x qual st f fd)
  (h:∀(kV doc pm:ab) (an:Option aa) (aD ct:ab) (us:List ab),us.length=ps.length->bindArgs (mR x qual (nv st) (jr st) (aQ st) .none kV doc pm an aD ct) ⟨us,[]⟩=pure (ps.zip us)):Binds K fd ps []:=by
 obtain⟨oc,od,kV,doc,pm,an,aD,ct,osl,rfl,lk,eU⟩:=F.ex;exact .all (h kV doc pm an aD ct)
theorem sg{x qual:Str}{st:aL}{f:aa}{oc:ab}{od an:Option aa}{osl:Array (Option ab)}{kV doc pm aD ct:ab}(l:K.lookup f=some ⟨oc,od,.func (mR x qual (nv st) (jr st) (aQ st) .none kV doc pm an aD ct),osl⟩)
  (c:xR K aD qual=true) (k:oE K (.ref f)=true):aR K x qual st f (mR x qual (nv st) (jr st) (aQ st) .none kV doc pm an aD ct):=⟨⟨oc,od,kV,doc,pm,an,aD,ct,osl,rfl,l,c⟩,k⟩
end
theorem fk{A:bY}{k:Nat}(hr:dw k A):A.units+1<cLine:=HK (Nat.add_le_add_left (by decide:1<=64) _) hr.units
theorem eO{n:Nat}(h:n<=1000):n<sizeLine:=HK h (by decide)
section
variable{X:Cx}
theorem pv(i:Nat){x:Str}{pos:Pos}(hN:X.N[i]? =some x:=by rfl)(hv:rO X.env.scope x:=by first|exact Or.inl rfl|exact Or.inr (Or.inl rfl)|exact Or.inr (Or.inr rfl))(hd:(x==("__debug__":Str))=false:=by decide)
  (eU:(x==("__classdict__":Str))=false:=by decide):PE X (.Name x pos) (lT i):=QW hN hv hd eU
theorem Kj:fK X (.builtin "len") (fun xs H Q=>∃a kvs,xs=[V.ref a]/\H a=some (.dK kvs)/\Q (.int kvs.length) H):=by
 intro pins s σ H xs us Q I r h;obtain⟨a,kvs,rfl,ha,q⟩:=h;obtain⟨u,rfl,ru⟩:=vals1 r;cases ru;exact S9 I (.inl ha) fun t s' I'=>⟨.int kvs.length,H,I',⟨t,rfl⟩,q⟩
end
theorem ba{A B:Prop}(h:B):if false=true then A else B:=by
 rw[if_neg df];exact h
theorem a8{A B:Prop}(h:A):if true=true then A else B:=by
 rw[if_pos rfl];exact h
theorem dG{c A B:Prop}[Decidable c](h1:c->A)(h2:¬c->B):if c then A else B:=by
 by_cases h:c
 ·rw[if_pos h];exact h1 h
 ·rw[if_neg h];exact h2 h
def af(H H':Hp):Prop:=∀b o,H b=some o->H' b=some o
theorem af.refl(H:Hp):af H H:=fun _ _ h=>h
theorem af.trans{H H1 H2:Hp}(a:af H H1)(b:af H1 H2):af H H2:=fun c o h=>b c o (a c o h)
theorem af.seq{K:aC}{H H':Hp}{a:aa}{xs:List V}(e:af H H')(h:ah K H a xs):ah K H' a xs:=by
 rcases h with(h|⟨o,h⟩)|h
 ·exact .inl (.inl (e _ _ h))
 ·exact .inl (.inr ⟨o,e _ _ h⟩)
 ·exact .inr h
section
variable{κ:Type}[DecidableEq κ]
theorem T9{kvs:List (κ×V)}{k:κ}{v:V}(h:bW kvs k=some v):k∈kvs.map (·.1):=by
 have q:(kvs.any fun kv=>decide (kv.1=k))=true:=by
  rw[qt,h];all_goals rfl
 obtain⟨p,hp,e⟩:=List.any_eq_true.mp q;exact bh.mpr ⟨p,hp,of_decide_eq_true e⟩
theorem Kk:∀{l:List κ} {k:κ},l.Nodup->¬k∈l->(l++[k]).Nodup
 |[],k,_,_=>by simp
 |a::r,k,h,hk=>by
  obtain⟨h1,h2⟩:=jI.mp h;show(a::(r++[k])).Nodup;refine jI.mpr ⟨fun m=> ?_,Kk h2 fun m=>hk (b0.mpr (Or.inr m))⟩;rcases ff.mp m with q|q
  ·exact h1 q
  ·exact hk (b0.mpr (Or.inl (ik.mp q).symm))
end
theorem at_of{xs:List V}{z:Int}{j:Nat}{v:V}(e:z=(j:Int))(h:xs[j]? =some v):jS xs z=some v:=by
 rw[e];exact bL h
theorem vK{α:Type}{l:List α}(hN:l.Nodup){i j:Nat}{x:α}(a:l[i]? =some x)(b:l[j]? =some x):i=j:=by
 obtain⟨h1,e1⟩:=cJ.mp a;obtain⟨h2,e2⟩:=cJ.mp b;exact(HW hN).mp (e1.trans e2.symm)
theorem af.made{H H1:Hp}{x dx C:aa}(nx:H x=cu)(nd:H dx=cu)(k:∀b o,(upd (upd H dx (.own x)) x (.ins C dx [])) b=some o->b≠x->H1 b=some o):af H H1:=fun b o e=>
 k b o (by rw[ag (aV e nx),ag (aV e nd)];exact e) (aV e nx)
end L2
section
set_option maxHeartbeats 2000000
namespace L2
open PySem PySem.Spec PyProof.Rows
open PySem.W (WData Codec OpenSpec Well WellAll ReadsW ReadsAllW)
mutual
inductive Dw(K:aC)(H:Hp):V->eC->Prop
 |bc:Dw K H .bc .none
 |bl (b:Bool):Dw K H (.bl b) (.bool b)
 |int (i:Int):Dw K H (.int i) (.int i)
 |str (x:Str):Dw K H (.str x) (.str x)
 |fZ (b:Array UInt8):Dw K H (.fZ b) (.bytes b.toList)
 |lst {a:aa} {xs:List V} {ds:List eC}:ah K H a xs->iL K H xs ds->Dw K H (.ref a) (.list ds)
 |tup {a:aa} {xs:List V} {ds:List eC}:cH K H a xs->iL K H xs ds->Dw K H (.ref a) (.tuple ds)
inductive iL(K:aC)(H:Hp):List V->List eC->Prop
 |nil:iL K H [] []
 |cons {v:V} {vs:List V} {d:eC} {ds:List eC}:Dw K H v d->iL K H vs ds->iL K H (v::vs) (d::ds)
end
theorem Km{K:aC}{H:Hp}:∀ns:List Int,iL K H (ns.map V.int) (ns.map WData.int)
 |[]=> .nil
 |n::r=> .cons (.int n) (Km r)
theorem Kn{K:aC}{H:Hp}:∀(ns:List Int) (xs:List V),iL K H xs (ns.map WData.int)->xs=ns.map V.int
 |[],xs,h=>by
  cases h
  rfl
 |n::r,xs,h=>by
  cases h with
  |cons h1 h2=>
   cases h1
   rw[Kn r _ h2]<;>rfl
section
variable{P:bg}{w:aW}{K:aC}{H:Hp}{h:aB}{R:aeZ}{cl:Str->Option aa}
theorem Ua{a:aa}{xs:List V}(az:cS P w H h)(KX:K.In h)(q:ah K H a xs):∃(aj:List ab) (o:Obj) (n:Nat),Vals xs aj/\h.get? a=some o/\o.cls= .type "list"/\o.data= .seq aj.toArray n:=by
 rcases q with q|⟨o,aj,n,e,hc,_,hd,_,hv⟩
 ·obtain⟨_,aj,n,hv,e⟩:=(show de P w H h a (.lst xs) from q.ok az);exact⟨aj,_,n,hv,e,rfl,rfl⟩
 ·exact⟨aj.toList,o,n,hv,KX _ _ e,hc,by simp[hd]⟩
theorem Ub{a:aa}{xs:List V}(az:cS P w H h)(KX:K.In h)(q:cH K H a xs):∃(aj:List ab) (o:Obj) (n:Nat),Vals xs aj/\h.get? a=some o/\o.cls= .type "tuple"/\o.data= .seq aj.toArray n:=by
 rcases q with q|⟨o,aj,n,e,hc,hd,_,hv⟩
 ·obtain⟨_,aj,hv,o,e,hc,n,hd⟩:=(show de P w H h a (.tup xs) from q.ok az);exact⟨aj,o,n,hv,e,hc,hd⟩
 ·exact⟨aj.toList,o,n,hv,KX _ _ e,hc,by simp[hd]⟩
mutual
theorem Dw.reads(az:cS P w H h)(KX:K.In h):∀(d:eC) (v:V) (u:ab),Dw K H v d->RelV v u->∃as,ReadsW R cl h u d as
 | .none,_,_,x,r=>by
  cases x;cases r;exact⟨_,ReadsW.none⟩
 | .bool b,_,_,x,r=>by
  cases x;cases r;exact⟨_,ReadsW.bool b⟩
 | .int i,_,_,x,r=>by
  cases x;obtain⟨t,rfl⟩:=r;exact⟨_,ReadsW.int i t⟩
 | .str s,_,_,x,r=>by
  cases x;obtain⟨t,rfl⟩:=r;exact⟨_,ReadsW.str s t⟩
 | .bytes b,_,_,x,r=>by
  cases x;obtain⟨t,rfl⟩:=r;exact⟨_,ReadsW.bytes _ t⟩
 | .list ds,_,_,x,r=>by
  cases x with
  |lst hs ha=>
   cases r
   obtain⟨aj,o,n,rv,ho,hc,hd⟩:=Ua az KX hs
   obtain⟨as,hr⟩:=Dw.readsAll az KX ds _ aj ha rv
   exact⟨_,ReadsW.list ho hc hd hr⟩
 | .tuple ds,_,_,x,r=>by
  cases x with
  |tup hs ha=>
   cases r
   obtain⟨aj,o,n,rv,ho,hc,hd⟩:=Ub az KX hs
   obtain⟨as,hr⟩:=Dw.readsAll az KX ds _ aj ha rv
   exact⟨_,ReadsW.tuple ho hc hd hr⟩
 | .float _,_,_,x,_=>by cases x
 | .dict _,_,_,x,_=>by cases x
 | .bytearray _,_,_,x,_=>by cases x
 | .set _,_,_,x,_=>by cases x
 | .frozenset _,_,_,x,_=>by cases x
 | .obj _ _,_,_,x,_=>by cases x
theorem Dw.readsAll(az:cS P w H h)(KX:K.In h):∀(ds:List eC) (vs:List V) (us:List ab),iL K H vs ds->Vals vs us->∃as,ReadsAllW R cl h us ds as
 |[],_,_,x,r=>by
  cases x;cases r;exact⟨_,ReadsAllW.nil⟩
 |d::ds,_,_,x,r=>by
  cases x with
  |cons h1 h2=>
   cases r with
   |cons r1 r2=>
    obtain⟨as,q1⟩:=Dw.reads az KX d _ _ h1 r1
    obtain⟨bs,q2⟩:=Dw.readsAll az KX ds _ _ h2 r2
    exact⟨_,ReadsAllW.cons q1 q2⟩
end
end
mutual
def i0:eC->Bool
 | .none=>true
 | .bool _=>true
 | .int _=>true
 | .str _=>true
 | .bytes _=>true
 | .list xs=>jV xs
 | .tuple xs=>jV xs
 |_=>false
def jV:List eC->Bool
 |[]=>true
 |x::r=>i0 x&&jV r
end
theorem Ko{α:Type}{f:α->eC}(h:∀a,i0 (f a)=true):∀l:List α,jV (l.map f)=true
 |[]=>rfl
 |x::r=>by
  show(i0 (f x)&&jV (r.map f))=true;rw[h x,Ko h r]<;>rfl
theorem o4:∀(c:Codec) (a:c.denote),i0 (c.enc a)=true
 | .unit,_=>rfl
 | .bool,_=>rfl
 | .int _ _,_=>rfl
 | .nat _ _,_=>rfl
 | .u8,_=>rfl
 | .bytes _ _,_=>rfl
 | .text _ _ _ _,_=>rfl
 | .list _ _ c,a=>Ko (fun x=>o4 c x) a
 | .pair c d,a=>by
  show(i0 (c.enc a.1)&&(i0 (d.enc a.2)&&true))=true;rw[o4 c a.1,o4 d a.2]<;>rfl
 | .triple c d e,a=>by
  show(i0 (c.enc a.1)&&(i0 (d.enc a.2.1)&&(i0 (e.enc a.2.2)&&true)))=true;rw[o4 c a.1,o4 d a.2.1,o4 e a.2.2]<;>rfl
 | .option c,none=>rfl
 | .option c,some x=>o4 c x
theorem Kq:∀(cs:List Codec) (a:PU cs),jV (Bp cs a)=true
 |[],_=>rfl
 |c::cs,a=>by
  show(i0 (c.enc a.1)&&jV (Bp cs a.2))=true;rw[o4 c a.1,Kq cs a.2]<;>rfl
theorem CA:∀{xs:List eC} {d:eC},d∈xs->d.weight<=Ie xs
 |[],d,h=>absurd h (by simp)
 |x::r,d,h=>by
  show d.weight<=x.weight+1+Ie r;rcases b0.mp h with e|m
  ·rw[e];omega
  ·have z:=CA m;omega
def toV:ab->V
 | .none=> .bc
 | .bool b=> .bl b
 | .int i _=> .int i
 | .str x _=> .str x
 | .bytes b _=> .fZ b
 | .ref a=> .ref a
 |_=> .bc
def js(A:List aa):ab->Prop
 | .none=>True
 | .bool _=>True
 | .int _ _=>True
 | .str _ _=>True
 | .bytes _ _=>True
 | .ref a=>a∈A
 |_=>False
theorem js.mono{A B:List aa}(h:∀a∈A,a∈B):∀{u:ab},js A u->js B u:=fun {u} x=>by
 cases u with
 |ref a=>exact h a x
 |none=>trivial
 |bool b=>trivial
 |int i t=>trivial
 |str s t=>trivial
 |bytes b t=>trivial
 |_=>exact ft x
theorem Uc{A:List aa}{u:ab}(x:js A u):RelV (toV u) u:=by
 cases u with
 |ref a=>rfl
 |none=>rfl
 |bool b=>rfl
 |int i t=>exact⟨t,rfl⟩
 |str s t=>exact⟨t,rfl⟩
 |bytes b t=>exact⟨t,rfl⟩
 |_=>exact ft x
theorem sh{A:List aa}:∀{vs:List ab},(∀u∈vs,js A u)->Vals (vs.map toV) vs
 |[],_=> .nil
 |u::r,h=> .cons (Uc (h u (bS ..))) (sh fun x hx=>h x (bR _ hx))
def jW(h:aB)(A:List aa)(a:aa):Prop:=∃vs:List ab,vs.length<=sizeLine/\(∀u∈vs,js A u)/\
 (h.get? a=some {cls:= .type "list",data:= .seq vs.toArray}\/h.get? a=some {cls:= .type "tuple",data:= .seq vs.toArray})
theorem jW.mono{h:aB}{A B:List aa}{a:aa}(k:∀a∈A,a∈B)(x:jW h A a):jW h B a:=by
 obtain⟨vs,h1,h2,h3⟩:=x;exact⟨vs,h1,fun u hu=>(h2 u hu).mono k,h3⟩
theorem yN{P:rK}{h:aB}:∀{vs:List ab} {ds:List eC},rG P h vs ds->vs.length=ds.length
 |_,_,.nil=>rfl
 |_,_,.cons _ b=>by
  show _+1=_+1;rw[yN b]
theorem Kr{P:rK}{h:aB}{v:ab}{ds:List eC}(x:Well P h v (.list ds)):∃(a:aa) (vs:List ab),v= .ref a/\h.get? a=some {cls:= .type "list",data:= .seq vs.toArray}/\rG P h vs ds:=by
 cases x with
 |list ho jt=>exact⟨_,_,rfl,ho,jt⟩
theorem Ks{P:rK}{h:aB}{v:ab}{ds:List eC}(x:Well P h v (.tuple ds)):∃(a:aa) (vs:List ab),v= .ref a/\h.get? a=some {cls:= .type "tuple",data:= .seq vs.toArray}/\rG P h vs ds:=by
 cases x with
 |tuple ho jt=>exact⟨_,_,rfl,ho,jt⟩
theorem Ku{P:rK}{h:aB}{us:List ab}{d:eC}{ds:List eC}(x:rG P h us (d::ds)):∃(v:ab) (vs:List ab),us=v::vs/\Well P h v d/\rG P h vs ds:=by
 cases x with
 |cons a b=>exact⟨_,_,rfl,a,b⟩
theorem Kv{n:Nat}(h:n<=1048576):n<=sizeLine:=dr h (by decide)
section
variable{P:rK}{h:aB}
mutual
theorem Ud:∀(d:eC) (v:ab),Well P h v d->i0 d=true->d.weight<=1048576->∃A:List aa,js A v/\∀a∈A,jW h A a
 | .none,_,x,_,_=>by
  cases x;exact⟨[],trivial,fun a m=>absurd m (by simp)⟩
 | .bool b,_,x,_,_=>by
  cases x;exact⟨[],trivial,fun a m=>absurd m (by simp)⟩
 | .int i,_,x,_,_=>by
  cases x;exact⟨[],trivial,fun a m=>absurd m (by simp)⟩
 | .str s,_,x,_,_=>by
  cases x;exact⟨[],trivial,fun a m=>absurd m (by simp)⟩
 | .bytes b,_,x,_,_=>by
  cases x;exact⟨[],trivial,fun a m=>absurd m (by simp)⟩
 | .list ds,_,x,p,z=>by
  obtain⟨a,vs,rfl,ho,jt⟩:=Kr x;have z2:Ie ds<=1048576:=z;obtain⟨A,h1,h2⟩:=yO ds _ jt p fun d hd=>dr (CA hd) z2;have k:∀b∈A,b∈a::A:=fun b hb=>bR _ hb;refine⟨a::A,bS ..,fun b hb=> ?_⟩;rcases b0.mp hb with e|m
  ·rw[e];exact⟨vs,Kv (by rw[yN jt];exact dr (aee ds) z2),fun u hu=>(h1 u hu).mono k,.inl ho⟩
  ·exact(h2 b m).mono k
 | .tuple ds,_,x,p,z=>by
  obtain⟨a,vs,rfl,ho,jt⟩:=Ks x;have z2:Ie ds<=1048576:=z;obtain⟨A,h1,h2⟩:=yO ds _ jt p fun d hd=>dr (CA hd) z2;have k:∀b∈A,b∈a::A:=fun b hb=>bR _ hb;refine⟨a::A,bS ..,fun b hb=> ?_⟩;rcases b0.mp hb with e|m
  ·rw[e];exact⟨vs,Kv (by rw[yN jt];exact dr (aee ds) z2),fun u hu=>(h1 u hu).mono k,.inr ho⟩
  ·exact(h2 b m).mono k
 | .float _,_,_,p,_=>kd (show false=true from p)
 | .dict _,_,_,p,_=>kd (show false=true from p)
 | .bytearray _,_,_,p,_=>kd (show false=true from p)
 | .set _,_,_,p,_=>kd (show false=true from p)
 | .frozenset _,_,_,p,_=>kd (show false=true from p)
 | .obj _ _,_,_,p,_=>kd (show false=true from p)
theorem yO:∀(ds:List eC) (vs:List ab),rG P h vs ds->jV ds=true->(∀d∈ds,d.weight<=1048576)->∃A:List aa,(∀u∈vs,js A u)/\∀a∈A,jW h A a
 |[],_,x,_,_=>by
  cases x;exact⟨[],fun u m=>absurd m (by simp),fun a m=>absurd m (by simp)⟩
 |d::ds,_,x,p,z=>by
  obtain⟨v,vs,rfl,x1,x2⟩:=Ku x;have q:i0 d=true/\jV ds=true:=aeU.mp p;obtain⟨A,a1,a2⟩:=Ud d v x1 q.1 (z d (bS ..));obtain⟨B,b1,b2⟩:=yO ds vs x2 q.2 fun e he=>z e (bR _ he);have kA:∀b∈A,b∈A++B:=fun b hb=>ff.mpr (.inl hb);have kB:∀b∈B,b∈A++B:=fun b hb=>ff.mpr (.inr hb);refine⟨A++B,fun u hu=> ?_,fun b hb=> ?_⟩
  ·rcases b0.mp hu with e|m
   ·rw[e];exact a1.mono kA
   ·exact(b1 u m).mono kB
  ·rcases ff.mp hb with m|m
   ·exact(a2 b m).mono kA
   ·exact(b2 b m).mono kB
end
end
def yP(o:Obj):Option HO:=match o.data with
 | .seq vs _=>if (o.cls==uT "list")=true then some (.bF o (.lst (vs.toList.map toV))) else some (.bF o (.tup (vs.toList.map toV)))
 |_=>none
def gn(K:aC)(h:aB)(A:List aa):Hp:=fun b=>if b∈A then(if (K.lookup b).isNone=true then(h.get? b).bind yP else none) else none
def Kw(H:Hp):Prop:=∀b,H b=none\/∃o u,H b=some (.bF o u)
theorem Kx(vs:List ab):yP {cls:= .type "list",data:= .seq vs.toArray}=some (.bF {cls:= .type "list",data:= .seq vs.toArray} (.lst (vs.map toV))):=by
 show(if (uT "list"==uT "list")=true then some (HO.bF {cls:= .type "list",data:= .seq vs.toArray} (.lst (vs.toArray.toList.map toV))) else some (HO.bF {cls:= .type "list",data:= .seq vs.toArray} (.tup (vs.toArray.toList.map toV))))=_;rw[if_pos (beq_self_eq_true _)]
theorem Ky(vs:List ab):yP {cls:= .type "tuple",data:= .seq vs.toArray}=some (.bF {cls:= .type "tuple",data:= .seq vs.toArray} (.tup (vs.map toV))):=by
 show(if (uT "tuple"==uT "list")=true then some (HO.bF {cls:= .type "tuple",data:= .seq vs.toArray} (.lst (vs.toArray.toList.map toV))) else some (HO.bF {cls:= .type "tuple",data:= .seq vs.toArray} (.tup (vs.toArray.toList.map toV))))=_;rw[if_neg (by decide)]
section
variable{P:bg}{w:aW}{K:aC}{h:aB}{A:List aa}
theorem yQ{b:aa}{o:Obj}(hb:b∈A)(hk:K.lookup b=none)(e:h.get? b=some o):gn K h A b=yP o:=by
 unfold gn;rw[if_pos hb,hk,if_pos (show(none:Option Obj).isNone=true from rfl),e]<;>rfl
theorem Ue{b:aa}{u:HO}(q:gn K h A b=some u):b∈A/\K.lookup b=none:=by
 unfold gn at q;by_cases hb:b∈A
 ·rw[if_pos hb] at q;cases hk:K.lookup b with
  |none=>exact⟨hb,rfl⟩
  |some o=>
   rw[hk,if_neg (by simp)] at q
   cases q
 ·rw[if_neg hb] at q;cases q
theorem yR(ar:∀a∈A,jW h A a){b:aa}{u:HO}(q:gn K h A b=some u):K.lookup b=none/\∃vs:List ab,vs.length<=sizeLine/\(∀u∈vs,js A u)/\
  ((h.get? b=some {cls:= .type "list",data:= .seq vs.toArray}/\u= .bF {cls:= .type "list",data:= .seq vs.toArray} (.lst (vs.map toV)))\/
   (h.get? b=some {cls:= .type "tuple",data:= .seq vs.toArray}/\u= .bF {cls:= .type "tuple",data:= .seq vs.toArray} (.tup (vs.map toV)))):=by
 obtain⟨hb,hk⟩:=Ue q;obtain⟨vs,h1,h2,h3⟩:=ar b hb;refine⟨hk,vs,h1,h2,?_⟩;rcases h3 with e|e
 ·rw[yQ hb hk e,Kx] at q;exact .inl ⟨e,(fe q).symm⟩
 ·rw[yQ hb hk e,Ky] at q;exact .inr ⟨e,(fe q).symm⟩
theorem Ug(ar:∀a∈A,jW h A a):Kw (gn K h A):=fun b=>by
 cases q:gn K h A b with
 |none=>exact .inl rfl
 |some u=>
  obtain⟨_,vs,_,_,⟨_,e⟩|⟨_,e⟩⟩:=yR ar q
  ·exact .inr ⟨_,_,by rw[e]⟩
  ·exact .inr ⟨_,_,by rw[e]⟩
theorem Uh(ar:∀a∈A,jW h A a):cS P w (gn K h A) h:=fun b u q=>by
 obtain⟨_,vs,h1,h2,⟨e,rfl⟩|⟨e,rfl⟩⟩:=yR ar q
 ·exact⟨e,by rw[ao];exact h1,vs,_,sh h2,e⟩
 ·exact⟨e,by rw[ao];exact h1,vs,sh h2,_,e,rfl,_,rfl⟩
theorem yS{c c':ab}{vs us:List ab}(e:(some {cls:=c,data:= .seq vs.toArray}:Option Obj)=some {cls:=c',data:= .seq us.toArray}):c=c'/\vs=us:=by
 have e1:=fe e;have e2:c=c':=congrArg Obj.cls e1;have e3:Data.seq vs.toArray=Data.seq us.toArray:=congrArg Obj.data e1;injection e3 with e4;refine⟨e2,?_⟩;have e5:=congrArg Ql e4;simpa using e5
theorem Ui(KX:K.In h)(ar:∀a∈A,jW h A a){a:aa}{vs:List ab}(ha:a∈A)(e:h.get? a=some {cls:= .type "list",data:= .seq vs.toArray}):(∀u∈vs,js A u)/\ah K (gn K h A) a (vs.map toV):=by
 obtain⟨us,h1,h2,h3⟩:=ar a ha;have hu:us=vs:=by
  rcases h3 with q|q
  ·rw[e] at q;exact(yS q).2.symm
  ·rw[e] at q;exact absurd (aeM (yS q).1) (by decide)
 subst hu;refine⟨h2,?_⟩;cases hk:K.lookup a with
 |none=>exact .inl (.inr ⟨_,by rw[yQ ha hk e,Kx]⟩)
 |some o=>
  have e2:=KX a o hk
  rw[e] at e2
  obtain rfl:=fe e2
  exact .inr ⟨_,us.toArray,_,hk,rfl,rfl,rfl,by rw[dN];exact h1,by simpa using sh h2⟩
theorem Uj(KX:K.In h)(ar:∀a∈A,jW h A a){a:aa}{vs:List ab}(ha:a∈A)(e:h.get? a=some {cls:= .type "tuple",data:= .seq vs.toArray}):(∀u∈vs,js A u)/\cH K (gn K h A) a (vs.map toV):=by
 obtain⟨us,h1,h2,h3⟩:=ar a ha;have hu:us=vs:=by
  rcases h3 with q|q
  ·rw[e] at q;exact absurd (aeM (yS q).1) (by decide)
  ·rw[e] at q;exact(yS q).2.symm
 subst hu;refine⟨h2,?_⟩;cases hk:K.lookup a with
 |none=>exact .inl (.inr ⟨_,by rw[yQ ha hk e,Ky]⟩)
 |some o=>
  have e2:=KX a o hk
  rw[e] at e2
  obtain rfl:=fe e2
  exact .inr ⟨_,us.toArray,_,hk,rfl,rfl,by rw[dN];exact h1,by simpa using sh h2⟩
mutual
theorem Uk{Pm:rK}(KX:K.In h)(ar:∀a∈A,jW h A a):∀(d:eC) (v:ab),Well Pm h v d->i0 d=true->js A v->Dw K (gn K h A) (toV v) d
 | .none,_,x,_,_=>by
  cases x;exact .bc
 | .bool b,_,x,_,_=>by
  cases x;exact .bl b
 | .int i,_,x,_,_=>by
  cases x;exact .int i
 | .str s,_,x,_,_=>by
  cases x;exact .str s
 | .bytes b,_,x,_,_=>by
  cases x;have z:=Dw.fZ (K:=K) (H:=gn K h A) b.toArray;exact z
 | .list ds,_,x,p,hu=>by
  obtain⟨a,vs,rfl,ho,jt⟩:=Kr x;obtain⟨h2,hs⟩:=Ui KX ar hu ho;exact .lst hs (yT KX ar ds _ jt p h2)
 | .tuple ds,_,x,p,hu=>by
  obtain⟨a,vs,rfl,ho,jt⟩:=Ks x;obtain⟨h2,hs⟩:=Uj KX ar hu ho;exact .tup hs (yT KX ar ds _ jt p h2)
 | .float _,_,_,p,_=>kd (show false=true from p)
 | .dict _,_,_,p,_=>kd (show false=true from p)
 | .bytearray _,_,_,p,_=>kd (show false=true from p)
 | .set _,_,_,p,_=>kd (show false=true from p)
 | .frozenset _,_,_,p,_=>kd (show false=true from p)
 | .obj _ _,_,_,p,_=>kd (show false=true from p)
theorem yT{Pm:rK}(KX:K.In h)(ar:∀a∈A,jW h A a):∀(ds:List eC) (vs:List ab),rG Pm h vs ds->jV ds=true->(∀u∈vs,js A u)->iL K (gn K h A) (vs.map toV) ds
 |[],_,x,_,_=>by
  cases x;exact .nil
 |d::ds,_,x,p,hu=>by
  obtain⟨v,vs,rfl,x1,x2⟩:=Ku x;have q:i0 d=true/\jV ds=true:=aeU.mp p;exact .cons (Uk KX ar d v x1 q.1 (hu _ (bS ..))) (yT KX ar ds vs x2 q.2 fun u m=>hu u (bR _ m))
end
end
theorem Ul{ds:List eC}(h:WData.layableAll ds=true):∀d∈ds,d.weight<=1048576:=fun d hd=>
 (PySem.W.layableW_iff.mp (oC.mp h d hd)).2.2
theorem Kz:∀(cs:List Codec) (a:PU cs),(Bp cs a).length=cs.length
 |[],_=>rfl
 |c::cs,a=>by
  show(Bp cs a.2).length+1=cs.length+1;rw[Kz cs a.2]
end L2
end
namespace MM
open Vbahak
theorem KA(g:Int->Int)(z:Int):∀(p:List Int),(∀x∈p,g x<=z)->p.length=(p.filter (fun x=>decide (g x<z))).length+(p.filter (fun x=>g x==z)).length
 |[],_=>rfl
 |x::p,h=>by
  have ih:=KA g z p (fun y hy=>h y (bR _ hy));have hx:=h x bS;rw[gO,gO,bH];by_cases e:g x=z
  ·have n:¬g x<z:=by omega
   rw[if_neg (by simpa using n),if_pos (by simpa using e),bH];omega
  ·have n:g x<z:=by omega
   rw[if_pos (by simpa using n),if_neg (by simpa using e),bH];omega
theorem filter_none{α:Type}{f:α->Bool}:∀{l:List α},(∀x∈l,f x=false)->l.filter f=[]
 |[],_=>rfl
 |x::l,h=>by
  rw[gO,if_neg (by rw[h x bS];exact df)];exact filter_none fun y hy=>h y (bR _ hy)
theorem KC{α:Type}{i:α}:∀{p a q b:List α},p++i::q=a++i::b->i∉p->i∉a->p=a
 |[],[],_,_,_,_,_=>rfl
 |[],y::a,_,_,h,_,n=>by
  have e:i=y:=(PV h).1;exact absurd (by rw[e];exact bS) n
 |x::p,[],_,_,h,n,_=>by
  have e:x=i:=(PV h).1;exact absurd (by rw[e];exact bS) n
 |x::p,y::a,_,_,h,n,m=>by
  obtain⟨e,r⟩:=PV h;rw[e,KC r (fun z=>n (bR _ z)) (fun z=>m (bR _ z))]
theorem Um{l o:List Int}(g:Int->Int)(hp:o.Perm l)(CB:l.Nodup)(hs:o.Pairwise (fun x y=>g x<=g y))
  (hf:∀z,o.filter (fun x=>g x==z)=l.filter (fun x=>g x==z)) {a b p q:List Int} {i:Int} (hl:l=a++i::b) (ho:o=p++i::q):
  p.length=(l.filter (fun x=>decide (g x<g i))).length+(a.filter (fun x=>g x==g i)).length:=by
 have KD:o.Nodup:=hp.nodup_iff.mpr CB;rw[ho] at KD hs;rw[hl] at CB;have ip:i∉p:=fun h=>(xH.mp KD).2.2 i h i bS rfl;have ia:i∉a:=fun h=>(xH.mp CB).2.2 i h i bS rfl;have h1:∀x∈p,g x<=g i:=fun x hx=>(aeR.mp hs).2.2 x hx i bS;have h2:∀x∈q,g i<=g x:=fun x hx=>(xG.mp (aeR.mp hs).2.1).1 x hx;rw[KA g (g i) p h1];have e1:(l.filter (fun x=>decide (g x<g i))).length=(p.filter (fun x=>decide (g x<g i))).length:=by
  rw[<-(hp.filter _).length_eq,ho,mK,gO,if_neg (by simp),filter_none (l:=q) (fun x hx=>by have:=h2 x hx;simp;omega),uK]
 have e2:p.filter (fun x=>g x==g i)=a.filter (fun x=>g x==g i):=by
  have h:=hf (g i);rw[ho,hl,mK,mK,gO,gO,if_pos (by simp),if_pos (by simp)] at h;exact KC h (fun z=>ip (c9.mp z).1) (fun z=>ia (c9.mp z).1)
 rw[e1,e2]
def fB(n:Nat):List Int:=(cN n).map fun(k:Nat)=>(k:Int)
theorem si(n:Nat):(fB n).length=n:=by simp[fB]
theorem KG(n:Nat):(fB n).Nodup:=by
 unfold fB;rw[uU,gN];exact List.nodup_range.imp (fun h e=>h (Int.ofNat.inj e))
theorem CC{n:Nat}{x:Int}:x∈fB n↔0<=x/\x<n:=by
 unfold fB;rw[bh];constructor
 ·rintro⟨k,h,rfl⟩;have:=kj.mp h;omega
 ·intro ⟨h1,h2⟩;exact⟨x.toNat,kj.mpr (by omega),by omega⟩
theorem Uo{n k:Nat}(h:k<n):∃b,fB n=fB k++(k:Int)::b:=by
 refine⟨((cN (n-k-1)).map fun j=>((k+1+j:Nat):Int)),?_⟩;unfold fB;have e:n=k+(n-k-1+1):=by omega
 rw[e,P8,cZ,bw]
 congr 1
 have e2:k+(n-k-1+1)-k-1=n-k-1:=by omega
 rw[e2,Qq (n-k-1) 1,P8,cZ,bw];show _::_=_
 congr 1
 refine fW fun j _=> ?_;show((k+(1+j):Nat):Int)=_
 congr 1
 omega
theorem KH{rests:List Nat}{n:Nat}(h:n<=rests.length):(fB n).map (fun x=>rests.getD x.toNat 0)=rests.take n:=by
 unfold fB;rw[bw];apply oA;intro i;rw[aS,PD];by_cases hi:i<n
 ·rw[xD hi,if_pos hi];have hi':i<rests.length:=by omega
  simp[hi']
 ·rw[if_neg hi,jG (by simp;omega)]
  rfl
theorem CD{α β:Type}(f:α->β)(p:β->Bool)(l:List α):(l.filter (fun x=>p (f x))).length=((l.map f).filter p).length:=by
 rw[kh,ao]
 rfl
def keyOf(rests:List Nat)(x:Int):Int:= -((rests.getD x.toNat 0:Nat):Int)
theorem Up{rests:List Nat}{o:List Int}(hp:o.Perm (fB rests.length))(hs:o.Pairwise (fun x y=>keyOf rests x<=keyOf rests y))
  (hf:∀z,o.filter (fun x=>keyOf rests x==z)=(fB rests.length).filter (fun x=>keyOf rests x==z)) {k:Nat} (hk:k<rests.length):
  o[rankOf rests k]? =some (k:Int):=by
 obtain⟨b,hb⟩:=Uo hk;have mem:(k:Int)∈o:=hp.mem_iff.mpr (CC.mpr ⟨by omega,by omega⟩);obtain⟨p,q,ho⟩:=List.append_of_mem mem;have h:=Um (keyOf rests) hp (KG _) hs hf hb ho;have e:p.length=rankOf rests k:=by
  rw[h];unfold rankOf
  congr 1
  ·have e1:(fun x:Int=>decide (keyOf rests x<keyOf rests (k:Int)))=(fun x:Int=>(fun v:Nat=>decide (rests.getD k 0<v)) ((fun x:Int=>rests.getD x.toNat 0) x)):=by
    funext x
    show decide (-((rests.getD x.toNat 0:Nat):Int)< -((rests.getD (k:Int).toNat 0:Nat):Int))=decide (rests.getD k 0<rests.getD x.toNat 0);rw[iT]
    congr 1
    exact propext ⟨fun h=>by omega,fun h=>by omega⟩
   rw[e1,CD (fun x:Int=>rests.getD x.toNat 0) (fun v:Nat=>decide (rests.getD k 0<v)),KH (aI _),iq]
  ·have e1:(fun x:Int=>keyOf rests x==keyOf rests (k:Int))=(fun x:Int=>(fun v:Nat=>v==rests.getD k 0) ((fun x:Int=>rests.getD x.toNat 0) x)):=by
    funext x
    show(-((rests.getD x.toNat 0:Nat):Int)== -((rests.getD (k:Int).toNat 0:Nat):Int))=(rests.getD x.toNat 0==rests.getD k 0);rw[iT,ki,beq_iff_eq,beq_iff_eq];omega
   rw[e1,CD (fun x:Int=>rests.getD x.toNat 0) (fun v:Nat=>v==rests.getD k 0),KH (fO hk)]
 rw[ho,<-e,qV (aI _),IA]
 rfl
theorem Uq{o:List Int}(nd:o.Nodup){j n:Nat}{x:Int}(h:o[j]? =some x):x∈o.take n↔j<n:=by
 constructor
 ·intro m;obtain⟨i,hi⟩:=fH m;rw[PD] at hi;split at hi
  ·rename_i CF;have:i=j:=by
    obtain⟨h1,e1⟩:=cJ.mp hi;obtain⟨h2,e2⟩:=cJ.mp h;exact(HW nd).mp (e1.trans e2.symm)
   omega
  ·cases hi
 ·intro hj;refine bP (i:=j) ?_;rw[PD,if_pos hj];exact h
def o5(g:List Int)(a:Int):List Int:=g.set a.toNat (g.getD a.toNat 0+1)
def jX(g:List Int)(ats:List Int):List Int:=ats.foldl o5 g
theorem KI:∀(ats g:List Int),ats.Nodup->(∀a∈ats,0<=a)->∀k:Nat,(jX g ats)[k]? =(g[k]?).map (fun v=>if (k:Int)∈ats then v+1 else v)
 |[],g,_,_,k=>by
  show g[k]? =_;cases g[k]? <;>simp
 |a::ats,g,nd,o6,k=>by
  have ih:=KI ats (o5 g a) (jI.mp nd).2 (fun b hb=>o6 b (bR _ hb)) k;have ha:a∉ats:=(jI.mp nd).1;have h0:=o6 a bS;show(jX (o5 g a) ats)[k]? =_;rw[ih];unfold o5;rw[List.getElem?_set];by_cases e:a.toNat=k
  ·have ek:(k:Int)=a:=by omega
   rw[if_pos e,ek];by_cases hk:a.toNat<g.length
   ·rw[if_pos hk,<-e,cE hk];simp[ha,List.getD,cE hk]
   ·rw[if_neg hk,jG (by omega)]
    rfl
  ·rw[if_neg e];have ek:¬(k:Int)=a:=by omega
   cases g[k]? with
   |none=>rfl
   |some v=>simp[ek]
theorem KJ:∀(ats g:List Int),(jX g ats).length=g.length
 |[],_=>rfl
 |a::ats,g=>by
  show(jX (o5 g a) ats).length=_;rw[KJ ats];simp[o5]
def «ints»(l:List Nat):List Int:=l.map fun(k:Nat)=>(k:Int)
theorem sum_cons(a:Nat)(l:List Nat):bz (a::l)=a+bz l:=rfl
theorem sum_ints:∀l:List Nat,(«ints» l).sum=((bz l:Nat):Int)
 |[]=>rfl
 |a::l=>by
  show(((a:Nat):Int)::«ints» l).sum=_;rw[pV,sum_ints l,sum_cons];omega
theorem KL(x w:Nat)(hw:0<w):∀ws:List Nat,w*bz (ws.map fun y=>x*y/w)<=x*bz ws
 |[]=>by simp[bz]
 |y::ws=>by
  have ih:=KL x w hw ws;rw[bQ,sum_cons,sum_cons,IF,IF];have:=Nat.mul_div_le (x*y) w;omega
def dI(weights:List Nat):List Nat:=if bz weights=0 then weights.map fun _=>1 else weights
theorem KN(l:List Nat):(dI l).length=l.length:=by
 unfold dI;split<;>simp
def dS(x:Nat)(ws:List Nat):List Nat:=ws.map fun y=>x*y/bz ws
def res(x:Nat)(ws:List Nat):List Nat:=ws.map fun y=>x*y%bz ws
theorem KO:∀l:List Nat,bz (l.map fun _=>1)=l.length
 |[]=>rfl
 |a::l=>by
  rw[bQ,sum_cons,KO l,bH];omega
theorem KP{l:List Nat}(h:l≠[]):0<bz (dI l):=by
 unfold dI;split
 ·rw[KO];exact Hz.mpr h
 ·omega
theorem Ur(x:Nat)(l:List Nat):bz (dS x (dI l))<=x:=by
 cases l with
 |nil=>simp[dI,dS,bz]
 |cons a r=>
  have hw:0<bz (dI (a::r)):=KP (by simp)
  have h:=KL x _ hw (dI (a::r))
  unfold dS
  rw[x6 x] at h
  exact Nat.le_of_mul_le_mul_left h hw
theorem KQ(x:Nat)(l:List Nat):pS x l=(dS x (dI l)).zipIdx.map fun p=>if rankOf (res x (dI l)) p.2<x-bz (dS x (dI l)) then p.1+1 else p.1:=rfl
theorem CG(x:Nat)(l:List Nat):(pS x l).length=l.length:=by
 rw[KQ];simp[dS,KN]
theorem Us(x:Nat)(l:List Nat){o:List Int}(hp:o.Perm (fB (res x (dI l)).length))(hs:o.Pairwise (fun a b=>keyOf (res x (dI l)) a<=keyOf (res x (dI l)) b))
  (hf:∀z,o.filter (fun a=>keyOf (res x (dI l)) a==z)=(fB (res x (dI l)).length).filter (fun a=>keyOf (res x (dI l)) a==z)):
  jX («ints» (dS x (dI l))) (o.take (x-bz (dS x (dI l))))=«ints» (pS x l):=by
 have nd:o.Nodup:=hp.nodup_iff.mpr (KG _);apply oA;intro k;rw[KI _ _ (nd.sublist (HP _ _)) (fun a ha=>(CC.mp (hp.mem_iff.mp (A5 ha))).1)];rw[KQ];unfold «ints»;rw[aS,aS,aS,qZ];by_cases hk:k<(res x (dI l)).length
 ·have KR:k<(dS x (dI l)).length:=by simpa[dS,res] using hk
  rw[cE KR];have hm:=Uq nd (n:=x-bz (dS x (dI l))) (Up hp hs hf hk);simp only[iu,Bq];by_cases c:rankOf (res x (dI l)) k<x-bz (dS x (dI l))
  ·rw[if_pos (hm.mpr c),if_pos c];simp
  ·rw[if_neg (fun z=>c (hm.mp z)),if_neg c]
 ·have KR:¬k<(dS x (dI l)).length:=by simpa[dS,res] using hk
  rw[jG (by omega)]
  rfl
open Vbahak
def dM:Nat->List Nat->List Int
 |_,[]=>[]
 |n,x::l=>if x=0 then(n:Int)::dM (n+1) l else dM (n+1) l
theorem KS(x:Nat):∀(l:List Nat) (n:Nat),dM n (l++[x])=dM n l++(if x=0 then[((n+l.length:Nat):Int)] else[])
 |[],n=>by
  show(if x=0 then(n:Int)::dM (n+1) [] else dM (n+1) [])=[]++_;by_cases h:x=0<;>simp[h,dM]
 |y::l,n=>by
  show(if y=0 then(n:Int)::dM (n+1) (l++[x]) else dM (n+1) (l++[x]))=(if y=0 then(n:Int)::dM (n+1) l else dM (n+1) l)++_;have e:n+1+l.length=n+(y::l).length:=by simp;omega
  rw[KS x l (n+1),e];by_cases h:y=0<;>simp[h]
theorem CH:∀(l:List Nat) (n:Nat),(dM n l).length=(l.filter fun x=>x==0).length
 |[],_=>rfl
 |y::l,n=>by
  show(if y=0 then(n:Int)::dM (n+1) l else dM (n+1) l).length=_;rw[gO];by_cases h:y=0<;>simp[h,CH l]
theorem CI:∀(l:List Nat) (n:Nat) (x:Int),x∈dM n l->(n:Int)<=x/\x<(n+l.length:Nat)
 |[],_,_,h=>by simp[dM] at h
 |y::l,n,x,h=>by
  have h:x∈(if y=0 then(n:Int)::dM (n+1) l else dM (n+1) l):=h;have e:(y::l).length=l.length+1:=rfl;by_cases hy:y=0
  ·rw[if_pos hy] at h;rcases b0.mp h with q|q
   ·rw[q,e];omega
   ·have:=CI l (n+1) x q;omega
  ·rw[if_neg hy] at h;have:=CI l (n+1) x h;omega
theorem KU:∀(parts:List (Nat×Nat)) (done:List Nat),(dM done.length (parts.map fun p=>p.2)).map (fun a=>(done++parts.map fun p=>p.1).getD a.toNat 0)=(parts.filter fun p=>p.2==0).map fun p=>p.1
 |[],_=>rfl
 |p::r,done=>by
  have ih:=KU r (done++[p.1]);rw[dJ,uz,xK] at ih;show(if p.2=0 then(done.length:Int)::dM (done.length+1) (r.map fun p=>p.2) else dM (done.length+1) (r.map fun p=>p.2)).map _=_;rw[gO];by_cases h:p.2=0
  ·rw[if_pos h,if_pos (by simp[h]),bQ,bQ]
   congr 1
   simp[List.getD]
  ·rw[if_neg h,if_neg (by simp[h])];exact ih
def nE(l:List Int)(a v:Int):List Int:=l.set a.toNat v
def ju:List Int->List Int->List Int->List Int
 |l,[],_=>l
 |l,_::_,[]=>l
 |l,a::as,v::vs=>ju (nE l a v) as vs
theorem CJ:∀(parts:List (Nat×Nat)) (done:List Int) (vs:List Nat),vs.length=(parts.filter fun p=>p.2==0).length->
  ju (done++«ints» (parts.map fun p=>p.2)) (dM done.length (parts.map fun p=>p.2)) («ints» vs)=done++«ints» (merge parts vs)
 |[],done,vs,_=>by
  cases vs<;>rfl
 |p::r,done,vs,hl=>by
  rw[gO] at hl;show ju (done++((p.2:Nat):Int)::«ints» (r.map fun p=>p.2)) (if p.2=0 then(done.length:Int)::dM (done.length+1) (r.map fun p=>p.2) else dM (done.length+1) (r.map fun p=>p.2)) («ints» vs)=done++«ints» (if p.2=0 then vs.headD 0::merge r (vs.drop 1) else p.2::merge r vs);by_cases h:p.2=0
  ·rw[if_pos (by simp[h])] at hl;rw[if_pos h,if_pos h];cases vs with
   |nil=>simp at hl
   |cons v vs=>
    have hl:vs.length=(r.filter fun p=>p.2==0).length:=by simpa using hl
    have ih:=CJ r (done++[(v:Int)]) vs hl
    rw[dJ,uz] at ih
    show ju (nE (done++((p.2:Nat):Int)::«ints» (r.map fun p=>p.2)) (done.length:Int) (v:Int)) _ («ints» vs)=done++(v:Int)::«ints» (merge r vs)
    have e:nE (done++((p.2:Nat):Int)::«ints» (r.map fun p=>p.2)) (done.length:Int) (v:Int)=done++[(v:Int)]++«ints» (r.map fun p=>p.2):=by
     unfold nE;rw[iT,List.set_append_right _ _ (aI _),IA];simp
    rw[e,ih]
    simp
  ·rw[if_neg (by simp[h])] at hl;rw[if_neg h,if_neg h];have ih:=CJ r (done++[((p.2:Nat):Int)]) vs hl;rw[dJ,uz] at ih;have e:done++((p.2:Nat):Int)::«ints» (r.map fun p=>p.2)=done++[((p.2:Nat):Int)]++«ints» (r.map fun p=>p.2):=by simp
   rw[e,ih];simp[«ints»]
theorem KW:∀(as vs l:List Int) (i:Nat) {a v:Int},as[i]? =some a->vs[i]? =some v->ju l (as.take (i+1)) (vs.take (i+1))=nE (ju l (as.take i) (vs.take i)) a v
 |[],_,_,_,_,_,h,_=>by simp at h
 |_::_,[],_,_,_,_,_,h=>by simp at h
 |b::as,u::vs,l,0,a,v,h1,h2=>by
  have e1:b=a:=by simpa using h1
  have e2:u=v:=by simpa using h2
  subst e1 e2;simp[ju]
 |b::as,u::vs,l,i+1,a,v,h1,h2=>by
  have ih:=KW as vs (nE l b u) i (a:=a) (v:=v) (by simpa using h1) (by simpa using h2);simpa[ju] using ih
theorem KY:∀(as vs l:List Int),(ju l as vs).length=l.length
 |[],_,_=>rfl
 |_::_,[],_=>rfl
 |a::as,v::vs,l=>by
  show(ju (nE l a v) as vs).length=_;rw[KY as vs];simp[nE]
theorem Ut{fs xs:List Nat}(h:fs.length=xs.length):(fs.zip xs).map (fun p=>p.1)=fs:=by
 rw[HV (by omega)]
theorem sj{fs xs:List Nat}(h:fs.length=xs.length):(fs.zip xs).map (fun p=>p.2)=xs:=by
 rw[xN (by omega)]
theorem KZ{value:Nat}{fs xs:List Nat}(h:fs.length=xs.length)(hc:value<bz xs\/0∉xs):mT value (fs.zip xs)=pS value xs:=by
 unfold mT;rw[sj h];refine if_neg fun⟨h1,h2⟩=> ?_;rcases hc with hc|hc
 ·omega
 ·apply h2;refine filter_none fun p hp=> ?_;have:p.2∈xs:=by rw[<-sj h];exact iS hp
  have n:p.2≠0:=fun e=>hc (by rw[<-e];exact this);simpa using n
theorem Uu{fs xs:List Nat}(h:fs.length=xs.length):((fs.zip xs).filter fun p=>p.2==0).length=(xs.filter fun x=>x==0).length:=by
 have e:=CD (fun p:Nat×Nat=>p.2) (fun x=>x==0) (fs.zip xs);rw[sj h] at e;exact e
theorem Uv{value:Nat}{fs xs:List Nat}(h:fs.length=xs.length)(h1:bz xs<=value)(h2:0∈xs):
  «ints» (mT value (fs.zip xs))=ju («ints» xs) (dM 0 xs) («ints» (pS (value-bz xs) ((dM 0 xs).map fun a=>fs.getD a.toNat 0))):=by
 have e0:=KU (fs.zip xs) [];rw[sj h,Ut h] at e0;have e0:(dM 0 xs).map (fun a=>fs.getD a.toNat 0)=((fs.zip xs).filter fun p=>p.2==0).map fun p=>p.1:=e0;unfold mT;rw[sj h,e0];have cw:((fs.zip xs).filter fun p=>p.2==0)≠[]:=fun e=>by
  have l:=Uu h;rw[e] at l;have:(xs.filter fun x=>x==0)=[]:=eB.mp l.symm;have m:(0:Nat)∈xs.filter fun x=>x==0:=c9.mpr ⟨h2,rfl⟩;rw[this] at m;cases m
 show «ints» (if bz xs<=value/\((fs.zip xs).filter fun p=>p.2==0)≠[] then _ else _)=_;rw[if_pos ⟨h1,cw⟩];have m:=CJ (fs.zip xs) [] (pS (value-bz xs) (((fs.zip xs).filter fun p=>p.2==0).map fun p=>p.1)) (by rw[CG,ao]);rw[sj h] at m;exact m.symm
theorem CK:∀(parts:List (Nat×Nat)) (l:List Nat),(merge parts l).length=parts.length
 |[],_=>rfl
 |p::r,l=>by
  show(if p.2=0 then l.headD 0::merge r (l.drop 1) else p.2::merge r l).length=_;by_cases h:p.2=0
  ·rw[if_pos h,bH,CK r,bH]
  ·rw[if_neg h,bH,CK r,bH]
theorem vL(value:Nat)(parts:List (Nat×Nat)):(mT value parts).length=parts.length:=by
 show(if _ then _ else _:List Nat).length=_;split
 ·exact CK _ _
 ·rw[CG,ao]
open Vbahak
def bC(z:Int)(b:Int×Int):Bool:=decide (b.1<=z)&&decide (z<=b.2)
def eE:Nat->List (Int×Int)
 |0=>[(0,675),(0,7)]
 |1=>[(1,7),(1,1000000),(1,1000000)]
 |2=>[(0,675),(0,675),(0,10000)]
 |3=>[(1,999999999),(0,675),(0,1000000000)]
 |4=>[(0,1000000000)]
 |5=>[(1,999999999),(0,7)]
 |6=>[(1,999999999),(0,7)]
 |7=>[(0,675),(0,675)]
 |8=>[(1,999),(1,10000000000000000)]
 |9=>[(1,999)]
 |10=>[(0,675),(0,675)]
 |11=>[]
 |12=>[]
 |13=>[(0,675),(0,1)]
 |14=>[]
 |15=>[(0,675)]
 |16=>[(0,675)]
 |17=>[(1,999999999),(0,7)]
 |18=>[(1,999)]
 |19=>[(0,675),(0,675)]
 |20=>[]
 |21=>[]
 |_=>[]
def me:Nat->Option ((Int×Int)×List (Int×Int))
 |3=>some ((1,8),[(0,675),(0,1000000),(0,1000000000)])
 |4=>some ((1,8),[(0,1000000),(0,1000000000)])
 |21=>some ((0,30),[(0,675),(0,675),(0,1000000000000000000)])
 |_=>none
def qv(p:Nat)(plain:List Int):List Bool:=Qo bC plain (eE p)
def vM(rg:List (Int×Int))(row:List Int):List Bool:=row.zipIdx.map fun q=>bC q.1 (rg.getD (q.2%rg.length) (0,0))
def iM(f:(Int×Int)×List (Int×Int))(row:List Int):Bool:=
 if row.length%f.2.length≠0\/bC ((row.length/f.2.length:Nat):Int) f.1=false then false else(vM f.2 row).all id
def fits(p:Nat)(plain row:List Int):Bool:=(qv p plain).all id&&match me p with
 |none=>true
 |some f=>iM f row
def jv(rg:List (Int×Int)):Nat->List Int->Bool
 |_,[]=>true
 |i,x::r=>bC x (rg.getD (i%rg.length) (0,0))&&jv rg (i+1) r
theorem yU(rg:List (Int×Int)):∀(row:List Int) (i:Nat),((row.zipIdx i).map fun q=>bC q.1 (rg.getD (q.2%rg.length) (0,0))).all id=jv rg i row
 |[],_=>rfl
 |x::r,i=>by
  rw[xM,bQ,pY,yU rg r (i+1)]
  rfl
def o7(a b c:Int×Int):List Int->Bool
 |x::y::z::r=>bC x a&&(bC y b&&(bC z c&&o7 a b c r))
 |_=>true
theorem CL(a b c:Int×Int):∀(n:Nat) (l:List Int) (k:Nat),l.length=3*n->jv [a,b,c] (3*k) l=o7 a b c l
 |0,l,k,h=>by
  have:l=[]:=eB.mp (by omega);subst this
  rfl
 |n+1,l,k,h=>by
  match l,h with
  |x::y::z::r,h=>
   have hr:r.length=3*n:=by simp at h;omega
   have ih:=CL a b c n r (k+1) hr
   show(bC x ([a,b,c].getD (3*k%3) (0,0))&&(bC y ([a,b,c].getD ((3*k+1)%3) (0,0))&&(bC z ([a,b,c].getD ((3*k+1+1)%3) (0,0))&&jv [a,b,c] (3*k+1+1+1) r)))=_
   have e0:3*k%3=0:=by omega
   have e1:(3*k+1)%3=1:=by omega
   have e2:(3*k+1+1)%3=2:=by omega
   have e3:3*k+1+1+1=3*(k+1):=by omega
   rw[e0,e1,e2,e3,ih]
   rfl
  |[],h=>simp at h
  |[_],h=>simp at h;omega
  |[_,_],h=>simp at h;omega
def sk(a b:Int×Int):List Int->Bool
 |x::y::r=>bC x a&&(bC y b&&sk a b r)
 |_=>true
theorem K0(a b:Int×Int):∀(n:Nat) (l:List Int) (k:Nat),l.length=2*n->jv [a,b] (2*k) l=sk a b l
 |0,l,k,h=>by
  have:l=[]:=eB.mp (by omega);subst this
  rfl
 |n+1,l,k,h=>by
  match l,h with
  |x::y::r,h=>
   have hr:r.length=2*n:=by simp at h;omega
   have ih:=K0 a b n r (k+1) hr
   show(bC x ([a,b].getD (2*k%2) (0,0))&&(bC y ([a,b].getD ((2*k+1)%2) (0,0))&&jv [a,b] (2*k+1+1) r))=_
   have e0:2*k%2=0:=by omega
   have e1:(2*k+1)%2=1:=by omega
   have e3:2*k+1+1=2*(k+1):=by omega
   rw[e0,e1,e3,ih]
   rfl
  |[],h=>simp at h
  |[_],h=>simp at h;omega
theorem iN{z lo hi:Int}:bC z (lo,hi)=true↔lo<=z/\z<=hi:=by
 simp[bC]
theorem CN(d9 gW eP:Nat)(h1:d9<=eP)(h2:gW<=eP):∀(n:Nat) (l:List Int),l.length=3*n->
  ((l.all fun z=>within z 0 eP)&&(triples (nats l)).all fun p=>decide (p.1<=d9)&&decide (p.2.1<=gW))=o7 (0,d9) (0,gW) (0,eP) l
 |0,l,h=>by
  have:l=[]:=eB.mp (by omega);subst this
  rfl
 |n+1,l,h=>by
  match l,h with
  |x::y::z::r,h=>
   have hr:r.length=3*n:=by simp at h;omega
   have ih:=CN d9 gW eP h1 h2 n r hr
   show((within x 0 eP&&(within y 0 eP&&(within z 0 eP&&r.all fun z=>within z 0 eP)))&&((decide (x.toNat<=d9)&&decide (y.toNat<=gW))&&(triples (nats r)).all fun p=>decide (p.1<=d9)&&decide (p.2.1<=gW)))=(bC x (0,d9)&&(bC y (0,gW)&&(bC z (0,eP)&&o7 (0,d9) (0,gW) (0,eP) r)))
   rw[<-ih,ki]
   simp only[within,bC,cM,decide_eq_true_eq]
   constructor
   ·rintro⟨⟨⟨a1,a2⟩,⟨b1,b2⟩,⟨c1,c2⟩,d⟩,⟨e1,e2⟩,f⟩
    exact⟨⟨a1,by omega⟩,⟨b1,by omega⟩,⟨c1,c2⟩,d,f⟩
   ·rintro⟨⟨a1,a2⟩,⟨b1,b2⟩,⟨c1,c2⟩,d,f⟩
    exact⟨⟨⟨a1,by omega⟩,⟨b1,by omega⟩,⟨c1,c2⟩,d⟩,⟨by omega,by omega⟩,f⟩
  |[],h=>simp at h
  |[_],h=>simp at h;omega
  |[_,_],h=>simp at h;omega
theorem K1(d9 eP:Nat)(h1:d9<=eP):∀(n:Nat) (l:List Int),l.length=2*n->
  ((l.all fun z=>within z 0 eP)&&(pairs (nats l)).all fun p=>decide (p.1<=d9))=sk (0,d9) (0,eP) l
 |0,l,h=>by
  have:l=[]:=eB.mp (by omega);subst this
  rfl
 |n+1,l,h=>by
  match l,h with
  |x::z::r,h=>
   have hr:r.length=2*n:=by simp at h;omega
   have ih:=K1 d9 eP h1 n r hr
   show((within x 0 eP&&(within z 0 eP&&r.all fun z=>within z 0 eP))&&(decide (x.toNat<=d9)&&(pairs (nats r)).all fun p=>decide (p.1<=d9)))=(bC x (0,d9)&&(bC z (0,eP)&&sk (0,d9) (0,eP) r))
   rw[<-ih,ki]
   simp only[within,bC,cM,decide_eq_true_eq]
   constructor
   ·rintro⟨⟨⟨a1,a2⟩,⟨c1,c2⟩,d⟩,e1,f⟩
    exact⟨⟨a1,by omega⟩,⟨c1,c2⟩,d,f⟩
   ·rintro⟨⟨a1,a2⟩,⟨c1,c2⟩,d,f⟩
    exact⟨⟨⟨a1,by omega⟩,⟨c1,c2⟩,d⟩,by omega,f⟩
  |[],h=>simp at h
  |[_],h=>simp at h;omega
theorem su{f:(Int×Int)×List (Int×Int)}{row:List Int}:iM f row=true↔row.length%f.2.length=0/\bC ((row.length/f.2.length:Nat):Int) f.1=true/\jv f.2 0 row=true:=by
 unfold iM vM;rw[yU];by_cases h:row.length%f.2.length≠0\/bC ((row.length/f.2.length:Nat):Int) f.1=false
 ·rw[if_pos h];constructor
  ·intro e;cases e
  ·rintro⟨h1,h2,h3⟩;rcases h with q|q
   ·exact absurd h1 q
   ·rw[h2] at q;cases q
 ·rw[if_neg h];have h1:row.length%f.2.length=0:=aeg fun q=>h (.inl q);have h2:bC ((row.length/f.2.length:Nat):Int) f.1=true:=by
   cases e:bC ((row.length/f.2.length:Nat):Int) f.1 with
   |true=>rfl
   |false=>exact absurd (.inr e) h
  exact⟨fun e=>⟨h1,h2,e⟩,fun e=>e.2.2⟩
theorem Uw(l:List Int):isParts l=iM ((1,8),[(0,675),(0,1000000),(0,1000000000)]) l:=by
 rw[ki,su];show(decide (3<=l.length)&&(decide (l.length<=24)&&(l.length%3==0&&((l.all isMoney)&&(triples (nats l)).all fun p=>decide (p.1<=675)&&decide (p.2.1<=1000000)))))=true↔l.length%3=0/\bC ((l.length/3:Nat):Int) (1,8)=true/\jv [(0,675),(0,1000000),(0,1000000000)] 0 l=true;rw[cM,cM,cM,decide_eq_true_eq,decide_eq_true_eq,beq_iff_eq,iN];by_cases h:l.length%3=0
 ·have e:=CN 675 1000000 1000000000 (by decide) (by decide) (l.length/3) l (by omega);have e2:=CL (0,675) (0,1000000) (0,1000000000) (l.length/3) l 0 (by omega);rw[show jv [(0,675),(0,1000000),(0,1000000000)] 0 l=o7 (0,675) (0,1000000) (0,1000000000) l from e2];have e:((l.all isMoney)&&(triples (nats l)).all fun p=>decide (p.1<=675)&&decide (p.2.1<=1000000))=o7 (0,675) (0,1000000) (0,1000000000) l:=e;rw[e];constructor
  ·rintro⟨h1,h2,h3,h4⟩;exact⟨h3,⟨by omega,by omega⟩,h4⟩
  ·rintro⟨h1,⟨h2,h3⟩,h4⟩;exact⟨by omega,by omega,h1,h4⟩
 ·exact⟨fun q=>absurd q.2.2.1 h,fun q=>absurd q.1 h⟩
theorem Ux(l:List Int):isFactors l=iM ((1,8),[(0,1000000),(0,1000000000)]) l:=by
 rw[ki,su];show(decide (2<=l.length)&&(decide (l.length<=16)&&(l.length%2==0&&((l.all isMoney)&&(pairs (nats l)).all fun p=>decide (p.1<=1000000)))))=true↔l.length%2=0/\bC ((l.length/2:Nat):Int) (1,8)=true/\jv [(0,1000000),(0,1000000000)] 0 l=true;rw[cM,cM,cM,decide_eq_true_eq,decide_eq_true_eq,beq_iff_eq,iN];by_cases h:l.length%2=0
 ·have e:=K1 1000000 1000000000 (by decide) (l.length/2) l (by omega);have e2:=K0 (0,1000000) (0,1000000000) (l.length/2) l 0 (by omega);rw[show jv [(0,1000000),(0,1000000000)] 0 l=sk (0,1000000) (0,1000000000) l from e2];have e:((l.all isMoney)&&(pairs (nats l)).all fun p=>decide (p.1<=1000000))=sk (0,1000000) (0,1000000000) l:=e;rw[e];constructor
  ·rintro⟨h1,h2,h3,h4⟩;exact⟨h3,⟨by omega,by omega⟩,h4⟩
  ·rintro⟨h1,⟨h2,h3⟩,h4⟩;exact⟨by omega,by omega,h1,h4⟩
 ·exact⟨fun q=>absurd q.2.2.1 h,fun q=>absurd q.1 h⟩
theorem Uy(l:List Int):isPays l=iM ((0,30),[(0,675),(0,675),(0,1000000000000000000)]) l:=by
 rw[ki,su];show(decide (l.length<=90)&&(l.length%3==0&&((l.all fun z=>within z 0 1000000000000000000)&&(triples (nats l)).all fun p=>decide (p.1<=675)&&decide (p.2.1<=675))))=true↔l.length%3=0/\bC ((l.length/3:Nat):Int) (0,30)=true/\jv [(0,675),(0,675),(0,1000000000000000000)] 0 l=true;rw[cM,cM,decide_eq_true_eq,beq_iff_eq,iN];by_cases h:l.length%3=0
 ·have e:=CN 675 675 1000000000000000000 (by decide) (by decide) (l.length/3) l (by omega);have e2:=CL (0,675) (0,675) (0,1000000000000000000) (l.length/3) l 0 (by omega);rw[show jv [(0,675),(0,675),(0,1000000000000000000)] 0 l=o7 (0,675) (0,675) (0,1000000000000000000) l from e2];have e:((l.all fun z=>within z 0 1000000000000000000)&&(triples (nats l)).all fun p=>decide (p.1<=675)&&decide (p.2.1<=675))=o7 (0,675) (0,675) (0,1000000000000000000) l:=e;rw[e];constructor
  ·rintro⟨h1,h3,h4⟩;exact⟨h3,⟨by omega,by omega⟩,h4⟩
  ·rintro⟨h1,⟨h2,h3⟩,h4⟩;exact⟨by omega,h1,h4⟩
 ·exact⟨fun q=>absurd q.2.1 h,fun q=>absurd q.1 h⟩
open Vbahak
def o8:Nat->List Int->List Int->Call
 |0,[c,k],_=> .carrier c.toNat k.toNat
 |1,[k,num,den],_=> .rate k.toNat num.toNat den.toNat
 |2,[a,b,bp],_=> .charge a.toNat b.toNat bp.toNat
 |3,[t,a,v],row=> .issue t.toNat a.toNat v.toNat (triples (nats row))
 |4,[v],row=> .cut v.toNat (pairs (nats row))
 |5,[t,i],_=> .fly t.toNat i.toNat
 |6,[t,i],_=> .refund t.toNat i.toNat
 |7,[b,a],_=> .bill b.toNat a.toNat
 |8,[id,r],_=> .reject id.toNat r.toNat
 |9,[id],_=> .effect id.toNat
 |10,[a,b],_=> .owed a.toNat b.toNat
 |11,_,_=> .nets
 |12,_,_=> .plan
 |13,[c,f],_=> .suspend c.toNat f.toNat
 |14,_,_=> .clear
 |15,[c],_=> .account c.toNat
 |16,[a],_=> .books a.toNat
 |17,[t,i],_=> .part t.toNat i.toNat
 |18,[id],_=> .claim id.toNat
 |19,[b,a],_=> .unbilled b.toNat a.toNat
 |20,_,_=> .month
 |21,_,row=> .check (triples (nats row))
 |_,_,_=> .month
def mf(p:Nat):Bool:=(me p).isSome
def rowsOf(p:Nat)(plain row:List Int):List (List Int):=if mf p=true then[(p:Int)::plain,row] else[(p:Int)::plain]
theorem afz{b:Bool}{c:Call}:ranged b c=if b=true then IG c else Iv (-2):=rfl
theorem gG{l:List Int}(h:l.length=1):∃x,l=[x]:=match l,h with|[x],_=>⟨x,rfl⟩
theorem eg{l:List Int}(h:l.length=2):∃x y,l=[x,y]:=match l,h with|[x,y],_=>⟨x,y,rfl⟩
theorem kJ{l:List Int}(h:l.length=3):∃x y z,l=[x,y,z]:=match l,h with|[x,y,z],_=>⟨x,y,z,rfl⟩
theorem fC{p:Nat}{row:List Int}(h:me p=none)(plain:List Int):fits p plain row=(qv p plain).all id:=by
 unfold fits;rw[h];simp
theorem yV(a:Bool)(c:Call):ranged a c=if (a&&true)=true then IG c else Iv (-2):=by rw[mO];rfl
theorem nG(a b:Bool)(c:Call):ranged (a&&b) c=if (a&&(b&&true))=true then IG c else Iv (-2):=by rw[mO];rfl
theorem K2(a b d:Bool)(c:Call):ranged (a&&(b&&d)) c=if (a&&(b&&(d&&true)))=true then IG c else Iv (-2):=by rw[mO];rfl
theorem Uz(a b c d:Bool):((a&&(b&&(c&&true)))&&d)=(a&&(b&&(c&&d))):=by cases a<;>cases b<;>cases c<;>rfl
theorem UA(a d:Bool):((a&&true)&&d)=(a&&d):=by cases a<;>rfl
theorem UB(p:Nat)(plain row:List Int)(hp:p<=21)(hl:plain.length=(eE p).length):
  decode (rowsOf p plain row)=if fits p plain row=true then .ok (o8 p plain row) else .error (-2):=by
 match p,hp with
 |0,_=>obtain⟨x,y,rfl⟩:=eg hl;rw[fC rfl];show ranged _ _=_;exact nG _ _ _
 |1,_=>obtain⟨x,y,z,rfl⟩:=kJ hl;rw[fC rfl];show ranged _ _=_;exact K2 _ _ _ _
 |2,_=>obtain⟨x,y,z,rfl⟩:=kJ hl;rw[fC rfl];show ranged _ _=_;exact K2 _ _ _ _
 |3,_=>
  obtain⟨x,y,z,rfl⟩:=kJ hl
  show ranged (isTicket x&&(isCarrier y&&(isMoney z&&isParts row))) _=_
  rw[Uw]
  have e:fits 3 [x,y,z] row=(isTicket x&&(isCarrier y&&(isMoney z&&iM ((1,8),[(0,675),(0,1000000),(0,1000000000)]) row))):=by
   exact Uz _ _ _ _
  rw[e]
  rfl
 |4,_=>
  obtain⟨x,rfl⟩:=gG hl
  show ranged (isMoney x&&isFactors row) _=_
  rw[Ux]
  have e:fits 4 [x] row=(isMoney x&&iM ((1,8),[(0,1000000),(0,1000000000)]) row):=by
   exact UA _ _
  rw[e]
  rfl
 |5,_=>obtain⟨x,y,rfl⟩:=eg hl;rw[fC rfl];show ranged _ _=_;exact nG _ _ _
 |6,_=>obtain⟨x,y,rfl⟩:=eg hl;rw[fC rfl];show ranged _ _=_;exact nG _ _ _
 |7,_=>obtain⟨x,y,rfl⟩:=eg hl;rw[fC rfl];show ranged _ _=_;exact nG _ _ _
 |8,_=>obtain⟨x,y,rfl⟩:=eg hl;rw[fC rfl];show ranged _ _=_;exact nG _ _ _
 |9,_=>obtain⟨x,rfl⟩:=gG hl;rw[fC rfl];show ranged _ _=_;exact yV _ _
 |10,_=>obtain⟨x,y,rfl⟩:=eg hl;rw[fC rfl];show ranged _ _=_;exact nG _ _ _
 |11,_=>obtain rfl:=eB.mp hl;rw[fC rfl];rfl
 |12,_=>obtain rfl:=eB.mp hl;rw[fC rfl];rfl
 |13,_=>obtain⟨x,y,rfl⟩:=eg hl;rw[fC rfl];show ranged _ _=_;exact nG _ _ _
 |14,_=>obtain rfl:=eB.mp hl;rw[fC rfl];rfl
 |15,_=>obtain⟨x,rfl⟩:=gG hl;rw[fC rfl];show ranged _ _=_;exact yV _ _
 |16,_=>obtain⟨x,rfl⟩:=gG hl;rw[fC rfl];show ranged _ _=_;exact yV _ _
 |17,_=>obtain⟨x,y,rfl⟩:=eg hl;rw[fC rfl];show ranged _ _=_;exact nG _ _ _
 |18,_=>obtain⟨x,rfl⟩:=gG hl;rw[fC rfl];show ranged _ _=_;exact yV _ _
 |19,_=>obtain⟨x,y,rfl⟩:=eg hl;rw[fC rfl];show ranged _ _=_;exact nG _ _ _
 |20,_=>obtain rfl:=eB.mp hl;rw[fC rfl];rfl
 |21,_=>
  obtain rfl:=eB.mp hl
  show ranged (isPays row) _=_
  rw[Uy]
  have e:fits 21 [] row=iM ((0,30),[(0,675),(0,675),(0,1000000000000000000)]) row:=by
   rfl
  rw[e]
  rfl
 |n+22,h=>omega
def gX(s:State)(p:Nat)(plain row:List Int):State×List Int:=if fits p plain row=true then step s (o8 p plain row) else(s,[-2])
theorem UC(s:State)(p:Nat)(plain row:List Int)(hp:p<=21)(hl:plain.length=(eE p).length):A4 s (rowsOf p plain row)=gX s p plain row:=by
 show stepRows s (rowsOf p plain row)=_;unfold stepRows gX;rw[UB p plain row hp hl];by_cases h:fits p plain row=true
 ·rw[if_pos h,if_pos h]
 ·rw[if_neg h,if_neg h]
theorem UD(c:List (List Int)):PN c=c:=by
 rcases c with _|⟨l,c⟩
 ·rfl
 rcases l with _|⟨n,xs⟩
 ·rfl
 rcases n with k|k
 ·rcases k with _|_|_|_|_|_|_|_|_|_|_|_|_|_|_|_|_|_|_|_|_|_|k<;>rcases xs with _|⟨x,_|⟨y,_|⟨z,_|_⟩⟩⟩<;>rcases c with _|⟨r,_|_⟩<;>rfl
 ·rfl
theorem K3(l:List Int):ae4 l=lK iw l.length l:=by
 unfold ae4;cases lK iw l.length l with
 |none=>rfl
 |some cs=>
  show some (cs.map PN)=some cs
  rw[show cs.map PN=cs.map id from fW fun c _=>UD c,Bs]
theorem UE:∀q:Fin 22,iw ((q.val:Nat):Int)=some ((eE q.val).length,if mf q.val=true then 1 else 0):=by decide
theorem UG{p:Int}(h:¬(0<=p/\p<=21)):iw p=none:=by
 unfold iw;repeat rw[if_neg (by omega)]
theorem UH{p:Int}{n k:Nat}(h:iw p=some (n,k)):∃q:Nat,p=(q:Int)/\q<=21/\n=(eE q).length/\k=if mf q=true then 1 else 0:=by
 by_cases hp:0<=p/\p<=21
 ·have e:=UE ⟨p.toNat,by omega⟩;have e1:((p.toNat:Nat):Int)=p:=by omega
  simp only[e1] at e;rw[h] at e;simp only[uC,P2] at e;exact⟨p.toNat,e1.symm,by omega,e.1,e.2⟩
 ·rw[UG hp] at h;cases h
theorem UI{f:Nat}{p:Int}{r:List Int}{cs:List (List (List Int))}(h:lK iw (f+1) (p::r)=some cs):
  ∃(q:Nat) (row t:List Int) (cs':List (List (List Int))),p=(q:Int)/\q<=21/\(eE q).length<=r.length/\lK iw f t=some cs'/\
   cs=rowsOf q (r.take (eE q).length) row::cs'/\
   (if mf q=true then ∃m:Nat,r.drop (eE q).length=(m:Int)::(row++t)/\row.length=m else row=[]/\r.drop (eE q).length=t):=by
 unfold lK at h;cases hc:PyFlat.call iw (p::r) with
 |none=>rw[hc] at h;cases h
 |some ct=>
  obtain⟨c,t⟩:=ct
  rw[hc] at h
  simp only at h
  cases hs:lK iw f t with
  |none=>rw[hs] at h;cases h
  |some cs'=>
   rw[hs] at h
   simp only[uC] at h
   unfold PyFlat.call at hc
   dsimp only at hc
   cases yW:iw p with
   |none=>rw[yW] at hc;cases hc
   |some nk=>
    obtain⟨n,k⟩:=nk
    rw[yW] at hc
    simp only at hc
    obtain⟨q,hq,K4,hn,hk⟩:=UH yW
    by_cases aY:r.length<n
    ·rw[if_pos aY] at hc;cases hc
    ·rw[if_neg aY] at hc
     cases hr:mf q with
     |false=>
      rw[hr] at hk
      have hk:k=0:=hk
      subst hk
      simp only[PyFlat.rows,uC,P2] at hc
      obtain⟨h1,h2⟩:=hc
      refine⟨q,[],t,cs',hq,K4,by omega,hs,?_,?_⟩
      ·rw[<-h,<-h1,<-hn,hq]
       unfold rowsOf
       rw[hr]
       rfl
      ·rw[hr,if_neg df,<-hn]
       exact⟨rfl,h2⟩
     |true=>
      rw[hr] at hk
      have hk:k=1:=hk
      subst hk
      simp only[PyFlat.rows] at hc
      cases hd:r.drop n with
      |nil=>rw[hd] at hc;simp[Qr] at hc
      |cons m r2=>
       rw[hd] at hc
       by_cases hm:0<=m/\m.toNat<=r2.length
       ·simp only[Qr,if_pos hm,uC,P2] at hc
        obtain⟨h1,h2⟩:=hc
        refine⟨q,r2.take m.toNat,t,cs',hq,K4,by omega,hs,?_,?_⟩
        ·rw[<-h,<-h1,<-hn,hq]
         unfold rowsOf
         rw[hr]
         rfl
        ·rw[hr,if_pos rfl,<-hn,hd]
         refine⟨m.toNat,?_,by rw[iU];omega⟩
         rw[<-h2,List.take_append_drop]
         congr 1
         omega
       ·simp only[Qr,if_neg hm] at hc;cases hc
def sv(s:State)(cs:List (List (List Int))):List Int:=PyFlat.told (aft A4 s cs)
theorem UJ(s:State)(q:Nat)(plain row:List Int)(cs:List (List (List Int)))(hq:q<=21)(hl:plain.length=(eE q).length):
  sv s (rowsOf q plain row::cs)=(((gX s q plain row).2.length:Int)::(gX s q plain row).2)++sv (gX s q plain row).1 cs:=by
 unfold sv;show PyFlat.told ((A4 s (rowsOf q plain row)).2::aft A4 (A4 s (rowsOf q plain row)).1 cs)=_;rw[UC s q plain row hq hl]
 rfl
theorem UK{l:List Int}{cs:List (List (List Int))}(h:lK iw l.length l=some cs):HL l=sv Bo cs:=by
 unfold HL;rw[K3,h]
 rfl
theorem UL{l:List Int}(h:Pf l=true):∃cs,lK iw l.length l=some cs/\cs.length<=400/\(∀c∈cs,Pe c=true):=by
 unfold Pf at h;rw[K3] at h;cases e:lK iw l.length l with
 |none=>rw[e] at h;cases h
 |some cs=>
  rw[e] at h
  simp only[cM] at h
  have h2:aej cs=true:=h.2
  unfold aej at h2
  simp only[cM,decide_eq_true_eq,oC] at h2
  exact⟨cs,rfl,h2.2.2,h2.1⟩
open Vbahak
theorem sx{α:Type}{p:α->Bool}:∀{l:List α} {x:α},l.find? p=some x->x∈l/\p x=true:=fun h=>⟨AX h,PY h⟩
theorem K5{α:Type}{k:α->Nat}:∀{l:List α} {x:α},(l.map k).Nodup->x∈l->l.find? (fun y=>k y==k x)=some x
 |[],_,_,h=>by cases h
 |y::l,x,nd,h=>by
  rw[bQ,jI] at nd;rw[ke];rcases b0.mp h with e|e
  ·rw[e];simp
  ·have n:k y≠k x:=fun q=>nd.1 (by rw[q];exact iS e);have e2:(k y==k x)=false:=by simpa using n
   rw[e2];exact K5 nd.2 e
theorem CO{α:Type}{k:α->Nat}{l:List α}{c:Nat}:l.find? (fun y=>k y==c)=none↔c∉l.map k:=by
 rw[ae9];constructor
 ·intro h m;obtain⟨x,hx,e⟩:=bh.mp m;exact h x hx (by simpa using e)
 ·intro h x hx e;exact h (bh.mpr ⟨x,hx,by simpa using e⟩)
theorem vO(x:d8):∀l:List d8,(putCarrier x l).Perm (x::l)
 |[]=>Ib _
 |y::l=>by
  unfold putCarrier;split
  ·exact Ib _
  ·exact((vO x l).cons y).trans (List.Perm.swap x y l)
def qw(l:List d8):Prop:=l.Pairwise fun x y=>x.c<y.c
theorem K6{x:d8}:∀{l:List d8},qw l->(∀y∈l,y.c≠x.c)->qw (putCarrier x l)
 |[],_,_=>List.pairwise_singleton _ _
 |y::l,h,hn=>by
  obtain⟨h1,h2⟩:=xG.mp h;unfold putCarrier;split
  ·rename_i aY;refine xG.mpr ⟨fun z hz=> ?_,h⟩;rcases b0.mp hz with e|e
   ·rw[e];exact aY
   ·exact Nat.lt_trans aY (h1 z e)
  ·rename_i oW;have cw:=hn y bS;refine xG.mpr ⟨fun z hz=> ?_,K6 h2 fun z hz=>hn z (bR _ hz)⟩;rcases b0.mp ((vO x l).mem_iff.mp hz) with e|e
   ·rw[e];omega
   ·exact h1 z e
theorem qw.map{l:List d8}{f:d8->d8}(hf:∀x,(f x).c=x.c)(h:qw l):qw (l.map f):=by
 unfold qw;rw[gN];exact h.imp fun q=>by rw[hf,hf];exact q
structure Good(s:State):Prop where
 kK:qw s.carriers
 gY:s.carriers.length<=10
 rate:∀r∈s.rates,1<=r.2.1/\r.2.1<=1000000/\1<=r.2.2/\r.2.2<=1000000
 chg:∀g∈s.charges,g.2.2<=10000
 gZ:(s.tickets.map (·.t)).Nodup
 jw:s.tickets.length<=40
 hJ:∀x∈s.tickets,x.parts.length<=8
 part:∀x∈s.tickets,∀p∈x.parts,p.kept<=p.share
 ids:∀i x,s.claims[i]? =some x->x.id=i+1
 i5:s.claims.length<=200
 dep:∀x∈s.claims,x.depth<=3
 jY:∀x∈s.claims,x.next≠0->∃y,s.claims[x.next-1]? =some y/\y.depth=x.depth+1
theorem UM:Good Bo:=by
 refine⟨List.Pairwise.nil,by decide,?_,?_,Io,by decide,?_,?_,(fun i x h=>by have h:([]:List Claim)[i]? =some x:=h;simp at h),by decide,?_,?_⟩;all_goals (intro x h;exact absurd h uG)
theorem Good.claimOf{s:State}(g:Good s){i:Nat}(hi:1<=i):jJ s i=s.claims[i-1]? :=by
 unfold jJ;cases e:s.claims[i-1]? with
 |none=>
  rw[ae9]
  intro x hx
  obtain⟨j,hj⟩:=fH hx
  have:=g.ids j x hj
  have aY:=(cJ.mp hj).1
  have oW:=Pd.mp e
  simp
  omega
 |some x=>
  have UN:=g.ids _ x e
  have hm:=bP e
  have nd:(s.claims.map (·.id)).Nodup:=by
   rw[uU,gN,Pc];intro a b ha hb hab;have h1:=g.ids a _ (cE ha);have h2:=g.ids b _ (cE hb);omega
  have:=K5 (k:=fun y:Claim=>y.id) nd hm
  have e3:x.id=i:=by omega
  rw[e3] at this
  exact this
theorem Good.UO{s:State}(g:Good s){i:Nat}{x:Claim}(h:jJ s i=some x):s.claims[i-1]? =some x/\x.id=i/\1<=i:=by
 obtain⟨hm,hp⟩:=sx h;have e:x.id=i:=by simpa using hp
 obtain⟨j,hj⟩:=fH hm;have:=g.ids j x hj;have e2:i-1=j:=by omega
 rw[e2];exact⟨hj,e,by omega⟩
theorem UP{share bp:Nat}(h:bp<=10000):share*bp/10000<=share:=by
 refine ae2 ?_;rw[x6];exact Nat.mul_le_mul_right _ h
theorem Good.charge{s:State}(g:Good s)(a b:Nat):chargeOf s a b<=10000:=by
 unfold chargeOf;cases e:s.charges.find? (fun x=>x.1==a&&x.2.1==b) with
 |none=>exact du _
 |some x=>exact g.chg x (sx e).1
theorem Good.setPart{s:State}(g:Good s){t i:Nat}{p:bT}(hp:p.kept<=p.share):Good (setPart s t i p):=by
 refine⟨g.kK,g.gY,g.rate,g.chg,?_,?_,?_,?_,g.ids,g.i5,g.dep,g.jY⟩
 ·show((s.tickets.map fun x:bI=>if x.t=t then {x with parts:=x.parts.set i p} else x).map fun x:bI=>x.t).Nodup;rw[bw];have e:((fun x:bI=>x.t)∘fun x:bI=>if x.t=t then {x with parts:=x.parts.set i p} else x)=fun x:bI=>x.t:=by
   funext x
   show(if x.t=t then {x with parts:=x.parts.set i p} else x:bI).t=x.t;split<;>rfl
  rw[e];exact g.gZ
 ·show(s.tickets.map _).length<=40;rw[ao];exact g.jw
 ·intro x hx;obtain⟨y,hy,e⟩:=bh.mp hx;subst e;split
  ·show(y.parts.set i p).length<=8;rw[uJ];exact g.hJ y hy
  ·exact g.hJ y hy
 ·intro x hx q hq;obtain⟨y,hy,e⟩:=bh.mp hx;subst e;split at hq
  ·rcases aeu hq with e|e
   ·exact g.part y hy q e
   ·rw[e];exact hp
  ·exact g.part y hy q hq
theorem Good.UQ{s:State}(_:Good s){t:Nat}{x:bI}(h:ticketOf s t=some x):x∈s.tickets/\x.t=t:=by
 obtain⟨h1,h2⟩:=sx h;exact⟨h1,by simpa using h2⟩
theorem Good.CP{s:State}(g:Good s){t i:Nat}{k:bI->bT->State×List Int}(hk:∀x p,x∈s.tickets->p∈x.parts->Good (k x p).1):Good (onPart s t i k).1:=by
 unfold onPart;cases h:ticketOf s t with
 |none=>exact g
 |some x=>
  dsimp only
  cases hp:x.parts[i]? with
  |none=>exact g
  |some p=>exact hk x p (g.UQ h).1 (bP hp)
theorem Good.CQ{s:State}(g:Good s){id:Nat}{k:Claim->State×List Int}(hk:∀x,jJ s id=some x->Good (k x).1):Good (onClaim s id k).1:=by
 unfold onClaim;cases h:jJ s id with
 |none=>exact g
 |some x=>exact hk x h
theorem Good.reject{s:State}(g:Good s){id r:Nat}{x:Claim}(hx:jJ s id=some x)(hd:¬MOSTDEPTH<=x.depth)(hn:¬IH<=s.claims.length):
  Good {s with claims:=(s.claims.map fun y=>if y.id=id then {y with next:=(claimNew s 0 x.of x.to r).id} else y)++[{claimNew s 0 x.of x.to r with depth:=x.depth+1,parent:=id}]}:=by
 obtain⟨h1,h2,h3⟩:=g.UO hx;have hd:x.depth<3:=Ia hd;have hn:s.claims.length<200:=Ia hn;refine⟨g.kK,g.gY,g.rate,g.chg,g.gZ,g.jw,g.hJ,g.part,?_,?_,?_,?_⟩
 ·intro i y hy;rw[aeS] at hy;split at hy
  ·rw[aS] at hy;obtain⟨z,hz,e⟩:=oy.mp hy;have:=g.ids i z hz;subst e;split<;>exact this
  ·rename_i hi;rw[ao] at hi hy;have e:i-s.claims.length=0:=by
    have:=(cJ.mp hy).1;simp at this;omega
   rw[e] at hy;have hy:some _=some y:=hy;cases hy;show s.claims.length+1+0=i+1;omega
 ·show(Bz _ _++[_]).length<=200;rw[dJ,ao,uz];omega
 ·intro y hy;rcases ff.mp hy with q|q
  ·obtain⟨z,hz,e⟩:=bh.mp q;have:=g.dep z hz;subst e;split<;>exact this
  ·rw[ik.mp q];show x.depth+1<=3;omega
 ·intro y hy nH;rcases ff.mp hy with q|q
  ·obtain⟨z,hz,e⟩:=bh.mp q;obtain⟨j,hj⟩:=fH hz;have UN:=g.ids j z hj;by_cases yX:z.id=id
   ·rw[if_pos yX] at e;subst e;have UR:j=id-1:=by omega
    rw[UR,h1] at hj;cases hj;refine⟨{claimNew s 0 x.of x.to r with depth:=x.depth+1,parent:=id},?_,?_⟩
    ·show(Bz _ _++[_])[s.claims.length+1+0-1]? =_;rw[qV (by rw[ao];omega),ao];have e0:s.claims.length+1+0-1-s.claims.length=0:=by omega
     rw[e0]
     rfl
    ·rfl
   ·rw[if_neg yX] at e;subst e;obtain⟨w,hw,vP⟩:=g.jY z hz nH;have aY:=(cJ.mp hw).1;refine⟨if w.id=id then {w with next:=(claimNew s 0 x.of x.to r).id} else w,?_,?_⟩
    ·rw[ox (by rw[ao];exact aY),aS,hw]
     rfl
    ·split<;>exact vP
  ·rw[ik.mp q] at nH;exact absurd rfl nH
theorem US{l:List bT}{f:bT->Nat->bT}{q:bT}(h:q∈l.zipIdx.map fun p=>f p.1 p.2):∃p i,p∈l/\q=f p i:=by
 obtain⟨⟨p,i⟩,hp,e⟩:=bh.mp h;exact⟨p,i,(List.mem_zipIdx hp).2.2▸afo _,e.symm⟩
theorem Good.bill{s:State}(g:Good s){b a:Nat}{r:Nat×Nat}(hn:¬IH<s.claims.length+(billable s b a).length):
  Good {s with claims:=s.claims++(billable s b a).zipIdx.map fun z=>claimNew s z.2 b a (converted (z.1.2.2.share-z.1.2.2.kept) r.1 r.2),tickets:=s.tickets.map fun x=>if x.issuer=a then {x with parts:=x.parts.zipIdx.map fun p=>if p.1.carrier=b/\p.1.stage=2 then {p.1 with stage:=3,claim:=s.claims.length+1+placeIn (billable s b a) x.t p.2} else p.1} else x}:=by
 have hn:s.claims.length+(billable s b a).length<=200:=Nat.le_of_not_lt hn;refine⟨g.kK,g.gY,g.rate,g.chg,?_,?_,?_,?_,?_,?_,?_,?_⟩
 ·show((s.tickets.map fun x:bI=>if x.issuer=a then {x with parts:=x.parts.zipIdx.map fun p=>if p.1.carrier=b/\p.1.stage=2 then {p.1 with stage:=3,claim:=s.claims.length+1+placeIn (billable s b a) x.t p.2} else p.1} else x).map fun x:bI=>x.t).Nodup;rw[bw];rw[show s.tickets.map _=s.tickets.map fun x:bI=>x.t from fW fun x _=>by
   show(if x.issuer=a then _ else x:bI).t=x.t;split<;>rfl]
  exact g.gZ
 ·show(s.tickets.map _).length<=40;rw[ao];exact g.jw
 ·intro x hx;obtain⟨y,hy,e⟩:=bh.mp hx;subst e;split
  ·show(y.parts.zipIdx.map _).length<=8;rw[ao,oz];exact g.hJ y hy
  ·exact g.hJ y hy
 ·intro x hx q hq;obtain⟨y,hy,e⟩:=bh.mp hx;subst e;split at hq
  ·obtain⟨⟨p,i⟩,hp,e⟩:=bh.mp hq;have hp':p∈y.parts:=List.fst_mem_of_mem_zipIdx hp;have:=g.part y hy p hp';subst e;dsimp only;split<;>exact this
  ·exact g.part y hy q hq
 ·intro i y hy;rw[aeS] at hy;split at hy
  ·exact g.ids i y hy
  ·rename_i hi;rw[aS,qZ] at hy;obtain⟨z,hz,e⟩:=oy.mp hy;obtain⟨z',hz',e'⟩:=oy.mp hz;subst e;subst e';show s.claims.length+1+(0+(i-s.claims.length))=i+1;omega
 ·show(s.claims++_).length<=200;rw[dJ,ao,oz];exact hn
 ·intro y hy;rcases ff.mp hy with q|q
  ·exact g.dep y q
  ·obtain⟨z,_,e⟩:=bh.mp q;subst e;exact du _
 ·intro y hy nH;rcases ff.mp hy with q|q
  ·obtain⟨w,hw,vP⟩:=g.jY y q nH;have aY:=(cJ.mp hw).1;exact⟨w,by rw[ox aY];exact hw,vP⟩
  ·obtain⟨z,_,e⟩:=bh.mp q;subst e;exact absurd rfl nH
theorem Good.clear{s:State}(g:Good s){f:Claim->Bool}{h:d8->d8}(hh:∀x,(h x).c=x.c){m:Nat}:
  Good {s with month:=m,claims:=s.claims.map (fun x=>if f x=true then {x with settled:=true} else x),carriers:=s.carriers.map h}:=by
 refine⟨g.kK.map hh,by show(s.carriers.map h).length<=10;rw[ao];exact g.gY,g.rate,g.chg,g.gZ,g.jw,g.hJ,g.part,?_,?_,?_,?_⟩
 ·intro i y hy;rw[aS] at hy;obtain⟨z,hz,e⟩:=oy.mp hy;have:=g.ids i z hz;subst e;split<;>exact this
 ·show(s.claims.map _).length<=200;rw[ao];exact g.i5
 ·intro y hy;obtain⟨z,hz,e⟩:=bh.mp hy;have:=g.dep z hz;subst e;split<;>exact this
 ·intro y hy nH;obtain⟨z,hz,e⟩:=bh.mp hy;have UT:z.next≠0:=by subst e;split at nH<;>exact nH
  obtain⟨w,hw,vP⟩:=g.jY z hz UT;refine⟨if f w=true then {w with settled:=true} else w,?_,?_⟩
  ·have en:y.next=z.next:=by subst e;split<;>rfl
   rw[en,aS,hw]
   rfl
  ·have ed:y.depth=z.depth:=by subst e;split<;>rfl
   rw[ed,<-vP];split<;>rfl
theorem vQ:∀l:List Nat,(triples l).length<=l.length/3
 |[]=>du _
 |[_]=>du _
 |[_,_]=>du _
 |a::b::c::r=>by
  have ih:=vQ r;show(triples r).length+1<=(r.length+1+1+1)/3;omega
theorem vR{x y z a b c d e f:Int}(h:(bC x (a,b)&&(bC y (c,d)&&(bC z (e,f)&&true)))=true):(a<=x/\x<=b)/\(c<=y/\y<=d)/\e<=z/\z<=f:=by
 rw[mO,cM,cM] at h;exact⟨iN.mp h.1,iN.mp h.2.1,iN.mp h.2.2⟩
theorem UU{s:State}(g:Good s)(p:Nat)(plain row:List Int)(hp:p<=21)(hl:plain.length=(eE p).length):Good (gX s p plain row).1:=by
 unfold gX;split
 case isFalse=>exact g
 case isTrue hf=>
 match p,hp with
 |0,_=>
  obtain⟨c,k,rfl⟩:=eg hl
  show Good (step s (.carrier c.toNat k.toNat)).1
  unfold step
  dsimp only
  split
  ·exact g
  ·rename_i hk
   split
   ·exact g
   ·rename_i hn
    have hn:s.carriers.length<10:=Ia hn
    have hk:(carrierOf s c.toNat)=none:=by
     unfold known at hk;cases e:carrierOf s c.toNat with
     |none=>rfl
     |some x=>rw[e] at hk;exact absurd rfl hk
    have hk:=CO.mp hk
    refine⟨K6 g.kK fun y hy e=>hk (bh.mpr ⟨y,hy,e⟩),?_,g.rate,g.chg,g.gZ,g.jw,g.hJ,g.part,g.ids,g.i5,g.dep,g.jY⟩
    show(putCarrier _ s.carriers).length<=10
    rw[(vO _ _).length_eq,bH]
    omega
 |1,_=>
  obtain⟨k,n,d,rfl⟩:=kJ hl
  rw[fC rfl] at hf
  have hf:=vR hf
  refine⟨g.kK,g.gY,?_,g.chg,g.gZ,g.jw,g.hJ,g.part,g.ids,g.i5,g.dep,g.jY⟩
  intro r hr
  have hr:r∈(k.toNat,n.toNat,d.toNat)::s.rates.filter fun x=>x.1 !=k.toNat:=hr
  rcases b0.mp hr with e|e
  ·subst e
   dsimp only
   omega
  ·exact g.rate r (c9.mp e).1
 |2,_=>
  obtain⟨a,b,bp,rfl⟩:=kJ hl
  rw[fC rfl] at hf
  have hf:=vR hf
  show Good (step s (.charge a.toNat b.toNat bp.toNat)).1
  unfold step
  dsimp only
  split
  ·exact g
  ·split
   ·exact g
   ·refine⟨g.kK,g.gY,g.rate,?_,g.gZ,g.jw,g.hJ,g.part,g.ids,g.i5,g.dep,g.jY⟩
    intro r hr
    rcases b0.mp hr with e|e
    ·subst e
     dsimp only
     omega
    ·exact g.chg r (c9.mp e).1
 |3,_=>
  obtain⟨t,a,v,rfl⟩:=kJ hl
  have kM:row.length<=24:=by
   unfold fits at hf;rw[cM] at hf;have h2:iM ((1,8),[(0,675),(0,1000000),(0,1000000000)]) row=true:=hf.2;rw[su] at h2;obtain⟨h3,h4,_⟩:=h2;rw[iN] at h4;have h3:row.length%3=0:=h3;have h4:(1:Int)<=((row.length/3:Nat):Int)/\((row.length/3:Nat):Int)<=8:=h4;omega
  show Good (step s (.issue t.toNat a.toNat v.toNat (triples (nats row)))).1
  unfold step
  dsimp only
  split
  ·exact g
  ·split
   ·exact g
   ·rename_i hk
    split
    ·exact g
    ·rename_i hn
     have hn:s.tickets.length<40:=Ia hn
     have hk:ticketOf s t.toNat=none:=by
      cases e:ticketOf s t.toNat with
      |none=>rfl
      |some x=>rw[e] at hk;exact absurd rfl hk
     have hk:=CO.mp hk
     refine⟨g.kK,g.gY,g.rate,g.chg,?_,?_,?_,?_,g.ids,g.i5,g.dep,g.jY⟩
     ·show(Bz (fun x:bI=>x.t) (s.tickets++[_])).Nodup
      rw[cZ,xH]
      refine⟨g.gZ,by simp,fun x hx y hy e=> ?_⟩
      have:y=t.toNat:=by simpa using hy
      exact hk (by rw[<-this,<-e];exact hx)
     ·show(s.tickets++[_]).length<=40
      rw[dJ,uz]
      omega
     ·intro x hx
      rcases ff.mp hx with q|q
      ·exact g.hJ x q
      ·rw[ik.mp q]
       show(Bz _ _).length<=8
       rw[ao,rk]
       have:=vQ (nats row)
       have e:(nats row).length=row.length:=by simp[nats]
       omega
     ·intro x hx p hp
      rcases ff.mp hx with q|q
      ·exact g.part x q p hp
      ·rw[ik.mp q] at hp
       obtain⟨z,_,e⟩:=bh.mp hp
       subst e
       exact du _
 |4,_=>obtain⟨x,rfl⟩:=gG hl;exact g
 |5,_=>
  obtain⟨t,i,rfl⟩:=eg hl
  refine g.CP fun x p hx hp=> ?_
  dsimp only
  split
  ·exact g
  ·refine g.setPart ?_
   dsimp only
   split
   ·exact du _
   ·exact UP (g.charge _ _)
 |6,_=>
  obtain⟨t,i,rfl⟩:=eg hl
  refine g.CP fun x p hx hp=> ?_
  split
  ·exact g
  ·exact g.setPart (g.part x hx p hp)
 |7,_=>
  obtain⟨b,a,rfl⟩:=eg hl
  show Good (step s (.bill b.toNat a.toNat)).1
  unfold step
  dsimp only
  split
  ·split
   ·exact g
   ·split
    ·exact g
    ·split
     ·exact g
     ·rename_i hn
      exact g.bill hn
  ·exact g
 |8,_=>
  obtain⟨id,r,rfl⟩:=eg hl
  refine g.CQ fun x hx=> ?_
  dsimp only
  split
  ·exact g
  ·rename_i h7
   split
   ·exact g
   ·split
    ·exact g
    ·rename_i h6
     exact g.reject hx (fun q=>h7 (.inr (.inl q))) h6
 |9,_=>obtain⟨x,rfl⟩:=gG hl;exact g.CQ fun _ _=>g
 |10,_=>
  obtain⟨a,b,rfl⟩:=eg hl
  show Good (step s (.owed a.toNat b.toNat)).1
  unfold step
  dsimp only
  split<;>exact g
 |11,_=>exact g
 |12,_=>exact g
 |13,_=>
  obtain⟨c,f,rfl⟩:=eg hl
  show Good (step s (.suspend c.toNat f.toNat)).1
  unfold step
  dsimp only
  split
  ·exact g
  ·refine⟨g.kK.map (fun x=>by split<;>rfl),?_,g.rate,g.chg,g.gZ,g.jw,g.hJ,g.part,g.ids,g.i5,g.dep,g.jY⟩
   show(s.carriers.map _).length<=10
   rw[ao]
   exact g.gY
 |14,_=>exact g.clear (h:=fun x=>{x with paid:=x.paid+paidBy (gQ (netsOf s)) x.c,got:=x.got+gotBy (gQ (netsOf s)) x.c}) (fun x=>rfl)
 |15,_=>
  obtain⟨c,rfl⟩:=gG hl
  show Good (step s (.account c.toNat)).1
  unfold step
  dsimp only
  split<;>exact g
 |16,_=>
  obtain⟨c,rfl⟩:=gG hl
  show Good (step s (.books c.toNat)).1
  unfold step
  dsimp only
  split<;>exact g
 |17,_=>obtain⟨t,i,rfl⟩:=eg hl;exact g.CP fun _ _ _ _=>g
 |18,_=>obtain⟨x,rfl⟩:=gG hl;exact g.CQ fun _ _=>g
 |19,_=>
  obtain⟨a,b,rfl⟩:=eg hl
  show Good (step s (.unbilled a.toNat b.toNat)).1
  unfold step
  dsimp only
  split
  ·exact g
  ·split<;>exact g
 |20,_=>exact g
 |21,_=>
  show Good (step s (.check (triples (nats row)))).1
  unfold step
  dsimp only
  split<;>exact g
 |n+22,h=>omega
open Vbahak
def hU{α:Type}(xs:List α)(a k:Nat):List α:=(cN ((xs.length-a+k-1)/k)).filterMap fun i=>xs[a+k*i]?
def gH{α:Type}(xs:List α)(a k n:Nat):List α:=(cN n).filterMap fun i=>xs[a+k*i]?
theorem sy{α:Type}(xs:List α){a n:Nat}(h:xs.length=3*n)(ha:a<3):hU xs a 3=gH xs a 3 n:=by
 unfold hU gH;have e:(xs.length-a+3-1)/3=n:=by omega
 rw[e]
theorem K7{α:Type}(xs:List α){a n:Nat}(h:xs.length=2*n)(ha:a<2):hU xs a 2=gH xs a 2 n:=by
 unfold hU gH;have e:(xs.length-a+2-1)/2=n:=by omega
 rw[e]
theorem vS{α:Type}(xs:List α)(a k n:Nat){x:α}(h:xs[a]? =some x):gH xs a k (n+1)=x::gH (xs.drop k) a k n:=by
 unfold gH;rw[xy,jf];rw[show a+k*0=a by omega,h];simp only[pN]
 congr 1
 have e:((fun i=>xs[a+k*i]?)∘rE)=fun i=>(xs.drop k)[a+k*i]? :=by
  funext i
  show xs[a+k*(i+1)]? =(xs.drop k)[a+k*i]?;rw[List.getElem?_drop]
  congr 1
  rw[IF];omega
 rw[e]
theorem yY:∀(n:Nat) (l:List Int),l.length=3*n->(∀z∈l,0<=z)->
  gH l 0 3 n=(triples (nats l)).map (fun p=>(p.1:Int))/\gH l 1 3 n=(triples (nats l)).map (fun p=>(p.2.1:Int))/\gH l 2 3 n=(triples (nats l)).map (fun p=>(p.2.2:Int))/\(triples (nats l)).length=n
 |0,l,h,_=>by
  have:l=[]:=eB.mp (by omega);subst this;exact⟨rfl,rfl,rfl,rfl⟩
 |n+1,l,h,h0=>by
  match l,h with
  |x::y::z::r,h=>
   have hr:r.length=3*n:=by simp at h;omega
   have hx:=h0 x (by simp)
   have hy:=h0 y (by simp)
   have hz:=h0 z (by simp)
   obtain⟨i1,i2,i3,i4⟩:=yY n r hr fun w hw=>h0 w (bR _ (bR _ (bR _ hw)))
   refine⟨?_,?_,?_,?_⟩
   ·rw[vS _ 0 3 n (x:=x) rfl]
    show x::gH r 0 3 n=((x.toNat:Nat):Int)::(triples (nats r)).map (fun p=>(p.1:Int))
    rw[i1];congr 1;omega
   ·rw[vS _ 1 3 n (x:=y) rfl]
    show y::gH r 1 3 n=((y.toNat:Nat):Int)::(triples (nats r)).map (fun p=>(p.2.1:Int))
    rw[i2];congr 1;omega
   ·rw[vS _ 2 3 n (x:=z) rfl]
    show z::gH r 2 3 n=((z.toNat:Nat):Int)::(triples (nats r)).map (fun p=>(p.2.2:Int))
    rw[i3];congr 1;omega
   ·show(triples (nats r)).length+1=n+1
    rw[i4]
  |[],h=>simp at h
  |[_],h=>simp at h;omega
  |[_,_],h=>simp at h;omega
theorem K8:∀(n:Nat) (l:List Int),l.length=2*n->(∀z∈l,0<=z)->
  gH l 0 2 n=(pairs (nats l)).map (fun p=>(p.1:Int))/\gH l 1 2 n=(pairs (nats l)).map (fun p=>(p.2:Int))/\(pairs (nats l)).length=n
 |0,l,h,_=>by
  have:l=[]:=eB.mp (by omega);subst this;exact⟨rfl,rfl,rfl⟩
 |n+1,l,h,h0=>by
  match l,h with
  |x::y::r,h=>
   have hr:r.length=2*n:=by simp at h;omega
   have hx:=h0 x (by simp)
   have hy:=h0 y (by simp)
   obtain⟨i1,i2,i4⟩:=K8 n r hr fun w hw=>h0 w (bR _ (bR _ hw))
   refine⟨?_,?_,?_⟩
   ·rw[vS _ 0 2 n (x:=x) rfl]
    show x::gH r 0 2 n=((x.toNat:Nat):Int)::(pairs (nats r)).map (fun p=>(p.1:Int))
    rw[i1];congr 1;omega
   ·rw[vS _ 1 2 n (x:=y) rfl]
    show y::gH r 1 2 n=((y.toNat:Nat):Int)::(pairs (nats r)).map (fun p=>(p.2:Int))
    rw[i2];congr 1;omega
   ·show(pairs (nats r)).length+1=n+1
    rw[i4]
  |[],h=>simp at h
  |[_],h=>simp at h;omega
theorem UW{s:State}{i k:Nat}{x:Claim}(h:claimOf s i=some x):lI s (k+1) i=(x.amount:Int)-(if x.next=0 then 0 else lI s k x.next):=by
 show(match claimOf s i with|none=>0|some x=>(x.amount:Int)-(if x.next=0 then 0 else lI s k x.next))=_;rw[h]
open Vbahak
inductive Way{α:Type}:List α->List α->List α->Prop
 |nil:Way [] [] []
 |left {L c r:List α} (a:α):Way L c r->Way (a::L) (a::c) r
 |right {L c r:List α} (a:α):Way L c r->Way (a::L) c (a::r)
section
variable{α:Type}
theorem sG:∀{L c r:List α},(c,r)∈ways L↔Way L c r
 |[],c,r=>by
  constructor
  ·intro h;have e:(c,r)=([],[]):=by simpa[ways] using h
   cases e;exact .nil
  ·intro h;cases h;simp[ways]
 |a::L,c,r=>by
  constructor
  ·intro h;simp only[ways,ff,bh] at h;rcases h with⟨⟨x,y⟩,hm,e⟩|⟨⟨x,y⟩,hm,e⟩
   ·cases e;exact .left a (sG.mp hm)
   ·cases e;exact .right a (sG.mp hm)
  ·intro h;simp only[ways,ff,bh];cases h with
   |left _ w=>exact .inl ⟨_,sG.mpr w,rfl⟩
   |right _ w=>exact .inr ⟨_,sG.mpr w,rfl⟩
theorem Way.symm{L c r:List α}(w:Way L c r):Way L r c:=by
 induction w with
 |nil=>exact .nil
 |left a _ ih=>exact .right a ih
 |right a _ ih=>exact .left a ih
theorem Way.none:∀L:List α,Way L [] L
 |[]=> .nil
 |a::L=> .right a (Way.none L)
theorem Way.all(L:List α):Way L L []:=(Way.none L).symm
theorem Way.of_none:∀{L r:List α},Way L [] r->r=L
 |[],_,h=>by cases h;rfl
 |a::L,_,h=>by cases h with|right _ w=>rw[Way.of_none w]
theorem Way.len{L c r:List α}(w:Way L c r):L.length=c.length+r.length:=by
 induction w with
 |nil=>rfl
 |left a _ ih=>simp only[bH];omega
 |right a _ ih=>simp only[bH];omega
theorem Way.yZ{L c r:List α}(w:Way L c r):c.Sublist L:=by
 induction w with
 |nil=>exact .slnil
 |left a _ ih=>exact ih.cons_cons a
 |right a _ ih=>exact ih.cons a
theorem Way.UX{L c r:List α}(w:Way L c r):r.Sublist L:=w.symm.yZ
theorem Way.join:∀{L c r d e:List α},Way L c r->Way r d e->∃f,Way L f e/\Way f c d
 |_,_,_,_,_,.nil,w=>by cases w;exact⟨[],.nil,.nil⟩
 |_,_,_,_,_,.left a u,w=>by
  obtain⟨f,h1,h2⟩:=Way.join u w;exact⟨a::f,.left a h1,.left a h2⟩
 |_,_,_,_,_,.right a u,w=>by
  cases w with
  |left _ w=>obtain⟨f,h1,h2⟩:=Way.join u w;exact⟨a::f,.left a h1,.right a h2⟩
  |right _ w=>obtain⟨f,h1,h2⟩:=Way.join u w;exact⟨f,.right a h1,h2⟩
theorem Way.apart:∀{L f e c d:List α},Way L f e->Way f c d->∃r,Way L c r/\Way r d e
 |_,_,_,_,_,.nil,w=>by cases w;exact⟨[],.nil,.nil⟩
 |_,_,_,_,_,.left a u,w=>by
  cases w with
  |left _ w=>obtain⟨r,h1,h2⟩:=Way.apart u w;exact⟨r,.left a h1,h2⟩
  |right _ w=>obtain⟨r,h1,h2⟩:=Way.apart u w;exact⟨a::r,.right a h1,.left a h2⟩
 |_,_,_,_,_,.right a u,w=>by
  obtain⟨r,h1,h2⟩:=Way.apart u w;exact⟨a::r,.right a h1,.right a h2⟩
end
theorem y4(p:Nat×Int)(l:aM):total (p::l)=p.2+total l:=rfl
theorem Way.total{L c r:aM}(w:Way L c r):total L=total c+total r:=by
 induction w with
 |nil=>rfl
 |left a _ ih=>rw[y4,y4,ih];omega
 |right a _ ih=>rw[y4,y4,ih];omega
theorem K9{α:Type}(f:α->Nat)(n:Nat):∀{l:List α},(∀p∈l,f p<=n)->l.foldr (fun p m=>max (f p) m) 0<=n
 |[],_=>du _
 |p::l,h=>by
  have h1:=h p bS;have h2:=K9 f n (l:=l) (fun q hq=>h q (bR _ hq));simp only[Bh];omega
theorem y6{α:Type}(f:α->Nat){p:α}:∀{l:List α},p∈l->f p<=l.foldr (fun p m=>max (f p) m) 0
 |q::l,h=>by
  simp only[Bh];rcases b0.mp h with rfl|h
  ·omega
  ·have:=y6 f h;omega
theorem y8{α:Type}(f:α->Nat):∀{l:List α},0<l.foldr (fun p m=>max (f p) m) 0->∃p∈l,f p=l.foldr (fun p m=>max (f p) m) 0
 |[],h=>by simp at h
 |q::l,h=>by
  simp only[Bh] at h ⊢;by_cases c:f q<=l.foldr (fun p m=>max (f p) m) 0
  ·obtain⟨p,hp,e⟩:=y8 f (l:=l) (by omega);exact⟨p,bR _ hp,by omega⟩
  ·exact⟨q,bS,by omega⟩
theorem y9{a:Nat×Int}{l c r:aM}:(c,r)∈groupsOf (a::l)↔∃d,c=a::d/\Way l d r/\total c=0:=by
 unfold groupsOf;rw[c9,bh];constructor
 ·rintro⟨⟨⟨x,y⟩,hm,e⟩,ht⟩;cases e;exact⟨x,rfl,sG.mp hm,by simpa using ht⟩
 ·rintro⟨d,rfl,w,t⟩;exact⟨⟨(d,r),sG.mpr w,rfl⟩,by simpa using t⟩
theorem sI(k:Nat):most k []=0:=by cases k<;>rfl
theorem La{k:Nat}{a:Nat×Int}{l d r:aM}(w:Way l d r)(hc:total (a::d)=0)(hr:total r=0):1+most k r<=most (k+1) (a::l):=by
 have:=y6 (fun p:aM×aM=>if total p.2=0 then 1+most k p.2 else 0) (y9.mpr ⟨d,rfl,w,hc⟩);simp only[hr,if_true] at this;exact this
theorem Lb{k:Nat}{a:Nat×Int}{l:aM}(h:0<most (k+1) (a::l)):∃d r,Way l d r/\total (a::d)=0/\total r=0/\most (k+1) (a::l)=1+most k r:=by
 obtain⟨⟨c,r⟩,hp,e⟩:=y8 (fun p:aM×aM=>if total p.2=0 then 1+most k p.2 else 0) (l:=groupsOf (a::l)) h;obtain⟨d,rfl,w,t⟩:=y9.mp hp;have e2:most (k+1) (a::l)=if total r=0 then 1+most k r else 0:=e.symm
 by_cases hr:total r=0
 ·rw[if_pos hr] at e2;exact⟨d,r,w,t,hr,e2⟩
 ·rw[if_neg hr] at e2;omega
theorem Lc:∀(k j:Nat) (l:aM),l.length<=k->l.length<=j->most k l=most j l
 |0,j,l,h,_=>by
  have:l=[]:=eB.mp (by omega);subst this;rw[sI,sI]
 |k+1,0,l,_,h=>by
  have:l=[]:=eB.mp (by omega);subst this;rw[sI,sI]
 |k+1,j+1,[],_,_=>by rw[sI,sI]
 |k+1,j+1,a::l,h1,h2=>by
  have key:∀r d,Way l d r->most k r=most j r:=fun r d w=>by
   have:=w.len;simp only[bH] at h1 h2;exact Lc k j r (by omega) (by omega)
  have le:∀(k j:Nat),(∀r d,Way l d r->most k r=most j r)->most (k+1) (a::l)<=most (j+1) (a::l):=fun k j key=>by
   by_cases h:0<most (k+1) (a::l)
   ·obtain⟨d,r,w,t,hr,e⟩:=Lb h;rw[e,key r d w];exact La w t hr
   ·omega
  exact P5 (le k j key) (le j k fun r d w=>(key r d w).symm)
def gJ(l:aM):Nat:=most l.length l
theorem sJ{k:Nat}{l:aM}(h:l.length<=k):most k l=gJ l:=Lc _ _ _ h (aI _)
theorem Ld{a:Nat×Int}{l d r:aM}(w:Way l d r)(hc:total (a::d)=0)(hr:total r=0):1+gJ r<=gJ (a::l):=by
 have h:=La (k:=l.length) w hc hr;rw[sJ (l:=r) (by have:=w.len;omega)] at h;exact h
theorem CS{a:Nat×Int}{l:aM}(h:0<gJ (a::l)):∃d r,Way l d r/\total (a::d)=0/\total r=0/\gJ (a::l)=1+gJ r:=by
 obtain⟨d,r,w,t,hr,e⟩:=Lb (k:=l.length) h;refine⟨d,r,w,t,hr,?_⟩;rw[sJ (l:=r) (by have:=w.len;omega)] at e;exact e
theorem za{l:aM}(h:l≠[])(t:total l=0):1<=gJ l:=by
 cases l with
 |nil=>exact absurd rfl h
 |cons a l=>have:=Ld (a:=a) (Way.all l) t (r:=[]) rfl;omega
theorem UY:∀(n:Nat) {L c r:aM},L.length<=n->Way L c r->total c=0->total r=0->gJ c+gJ r<=gJ L:=by
 intro n
 induction n with
 |zero=>
  intro L c r h w _ _
  cases w with
  |nil=>exact aI _
  |left a w=>simp at h
  |right a w=>simp at h
 |succ n ih=>
  intro L c r h w tc tr
  have key:∀{L c r:aM} (a:Nat×Int),L.length<=n->Way L c r->total (a::c)=0->total r=0->gJ (a::c)+gJ r<=gJ (a::L):=by
   intro L c r a h w tc tr;have hp:=za (l:=a::c) (by simp) tc;obtain⟨d,e,w2,t2,te,q⟩:=CS hp;obtain⟨f,h1,h2⟩:=Way.apart w w2;have i2:=ih (L:=f) (c:=e) (r:=r) (by have:=h1.len;omega) h2 te tr;have tf:total f=0:=by rw[h2.total,te,tr];rfl
   have:=Ld (a:=a) h1 t2 tf;omega
  cases w with
  |nil=>exact aI _
  |left a w=>exact key a (by simpa using h) w tc tr
  |right a w=>
   have:=key a (by simpa using h) w.symm tr tc
   omega
def drops{α:Type}:List α->List (List α)
 |[]=>[]
 |a::l=>l::(drops l).map (a::·)
theorem sM{α:Type}:∀{L r:List α},r∈drops L↔∃x,Way L [x] r
 |[],r=>by
  constructor
  ·intro h;simp[drops] at h
  ·rintro⟨x,w⟩;cases w
 |a::L,r=>by
  simp only[drops,b0,bh];constructor
  ·rintro(rfl|⟨s,hs,rfl⟩)
   ·exact⟨a,.left a (Way.none _)⟩
   ·obtain⟨x,w⟩:=sM.mp hs;exact⟨x,.right a w⟩
  ·rintro⟨x,w⟩;cases w with
   |left _ w=>exact .inl (Way.of_none w)
   |right _ w=>exact .inr ⟨_,sM.mpr ⟨x,w⟩,rfl⟩
def best(f:aM->Nat)(l:List aM):Nat:=l.foldr (fun p m=>max (f p) m) 0
def jZ:Nat->aM->Nat
 |0,_=>0
 |k+1,l=>if l=[] then 0 else best (jZ k) (drops l)+(if total l=0 then 1 else 0)
theorem zb(k:Nat):jZ k []=0:=by cases k<;>simp[jZ]
theorem CT{α:Type}{L r:List α}(h:r∈drops L):r.length+1=L.length:=by
 obtain⟨x,w⟩:=sM.mp h;have:=w.len;simp only[bH,Ij] at this;omega
theorem CU{f g:aM->Nat}:∀{l:List aM},(∀p∈l,f p=g p)->best f l=best g l
 |[],_=>rfl
 |p::l,h=>by
  have h1:=h p bS;have h2:=CU (f:=f) (g:=g) (l:=l) (fun q hq=>h q (bR _ hq));unfold best at *;simp only[Bh];rw[h1,h2]
theorem Le:∀(k j:Nat) (l:aM),l.length<=k->l.length<=j->jZ k l=jZ j l
 |0,j,l,h,_=>by
  have:l=[]:=eB.mp (by omega);subst this;rw[zb,zb]
 |k+1,0,l,_,h=>by
  have:l=[]:=eB.mp (by omega);subst this;rw[zb,zb]
 |k+1,j+1,l,h1,h2=>by
  simp only[jZ];rw[CU (f:=jZ k) (g:=jZ j) fun p hp=>by
   have:=CT hp;exact Le k j p (by omega) (by omega)]
def chain(l:aM):Nat:=jZ l.length l
theorem Lf{k:Nat}{l:aM}(h:l.length<=k):jZ k l=chain l:=Le _ _ _ h (aI _)
theorem zc{l:aM}(h:l≠[]):chain l=best chain (drops l)+(if total l=0 then 1 else 0):=by
 have hl:0<l.length:=Hz.mpr h;rw[<-Lf (k:=(l.length-1)+1) (by omega)];simp only[jZ,if_neg h];rw[CU (f:=jZ (l.length-1)) (g:=chain) fun p hp=>Lf (by have:=CT hp;omega)]
theorem Lg{L r:aM}{x:Nat×Int}(w:Way L [x] r):chain r+(if total L=0 then 1 else 0)<=chain L:=by
 have cw:L≠[]:=by rintro rfl;cases w
 rw[zc cw];have:chain r<=best chain (drops L):=y6 chain (sM.mpr ⟨x,w⟩);omega
theorem Lh:∀{c L r:aM},Way L c r->chain r<=chain L
 |[],L,r,w=>by rw[Way.of_none w];exact aI _
 |x::c,L,r,w=>by
  obtain⟨s,h1,h2⟩:=Way.apart w (.left x (Way.none c));have:=Lg h1;have:=Lh h2;omega
theorem UZ{L c r:aM}(w:Way L c r)(hc:c≠[])(t:total L=0):chain r+1<=chain L:=by
 cases c with
 |nil=>exact absurd rfl hc
 |cons x c=>
  obtain⟨s,h1,h2⟩:=Way.apart w (.left x (Way.none c))
  have h3:=Lg h1
  rw[if_pos t] at h3
  have:=Lh h2
  omega
theorem Li:∀(n:Nat) (l:aM),l.length<=n->total l=0->gJ l<=chain l
 |_,[],_,_=>du _
 |0,a::l,h,_=>by simp at h
 |n+1,a::l,h,t=>by
  by_cases hp:0<gJ (a::l)
  ·obtain⟨d,r,w,t2,tr,e⟩:=CS hp;simp only[bH] at h;have ih:=Li n r (by have:=w.len;omega) tr;have:=UZ (.left a w) (by simp) t;omega
  ·omega
theorem Lj:∀(n:Nat) (l:aM),l.length<=n->∃c r,Way l c r/\total r=0/\chain r=chain l
 |_,[],_=>⟨[],[],.nil,rfl,rfl⟩
 |0,a::l,h=>by simp at h
 |n+1,a::l,h=>by
  by_cases t:total (a::l)=0
  ·exact⟨[],_,Way.none _,t,rfl⟩
  ·have hs:=zc (l:=a::l) (by simp);rw[if_neg t,Nat.add_zero] at hs;by_cases hp:0<chain (a::l)
   ·rw[hs] at hp;obtain⟨p,hm,e⟩:=y8 chain (l:=drops (a::l)) hp;obtain⟨x,w⟩:=sM.mp hm;obtain⟨c,r,h1,h2,h3⟩:=Lj n p (by have:=CT hm;simp only[bH] at h this;omega);obtain⟨f,h4,_⟩:=Way.join w h1;exact⟨f,r,h4,h2,by rw[h3,hs];exact e⟩
   ·refine⟨a::l,[],Way.all _,rfl,?_⟩;have e0:chain ([]:aM)=0:=rfl;omega
theorem Ll:∀(n:Nat) (l:aM),l.length<=n->total l=0->chain l<=gJ l
 |_,[],_,_=>aI _
 |0,a::l,h,_=>by simp at h
 |n+1,a::l,h,t=>by
  have hs:=zc (l:=a::l) (by simp);rw[if_pos t] at hs;by_cases hp:0<best chain (drops (a::l))
  ·obtain⟨p,hm,e⟩:=y8 chain hp;obtain⟨x,w⟩:=sM.mp hm;obtain⟨c,r,h1,h2,h3⟩:=Lj p.length p (aI _);obtain⟨f,h4,h5⟩:=Way.join w h1;have hl:=h4.len;have o9:=h5.len;simp only[bH,Ij] at h hl o9;have ih:=Ll n r (by omega) h2;have tf:total f=0:=by have:=h4.total;omega
   have add:=UY _ (aI _) h4 tf h2;have pos:=za (l:=f) (by rintro rfl;simp at o9;omega) tf;have:best chain (drops (a::l))=chain p:=e.symm;omega
  ·have:=za (l:=a::l) (by simp) t;omega
theorem sN{l:aM}(t:total l=0):chain l=gJ l:=P5 (Ll _ _ (aI _) t) (Li _ _ (aI _) t)
open Vbahak
def sel{α:Type}:Nat->List α->List α
 |_,[]=>[]
 |m,a::l=>if m%2=1 then a::sel (m/2) l else sel (m/2) l
def places(m n:Nat):List Nat:=(cN n).filter fun i=>m.testBit i
theorem sO(m n:Nat):places m (n+1)=(if m%2=1 then[0] else[])++(places (m/2) n).map rE:=by
 unfold places;rw[xy,gO,kh,xO];have e:((fun i=>m.testBit i)∘rE)=fun i=>(m/2).testBit i:=by
  funext i;exact Bc m i
 rw[e];by_cases h:m%2=1
 ·simp[h]
 ·simp[h]
theorem sQ{m n i:Nat}(h:i∈places m n):i<n/\m.testBit i=true:=by
 unfold places at h;rw[c9,kj] at h;exact h
theorem vT{α:Type}:∀(l:List α) (m:Nat),(places m l.length).filterMap (fun i=>l[i]?)=sel m l
 |[],m=>by simp[places,sel]
 |a::l,m=>by
  rw[bH,sO,A2,pN];have e:((fun i=>(a::l)[i]?)∘rE)=fun i=>l[i]? :=by funext i;simp
  rw[e,vT l (m/2)];simp only[sel];by_cases h:m%2=1
  ·simp[h]
  ·simp[h]
theorem zd{α:Type}:∀(l:List α) (m:Nat),(sel m l).length=(places m l.length).length
 |[],m=>by simp[places,sel]
 |a::l,m=>by
  rw[bH,sO];simp only[sel];by_cases h:m%2=1
  ·simp[h,zd l]
  ·simp[h,zd l]
theorem CV{α:Type}:∀(l:List α),sel 0 l=[]
 |[]=>rfl
 |a::l=>by simp[sel,CV l]
theorem Lm{α:Type}:∀(l:List α),sel (2^l.length-1) l=l
 |[]=>rfl
 |a::l=>by
  have h:0<2^l.length:=P4 _;have e1:(2^(a::l).length-1)%2=1:=by rw[bH,jK];omega
  have e2:(2^(a::l).length-1)/2=2^l.length-1:=by rw[bH,jK];omega
  simp only[sel,e1,e2,if_true];rw[Lm l]
theorem vU{α:Type}:∀(l:List α) (m:Nat),m<2^l.length->m≠0->sel m l≠[]
 |[],m,h,n=>by simp at h;omega
 |a::l,m,h,n=>by
  rw[bH,jK] at h;simp only[sel];by_cases c:m%2=1
  ·rw[if_pos c];simp
  ·rw[if_neg c];exact vU l (m/2) (by omega) (by omega)
theorem CW{α:Type}(a:α):∀(l:List α) (m:Nat),sel m (l++[a])=sel m l++(if m/2^l.length%2=1 then[a] else[])
 |[],m=>by simp[sel]
 |b::l,m=>by
  have e:m/2^(b::l).length=m/2/2^l.length:=by rw[bH,jK,x6,Nat.div_div_eq_div_mul]
  simp only[rh,sel,CW a l,e];by_cases h:m%2=1
  ·simp[h]
  ·simp[h]
theorem CY:∀(a b:aM),total (a++b)=total a+total b
 |[],b=>by show total b=0+total b;omega
 |p::a,b=>by
  show p.2+total (a++b)=p.2+total a+total b;rw[CY a b];omega
def hW(l:aM):List Int:=(cN (2^l.length)).map fun m=>total (sel m l)
theorem U0{α:Type}(a:α)(l:List α){m:Nat}(h:m<2^l.length):sel m (l++[a])=sel m l:=by
 rw[CW,Be h];simp
theorem Ln{α:Type}:∀(l:List α) (m:Nat),sel (m%2^l.length) l=sel m l
 |[],m=>rfl
 |a::l,m=>by
  have e1:m%2^(a::l).length%2=m%2:=by
   rw[bH,jK,x6];rw[Nat.mod_mul_right_mod]
  have e2:m%2^(a::l).length/2=m/2%2^l.length:=by
   rw[bH,jK,x6];rw[Nat.mod_mul_right_div_self]
  simp only[sel,e1,e2,Ln l]
theorem U1{α:Type}(a:α)(l:List α){m:Nat}(h:m<2^l.length):sel (2^l.length+m) (l++[a])=sel m l++[a]:=by
 have hp:0<2^l.length:=P4 _;rw[CW];have e:(2^l.length+m)/2^l.length=1:=by
  rw[Nat.add_div_left m hp,Be h]
 rw[e,<-Ln l (2^l.length+m)];rw[Nat.add_mod_left,afv h]
 rfl
theorem U2(l:aM)(p:Nat×Int):hW (l++[p])=hW l++(hW l).map fun z=>z+p.2:=by
 unfold hW;have e:2^(l++[p]).length=2^l.length+2^l.length:=by rw[dJ,uz,jK];omega
 rw[e,P8,cZ,bw,bw]
 congr 1
 ·apply fW;intro m hm;rw[U0 p l (kj.mp hm)]
 ·apply fW;intro m hm;simp only[lE];rw[U1 p l (kj.mp hm),CY];show _+(p.2+0)=_+p.2;omega
theorem vV(l:aM):(hW l).length=2^l.length:=by simp[hW]
theorem Lo(l:aM){m:Nat}(h:m<2^l.length):(hW l)[m]? =some (total (sel m l)):=by
 unfold hW;rw[aS,xD h]
 rfl
theorem Lp{m i:Nat}(h:m.testBit i=true):2^i<=m:=Nat.ge_two_pow_of_testBit h
theorem CZ{α:Type}:∀(l:List α) (m:Nat),(places m l.length).map (fun i=>sel (m-2^i) l)=drops (sel m l)
 |[],m=>by simp[places,sel,drops]
 |a::l,m=>by
  have key:(places (m/2) l.length).map ((fun i=>sel (m-2^i) (a::l))∘rE)=(places (m/2) l.length).map (fun i=>if m%2=1 then a::sel (m/2-2^i) l else sel (m/2-2^i) l):=by
   apply fW;intro i hi;have h1:=Lp (sQ hi).2;have e0:2^(i+1)=2^i*2:=jK 2 i;have e1:(m-2^(i+1))%2=m%2:=by omega
   have e2:(m-2^(i+1))/2=m/2-2^i:=by omega
   simp only[lE,Nat.succ_eq_add_one,sel,e1,e2]
  rw[bH,sO,cZ,bw,key];by_cases h:m%2=1
  ·have e1:(m-2^0)%2=0:=by simp only[Nat.pow_zero];omega
   have e2:(m-2^0)/2=m/2:=by simp only[Nat.pow_zero];omega
   simp only[if_pos h,sel,drops,bQ,xZ,e1,e2,rh,Bf];rw[<-CZ l (m/2),bw];simp
  ·simp only[if_neg h,sel,xZ,Bf];exact CZ l (m/2)
def jx(l:aM)(n:Nat):List Nat:=(cN n).map fun m=>chain (sel m l)
theorem U3(l:aM){m M:Nat}(h0:m≠0)(hm:m<2^l.length)(h1:M∈(places m l.length).map (fun i=>chain (sel (m-2^i) l)))(h2:∀a∈(places m l.length).map (fun i=>chain (sel (m-2^i) l)),a<=M):
  jx l (m+1)=jx l m++[if total (sel m l)=0 then M+1 else M]:=by
 unfold jx;rw[xQ,cZ]
 congr 1
 have cw:=vU l m hm h0;have e:(places m l.length).map (fun i=>chain (sel (m-2^i) l))=(drops (sel m l)).map chain:=by
  rw[<-CZ,bw];rfl
 rw[e] at h1 h2;have hb:best chain (drops (sel m l))=M:=by
  obtain⟨p,hp,U4⟩:=bh.mp h1;apply P5
  ·exact K9 chain M fun q hq=>h2 _ (iS hq)
  ·rw[<-U4];exact y6 chain hp
 show[chain (sel m l)]=_;rw[zc cw,hb];by_cases t:total (sel m l)=0
 ·rw[if_pos t,if_pos t]
 ·rw[if_neg t,if_neg t];rfl
theorem Lq(l:aM){m n:Nat}(h:m<n):(jx l n)[m]? =some (chain (sel m l)):=by
 unfold jx;rw[aS,xD h]
 rfl
def Sub(c m:Nat):Prop:=∀i,c.testBit i=true->m.testBit i=true
theorem Lr{c m:Nat}:c&&& m=c↔Sub c m:=by
 constructor
 ·intro h i hi;have:=congrArg (fun x=>x.testBit i) h;simp only[Il,hi,Qe] at this;exact this
 ·intro h;apply ae1;intro i;rw[Il];cases e:c.testBit i with
  |false=>rfl
  |true=>rw[h i e];rfl
theorem Sub.half{c m:Nat}(h:Sub c m):Sub (c/2) (m/2):=fun i hi=>by
 rw[<-Bc] at hi ⊢;exact h _ hi
theorem Sub.odd{c m:Nat}(h:Sub c m)(o:c%2=1):m%2=1:=by
 have:=h 0 (by rw[xO];simpa using o);rw[xO] at this;simpa using this
theorem Sub.le:∀(n:Nat) {c m:Nat},c<=n->Sub c m->c<=m
 |0,c,m,h,_=>by omega
 |n+1,c,m,h,s=>by
  by_cases c0:c=0
  ·omega
  ·have:=Sub.le n (c:=c/2) (m:=m/2) (by omega) s.half;have h2:=s.odd;by_cases o:c%2=1
   ·have:=h2 o;omega
   ·omega
theorem Sub.Ls{c m:Nat}(h:Sub (c/2) (m/2))(o:c%2=1->m%2=1):Sub c m:=fun i hi=>by
 cases i with
 |zero=>rw[xO] at hi ⊢;simpa using o (by simpa using hi)
 |succ i=>rw[Bc] at hi ⊢;exact h i hi
theorem U5{a b x y:Nat}(h:a<=b)(h1:x<=y)(h2:y<2):(2*b+y-(2*a+x))%2=y-x/\(2*b+y-(2*a+x))/2=b-a:=by
 have e:2*b+y-(2*a+x)=2*(b-a)+(y-x):=by omega
 have l:y-x<2:=HK (Nat.sub_le _ _) h2;rw[e,Nat.mul_add_mod,afv l,Nat.mul_add_div (by decide),Be l];exact⟨rfl,rfl⟩
theorem Sub.sub{c m:Nat}(h:Sub c m):(m-c)%2=m%2-c%2/\(m-c)/2=m/2-c/2:=by
 have h3:c%2<=m%2:=by
  rcases Nat.mod_two_eq_zero_or_one c with o|o
  ·rw[o];exact du _
  ·rw[o,h.odd o];exact aI _
 have:=U5 (Sub.le _ (aI _) h.half) h3 (QA m (by decide))
 rwa [Nat.div_add_mod,Nat.div_add_mod] at this
theorem sS{α:Type}:∀(l:List α) {c m:Nat},Sub c m->Way (sel m l) (sel c l) (sel (m-c) l)
 |[],_,_,_=> .nil
 |a::l,c,m,h=>by
  obtain⟨e1,e2⟩:=h.sub;have ih:=sS l h.half;simp only[sel,e1,e2];by_cases o:c%2=1
  ·have:=h.odd o;rw[if_pos o,if_pos this,if_neg (by omega)];exact .left a ih
  ·by_cases o2:m%2=1
   ·rw[if_neg o,if_pos o2,if_pos (by omega)];exact .right a ih
   ·rw[if_neg o,if_neg o2,if_neg (by omega)];exact ih
theorem ze{α:Type}:∀(l:List α) {m:Nat} {d e:List α},m<2^l.length->Way (sel m l) d e->∃c,Sub c m/\sel c l=d/\sel (m-c) l=e
 |[],m,d,e,hm,w=>by
  simp only[sel] at w;cases w;exact⟨0,fun i hi=>by simp at hi,rfl,rfl⟩
 |a::l,m,d,e,hm,w=>by
  rw[bH,jK] at hm;have put:∀{c b:Nat},Sub c (m/2)->b<=m%2->b<2->Sub (2*c+b) m/\(2*c+b)%2=b/\(2*c+b)/2=c/\(m-(2*c+b))%2=m%2-b/\(m-(2*c+b))/2=m/2-c:=by
   intro c b s hb i6;have q1:(2*c+b)%2=b:=by omega
   have q2:(2*c+b)/2=c:=by omega
   have s2:Sub (2*c+b) m:=Sub.Ls (by rw[q2];exact s) (by rw[q1];omega);obtain⟨z1,z2⟩:=s2.sub;rw[q1] at z1;rw[q2] at z2;exact⟨s2,q1,q2,z1,z2⟩
  by_cases o:m%2=1
  ·simp only[sel,if_pos o] at w;cases w with
   |left _ w=>
    obtain⟨c,s,h1,h2⟩:=ze l (m:=m/2) (by omega) w
    obtain⟨s2,q1,q2,q3,q4⟩:=put (b:=1) s (by omega) (by omega)
    refine⟨2*c+1,s2,?_,?_⟩
    ·simp only[sel,q1,q2,if_true,h1]
    ·simp only[sel,q3,q4];rw[if_neg (by omega)];exact h2
   |right _ w=>
    obtain⟨c,s,h1,h2⟩:=ze l (m:=m/2) (by omega) w
    obtain⟨s2,q1,q2,q3,q4⟩:=put (b:=0) s (by omega) (by omega)
    refine⟨2*c+0,s2,?_,?_⟩
    ·simp only[sel,q1,q2];rw[if_neg (by omega)];exact h1
    ·simp only[sel,q3,q4];rw[if_pos (by omega),h2]
  ·simp only[sel,if_neg o] at w;obtain⟨c,s,h1,h2⟩:=ze l (m:=m/2) (by omega) w;obtain⟨s2,q1,q2,q3,q4⟩:=put (b:=0) s (by omega) (by omega);refine⟨2*c+0,s2,?_,?_⟩
   ·simp only[sel,q1,q2];rw[if_neg (by omega)];exact h1
   ·simp only[sel,q3,q4];rw[if_neg (by omega)];exact h2
theorem Lu{α:Type}:∀(l:List α) {c m i:Nat} {ps:List Nat} {a:α} {L:List α},Sub c m->places m l.length=i::ps->sel m l=a::L->c.testBit i=true->
  ∃d,sel c l=a::d/\Way L d (sel (m-c) l)
 |[],c,m,i,ps,a,L,_,_,h,_=>by simp[sel] at h
 |b::l,c,m,i,ps,a,L,s,hp,hs,hi=>by
  obtain⟨e1,e2⟩:=s.sub;rw[bH,sO] at hp;simp only[sel] at hs;by_cases o:m%2=1
  ·rw[if_pos o] at hs hp;cases hs;have ei:i=0:=by injection hp with h1 _;exact h1.symm
   subst ei;have oc:c%2=1:=by rw[xO] at hi;simpa using hi
   refine⟨sel (c/2) l,by simp only[sel,oc,if_true],?_⟩;simp only[sel,e1,e2];rw[if_neg (by omega)];exact sS l s.half
  ·rw[if_neg o] at hs hp;have oc:¬c%2=1:=fun z=>o (s.odd z);cases hq:places (m/2) l.length with
   |nil=>rw[hq] at hp;simp at hp
   |cons j ps2=>
    rw[hq] at hp
    simp only[bQ,Bf] at hp
    have ei:i=j+1:=by injection hp with h1 _;exact h1.symm
    subst ei
    rw[Bc] at hi
    obtain⟨d,h1,h2⟩:=Lu l s.half hq hs hi
    refine⟨d,by simp only[sel,if_neg oc,h1],?_⟩
    simp only[sel,e1,e2]
    rw[if_neg (by omega)]
    exact h2
theorem C0{α:Type}:∀(l:List α) {m i:Nat} {ps:List Nat} {a:α} {L d e:List α},m<2^l.length->places m l.length=i::ps->sel m l=a::L->Way L d e->
  ∃c,Sub c m/\c.testBit i=true/\sel c l=a::d/\sel (m-c) l=e
 |[],m,i,ps,a,L,d,e,_,_,h,_=>by simp[sel] at h
 |b::l,m,i,ps,a,L,d,e,hm,hp,hs,w=>by
  rw[bH,jK] at hm;rw[bH,sO] at hp;simp only[sel] at hs;have put:∀{c b:Nat},Sub c (m/2)->b<=m%2->b<2->Sub (2*c+b) m/\(2*c+b)%2=b/\(2*c+b)/2=c/\(m-(2*c+b))%2=m%2-b/\(m-(2*c+b))/2=m/2-c:=by
   intro c b s hb i6;have q1:(2*c+b)%2=b:=by omega
   have q2:(2*c+b)/2=c:=by omega
   have s2:Sub (2*c+b) m:=Sub.Ls (by rw[q2];exact s) (by rw[q1];omega);obtain⟨z1,z2⟩:=s2.sub;rw[q1] at z1;rw[q2] at z2;exact⟨s2,q1,q2,z1,z2⟩
  by_cases o:m%2=1
  ·rw[if_pos o] at hs hp;cases hs;have ei:i=0:=by injection hp with h1 _;exact h1.symm
   subst ei;obtain⟨c,s,h1,h2⟩:=ze l (m:=m/2) (by omega) w;obtain⟨s2,q1,q2,q3,q4⟩:=put (b:=1) s (by omega) (by omega);refine⟨2*c+1,s2,by rw[xO];simpa using q1,?_,?_⟩
   ·simp only[sel,q1,q2,if_true,h1]
   ·simp only[sel,q3,q4];rw[if_neg (by omega)];exact h2
  ·rw[if_neg o] at hs hp;cases hq:places (m/2) l.length with
   |nil=>rw[hq] at hp;simp at hp
   |cons j ps2=>
    rw[hq] at hp
    simp only[bQ,Bf] at hp
    have ei:i=j+1:=by injection hp with h1 _;exact h1.symm
    subst ei
    obtain⟨c,s,hb,h1,h2⟩:=C0 l (m:=m/2) (by omega) hq hs w
    obtain⟨s2,q1,q2,q3,q4⟩:=put (b:=0) s (by omega) (by omega)
    refine⟨2*c+0,s2,by rw[Bc,q2];exact hb,?_,?_⟩
    ·simp only[sel,q1,q2];rw[if_neg (by omega)];exact h1
    ·simp only[sel,q3,q4];rw[if_neg (by omega)];exact h2
open Vbahak
def before(a b:List Nat):Bool:=decide (a.length<b.length)||(decide (a.length=b.length)&&listBefore a b)
theorem Lv:∀{a b:List Nat},a.length=b.length->listBefore a b=false->listBefore b a=false->a=b
 |[],[],_,_,_=>rfl
 |[],_::_,h,_,_=>by simp at h
 |_::_,[],h,_,_=>by simp at h
 |x::a,y::b,h,h1,h2=>by
  simp only[listBefore,aeT,decide_eq_false_iff_not,Pq] at h1 h2;have e:x=y:=by omega
  subst e;have q1:listBefore a b=false:=by rcases h1.2 with z|z;(simp at z);exact z
  have q2:listBefore b a=false:=by rcases h2.2 with z|z;(simp at z);exact z
  rw[Lv (by simpa using h) q1 q2]
theorem Lw{a b:List Nat}(h1:before a b=false)(h2:before b a=false):a=b:=by
 unfold before at h1 h2;simp only[aeT,decide_eq_false_iff_not,Pq] at h1 h2;have e:a.length=b.length:=by omega
 refine Lv e ?_ ?_
 ·rcases h1.2 with z|z
  ·exact absurd e z
  ·exact z
 ·rcases h2.2 with z|z
  ·exact absurd e.symm z
  ·exact z
theorem Lx{f:Nat->Nat}{n:Nat}(hf:∀i j,i<n->j<n->(f i<f j↔i<j)):∀{a b:List Nat},(∀i∈a,i<n)->(∀i∈b,i<n)->listBefore (a.map f) (b.map f)=listBefore a b
 |[],b,_,_=>by simp[listBefore]
 |_::_,[],_,_=>by simp[listBefore]
 |x::a,y::b,ha,hb=>by
  have hx:=ha x bS;have hy:=hb y bS;have ih:=Lx hf (a:=a) (b:=b) (fun i h=>ha i (bR _ h)) (fun i h=>hb i (bR _ h));have h1:=hf x y hx hy;have h2:=hf y x hy hx;simp only[bQ,listBefore,ih];have e1:decide (f x<f y)=decide (x<y):=by rw[decide_eq_decide];exact h1
  have e2:(f x==f y)=(x==y):=by
   rw[ki];simp only[beq_iff_eq];omega
  rw[e1,e2]
theorem U6{f:Nat->Nat}{n:Nat}(hf:∀i j,i<n->j<n->(f i<f j↔i<j)){a b:List Nat}(ha:∀i∈a,i<n)(hb:∀i∈b,i<n):before (a.map f) (b.map f)=before a b:=by
 unfold before;rw[Lx hf ha hb,ao,ao]
def nJ(l:aM):Prop:=l.Pairwise fun x y=>x.1<y.1
def mh(us:aM)(i:Nat):Nat:=(us.map (·.1)).getD i 0
theorem zf{us:aM}{i:Nat}(h:i<us.length):mh us i=(us[i]).1:=by
 unfold mh;rw[ly,aS,cE h]
 rfl
theorem U7{us:aM}(hr:nJ us):∀i j,i<us.length->j<us.length->(mh us i<mh us j↔i<j):=by
 have mono:∀i j,i<us.length->j<us.length->i<j->mh us i<mh us j:=fun i j hi hj h=>by
  rw[zf hi,zf hj];exact Pc.mp hr i j hi hj h
 intro i j hi hj;constructor
 ·intro h;rcases afl i j with z|z|z
  ·exact z
  ·subst z;omega
  ·have:=mono j i hj hi z;omega
 ·exact mono i j hi hj
theorem C1(us:aM)(m:Nat):(sel m us).map (·.1)=(places m us.length).map (mh us):=by
 rw[<-vT us m,ae8];have:∀ps:List Nat,(∀i∈ps,i<us.length)->ps.filterMap (fun i=>(us[i]?).map (·.1))=ps.map (mh us):=by
  intro ps
  induction ps with
  |nil=>intro _;rfl
  |cons i ps ih=>
   intro h
   have hi:=h i bS
   rw[bQ,<-ih (fun j hj=>h j (bR _ hj)),zf hi]
   rw[List.filterMap_cons_some (b:=(us[i]).1)]
   rw[cE hi]
   rfl
 exact this _ fun i hi=>(sQ hi).1
theorem U8{us:aM}(hr:nJ us)(c d:Nat):groupBefore (sel c us) (sel d us)=before (places c us.length) (places d us.length):=by
 unfold groupBefore;have e:∀a b:aM,(decide (a.length<b.length)||(decide (a.length=b.length)&&listBefore (a.map fun p=>p.1) (b.map fun p=>p.1)))=before (a.map (·.1)) (b.map (·.1)):=fun a b=>by
  unfold before;rw[ao,ao]
 rw[e,C1,C1];exact U6 (U7 hr) (fun i hi=>(sQ hi).1) fun i hi=>(sQ hi).1
theorem C2:∀{l:List (aM×aM)} {p:aM×aM},firstGroup l=some p->p∈l
 |[],p,h=>by simp[firstGroup] at h
 |q::r,p,h=>by
  simp only[firstGroup] at h;cases e:firstGroup r with
  |none=>rw[e] at h;simp at h;subst h;exact bS
  |some z=>
   rw[e] at h
   simp only at h
   by_cases c:groupBefore z.1 q.1=true
   ·rw[if_pos c] at h;cases h;exact bR _ (C2 e)
   ·rw[if_neg c] at h;cases h;exact bS
theorem Ly:∀{l:List (aM×aM)},l≠[]->∃p,firstGroup l=some p
 |[],h=>absurd rfl h
 |q::r,_=>by
  simp only[firstGroup];cases e:firstGroup r with
  |none=>exact⟨q,rfl⟩
  |some z=>
   simp only
   by_cases c:groupBefore z.1 q.1=true
   ·exact⟨z,by rw[if_pos c]⟩
   ·exact⟨q,by rw[if_neg c]⟩
theorem Lz:∀{a b c:List Nat},listBefore a b=true->listBefore b c=true->a.length=b.length->b.length=c.length->listBefore a c=true
 |[],_,_,h,_,_,_=>by simp[listBefore] at h
 |_::_,[],_,h,_,_,_=>by simp[listBefore] at h
 |_::_,_::_,[],_,h,_,_=>by simp[listBefore] at h
 |x::a,y::b,z::c,h1,h2,l1,l2=>by
  simp only[listBefore,PZ,decide_eq_true_eq,cM,beq_iff_eq] at h1 h2 ⊢;rcases h1 with h1|⟨e1,h1⟩
  ·rcases h2 with h2|⟨e2,_⟩
   ·exact .inl (by omega)
   ·exact .inl (by omega)
  ·rcases h2 with h2|⟨e2,h2⟩
   ·exact .inl (by omega)
   ·exact .inr ⟨by omega,Lz h1 h2 (by simpa using l1) (by simpa using l2)⟩
theorem LA{a b c:List Nat}(h1:before a b=true)(h2:before b c=true):before a c=true:=by
 unfold before at *;simp only[PZ,decide_eq_true_eq,cM] at *;rcases h1 with h1|⟨l1,h1⟩
 ·rcases h2 with h2|⟨l2,_⟩
  ·exact .inl (by omega)
  ·exact .inl (by omega)
 ·rcases h2 with h2|⟨l2,h2⟩
  ·exact .inl (by omega)
  ·exact .inr ⟨by omega,Lz h1 h2 l1 l2⟩
theorem LB:∀a:List Nat,listBefore a a=false
 |[]=>rfl
 |x::a=>by simp[listBefore,LB a]
theorem C3(a:List Nat):before a a=false:=by simp[before,LB]
theorem zg(a b:aM):groupBefore a b=before (a.map (·.1)) (b.map (·.1)):=by
 unfold groupBefore before;rw[ao,ao]
theorem LC:∀{l:List (aM×aM)} {p:aM×aM},firstGroup l=some p->∀q∈l,groupBefore q.1 p.1=false
 |[],p,h=>by simp[firstGroup] at h
 |z::r,p,h=>by
  simp only[firstGroup] at h;intro q hq;cases e:firstGroup r with
  |none=>
   rw[e] at h;simp at h;subst h
   have hr:r=[]:=by
    cases r with
    |nil=>rfl
    |cons x r=>obtain⟨w,hw⟩:=Ly (l:=x::r) (by simp);rw[hw] at e;cases e
   subst hr
   simp only[ik] at hq
   subst hq
   rw[zg];exact C3 _
  |some y=>
   rw[e] at h
   simp only at h
   have ih:=LC e
   by_cases c:groupBefore y.1 z.1=true
   ·rw[if_pos c] at h;cases h
    rcases b0.mp hq with rfl|hq
    ·rw[zg] at c ⊢
     cases b:before (q.1.map (·.1)) (p.1.map (·.1)) with
     |false=>rfl
     |true=>have:=LA c b;rw[C3] at this;cases this
    ·exact ih q hq
   ·rw[if_neg c] at h;cases h
    rcases b0.mp hq with rfl|hq
    ·rw[zg];exact C3 _
    ·have h2:=ih q hq
     rw[zg] at c h2 ⊢
     cases b:before (q.1.map (·.1)) (z.1.map (·.1)) with
     |false=>rfl
     |true=>
      exfalso
      cases b2:before (y.1.map (·.1)) (q.1.map (·.1)) with
      |true=>exact c (LA b2 b)
      |false=>
       have:=Lw h2 b2
       rw[this] at b
       exact c b
theorem afB{L c d:aM}(hn:(L.map (·.1)).Nodup)(hc:c.Sublist L)(hd:d.Sublist L)(h:c.map (·.1)=d.map (·.1)):c=d:=by
 induction L generalizing c d with
 |nil=>rw[afn.mp hc,afn.mp hd]
 |cons a L ih=>
  rw[bQ,jI] at hn
  cases hc with
  |cons _ hc=>
   cases hd with
   |cons _ hd=>exact ih hn.2 hc hd h
   |cons_cons _ hd=>
    exfalso
    apply hn.1
    rw[bQ] at h
    have:a.1∈c.map (·.1):=by rw[h];exact bS
    exact(hc.map (·.1)).subset this
  |cons_cons _ hc=>
   cases hd with
   |cons _ hd=>
    exfalso
    apply hn.1
    rw[bQ] at h
    have:a.1∈Bz (·.1) d:=by rw[<-h];exact bS
    exact(hd.map (·.1)).subset this
   |cons_cons _ hd=>
    rw[bQ,bQ] at h
    injection h with _ h
    rw[ih hn.2 hc hd h]
theorem C4:∀{L c r s:aM},L.Nodup->Way L c r->Way L c s->r=s
 |[],_,_,_,_,w1,w2=>by cases w1;cases w2;rfl
 |a::L,c,r,s,hn,w1,w2=>by
  rw[jI] at hn;cases w1 with
  |left _ w1=>
   cases w2 with
   |left _ w2=>exact C4 hn.2 w1 w2
   |right _ w2=>exact absurd (w2.yZ.subset bS) hn.1
  |right _ w1=>
   cases w2 with
   |left _ w2=>exact absurd (w1.yZ.subset bS) hn.1
   |right _ w2=>rw[C4 hn.2 w1 w2]
theorem nJ.nodup{l:aM}(h:nJ l):(l.map (·.1)).Nodup:=by
 rw[uU,gN];exact h.imp fun z=>cW z
theorem U9{l:aM}(h:(l.map (·.1)).Nodup):l.Nodup:=by
 rw[uU,gN] at h;exact h.imp fun z e=>z (by rw[e])
theorem C5{α:Type}:∀(l:List α) (m:Nat),(sel m l).Sublist l
 |[],_=> .slnil
 |a::l,m=>by
  simp only[sel];by_cases h:m%2=1
  ·rw[if_pos h];exact(C5 l _).cons_cons a
  ·rw[if_neg h];exact(C5 l _).cons a
structure pd(us:aM)(m i c:Nat):Prop where
 sub:Sub c m
 has:c.testBit i=true
 zero:total (sel c us)=0
 most:chain (sel (m-c) us)+1=chain (sel m us)
theorem Va{us:aM}{m i:Nat}{ps:List Nat}(hm:m<2^us.length)(hp:places m us.length=i::ps)(t:total (sel m us)=0):∃c,pd us m i c:=by
 cases hs:sel m us with
 |nil=>have:=zd us m;rw[hs,hp] at this;simp at this
 |cons a L=>
  rw[hs] at t
  obtain⟨d,r,w,t2,tr,e⟩:=CS (za (l:=a::L) (by simp) t)
  obtain⟨c,h1,h2,h3,h4⟩:=C0 us hm hp hs w
  refine⟨c,h1,h2,by rw[h3];exact t2,?_⟩
  rw[hs,h4,sN t,sN tr];omega
theorem Vb{us:aM}(hr:nJ us){m i c k:Nat}{ps:List Nat}(hm:m<2^us.length)(hp:places m us.length=i::ps)(t:total (sel m us)=0)(hc:pd us m i c)
  (vW:∀d,pd us m i d->before (places d us.length) (places c us.length)=false) (hk:(sel m us).length<=k+1):
  split (k+1) (sel m us)=sel c us::split k (sel (m-c) us):=by
 cases hs:sel m us with
 |nil=>have:=zd us m;rw[hs,hp] at this;simp at this
 |cons a L=>
  have j0:=C5 us m
  rw[hs] at t hk j0
  have nd:((a::L).map (·.1)).Nodup:=(hr.nodup).sublist (j0.map _)
  simp only[split]
  have mem:∀p:aM×aM,p∈((groupsOf (a::L)).filter fun p=>total p.2==0&&1+Iz k p.2==Iz (k+1) (a::L))↔∃d,pd us m i d/\sel d us=p.1/\sel (m-d) us=p.2:=by
   rintro⟨x,y⟩;rw[c9,y9];simp only[cM,beq_iff_eq];constructor
   ·rintro⟨⟨d,rfl,w,tx⟩,ty,hq⟩;obtain⟨c',h1,h2,h3,h4⟩:=C0 us hm hp hs w;refine⟨c',⟨h1,h2,by rw[h3];exact tx,?_⟩,h3,h4⟩;simp only[bH] at hk;rw[sJ (l:=y) (by have:=w.len;omega),sJ (l:=a::L) (by simp only[bH];omega)] at hq;rw[hs,h4,sN t,sN ty];omega
   ·rintro⟨d,cd,rfl,rfl⟩;obtain⟨e,h1,w⟩:=Lu us cd.sub hp hs cd.has;have ty:total (sel (m-d) us)=0:=by
     have:=(sS us cd.sub).total;rw[hs] at this;have:=cd.zero;omega
    refine⟨⟨e,h1,w,cd.zero⟩,ty,?_⟩;simp only[bH] at hk;rw[sJ (l:=sel (m-d) us) (by have:=w.len;omega),sJ (l:=a::L) (by simp only[bH];omega)];have:=cd.most;rw[hs,sN t,sN ty] at this;omega
  obtain⟨p,C6⟩:=Ly (l:=((groupsOf (a::L)).filter fun p=>total p.2==0&&1+Iz k p.2==Iz (k+1) (a::L)))
   (List.ne_nil_of_mem ((mem (sel c us,sel (m-c) us)).mpr ⟨c,hc,rfl,rfl⟩))
  obtain⟨d,cd,e1,e2⟩:=(mem p).mp (C2 C6)
  have b1:=LC C6 _ ((mem (sel c us,sel (m-c) us)).mpr ⟨c,hc,rfl,rfl⟩)
  have b2:=vW d cd
  rw[<-e1] at b1
  simp only[U8 hr] at b1
  have ep:=Lw b1 b2
  have es:sel c us=sel d us:=by rw[<-vT,<-vT,ep]
  have w1:=sS us hc.sub
  have w2:=sS us cd.sub
  rw[es] at w1
  rw[hs] at w1 w2
  have er:=C4 (U9 nd) w1 w2
  rw[C6]
  simp only
  rw[<-e1,<-e2,es,er]
open Vbahak
def view(g:List Nat)(f:Nat->Int):aM:=(g.map fun c=>(c,f c)).filter fun p=>p.2 !=0
def eF(f:Nat->Int)(c:Nat)(z:Int):Nat->Int:=fun d=>if d=c then z else f d
theorem vX(f:Nat->Int)(c:Nat)(z:Int):eF f c z c=z:=by simp[eF]
theorem kO{f:Nat->Int}{c d:Nat}{z:Int}(h:d≠c):eF f c z d=f d:=by simp[eF,h]
theorem nM(c:Nat)(g:List Nat)(f:Nat->Int):view (c::g) f=(if f c=0 then[] else[(c,f c)])++view g f:=by
 unfold view;rw[bQ,gO];by_cases h:f c=0
 ·simp[h]
 ·simp[h]
theorem C7:∀(g:List Nat) (f:Nat->Int),total (view g f)=(g.map f).sum
 |[],f=>rfl
 |c::g,f=>by
  rw[nM,CY,C7 g f,bQ,pV];by_cases h:f c=0
  ·rw[if_pos h,h];show(0:Int)+_=_;omega
  ·rw[if_neg h];show(f c+0)+_=_;omega
theorem zh(f:Nat->Int)(p:Int->Bool)(h0:p 0=false):∀g:List Nat,(view g f).find? (fun q=>p q.2)=((g.filter fun c=>p (f c)).head?).map fun c=>(c,f c)
 |[]=>rfl
 |c::g=>by
  have ih:=zh f p h0 g;rw[nM,List.find?_append,ih,gO];by_cases h:f c=0
  ·rw[if_pos h,h,h0];simp
  ·rw[if_neg h];cases e:p (f c) with
   |true=>simp[e]
   |false=>simp[e]
theorem C8(f:Nat->Int)(c:Nat)(z:Int)(hc:f c≠0):∀g:List Nat,settle (view g f) c z=view g (eF f c z)
 |[]=>rfl
 |d::g=>by
  have ih:=C8 f c z hc g;rw[nM,nM,<-ih];unfold settle;rw[cZ,mK]
  congr 1
  by_cases h:d=c
  ·subst h;rw[if_neg hc,vX];by_cases hz:z=0
   ·simp[hz]
   ·simp[hz]
  ·rw[kO h];by_cases hd:f d=0
   ·simp[hd]
   ·simp[hd,h]
theorem zi(f:Nat->Int)(c:Nat)(z:Int)(hc:f c≠0):∀g:List Nat,(view g (eF f c z)).length<=(view g f).length
 |[]=>aI _
 |d::g=>by
  have ih:=zi f c z hc g;rw[nM,nM,dJ,dJ];by_cases h:d=c
  ·subst h;rw[vX,if_neg hc];by_cases hz:z=0
   ·subst hz;simp;omega
   ·simp[hz];omega
  ·rw[kO h];omega
theorem C9(f:Nat->Int)(c:Nat)(hc:f c≠0):∀g:List Nat,c∈g->(view g (eF f c 0)).length<(view g f).length
 |[],h=>nomatch h
 |d::g,h=>by
  have le:=zi f c 0 hc g;rw[nM,nM,dJ,dJ];by_cases e:d=c
  ·subst e;rw[vX,if_neg hc];simp;omega
  ·rw[kO e];have:=C9 f c hc g (by rcases b0.mp h with z|z;exact absurd z.symm e;exact z);omega
theorem Vc{k:Nat}{g:List Nat}{f:Nat->Int}(h:g.filter (fun c=>decide (f c<0))=[]):payIn k (view g f)=[]:=by
 cases k with
 |zero=>rfl
 |succ k=>
  have e:=zh f (fun z=>decide (z<0)) (by decide) g
  rw[h] at e
  simp only[payIn,e]
  rfl
def paid(f:Nat->Int)(a b:Nat)(n:Int):Nat->Int:=eF (eF f a (f a+n)) b (f b-n)
theorem Vd{k:Nat}{g:List Nat}{f:Nat->Int}{a b:Nat}{ra rb:List Nat}(ha:g.filter (fun c=>decide (f c<0))=a::ra)(hb:g.filter (fun c=>decide (0<f c))=b::rb):
  payIn (k+1) (view g f)={src:=a,dst:=b,amount:=(min (-(f a)) (f b)).toNat}::payIn k (view g (paid f a b (min (-(f a)) (f b)))):=by
 have e1:=zh f (fun z=>decide (z<0)) (by decide) g;have e2:=zh f (fun z=>decide (0<z)) (by decide) g;rw[ha] at e1;rw[hb] at e2;have fa:f a<0:=by
  have:a∈g.filter (fun c=>decide (f c<0)):=by rw[ha];exact bS
  simpa using(c9.mp this).2
 have fb:0<f b:=by
  have:b∈g.filter (fun c=>decide (0<f c)):=by rw[hb];exact bS
  simpa using(c9.mp this).2
 have ne:b≠a:=by rintro rfl;omega
 simp only[payIn,e1,e2,List.head?_cons,iu];rw[C8 f a _ (by omega) g,C8 _ b _ (by rw[kO ne];omega) g]
 rfl
theorem Dc(f:Nat->Int)(c:Nat)(z:Int):∀{g:List Nat},g.Nodup->c∈g->(g.map (eF f c z)).sum=(g.map f).sum-f c+z
 |[],_,h=>nomatch h
 |d::g,hn,h=>by
  rw[jI] at hn;rw[bQ,bQ,pV,pV];by_cases e:d=c
  ·subst e;rw[vX];have:g.map (eF f d z)=g.map f:=by
    apply fW;intro x hx;exact kO (by rintro rfl;exact hn.1 hx)
   rw[this];omega
  ·rw[kO e,Dc f c z hn.2 (by rcases b0.mp h with q|q;exact absurd q.symm e;exact q)];omega
theorem LD:∀{g:List Nat} {f:Nat->Int},(∀c∈g,f c<=0)->(g.map f).sum<=0/\((∃c∈g,f c<0)->(g.map f).sum<0)
 |[],f,_=>⟨Int.le_refl _,fun⟨_,h,_⟩=>nomatch h⟩
 |d::g,f,h=>by
  obtain⟨h1,h2⟩:=LD (g:=g) (f:=f) (fun c hc=>h c (bR _ hc));have hd:=h d bS;rw[bQ,pV];refine⟨by omega,?_⟩;rintro⟨c,hc,aY⟩;rcases b0.mp hc with rfl|hc
  ·omega
  ·have:=h2 ⟨c,hc,aY⟩;omega
theorem Ve{g:List Nat}{f:Nat->Int}(t:(g.map f).sum=0){a:Nat}(ha:a∈g)(fa:f a<0):∃b rb,g.filter (fun c=>decide (0<f c))=b::rb:=by
 cases e:g.filter (fun c=>decide (0<f c)) with
 |cons b rb=>exact⟨b,rb,rfl⟩
 |nil=>
  exfalso
  have h:=LD (g:=g) (f:=f) fun c hc=>by
   have:¬0<f c:=fun z=>by
    have:c∈g.filter (fun c=>decide (0<f c)):=c9.mpr ⟨hc,by simpa using z⟩;rw[e] at this;nomatch this
   omega
  have:=h.2 ⟨a,ha,fa⟩
  omega
theorem Vf{g:List Nat}{f:Nat->Int}{a b:Nat}{n:Int}(hn:g.Nodup)(ha:a∈g)(hb:b∈g)(ne:b≠a):(g.map (paid f a b n)).sum=(g.map f).sum:=by
 unfold paid;rw[Dc _ _ _ hn hb,Dc _ _ _ hn ha,kO ne];omega
theorem Vg{g:List Nat}{f:Nat->Int}{a b:Nat}(ha:a∈g)(hb:b∈g)(fa:f a<0)(fb:0<f b):(view g (paid f a b (min (-(f a)) (f b)))).length<(view g f).length:=by
 have ne:b≠a:=by rintro rfl;omega
 unfold paid;by_cases c: -(f a)<=f b
 ·have e:min (-(f a)) (f b)= -(f a):=by omega
  rw[e];have e0:f a+ -(f a)=0:=by omega
  rw[e0];have h1:=C9 f a (by omega) g ha;have h2:=zi (eF f a 0) b (f b- -(f a)) (by rw[kO ne];omega) g;omega
 ·have e:min (-(f a)) (f b)=f b:=by omega
  rw[e];have e0:f b-f b=0:=by omega
  rw[e0];have h1:=zi f a (f a+f b) (by omega) g;have h2:=C9 (eF f a (f a+f b)) b (by rw[kO ne];omega) g hb;omega
theorem Vh{l:aM}{f:Nat->Int}(h:∀p∈l,p.2=f p.1/\p.2≠0):view (l.map (·.1)) f=l:=by
 induction l with
 |nil=>rfl
 |cons p l ih=>
  have hp:=h p bS
  rw[bQ,nM,ih fun q hq=>h q (bR _ hq)]
  rw[if_neg (by rw[<-hp.1];exact hp.2),<-hp.1]
  rfl
theorem Vi{l:List Nat}{a m:Nat}{r:List Nat}(h:l.Pairwise (·<·))(e:l=a::r)(hm:m∈l)(hl:∀x∈l,m<=x):m=a:=by
 subst e;have h1:=hl a bS;rcases b0.mp hm with rfl|hm
 ·rfl
 ·have:=(xG.mp h).1 m hm;omega
open Vbahak
theorem sU{s:State}{c:Nat}:known s c=true↔∃x∈s.carriers,x.c=c:=by
 unfold known carrierOf;rw[List.find?_isSome];simp only[beq_iff_eq]
theorem sV{s s':State}{f:d8->d8}(hf:∀x,(f x).c=x.c)(h:s'.carriers=s.carriers.map f){c:Nat}:known s' c=known s c:=by
 rw[ki,sU,sU,h];constructor
 ·rintro⟨y,hy,e⟩;obtain⟨x,hx,rfl⟩:=bh.mp hy;exact⟨x,hx,by rw[<-hf];exact e⟩
 ·rintro⟨x,hx,e⟩;exact⟨f x,iS hx,by rw[hf];exact e⟩
def sW(p:bT):Prop:=p.stage≠2->p.stage≠3->p.kept=0
structure Good2(s:State):Prop where
 cls:∀x∈s.claims,known s x.to=true/\known s x.of=true
 iO:∀x∈s.tickets,∀p∈x.parts,sW p
theorem Vj:Good2 Bo:=by
 refine⟨fun x h=> ?_,fun x h=> ?_⟩
 ·exact absurd h uG
 ·exact absurd h uG
theorem LF{s:State}{t i:Nat}{p:bT}(g:∀x∈s.tickets,∀p∈x.parts,sW p)(hp:sW p):∀x∈(setPart s t i p).tickets,∀q∈x.parts,sW q:=by
 intro x hx q hq;unfold setPart at hx;simp only[bh] at hx;obtain⟨y,hy,rfl⟩:=hx;by_cases h:y.t=t
 ·rw[if_pos h] at hq;rcases aeu hq with z|z
  ·exact g y hy q z
  ·rw[z];exact hp
 ·rw[if_neg h] at hq;exact g y hy q hq
theorem LG{s:State}{t i:Nat}{x:bI}{p:bT}(h1:ticketOf s t=some x)(h2:x.parts[i]? =some p):x∈s.tickets/\p∈x.parts:=
 ⟨(sx h1).1,bP h2⟩
theorem Vk{s:State}(g:Good2 s)(c:Call):Good2 (step s c).1:=by
 cases c with
 |carrier c k=>
  simp only[step]
  by_cases h1:known s c=true
  ·rw[if_pos h1];exact g
  rw[if_neg h1]
  by_cases h2:MOSTCARRIERS<=s.carriers.length
  ·rw[if_pos h2];exact g
  rw[if_neg h2]
  refine⟨fun x hx=> ?_,g.iO⟩
  have up:∀d,known s d=true->known {s with carriers:=putCarrier {c:=c,currency:=k,suspended:=false,paid:=0,got:=0} s.carriers} d=true:=fun d hd=>by
   obtain⟨y,hy,e⟩:=sU.mp hd;exact sU.mpr ⟨y,(vO _ _).mem_iff.mpr (bR _ hy),e⟩
  exact⟨up _ (g.cls x hx).1,up _ (g.cls x hx).2⟩
 |rate k num den=>exact⟨g.cls,g.iO⟩
 |charge a b bp=>
  simp only[step]
  by_cases h1:(known s a&&known s b)=false
  ·rw[if_pos h1];exact g
  rw[if_neg h1]
  by_cases h2:a=b
  ·rw[if_pos h2];exact g
  rw[if_neg h2];exact⟨g.cls,g.iO⟩
 |issue t a value parts=>
  simp only[step]
  by_cases h1:(known s a&&parts.all fun p=>known s p.1)=false
  ·rw[if_pos h1];exact g
  rw[if_neg h1]
  by_cases h2:(ticketOf s t).isSome=true
  ·rw[if_pos h2];exact g
  rw[if_neg h2]
  by_cases h3:MOSTTICKETS<=s.tickets.length
  ·rw[if_pos h3];exact g
  rw[if_neg h3]
  refine⟨g.cls,fun x hx p hp=> ?_⟩
  rcases ff.mp hx with hx|hx
  ·exact g.iO x hx p hp
  ·rw[ik] at hx
   subst hx
   obtain⟨z,_,rfl⟩:=bh.mp hp
   exact fun _ _=>rfl
 |cut value parts=>exact g
 |fly t i=>
  simp only[step,onPart]
  cases h1:ticketOf s t with
  |none=>exact g
  |some x=>
   simp only
   cases h2:x.parts[i]? with
   |none=>exact g
   |some p=>
    simp only
    by_cases h3:p.stage≠0
    ·rw[if_pos h3];exact g
    rw[if_neg h3]
    refine⟨g.cls,LF g.iO ?_⟩
    intro a b
    simp only at a b ⊢
    by_cases h4:p.carrier=x.issuer
    ·rw[if_pos h4]
    ·rw[if_neg h4] at a;exact absurd rfl a
 |refund t i=>
  simp only[step,onPart]
  cases h1:ticketOf s t with
  |none=>exact g
  |some x=>
   simp only
   cases h2:x.parts[i]? with
   |none=>exact g
   |some p=>
    simp only
    by_cases h3:p.stage≠0
    ·rw[if_pos h3];exact g
    rw[if_neg h3]
    refine⟨g.cls,LF g.iO ?_⟩
    intro a b
    have h3:p.stage=0:=by omega
    exact g.iO x (LG h1 h2).1 p (LG h1 h2).2 (by omega) (by omega)
 |bill b a=>
  simp only[step]
  cases h1:carrierOf s b with
  |none=>exact g
  |some x=>
   cases h2:carrierOf s a with
   |none=>exact g
   |some y=>
    simp only
    by_cases h3:a=b
    ·rw[if_pos h3];exact g
    rw[if_neg h3]
    cases h4:rateOf s y.currency with
    |none=>exact g
    |some r=>
     simp only
     by_cases h5:IH<s.claims.length+(billable s b a).length
     ·rw[if_pos h5];exact g
     rw[if_neg h5]
     refine⟨fun z hz=> ?_,fun z hz p hp=> ?_⟩
     ·rcases ff.mp hz with hz|hz
      ·exact g.cls z hz
      ·obtain⟨w,_,rfl⟩:=bh.mp hz
       exact⟨by show known s b=true;unfold known;rw[h1];rfl,by show known s a=true;unfold known;rw[h2];rfl⟩
     ·obtain⟨w,hw,rfl⟩:=bh.mp hz
      by_cases h6:w.issuer=a
      ·rw[if_pos h6] at hp
       obtain⟨q,i,hq,rfl⟩:=US (f:=fun q i=>if q.carrier=b/\q.stage=2 then {q with stage:=3,claim:=s.claims.length+1+placeIn (billable s b a) w.t i} else q) hp
       by_cases h7:q.carrier=b/\q.stage=2
       ·rw[if_pos h7];intro _ z;exact absurd rfl z
       ·rw[if_neg h7];exact g.iO w hw q hq
      ·rw[if_neg h6] at hp
       exact g.iO w hw p hp
 |reject id r=>
  simp only[step,onClaim]
  cases h1:claimOf s id with
  |none=>exact g
  |some x=>
   simp only
   by_cases h2:x.next≠0\/MOSTDEPTH<=x.depth\/x.month+MONTHS<s.month
   ·rw[if_pos h2];exact g
   rw[if_neg h2]
   by_cases h3:x.amount<r
   ·rw[if_pos h3];exact g
   rw[if_neg h3]
   by_cases h4:IH<=s.claims.length
   ·rw[if_pos h4];exact g
   rw[if_neg h4]
   have hx:=g.cls x (sx h1).1
   refine⟨fun z hz=> ?_,g.iO⟩
   rcases ff.mp hz with hz|hz
   ·obtain⟨w,hw,rfl⟩:=bh.mp hz
    by_cases h6:w.id=id
    ·rw[if_pos h6];exact g.cls w hw
    ·rw[if_neg h6];exact g.cls w hw
   ·rw[ik] at hz
    subst hz
    exact⟨hx.2,hx.1⟩
 |effect id=>
  simp only[step,onClaim]
  cases h1:claimOf s id<;>exact g
 |owed a b=>
  simp only[step]
  by_cases h1:(known s a&&known s b)=false
  ·rw[if_pos h1];exact g
  ·rw[if_neg h1];exact g
 |nets=>exact g
 |plan=>exact g
 |suspend c flag=>
  simp only[step]
  by_cases h1:known s c=false
  ·rw[if_pos h1];exact g
  rw[if_neg h1]
  refine⟨fun x hx=> ?_,g.iO⟩
  have e:∀d,known {s with carriers:=s.carriers.map fun x=>if x.c=c then {x with suspended:=flag==1} else x} d=known s d:=fun d=>sV (f:=fun x=>if x.c=c then {x with suspended:=flag==1} else x) (fun x=>by by_cases h:x.c=c<;>simp[h]) rfl
  rw[e,e];exact g.cls x hx
 |clear=>
  simp only[step]
  refine⟨fun x hx=> ?_,g.iO⟩
  have e:∀d,known {s with month:=s.month+1,claims:=s.claims.map (fun x=>if clears s x=true then {x with settled:=true} else x),carriers:=s.carriers.map fun x=>{x with paid:=x.paid+paidBy (gQ (netsOf s)) x.c,got:=x.got+gotBy (gQ (netsOf s)) x.c}} d=known s d:=fun d=>sV (f:=fun x=>{x with paid:=x.paid+paidBy (gQ (netsOf s)) x.c,got:=x.got+gotBy (gQ (netsOf s)) x.c}) (fun x=>rfl) rfl
  rw[e,e]
  obtain⟨w,hw,rfl⟩:=bh.mp hx
  by_cases h:clears s w=true
  ·rw[if_pos h];exact g.cls w hw
  ·rw[if_neg h];exact g.cls w hw
 |account c=>
  simp only[step]
  cases h1:carrierOf s c<;>exact g
 |books a=>
  simp only[step]
  by_cases h1:known s a=false
  ·rw[if_pos h1];exact g
  ·rw[if_neg h1];exact g
 |part t i=>
  simp only[step,onPart]
  cases h1:ticketOf s t with
  |none=>exact g
  |some x=>
   simp only
   cases h2:x.parts[i]? <;>exact g
 |claim id=>
  simp only[step,onClaim]
  cases h1:claimOf s id<;>exact g
 |unbilled b a=>
  simp only[step]
  by_cases h1:(known s b&&known s a)=false
  ·rw[if_pos h1];exact g
  rw[if_neg h1]
  by_cases h2:a=b
  ·rw[if_pos h2];exact g
  ·rw[if_neg h2];exact g
 |month=>exact g
 |check pays=>
  simp only[step]
  by_cases h1:(pays.all fun p=>known s p.1&&known s p.2.1)=false
  ·rw[if_pos h1];exact g
  ·rw[if_neg h1];exact g
def share1(x:Claim)(c:Nat):Int:=(if x.to=c then(x.amount:Int) else 0)-(if x.of=c then(x.amount:Int) else 0)
theorem LI(x:Claim)(c:Nat):∀l:List Claim,netOf (l++[x]) c=netOf l c+share1 x c
 |[]=>by simp[netOf,share1]
 |y::l=>by
  have:=LI x c l;unfold netOf at *;simp only[rh,Bh,this];omega
theorem Vl(x:Claim)(l:List Claim)(c:Nat):netOf (x::l) c=share1 x c+netOf l c:=rfl
theorem sum_map_add{α:Type}(f g:α->Int):∀l:List α,(l.map fun c=>f c+g c).sum=(l.map f).sum+(l.map g).sum
 |[]=>rfl
 |a::l=>by
  simp only[bQ,pV,sum_map_add f g l];omega
theorem Dd(n:Int)(d:Nat):∀{l:List Nat},l.Nodup->d∈l->(l.map fun c=>if d=c then n else 0).sum=n
 |[],_,h=>nomatch h
 |c::l,hn,h=>by
  rw[jI] at hn;simp only[bQ,pV];by_cases e:d=c
  ·subst e;rw[if_pos rfl];have:(l.map fun c=>if d=c then n else 0)=l.map fun _=>0:=by
    apply fW;intro x hx;rw[if_neg (by rintro rfl;exact hn.1 hx)]
   rw[this];have z:∀l:List Nat,(l.map fun _=>(0:Int)).sum=0:=by
    intro l;induction l with
    |nil=>rfl
    |cons a l ih=>simp only[bQ,pV,ih];omega
   rw[z];omega
  ·rw[if_neg e,Dd n d hn.2 (by rcases b0.mp h with q|q;exact absurd q e;exact q)];omega
theorem Vm{l:List Nat}(hn:l.Nodup)(x:Claim)(h1:x.to∈l)(h2:x.of∈l):(l.map (share1 x)).sum=0:=by
 have e:(l.map (share1 x))=l.map fun c=>(if x.to=c then(x.amount:Int) else 0)+(if x.of=c then(-(x.amount:Int)) else 0):=by
  apply fW;intro c _;unfold share1;by_cases h:x.of=c
  ·rw[if_pos h,if_pos h];omega
  ·rw[if_neg h,if_neg h];omega
 rw[e,sum_map_add,Dd _ _ hn h1,Dd _ _ hn h2];omega
theorem LJ{l:List Nat}(hn:l.Nodup):∀{cl:List Claim},(∀x∈cl,x.to∈l/\x.of∈l)->(l.map (netOf cl)).sum=0
 |[],_=>by
  have z:∀l:List Nat,(l.map fun c=>netOf [] c).sum=0:=by
   intro l;induction l with
   |nil=>rfl
   |cons a l ih=>
    rw[bQ,pV,ih];rfl
  exact z l
 |x::cl,h=>by
  have hx:=h x bS;have ih:=LJ hn (cl:=cl) fun y hy=>h y (bR _ hy);have e:l.map (netOf (x::cl))=l.map fun c=>share1 x c+netOf cl c:=rfl;rw[e,sum_map_add,Vm hn x hx.1 hx.2,ih];rfl
def nums(s:State):List Nat:=s.carriers.map (·.c)
def ib(s:State):Nat->Int:=netOf (s.claims.filter (clears s))
theorem qx(s:State):netsOf s=(nums s).map fun c=>(c,ib s c):=by
 unfold netsOf nums ib;rw[bw];rfl
theorem zj{s:State}(g:Good s):(nums s).Pairwise (·<·):=by
 unfold nums;rw[gN];exact g.kK
theorem LK{s:State}(g:Good s):(nums s).Nodup:=(zj g).imp fun h=>cW h
theorem nN{s:State}{c:Nat}:c∈nums s↔known s c=true:=by
 rw[sU];unfold nums;rw[bh]
theorem De{g:List Nat}(h:g.Pairwise (·<·))(f:Nat->Int):nJ (view g f):=by
 unfold nJ view;apply aei;rw[gN];exact h
open Vbahak
def sY(e:Nat×Nat×bT):Nat×Nat:=(e.1,e.2.1)
theorem Vn{α:Type}(l:List α)(n:Nat):(l.zipIdx n).map (·.2)=List.range' n l.length:=by
 induction l generalizing n with
 |nil=>rfl
 |cons a l ih=>
  rw[xM,bQ,ih,bH,List.range'_succ]
theorem LL{s:State}(g:Good s)(b a:Nat):((billable s b a).map sY).Nodup:=by
 unfold billable;rw[PQ,uU,List.pairwise_flatMap];constructor
 ·intro t ht;rw[bw];have e:(sY∘fun p:bT×Nat=>(t.t,p.2,p.1))=(fun n=>(t.t,n))∘(·.2):=rfl;rw[e,<-bw];rw[gN];have h1:((t.parts.zipIdx.filter fun p=>p.1.carrier==b&&p.1.stage==2).map (·.2)).Nodup:=by
   refine aeA (HG.map _) ?_;rw[Vn];exact List.nodup_range' (step:=1)
  exact h1.imp fun h z=>h (by injection z)
 ·have h1:(s.tickets.filter fun t=>t.issuer==a).Pairwise fun x y=>x.t≠y.t:=by
   have:=g.gZ;rw[uU,gN] at this;exact this.sublist HG
  refine h1.imp fun {x y} h u hu v hv z=>h ?_;obtain⟨p,hp,rfl⟩:=bh.mp hu;obtain⟨q,hq,rfl⟩:=bh.mp hv;obtain⟨p',_,rfl⟩:=bh.mp hp;obtain⟨q',_,rfl⟩:=bh.mp hq;exact congrArg Prod.fst z
theorem zk{l:List (Nat×Nat×bT)}(hn:(l.map sY).Nodup){j:Nat}{e:Nat×Nat×bT}(h:l[j]? =some e):placeIn l e.1 e.2.1=j:=by
 unfold placeIn;have hj:=(cJ.mp h).1;have Vo:l[j]=e:=(cJ.mp h).2;have aY:l.findIdx (fun p=>p.1==e.1&&p.2.1==e.2.1)<l.length:=aed ⟨e,bP h,by simp⟩;have hs:=List.findIdx_getElem (w:=aY);simp only[cM,beq_iff_eq] at hs;have hk:sY l[l.findIdx (fun p=>p.1==e.1&&p.2.1==e.2.1)]=sY l[j]:=by
  rw[Vo];unfold sY;rw[hs.1,hs.2]
 rw[uU,gN,Pc] at hn;rcases afl (l.findIdx (fun p=>p.1==e.1&&p.2.1==e.2.1)) j with z|z|z
 ·exact absurd hk (hn _ _ aY hj z)
 ·exact z
 ·exact absurd hk.symm (hn _ _ hj aY z)
def mi(n:Nat)(l:List (Nat×Nat×bT))(b j t:Nat)(p:bT×Nat):bT:=if p.1.carrier=b/\p.1.stage=2/\placeIn l t p.2<j then {p.1 with stage:=3,claim:=n+1+placeIn l t p.2} else p.1
def fD(s:State)(l:List (Nat×Nat×bT))(b a j:Nat)(x:bI):bI:=if x.issuer=a then {x with parts:=x.parts.zipIdx.map (mi s.claims.length l b j x.t)} else x
theorem Vp(s:State)(l:List (Nat×Nat×bT))(b a:Nat):s.tickets.map (fD s l b a 0)=s.tickets:=by
 have:∀x,fD s l b a 0 x=x:=fun x=>by
  unfold fD;by_cases h:x.issuer=a
  ·rw[if_pos h];have e:(mi s.claims.length l b 0 x.t)=fun p=>p.1:=by
    funext p;unfold mi;rw[if_neg (by omega)]
   rw[e];simp
  ·rw[if_neg h]
 rw[show fD s l b a 0=id from funext this,Bs]
theorem Df{s:State}{b a:Nat}{x:bI}{i:Nat}{p:bT}(hx:x∈s.tickets)(ha:x.issuer=a)(hp:x.parts[i]? =some p)(hb:p.carrier=b)(hs:p.stage=2):(x.t,i,p)∈billable s b a:=by
 unfold billable;rw[Bb];refine⟨x,c9.mpr ⟨hx,by simpa using ha⟩,?_⟩;rw[bh];refine⟨(p,i),c9.mpr ⟨?_,by simp[hb,hs]⟩,rfl⟩;rw[AW];exact hp
theorem Vq{s:State}(b a:Nat):s.tickets.map (fD s (billable s b a) b a (billable s b a).length)=s.tickets.map fun x=>if x.issuer=a then {x with parts:=x.parts.zipIdx.map fun p=>if p.1.carrier=b/\p.1.stage=2 then {p.1 with stage:=3,claim:=s.claims.length+1+placeIn (billable s b a) x.t p.2} else p.1} else x:=by
 apply fW;intro x hx;unfold fD;by_cases h:x.issuer=a
 ·rw[if_pos h,if_pos h]
  congr 1
  apply fW;intro p hp;unfold mi;by_cases c:p.1.carrier=b/\p.1.stage=2
  ·have hm:=Df (s:=s) hx h (AW.mp hp) c.1 c.2;have aY:placeIn (billable s b a) x.t p.2<(billable s b a).length:=aed ⟨_,hm,by simp⟩;rw[if_pos ⟨c.1,c.2,aY⟩,if_pos c]
  ·rw[if_neg (fun z=>c ⟨z.1,z.2.1⟩),if_neg c]
 ·rw[if_neg h,if_neg h]
theorem Vr{s:State}{l:List (Nat×Nat×bT)}{b a j i:Nat}{x:bI}{p:bT}(ha:x.issuer=a)(hp:x.parts[i]? =some p):(fD s l b a j x).parts[i]? =some (mi s.claims.length l b j x.t (p,i)):=by
 unfold fD;rw[if_pos ha];show(x.parts.zipIdx.map _)[i]? =_;rw[aS,qZ,hp];simp
theorem Vs{s:State}(g:Good s){b a j k i:Nat}{x:bI}{p:bT}(hl:(billable s b a)[j]? =some (x.t,i,p))(hk:s.tickets[k]? =some x)(ha:x.issuer=a)(hp:x.parts[i]? =some p)(hb:p.carrier=b)(hs:p.stage=2):
  s.tickets.map (fD s (billable s b a) b a (j+1))=(s.tickets.map (fD s (billable s b a) b a j)).set k {fD s (billable s b a) b a j x with parts:=(fD s (billable s b a) b a j x).parts.set i {p with stage:=3,claim:=s.claims.length+j+1}}:=by
 have hn:=LL g b a;have cz:placeIn (billable s b a) x.t i=j:=zk hn hl;apply oA;intro m;by_cases e:m=k
 ·subst e;rw[lz (by rw[ao];exact(cJ.mp hk).1),aS,hk,iu]
  congr 1
  have e1:∀j,fD s (billable s b a) b a j x={x with parts:=x.parts.zipIdx.map (mi s.claims.length (billable s b a) b j x.t)}:=fun j=>by unfold fD;rw[if_pos ha]
  rw[e1,e1];simp only
  congr 1
  apply oA;intro n;by_cases en:n=i
  ·subst en;rw[lz (by rw[ao,oz];exact(cJ.mp hp).1),aS,qZ,hp];simp only[iu,Bq]
   congr 1
   unfold mi;rw[if_pos ⟨hb,hs,by rw[cz];omega⟩,cz,show s.claims.length+1+j=s.claims.length+j+1 by omega]
  ·rw[lB (d7 en),aS,aS,qZ];cases q:x.parts[n]? with
   |none=>rfl
   |some p'=>
    simp only[iu,Bq]
    congr 1
    unfold mi
    by_cases c:p'.carrier=b/\p'.stage=2
    ·have hm:=Df (s:=s) (bP hk) ha q c.1 c.2
     obtain⟨m',hm'⟩:=fH hm
     have nO:placeIn (billable s b a) x.t n=m':=zk hn hm'
     have cw:m'≠j:=fun z=>by
      rw[z,hl] at hm';injection hm' with hm';injection hm' with _ hm';injection hm' with hm' _;exact en hm'.symm
     by_cases c2:m'<j
     ·rw[if_pos ⟨c.1,c.2,by rw[nO];omega⟩,if_pos ⟨c.1,c.2,by rw[nO];exact c2⟩]
     ·rw[if_neg (fun z=>c2 (by have:=z.2.2;rw[nO] at this;omega)),if_neg (fun z=>c2 (by have:=z.2.2;rw[nO] at this;exact this))]
    ·rw[if_neg (fun z=>c ⟨z.1,z.2.1⟩),if_neg (fun z=>c ⟨z.1,z.2.1⟩)]
 ·rw[lB (d7 e),aS,aS];cases q:s.tickets[m]? with
  |none=>rfl
  |some y=>
   simp only[iu]
   congr 1
   have B7:y.t≠x.t:=fun z=>e (by
    have h1:(s.tickets.map (·.t))[m]? =some y.t:=by rw[aS,q];rfl
    have h2:(s.tickets.map (·.t))[k]? =some y.t:=by rw[aS,hk,z];rfl
    obtain⟨l1,q1⟩:=cJ.mp h1;obtain⟨l2,q2⟩:=cJ.mp h2;exact(HW g.gZ).mp (q1.trans q2.symm))
   unfold fD
   by_cases hi:y.issuer=a
   ·rw[if_pos hi,if_pos hi]
    congr 1
    apply fW
    intro p' hp'
    unfold mi
    by_cases c:p'.1.carrier=b/\p'.1.stage=2
    ·have hm:=Df (s:=s) (bP q) hi (AW.mp hp') c.1 c.2
     obtain⟨m',hm'⟩:=fH hm
     have nO:placeIn (billable s b a) y.t p'.2=m':=zk hn hm'
     have cw:m'≠j:=fun z=>by
      rw[z,hl] at hm';injection hm' with hm';injection hm' with hm' _;exact B7 hm'.symm
     by_cases c2:m'<j
     ·rw[if_pos ⟨c.1,c.2,by rw[nO];omega⟩,if_pos ⟨c.1,c.2,by rw[nO];exact c2⟩]
     ·rw[if_neg (fun z=>c2 (by have:=z.2.2;rw[nO] at this;omega)),if_neg (fun z=>c2 (by have:=z.2.2;rw[nO] at this;exact this))]
    ·rw[if_neg (fun z=>c ⟨z.1,z.2.1⟩),if_neg (fun z=>c ⟨z.1,z.2.1⟩)]
   ·rw[if_neg hi,if_neg hi]
end MM
namespace L2
open PySem PySem.Spec PyProof.Rows
def aA(P:bg)(w:aW)(K:aC)(mg:Str->Option ab)(base:aB)(x:Str)(k:Nat)(ps:List Str)(sp:Sp):Prop:=
 ∃f fd,aN P w K mg base aT k f fd ps sp/\mg x=some (.ref f)/\oE K (.ref f)=true/\Binds K fd ps []
def qy(P:bg)(w:aW)(K:aC)(mg:Str->Option ab)(base:aB)(C:aa)(m:Str)(k:Nat)(ps:List Str)(sp:Sp):Prop:=
 ∃f fd,aN P w K mg base aT k f fd ps sp/\Meth K C m f/\gh K C/\Binds K fd ps []
def i7(P:bg)(w:aW)(K:aC)(mg:Str->Option ab)(base:aB)(x:Str)(C:aa)(k:Nat)(ps:List Str)(sp:Sp):Prop:=
 ∃f fd,aN P w K mg base aT k f fd ps sp/\Mk K C f/\mg x=some (.ref C)/\Binds K fd ps []
section
variable{X:Cx}{k j:Nat}{C:aa}{ps:List Str}{sp:Sp}{x m:Str}{p pos apos:Pos}{e o:aG}{es:List aG}{ta:TE}{t:TA}
theorem aX(G:aA X.prog X.w X.K X.mg X.base x k ps sp)(hr:dw j X.A)(hk:k<=j)(hg:Gl X x)(ha:PA X (e::es) t)(iG:(x==("__debug__":Str))=false:=by decide)
  (he:starEach (e::es) X.env=(false,eval e X.env)::starEach es X.env:=by rfl) (cz:(backTo pos (starEach es X.env)).any (·.1)=false:=by rfl):PE X (.Call (.Name x p) (e::es) [] pos) (B1 sp [] E0 t):=by
 obtain⟨f,fd,F,hm,Dg,hb⟩:=G;exact RS F (hr.mono hk) hg hm Dg hb .nil yM ha iG he cz
theorem gr{pl:Sem Bool}(he:PE X o ta)(G:qy X.prog X.w X.K X.mg X.base C m k ps sp)(hr:dw j X.A)(hk:k<=j)(ha:PA X (e::es) t)
  (eV:starEach (e::es) X.env=(false,eval e X.env)::starEach es X.env:=by rfl) (cz:(backTo pos (starEach es X.env)).any (·.1)=false:=by rfl)
  (ht:eval (.Call (.Attribute o m apos) (e::es) [] pos) X.env=(do
   let ov<-eval o X.env
   standAt apos.atName
   let (f,first)<-holding [ov] (getMethod ov m pl)
   callWith pos f first (backTo pos (starEach (e::es) X.env)) (backToKw pos (keywordEach [] X.env))):=by rfl):
  PE X (.Call (.Attribute o m apos) (e::es) [] pos) (Jk C m sp [] E0 ta t):=by
 obtain⟨f,fd,F,hm,c,hb⟩:=G;exact RU he c hm F (hr.mono hk) hb .nil yM ha eV cz ht
theorem vY(G:i7 X.prog X.w X.K X.mg X.base x C k ps sp)(hr:dw j X.A)(hk:k+1<=j)(hg:Gl X x)(ha:PA X (e::es) t)(iG:(x==("__debug__":Str))=false:=by decide)
  (he:starEach (e::es) X.env=(false,eval e X.env)::starEach es X.env:=by rfl) (cz:(backTo pos (starEach es X.env)).any (·.1)=false:=by rfl):PE X (.Call (.Name x p) (e::es) [] pos) (yx C sp [] E0 t):=by
 obtain⟨f,fd,F,M,hm,hb⟩:=G;exact RV M F (hr.mono hk) hg hm hb .nil yM ha iG he cz
theorem Vt(G:i7 X.prog X.w X.K X.mg X.base x C k ps sp)(hr:dw j X.A)(hk:k+1<=j)(hg:Gl X x)(iG:(x==("__debug__":Str))=false:=by decide):PE X (.Call (.Name x p) [] [] pos) (yx C sp [] E0 m6):=by
 obtain⟨f,fd,F,M,hm,hb⟩:=G;exact RW M F (hr.mono hk) hg hm hb .nil yM iG
theorem cq{n:Int}(hg:Gl X x)(hm:∃t,X.mg x=some (.int n t))(hd:(x==("__debug__":Str))=false:=by decide):PE X (.Name x pos) (tC (.int n)):=by
 obtain⟨t,e⟩:=hm;exact IM hg e ⟨t,rfl⟩ hd
theorem pf{a:aa}(hg:Gl X x)(hm:X.mg x=some (.ref a))(hd:(x==("__debug__":Str))=false:=by decide):PE X (.Name x pos) (tC (.ref a)):=IM hg hm rfl hd
end
section
variable{X:Cx}
def LM(i j:Int):Prop:=0<j/\j<1152921504606846976
theorem Vu{i j:Int}(h:LM i j):aef i j=false:=by
 obtain⟨h1,h2⟩:=h;unfold aef;have e:(if (j==0)=true then 0 else j.natAbs.log2/30+1)<=3:=by
  by_cases z:(j==0)=true
  ·rw[if_pos z];decide
  ·rw[if_neg z];have:j.natAbs.log2<60:=(Nat.log2_lt (by omega)).mpr (by omega);omega
 simp only[Pq,decide_eq_false_iff_not];exact .inl (by omega)
theorem zo:eh X (binaryOp .FloorDiv) (rI LM fun i j=> .int (i/j)):=BP fun i j _ _ _ _ _ hc q=>
 floordiv_int (by have h:=hc.1;omega) (by rw[Int.fdiv_eq_ediv_of_nonneg i (by have h:=hc.1;omega)];exact q) (.inl (Vu hc))
end
open PySem PySem.Spec PyProof.Rows
theorem ph{J:It}{n:Nat}{g:TG}{tt:TT}{te:TE}{vs:List Nat}{σ:St}{H1:Hp}{D:aa}{Qd:Hp->Prop}(f:Nat->Option V)(hD:H1 D=cu)
  (go:∀i H,i<n->af H1 H->J.go i H) (st:∀H,af H1 H->J.stop n H) (hn:n<sizeLine)
  (hs:∀i H x H' (R:V->Hp->Prop) (R0:Hp->Prop),i<n->af H1 H->J.fP i H x H'->(∀y H4,f i=some y->af H H4->R y H4)->(∀H3,f i=cu->af H H3->R0 H3)->
   g x (wipe σ vs) H' fun σ2 H2=>wipe σ2 vs=wipe σ vs/\tt σ2 H2 fun b H3=>if b=true then te σ2 H3 R else R0 H3)
  (hd:∀H,af H1 H->H D=some (.lst ((cN n).filterMap f))->Qd H):
  ∃W:Nat->Nat->Hp->Prop,(∃m,W 0 m (upd H1 D (.lst [])))/\∀i m H,W i m H->
   (J.stop i H/\Qd H)\/(J.go i H/\∃Nx:Hp->Prop,(∀H',Nx H'->∃m',m'<m/\W (i+1) m' H')/\∀x H',J.fP i H x H'->g x (wipe σ vs) H' fun σ2 H2=>wipe σ2 vs=wipe σ vs/\tt σ2 H2 fun b H3=>
    if b=true then te σ2 H3 fun y H4=>∃acc,H4 D=some (.lst acc)/\acc.length<sizeLine/\Nx (upd H4 D (.lst (acc++[y]))) else Nx H3):=by
 refine⟨fun i m H=>m=n-i/\i<=n/\af H1 H/\H D=some (.lst ((cN i).filterMap f)),⟨n,by simp,du _,fun b o e=> ?_,?_⟩,?_⟩
 ·rw[ag (aV e hD)];exact e
 ·rw[au];rfl
 rintro i m H ⟨rfl,hi,s1,fS⟩;by_cases aY:i<n
 ·refine .inr ⟨go i H aY s1,fun H'=>af H1 H'/\H' D=some (.lst ((cN (i+1)).filterMap f)),fun H' ⟨a,b⟩=>⟨n-(i+1),by omega,rfl,aY,a,b⟩,fun x H' y=> ?_⟩;refine hs i H x H' _ _ aY s1 y (fun v H4 e s4=>⟨_,s4 _ _ fS,?_,fun b o q=> ?_,?_⟩) fun H3 e s3=>⟨s1.trans s3,?_⟩
  ·refine HK (aez _ _) ?_;rw[xI];omega
  ·rw[ag (aV q hD)];exact s4 _ _ (s1 _ _ q)
  ·rw[au,xQ,A2];simp[e]
  ·rw[xQ,A2];simp[e];exact s3 _ _ fS
 ·have e:i=n:=by omega
  subst e;exact .inl ⟨st H s1,hd H s1 fS⟩
theorem af.Dh{K:aC}{H H':Hp}{a:aa}{xs:List V}(e:af H H')(h:cH K H a xs):cH K H' a xs:=by
 rcases h with(h|⟨o,h⟩)|h
 ·exact .inl (.inl (e _ _ h))
 ·exact .inl (.inr ⟨o,e _ _ h⟩)
 ·exact .inr h
theorem eQ{α β:Type}(xs:List α)(f:α->Option β):(cN xs.length).filterMap (fun i=>(xs[i]?).bind f)=xs.filterMap f:=by
 induction xs with
 |nil=>rfl
 |cons a l ih=>
  rw[bH,xy,jf,pN]
  have e:((fun i=>((a::l)[i]?).bind f)∘rE)=fun i=>(l[i]?).bind f:=by funext i;simp
  rw[e,ih,jf]
  simp
theorem Vv{K:aC}{a:aa}{xs:List V}{g:TG}{tt:TT}{te:TE}{vs:List Nat}{σ:St}{H1:Hp}{D:aa}{Qd:Hp->Prop}(f:V->Option V)(hD:H1 D=cu)(hx:ah K H1 a xs)(hn:xs.length<sizeLine)
  (hs:∀(i:Nat) H x (R:V->Hp->Prop) (R0:Hp->Prop),xs[i]? =some x->af H1 H->(∀y H4,f x=some y->af H H4->R y H4)->(∀H3,f x=cu->af H H3->R0 H3)->
   g x (wipe σ vs) H fun σ2 H2=>wipe σ2 vs=wipe σ vs/\tt σ2 H2 fun b H3=>if b=true then te σ2 H3 R else R0 H3)
  (hd:∀H,af H1 H->H D=some (.lst (xs.filterMap f))->Qd H):
  ∃W:Nat->Nat->Hp->Prop,(∃m,W 0 m (upd H1 D (.lst [])))/\∀i m H,W i m H->
   ((iY K a).stop i H/\Qd H)\/((iY K a).go i H/\∃Nx:Hp->Prop,(∀H',Nx H'->∃m',m'<m/\W (i+1) m' H')/\∀x H',(iY K a).fP i H x H'->g x (wipe σ vs) H' fun σ2 H2=>wipe σ2 vs=wipe σ vs/\tt σ2 H2 fun b H3=>
    if b=true then te σ2 H3 fun y H4=>∃acc,H4 D=some (.lst acc)/\acc.length<sizeLine/\Nx (upd H4 D (.lst (acc++[y]))) else Nx H3):=by
 refine ph (J:=iY K a) (n:=xs.length) (fun i=>(xs[i]?).bind f) hD (fun i H hi s=>⟨xs,xs[i],s.seq hx,by simp[hi]⟩) (fun H s=>⟨xs,s.seq hx,aI _⟩) hn (fun i H x H' R R0 hi s y h1 h2=> ?_) fun H s e=>hd H s ?_
 ·obtain⟨rfl,y⟩:=y;have e:=y xs (s.seq hx);refine hs i _ x R R0 e s (fun v H4 q=>h1 v H4 ?_) fun H3 q=>h2 H3 ?_
  ·rw[e];exact q
  ·rw[e];exact q
 ·rw[eQ] at e;exact e
theorem Vw{lo:Int}{n:Nat}{g:TG}{tt:TT}{te:TE}{vs:List Nat}{σ:St}{H1:Hp}{D:aa}{Qd:Hp->Prop}(f:Nat->Option V)(hD:H1 D=cu)(hn:n<sizeLine)
  (hs:∀i H (R:V->Hp->Prop) (R0:Hp->Prop),i<n->af H1 H->(∀y H4,f i=some y->af H H4->R y H4)->(∀H3,f i=cu->af H H3->R0 H3)->
   g (.int (lo+i)) (wipe σ vs) H fun σ2 H2=>wipe σ2 vs=wipe σ vs/\tt σ2 H2 fun b H3=>if b=true then te σ2 H3 R else R0 H3)
  (hd:∀H,af H1 H->H D=some (.lst ((cN n).filterMap f))->Qd H):
  ∃W:Nat->Nat->Hp->Prop,(∃m,W 0 m (upd H1 D (.lst [])))/\∀i m H,W i m H->
   ((kE lo n).stop i H/\Qd H)\/((kE lo n).go i H/\∃Nx:Hp->Prop,(∀H',Nx H'->∃m',m'<m/\W (i+1) m' H')/\∀x H',(kE lo n).fP i H x H'->g x (wipe σ vs) H' fun σ2 H2=>wipe σ2 vs=wipe σ vs/\tt σ2 H2 fun b H3=>
    if b=true then te σ2 H3 fun y H4=>∃acc,H4 D=some (.lst acc)/\acc.length<sizeLine/\Nx (upd H4 D (.lst (acc++[y]))) else Nx H3):=by
 refine ph (J:=kE lo n) f hD (fun i H hi s=>hi) (fun H s=>aI _) hn (fun i H x H' R R0 hi s y h1 h2=> ?_) hd;obtain⟨rfl,rfl⟩:=y;exact hs i _ R R0 hi s h1 h2
theorem Di{K:aC}{a:aa}{xs:List V}{i1 i2:Nat}{tt:TT}{te:TE}{vs:List Nat}{σ:St}{H1:Hp}{D:aa}{Qd:Hp->Prop}(f:Nat->V->Option V)(hD:H1 D=cu)(hx:ah K H1 a xs)(hn:xs.length<sizeLine)
  (hw:∀x y:Option V,wipe (((wipe σ vs).set i1 x).set i2 y) vs=wipe σ vs)
  (hs:∀(i:Nat) H x (R:V->Hp->Prop) (R0:Hp->Prop),xs[i]? =some x->af H1 H->(∀y H4,f i x=some y->af H H4->R y H4)->(∀H3,f i x=cu->af H H3->R0 H3)->
   tt (((wipe σ vs).set i1 (some (.int (i:Nat)))).set i2 (some x)) H fun b H3=>if b=true then te (((wipe σ vs).set i1 (some (.int (i:Nat)))).set i2 (some x)) H3 R else R0 H3)
  (hd:∀H,af H1 H->H D=some (.lst ((cN xs.length).filterMap fun i=>(xs[i]?).bind (f i)))->Qd H):
  ∃W:Nat->Nat->Hp->Prop,(∃m,W 0 m (upd H1 D (.lst [])))/\∀i m H,W i m H->
   ((se K a).stop i H/\Qd H)\/((se K a).go i H/\∃Nx:Hp->Prop,(∀H',Nx H'->∃m',m'<m/\W (i+1) m' H')/\∀x H',(se K a).fP i H x H'->yo K 2 (ve (mY i1) (ve (mY i2) BJ)) x (wipe σ vs) H' fun σ2 H2=>wipe σ2 vs=wipe σ vs/\tt σ2 H2 fun b H3=>
    if b=true then te σ2 H3 fun y H4=>∃acc,H4 D=some (.lst acc)/\acc.length<sizeLine/\Nx (upd H4 D (.lst (acc++[y]))) else Nx H3):=by
 refine ph (J:=se K a) (n:=xs.length) (fun i=>(xs[i]?).bind (f i)) hD (fun i H hi s=>⟨xs,xs[i],s.seq hx,by simp[hi]⟩) (fun H s=>⟨xs,s.seq hx,aI _⟩) hn (fun i H x H' R R0 hi s y h1 h2=> ?_) hd;obtain⟨T,v,rfl,hT,rfl,y⟩:=y;have e:=y xs (s.seq hx);refine⟨T,_,rfl,cH.of au,rfl,_,_,rfl,_,_,rfl,rfl,hw _ _,?_⟩;have sT:af H (upd H T (.tup [.int (i:Nat),v])):=fun b o q=>by rw[ag (aV q hT)];exact q
 refine hs i _ v R R0 e (s.trans sT) (fun w H4 q s4=>h1 w H4 ?_ (sT.trans s4)) fun H3 q s3=>h2 H3 ?_ (sT.trans s3)
 ·rw[e];exact q
 ·rw[e];exact q
theorem Vx{d:aa}{od:Obj}{kvs:List (Key×V)}{g:TG}{tt:TT}{te:TE}{vs:List Nat}{σ:St}{H1:Hp}{D:aa}{Qd:Hp->Prop}(f:V->Option V)(hD:H1 D=cu)(hx:H1 d=some (.bF od (.dK kvs)))(hn:kvs.length<sizeLine)
  (hs:∀(i:Nat) H k x (R:V->Hp->Prop) (R0:Hp->Prop),kvs[i]? =some (k,x)->af H1 H->(∀y H4,f x=some y->af H H4->R y H4)->(∀H3,f x=cu->af H H3->R0 H3)->
   g x (wipe σ vs) H fun σ2 H2=>wipe σ2 vs=wipe σ vs/\tt σ2 H2 fun b H3=>if b=true then te σ2 H3 R else R0 H3)
  (hd:∀H,af H1 H->H D=some (.lst ((kvs.map (·.2)).filterMap f))->Qd H):
  ∃W:Nat->Nat->Hp->Prop,(∃m,W 0 m (upd H1 D (.lst [])))/\∀i m H,W i m H->
   ((kH d od kvs).stop i H/\Qd H)\/((kH d od kvs).go i H/\∃Nx:Hp->Prop,(∀H',Nx H'->∃m',m'<m/\W (i+1) m' H')/\∀x H',(kH d od kvs).fP i H x H'->g x (wipe σ vs) H' fun σ2 H2=>wipe σ2 vs=wipe σ vs/\tt σ2 H2 fun b H3=>
    if b=true then te σ2 H3 fun y H4=>∃acc,H4 D=some (.lst acc)/\acc.length<sizeLine/\Nx (upd H4 D (.lst (acc++[y]))) else Nx H3):=by
 refine ph (J:=kH d od kvs) (n:=kvs.length) (fun i=>((kvs.map (·.2))[i]?).bind f) hD (fun i H hi s=>⟨s _ _ hx,hi⟩) (fun H s=>⟨s _ _ hx,aI _⟩) hn (fun i H x H' R R0 hi s y h1 h2=> ?_) fun H s e=>hd H s ?_
 ·obtain⟨rfl,k,e⟩:=y;have e2:(kvs.map (·.2))[i]? =some x:=by rw[aS,e];rfl
  refine hs i _ k x R R0 e s (fun v H4 q=>h1 v H4 ?_) fun H3 q=>h2 H3 ?_
  ·rw[e2];exact q
  ·rw[e2];exact q
 ·have e3:kvs.length=(kvs.map (·.2)).length:=by rw[ao]
  rw[e3,eQ] at e;exact e
theorem Vy{d:aa}{od:Obj}{kvs:List (Key×V)}{g:TG}{tt:TT}{te:TE}{vs:List Nat}{σ:St}{H1:Hp}{D:aa}{Qd:Hp->Prop}(f:Key->Option V)(hD:H1 D=cu)(hx:H1 d=some (.bF od (.dK kvs)))(hn:kvs.length<sizeLine)
  (hs:∀(i:Nat) H k x (R:V->Hp->Prop) (R0:Hp->Prop),kvs[i]? =some (k,x)->af H1 H->(∀y H4,f k=some y->af H H4->R y H4)->(∀H3,f k=cu->af H H3->R0 H3)->
   g (kV k) (wipe σ vs) H fun σ2 H2=>wipe σ2 vs=wipe σ vs/\tt σ2 H2 fun b H3=>if b=true then te σ2 H3 R else R0 H3)
  (hd:∀H,af H1 H->H D=some (.lst ((kvs.map (·.1)).filterMap f))->Qd H):
  ∃W:Nat->Nat->Hp->Prop,(∃m,W 0 m (upd H1 D (.lst [])))/\∀i m H,W i m H->
   ((sd d od kvs).stop i H/\Qd H)\/((sd d od kvs).go i H/\∃Nx:Hp->Prop,(∀H',Nx H'->∃m',m'<m/\W (i+1) m' H')/\∀x H',(sd d od kvs).fP i H x H'->g x (wipe σ vs) H' fun σ2 H2=>wipe σ2 vs=wipe σ vs/\tt σ2 H2 fun b H3=>
    if b=true then te σ2 H3 fun y H4=>∃acc,H4 D=some (.lst acc)/\acc.length<sizeLine/\Nx (upd H4 D (.lst (acc++[y]))) else Nx H3):=by
 refine ph (J:=sd d od kvs) (n:=kvs.length) (fun i=>((kvs.map (·.1))[i]?).bind f) hD (fun i H hi s=>⟨s _ _ hx,hi⟩) (fun H s=>⟨s _ _ hx,aI _⟩) hn (fun i H x H' R R0 hi s y h1 h2=> ?_) fun H s e=>hd H s ?_
 ·obtain⟨rfl,k,v,e,rfl⟩:=y;have e2:(kvs.map (·.1))[i]? =some k:=by rw[aS,e];rfl
  refine hs i _ k v R R0 e s (fun v H4 q=>h1 v H4 ?_) fun H3 q=>h2 H3 ?_
  ·rw[e2];exact q
  ·rw[e2];exact q
 ·have e3:kvs.length=(kvs.map (·.1)).length:=by rw[ao]
  rw[e3,eQ] at e;exact e
theorem Vals.pick{xs:List V}{us:List ab}(r:Vals xs us):∀l:List Nat,Vals (l.filterMap fun i=>xs[i]?) (l.filterMap fun i=>us[i]?)
 |[]=> .nil
 |i::l=>by
  rw[jf,jf];cases e:xs[i]? with
  |none=>rw[r.none_of e];exact Vals.pick r l
  |some x=>
   obtain⟨u,h1,h2⟩:=r.get e
   rw[h1]
   exact .cons h2 (Vals.pick r l)
theorem Vz(aj:List ab)(a k:Nat)(hk:0<k):slicePick aj.toArray (some (a:Int)) cu (some (k:Int))=(MM.hU aj a k).toArray:=by
 unfold slicePick MM.hU;have hb:sliceBounds (some (a:Int)) cu (some (k:Int)) aj.toArray.size=(((min a aj.length:Nat):Int),(aj.length:Int),(k:Int)):=by
  simp only[sliceBounds,Option.getD_some,dN];have hp:(k:Int)>0:=by omega
  simp only[hp,if_true];rw[if_neg (by omega)]
  congr 1
  omega
 rw[hb];simp only
 congr 1
 unfold sliceRange;have hp:(k:Int)>0:=by omega
 simp only[hp,if_true];by_cases aY:a<aj.length
 ·have e1:((min a aj.length:Nat):Int)=(a:Int):=by omega
  rw[e1,if_pos (by omega)];have e2:(((aj.length:Int)-(a:Int)+(k:Int)-1)/(k:Int)).toNat=(aj.length-a+k-1)/k:=by
   have:(aj.length:Int)-(a:Int)+(k:Int)-1=((aj.length-a+k-1:Nat):Int):=by omega
   rw[this,<-Ic,iT]
  rw[e2,pN]
  congr 1
  funext i
  simp only[lE];have e3:((a:Int)+(k:Int)*(i:Int)).toNat=a+k*i:=by
   have:(a:Int)+(k:Int)*(i:Int)=((a+k*i:Nat):Int):=by rw[Int.natCast_add,P6]
   rw[this,iT]
  rw[e3];simp
 ·rw[if_neg (by omega)];have e2:(aj.length-a+k-1)/k=0:=by
   rw[Be];omega
  rw[e2];simp
theorem VA{α:Type}(xs:List α)(a k:Nat)(hk:0<k):(MM.hU xs a k).length<=xs.length:=by
 unfold MM.hU;refine dr (aez _ _) ?_;rw[xI];by_cases h:a<xs.length
 ·have:xs.length-a+k-1<=k*xs.length-1+k-1\/True:= .inr trivial;refine ae2 ?_;have h1:xs.length<=k*xs.length:=Nat.le_mul_of_pos_left _ hk;have h2:k<=k*xs.length:=Nat.le_mul_of_pos_right _ (by omega);have h3:(xs.length-1)+(k-1)+1<=k*xs.length:=by
   have:(k-1)*(xs.length-1)+(xs.length-1)+(k-1)+1=k*xs.length:=by
    obtain⟨k',rfl⟩:∃k',k=k'+1:=⟨k-1,by omega⟩;obtain⟨n',hn⟩:∃n',xs.length=n'+1:=⟨xs.length-1,by omega⟩;rw[hn];simp only[Nat.add_sub_cancel];rw[Nat.add_mul,IF,Nat.mul_one,Nat.one_mul];omega
   omega
  omega
 ·rw[Be (by omega)];omega
def LN(K:aC)(te:TE)(tl ts:TO):TE:=fun σ H Q=>te σ H fun x H1=>tl σ H1 fun l H2=>ts σ H2 fun u H3=>∃(p:aa) (xs:List V) (a k:Nat),x= .ref p/\l=some (a:Int)/\u=some (k:Int)/\0<k/\ah K H3 p xs/\
 ∀q,H3 q=cu->Q (.ref q) (upd H3 q (.lst (MM.hU xs a k)))
section
variable{X:Cx}{e st:aG}{te:TE}{lo:Option aG}{tl ts:TO}{pos p2:Pos}
theorem VB(he:PE X e te)(hl:PO X lo tl)(hs:PO X (some st) ts):PE X (.Subscript e (.Slice lo cu (some st) p2) pos) (LN X.K te tl ts):=by
 intro pins s σ H Q I h;refine By (aH (he pins s σ H _ I h) fun v s1 ⟨x,H1,I1,r1,q1⟩=> ?_);refine wpAny_Slice (aH (hl pins s1 σ H1 _ I1 q1) fun vl s2 ⟨l,H2,I2,pl,q2⟩=> ?_);rw[Qu];refine aO (aH (hs pins s2 σ H2 _ I2 q2) fun vs s3 ⟨u,H3,I3,pu,q3⟩=> ?_);obtain⟨p,xs,a,k,rfl,rfl,rfl,hk,hx,q⟩:=q3;cases r1;have I4:Inv X pins σ H3 {s3 with heap:=s3.heap.push {cls:= .type "slice",data:= .fields #[vl,.none,vs]}}:=I3.kept (t':=s3.toks) fun b ob q=>cx _ q;obtain⟨aj,r,ht,hz⟩:=I4.list hx;have hlen:=r.length;show wpAny (model X.prog X.w) X.A (subscriptTail e (.Slice lo cu (some st) p2) (.ref p) (.ref s3.heap.objs.size)) (EP X pins σ Q) X.xe {s3 with heap:=s3.heap.push {cls:= .type "slice",data:= .fields #[vl,.none,vs]}};refine tail_any (ops:=[.ref p,.ref s3.heap.objs.size]) ht.isList.typeIs slot_list_getitem.lookup ?_ (by with_unfolding_all rfl);refine aeX ht.isList (aek ..) pl .none pu (by intro z;injection z with z;omega) ?_ (by rw[dN]<;>omega);rw[Vz aj a k hk];refine⟨.ref _,_,I4.laid (t':=s3.toks) (o:= .lst (MM.hU xs a k)) (fun b ob q=>cx _ q) (aI _) ?_,rfl,q _ (I4.az.fresh (aI _))⟩;have hv:Vals (MM.hU xs a k) (MM.hU aj a k):=by
  unfold MM.hU;rw[<-hlen];have:=Vals.pick r ((cN ((xs.length-a+k-1)/k)).map fun i=>a+k*i);rw[pN,pN] at this;exact this
 exact⟨dr (VA xs a k hk) hz,_,0,hv,cG _ rfl⟩
end
section
open PySem.AutoSeq1 PySem.SeqAt
theorem VC(l:aa)(items:Array ab)(n:Nat)(b:aa)(d5:Array ab)(n2:Nat)(dd:Option aa)(sl:Array (Option ab))(hs0:¬(!items.isEmpty&&xt (items.size+d5.size))=true)(VD:items.size<=sizeLine)(jQ:items.size+d5.size<=sizeLine+1):
  Meets (Builtin.«list.extend» ⟨[.ref l,.ref b],[]⟩) (fun _ R s=>s.heap.get? l=some {cls:= .type "list",dict:=cu,data:= .seq items n,slots:= #[]}/\s.heap.get? b=some {cls:= .type "tuple",dict:=dd,data:= .seq d5 n2,slots:=sl}/\R (.ok (.ret lL)) {s with heap:=s.heap.update l (lM fun x=>x++d5),toks:=s.toks}):=
 .of_wp fun prog w A R s h=>by
  obtain⟨hp,g,d,tk,os⟩:=s;obtain⟨hl,hb,h⟩:=h;have f1:=AutoSeq1.idx_int;have f2:=aem;have f3:=aeq;have f4:=AutoSeq1.sub_tuple_list;have f5:=AutoSeq1.sub_list_tuple;have hz':(items++d5).size<=sizeLine+1:=by rw[Array.size_append];exact jQ
  wp_walk using(Bk hl rfl (hz:=VD) (_hz':=hz')),wpAny_loadPart' hl,wpAny_loadPart' hb;exact⟨_,rfl,h⟩
end
section
variable{X:Cx}
theorem VE:fK X (.type "dict") (fun xs H Q=>∃a kvs,xs=[V.ref a]/\Rd H a (.dK kvs)/\∀p,H p=cu->Q (.ref p) (upd H p (.dK kvs))):=by
 intro pins s σ H xs us Q I r h;obtain⟨a,kvs,rfl,ha,q⟩:=h;obtain⟨u,rfl,ru⟩:=vals1 r;cases ru;obtain⟨z,hd,vs,rel,dd⟩:=ma I.az ha;refine PySem.kt_call_dict (knd:=fg X.prog X.w) hd dd (by rw[<-rel.length];exact z) fun h' dd' sb=> ?_;refine⟨.ref s.heap.objs.size,_,I.laid (a:=s.heap.objs.size) (o:= .dK kvs) (t':=s.toks) (fun b o e=> ?_) (aI _) ⟨z,beq_eq_false_iff_ne.mpr (d7 (cW I.big)),vs,rel,dd'⟩,rfl,q _ (I.az.fresh (aI _))⟩;exact(sb.2 b (cW (br e))).trans (cx _ e)
def LO(K:aC):V->List V->Hp->VK->Prop:=fun x vs H Q=>∃l b xs zs,x= .ref l/\vs=[.ref b]/\H l=some (.lst xs)/\cH K H b zs/\xs.length+zs.length<=sizeLine/\Q .bc (upd H l (.lst (xs++zs)))
theorem VF:yA X "list.extend" (LO X.K):=by
 intro pins s σ H x vs v us Q I rx rv h;obtain⟨l,b,xs,zs,rfl,rfl,hH,hB,hz,q⟩:=h;cases rx;obtain⟨u,rfl,ru⟩:=rv.one;cases ru;obtain⟨z,aj,n,r,hl,e⟩:=I.qo hH;obtain⟨fi,r2,⟨ob,e2,c2,n2,d2⟩,z2⟩:=I.tuple hB;have hlen:=r.length;have LP:=r2.length;have hsz:aj.toArray.size+fi.toArray.size<=sizeLine:=by rw[dN,dN];omega
 have vy:¬(!aj.toArray.isEmpty&&xt (aj.toArray.size+fi.toArray.size))=true:=by
  rw[B9 hsz,Iq];exact df
 obtain⟨oc,od,oda,os⟩:=ob;cases c2;cases d2;refine Bx F.slot_list_extend ⟨_,e,rfl⟩ F.entry_list_extend (F.args_list_extend_2 _ _)
  (VC l aj.toArray n b fi.toArray n2 od os vy (by rw[dN];omega) (by omega)) ⟨e,e2,?_⟩
 refine⟨.bc,_,I.B8 (its':=aj++fi) hH e (by simp) (r.append r2) ?_,rfl,q⟩;rw[dJ];omega
end
open PySem PySem.Spec PyProof.Rows
theorem iP{te:TE}{σ:St}{H:Hp}{R:V->Hp->Prop}{R0:Hp->Prop}(h:te σ H R):JS σ H fun b H3=>if b=true then te σ H3 R else R0 H3:=by
 show if true=true then te σ H R else R0 H
 rw[if_pos rfl];exact h
section
variable{X:Cx}{K:aC}{a b e o value l:aG}{f:Str}{pos pos' dP p2:Pos}{ta tb tv te tl:TE}
theorem eG{a u:TS}{D:Ends}{σ:St}{H:Hp}(h:∀n:St->Hp->Prop,(∀σ H,u D σ H->n σ H)->a {D with nx:=n} σ H):yl a u D σ H:=h (u D) fun _ _ q=>q
def VG(K:aC)(H:Hp)(x:V)(f:Str)(v:V):Prop:=∃a C dx fs,x= .ref a/\H a=some (.ins C dx fs)/\gh K C/\c5 K C f/\fs.lookup f=some v
def VH(K:aC)(ta:TE)(f:Str):TE:=fun σ H Q=>ta σ H fun x H1=>∃v,VG K H1 x f v/\Q v H1
theorem aJ(he:PE X e ta)(hb:attributeBase e f X.env (eval e X.env)=eval e X.env)(hK:X.K=K:=by rfl):PE X (.Attribute e f pos) (VH K ta f):=by
 subst hK;intro pins s σ H Q I h;refine Jg hb (aH (he pins s σ H _ I h) fun u s1 ⟨x,H1,I1,rx,v,⟨a,C,dx,fs,ex,ea,c,n,l⟩,q⟩=> ?_);subst ex;obtain rfl:u=cO a:=rx;exact BZ I1 ea c n l fun u' s2 I2 ru=>⟨v,H1,I2,ru,q⟩
theorem c7(ha:PE X o ta)(hv:PE X value tv)(hs:swapsWith value (some (.Attribute o f pos')) pos.line X.env=pure false)(hK:X.K=K:=by rfl):PS X (.Assign [.Attribute o f pos'] value pos) (Jh K ta tv f):=by subst hK;exact RK ha hv hs
theorem Dj{op:rF}{rd:V->V->Hp->VK->Prop}(ha:PE X o ta)(hv:PE X value tv)(vo:vn X op rd)(hK:X.K=K:=by rfl):PS X (.AugAssign (.Attribute o f dP) op value pos) (Ji K ta tv rd f):=by subst hK;exact RL ha hv vo
theorem cy(hK:X.K=K:=by rfl):vp X (JB K):=by subst hK;exact Sb
theorem i8(hK:X.K=K:=by rfl):vp X (JC K):=by subst hK;exact Sd
theorem zp(hK:X.K=K:=by rfl):eh X (compareOp .In) (yz K false):=by subst hK;exact Sl
theorem VI(hK:X.K=K:=by rfl):eh X (compareOp .NotIn) (yz K true):=by subst hK;exact Sm
def LQ(K:aC):List V->Hp->VK->Prop:=fun xs H Q=>∃p ys,xs=[.ref p]/\(ah K H p ys\/cH K H p ys)/\Q (.int ys.length) H
theorem fT(hK:X.K=K:=by rfl):fK X (.builtin "len") (LQ K):=by subst hK;exact Sn
def VJ(K:aC):List V->Hp->VK->Prop:=fun xs H Q=>∃p ys,xs=[.ref p]/\(ah K H p ys\/cH K H p ys)/\∀l,H l=cu->Q (.ref l) (upd H l (.lst ys))
theorem VL(hK:X.K=K:=by rfl):fK X (.type "list") (VJ K):=by subst hK;exact So
theorem jy(hc:X.calm=true)(hK:X.K=K:=by rfl):fK X (.builtin "sum") (JK K):=by subst hK;exact SE hc
theorem VM(hc:X.calm=true)(hK:X.K=K:=by rfl):fK X (.builtin "max") (JL K):=by subst hK;exact SF hc
theorem LR(hc:X.calm=true)(hK:X.K=K:=by rfl):fK X (.builtin "min") (JM K):=by subst hK;exact SG hc
theorem zq(hc:X.calm=true)(hK:X.K=K:=by rfl):fK X (.builtin "all") (JO K):=by subst hK;exact SK hc
theorem VN(hK:X.K=K:=by rfl):fK X (.builtin "sorted") (JN K):=by subst hK;exact SH
theorem Dk(hK:X.K=K:=by rfl):B4 X (JD K):=by subst hK;exact Sj
theorem pj{st:aG}{lo:Option aG}{tl ts:TO}(he:PE X e te)(hl:PO X lo tl)(hs:PO X (some st) ts)(hK:X.K=K:=by rfl):PE X (.Subscript e (.Slice lo cu (some st) p2) pos) (LN K te tl ts):=by subst hK;exact VB he hl hs
theorem VO(hK:X.K=K:=by rfl):yA X "list.extend" (LO K):=by subst hK;exact VF
theorem dh{tg:aG}(hl:PE X l tl)(hK:X.K=K:=by rfl):PI X tg l (IU K tl):=by subst hK;exact Rn hl
theorem Dl{ta:TA}{p:Pos}{elts:List aG}{kk:Nat}(hg:Gl X "enumerate")(hm:X.mg "enumerate"=cu)(ha:PA X [e] ta)(hK:X.K=K:=by rfl)(hs:starEach [e] X.env=[(false,eval e X.env)]:=by rfl):
  PI X (.Tuple elts kk dP) (.Call (.Name "enumerate" p) [e] [] pos) (Kh K ta):=by subst hK;exact TY hg hm ha hs
theorem LS{e2:aG}{ta:TA}{p:Pos}{elts:List aG}{kk:Nat}(hg:Gl X "zip")(hm:X.mg "zip"=cu)(ha:PA X [e,e2] ta)(hK:X.K=K:=by rfl)
  (hs:starEach [e,e2] X.env=(false,eval e X.env)::starEach [e2] X.env:=by rfl) (cz:(backTo pos (starEach [e2] X.env)).any (·.1)=false:=by rfl):
  PI X (.Tuple elts kk dP) (.Call (.Name "zip" p) [e,e2] [] pos) (Ki K ta):=by subst hK;exact T6 hg hm ha hs cz
theorem pk{es:List aG}{k:Nat}{t:oR}{n:Nat}(hc:X.calm=true)(h:vc X es t)(hK:X.K=K:=by rfl)(hn:(assignEach es X.env).length=n:=by rfl)(eV:(assignEach es X.env).findIdx? (·.1)=cu:=by rfl):PG X (.Tuple es k pos) (yo K n t):=by subst hK;exact Ra hc h hn eV
end
abbrev BodyOk(P:bg)(w:aW)(K:aC)(mg:Str->Option ab)(base:aB)(N ps:List Str)(qual:Str)(st:aL)(f:aa)(aD:ab)(A:bY)(outer:List Env)(s:ak)(H:Hp)(vs:List V)(Q:VK)(E:XK):Prop:=
 vs.length=ps.length/\∃t,gT (m7 aT P w K mg base N qual (aQ st) f aD A outer s H E).oP (jr st) t/\t {nx:=fun _ H'=>Q .bc H',rt:=Q} (start N vs) H
theorem aR.bA{P:bg}{w:aW}{K:aC}{mg:Str->Option ab}{base:aB}{x qual:Str}{st:aL}{f:aa}{fd:aU}{N ps:List Str}{k:Nat}{sp:Sp}(F:aR K x qual st f fd)(S:a9 N ps (aQ st))
  (oV:∀(aD:ab) (A:bY) (outer:List Env) (s:ak) (H:Hp) (vs:List V) (Q:VK) (E:XK),dw k (A.deeper (envOfC qual (aQ st) s.heap.objs.size f aD))->sp vs H Q E->BodyOk P w K mg base N ps qual st f aD A outer s H vs Q E) (hk:k<=20:=by decide):aN P w K mg base aT (k+1) f fd ps sp:=
 F.ok S (fun vs H Q E h=>(oV .none callerA [] {} H vs Q E (((⟨rfl,by decide,by decide⟩:dw 21 callerA).mono (HY hk)).deeper _) h).1) fun aD A outer s H vs Q E hr h=>(oV aD A outer s H vs Q E hr h).2
open PySem PySem.Spec PyProof.Rows
theorem Dm:∀{vs:List ab} {ns:List Int},vs.length=ns.length->(∀(j:Nat) v n,vs[j]? =some v->ns[j]? =some n->∃t,v= .int n t)->eS vs ns
 |[],[],_,_=> .nil
 |[],_::_,h,_=>by simp at h
 |_::_,[],h,_=>by simp at h
 |v::vs,n::ns,h,k=>by
  obtain⟨t,e⟩:=k 0 v n rfl rfl;subst e;exact .cons n t (Dm (by simpa using h) fun j u m h1 h2=>k (j+1) u m (by simpa using h1) (by simpa using h2))
section
variable{X:Cx}
def VP:List V->Hp->VK->Prop:=fun vs H Q=>∃(a:aa) (kvs:List (Key×V)) (ns:List Int),vs=[V.ref a]/\Rd H a (.dK kvs)/\kvs.map (·.1)=ns.map jN/\ns.length<64/\
 ∀(eN:List Int) (p:aa),eN.Perm ns->eN.Pairwise (·<=·)->H p=cu->Q (.ref p) (upd H p (.lst (eN.map V.int)))
theorem VQ(hc:X.calm=true):fK X (.builtin "sorted") VP:=by
 intro pins s σ H vs us Q I r h;obtain⟨a,kvs,ns,rfl,ha,hk,vz,q⟩:=h;rw[Vals.l9 r];obtain⟨z,hd,raw,rel,dd⟩:=ma I.az ha;obtain⟨ep,qz⟩:=dd.dictAt;have LU:raw.map (·.1)=ns.map jN:=by rw[<-KV.keys rel];exact hk
 have hlen:raw.length=ns.length:=by have:=congrArg iV LU;simpa using this
 refine Calls.call_function_entry kind_sorted plain_sorted entry_sorted (args_sorted1 _) ?_;unfold Builtin.«sorted»;refine aq (m:=checkCount "sorted" 1 1 _) (aO ?_);refine aq (PySem.W.kdu_collect (A:=X.A.in1) (PySem.W.kdl_dict (knd:=fg X.prog X.w) (kvs:=raw) (ep:=ep) hd) (I.ok.hd hc) qz (by rw[hlen];exact yC vz) fun h' tk acc Dg jz=> ?_);have hi:eS acc.toList ns:=by
  refine Dm (by rw[mJ,jz.1,hlen]) fun j v n h1 h2=> ?_;obtain⟨k,x,h3,h4⟩:=jz.2 j v (by rw[<-uy];exact h1);have h5:(raw.map (·.1))[j]? =some k:=by rw[aS,h3];rfl
  rw[LU,aS,h2] at h5;have h6:jN n=k:=fe h5;subst h6;rcases kr (show lN (jN n) v=true from h4) with⟨i,t,e1,e2⟩|⟨y,t,e1,e2⟩
  ·cases e1;exact⟨t,e2⟩
  ·cases e1
 have hl:acc.toList.length=ns.length:=hi.length.symm▸rfl;have LV:acc.toList.length<64:=by have:=hi.length;omega
 refine aq (Qs ?_ (yC LV));have Dn:(h'.push (seqObj "list" acc.toList.toArray 0)).get? h'.objs.size=some (seqObj "list" acc.toList.toArray 0):=cG _ rfl;show wpAny _ _ _ _ _ ({s with heap:=h'.push (seqObj "list" acc.toList.toArray 0),toks:=tk}:ak);refine aq (oH (mM slot_list_sort ⟨_,Dn,rfl⟩ entry_list_sort
  (list_sort_tree Dn hi LV fun out eN h1 h2 h3=>⟨.none,rfl,?_⟩) (args_list_sort _)))
 refine aO ⟨_,rfl,?_⟩;obtain⟨ep2,he'⟩:=sortedHeap_at (vs:=acc.toList) (out:=out) Dn;have LP:(eN.map V.int).length<=sizeLine:=by rw[ao,h2.length_eq];exact yC vz
 have I1:Inv X pins σ H {s with heap:=h',toks:=tk}:=I.kept Dg;have VR:H h'.objs.size=cu:=I1.az.fresh (aI _);refine⟨.ref h'.objs.size,upd H h'.objs.size (.lst (eN.map V.int)),I1.laid (t':=tk) (fun b o e=> ?_) (aI _) ⟨LP,out.toList,ep2,yB h1,he'⟩,rfl,q eN _ h2 h3 VR⟩;have aY:=br e;rw[sortedHeap_old (cW aY) (by rw[size_push'];exact HQ aY)];exact cx _ e
end
def VS(td:TE):TE:=fun σ H Q=>td σ H fun x H1=>∃d kvs,x= .ref d/\H1 d=some (.dK kvs)/\∀o,Q x (upd H1 d (.bF o (.dK kvs)))
theorem VT{X:Cx}{e:aG}{td:TE}(he:PE X e td):PE X e (VS td):=by
 intro pins s σ H Q I h;refine aH (he pins s σ H _ I h) fun u s1 ⟨x,H1,I1,rx,d,kvs,ex,hd,q⟩=> ?_;obtain⟨od,I2⟩:=I1.lock hd p9;exact⟨x,_,I2,rx,q od⟩
end L2
namespace CM
open PySem PySem.Spec PyProof.Rows L2
open Vbahak (State Carrier Part Ticket)
abbrev dj:=Vbahak.Claim
structure aK where
 h:aa
 c:aa
 p:aa
 t:aa
 k:aa
structure Ad where
 p:aa
 dx:aa
 dC:aa
 dR:aa
 dX:aa
 dT:aa
 lC:aa
def nI(n:Nat):V:= .int (n:Int)
def kI(n:Nat):Key:=jN (n:Int)
def mj(x:d8):List (Str×V):=[("currency",nI x.currency),("suspended",.bl x.suspended),("paid",nI x.paid),("got",nI x.got)]
def ic(x:bT):List (Str×V):=[("carrier",nI x.carrier),("share",nI x.share),("kept",nI x.kept),("state",nI x.stage),("claim",nI x.claim)]
def zr(x:bI)(l:aa):List (Str×V):=[("issuer",nI x.issuer),("value",nI x.value),("parts",.ref l)]
def gK(x:dj):List (Str×V):=[("to",nI x.to),("of",nI x.of),("amount",nI x.amount),("month",nI x.month),("depth",nI x.depth),("parent",nI x.parent),("rejected_by",nI x.next),("settled",.bl x.settled)]
def sZ(A:Ad)(m:Nat):List (Str×V):=[("carriers",.ref A.dC),("rates",.ref A.dR),("charges",.ref A.dX),("tickets",.ref A.dT),("claims",.ref A.lC),("month",nI m)]
def bV(H:Hp)(a C:aa)(fs:List (Str×V)):Prop:=∃dx,H a=some (.ins C dx fs)
structure Tg where
 a:aa
 l:aa
 ps:List aa
structure Gh where
 ca:List (Key×V)
 ra:List (Key×V)
 xa:List (List Key×V)
 tg:List Tg
 cl:List aa
 n:Nat
def eI(ts:List bI)(gs:List Tg):List (Key×V):=Qo (fun x g=>(kI x.t,V.ref g.a)) ts gs
structure i9(Z:aK)(A:Ad)(H:Hp)(x:bI)(g:Tg):Prop where
 o:bV H g.a Z.t (zr x g.l)
 l:H g.l=some (.lst (g.ps.map V.ref))
 n:g.l≠A.lC
 len:g.ps.length=x.parts.length
 p:∀(j:Nat) p b,x.parts[j]? =some p->g.ps[j]? =some b->bV H b Z.p (ic p)
structure aE(Z:aK)(A:Ad)(G:Gh)(H:Hp)(s:State):Prop where
 dd:A.dC≠A.dR/\A.dT≠A.dR/\A.dT≠A.dC
 hs:H A.p=some (.ins Z.h A.dx (sZ A s.month))
 hC:H A.dC=some (.dK G.ca)
 cK:(G.ca.map Prod.fst).Perm ((MM.nums s).map kI)
 cV:∀c x,oB s c=some x->∃a,bW G.ca (kI c)=some (.ref a)/\bV H a Z.c (mj x)
 cI:∀c d a,bW G.ca (kI c)=some (.ref a)->bW G.ca (kI d)=some (.ref a)->c=d
 hR:H A.dR=some (.dK G.ra)
 rN:∀k,k≠0->lG s k=none->bW G.ra (kI k)=none
 rV:∀k r,k≠0->lG s k=some r->∃t,bW G.ra (kI k)=some (.ref t)/\H t=some (.tup [nI r.1,nI r.2])
 rL:G.ra.length<=G.n
 hX:H A.dX=some (.dT G.xa)
 xV:∀a b,(bW G.xa [kI a,kI b]).getD (nI 0)=nI (mN s a b)
 xL:G.xa.length<=G.n
 hT:H A.dT=some (.dK (eI s.tickets G.tg))
 tL:G.tg.length=s.tickets.length
 tV:∀(i:Nat) x g,s.tickets[i]? =some x->G.tg[i]? =some g->i9 Z A H x g
 tI:∀(i i' j j':Nat) g g' b,G.tg[i]? =some g->G.tg[i']? =some g'->g.ps[j]? =some b->g'.ps[j']? =some b->i=i'/\j=j'
 hK:H A.lC=some (.lst (G.cl.map V.ref))
 kL:G.cl.length=s.claims.length
 kN:G.cl.Nodup
 kV:∀(i:Nat) x a,s.claims[i]? =some x->G.cl[i]? =some a->bV H a Z.k (gK x)
def Dp:HO->Bool
 | .eD _=>true
 |_=>false
def tj:HO->Bool
 | .lst _=>true
 | .tup _=>true
 | .bF _ _=>true
 | .eD _=>true
 | .ext _=>true
 |_=>false
def isList:HO->Bool
 | .lst _=>true
 | .tup _=>true
 | .bF _ _=>true
 |_=>false
def Kp(H H':Hp):Prop:=∀b o,H b=some o->Dp o=false->H' b=some o
theorem Kp.of{H H':Hp}(h:af H H'):Kp H H':=fun b o e _=>h b o e
theorem Kp.trans{H H1 H2:Hp}(a:Kp H H1)(b:Kp H1 H2):Kp H H2:=fun c o h t=>b c o (a c o h t) t
def cP(A:Ad)(H H':Hp):Prop:=∀b o,H b=some o->tj o=true->b≠A.lC->H' b=some o
def kP(A:Ad)(H H':Hp):Prop:=∀b o,H b=some o->isList o=true->b≠A.lC->H' b=some o
theorem VU{o:HO}(h:isList o=true):Dp o=false:=by cases o<;>first|rfl|cases h
theorem VV{o:HO}(h:isList o=true):tj o=true:=by cases o<;>first|rfl|cases h
theorem Kp.tp{H H':Hp}(A:Ad)(h:Kp H H'):kP A H H':=fun b o e q _=>h b o e (VU q)
theorem cP.L{A:Ad}{H H':Hp}(h:cP A H H'):kP A H H':=fun b o e q n=>h b o e (VV q) n
theorem kP.trans{A:Ad}{H H1 H2:Hp}(a:kP A H H1)(b:kP A H1 H2):kP A H H2:=fun c o h t n=>b c o (a c o h t n) t n
theorem cP.of{A:Ad}{H H':Hp}(h:af H H'):cP A H H':=fun b o e _ _=>h b o e
theorem cP.trans{A:Ad}{H H1 H2:Hp}(a:cP A H H1)(b:cP A H1 H2):cP A H H2:=fun c o h t n=>b c o (a c o h t n) t n
theorem cP.refl(A:Ad)(H:Hp):cP A H H:=fun _ _ h _ _=>h
theorem af.new{H:Hp}{a:aa}{o:HO}(h:H a=none):af H (upd H a o):=fun b u e=>by rw[ag (aV e h)];exact e
theorem af.put{H:Hp}{a:aa}{o:HO}{H':Hp}(s:af H H')(h:H a=none):af H (upd H' a o):=fun b u e=>by rw[ag (aV e h)];exact s b u e
theorem bV.kp{H H':Hp}{a C:aa}{fs:List (Str×V)}(k:Kp H H')(h:bV H a C fs):bV H' a C fs:=let ⟨dx,e⟩:=h;⟨dx,k _ _ e rfl⟩
theorem i9.kp{Z:aK}{A:Ad}{H H':Hp}{x:bI}{g:Tg}(k:Kp H H')(h:i9 Z A H x g):i9 Z A H' x g:=
 ⟨h.o.kp k,k _ _ h.l rfl,h.n,h.len,fun j p b e1 e2=>(h.p j p b e1 e2).kp k⟩
theorem aE.kp{Z:aK}{A:Ad}{G:Gh}{H H':Hp}{s:State}(k:Kp H H')(h:aE Z A G H s):aE Z A G H' s where
 dd:=h.dd
 hs:=k _ _ h.hs rfl
 hC:=k _ _ h.hC rfl
 cK:=h.cK
 cV:=fun c x e=>let ⟨a,h1,h2⟩:=h.cV c x e;⟨a,h1,h2.kp k⟩
 cI:=h.cI
 hR:=k _ _ h.hR rfl
 rN:=h.rN
 rV:=fun c r n e=>let ⟨a,h1,h2⟩:=h.rV c r n e;⟨a,h1,k _ _ h2 rfl⟩
 rL:=h.rL
 hX:=k _ _ h.hX rfl
 xV:=h.xV
 xL:=h.xL
 hT:=k _ _ h.hT rfl
 tL:=h.tL
 tV:=fun i x g e1 e2=>(h.tV i x g e1 e2).kp k
 tI:=h.tI
 hK:=k _ _ h.hK rfl
 kL:=h.kL
 kN:=h.kN
 kV:=fun i x a e1 e2=>(h.kV i x a e1 e2).kp k
theorem vZ{C C' dx dx':aa}{fs fs':List (Str×V)}(h:fs.length≠fs'.length):HO.ins C dx fs≠.ins C' dx' fs':=by
 intro e;injection e with _ _ e;exact h (congrArg iV e)
theorem v9(A:Ad)(m:Nat):(sZ A m).length=6:=rfl
theorem wa(x:d8):(mj x).length=4:=rfl
theorem tu(x:bT):(ic x).length=5:=rfl
theorem wb(x:bI)(l:aa):(zr x l).length=3:=rfl
theorem wd(x:dj):(gK x).length=8:=rfl
def bM(a:aa)(H H':Hp):Prop:=∀b o,H b=some o->b≠a->H' b=some o
theorem bM.upd{H:Hp}{a:aa}{o:HO}:bM a H (upd H a o):=fun b u e n=>by rw[ag n];exact e
theorem bV.but{H H':Hp}{a b C C' dx:aa}{fs fs':List (Str×V)}(k:bM a H H')(ha:H a=some (.ins C' dx fs'))(l:fs.length≠fs'.length)(h:bV H b C fs):bV H' b C fs:=by
 obtain⟨d,e⟩:=h;exact⟨d,k _ _ e (cv e ha (vZ l))⟩
theorem bV.tD{H H':Hp}{a b C:aa}{fs:List (Str×V)}(k:bM a H H')(n:b≠a)(h:bV H b C fs):bV H' b C fs:=by
 obtain⟨d,e⟩:=h;exact⟨d,k _ _ e n⟩
theorem bM.fr{A:Ad}{a:aa}{H H':Hp}{o:HO}(k:bM a H H')(ha:H a=some o)(hn:tj o=false):cP A H H':=fun b u e q _=>k b u e (cv e ha (by rintro rfl;rw[q] at hn;cases hn))
theorem aE.Dq{Z:aK}{A:Ad}{G:Gh}{H:Hp}{s:State}(h:aE Z A G H s){c:Nat}(e:bq s c=false):bW G.ca (kI c)=none:=by
 cases q:bW G.ca (kI c) with
 |none=>rfl
 |some v=>
  have m:=T9 q
  rw[h.cK.mem_iff,bh] at m
  obtain⟨d,hd,e2⟩:=m
  have e3:(d:Int)=(c:Int):=Qh e2
  have e4:d=c:=by omega
  subst e4
  rw[MM.nN.mp hd] at e
  cases e
theorem aE.pq{Z:aK}{A:Ad}{G:Gh}{H:Hp}{s:State}(h:aE Z A G H s){c:Nat}(e:bq s c=true):∃x a,oB s c=some x/\bW G.ca (kI c)=some (.ref a)/\bV H a Z.c (mj x):=by
 unfold bq at e;obtain⟨x,hx⟩:=AZ.mp e;obtain⟨a,h1,h2⟩:=h.cV c x hx;exact⟨x,a,hx,h1,h2⟩
theorem aE.LW{Z:aK}{A:Ad}{G:Gh}{H:Hp}{s:State}(h:aE Z A G H s)(c:Nat):(bW G.ca (kI c)).isSome=bq s c:=by
 cases e:bq s c with
 |false=>rw[h.Dq e];rfl
 |true=>obtain⟨x,a,_,h1,_⟩:=h.pq e;rw[h1];rfl
theorem aE.Dr{Z:aK}{A:Ad}{G:Gh}{H:Hp}{s:State}(h:aE Z A G H s):G.ca.length=s.carriers.length:=by
 have:=h.cK.length_eq;simpa[MM.nums] using this
theorem j1{a b:Nat}(h:kI a=kI b):a=b:=by
 have:(a:Int)=(b:Int):=Qh h;omega
theorem zt:∀{ts:List bI} {gs:List Tg} {i:Nat} {x:bI} {g:Tg},(ts.map (·.t)).Nodup->ts[i]? =some x->gs[i]? =some g->bW (eI ts gs) (kI x.t)=some (V.ref g.a)
 |[],_,_,_,_,_,h,_=>by simp at h
 |_::_,[],_,_,_,_,_,h=>by simp at h
 |y::ts,g0::gs,0,x,g,_,h1,h2=>by
  simp at h1 h2;subst h1 h2;exact jo (p:=(kI y.t,V.ref g0.a)) rfl
 |y::ts,g0::gs,i+1,x,g,hn,h1,h2=>by
  rw[bQ,jI] at hn;have h1':ts[i]? =some x:=by simpa using h1
  have h2':gs[i]? =some g:=by simpa using h2
  have ne:¬kI y.t=kI x.t:=fun z=>hn.1 (by rw[j1 z];exact iS (bP h1'));show bW ((kI y.t,V.ref g0.a)::eI ts gs) _=_;rw[iK ne];exact zt hn.2 h1' h2'
theorem zu:∀{ts:List bI} {gs:List Tg} {t:Nat},t∉ts.map (·.t)->bW (eI ts gs) (kI t)=none
 |[],_,_,_=>by simp[eI,bW]
 |_::_,[],_,_=>by simp[eI,bW]
 |y::ts,g0::gs,t,hn=>by
  rw[bQ,b0] at hn;have ne:¬kI y.t=kI t:=fun z=>hn (.inl (j1 z).symm);show bW ((kI y.t,V.ref g0.a)::eI ts gs) _=_;rw[iK ne];exact zu fun z=>hn (.inr z)
theorem LX{ts:List bI}{gs:List Tg}(h:gs.length=ts.length):(eI ts gs).length=ts.length:=by
 unfold eI;rw[List.length_zipWith,h,x8]
theorem kQ{α β:Type}{l:List α}{m:List β}(h:m.length=l.length){i:Nat}{x:α}(e:l[i]? =some x):∃y,m[i]? =some y:=by
 have:=(cJ.mp e).1;exact⟨_,cE (by omega)⟩
theorem LY{s:State}{t:Nat}{x:bI}(h:uI s t=some x):∃i:Nat,s.tickets[i]? =some x/\x.t=t:=by
 obtain⟨h1,h2⟩:=MM.sx h;obtain⟨i,hi⟩:=fH h1;exact⟨i,hi,by simpa using h2⟩
theorem LZ{s:State}{t:Nat}(h:uI s t=none):t∉s.tickets.map (·.t):=MM.CO.mp h
open PySem PySem.Spec PyProof.Rows L2
open Vbahak (State Carrier Part Ticket)
section
variable{Z:aK}{A:Ad}{G:Gh}{H H':Hp}{s:State}
theorem aE.setPart(h:aE Z A G H s){i j:Nat}{x:bI}{p p':bT}{g:Tg}{b:aa}(hi:s.tickets[i]? =some x)(hg:G.tg[i]? =some g)(hj:x.parts[j]? =some p)(hb:g.ps[j]? =some b)
  (k:bM b H H') (hb':bV H' b Z.p (ic p')):aE Z A G H' {s with tickets:=s.tickets.set i {x with parts:=x.parts.set j p'}}:=by
 obtain⟨dx,ob⟩:=(h.tV i x g hi hg).p j p b hj hb;have no:∀{c:aa} {o:HO},H c=some o->(∀C dx fs,o≠.ins C dx fs)->H' c=some o:=fun e n=>k _ _ e (cv e ob (n _ _ _));have ni:∀{c C:aa} {fs:List (Str×V)},fs.length≠5->bV H c C fs->bV H' c C fs:=fun l q=>q.but k ob (by rw[tu];exact l);have oY:=(cJ.mp hi).1;have VW:=(cJ.mp hj).1;refine {dd:=h.dd,hs:=k _ _ h.hs (cv h.hs ob (vZ (by rw[v9,tu];decide))),hC:=no h.hC (fun _ _ _ z=>nomatch z),cK:=h.cK,cV:=fun c y e=> ?_,cI:=h.cI,hR:=no h.hR (fun _ _ _ z=>nomatch z),rN:=h.rN,rV:=fun c r n e=> ?_,rL:=h.rL,hX:=no h.hX (fun _ _ _ z=>nomatch z),xV:=h.xV,xL:=h.xL,hT:= ?_,tL:= ?_,tV:=fun i' y g' e1 e2=> ?_,tI:=h.tI,hK:=no h.hK (fun _ _ _ z=>nomatch z),kL:=h.kL,kN:=h.kN,kV:=fun i' y a e1 e2=> ?_}
 ·obtain⟨a,h1,h2⟩:=h.cV c y e;exact⟨a,h1,ni (by rw[wa];decide) h2⟩
 ·obtain⟨a,h1,h2⟩:=h.rV c r n e;exact⟨a,h1,no h2 (fun _ _ _ z=>nomatch z)⟩
 ·have e:eI (s.tickets.set i {x with parts:=x.parts.set j p'}) G.tg=eI s.tickets G.tg:=by
   unfold eI;apply oA;intro n;rw[aeH,aeH];by_cases hn:n=i
   ·subst hn;rw[lz oY,hi,hg]
   ·rw[lB (d7 hn)]
  show H' A.dT=some (.dK (eI (s.tickets.set i {x with parts:=x.parts.set j p'}) G.tg));rw[e];exact no h.hT (fun _ _ _ z=>nomatch z)
 ·show G.tg.length=(s.tickets.set i _).length;rw[uJ];exact h.tL
 ·have e1:(s.tickets.set i {x with parts:=x.parts.set j p'})[i']? =some y:=e1;by_cases hn:i'=i
  ·subst hn;rw[lz oY] at e1;cases e1;rw[hg] at e2;cases e2;have t:=h.tV i' x g hi hg;refine⟨ni (by rw[wb];decide) t.o,no t.l (fun _ _ _ z=>nomatch z),t.n,?_,fun j' q b' e3 e4=> ?_⟩
   ·show g.ps.length=(x.parts.set j p').length;rw[uJ];exact t.len
   ·have e3:(x.parts.set j p')[j']? =some q:=e3;by_cases hm:j'=j
    ·subst hm;rw[lz VW] at e3;cases e3;rw[hb] at e4;cases e4;exact hb'
    ·rw[lB (d7 hm)] at e3;exact(t.p j' q b' e3 e4).tD k fun z=>hm (h.tI i' i' j' j g g b hg hg (by rw[<-z];exact e4) hb).2
  ·rw[lB (d7 hn)] at e1;have t:=h.tV i' y g' e1 e2;exact⟨ni (by rw[wb];decide) t.o,no t.l (fun _ _ _ z=>nomatch z),t.n,t.len,fun j' q b' e3 e4=>(t.p j' q b' e3 e4).tD k fun z=>hn (h.tI i' i j' j g' g b e2 hg (by rw[<-z];exact e4) hb).1⟩
 ·exact ni (by rw[wd];decide) (h.kV i' y a e1 e2)
theorem aE.VX(h:aE Z A G H s){x:dj}{a:aa}(ha:bV H a Z.k (gK x))(hn:a∉G.cl)(k:bM A.lC H H')(hl:H' A.lC=some (.lst ((G.cl++[a]).map V.ref))):
  aE Z A {G with cl:=G.cl++[a]} H' {s with claims:=s.claims++[x]}:=by
 have no:∀{c:aa} {o:HO},H c=some o->(∀xs,o≠.lst xs)->H' c=some o:=fun e n=>k _ _ e (cv e h.hK (n _));have ni:∀{c C:aa} {fs:List (Str×V)},bV H c C fs->bV H' c C fs:=fun⟨d,e⟩=>⟨d,no e (fun _ z=>nomatch z)⟩;refine {dd:=h.dd,hs:=no h.hs (fun _ z=>nomatch z),hC:=no h.hC (fun _ z=>nomatch z),cK:=h.cK,cV:=fun c y e=> ?_,cI:=h.cI,hR:=no h.hR (fun _ z=>nomatch z),rN:=h.rN,rV:=fun c r n e=> ?_,rL:=h.rL,hX:=no h.hX (fun _ z=>nomatch z),xV:=h.xV,xL:=h.xL,hT:=no h.hT (fun _ z=>nomatch z),tL:=h.tL,tV:=fun i' y g' e1 e2=> ?_,tI:=h.tI,hK:=hl,kL:= ?_,kN:= ?_,kV:=fun i' y b e1 e2=> ?_}
 ·obtain⟨b,h1,h2⟩:=h.cV c y e;exact⟨b,h1,ni h2⟩
 ·obtain⟨b,h1,h2⟩:=h.rV c r n e;exact⟨b,h1,no h2 (fun _ z=>nomatch z)⟩
 ·have t:=h.tV i' y g' e1 e2;exact⟨ni t.o,k _ _ t.l t.n,t.n,t.len,fun j' q b' e3 e4=>ni (t.p j' q b' e3 e4)⟩
 ·show(G.cl++[a]).length=(s.claims++[x]).length;rw[dJ,dJ,h.kL];rfl
 ·exact Kk h.kN hn
 ·have e1:(s.claims++[x])[i']? =some y:=e1;have e2:(G.cl++[a])[i']? =some b:=e2;by_cases aY:i'<s.claims.length
  ·rw[ox aY] at e1;rw[ox (by rw[h.kL];exact aY)] at e2;exact ni (h.kV i' y b e1 e2)
  ·rw[qV (by omega)] at e1;rw[qV (by rw[h.kL];omega)] at e2;have z:i'-s.claims.length=0:=by
    have:=(cJ.mp e1).1;simp at this;omega
   rw[z] at e1;rw[h.kL,z] at e2;simp at e1 e2;subst e1 e2;exact ni ha
theorem aE.L0(h:aE Z A G H s){i:Nat}{x x':dj}{b:aa}(hi:s.claims[i]? =some x)(hg:G.cl[i]? =some b)(k:bM b H H')(hb':bV H' b Z.k (gK x')):
  aE Z A G H' {s with claims:=s.claims.set i x'}:=by
 obtain⟨dx,ob⟩:=h.kV i x b hi hg;have no:∀{c:aa} {o:HO},H c=some o->(∀C dx fs,o≠.ins C dx fs)->H' c=some o:=fun e n=>k _ _ e (cv e ob (n _ _ _));have ni:∀{c C:aa} {fs:List (Str×V)},fs.length≠8->bV H c C fs->bV H' c C fs:=fun l q=>q.but k ob (by rw[wd];exact l);have oY:=(cJ.mp hi).1;refine {dd:=h.dd,hs:=k _ _ h.hs (cv h.hs ob (vZ (by rw[v9,wd];decide))),hC:=no h.hC (fun _ _ _ z=>nomatch z),cK:=h.cK,cV:=fun c y e=> ?_,cI:=h.cI,hR:=no h.hR (fun _ _ _ z=>nomatch z),rN:=h.rN,rV:=fun c r n e=> ?_,rL:=h.rL,hX:=no h.hX (fun _ _ _ z=>nomatch z),xV:=h.xV,xL:=h.xL,hT:=no h.hT (fun _ _ _ z=>nomatch z),tL:=h.tL,tV:=fun i' y g' e1 e2=> ?_,tI:=h.tI,hK:=no h.hK (fun _ _ _ z=>nomatch z),kL:= ?_,kN:=h.kN,kV:=fun i' y a e1 e2=> ?_}
 ·obtain⟨a,h1,h2⟩:=h.cV c y e;exact⟨a,h1,ni (by rw[wa];decide) h2⟩
 ·obtain⟨a,h1,h2⟩:=h.rV c r n e;exact⟨a,h1,no h2 (fun _ _ _ z=>nomatch z)⟩
 ·have t:=h.tV i' y g' e1 e2;exact⟨ni (by rw[wb];decide) t.o,no t.l (fun _ _ _ z=>nomatch z),t.n,t.len,fun j' q b' e3 e4=>ni (by rw[tu];decide) (t.p j' q b' e3 e4)⟩
 ·show G.cl.length=(s.claims.set i x').length;rw[uJ];exact h.kL
 ·have e1:(s.claims.set i x')[i']? =some y:=e1;by_cases hn:i'=i
  ·subst hn;rw[lz oY] at e1;cases e1;rw[hg] at e2;cases e2;exact hb'
  ·rw[lB (d7 hn)] at e1;exact(h.kV i' y a e1 e2).tD k fun z=>hn (vK h.kN e2 (by rw[z];exact hg))
theorem aE.Ds(h:aE Z A G H s){c:Nat}{x:d8}{f:d8->d8}{b:aa}(hf:∀y,(f y).c=y.c)(hx:oB s c=some x)(hv:bW G.ca (kI c)=some (.ref b))(k:bM b H H')(hb':bV H' b Z.c (mj (f x))):
  aE Z A G H' {s with carriers:=s.carriers.map fun y=>if y.c=c then f y else y}:=by
 obtain⟨a0,h1,dx,ob⟩:=h.cV c x hx;have e0:a0=b:=by rw[hv] at h1;cases h1;rfl
 subst e0;have no:∀{c:aa} {o:HO},H c=some o->(∀C dx fs,o≠.ins C dx fs)->H' c=some o:=fun e n=>k _ _ e (cv e ob (n _ _ _));have ni:∀{c C:aa} {fs:List (Str×V)},fs.length≠4->bV H c C fs->bV H' c C fs:=fun l q=>q.but k ob (by rw[wa];exact l);refine {dd:=h.dd,hs:=k _ _ h.hs (cv h.hs ob (vZ (by rw[v9,wa];decide))),hC:=no h.hC (fun _ _ _ z=>nomatch z),cK:= ?_,cV:=fun d y e=> ?_,cI:=h.cI,hR:=no h.hR (fun _ _ _ z=>nomatch z),rN:=h.rN,rV:=fun c r n e=> ?_,rL:=h.rL,hX:=no h.hX (fun _ _ _ z=>nomatch z),xV:=h.xV,xL:=h.xL,hT:=no h.hT (fun _ _ _ z=>nomatch z),tL:=h.tL,tV:=fun i' y g' e1 e2=> ?_,tI:=h.tI,hK:=no h.hK (fun _ _ _ z=>nomatch z),kL:=h.kL,kN:=h.kN,kV:=fun i' y a e1 e2=> ?_}
 ·have e:MM.nums {s with carriers:=s.carriers.map fun y=>if y.c=c then f y else y}=MM.nums s:=by
   unfold MM.nums;rw[bw];apply fW;intro y _;simp only[lE];by_cases q:y.c=c
   ·rw[if_pos q,hf]
   ·rw[if_neg q]
  rw[e];exact h.cK
 ·have e:(s.carriers.map fun y=>if y.c=c then f y else y).find? (fun z=>z.c==d)=some y:=e;rw[List.find?_map] at e;have e5:((fun z:d8=>z.c==d)∘fun y:d8=>if y.c=c then f y else y)=fun z=>z.c==d:=by
   funext z
   simp only[lE];by_cases q:z.c=c
   ·rw[if_pos q,hf]
   ·rw[if_neg q]
  rw[e5] at e;obtain⟨z,hz,rfl⟩:=oy.mp e;have L1:z.c=d:=by simpa using PY hz
  by_cases q:z.c=c
  ·have ed:d=c:=L1.symm.trans q;subst ed;have:z=x:=fe (hz.symm.trans hx);subst this;rw[if_pos q];exact⟨a0,hv,hb'⟩
  ·rw[if_neg q];obtain⟨a,g1,g2⟩:=h.cV d z hz;refine⟨a,g1,g2.tD k fun w=>q ?_⟩;subst w;rw[L1];exact h.cI d c a g1 hv
 ·obtain⟨a,h1,h2⟩:=h.rV c r n e;exact⟨a,h1,no h2 (fun _ _ _ z=>nomatch z)⟩
 ·have t:=h.tV i' y g' e1 e2;exact⟨ni (by rw[wb];decide) t.o,no t.l (fun _ _ _ z=>nomatch z),t.n,t.len,fun j' q b' e3 e4=>ni (by rw[tu];decide) (t.p j' q b' e3 e4)⟩
 ·exact ni (by rw[wd];decide) (h.kV i' y a e1 e2)
theorem aE.VY(h:aE Z A G H s){m:Nat}(k:bM A.p H H')(hp:H' A.p=some (.ins Z.h A.dx (sZ A m))):aE Z A G H' {s with month:=m}:=by
 have no:∀{c:aa} {o:HO},H c=some o->(∀C dx fs,o≠.ins C dx fs)->H' c=some o:=fun e n=>k _ _ e (cv e h.hs (n _ _ _));have ni:∀{c C:aa} {fs:List (Str×V)},fs.length≠6->bV H c C fs->bV H' c C fs:=fun l q=>q.but k h.hs (by rw[v9];exact l);refine {dd:=h.dd,hs:=hp,hC:=no h.hC (fun _ _ _ z=>nomatch z),cK:=h.cK,cV:=fun c y e=> ?_,cI:=h.cI,hR:=no h.hR (fun _ _ _ z=>nomatch z),rN:=h.rN,rV:=fun c r n e=> ?_,rL:=h.rL,hX:=no h.hX (fun _ _ _ z=>nomatch z),xV:=h.xV,xL:=h.xL,hT:=no h.hT (fun _ _ _ z=>nomatch z),tL:=h.tL,tV:=fun i' y g' e1 e2=> ?_,tI:=h.tI,hK:=no h.hK (fun _ _ _ z=>nomatch z),kL:=h.kL,kN:=h.kN,kV:=fun i' y a e1 e2=> ?_}
 ·obtain⟨a,h1,h2⟩:=h.cV c y e;exact⟨a,h1,ni (by rw[wa];decide) h2⟩
 ·obtain⟨a,h1,h2⟩:=h.rV c r n e;exact⟨a,h1,no h2 (fun _ _ _ z=>nomatch z)⟩
 ·have t:=h.tV i' y g' e1 e2;exact⟨ni (by rw[wb];decide) t.o,no t.l (fun _ _ _ z=>nomatch z),t.n,t.len,fun j' q b' e3 e4=>ni (by rw[tu];decide) (t.p j' q b' e3 e4)⟩
 ·exact ni (by rw[wd];decide) (h.kV i' y a e1 e2)
theorem aE.VZ(h:aE Z A G H s){c num den:Nat}{t:aa}(hc:c≠0)(ht:H t=some (.tup [nI num,nI den]))(k:bM A.dR H H')(hp:H' A.dR=some (.dK (putK G.ra (kI c) (.ref t)))):
  aE Z A {G with ra:=putK G.ra (kI c) (.ref t),n:=G.n+1} H' {s with rates:=(c,num,den)::s.rates.filter fun x=>x.1 !=c}:=by
 have dd:=h.dd.1;have dt:=h.dd.2.1;have no:∀{c:aa} {o:HO},H c=some o->(∀l,o≠.dK l)->H' c=some o:=fun e n=>k _ _ e (cv e h.hR (n _));have ni:∀{c C:aa} {fs:List (Str×V)},bV H c C fs->bV H' c C fs:=fun⟨d,e⟩=>⟨d,no e (fun _ z=>nomatch z)⟩;have look:∀d,d≠0->lG {s with rates:=(c,num,den)::s.rates.filter fun x=>x.1 !=c} d=if d=c then some (num,den) else lG s d:=fun d hd=>by
  unfold lG;rw[if_neg hd,if_neg hd];simp only[ke];by_cases q:d=c
  ·subst q;simp
  ·have q2:(c==d)=false:=by simpa using fun z=>q z.symm
   rw[q2,if_neg q];simp only
   congr 1
   rw[aff]
   congr 1
   funext x
   by_cases z:x.1=d
   ·have:x.1≠c:=fun w=>q (z.symm.trans w);simp[z,this,q]
   ·simp[z]
 refine {dd:=h.dd,hs:=no h.hs (fun _ z=>nomatch z),hC:=k _ _ h.hC dd,cK:=h.cK,cV:=fun c y e=> ?_,cI:=h.cI,hR:=hp,rN:=fun d hd e=> ?_,rV:=fun d r hd e=> ?_,rL:= ?_,hX:=no h.hX (fun _ z=>nomatch z),xV:=h.xV,xL:=afm h.xL,hT:=k _ _ h.hT dt,tL:=h.tL,tV:=fun i' y g' e1 e2=> ?_,tI:=h.tI,hK:=no h.hK (fun _ z=>nomatch z),kL:=h.kL,kN:=h.kN,kV:=fun i' y b e1 e2=>ni (h.kV i' y b e1 e2)}
 ·obtain⟨b,h1,h2⟩:=h.cV c y e;exact⟨b,h1,ni h2⟩
 ·rw[look d hd] at e;show bW (putK G.ra (kI c) (.ref t)) (kI d)=none;rw[vE];by_cases q:d=c
  ·rw[if_pos q] at e;cases e
  ·rw[if_neg q] at e;rw[if_neg (fun z=>q (j1 z))];exact h.rN d hd e
 ·rw[look d hd] at e;show ∃u,bW (putK G.ra (kI c) (.ref t)) (kI d)=some (.ref u)/\_;rw[vE];by_cases q:d=c
  ·rw[if_pos q] at e;cases e;rw[if_pos (by rw[q])];exact⟨t,rfl,no ht (fun _ z=>nomatch z)⟩
  ·rw[if_neg q] at e;rw[if_neg (fun z=>q (j1 z))];obtain⟨u,g1,g2⟩:=h.rV d r hd e;exact⟨u,g1,no g2 (fun _ z=>nomatch z)⟩
 ·have:=yH G.ra (kI c) (.ref t);have:=h.rL;show(putK G.ra (kI c) (.ref t)).length<=G.n+1;omega
 ·have t:=h.tV i' y g' e1 e2;exact⟨ni t.o,no t.l (fun _ z=>nomatch z),t.n,t.len,fun j' q b' e3 e4=>ni (t.p j' q b' e3 e4)⟩
theorem aE.V0(h:aE Z A G H s){a b bp:Nat}(k:bM A.dX H H')(hp:H' A.dX=some (.dT (putK G.xa [kI a,kI b] (nI bp)))):
  aE Z A {G with xa:=putK G.xa [kI a,kI b] (nI bp),n:=G.n+1} H' {s with charges:=(a,b,bp)::s.charges.filter fun x=> !(x.1==a&&x.2.1==b)}:=by
 have no:∀{c:aa} {o:HO},H c=some o->(∀l,o≠.dT l)->H' c=some o:=fun e n=>k _ _ e (cv e h.hX (n _));have ni:∀{c C:aa} {fs:List (Str×V)},bV H c C fs->bV H' c C fs:=fun⟨d,e⟩=>⟨d,no e (fun _ z=>nomatch z)⟩;refine {dd:=h.dd,hs:=no h.hs (fun _ z=>nomatch z),hC:=no h.hC (fun _ z=>nomatch z),cK:=h.cK,cV:=fun c y e=> ?_,cI:=h.cI,hR:=no h.hR (fun _ z=>nomatch z),rN:=h.rN,rV:=fun d r hd e=> ?_,rL:=afm h.rL,hX:=hp,xV:=fun c d=> ?_,xL:= ?_,hT:=no h.hT (fun _ z=>nomatch z),tL:=h.tL,tV:=fun i' y g' e1 e2=> ?_,tI:=h.tI,hK:=no h.hK (fun _ z=>nomatch z),kL:=h.kL,kN:=h.kN,kV:=fun i' y b e1 e2=>ni (h.kV i' y b e1 e2)}
 ·obtain⟨b,h1,h2⟩:=h.cV c y e;exact⟨b,h1,ni h2⟩
 ·obtain⟨u,g1,g2⟩:=h.rV d r hd e;exact⟨u,g1,no g2 (fun _ z=>nomatch z)⟩
 ·show(bW (putK G.xa [kI a,kI b] (nI bp)) [kI c,kI d]).getD (nI 0)=_;rw[vE];have look:mN {s with charges:=(a,b,bp)::s.charges.filter fun x=> !(x.1==a&&x.2.1==b)} c d=if c=a/\d=b then bp else mN s c d:=by
   unfold mN;simp only[ke];by_cases q:c=a/\d=b
   ·obtain⟨rfl,rfl⟩:=q;simp
   ·have q2:(a==c&&b==d)=false:=by
     cases w:(a==c&&b==d) with
     |false=>rfl
     |true=>
      simp only[cM,beq_iff_eq] at w
      exact absurd ⟨w.1.symm,w.2.symm⟩ q
    rw[q2,if_neg q];simp only;rw[aff]
    congr 3
    funext x
    by_cases z:x.1=c/\x.2.1=d
    ·obtain⟨z1,z2⟩:=z;subst z1 z2;have:(x.1==a&&x.2.1==b)=false:=by
      cases w:(x.1==a&&x.2.1==b) with
      |false=>rfl
      |true=>
       simp only[cM,beq_iff_eq] at w
       exact absurd w q
     rw[this];simp
    ·have:(x.1==c&&x.2.1==d)=false:=by
      cases w:(x.1==c&&x.2.1==d) with
      |false=>rfl
      |true=>
       simp only[cM,beq_iff_eq] at w
       exact absurd w z
     rw[this];simp
  rw[look];by_cases q:c=a/\d=b
  ·obtain⟨rfl,rfl⟩:=q;rw[if_pos rfl,if_pos ⟨rfl,rfl⟩];rfl
  ·rw[if_neg q,if_neg (fun z=>q ?_)]
   ·exact h.xV c d
   ·injection z with z1 z2;injection z2 with z2 _;exact⟨j1 z1,j1 z2⟩
 ·have:=yH G.xa [kI a,kI b] (nI bp);have:=h.xL;show(putK G.xa [kI a,kI b] (nI bp)).length<=G.n+1;omega
 ·have t:=h.tV i' y g' e1 e2;exact⟨ni t.o,no t.l (fun _ z=>nomatch z),t.n,t.len,fun j' q b' e3 e4=>ni (t.p j' q b' e3 e4)⟩
theorem aE.V1(h:aE Z A G H s){x:d8}{b:aa}(hn:bq s x.c=false)(hb:bV H b Z.c (mj x))(fresh:∀c,bW G.ca (kI c)≠some (.ref b))(k:bM A.dC H H')(hp:H' A.dC=some (.dK (putK G.ca (kI x.c) (.ref b)))):
  aE Z A {G with ca:=putK G.ca (kI x.c) (.ref b)} H' {s with carriers:=A8 x s.carriers}:=by
 have dd:=h.dd.1.symm;have dt:=h.dd.2.2;have no:∀{c:aa} {o:HO},H c=some o->(∀l,o≠.dK l)->H' c=some o:=fun e n=>k _ _ e (cv e h.hC (n _));have ni:∀{c C:aa} {fs:List (Str×V)},bV H c C fs->bV H' c C fs:=fun⟨d,e⟩=>⟨d,no e (fun _ z=>nomatch z)⟩;have Ca:=h.Dq hn;have L3:putK G.ca (kI x.c) (.ref b)=G.ca++[(kI x.c,.ref b)]:=Cn _ Ca;have Dt:=MM.vO x s.carriers;have notin:x.c∉s.carriers.map (·.c):=fun z=>by
  obtain⟨y,hy,e⟩:=bh.mp z;rw[MM.sU.mpr ⟨y,hy,e⟩] at hn;cases hn
 refine {dd:=h.dd,hs:=no h.hs (fun _ z=>nomatch z),hC:=hp,cK:= ?_,cV:=fun c y e=> ?_,cI:=fun c d a e1 e2=> ?_,hR:=k _ _ h.hR dd,rN:=h.rN,rV:=fun d r hd e=> ?_,rL:=h.rL,hX:=no h.hX (fun _ z=>nomatch z),xV:=h.xV,xL:=h.xL,hT:=k _ _ h.hT dt,tL:=h.tL,tV:=fun i' y g' e1 e2=> ?_,tI:=h.tI,hK:=no h.hK (fun _ z=>nomatch z),kL:=h.kL,kN:=h.kN,kV:=fun i' y b e1 e2=>ni (h.kV i' y b e1 e2)}
 ·show((putK G.ca (kI x.c) (.ref b)).map Prod.fst).Perm _;rw[L3,cZ];have e1:(MM.nums {s with carriers:=A8 x s.carriers}).Perm (MM.nums s++[x.c]):=by
   unfold MM.nums;refine(Dt.map _).trans ?_;rw[bQ];exact(List.perm_append_comm (l₁:=[x.c]) (l₂:=s.carriers.map (·.c)))
  refine(h.cK.append_right _).trans ?_;refine List.Perm.trans ?_ (e1.map kI).symm;rw[cZ];exact Ib _
 ·have e:(A8 x s.carriers).find? (fun z=>z.c==c)=some y:=e;show ∃a,bW (putK G.ca (kI x.c) (.ref b)) (kI c)=some (.ref a)/\_;rw[vE];have nd0:(s.carriers.map (·.c)).Nodup\/True:= .inr trivial;by_cases q:c=x.c
  ·subst q;rw[if_pos rfl];refine⟨b,rfl,?_⟩;have hy:y=x:=by
    have m:=AX e;have hc:y.c=x.c:=by simpa using PY e
    rcases b0.mp (Dt.mem_iff.mp m) with z|z
    ·exact z
    ·exact absurd (bh.mpr ⟨y,z,hc⟩) notin
   rw[hy];exact ni hb
  ·rw[if_neg (fun z=>q (j1 z))];have e2:oB s c=some y:=by
    unfold oB;rw[<-e];clear e hp L3 Dt;generalize s.carriers=l
    induction l with
    |nil=>simp[A8,d7 q]
    |cons a l ih=>
     simp only[A8]
     by_cases w:x.c<a.c
     ·rw[if_pos w]
      simp[ke,d7 q]
     ·rw[if_neg w]
      simp only[ke]
      rw[ih]
   obtain⟨a,g1,g2⟩:=h.cV c y e2;exact⟨a,g1,ni g2⟩
 ·have e1:bW (putK G.ca (kI x.c) (.ref b)) (kI c)=some (.ref a):=e1;have e2:bW (putK G.ca (kI x.c) (.ref b)) (kI d)=some (.ref a):=e2;rw[vE] at e1 e2;by_cases q1:kI c=kI x.c
  ·rw[if_pos q1] at e1;cases e1;by_cases q2:kI d=kI x.c
   ·rw[j1 q1,j1 q2]
   ·rw[if_neg q2] at e2;exact absurd e2 (fresh d)
  ·rw[if_neg q1] at e1;by_cases q2:kI d=kI x.c
   ·rw[if_pos q2] at e2;cases e2;exact absurd e1 (fresh c)
   ·rw[if_neg q2] at e2;exact h.cI c d a e1 e2
 ·obtain⟨u,g1,g2⟩:=h.rV d r hd e;exact⟨u,g1,no g2 (fun _ z=>nomatch z)⟩
 ·have t:=h.tV i' y g' e1 e2;exact⟨ni t.o,no t.l (fun _ z=>nomatch z),t.n,t.len,fun j' q b' e3 e4=>ni (t.p j' q b' e3 e4)⟩
theorem aE.V2(h:aE Z A G H s){x:bI}{g:Tg}(hn:x.t∉s.tickets.map (·.t))(hg:i9 Z A H x g)(nd:g.ps.Nodup)(fresh:∀b∈g.ps,∀(i:Nat) g',G.tg[i]? =some g'->b∉g'.ps)(k:bM A.dT H H')
  (hp:H' A.dT=some (.dK (putK (eI s.tickets G.tg) (kI x.t) (.ref g.a)))):
  aE Z A {G with tg:=G.tg++[g]} H' {s with tickets:=s.tickets++[x]}:=by
 have dd:=h.dd.2.1.symm;have dc:=h.dd.2.2.symm;have no:∀{c:aa} {o:HO},H c=some o->(∀l,o≠.dK l)->H' c=some o:=fun e n=>k _ _ e (cv e h.hT (n _));have ni:∀{c C:aa} {fs:List (Str×V)},bV H c C fs->bV H' c C fs:=fun⟨d,e⟩=>⟨d,no e (fun _ z=>nomatch z)⟩;have tk:∀{x:bI} {g:Tg},i9 Z A H x g->i9 Z A H' x g:=fun t=>⟨ni t.o,no t.l (fun _ z=>nomatch z),t.n,t.len,fun j' q b' e3 e4=>ni (t.p j' q b' e3 e4)⟩;have split:∀{i:Nat} {g':Tg},(G.tg++[g])[i]? =some g'->(G.tg[i]? =some g')\/(i=G.tg.length/\g'=g):=fun {i g'} e=>by
  by_cases aY:i<G.tg.length
  ·rw[ox aY] at e;exact .inl e
  ·rw[qV (by omega)] at e;have z:i-G.tg.length=0:=by
    have:=(cJ.mp e).1;simp at this;omega
   rw[z] at e;simp at e;exact .inr ⟨by omega,e.symm⟩
 refine {dd:=h.dd,hs:=no h.hs (fun _ z=>nomatch z),hC:=k _ _ h.hC dc,cK:=h.cK,cV:=fun c y e=> ?_,cI:=h.cI,hR:=k _ _ h.hR dd,rN:=h.rN,rV:=fun d r hd e=> ?_,rL:=h.rL,hX:=no h.hX (fun _ z=>nomatch z),xV:=h.xV,xL:=h.xL,hT:= ?_,tL:= ?_,tV:=fun i' y g' e1 e2=> ?_,tI:=fun i i' j j' g1 g2 b e1 e2 e3 e4=> ?_,hK:=no h.hK (fun _ z=>nomatch z),kL:=h.kL,kN:=h.kN,kV:=fun i' y b e1 e2=>ni (h.kV i' y b e1 e2)}
 ·obtain⟨b,h1,h2⟩:=h.cV c y e;exact⟨b,h1,ni h2⟩
 ·obtain⟨u,g1,g2⟩:=h.rV d r hd e;exact⟨u,g1,no g2 (fun _ z=>nomatch z)⟩
 ·show H' A.dT=some (.dK (eI (s.tickets++[x]) (G.tg++[g])));have e:eI (s.tickets++[x]) (G.tg++[g])=putK (eI s.tickets G.tg) (kI x.t) (.ref g.a):=by
   rw[Cn _ (zu hn)];unfold eI;rw[List.zipWith_append h.tL.symm]
   rfl
  rw[e];exact hp
 ·show(G.tg++[g]).length=(s.tickets++[x]).length;rw[dJ,dJ,h.tL];rfl
 ·have e1:(s.tickets++[x])[i']? =some y:=e1;rcases split e2 with z|⟨z,rfl⟩
  ·have aY:i'<s.tickets.length:=by rw[<-h.tL];exact(cJ.mp z).1
   rw[ox aY] at e1;exact tk (h.tV i' y g' e1 z)
  ·rw[z,h.tL,qV (aI _),IA] at e1;simp at e1;subst e1;exact tk hg
 ·rcases split e1 with z1|⟨z1,rfl⟩
  ·rcases split e2 with z2|⟨z2,rfl⟩
   ·exact h.tI i i' j j' g1 g2 b z1 z2 e3 e4
   ·exact absurd (bP e3) (fresh b (bP e4) i g1 z1)
  ·rcases split e2 with z2|⟨z2,rfl⟩
   ·exact absurd (bP e4) (fresh b (bP e3) i' g2 z2)
   ·exact⟨z1.trans z2.symm,vK nd e3 e4⟩
end
open PySem PySem.Spec PyProof.Rows L2
open Vbahak (State Carrier Part Ticket)
structure Tb where
 P:aa
 pos:Pos
 q:Str
def nQ(c:aa)(q:Str):HO:= .ext fun h=>h.CodeRec (.ref c) q
def TabAt(H:Hp)(t:Tb):Prop:=∃ps:Array ab,H t.P=some (.eD ps)/\TriplesOk ps.toList/\(codeAmong t.pos ps.toList=none\/∃c,codeAmong t.pos ps.toList=some (.ref c)/\H c=some (nQ c t.q))
structure cf where
 a:Tb
 b:Tb
def Tab(t:cf)(H:Hp):Prop:=TabAt H t.a/\TabAt H t.b
theorem TabAt.keep{H H':Hp}{t:Tb}(h:TabAt H t)(k:∀b o,H b=some o->(tj o=true/\isList o=false)->H' b=some o):TabAt H' t:=by
 obtain⟨ps,h1,h2,h3⟩:=h;refine⟨ps,k _ _ h1 ⟨rfl,rfl⟩,h2,?_⟩;rcases h3 with h3|⟨c,h3,h4⟩
 ·exact .inl h3
 ·exact .inr ⟨c,h3,k _ _ h4 ⟨rfl,rfl⟩⟩
theorem Tab.keep{H H':Hp}{t:cf}(h:Tab t H)(k:∀b o,H b=some o->(tj o=true/\isList o=false)->H' b=some o):Tab t H':=⟨h.1.keep k,h.2.keep k⟩
theorem Tab.same{H H':Hp}{t:cf}(s:af H H')(h:Tab t H):Tab t H':=h.keep fun b o e _=>s b o e
theorem Tab.fr{A:Ad}{H H':Hp}{t:cf}{xs:List V}(s:cP A H H')(hl:H A.lC=some (.lst xs))(h:Tab t H):Tab t H':=h.keep fun b o e q=>s b o e q.1 (cv e hl (by rintro rfl;exact nomatch q.2))
def c8(tb:cf)(Z:aK)(A:Ad)(G:Gh)(H:Hp)(r:State×List Int)(Q:VK):Prop:=
 ∀(G':Gh) (H':Hp) (l:aa),aE Z A G' H' r.1->G'.n<=G.n+1->H' l=some (.lst (r.2.map V.int))->l≠A.lC->(∀xs,H l≠some (.lst xs))->kP A H H'->(Tab tb H->Tab tb H')->Q (.ref l) H'
theorem c8.out{tb:cf}{Z:aK}{A:Ad}{G:Gh}{H H1:Hp}{s:State}{zs:List Int}{Q:VK}(k:c8 tb Z A G H (s,zs) Q)(hh:aE Z A G H s)(s1:af H H1){l:aa}(hl:H1 l=none):Q (.ref l) (upd H1 l (.lst (zs.map V.int))):=by
 have s2:af H (upd H1 l (.lst (zs.map V.int))):=fun b o e=>by rw[ag (aV (s1 _ _ e) hl)];exact s1 _ _ e
 refine k G _ l (hh.kp (Kp.of s2)) (iz _) au (fun z=> ?_) (fun xs e=>by rw[s1 _ _ e] at hl;cases hl) (cP.of s2).L (Tab.same s2);rw[z,s1 _ _ hh.hK] at hl;cases hl
theorem c8.same{tb:cf}{Z:aK}{A:Ad}{G:Gh}{H H1:Hp}{s:State}{zs:List Int}{Q:VK}(k:c8 tb Z A G H (s,zs) Q)(hh:aE Z A G H s)(s1:af H H1){l:aa}(hl:H1 l=some (.lst (zs.map V.int)))(hn:l≠A.lC)(hf:H l=none):Q (.ref l) H1:=
 k G _ l (hh.kp (Kp.of s1)) (iz _) hl hn (fun xs e=>by rw[hf] at e;cases e) (cP.of s1).L (Tab.same s1)
theorem c8.put{tb:cf}{Z:aK}{A:Ad}{G G':Gh}{H H1:Hp}{s s':State}{zs:List Int}{Q:VK}(k:c8 tb Z A G H (s',zs) Q)(hh:aE Z A G H s)(h':aE Z A G' H1 s')(hn:G'.n<=G.n+1)(f:cP A H H1){l:aa}(hl:H1 l=none):Q (.ref l) (upd H1 l (.lst (zs.map V.int))):=by
 have s2:af H1 (upd H1 l (.lst (zs.map V.int))):=fun b o e=>by rw[ag (aV e hl)];exact e
 have nl:l≠A.lC:=fun z=>by rw[z,h'.hK] at hl;cases hl
 exact k G' _ l (h'.kp (Kp.of s2)) hn au nl (fun xs e=>by rw[f _ _ e rfl nl] at hl;cases hl) (f.L.trans (cP.of s2).L) fun t=>Tab.same s2 (Tab.fr f hh.hK t)
open PySem PySem.Spec PyProof.Rows L2
def zw(mg:Str->Option ab)(base:aB):Prop:=∃bm ob,mg "__builtins__"=some (.ref bm)/\bm≠builtinsNs/\base.get? bm=some ob/\ob.cls= .type "module"/\ob.dict=some builtinsNs/\ob.data= .plain
def nU(f:aa)(q:Str)(ps:qc)(body:aG)(sc:dY)(cl:List (Str×aa))(c:aa):HO:=
 .ext fun h=>∃pm ctv,h.get? f=some (HU "<lambda>" q ps body sc cl pm c ctv)
def V3(t:Tb)(ps:qc)(body:aG)(sc:dY)(cl:List (Str×aa)):TE:=fun _ H Q=>TabAt H t/\∀H' f c',(∀b o,b≠t.P->H b=some o->H' b=some o)->TabAt H' t->H f=none->H' f=some (nU f t.q ps body sc cl c')->H' c'=some (nQ c' t.q)->Q (.ref f) H'
theorem V4{P:bg}{w:aW}{H:Hp}{h:aB}{c:aa}{q:Str}(x:h.CodeRec (.ref c) q):de P w H h c (nQ c q):=by
 refine⟨x,?_,fun h1 h2 y k=> ?_⟩
 ·obtain⟨c',o,vs,t,e,ho,_⟩:=x;cases e;exact⟨o,ho⟩
 ·obtain⟨c',o,vs,t,e,ho,r⟩:=y;cases e;exact⟨c,o,vs,t,rfl,k o ho,r⟩
theorem L4{P:bg}{w:aW}{H:Hp}{h:aB}{f c:aa}{q:Str}{ps:qc}{body:aG}{sc:dY}{cl:List (Str×aa)}(x:∃pm ctv,h.get? f=some (HU "<lambda>" q ps body sc cl pm c ctv)):de P w H h f (nU f q ps body sc cl c):=by
 refine⟨x,?_,fun h1 h2 y k=> ?_⟩
 ·obtain⟨pm,ctv,e⟩:=x;exact⟨_,e⟩
 ·obtain⟨pm,ctv,e⟩:=y;exact⟨pm,ctv,k _ e⟩
section
variable{X:Cx}{t:Tb}{c:aa}{ps:qc}{body:aG}{sc:dY}{pos:Pos}{cl:List (Str×aa)}
theorem L5(ml:X.env.code= .ref c)(C:uL X.base c t.P)(B:zw X.mg X.base)(hq:X.env.qual++"<lambda>"=t.q)(o6:pos=t.pos)(iI:closureFor sc X.env=pure cl)(V5:defaultsOf ps X.env=([],[]):=by rfl):
  PE X (.Lambda ps body sc pos) (V3 t ps body sc cl):=by
 intro pins s σ H Q I h;obtain⟨⟨tab,hP,ht,h3⟩,k⟩:=h;subst o6;have gP:s.heap.get? t.P=some (afd tab):=I.az _ _ hP;obtain⟨bm,ob,b1,b2,b3,b4,b5,b6⟩:=B;have kR:s.heap.Ns mainGlobals X.mg:=I.mod.glob.keeps I.bk;have qA:=I.bs _ _ b3;have V6:bm≠t.P:=fun z=>by rw[z,hP] at qA;cases qA.2
 have V7:bm≠mainGlobals:=fun z=>by
  obtain⟨o,es,ep,e,hd,_⟩:=I.mod.glob;rw[z,e] at b3;cases b3;rw[hd] at b6;cases b6
 have V8:mainGlobals≠t.P:=fun z=>by
  obtain⟨o,es,ep,e,hd,_⟩:=kR;rw[z,gP] at e;cases e;cases hd
 have hB:s.heap.BuiltinsAt X.mg t.P:=⟨bm,ob,b1,b2,V7,V6,qA.1,b4,b5,b6⟩;refine PySem.W.kla_eval V5 ?_;rw[hq];rcases h3 with h3|⟨c',h3,h4⟩
 ·refine PySem.W.kla_makeFunction (mg:=X.mg) iI I.ok.glob kR ml (C.keeps I.bk) gP ht h3 V8 hB fun c' ctv h' tk hx oW aY V9 Wa=> ?_;have Wb:c'≠t.P:=jh (d6 (br gP) oW);have Wc:H c'=none:=I.az.fresh oW;have hsz:s.heap.objs.size<=h'.objs.size:=dr oW (fO aY);have we:H h'.objs.size=none:=I.az.fresh hsz;have Wd:h'.objs.size≠c':=jh aY;have We:h'.objs.size≠t.P:=jh (d6 (br gP) hsz);let o:=HU "<lambda>" t.q ps body sc cl ((X.mg "__name__").getD .none) c' ctv;let tab2:=tab++ #[rawInt t.pos.line,rawInt t.pos.col,.ref c'];let H1:=upd (upd (upd H t.P (.eD tab2)) c' (nQ c' t.q)) h'.objs.size (nU h'.objs.size t.q ps body sc cl c');have old:∀b u,b≠t.P->H b=some u->H1 b=some u:=fun b u n e=>by
   show upd (upd (upd H t.P _) c' _) h'.objs.size _ b=_;rw[ag (aV e we),ag (aV e Wc),ag n];exact e
  have atP:H1 t.P=some (.eD tab2):=by
   show upd (upd (upd H t.P _) c' _) h'.objs.size _ t.P=_;rw[ag We.symm,ag Wb.symm,au]
  have atc:H1 c'=some (nQ c' t.q):=by
   show upd (upd (upd H t.P _) c' _) h'.objs.size _ c'=_;rw[ag Wd.symm,au]
  have atf:H1 h'.objs.size=some (nU h'.objs.size t.q ps body sc cl c'):=au;have kp:∀b u,b≠t.P->s.heap.get? b=some u->(h'.push o).get? b=some u:=fun b u n e=>cx _ (hx b u n e);have gP2:(h'.push o).get? t.P=some (afd tab2):=cx _ Wa;have un:Un X.fs [] H H1 s.heap (h'.push o):=by
   refine⟨fun b u e n _ _=>kp b u (fun z=>by rw[z,hP] at n;cases n) e,fun b u e n _ _=>⟨u.slots,kp b u (fun z=>by rw[z,hP] at n;cases n) e⟩,fun b u e n _=> ?_,fun b u e _=> ?_,fun b xs e=>old b _ (cv e hP (by simp)) e,fun b u xs e=>old b _ (cv e hP (by simp)) e,fun b qs e=> ?_⟩
   ·have aY:=br e;show upd (upd (upd H t.P _) c' _) h'.objs.size _ b=_;rw[ag (cW (d6 aY hsz)),ag (cW (d6 aY oW)),ag (fun z=>by rw[z,hP] at n;cases n)];exact n
   ·by_cases hb:b=t.P
    ·subst hb;exact⟨_,gP2⟩
    ·exact⟨u,kp b u hb e⟩
   ·by_cases hb:b=t.P
    ·subst hb;rw[hP] at e;cases e;exact⟨_,atP⟩
    ·exact⟨#[],by rw[old b _ hb e];simp⟩
  have ok:cS X.prog X.w H1 (h'.push o):=by
   intro b u e;by_cases hb:b=h'.objs.size
   ·subst hb;rw[atf] at e;cases e;exact L4 ⟨_,_,cG _ rfl⟩
   ·by_cases i6:b=c'
    ·subst i6;rw[atc] at e;cases e;refine V4 ?_;obtain⟨c2,oc,vs,tt,e2,iD,r⟩:=V9;exact⟨c2,oc,vs,tt,e2,cx _ iD,r⟩
    ·by_cases Du:b=t.P
     ·subst Du;rw[atP] at e;cases e;exact gP2
     ·have e':H b=some u:=by
       have:upd (upd (upd H t.P (.eD tab2)) c' (nQ c' t.q)) h'.objs.size (nU h'.objs.size t.q ps body sc cl c') b=some u:=e;rw[ag hb,ag i6,ag Du] at this;exact this
      refine(I.az b u e').ji (fun d v hd q=>kp d v ?_ q) (fun d q=>old d _ (cv q hP (by simp)) q) fun d xs q=>old d _ (cv q hP (by simp)) q;rcases hd with z|z
      ·rw[z];exact Du
      ·exact cv z hP (by simp)
  refine⟨.ref h'.objs.size,H1,I.un un ok,rfl,k H1 h'.objs.size c' old ⟨tab2,atP,?_,.inr ⟨c',?_,atc⟩⟩ we atf atc⟩
  ·show TriplesOk (tab++ #[rawInt t.pos.line,rawInt t.pos.col,.ref c']).toList;rw[aeV];exact TriplesOk_snoc _ _ _ _ ht
  ·show codeAmong t.pos (tab++ #[rawInt t.pos.line,rawInt t.pos.col,.ref c']).toList=_;rw[aeV];exact codeAmong_snoc _ ht h3
 ·refine PySem.W.kla_makeFunctionHit (mg:=X.mg) iI I.ok.glob kR ml (C.keeps I.bk) gP ht h3 hB fun ctv h' tk hk hsz=> ?_;have we:H h'.objs.size=none:=I.az.fresh hsz;have old:∀b u,H b=some u->upd H h'.objs.size (nU h'.objs.size t.q ps body sc cl c') b=some u:=fun b u e=>by rw[ag (aV e we)];exact e
  refine⟨.ref h'.objs.size,_,I.laid (a:=h'.objs.size) (o:=nU h'.objs.size t.q ps body sc cl c') (fun b u e=>cx _ (hk b u e)) hsz (L4 ⟨_,_,cG _ rfl⟩),rfl,k _ _ c' (fun b u _ e=>old b u e) ⟨tab,old _ _ hP,ht,.inr ⟨c',h3,old _ _ h4⟩⟩ we au (old _ _ h4)⟩
end
theorem L6{prog:bg}{w:aW}{A:bY}{s:ak}{f c:aa}{q:Str}{ps:qc}{body:aG}{sc:dY}{cl:List (Str×aa)}{pm ctv:ab}{args:List ab}{binds:List (Str×ab)}{Q:ab->ak->Prop}{E:ab->ak->Prop}
  (ho:s.heap.get? f=some (HU "<lambda>" q ps body sc cl pm c ctv)) (eU:s.heap.CodeRec (.ref c) q) (Wf:A.depth<recursionLimit) (Dv:s.heap.NoLimit)
  (Dx:bindArgs (PySem.W.kla_fn "<lambda>" q ps body sc cl pm (.ref c) ctv) ⟨args,[]⟩=pure binds) (Wg:∀y∈binds,sc.names.lookup y.1=some .local)
  (h:∀L' h₁,h₁.Ns L' (fun y=>binds.reverse.lookup y)->(∀b o,s.heap.get? b=some o->h₁.get? b=some o)->
   wpAny (model prog w) (A.deeper (afs q sc L' f (.ref c) cl)) (eval body (afs q sc L' f (.ref c) cl)) Q (fun _ _=>False) {s with heap:=h₁,toks:=s.toks+binds.length})
  (Wh:sc.isCoroutine=false) (Wi:sc.isGenerator=false) (hk:sc.kind= .function) (oN:∀x∈sc.names,x.2≠.cell):wpAny (model prog w) A (call (.ref f) args) Q E s:=by
 refine wpAny_call (PySem.W.kla_callFunE Wf ho rfl Wh Wi rfl eU ?_);rw[Dx];refine aO (wpAny_newFunctionEnv oN Wg (fun h₁ nV L7=>⟨Dv.fresh _ L7,?_⟩) hk);have hk₁:∀b o,s.heap.get? b=some o->h₁.get? b=some o:=fun b o e=>L7.extBut b o (cW (br e)) (cx _ e);exact PySem.W.kla_codeExpr (iA (h s.heap.objs.size h₁ nV hk₁) (fun v s' hl=>hl) fun _ _ y=>y.elim)
open PySem PySem.Spec PyProof.Rows L2
section
variable{prog:bg}{w:aW}{A:bY}{E:ab->ak->Prop}{s:ak}
theorem Wj{R:List ab->ak->Prop}{r:aa}{a b c:Int}{t u v:Tok}{n:Nat}(hh:A.handled=none)(hr:IsRange s.heap r a b c t u v)(Dy:Ph a b c=true)
  (hn:Ht a b c=n) (hlen:n<=2^24)
  (h:∀(h':aB) (tk:Nat) (acc:Array ab),(∀b o,s.heap.get? b=some o->h'.get? b=some o)->s.heap.objs.size<=h'.objs.size->ItemsOf (fun i v=>∃t,v= .int (a+i*c) t) acc n->R acc.toList {s with heap:=h',toks:=tk}):
  wpAny (model prog w) A (collect (.ref r)) R E s:=by
 unfold collect;refine aq (wpAny_runValue (uO PySem.F.entry_proto_collect ?_));rw[uA PySem.F.plain_proto_collect _];show wpAny _ A.in1 (newList []>>=fun l=>again (.builtin "list.__iadd__" ⟨[l,.ref r],[]⟩)) _ _ s;refine aq (uF ?_);refine aO ⟨uQ aeo _,uO PySem.F.entry_list_iadd ?_⟩;rw[uA aeo _];have hS₁:(s.heap.push {cls:= .type "list",data:= .seq ([]:List ab).toArray}).get? s.heap.objs.size=some {cls:= .type "list",data:= .seq #[]}:=cG _ rfl;show wpAny _ A.in1 (Builtin.List.listExtendWith (.ref s.heap.objs.size) (.ref r) (.ref s.heap.objs.size)) _ _ _;have key:=wpAny_extend_range (prog:=prog) (w:=w) (A:=A) (s:={s with heap:=s.heap.push {cls:= .type "list",data:= .seq ([]:List ab).toArray}})
  (R:=fun(q:Result) (s':ak)=>∃(h':aB) (tk:Nat) (acc':Array ab) (c':Nat),q= .ok (.ret (.ref s.heap.objs.size))/\s'={s with heap:=h',toks:=tk}/\
   (∀b o,s.heap.get? b=some o->h'.get? b=some o)/\h'.get? s.heap.objs.size=some {cls:= .type "list",dict:=none,data:= .seq acc' c',slots:= #[]}/\ItemsOf (fun i v=>∃t,v= .int (a+i*c) t) acc' n)
  hh (cx _ hr) Dy hn hlen s.heap.objs.size (.ref s.heap.objs.size) 0 hS₁
  (fun h' tk acc' c' hk hS' jz=>⟨h',tk,acc',c',rfl,rfl,fun b o e=>hk b o (cW (br e)) (cx _ e),hS',jz⟩)
 refine iA key (fun fin s' x=> ?_) fun e s' x=> ?_
 ·cases fin with
  |done f=>
   obtain⟨h',tk,acc',c',e,rfl,hk,hS',jz⟩:=x
   cases e
   show wpAny _ A (load s.heap.objs.size>>=_) _ _ _
   refine aq (wpAny_load hS' ?_)
   exact aO (h h' tk acc' hk (fO (br hS')) jz)
  |again c₁=>
   refine⟨x.1,Bt x.2 fun q s₂ y=> ?_⟩
   obtain⟨h',tk,acc',c',rfl,rfl,hk,hS',jz⟩:=y
   show wpAny _ A (load s.heap.objs.size>>=_) _ _ _
   refine aq (wpAny_load hS' ?_)
   exact aO (h h' tk acc' hk (fO (br hS')) jz)
 ·obtain⟨_,_,_,_,e',_⟩:=x;cases e'
end
section
variable{prog:bg}{w:aW}{A:bY}{E:ab->ak->Prop}{s:ak}{h₀:aB}{L r:aa}{m:Str->Option ab}{news:List (aa×Obj)}{Q:ab->ak->Prop}
theorem Wk{kz:List Int}{f:aa}{a b c:Int}{t u v:Tok}{n:Nat}(F:Fr h₀ L s.heap m)(N:News h₀ L s.heap news)(hh:A.handled=none)(hr:IsRange s.heap r a b c t u v)(Dy:Ph a b c=true)
  (hn:Ht a b c=n) (hlen:kz.length=n) (hZ:n<=2^24)
  (turn:∀(i:Nat) (v:ab) (k:Int),(∃t,v= .int (a+i*c) t)->kz[i]? =some k->∀(h:aB) (tk:Nat) (own:List (aa×Obj)),Fr h₀ L h m->News h₀ L h (news++own)->
   wpAny (model prog w) A.in1.in1 (call (.ref f) [v]) (KskEnd h₀ L m (news++own) k {s with heap:=h,toks:=tk}) (fun _ _=>False) {s with heap:=h,toks:=tk})
  (h:∀D h' tk out c' vs,Fr h₀ L h' m->News h₀ L h' ((D,seqObj "list" out c')::news)->s.heap.objs.size<=D->ItemsOf (fun i v=>∃t,v= .int (a+i*c) t) vs n->KskOutSt false kz vs.toList out.toList->Q (.ref D) {s with heap:=h',toks:=tk}):
  wpAny (model prog w) A (call (.builtin "sorted") [.ref r] [(cU "key",.ref f)]) Q E s:=by
 refine call_function_entry_kw kind_sorted plain_sorted entry_sorted (ksk_s1 _ _) ?_;unfold Builtin.«sorted»;refine aq (m:=checkCount "sorted" 1 1 _) (aO ?_);refine aq (Wj (A:=A.in1) hh hr Dy hn hZ fun h1 tk1 acc kS zx jz=> ?_);have L8:acc.toList.length<=sizeLine:=by rw[mJ,jz.1,uS];omega
 refine aq (Qs ?_ L8);have yf:(h1.push (seqObj "list" acc.toList.toArray 0)).get? h1.objs.size=some (seqObj "list" acc.toList.toArray 0):=cG _ rfl;have keep:∀b o,s.heap.get? b=some o->(h1.push (seqObj "list" acc.toList.toArray 0)).get? b=some o:=fun b o q=>cx _ (kS b o q);have hL:L<s.heap.objs.size:=F.ns.lt;show wpAny _ _ _ _ _ {s with heap:=h1.push (seqObj "list" acc.toList.toArray 0),toks:=tk1};refine aq (oH (wpAny_call_entry_kw slot_list_sort ⟨_,yf,rfl⟩ entry_list_sort ?body (ksk_l1 _ _)));case body=>
  show wpAny (model prog w) A.in1.in1 (Builtin.«list.sort» ⟨[.ref h1.objs.size],[(cU "key",.ref f)]⟩) _ _ _
  rw[ksk_t1]
  refine ksk_sortSt (s:={s with heap:=h1.push (seqObj "list" acc.toList.toArray 0),toks:=tk1}) (vs:=acc.toList) (kz:=kz)
   (F.kept keep) (N.grown keep) yf (jh (d6 hL zx)) (aeO (dr F.above (fO (d6 hL zx))))
   (fun p hp=>cW (d6 (br (N p hp).1) zx)) (by rw[hlen,mJ,jz.1]) L8 (fun i v k hv hk=>turn i v k (jz.2 i v (by rw[<-uy];exact hv)) hk) fun h' tk out c' F' N' k'=>⟨_,rfl,?_⟩
  exact aO ⟨_,rfl,h _ h' tk out c' acc F' N' zx jz k'⟩
theorem Wl{g:Int->Int}{ns:List Int}{vs out:List ab}(hi:eS vs ns)(ko:KskOutSt false (ns.map g) vs out):
  ∃eN,eS out eN/\eN.Perm ns/\eN.Pairwise (fun x y=>g x<=g y)/\∀z,eN.filter (fun x=>g x==z)=ns.filter (fun x=>g x==z):=by
 have hlen:=hi.length;obtain⟨ps,hp,ho,hs,eV⟩:=ko;have wg:∀p,p∈(ns.map g).zip vs->p.1=g (numOf p.2)/\p.2∈vs:=by
  rw[<-hi.nums,bw,List.zip_map_left];intro p hp;obtain⟨⟨u,v⟩,hq,rfl⟩:=bh.mp hp;have h1:u=v/\u∈vs:=mem_zip_self hq;refine⟨?_,?_⟩
  ·show g (numOf u)=g (numOf v);rw[h1.1]
  ·show v∈vs;rw[<-h1.1];exact h1.2
 have hI:eS (ps.map rD) ((ps.map rD).map numOf):=intsAre_map _ fun v hv=>by
  obtain⟨p,hp',rfl⟩:=bh.mp hv;exact hi.all _ (wg p (hp.mem_iff.mp hp')).2
 have hP:((ps.map rD).map numOf).Perm ns:=by
  have h1:=(hp.map rD).map numOf;rw[xN (by rw[ao];omega),hi.nums] at h1;exact h1
 have hO:((ps.map rD).map numOf).Pairwise (fun x y=>g x<=g y):=by
  rw[gN,gN];refine hs.imp_of_mem fun {p q} hp' hq' hr=> ?_;have hr':p.1<=q.1:=by simpa using hr
  rw[(wg p (hp.mem_iff.mp hp')).1,(wg q (hp.mem_iff.mp hq')).1] at hr';exact hr'
 have L9:∀z,((ps.map rD).map numOf).filter (fun x=>g x==z)=ns.filter (fun x=>g x==z):=by
  intro z;have e1:∀l:List (Int×ab),(∀p,p∈l->p.1=g (numOf p.2))->
    ((l.map rD).map numOf).filter (fun x=>g x==z)=((l.filter (fun p=>p.1==z)).map rD).map numOf:=by
   intro l hl;rw[bw,kh,bw]
   congr 1
   refine List.filter_congr fun p hp'=> ?_;show(g (numOf p.2)==z)=(p.1==z);rw[hl p hp']
  rw[e1 ps (fun p hp'=>(wg p (hp.mem_iff.mp hp')).1),eV z,<-e1 ((ns.map g).zip vs) (fun p hp'=>(wg p hp').1),
   xN (by rw[ao];omega),hi.nums]
 rw[<-ho] at hI hP hO L9;exact⟨_,hI,hP,hO,L9⟩
end
theorem Ma{g h h':aB}{L:aa}{m:Str->Option ab}{own:List (aa×Obj)}(k:∀b o,g.get? b=some o->h.get? b=some o)(F:Fr g L h' m)(N:News g L h' (uZ g h L++own)):∀b o,b≠L->h.get? b=some o->h'.get? b=some o:=fun b o h1 e=>by
 cases q:g.get? b with
 |some u=>
  have:=k b u q
  rw[e] at this;cases this
  exact F.keep b _ q
 |none=>exact(N (b,o) (Pt _ (QO h1 q e))).1
section
variable{X:Cx}{pins:List (aa×Obj)}{σ:L2.St}{H:Hp}{s:ak}
theorem Inv.Wm{h':aB}{a:aa}{o:HO}{t':Nat}{m:Str->Option ab}(I:Inv X pins σ H s)(hm:s.heap.Ns X.env.locals m)(hm':h'.Ns X.env.locals m)(k:∀b u,b≠X.env.locals->s.heap.get? b=some u->h'.get? b=some u)(hp:s.heap.objs.size<=a)(new:de X.prog X.w (upd H a o) h' a o):
  Inv X pins σ (upd H a o) {s with heap:=h',toks:=t'}:=by
 have hn:H a=none:=I.az.fresh hp;have hL:=I.free;refine I.step (g':=s.gens) (d':=s.drawn) (ch:=[]) (fun _ z=>nomatch z) (fun b u h1 _ _ e _=>k b u h1 e) (fun b u h1 _ _ e _=>⟨u.slots,k b u h1 e⟩) (fun b u _ e n=> ?_) (fun b u _ e=> ?_) (fun b xs e=> ?_) (fun b u xs e=> ?_) (fun b ps e=>⟨#[],?_⟩) (fun m2 h2=> ?_) (fun b u e=> ?_) I.bare
 ·rw[ag (cW (d6 (br e) hp))];exact n
 ·by_cases hb:b=X.env.locals
  ·obtain⟨o',_,_,ho',_⟩:=hm';exact⟨o',by rw[hb];exact ho'⟩
  ·exact⟨u,k b u hb e⟩
 ·rw[ag (aV e hn)];exact e
 ·rw[ag (aV e hn)];exact e
 ·rw[ag (aV e hn),e];simp
 ·rw[h2.eq_nsMap,<-hm.eq_nsMap];exact hm'
 ·by_cases hb:b=a
  ·subst hb;rw[au] at e;cases e;exact new
  ·rw[ag hb] at e;refine(I.az b u e).ji (fun c v hc q=>k c v ?_ q) (fun c q=>by rw[ag (aV q hn)];exact q) fun c xs q=>by rw[ag (aV q hn)];exact q
   rcases hc with z|z
   ·rw[z];exact aV e hL
   ·exact aV z hL
end
open PySem PySem.Spec PyProof.Rows L2
section
variable{X:Cx}
def Mb(ta:TA):TE:=fun σ H Q=>ta σ H fun vs H1=>∃j:Int,vs=[.int j]/\∀r,H1 r=none->Q (.ref r) (upd H1 r (.oM 0 j))
theorem Wn{a:aG}{ta:TA}{p pos:Pos}(hg:Gl X "range")(hm:X.mg "range"=none)(ha:PA X [a] ta)(hs:starEach [a] X.env=[(false,eval a X.env)]:=by rfl):PE X (.Call (.Name "range" p) [a] [] pos) (Mb ta):=by
 intro pins s σ H Q I h;refine pO (kD I hg hm boot_range (qU (aH (ha pos pins s σ H _ I h) fun us s1 ⟨vs,H1,I1,r1,q1⟩=> ?_) hs rfl));obtain⟨j,e,q⟩:=q1;subst e;cases r1 with
 |cons r rr=>
  cases rr
  obtain⟨t,rfl⟩:=r
  refine call_range_1 ⟨.ref s1.heap.objs.size,_,I1.laid (a:=s1.heap.objs.size) (o:= .oM 0 j) (fun b u e=>cx _ e) (aI _) ⟨_,_,_,cG _ rfl⟩,rfl,q _ (I1.az.fresh (aI _))⟩
theorem Wo:bootBuiltins "sorted"=some (.builtin "sorted"):=by decide+kernel
abbrev Dz:dY:={kind:= .function,names:=[(cU "at",.local),(cU "rests",.free)],isGenerator:=false,isCoroutine:=false,more:=[]}
abbrev Mc(p:Pos):qc:={posonlyargs:=[],args:=[{arg:="at",annotation:=none,pos:=p}],vararg:=none,kwonlyargs:=[],kw_defaults:=[],kwarg:=none,defaults:=[]}
abbrev Md(p1 p2 p3 p4:Pos):aG:= .UnaryOp .USub (.Subscript (.Name "rests" p1) (.Name "at" p2) p3) p4
def Wq(t:Tb)(i:Nat)(σ:L2.St)(Q:VK):List V->Hp->Prop:=fun vs H1=>∃(r:aa) (j:Nat),vs=[.ref r]/\H1 r=some (.oM 0 j)/\j<=1000/\TabAt H1 t/\∀H2,(∀b o,b≠t.P->H1 b=some o->H2 b=some o)->TabAt H2 t->
 ∃(ra:aa) (zs:List Nat),σ[i]? =some (some (.ref ra))/\H2 ra=some (.lst (zs.map nI))/\zs.length=j/\
  ∀(ord:List Int) (p:aa),ord.Perm (MM.fB zs.length)->ord.Pairwise (fun a b=>MM.keyOf zs a<=MM.keyOf zs b)->(∀z,ord.filter (fun a=>MM.keyOf zs a==z)=(MM.fB zs.length).filter (fun a=>MM.keyOf zs a==z))->H2 p=none->Q (.ref p) (upd H2 p (.lst (ord.map V.int)))
def Wr(t:Tb)(i:Nat)(ta:TA):TE:=fun σ H Q=>lX (Mb ta) m6 σ H (Wq t i σ Q)
theorem Me{n i:Nat}(h:i<n):(MM.fB n)[i]? =some (i:Int):=by
 unfold MM.fB;rw[aS,xD h];rfl
theorem Ws{t:Tb}{c:aa}{i:Nat}{a:aG}{ta:TA}{p p2 p3 pos lpos pp p1 p4 p5 p6 kp:Pos}{cA:aa}(hc:X.calm=true)(DA:X.A.depth<recursionLimit)(hg:Gl X "sorted")(hm:X.mg "sorted"=none)(Wt:Gl X "range")(Wu:X.mg "range"=none)(ha:PA X [a] ta)
  (ml:X.env.code= .ref c) (C:uL X.base c t.P) (B:zw X.mg X.base) (hq:X.env.qual++"<lambda>"=t.q) (o6:lpos=t.pos) (iI:closureFor Dz X.env=pure [(cU "rests",cA)])
  (hN:X.N[i]? =some (cU "rests")) (hk:X.env.kindOf (cU "rests")=some .cell) (Mf:X.env.cells.lookup (cU "rests")=some cA)
  (hs:starEach [a] X.env=[(false,eval a X.env)]:=by rfl)
  (he:backTo pos (starEach [.Call (.Name "range" p2) [a] [] p3] X.env)=(false,eval (.Call (.Name "range" p2) [a] [] p3) X.env)::backTo pos (starEach [] X.env):=by rfl):
  PE X (.Call (.Name "sorted" p) [.Call (.Name "range" p2) [a] [] p3] [⟨some "key",.Lambda (Mc pp) (Md p1 p4 p5 p6) Dz lpos,kp⟩] pos) (Wr t i ta):=by
 intro pins s σ H Q I h;refine pO (kD I hg hm Wo ?_);refine callWith_kw (aH ((ae (Wn Wt Wu ha hs) ai) pos pins s σ H _ I h) fun us s1 ⟨vs,H1,I1,r1,r,j,e1,tE,j1000,T1,k⟩=> ?_) he;subst e1;rw[Vals.l9 r1];refine aH ((Jo (L5 ml C B hq o6 iI) Jn) pos pins s1 σ H1 (fun zs H2=>∃f c',zs=[.ref f]/\H2 f=some (nU f t.q (Mc pp) (Md p1 p4 p5 p6) Dz [(cU "rests",cA)] c')/\H2 c'=some (nQ c' t.q)/\(∀b o,b≠t.P->H1 b=some o->H2 b=some o)/\TabAt H2 t) I1 ?lam) fun ws s2 ⟨zv,H2,I2,r2,f,c',e2,hf,hc',kp,T2⟩=> ?_;case lam=>exact⟨T1,fun H2 f c' h1 h2 _ h4 h5=>⟨f,c',rfl,h4,h5,h1,h2⟩⟩
 subst e2;rw[Vals.l9 r2];obtain⟨ra,zs,hσ,Mg,hl,q⟩:=k H2 kp T2;have Wv:r≠t.P:=by obtain⟨ps,hP,_⟩:=T1;exact cv tE hP (by simp)
 have kT:=kp r _ Wv tE;obtain⟨t1,t2,t3,hR⟩:=I2.az _ _ kT;obtain⟨pm,ctv,hF⟩:=(I2.az _ _ hf).1;have DB:s2.heap.CodeRec (.ref c') t.q:=(I2.az _ _ hc').1;obtain⟨zl,aj,en,rv,DC⟩:=I2.az _ _ Mg;obtain⟨m,F⟩:=I2.fr;have oN:s2.heap.IsCell cA (some (.ref ra)):=by
  obtain⟨m',_,hl'⟩:=I2.loc;obtain⟨u,ru,lk⟩:=hl' i _ _ hN hσ (.inr (.inl hk));cases ru;rcases lk with⟨z,_⟩|⟨_,c2,e2,z⟩
  ·rw[hk] at z;cases z
  ·rw[Mf] at e2;cases e2;exact z
 have Ww:f≠X.env.locals:=aV hf I2.free;have Wx:c'≠X.env.locals:=aV hc' I2.free;have Wy:ra≠X.env.locals:=aV Mg I2.free;have Wz:cA≠X.env.locals:=I2.lQ _ _ Mf;have WA:Ph 0 (j:Int) 1=true:=small_one (by decide) (by decide) (by omega) (by omega);have mm:Ht 0 (j:Int) 1=(j:Int):=by rw[rangeSize_one];split<;>omega
 show wpAny (model X.prog X.w) X.A (call (.builtin "sorted") [.ref r] [(cU "key",.ref f)]) _ _ s2;refine Wk (kz:=(MM.fB zs.length).map (MM.keyOf zs)) (n:=j) F QQ (I.ok.hd hc) hR WA mm (by rw[ao,MM.si,hl]) (by omega) (fun x v kk hv wj h tk own F' N'=> ?_) fun D h' tk out c2 vs F' N' hD hit ko=> ?_
 ·have kept:=Ma I2.bk F' N';have hx:x<zs.length:=by
   have:=(cJ.mp wj).1;rw[ao,MM.si] at this;exact this
  rw[aS,Me hx] at wj;have wj:MM.keyOf zs (x:Int)=kk:=fe wj;obtain⟨tv,rfl⟩:=hv;have ev:(0:Int)+(x:Nat)*1=(x:Int):=by omega
  rw[ev];refine L6 (args:=[.int (x:Int) tv]) (binds:=[(cU "at",.int (x:Int) tv)]) (kept _ _ Ww hF) ?_ ?_ (I2.mod.nolimit.keeps F'.keep) rfl (locs rfl) (fun L' h1 nV kS=> ?_) rfl rfl rfl (by decide)
  ·obtain⟨c3,oc,vs3,tt,e3,iD,rr⟩:=DB;cases e3;exact⟨c',oc,vs3,tt,rfl,kept _ _ Wx iD,rr⟩
  ·exact DA
  ·obtain⟨oc,iD,WB⟩:=oN;have cell1:h1.IsCell cA (some (.ref ra)):=⟨oc,kS _ _ (kept _ _ Wz iD),WB⟩;have lst1:=kS _ _ (kept _ _ Wy DC);obtain⟨wv,hw,rw'⟩:=rv.get (i:=x) (x:=nI (zs[x]'hx)) (by rw[aS,cE hx];rfl);obtain⟨tw,rfl⟩:=rw';have hlen:=rv.length;rw[ao] at hlen;have hn:=qi;refine UnaryOp_ (By (uV (wpAny_loadName_free (v:= .ref ra) rfl rfl rfl cell1 ?_ (by decide)) (by decide)));refine uV (A7 (v:= .int (x:Int) tv) rfl rfl nV rfl ?_) (by decide);refine item_listR (x:= .int (zs[x]'hx:Nat) tw) (items:=aj.toArray) (k:=(x:Int)) ⟨_,lst1,rfl,_,rfl⟩ (by omega) (by omega) (by simpa using hw) ?_ rfl;have ek:kk= -((zs[x]'hx:Nat):Int):=by
    rw[<-wj];unfold MM.keyOf;rw[iT,ly,cE hx]
    rfl
   rw[ek];exact neg_int ⟨h1,_,_,rfl,rfl,F'.kept kS,N'.grown kS⟩
 ·have WC:eS vs.toList (MM.fB zs.length):=by
   refine Dm (by rw[mJ,hit.1,MM.si,hl]) fun x v n h1 h2=> ?_;have hx:x<zs.length:=by
    have:=(cJ.mp h2).1;rw[MM.si] at this;exact this
   rw[Me hx] at h2;cases h2;obtain⟨tv,e⟩:=hit.2 x v (by rw[<-uy];exact h1);have ez:(0:Int)+(x:Nat)*1=(x:Int):=by omega
   rw[ez] at e;exact⟨tv,e⟩
  obtain⟨ord,WD,hp,WE,eV⟩:=Wl WC ko;have kept:=Ma (own:=[]) I2.bk F' (fun p hp=>by rw[uK] at hp;exact N' p (bR _ hp));have BV:h'.get? D=some (seqObj "list" out c2):=(N' _ bS).1;have wk:ord.length=j:=by rw[hp.length_eq,MM.si,hl]
  refine⟨.ref D,_,Inv.Wm (a:=D) (o:= .lst (ord.map V.int)) I2 F.ns F'.ns kept hD ⟨?_,out.toList,c2,yB WD,by simpa using BV⟩,rfl,q ord D hp WE eV (I2.az.fresh hD)⟩;rw[ao,wk,uS];omega
end
end CM
namespace HT2
open PySem PyProof.Rows HT
section
open PySem.SeqAt
open PySem.AutoSeq1 (wpAny_loadPart')
open PySem.MeetsSeq PySem.MeetsSeq2 PySem.MeetsSeq3
def zy(A:bY)(s:ak)(y x:ab)(b:Bool):Prop:=
 ∀(prog:bg) (w:aW) (E:ab->ak->Prop) (Q:ab->ak->Prop),Q (.bool b) s->wpAny (model prog w) A (richCompare .Lt y x) Q E s
theorem WG(l b:aa)(items d5:Array ab)(n n2:Nat)(dd dd2:Option aa)(sl sl2:Array (Option ab))(ns ms:List Int)(hi:eS items.toList ns)(hj:eS d5.toList ms)(k:Nat):
  ∀i:Nat,ns.length-i=k->i<=ns.length->i<=ms.length->Meets (Builtin.«list.__eq__.loop» ⟨[.ref l,.ref b,rawInt i,rawInt 0],[]⟩)
   (fun A R s=>s.heap.get? l=some {cls:= .type "list",dict:=dd,data:= .seq items n,slots:=sl}/\s.heap.get? b=some {cls:= .type "list",dict:=dd2,data:= .seq d5 n2,slots:=sl2}/\
    R (.ok (.ret (.bool (lexLt (ns.drop i) (ms.drop i))))) s):=by
 have z1:items.size=ns.length:=by rw[<-hi.length];simp
 have z2:d5.size=ms.length:=by rw[<-hj.length];simp
 have stop:∀i:Nat,i<=ns.length->i<=ms.length->(ns.length<=i\/ms.length<=i)->lexLt (ns.drop i) (ms.drop i)=decide (items.size<d5.size):=by
  intro i h1 h2 h3;rw[z1,z2];by_cases q1:ns.length<=i
  ·rw[Pn q1];by_cases q2:ms.length<=i
   ·rw[Pn q2,Jw];exact(decide_eq_false (by omega)).symm
   ·rw[AY (by omega),R1];exact(decide_eq_true (by omega)).symm
  ·have q2:ms.length<=i:=by omega
   rw[Pn q2,AY (by omega),yy];exact(decide_eq_false (by omega)).symm
 induction k with
 |zero=>
  intro i hk DD DE prog w A R s h
  obtain⟨hp,g,d,tk,os⟩:=s;obtain⟨hl,hb,h⟩:=h
  wp_walk using wpAny_loadPart' hl,wpAny_loadPart' hb
  have d9:items[((i:Nat):Int).toNat]? =none:=by simp;omega
  rw[stop i DD DE (.inl (by omega))] at h
  rw[d9]
  wp_walk using wpAny_loadPart' hl,wpAny_loadPart' hb
  exact h
 |succ k ih=>
  intro i hk DD DE prog w A R s h
  obtain⟨hp,g,d,tk,os⟩:=s;obtain⟨hl,hb,h⟩:=h
  wp_walk using wpAny_loadPart' hl,wpAny_loadPart' hb
  have aY:i<ns.length:=by omega
  obtain⟨t,ht⟩:=hi.get i _ (cE aY)
  have d9:items[((i:Nat):Int).toNat]? =some (.int ns[i] t):=by rw[iT,<-uy];exact ht
  by_cases Mh:i<ms.length
  ·obtain⟨u,hu⟩:=hj.get i _ (cE Mh)
   have gW:d5[((i:Nat):Int).toNat]? =some (.int ms[i] u):=by rw[iT,<-uy];exact hu
   have hc:((i:Int)+1)=((i+1:Nat):Int):=by push_cast;rfl
   rw[AY aY,AY Mh,rW] at h
   rw[d9,gW]
   obtain⟨e,he,wo⟩:=Jx A.in1 ⟨hp,g,d,tk,os⟩ ns[i] t ms[i] u
   refine aq (he prog w _ _ ?_)
   cases e with
   |true=>
    rw[if_pos (wo.mp rfl)] at h
    wp_walk
    rw[hc]
    exact⟨uQ ID _,uO entry_eq_loop (by
     rw[uA ID _];exact ih (i+1) (by omega) (by omega) (by omega) prog w A R _ ⟨hl,hb,h⟩)⟩
   |false=>
    rw[if_neg (fun q=>absurd (wo.mpr q) df)] at h
    have wq:=Jy A.in1 ⟨hp,g,d,tk,os⟩ ns[i] t ms[i] u prog w
    wp_walk using wpAny_loadPart' hl,wpAny_loadPart' hb
    rw[d9,gW]
    wp_walk using wq
    exact h
  ·have gW:d5[((i:Nat):Int).toNat]? =none:=by simp;omega
   rw[stop i DD DE (.inr (by omega))] at h
   rw[d9,gW]
   wp_walk using wpAny_loadPart' hl,wpAny_loadPart' hb
   exact h
theorem WH(l b:aa)(items d5:Array ab)(n n2:Nat)(dd dd2:Option aa)(sl sl2:Array (Option ab))(ns ms:List Int)(hi:eS items.toList ns)(hj:eS d5.toList ms):
  Meets (Builtin.«list.__lt__» ⟨[.ref l,.ref b],[]⟩)
   (fun A R s=>s.heap.get? l=some {cls:= .type "list",dict:=dd,data:= .seq items n,slots:=sl}/\s.heap.get? b=some {cls:= .type "list",dict:=dd2,data:= .seq d5 n2,slots:=sl2}/\
    R (.ok (.ret (.bool (lexLt ns ms)))) s):=by
 intro prog w A R s h;obtain⟨hp,g,d,tk,os⟩:=s;obtain⟨hl,hb,h⟩:=h;have f3:=aeq
 wp_walk using wpAny_loadPart' hl,wpAny_loadPart' hb
 exact⟨uQ ID _,uO entry_eq_loop (by
  rw[uA ID _];exact WG l b items d5 n n2 dd dd2 sl sl2 ns ms hi hj _ 0 rfl (du _) (du _) prog w A R _ ⟨hl,hb,h⟩)⟩
theorem zy.lists{A:bY}{s:ak}{l b:aa}{items d5:Array ab}{ns ms:List Int}(hl:s.heap.IsList l items)(hb:s.heap.IsList b d5)(hi:eS items.toList ns)(hj:eS d5.toList ms)(hu:A.units<cLine):
  zy A s (.ref l) (.ref b) (lexLt ns ms):=fun prog w E Q h=>by
 obtain⟨⟨cls,dd,data,sl⟩,ho,hc,n,hd⟩:=id hl;obtain⟨⟨cls2,dd2,data2,sl2⟩,mn,kU,n2,hd2⟩:=id hb;simp only at hc hd kU hd2;subst hc hd kU hd2;exact afb (op:= .Lt) ⟨_,ho,rfl⟩ ⟨_,mn,rfl⟩ PySem.F.slot_list_lt PySem.F.entry_list_lt (PySem.F.args_list_lt_2 _ _) (WH l b items d5 n n2 dd dd2 sl sl2 ns ms hi hj)
  ⟨ho,mn,show rC (lexLt ns ms)≠aeF/\Q (.bool (lexLt ns ms)) s from⟨(fun x=>nomatch x),h⟩⟩ hu
theorem EqAt.lists{A:bY}{s:ak}{l b:aa}{items d5:Array ab}{ns ms:List Int}(hl:s.heap.IsList l items)(hb:s.heap.IsList b d5)(hi:eS items.toList ns)(hj:eS d5.toList ms)(hu:A.units<cLine):
  EqAt A s (.ref l) (.ref b) (decide (ns=ms)):=by
 have z1:items.size=ns.length:=by rw[<-hi.length];simp
 have z2:d5.size=ms.length:=by rw[<-hj.length];simp
 by_cases DF:l=b
 ·subst DF;have e:ns=ms:=by
   obtain⟨o,ho,_,n,hd⟩:=hl;obtain⟨o2,mn,_,n2,hd2⟩:=hb;rw[ho] at mn;cases mn;rw[hd] at hd2;cases hd2;rw[<-hi.nums,<-hj.nums]
  rw[decide_eq_true e];exact EqAt.same _
 ·refine EqAt.of_refs DF ?_;by_cases hsz:items.size=d5.size
  ·have r:=RcAt.lists (e:=fun j=>decide (ns[j]? =ms[j]?)) hl hb hsz hu (fun j h1 h2=>by
    obtain⟨t,ht⟩:=hi.get j _ (cE (show j<ns.length by omega));obtain⟨u,hu⟩:=hj.get j _ (cE (show j<ms.length by omega));rw[uy,Pb h1] at ht;rw[uy,Pb h2] at hu;rw[fe ht,fe hu];have:=EqAt.int_int (A:=A.in1) (s:=s) (ns[j]'(by omega)) t (ms[j]'(by omega)) u;have e2:(ns[j]'(by omega)==ms[j]'(by omega))=decide (ns[j]? =ms[j]?):=by
     rw[cE (show j<ns.length by omega),cE (show j<ms.length by omega)];by_cases q:ns[j]'(by omega)=ms[j]'(by omega)
     ·simp[q]
     ·simp[q]
    rw[e2] at this;exact this)
   have e:(cN items.size).all (fun j=>decide (ns[j]? =ms[j]?))=decide (ns=ms):=by
    by_cases q:ns=ms
    ·subst q;simp
    ·rw[decide_eq_false q];cases w:(cN items.size).all (fun j=>decide (ns[j]? =ms[j]?)) with
     |false=>rfl
     |true=>
      refine absurd (oA fun j=> ?_) q
      by_cases hj:j<items.size
      ·have:=oC.mp w j (kj.mpr hj)
       exact of_decide_eq_true this
      ·rw[jG (by omega),jG (by omega)]
   rw[e] at r;exact r
  ·have q:ns≠ms:=fun z=>hsz (by rw[z1,z2,z]);rw[decide_eq_false q];exact RcAt.lists_lengths hl hb (by simpa using hsz) hu
theorem WI(l b:aa)(a c:Int)(t u:Tok)(x y:ab)(n n2:Nat)(dd dd2:Option aa)(sl sl2:Array (Option ab))(e k:Bool):
  Meets (Builtin.«tuple.__lt__» ⟨[.ref l,.ref b],[]⟩)
   (fun A R s=>s.heap.get? l=some {cls:= .type "tuple",dict:=dd,data:= .seq #[.int a t,x] n,slots:=sl}/\s.heap.get? b=some {cls:= .type "tuple",dict:=dd2,data:= .seq #[.int c u,y] n2,slots:=sl2}/\
    EqAt A.in1 s x y e/\zy A.in1 s x y k/\R (.ok (.ret (.bool (if a=c then(if e=true then false else k) else decide (a<c))))) s):=
 .of_wp fun prog w A R s h=>by
  obtain⟨hp,g,d,tk,os⟩:=s;obtain⟨hl,hb,hE,hL,h⟩:=h;have f2:=aem
  wp_walk using wpAny_loadPart' hl,wpAny_loadPart' hb,wpAny_forIn_list _ (fun rest b s'=>b.1=none/\s'=⟨hp,g,d,tk,os⟩/\(rest=[(jM a t,jM c u),(x,y)]\/(rest=[(x,y)]/\a=c)\/(rest=[]/\a=c/\e=true))) _
  case turn=>
   rintro⟨y',x'⟩ rest b s' ⟨hb',rfl,hz|⟨hz,rfl⟩|⟨hz,_⟩⟩
   ·injection hz with DG DI
    injection DG with hy hx
    subst hy hx
    obtain⟨e1,he,wo⟩:=Jx A.in1 ⟨hp,g,d,tk,os⟩ a t c u
    refine aq (he prog w _ _ ?_)
    cases e1 with
    |true=>
     wp_walk
     exact⟨rfl,rfl,.inr (.inl ⟨DI,wo.mp rfl⟩)⟩
    |false=>
     rw[if_neg (fun q=>absurd (wo.mpr q) df)] at h
     have wq:=Jy A.in1 ⟨hp,g,d,tk,os⟩ a t c u prog w
     wp_walk using wq
     exact⟨_,rfl,by simpa using h⟩
   ·injection hz with DG DI
    injection DG with hy hx
    subst hy hx
    rw[if_pos rfl] at h
    refine aq (hE prog w _ _ ?_)
    cases e with
    |true=>
     wp_walk
     exact⟨rfl,rfl,.inr (.inr ⟨DI,rfl,rfl⟩)⟩
    |false=>
     have wq:=hL prog w
     wp_walk using wq
     exact⟨_,rfl,by simpa using h⟩
   ·cases hz
  case fin=>
   rintro⟨b1,b2⟩ s' ⟨hb',rfl,hz|⟨hz,rfl⟩|⟨hz,rfl,rfl⟩⟩
   ·cases hz
   ·cases hz
   ·simp only at hb'
    subst hb'
    wp_walk
    exact⟨_,rfl,by simpa[Builtin.Tuple.tupleCompareSizes] using h⟩
  case h=>
   exact⟨rfl,rfl,.inl rfl⟩
theorem zz:∀ns:List Int,lexLt ns ns=false
 |[]=>rfl
 |z::zs=>by rw[rW,if_pos rfl,zz zs]
theorem WJ{prog:bg}{w:aW}{A:bY}{E:ab->ak->Prop}{s:ak}{l b l1 b1:aa}{a c:Int}{t u:Tok}{items d5:Array ab}{ns ms:List Int}{Q:ab->ak->Prop}(hl:oK s.heap l #[.int a t,.ref l1])(hb:oK s.heap b #[.int c u,.ref b1])
  (h1:s.heap.IsList l1 items) (h2:s.heap.IsList b1 d5) (hi:eS items.toList ns) (hj:eS d5.toList ms) (hu:A.units+8<cLine)
  (h:Q (.bool (lexLt (a::ns) (c::ms))) s):wpAny (model prog w) A (richCompare .Lt (.ref l) (.ref b)) Q E s:=by
 obtain⟨⟨cls,dd,data,sl⟩,ho,hc,n,hd⟩:=id hl;obtain⟨⟨cls2,dd2,data2,sl2⟩,mn,kU,n2,hd2⟩:=id hb;simp only at hc hd kU hd2;subst hc hd kU hd2;have e:lexLt (a::ns) (c::ms)=(if a=c then(if (decide (ns=ms))=true then false else lexLt ns ms) else decide (a<c)):=by
  rw[rW];by_cases q:a=c
  ·rw[if_pos q,if_pos q];by_cases q2:ns=ms
   ·subst q2;rw[if_pos (by simp)];exact zz ns
   ·rw[if_neg (by simpa using q2)]
  ·rw[if_neg q,if_neg q]
 rw[e] at h;refine afb (op:= .Lt) ⟨_,ho,rfl⟩ ⟨_,mn,rfl⟩ PySem.F.slot_tuple_lt PySem.F.entry_tuple_lt (PySem.F.args_tuple_lt_2 _ _) (WI l b a c t u (.ref l1) (.ref b1) n n2 dd dd2 sl sl2 (decide (ns=ms)) (lexLt ns ms))
  ⟨ho,mn,EqAt.lists h1 h2 hi hj (by show A.units+1<cLine;omega),zy.lists h1 h2 hi hj (by show A.units+1<cLine;omega),show rC (if a=c then(if (decide (ns=ms))=true then false else lexLt ns ms) else decide (a<c))≠aeF/\Q _ s from⟨(fun x=>nomatch x),h⟩⟩ (by omega)
end
end HT2
set_option maxHeartbeats 4000000
namespace HT2
open PySem PyProof.Rows HT
theorem Mi:∀{a b c:List Int},lexLt a b=true->lexLt b c=true->lexLt a c=true
 |[],[],_,h,_=>by rw[Jw] at h;cases h
 |[],_::_,[],_,h=>by rw[yy] at h;cases h
 |[],_::_,_::_,_,_=>rfl
 |_::_,[],_,h,_=>by rw[yy] at h;cases h
 |_::_,_::_,[],_,h=>by rw[yy] at h;cases h
 |x::a,y::b,z::c,h1,h2=>by
  rw[rW] at h1 h2 ⊢;by_cases q1:x=y
  ·rw[if_pos q1] at h1;by_cases q2:y=z
   ·rw[if_pos q2] at h2;rw[if_pos (q1.trans q2)];exact Mi h1 h2
   ·rw[if_neg q2] at h2;rw[if_neg (by omega),q1];exact h2
  ·rw[if_neg q1] at h1;have h1:=of_decide_eq_true h1;by_cases q2:y=z
   ·rw[if_neg (by omega)];exact decide_eq_true (by omega)
   ·rw[if_neg q2] at h2;have h2:=of_decide_eq_true h2;rw[if_neg (by omega)];exact decide_eq_true (by omega)
section
variable{prog:bg}{w:aW}{A:bY}{E:ab->ak->Prop}{s:ak}{l q I S:aa}{vs:List ab}{R:Result->ak->Prop}{Q:ab->ak->Prop}
abbrev Gr(h h':aB):Prop:=∀b o,h.get? b=some o->h'.get? b=some o
def kW(dU:Nat->List Int)(i:Nat):List Int:=((dU i).length:Int)::dU i
theorem WK(ad:Nat->aa)(aj:Nat->Array ab)(dU:Nat->List Int)(hh:A.handled=none)(hu:A.units+10<cLine)(hl:s.heap.IsList l vs.toArray)(hI:s.heap.objs.size<=I)(hS:s.heap.objs.size<=S)(qB:S≠I)
  (hv:∀i v,vs[i]? =some v->v= .ref (ad i)/\s.heap.IsList (ad i) (aj i)/\eS (aj i).toList (dU i))
  (turn:∀(i:Nat) (v:ab),vs[i]? =some v->∀(h:aB) (tk:Nat),Gr s.heap h->
   wpAny (model prog w) A.in1 (call (.ref q) [v]) (fun x s₂=>∃h' tk' kq t,s₂={s with heap:=h',toks:=tk'}/\x= .ref kq/\Gr h h'/\oK h' kq #[.int ((dU i).length:Int) t,.ref (ad i)]) (fun _ _=>False) {s with heap:=h,toks:=tk})
  (hR:∀i v h' tk',vs[i]? =some v->(∀j,j<vs.length->lexLt (kW dU j) (kW dU i)=false)->Gr s.heap h'->R (.ok (.ret v)) {s with heap:=h',toks:=tk'}):
  ∀(r j i:Nat) (h:aB) (tk:Nat) (vb:ab) (kb:aa) (tb:Tok) (c:Nat),vs.length-(j+1)=r->j+1<=vs.length->Gr s.heap h->h.get? S=some (seqObj "list" #[vb,.ref kb] c)->oK h kb #[.int ((dU i).length:Int) tb,.ref (ad i)]->
   h.IsListIter I l (j+1)->vs[i]? =some vb->i<=j->(∀j',j'<=j->lexLt (kW dU j') (kW dU i)=false)->
   codeAny (model prog w) A (.builtin "min.loop" ⟨[.ref I,.ref q,.ref S],[]⟩) R {s with heap:=h,toks:=tk}:=by
 have wt:(toString "min"++toString ".loop":String)="min.loop":=by decide
 have DJ:l≠I:=by obtain⟨o,ho,_⟩:=hl;exact cW (d6 (br ho) hI)
 have W:=Qw (prog:=prog) (w:=w) (A:=A.in1) hh I l DJ vs.toArray;have hsz:vs.toArray.size=vs.length:=dN ..;have gl:∀{a:aa} {aj:Array ab} {h:aB},Gr s.heap h->s.heap.IsList a aj->h.IsList a aj:=fun g ⟨o,ho,r⟩=>⟨o,g _ _ ho,r⟩;have notS:∀{h h':aB},rq S h h'->Gr s.heap h->Gr s.heap h':=fun hs g b o e=>(hs.2 b (cW (d6 (br e) hS))).trans (g b o e);have notI:∀{h h':aB},(∀b o,b∉[I]->h.get? b=some o->h'.get? b=some o)->Gr s.heap h->Gr s.heap h':=fun hk g b o e=>hk b o (fun z=>absurd (br e) (by rw[ik.mp z];exact Nat.not_lt.mpr hI)) (g b o e);intro r
 induction r with
 |zero=>
  intro j i h tk vb kb tb c hr hj G nS DK hit zA WL zB
  have CF:j+1=vs.length:=by omega
  refine uO Pg ?_
  rw[uA ux _]
  show wpAny _ A.in1 (seqItems? (.ref S)>>=_) _ _ _
  refine aq (iy nS rfl ?_)
  show wpAny _ A.in1 (tryCatch (pyNext (.ref I)) _>>=_) _ _ _
  refine aq (xX (W.done _ _ _ ⟨by rw[hsz,<-CF];exact hit,gl G hl⟩ fun h' tk' hk'=> ?_))
  have hS':=hk' S _ (by simpa using qB) nS
  have s1:=qY h' S (lM fun _=>(#[]:Array ab))
  show wpAny _ A.in1 (updateSeq S (fun _=> #[])>>=_) _ _ _
  refine aq ?_
  refine Bk hS' rfl (aq (oJ (aO ?_)))
  exact hR i vb _ _ zA (fun j' hj'=>zB j' (by omega)) (notS s1 (notI hk' G))
 |succ r ih=>
  intro j i h tk vb kb tb c hr hj G nS DK hit zA WL zB
  have aY:j+1<vs.length:=by omega
  refine uO Pg ?_
  rw[uA ux _]
  show wpAny _ A.in1 (seqItems? (.ref S)>>=_) _ _ _
  refine aq (iy nS rfl ?_)
  show wpAny _ A.in1 (tryCatch (pyNext (.ref I)) _>>=_) _ _ _
  refine aq (xX (W.item (j+1) _ _ _ (by rw[hsz];exact aY) ⟨hit,gl G hl⟩ fun v h' tk' hP DL hk'=> ?_))
  have DM:vs[j+1]? =some v:=by simpa using hP
  obtain⟨oI',zC,iD,fj⟩:=id DL.1
  have G1:=notI hk' G
  have nS1:=hk' S _ (by simpa using qB) nS
  have kbI:kb≠I:=fun z=>by
   obtain⟨o,ho,hc,_⟩:=DK;obtain⟨o2,mn,kU,_⟩:=hit;rw[z,mn] at ho;cases ho;rw[kU] at hc;simp at hc
  have WM:oK h' kb #[.int ((dU i).length:Int) tb,.ref (ad i)]:=by obtain⟨o,ho,r⟩:=DK;exact⟨o,hk' kb _ (by simpa using kbI) ho,r⟩
  show wpAny _ A.in1 (tryCatch (holding [v] (call (.ref q) [v])) _>>=_) _ _ _
  refine aq (xX (oH (iA (turn (j+1) v DM h' tk' G1) (fun x s'' he=> ?_) fun _ _ hF=>hF.elim)))
  obtain⟨h2,tk2,kq,tq,rfl,rfl,g2,tF⟩:=he
  have G2:Gr s.heap h2:=fun b o e=>g2 b o (G1 b o e)
  have nS2:=g2 _ _ nS1
  have DN:oK h2 kb #[.int ((dU i).length:Int) tb,.ref (ad i)]:=by obtain⟨o,ho,r⟩:=WM;exact⟨o,g2 _ _ ho,r⟩
  have WN:h2.IsListIter I l (j+1+1):=⟨oI',g2 _ _ zC,iD,fj⟩
  obtain⟨e1,l1,i1⟩:=hv _ _ DM
  obtain⟨e2,l2,i2⟩:=hv _ _ zA
  show wpAny _ A.in1 (tryCatch (holding [v,.ref kq] (richCompare .Lt (.ref kq) (.ref kb)>>=_)) _>>=_) _ _ _
  refine aq (xX (oH (aq (WJ tF DN (gl G2 l1) (gl G2 l2) i1 i2 (by show A.units+1+8<cLine;omega) ?_))))
  refine aq (oH (rf ?_))
  refine aq (oJ (aO ?_))
  have kqS:kq≠S:=fun z=>by
   obtain⟨o,ho,hc,_⟩:=tF;rw[z,nS2] at ho;cases ho;simp[seqObj] at hc
  have kbS:kb≠S:=fun z=>by
   obtain⟨o,ho,hc,_⟩:=DN;rw[z,nS2] at ho;cases ho;simp[seqObj] at hc
  by_cases hb':lexLt (kW dU (j+1)) (kW dU i)=true
  ·have s1:=qY h2 S (lM fun _=> #[v,.ref kq])
   obtain⟨c2,kU⟩:∃c2,(h2.update S (lM fun _=> #[v,.ref kq])).get? S=some (seqObj "list" #[v,.ref kq] c2):=⟨_,get?_update_seq nS2 fun _=> #[v,.ref kq]⟩
   have i6:lexLt (((dU (j+1)).length:Int)::dU (j+1)) (((dU i).length:Int)::dU i)=true:=hb'
   simp only[i6,if_true]
   refine aq ?_
   refine Bk nS2 rfl (aq (oJ ?_))
   rw[wt]
   refine aO ⟨uQ ux _,ih (j+1) (j+1) _ _ v kq tq c2 (by omega) aY (notS s1 G2) kU ?_ ⟨oI',(s1.2 I qB.symm).trans (g2 _ _ zC),iD,fj⟩ DM (aI _) fun j' hj'=> ?_⟩
   ·obtain⟨o,ho,r⟩:=tF;exact⟨o,(s1.2 _ kqS).trans ho,r⟩
   ·by_cases e:j'=j+1
    ·subst e;exact zz _
    ·have zD:=zB j' (by omega)
     cases w1:lexLt (kW dU j') (kW dU (j+1)) with
     |false=>rfl
     |true=>rw[Mi w1 hb'] at zD;cases zD
  ·have i6:lexLt (((dU (j+1)).length:Int)::dU (j+1)) (((dU i).length:Int)::dU i)=false:=Bool.eq_false_iff.mpr hb'
   simp only[i6,uD,if_false]
   refine aq (oJ ?_)
   rw[wt]
   refine aO ⟨uQ ux _,ih (j+1) i _ _ vb kb tb c (by omega) aY G2 nS2 DN WN zA (by omega) fun j' hj'=> ?_⟩
   by_cases e:j'=j+1
   ·subst e;exact i6
   ·exact zB j' (by omega)
theorem WO(ad:Nat->aa)(aj:Nat->Array ab)(dU:Nat->List Int)(hh:A.handled=none)(hu:A.units+10<cLine)(wu:s.heap.IsList l vs.toArray)(cw:0<vs.length)
  (hv:∀i v,vs[i]? =some v->v= .ref (ad i)/\s.heap.IsList (ad i) (aj i)/\eS (aj i).toList (dU i))
  (turn:∀(i:Nat) (v:ab),vs[i]? =some v->∀(h:aB) (tk:Nat),Gr s.heap h->
   wpAny (model prog w) A.in1 (call (.ref q) [v]) (fun x s₂=>∃h' tk' kq t,s₂={s with heap:=h',toks:=tk'}/\x= .ref kq/\Gr h h'/\oK h' kq #[.int ((dU i).length:Int) t,.ref (ad i)]) (fun _ _=>False) {s with heap:=h,toks:=tk})
  (hQ:∀i v h' tk',vs[i]? =some v->(∀j,j<vs.length->lexLt (kW dU j) (kW dU i)=false)->Gr s.heap h'->Q v {s with heap:=h',toks:=tk'}):
  wpAny (model prog w) A (call (.builtin "min") [.ref l] [(cU "key",.ref q)]) Q E s:=by
 have wt:(toString "min"++toString ".loop":String)="min.loop":=by decide
 obtain⟨ol,wk,_⟩:=id wu;have WQ:l<s.heap.objs.size:=br wk;refine kmk_tree PySem.F.kind_min PySem.F.plain_min PySem.F.entry_min (kmk_min_key _ _) ?_;show wpAny _ A.in1 (aeb "min" ["key","default"] 0 ⟨[],[(cU "key",.ref q)]⟩>>=_) _ _ s;refine aq (wpAny_of_eq (show aeb "min" ["key","default"] 0 ⟨[],[(cU "key",.ref q)]⟩=pure [some (.ref q),none] from rfl) ?_);refine aq (aO ?_);refine aq (uE wu ?_);refine aq (Qs ?_ (du _));rw[wt];have hS:(s.heap.push {cls:= .type "list_iterator",data:= .fields #[.ref l,.int 0 0]}).objs.size=s.heap.objs.size+1:=size_push' ..;have DJ:l≠s.heap.objs.size:=cW WQ;have qB:(s.heap.push {cls:= .type "list_iterator",data:= .fields #[.ref l,.int 0 0]}).objs.size≠s.heap.objs.size:=by rw[hS];exact jh (HZ _)
 refine aO ⟨uQ ux _,?_⟩;have GH:Gr s.heap ((s.heap.push {cls:= .type "list_iterator",data:= .fields #[.ref l,.int 0 0]}).push (seqObj "list" #[] 0)):=fun b x e=>cx _ (cx _ e);have gI:((s.heap.push {cls:= .type "list_iterator",data:= .fields #[.ref l,.int 0 0]}).push (seqObj "list" #[] 0)).get? s.heap.objs.size=some {cls:= .type "list_iterator",data:= .fields #[.ref l,.int 0 0]}:=
  cx _ (cG _ rfl)
 have gS:((s.heap.push {cls:= .type "list_iterator",data:= .fields #[.ref l,.int 0 0]}).push (seqObj "list" #[] 0)).get? (s.heap.push {cls:= .type "list_iterator",data:= .fields #[.ref l,.int 0 0]}).objs.size=some (seqObj "list" #[] 0):=cG _ rfl;have W:=Qw (prog:=prog) (w:=w) (A:=A.in1) hh s.heap.objs.size l DJ vs.toArray;have hsz:vs.toArray.size=vs.length:=dN ..;have Mj:s.heap.objs.size<=(s.heap.push {cls:= .type "list_iterator",data:= .fields #[.ref l,.int 0 0]}).objs.size:=by rw[hS];exact iz _
 have WR:((s.heap.push {cls:= .type "list_iterator",data:= .fields #[.ref l,.int 0 0]}).push (seqObj "list" #[] 0)).IsList l vs.toArray:=by obtain⟨o,ho,r⟩:=wu;exact⟨o,GH _ _ ho,r⟩
 refine uO Pg ?_;rw[uA ux _];show wpAny _ A.in1 (seqItems? (.ref _)>>=_) _ _ _;refine aq (iy gS rfl ?_);show wpAny _ A.in1 (tryCatch (pyNext (.ref s.heap.objs.size)) _>>=_) _ _ _;refine aq (xX (W.item 0 _ _ _ (by rw[hsz];exact cw) ⟨⟨_,gI,rfl,rfl⟩,WR⟩ fun v h' tk' hP DL hk'=> ?_));have Ml:vs[0]? =some v:=by simpa using hP
 obtain⟨oI',zC,iD,fj⟩:=id DL.1;have G1:Gr s.heap h':=fun b o e=>hk' b o (fun z=>absurd (br e) (by rw[ik.mp z];exact mP _)) (GH b o e);have nS1:=hk' _ _ (by simpa using qB) gS;show wpAny _ A.in1 (tryCatch (holding [v] (call (.ref q) [v])) _>>=_) _ _ _;refine aq (xX (oH (iA (turn 0 v Ml h' tk' G1) (fun x s'' he=> ?_) fun _ _ hF=>hF.elim)));obtain⟨h2,tk2,kq,tq,rfl,rfl,g2,tF⟩:=he;have G2:Gr s.heap h2:=fun b o e=>g2 b o (G1 b o e);have nS2:=g2 _ _ nS1;have kqS:kq≠(s.heap.push {cls:= .type "list_iterator",data:= .fields #[.ref l,.int 0 0]}).objs.size:=fun z=>by
  obtain⟨o,ho,hc,_⟩:=tF;rw[z,nS2] at ho;cases ho;simp[seqObj] at hc
 have s1:=qY h2 (s.heap.push {cls:= .type "list_iterator",data:= .fields #[.ref l,.int 0 0]}).objs.size (lM fun _=> #[v,.ref kq]);obtain⟨c2,kU⟩:∃c2,(h2.update (s.heap.push {cls:= .type "list_iterator",data:= .fields #[.ref l,.int 0 0]}).objs.size (lM fun _=> #[v,.ref kq])).get? (s.heap.push {cls:= .type "list_iterator",data:= .fields #[.ref l,.int 0 0]}).objs.size=some (seqObj "list" #[v,.ref kq] c2):=⟨_,get?_update_seq nS2 fun _=> #[v,.ref kq]⟩;show wpAny _ A.in1 (updateSeq (s.heap.push {cls:= .type "list_iterator",data:= .fields #[.ref l,.int 0 0]}).objs.size (fun _=> #[v,.ref kq])>>=_) _ _ _;refine aq ?_;refine Bk nS2 rfl ?_;rw[wt];refine aO ⟨uQ ux _,WK ad aj dU hh hu wu (aI _) Mj qB hv turn hQ _ 0 0 _ _ v kq tq c2 rfl cw ?_ kU ?_ ⟨oI',(s1.2 _ qB.symm).trans (g2 _ _ zC),iD,fj⟩ Ml (aI _) fun j' hj'=> ?_⟩
 ·exact fun b o e=>(s1.2 b (cW (d6 (br e) Mj))).trans (G2 b o e)
 ·obtain⟨o,ho,r⟩:=tF;exact⟨o,(s1.2 _ kqS).trans ho,r⟩
 ·have e:j'=0:=by omega
  subst e;exact zz _
end
end HT2
namespace CM
open PySem PySem.Spec PyProof.Rows L2
section
variable{X:Cx}
theorem WS:bootBuiltins "min"=some (.builtin "min"):=by decide+kernel
theorem WT:bootBuiltins "len"=some (.builtin "len"):=by decide+kernel
abbrev DO:dY:={kind:= .function,names:=[(cU "places",.local),(cU "len",.globalImplicit)],isGenerator:=false,isCoroutine:=false,more:=[]}
abbrev Mm(p:Pos):qc:={posonlyargs:=[],args:=[{arg:="places",annotation:=none,pos:=p}],vararg:=none,kwonlyargs:=[],kw_defaults:=[],kwarg:=none,defaults:=[]}
abbrev Mn(p1 p2 p3 p4 p5:Pos):aG:= .Tuple [.Call (.Name "len" p1) [.Name "places" p2] [] p3,.Name "places" p4] 0 p5
def wx(p:aa×List Nat):List Int:=(p.2.length:Int)::p.2.map fun(n:Nat)=>(n:Int)
def WU(t:Tb)(Q:VK):List V->Hp->Prop:=fun vs H1=>∃(g:aa) (gs:List (aa×List Nat)),vs=[.ref g]/\H1 g=some (.lst (gs.map fun p=>V.ref p.1))/\(∀p∈gs,H1 p.1=some (.lst (p.2.map nI)))/\0<gs.length/\TabAt H1 t/\
 ∀H2,(∀b o,b≠t.P->H1 b=some o->H2 b=some o)->TabAt H2 t->∀p∈gs,(∀p'∈gs,HT.lexLt (wx p') (wx p)=false)->Q (.ref p.1) H2
def WV(t:Tb)(ta:TA):TE:=fun σ H Q=>ta σ H (WU t Q)
theorem Mo:∀{ns:List Nat} {aj:List ab},Vals (ns.map nI) aj->eS aj (ns.map fun(n:Nat)=>(n:Int))
 |[],[],_=> .nil
 |[],_::_,r=>by cases r
 |n::ns,_,r=>by
  cases r with
  |cons h r'=>
   obtain⟨t,rfl⟩:=h
   exact .cons _ _ (Mo r')
theorem WW{t:Tb}{c:aa}{a:aG}{ta:TA}{p pos lpos pp p1 p2 p3 p4 p5 kp:Pos}(hc:X.calm=true)(DA:X.A.depth<recursionLimit)(hun:X.A.units+64<cLine)(hg:Gl X "min")(hm:X.mg "min"=none)(px:X.mg "len"=none)(ha:PA X [a] ta)
  (ml:X.env.code= .ref c) (C:uL X.base c t.P) (B:zw X.mg X.base) (hq:X.env.qual++"<lambda>"=t.q) (o6:lpos=t.pos) (iI:closureFor DO X.env=pure []:=by rfl)
  (he:backTo pos (starEach [a] X.env)=(false,eval a X.env)::backTo pos (starEach [] X.env):=by rfl):
  PE X (.Call (.Name "min" p) [a] [⟨some "key",.Lambda (Mm pp) (Mn p1 p2 p3 p4 p5) DO lpos,kp⟩] pos) (WV t ta):=by
 intro pins s σ H Q I h;refine pO (kD I hg hm WS ?_);refine callWith_kw (aH (ha pos pins s σ H _ I h) fun us s1 ⟨vs,H1,I1,r1,g,gs,e1,kX,kR,h0,T1,k⟩=> ?_) he (by rw[he];rfl);subst e1;rw[Vals.l9 r1];refine aH ((Jo (L5 ml C B hq o6 iI) Jn) pos pins s1 σ H1 (fun zs H2=>∃f c',zs=[.ref f]/\H2 f=some (nU f t.q (Mm pp) (Mn p1 p2 p3 p4 p5) DO [] c')/\H2 c'=some (nQ c' t.q)/\(∀b o,b≠t.P->H1 b=some o->H2 b=some o)/\TabAt H2 t) I1 ?lam) fun ws s2 ⟨zv,H2,I2,r2,f,c',e2,hf,hc',kp,T2⟩=> ?_;case lam=>exact⟨T1,fun H2 f c' h1 h2 _ h4 h5=>⟨f,c',rfl,h4,h5,h1,h2⟩⟩
 subst e2;rw[Vals.l9 r2];have nP:∀{b:aa} {xs:List V},H1 b=some (.lst xs)->b≠t.P:=fun e=>by obtain⟨ps,hP,_⟩:=T1;exact cv e hP (by simp)
 have qC:=kp g _ (nP kX) kX;have Mp:∀p∈gs,H2 p.1=some (.lst (p.2.map nI)):=fun p hp=>kp _ _ (nP (kR p hp)) (kR p hp);obtain⟨pm,ctv,hF⟩:=(I2.az _ _ hf).1;have DB:s2.heap.CodeRec (.ref c') t.q:=(I2.az _ _ hc').1;obtain⟨zl,aj,en,rv,DC⟩:=I2.az _ _ qC;have hlen:gs.length=aj.length:=by have:=rv.length;rw[ao] at this;exact this
 have each:∀(i:Nat),∃(it:Array ab),∀p,gs[i]? =some p->s2.heap.IsList p.1 it/\eS it.toList (p.2.map fun(n:Nat)=>(n:Int)):=fun i=>by
  cases e:gs[i]? with
  |none=>exact⟨#[],fun p z=>nomatch z⟩
  |some p=>
   obtain⟨_,it,en',rv',hl'⟩:=I2.az _ _ (Mp p (bP e))
   exact⟨it.toArray,fun p' z=>by cases z;exact⟨⟨_,hl',rfl,_,rfl⟩,Mo rv'⟩⟩
 obtain⟨itf,Mq⟩:=Classical.axiomOfChoice each;have DP:∀(i:Nat) v,aj[i]? =some v->∃p,gs[i]? =some p/\v= .ref p.1:=fun i v e=>by
  have hi:=(cJ.mp e).1;have hp:gs[i]? =some (gs[i]'(by omega)):=cE (by omega);obtain⟨u,hu,ru⟩:=rv.get (i:=i) (x:=V.ref (gs[i]'(by omega)).1) (by rw[aS,hp];rfl);rw[e] at hu;cases hu;cases ru;exact⟨_,hp,rfl⟩
 have get0:∀{i:Nat} {p},gs[i]? =some p->gs.getD i (0,[])=p:=fun e=>by rw[ly,e];rfl
 show wpAny (model X.prog X.w) X.A (call (.builtin "min") [.ref g] [(cU "key",.ref f)]) _ _ s2;refine HT2.WO (vs:=aj) (fun i=>(gs.getD i (0,[])).1) itf (fun i=>(gs.getD i (0,[])).2.map fun(n:Nat)=>(n:Int)) (I.ok.hd hc) (by omega) ⟨_,DC,rfl,_,rfl⟩ (by omega) (fun i v e=> ?_) (fun i v e h1 tk G=> ?_) fun i v h' tk e best G=> ?_
 ·obtain⟨p,hp,rfl⟩:=DP i v e;obtain⟨l1,l2⟩:=Mq i p hp;rw[get0 hp];exact⟨rfl,l1,l2⟩
 ·obtain⟨p,hp,rfl⟩:=DP i v e;obtain⟨⟨ol,wk,olr⟩,l2⟩:=Mq i p hp;rw[get0 hp];refine L6 (args:=[.ref p.1]) (binds:=[(cU "places",.ref p.1)]) (G _ _ hF) ?_ DA ((I2.mod.nolimit.keeps I2.bk).keeps G) rfl (locs rfl) (fun L' h2 nV kS=> ?_) rfl rfl rfl (by decide)
  ·obtain⟨c3,oc,vs3,tt,e3,iD,rr⟩:=DB;cases e3;exact⟨c',oc,vs3,tt,rfl,G _ _ iD,rr⟩
  ·have lst1:h2.IsList p.1 (itf i):=⟨ol,kS _ _ (G _ _ wk),olr⟩;have hsz:(itf i).size=(p.2.map fun(n:Nat)=>(n:Int)).length:=by rw[<-l2.length];simp
   have WX:h2.Ns mainGlobals X.mg:=I2.mod.glob.keeps fun b o e=>kS _ _ (G _ _ (I2.bk b o e));obtain⟨mb,zD,i6⟩:=I2.mod.blt;have qD:h2.Ns builtinsNs mb:=zD.keeps fun b o e=>kS _ _ (G _ _ (I2.bk b o e));have afE:p.2.length<=sizeLine:=by
    obtain⟨z,_⟩:=I2.az _ _ (Mp p (bP hp));rw[ao] at z;exact z
   have hn:=qi;refine wpAny_Tuple_spliced (xF ?_);refine pO (Pa rfl rfl (aet WX px qD ((i6 _ (by decide)).trans WT) ?_) (by decide));refine aec (xF (uV (A7 (v:= .ref p.1) rfl rfl nV rfl (HM ?_)) (by decide)));refine aeP lst1 (by rw[hsz,ao];omega) ?_;refine xF (uV (A7 (v:= .ref p.1) rfl rfl nV rfl (HM ⟨by show 2<=sizeLine;decide,?_⟩)) (by decide));rw[hsz];exact⟨_,_,_,_,rfl,rfl,fun b o e=>cx _ (kS _ _ e),⟨_,cG _ rfl,rfl,_,rfl⟩⟩
 ·obtain⟨p,hp,rfl⟩:=DP i v e;refine⟨.ref p.1,H2,I2.kept G,rfl,k H2 kp T2 p (bP hp) fun p' hp'=> ?_⟩;obtain⟨j,hj⟩:=fH hp';have:=best j (by rw[<-hlen];exact(cJ.mp hj).1);unfold HT2.kW at this;dsimp only at this;rw[get0 hj,get0 hp,ao,ao] at this;exact this
end
end CM
namespace ZT
open PySem
section
variable{prog:bg}{w:aW}{A:bY}{E:ab->ak->Prop}{s:ak}
theorem WY{it t:aa}{i:Nat}{items:Array ab}{x:ab}{Q:ab->ak->Prop}(st:s.heap.IsTupleIter it t i)(ht:s.heap.IsTuple t items)(hx:items[i]? =some x)
  (k:∀h',h'.IsTupleIter it t (i+1)->rq it s.heap h'->Q x {s with heap:=h'}):wpAny (model prog w) A (ll (.ref it)) Q E s:=by
 obtain⟨oi,hi,ci,di⟩:=id st;obtain⟨ot,jA,_,ep,dt⟩:=ht;unfold ll;refine aq (qW (name:=cU "__next__") st.typeIs F.slot_tuple_iterator_next (mM F.slot_tuple_iterator_next st.typeIs F.entry_tuple_iterator_next (?body) (F.args_tuple_iterator_next_1 _)));case body=>
  show wpAny _ _ (field (.ref it) 0>>=_) _ _ s
  refine aq (fY hi di (x:=cO t) rfl (?b1))
  case b1=>
   show wpAny _ _ (if (cO t==lL)=true then _ else _) _ _ s
   rw[if_neg (by exact df)]
   show wpAny _ _ (field (.ref it) 1>>=_) _ _ s
   refine aq (fY hi di (x:=jM i 0) rfl (aq (iy jA dt (?b2))))
   case b2=>
    simp only[iT,hx]
    refine aq (Iw hi di (by simp) (aO ⟨x,rfl,aO (k _ ⟨_,Hw _ hi (aeN (HJ di _)),(afk ..).trans ci,?b3⟩ (qY ..))⟩))
    case b3=>rw[HJ di];simp[rawInt]
theorem WZ{it t:aa}{i:Nat}{items:Array ab}{Q:ab->ak->Prop}(hh:A.handled=none)(st:s.heap.IsTupleIter it t i)(ht:s.heap.IsTuple t items)(hx:items[i]? =none)
  (k:∀h' e,Heap.ExtBut it s.heap h'->(∃o,h'.get? e=some o/\o.cls= .type "StopIteration")->E (.ref e) {s with heap:=h'}):wpAny (model prog w) A (ll (.ref it)) Q E s:=by
 obtain⟨oi,hi,ci,di⟩:=id st;obtain⟨ot,jA,_,ep,dt⟩:=ht;unfold ll;refine aq (qW (name:=cU "__next__") st.typeIs F.slot_tuple_iterator_next (mM F.slot_tuple_iterator_next st.typeIs F.entry_tuple_iterator_next (?body) (F.args_tuple_iterator_next_1 _)));case body=>
  show wpAny _ _ (field (.ref it) 0>>=_) _ _ s
  refine aq (fY hi di (x:=cO t) rfl (?b1))
  case b1=>
   show wpAny _ _ (if (cO t==lL)=true then _ else _) _ _ s
   rw[if_neg (by exact df)]
   show wpAny _ _ (field (.ref it) 1>>=_) _ _ s
   refine aq (fY hi di (x:=jM i 0) rfl (aq (iy jA dt (?b2))))
   case b2=>
    simp only[iT,hx]
    refine aq (Bw (aq (Iw hi di (by simp) (?b3))))
    case b3=>
     show wpAny _ _ (newExc (.type "StopIteration") []>>=_) _ _ _
     refine aq (?b4)
     case b4=>
      simp only[newExc,newTuple]
      refine aq (uF (aq (m:=firstArgMember _ _) (wpAny_of_eq (a:=lL) (by first|rfl|(simp only[firstArgMember];rfl)) (uF (?b5) (by size_fits)))) (by size_fits))
      case b5=>
       simp only[raiseNew]
       refine aq (wpAny_handled (?b6))
       case b6=>
        first|rw[show A.in1.handled=none from hh]|rw[hh]
        exact aq (aO (wpAny_throw (k _ _ (((qY ..).extBut.push _).push _) ⟨_,cG _ rfl,rfl⟩)))
theorem item{z TI TO i1 i2 l1 l2:aa}{k1 k2:Nat}{xs ys:Array ab}{x y a b:ab}{Q:Option ab->ak->Prop}(D:ZipApart z TI TO i1 i2 l1 l2)
  (hz:eK s.heap z TI TO .none) (pTI:gR s.heap TI (.ref i1) (.ref i2)) (pTO:gR s.heap TO a b)
  (s1:s.heap.IsListIter i1 l1 k1) (s2:s.heap.IsTupleIter i2 l2 k2) (q1:s.heap.IsList l1 xs) (q2:s.heap.IsTuple l2 ys) (hx:xs[k1]? =some x) (hy:ys[k2]? =some y)
  (k:∀h',eK h' z TI TO (rawInt s.heap.objs.size)->gR h' TO x y->h'.IsListIter i1 l1 (k1+1)->h'.IsTupleIter i2 l2 (k2+1)->gR h' s.heap.objs.size x y->h'.objs.size=s.heap.objs.size+1->
   (∀c o,c≠z->c≠TO->c≠i1->c≠i2->s.heap.get? c=some o->h'.get? c=some o)->Q (some (.ref s.heap.objs.size)) {s with heap:=h'}):
  wpAny (model prog w) A (pyNext (.ref z)) Q E s:=by
 have ty:s.TypeIs (.ref z) "zip":=⟨_,hz,rfl⟩;unfold pyNext;refine aq (xY (qW (name:=cU "__next__") ty F.slot_zip_next (mM F.slot_zip_next ty F.entry_zip_next (?body) (F.args_zip_next_1 _))));case body=>
  show wpAny _ _ (field (.ref z) 2>>=_) _ _ _
  refine aq (fY hz rfl (x:= .bool false) rfl (aq (fY hz rfl (x:= .ref TI) rfl (aq (iy pTI rfl (aq ?b1))))))
  case b1=>
   unfold Hr
   refine aq (fY hz rfl (x:= .none) rfl (aO ?b2))
   case b2=>
    simp only[if_true]
    refine aq (Bw (aq (fY hz rfl (x:= .ref TO) rfl (aq (mL hz (by simp) fun g1 z1 e1=>aq ?b3)))))
    case b3=>
     have z1:eK g1 z TI TO .ellipsis:=z1
     simp only[xM,Ih,Bg,xT]
     refine aq (aq (rp ?b4))
     case b4=>
      show wpAny _ _ (ll (.ref i1)>>=_) _ _ _
      refine aq (A3 (s1.extBut e1.extBut D.i1z) (q1.extBut e1.extBut D.l1z) hx fun g2 t1 e2=>aO ?b5)
      case b5=>
       have p2:gR g2 TO a b:=e2.extBut _ _ D.TOi1 (e1.extBut _ _ D.TOz pTO)
       refine aq (iy p2 rfl (aq (PF p2 fun g3 p3 e3=>aq (oJ (aO (aq (aq (rp ?b6))))))))
       case b6=>
        have p3:gR g3 TO x b:=p3
        show wpAny _ _ (ll (.ref i2)>>=_) _ _ _
        have t2:g3.IsTupleIter i2 l2 k2:=((s2.extBut e1.extBut D.i2z).extBut e2.extBut D.i12.symm).extBut e3.extBut D.TOi2.symm
        have r2:g3.IsTuple l2 ys:=by
         obtain⟨ot,jA,c1,ep,dt⟩:=q2;exact⟨ot,e3.extBut _ _ D.l2TO (e2.extBut _ _ D.l2i1 (e1.extBut _ _ D.l2z jA)),c1,ep,dt⟩
        refine aq (WY t2 r2 hy fun g4 t4 e4=>aO ?b7)
        case b7=>
         have p4:gR g4 TO x b:=e4.extBut _ _ D.TOi2 p3
         refine aq (iy p4 rfl (aq (PF p4 fun g5 p5 e5=>aq (oJ (aO (aO ?b8))))))
         case b8=>
          have p5:gR g5 TO x y:=p5
          refine aq (iy p5 rfl (aq (wpAny_newTuple ?b9)))
          case b9=>
           have size5:g5.objs.size=s.heap.objs.size:=by rw[e5.1,e4.1,e3.1,e2.1,e1.1]
           have z5:eK g5 z TI TO .ellipsis:=e5.extBut _ _ D.TOz.symm (e4.extBut _ _ D.i2z.symm (e3.extBut _ _ D.TOz.symm (e2.extBut _ _ D.i1z.symm z1)))
           have keep5:∀c o,c≠z->c≠TO->c≠i1->c≠i2->s.heap.get? c=some o->g5.get? c=some o:=fun c o n1 n2 n3 n4 q=>e5.extBut _ _ n2 (e4.extBut _ _ n4 (e3.extBut _ _ n2 (e2.extBut _ _ n3 (e1.extBut _ _ n1 q))))
           have u1:g5.IsListIter i1 l1 (k1+1):=((t1.extBut e3.extBut D.TOi1.symm).extBut e4.extBut D.i12).extBut e5.extBut D.TOi1.symm
           have u2:g5.IsTupleIter i2 l2 (k2+1):=t4.extBut e5.extBut D.TOi2.symm
           have zl:z<g5.objs.size:=br z5
           show wpAny _ _ (Hq (.ref z) (.ref g5.objs.size)>>=_) _ _ _
           refine aq ?b10
           case b10=>
            unfold Hq
            have z6:eK (g5.push {cls:= .type "tuple",data:= .seq #[x,y]}) z TI TO .ellipsis:=cx _ z5
            refine aq (mL z6 (by simp) fun g7 z7 e7=> ?b11)
            case b11=>
             have z7:eK g7 z TI TO (rawInt g5.objs.size):=z7
             refine mL z7 (by simp) fun g8 z8 e8=> ?b12
             case b12=>
              have z8:eK g8 z TI TO (rawInt g5.objs.size):=z8
              have up:∀c o,c≠z->g5.get? c=some o->g8.get? c=some o:=fun c o n1 q=>e8.extBut _ _ n1 (e7.extBut _ _ n1 (cx _ q))
              have p8:gR g8 g5.objs.size x y:=e8.extBut _ _ (jh zl) (e7.extBut _ _ (jh zl) (cG _ rfl))
              have size8:g8.objs.size=g5.objs.size+1:=by rw[e8.1,e7.1,fI]
              rw[size5] at z8 p8 size8
              refine aO ⟨_,rfl,?b13⟩
              case b13=>
               show wpAny _ _ (pure (some (cO g5.objs.size))) _ _ _
               rw[size5]
               exact aO (k g8 z8 (up _ _ D.TOz p5) (u1.at fun o q=>up _ o D.i1z q) (u2.at fun o q=>up _ o D.i2z q) p8 size8 fun c o n1 n2 n3 n4 q=>up c o n1 (keep5 c o n1 n2 n3 n4 q))
theorem ended{z TI TO i1 i2 l1 l2:aa}{k1 k2:Nat}{xs ys:Array ab}{a b:ab}{Q:Option ab->ak->Prop}(hh:A.handled=none)(D:ZipApart z TI TO i1 i2 l1 l2)
  (hz:eK s.heap z TI TO .none) (pTI:gR s.heap TI (.ref i1) (.ref i2)) (pTO:gR s.heap TO a b)
  (s1:s.heap.IsListIter i1 l1 k1) (s2:s.heap.IsTupleIter i2 l2 k2) (q1:s.heap.IsList l1 xs) (q2:s.heap.IsTuple l2 ys) (sf:xs[k1]? =none\/ys[k2]? =none)
  (k:∀h',(∀c o,c≠z->c≠TO->c≠i1->c≠i2->s.heap.get? c=some o->h'.get? c=some o)->Q none {s with heap:=h'}):wpAny (model prog w) A (pyNext (.ref z)) Q E s:=by
 have ty:s.TypeIs (.ref z) "zip":=⟨_,hz,rfl⟩;unfold pyNext;have fin:∀{h':aB} {e:aa},(∀c o,c≠z->c≠TO->c≠i1->c≠i2->s.heap.get? c=some o->h'.get? c=some o)->(∃o,h'.get? e=some o/\o.cls= .type "StopIteration")->
   wpAny (model prog w) A (do if<-isInstance (.ref e) (.type "StopIteration") then pure none else throw (.ref e)) Q E {s with heap:=h'}:=fun {h' e} kp ⟨o,ho,hc⟩=>
  aq (P9 (T:="StopIteration") (b:=true) ⟨o,ho,hc⟩ Qp (aO (k h' kp)))
 refine aq (xY (qW (name:=cU "__next__") ty F.slot_zip_next (mM F.slot_zip_next ty F.entry_zip_next (?body) (F.args_zip_next_1 _))));case body=>
  show wpAny _ _ (field (.ref z) 2>>=_) _ _ _
  refine aq (fY hz rfl (x:= .bool false) rfl (aq (fY hz rfl (x:= .ref TI) rfl (aq (iy pTI rfl (aq ?b1))))))
  case b1=>
   unfold Hr
   refine aq (fY hz rfl (x:= .none) rfl (aO ?b2))
   case b2=>
    simp only[if_true]
    refine aq (Bw (aq (fY hz rfl (x:= .ref TO) rfl (aq (mL hz (by simp) fun g1 z1 e1=>aq ?b3)))))
    case b3=>
     have z1:eK g1 z TI TO .ellipsis:=z1
     simp only[xM,Ih,Bg,xT]
     refine aq (aq (rp ?b4))
     case b4=>
      show wpAny _ _ (ll (.ref i1)>>=_) _ _ _
      cases hx:xs[k1]? with
      |none=>
       refine aq (afh hh (s1.extBut e1.extBut D.i1z) (q1.extBut e1.extBut D.l1z) hx fun g2 e e2 he=> ?_)
       obtain⟨oe,kY,jU⟩:=he
       have z2:eK g2 z TI TO .ellipsis:=e2 _ _ D.i1z.symm z1
       have wy:e≠z:=fun q=>by subst q;rw[z2] at kY;cases kY;simp at jU
       exact mL z2 (by simp) fun g3 _ e3=>fin (fun c o n1 _ n3 _ q=>e3.extBut _ _ n1 (e2 _ _ n3 (e1.extBut _ _ n1 q))) ⟨oe,e3.extBut _ _ wy kY,jU⟩
      |some x=>
       have hy:ys[k2]? =none:=by
        rcases sf with h|h
        ·rw[hx] at h;cases h
        ·exact h
       refine aq (A3 (s1.extBut e1.extBut D.i1z) (q1.extBut e1.extBut D.l1z) hx fun g2 t1 e2=>aO ?_)
       have p2:gR g2 TO a b:=e2.extBut _ _ D.TOi1 (e1.extBut _ _ D.TOz pTO)
       refine aq (iy p2 rfl (aq (PF p2 fun g3 p3 e3=>aq (oJ (aO (aq (aq (rp ?_))))))))
       show wpAny _ _ (ll (.ref i2)>>=_) _ _ _
       have t2:g3.IsTupleIter i2 l2 k2:=((s2.extBut e1.extBut D.i2z).extBut e2.extBut D.i12.symm).extBut e3.extBut D.TOi2.symm
       have r2:g3.IsTuple l2 ys:=by
        obtain⟨ot,jA,c1,ep,dt⟩:=q2;exact⟨ot,e3.extBut _ _ D.l2TO (e2.extBut _ _ D.l2i1 (e1.extBut _ _ D.l2z jA)),c1,ep,dt⟩
       refine aq (WZ hh t2 r2 hy fun g4 e e4 he=> ?_)
       obtain⟨oe,kY,jU⟩:=he
       have z4:eK g4 z TI TO .ellipsis:=e4 _ _ D.i2z.symm (e3.extBut _ _ D.TOz.symm (e2.extBut _ _ D.i1z.symm z1))
       have wy:e≠z:=fun q=>by subst q;rw[z4] at kY;cases kY;simp at jU
       exact mL z4 (by simp) fun g5 _ e5=>fin (fun c o n1 n2 n3 n4 q=>e5.extBut _ _ n1 (e4 _ _ n4 (e3.extBut _ _ n2 (e2.extBut _ _ n3 (e1.extBut _ _ n1 q))))) ⟨oe,e5.extBut _ _ wy kY,jU⟩
end
abbrev g1(h:aB)(l1:aa):aB:=h.push {cls:= .type "list_iterator",data:= .fields #[.ref l1,.int 0 0]}
abbrev g2(h:aB)(l1 l2:aa):aB:=(g1 h l1).push {cls:= .type "tuple_iterator",data:= .fields #[.ref l2,.int 0 0]}
abbrev g3(h:aB)(l1 l2:aa):aB:=(g2 h l1 l2).push {cls:= .type "tuple",data:= .seq #[.ref h.objs.size,.ref (g1 h l1).objs.size]}
abbrev g4(h:aB)(l1 l2:aa):aB:=(g3 h l1 l2).push {cls:= .type "tuple",data:= .seq #[.none,.none]}
abbrev g5(h:aB)(l1 l2:aa):aB:=(g4 h l1 l2).push {cls:= .type "zip",data:= .fields #[.none,.bool false,.bool false,.ref (g2 h l1 l2).objs.size,.ref (g3 h l1 l2).objs.size]}
theorem made(l1 l2:aa)(xs ys:Array ab):
  Meets (Builtin.«zip.__new__» ⟨[.type "zip",.ref l1,.ref l2],[]⟩) (fun _ R s=>s.heap.IsList l1 xs/\s.heap.IsTuple l2 ys/\R (.ok (.ret (.ref (g4 s.heap l1 l2).objs.size))) {s with heap:=g5 s.heap l1 l2}):=
 .of_wp fun prog w A R s hq=>by
  obtain⟨hp,g,d,tk,os⟩:=s;obtain⟨q1,q2,hr⟩:=hq;have sb:=sub_zip;have a1:IE (Br ⟨hp,g,d,tk,os⟩) l1 xs:=q1;have a2:Heap.IsTuple (Br ⟨hp.push {cls:= .type "list_iterator",data:= .fields #[.ref l1,.int 0 0]},g,d,tk,os⟩) l2 ys:=by
   obtain⟨ot,jA,c1,ep,dt⟩:=q2;exact⟨ot,cx _ jA,c1,ep,dt⟩
  wp_walk using uE a1,wpAny_pyIter_tuple a2
  exact⟨_,rfl,hr⟩
section
variable{prog:bg}{w:aW}{A:bY}{E:ab->ak->Prop}{s:ak}
theorem call{l1 l2:aa}{xs ys:Array ab}{Q:ab->ak->Prop}(q1:s.heap.IsList l1 xs)(q2:s.heap.IsTuple l2 ys)
  (k:∀h',eK h' (s.heap.objs.size+4) (s.heap.objs.size+2) (s.heap.objs.size+3) .none->gR h' (s.heap.objs.size+2) (.ref s.heap.objs.size) (.ref (s.heap.objs.size+1))->
   gR h' (s.heap.objs.size+3) .none .none->h'.IsListIter s.heap.objs.size l1 0->h'.IsTupleIter (s.heap.objs.size+1) l2 0->
   (∀c o,s.heap.get? c=some o->h'.get? c=some o)->Q (.ref (s.heap.objs.size+4)) {s with heap:=h'}):wpAny (model prog w) A (Qv (.type "zip") [.ref l1,.ref l2]) Q E s:=by
 refine callType_new F.called_zip (by decide) (F.typeCall_zip_2 _ _) (F.newCall_zip_2 _ _) (fun ob=>F.args_object_init_3 ob _ _) F.entry_zip_new (made l1 l2 xs ys) ⟨q1,q2,?_⟩;have n1:(g1 s.heap l1).objs.size=s.heap.objs.size+1:=fI ..;have n2:(g2 s.heap l1 l2).objs.size=s.heap.objs.size+2:=by rw[fI,n1]
 have n3:(g3 s.heap l1 l2).objs.size=s.heap.objs.size+3:=by rw[fI,n2]
 have n4:(g4 s.heap l1 l2).objs.size=s.heap.objs.size+4:=by rw[fI,n3]
 have up1:∀{h:aB} {o:Obj} {c:aa} {q:Obj},h.get? c=some q->(h.push o).get? c=some q:=fun e=>cx _ e;have f5:(g5 s.heap l1 l2).get? (g4 s.heap l1 l2).objs.size=some _:=cG _ rfl;have f4:(g5 s.heap l1 l2).get? (g3 s.heap l1 l2).objs.size=some _:=up1 (cG _ rfl);have f3:(g5 s.heap l1 l2).get? (g2 s.heap l1 l2).objs.size=some _:=up1 (up1 (cG _ rfl));have f2:(g5 s.heap l1 l2).get? (g1 s.heap l1).objs.size=some _:=up1 (up1 (up1 (cG _ rfl)));have f1:(g5 s.heap l1 l2).get? s.heap.objs.size=some _:=up1 (up1 (up1 (up1 (cG _ rfl))));show _/\_;rw[n2,n3,n4] at f5;rw[n1,n2] at f3;rw[n3] at f4;rw[n1] at f2;rw[n4];exact⟨⟨_,f5,rfl⟩,k _ f5 f3 f4 ⟨_,f1,rfl,rfl⟩ ⟨_,f2,rfl,rfl⟩ fun c o e=>up1 (up1 (up1 (up1 (up1 e))))⟩
end
end ZT
namespace L2
open PySem PySem.Spec PyProof.Rows
def tG(K:aC)(a b:aa):It:=
 ⟨fun i H=>∃(xs ys:List V) (x y:V),ah K H a xs/\cH K H b ys/\xs[i]? =some x/\ys[i]? =some y,
  fun i H v H'=>∃T x y,v= .ref T/\H T=cu/\H'=upd H T (.tup [x,y])/\(∀xs,ah K H a xs->xs[i]? =some x)/\∀ys,cH K H b ys->ys[i]? =some y,
  fun i H=>∃xs ys:List V,ah K H a xs/\cH K H b ys/\(xs.length<=i\/ys.length<=i)⟩
theorem DQ{h:aB}{a:aa}{aj:Array ab}(x:oK h a aj):h.IsTuple a aj:=x
theorem W0{P:bg}{w:aW}{K:aC}{elts:List aG}{kk:Nat}{dP:Pos}{a b z TI TO i1 i2:aa}(D:ZipApart z TI TO i1 i2 a b):
  Turn P w K (.Tuple elts kk dP) (tG K a b) [z,TI,TO,i1,i2] z (fun i h=>eK h z TI TO .none/\gR h TI (.ref i1) (.ref i2)/\(∃x y,gR h TO x y)/\h.IsListIter i1 a i/\h.IsTupleIter i2 b i) where
 mem:=by simp
 obj:=fun i h st c hc=>by
  obtain⟨hz,c6,⟨x,y,dE⟩,⟨o1,e1,_,d1⟩,⟨o2,e2,_,d2⟩⟩:=st;have e':c=z\/c=TI\/c=TO\/c=i1\/c=i2:=by simpa using hc
  rcases e' with q|q|q|q|q
  ·rw[q];exact⟨_,hz,fun v q=>nomatch q⟩
  ·rw[q];exact⟨_,c6,fun v q=>nomatch q⟩
  ·rw[q];exact⟨_,dE,fun v q=>nomatch q⟩
  ·rw[q];exact⟨o1,e1,fun v q=>by rw[d1] at q;cases q⟩
  ·rw[q];exact⟨o2,e2,fun v q=>by rw[d2] at q;cases q⟩
 keep:=fun i h h' st k=>by
  obtain⟨hz,c6,⟨x,y,dE⟩,h1,h2⟩:=st;exact⟨k z (by simp) _ hz,k TI (by simp) _ c6,⟨x,y,k TO (by simp) _ dE⟩,h1.at fun o q=>k i1 (by simp) o q,h2.at fun o q=>k i2 (by simp) o q⟩
 item:=by
  intro X hP hw hK hc i pins s σ H E I hf st hg;subst hP hw hK;obtain⟨hz,c6,⟨x0,y0,dE⟩,h1,h2⟩:=st;obtain⟨xs,ys,x,y,fM,gk,hx,hy⟩:=hg;obtain⟨aj,rv,p,_⟩:=I.list fM;obtain⟨fi,rv2,p2,_⟩:=I.tuple gk;obtain⟨u,hu,ru⟩:=rv.get hx;obtain⟨u2,md,ru2⟩:=rv2.get hy;have oZ:z<s.heap.objs.size:=br hz;refine ZT.item D hz c6 dE h1 h2 p.isList (DQ p2) (x:=u) (y:=u2) (by simpa using hu) (by simpa using md) fun h' z' TO' h1' h2' hT hsz hk=> ?_;refine⟨_,rfl,Pk (s:={s with heap:=h'}) z' fun h'' z'' sb=> ?_⟩;have nu:h''.get? s.heap.objs.size=some {cls:= .type "tuple",data:= .seq #[u,u2]}:=(sb.2 _ (jh oZ)).trans hT;have new:de X.prog X.w (upd H s.heap.objs.size (.tup [x,y])) h'' s.heap.objs.size (.tup [x,y]):=
   ⟨by show 2<=sizeLine;decide,[u,u2],.cons ru (.cons ru2 .nil),⟨_,nu,rfl,_,rfl⟩⟩
  have I1:Inv X pins σ (upd H s.heap.objs.size (.tup [x,y])) {s with heap:=h''}:=
   I.vH (t':=s.toks) (ch:=[z,TI,TO,i1,i2]) (fun c o hb q=>(sb.2 c (fun q'=>hb (by simp[q']))).trans (hk c o (fun q'=>hb (by simp[q'])) (fun q'=>hb (by simp[q'])) (fun q'=>hb (by simp[q'])) (fun q'=>hb (by simp[q'])) q)) hf (aI _) new
  refine⟨.ref s.heap.objs.size,_,I1,rfl,⟨_,x,y,rfl,I.az.fresh (aI _),rfl,fun l hl=>by rw[I.oO hl fM];exact hx,fun l hl=>by rw[I.Q6 hl gk];exact hy⟩,⟨z'',?_,⟨u,u2,?_⟩,?_,?_⟩,fun c eA=> ?_⟩
  ·exact(sb.2 _ D.TIz).trans (hk _ _ D.TIz D.TITO D.TIi1 D.TIi2 c6)
  ·exact(sb.2 _ D.TOz).trans TO'
  ·exact h1'.at fun o q=>(sb.2 _ D.i1z).trans q
  ·exact h2'.at fun o q=>(sb.2 _ D.i2z).trans q
  ·have aY:c<s.heap.objs.size:=by
    have e':c=z\/c=TI\/c=TO\/c=i1\/c=i2:=by simpa using eA
    rcases e' with q|q|q|q|q
    ·rw[q];exact oZ
    ·rw[q];exact br c6
    ·rw[q];exact br dE
    ·rw[q];obtain⟨_,e1,_⟩:=h1;exact br e1
    ·rw[q];obtain⟨_,e2,_⟩:=h2;exact br e2
   rw[ag (cW aY)];exact(hf c eA).1
 done:=by
  intro X hP hw hK hc i pins s σ H E I hf st hg;subst hP hw hK;obtain⟨hz,c6,⟨x0,y0,dE⟩,h1,h2⟩:=st;obtain⟨xs,ys,fM,gk,sf⟩:=hg;obtain⟨aj,rv,p,_⟩:=I.list fM;obtain⟨fi,rv2,p2,_⟩:=I.tuple gk;have l1:=rv.length;have l2:=rv2.length;have he:aj.toArray[i]? =none\/fi.toArray[i]? =none:=by
   rcases sf with q|q
   ·exact .inl (by simp;omega)
   ·exact .inr (by simp;omega)
  exact ZT.ended (I.ok.hd hc) D hz c6 dE h1 h2 p.isList (DQ p2) he fun h' hk=>⟨rfl,I.Cr (t':=s.toks) (ch:=[z,TI,TO,i1,i2]) (fun c o hb q=>
   hk c o (fun q'=>hb (by simp[q'])) (fun q'=>hb (by simp[q'])) (fun q'=>hb (by simp[q'])) (fun q'=>hb (by simp[q'])) q) hf⟩
 self:=fun A i s Q E st h=>xP st.1 h
def W2(K:aC)(ta:TA):TI:=fun σ H R=>ta σ H fun vs H1=>∃a b xs ys,vs=[.ref a,.ref b]/\ah K H1 a xs/\cH K H1 b ys/\R (tG K a b) H1
theorem W3{X:Cx}{K:aC}{e e2:aG}{ta:TA}{p pos dP:Pos}{elts:List aG}{kk:Nat}(hg:Gl X "zip")(hm:X.mg "zip"=cu)(ha:PA X [e,e2] ta)(hK:X.K=K:=by rfl)
  (hs:starEach [e,e2] X.env=(false,eval e X.env)::starEach [e2] X.env:=by rfl) (cz:(backTo pos (starEach [e2] X.env)).any (·.1)=false:=by rfl):
  PI X (.Tuple elts kk dP) (.Call (.Name "zip" p) [e,e2] [] pos) (W2 K ta):=by
 subst hK;intro pins s σ H R I h;refine Call_ (kD I hg hm Cz (qU (aH (ha pos pins s σ H _ I h) fun us s1 ⟨vs,H1,I1,r1,q1⟩=> ?_) hs cz));obtain⟨a,b,xs,ys,ex,fM,gk,q⟩:=q1;subst ex;cases r1 with
 |cons r rr=>
  cases rr with
  |cons r' rr=>
   cases rr
   cases r
   cases r'
   obtain⟨aj,rv,p1,_⟩:=I1.list fM
   obtain⟨fi,rv2,p2,_⟩:=I1.tuple gk
   have la:a<s1.heap.objs.size:=p1.lt
   have lb:b<s1.heap.objs.size:=p2.lt
   refine ZT.call p1.isList (DQ p2) fun h' hz c6 dE h1 h2 hk=>xP hz ?_
   have I2:Inv X pins σ H1 {s1 with heap:=h'}:=I1.kept (t':=s1.toks) hk
   refine⟨s1.heap.objs.size+4,[s1.heap.objs.size+4,s1.heap.objs.size+2,s1.heap.objs.size+3,s1.heap.objs.size,s1.heap.objs.size+1],_,_,H1,rfl,I2,W0 (aeL s1.heap.objs.size a b la lb),⟨hz,c6,⟨_,_,dE⟩,h1,h2⟩,fun c eA=> ?_,q⟩
   have e':c=s1.heap.objs.size+4\/c=s1.heap.objs.size+2\/c=s1.heap.objs.size+3\/c=s1.heap.objs.size\/c=s1.heap.objs.size+1:=by simpa using eA
   have hle:s1.heap.objs.size<=c:=by
    rcases e' with z|z|z|z|z
    ·rw[z];exact jH _ _
    ·rw[z];exact jH _ _
    ·rw[z];exact jH _ _
    ·rw[z];exact aI _
    ·rw[z];exact jH _ _
   exact I1.oT hle (I1.az.fresh hle)
theorem W4{K:aC}{a b:aa}{xs ys:List V}{i1 i2:Nat}{tt:TT}{te:TE}{vs:List Nat}{σ:St}{H1:Hp}{D:aa}{Qd:Hp->Prop}(f:Nat->Option V)(hD:H1 D=cu)(hx:ah K H1 a xs)(hy:cH K H1 b ys)(hl:xs.length=ys.length)(hn:xs.length<sizeLine)
  (hw:∀x y:Option V,wipe (((wipe σ vs).set i1 x).set i2 y) vs=wipe σ vs)
  (hs:∀(i:Nat) H x y (R:V->Hp->Prop) (R0:Hp->Prop),xs[i]? =some x->ys[i]? =some y->af H1 H->(∀y H4,f i=some y->af H H4->R y H4)->(∀H3,f i=cu->af H H3->R0 H3)->
   tt (((wipe σ vs).set i1 (some x)).set i2 (some y)) H fun b H3=>if b=true then te (((wipe σ vs).set i1 (some x)).set i2 (some y)) H3 R else R0 H3)
  (hd:∀H,af H1 H->H D=some (.lst ((cN xs.length).filterMap f))->Qd H):
  ∃W:Nat->Nat->Hp->Prop,(∃m,W 0 m (upd H1 D (.lst [])))/\∀i m H,W i m H->
   ((tG K a b).stop i H/\Qd H)\/((tG K a b).go i H/\∃Nx:Hp->Prop,(∀H',Nx H'->∃m',m'<m/\W (i+1) m' H')/\∀x H',(tG K a b).fP i H x H'->yo K 2 (ve (mY i1) (ve (mY i2) BJ)) x (wipe σ vs) H' fun σ2 H2=>wipe σ2 vs=wipe σ vs/\tt σ2 H2 fun b H3=>
    if b=true then te σ2 H3 fun y H4=>∃acc,H4 D=some (.lst acc)/\acc.length<sizeLine/\Nx (upd H4 D (.lst (acc++[y]))) else Nx H3):=by
 refine ph (J:=tG K a b) (n:=xs.length) f hD (fun i H hi s=>⟨xs,ys,xs[i],ys[i]'(by omega),s.seq hx,s.Dh hy,by simp[hi],by simp⟩) (fun H s=>⟨xs,ys,s.seq hx,s.Dh hy,.inl (aI _)⟩) hn (fun i H x H' R R0 hi s y h1 h2=> ?_) hd;obtain⟨T,v,u,rfl,hT,rfl,y1,y2⟩:=y;have e1:=y1 xs (s.seq hx);have e2:=y2 ys (s.Dh hy);refine⟨T,_,rfl,cH.of au,rfl,_,_,rfl,_,_,rfl,rfl,hw _ _,?_⟩;have sT:af H (upd H T (.tup [v,u])):=fun b o q=>by rw[ag (aV q hT)];exact q
 exact hs i _ v u R R0 e1 e2 (s.trans sT) (fun w H4 q s4=>h1 w H4 q (sT.trans s4)) fun H3 q s3=>h2 H3 q (sT.trans s3)
end L2
namespace Z3
open PySem
abbrev gu(h:aB)(T:aa)(a b c:ab):Prop:=h.get? T=some {cls:= .type "tuple",data:= .seq #[a,b,c]}
structure Apart(z TI TO i1 i2 i3 l1 l2 l3:aa):Prop where
 TIz:TI≠z
 TOz:TO≠z
 i1z:i1≠z
 i2z:i2≠z
 zE:i3≠z
 TITO:TI≠TO
 TIi1:TI≠i1
 TIi2:TI≠i2
 W5:TI≠i3
 TOi1:TO≠i1
 TOi2:TO≠i2
 zF:TO≠i3
 i12:i1≠i2
 Mr:i1≠i3
 Ms:i2≠i3
 l1z:l1≠z
 l1TO:l1≠TO
 l1i1:l1≠i1
 l2z:l2≠z
 l2TO:l2≠TO
 l2i1:l2≠i1
 l2i2:l2≠i2
 W6:l3≠z
 Mt:l3≠TO
 W7:l3≠i1
 W8:l3≠i2
section
variable{prog:bg}{w:aW}{A:bY}{E:ab->ak->Prop}{s:ak}
theorem DR{T:aa}{a b c x:ab}{k:Nat}{Q:Unit->ak->Prop}(hT:gu s.heap T a b c)
  (h:∀h',h'.get? T=some {cls:= .type "tuple",data:= .seq ((#[a,b,c]:Array ab).setIfInBounds k x)}->rq T s.heap h'->Q () {s with heap:=h'}):
  wpAny (model prog w) A (updateSeq T (·.setIfInBounds k x)) Q E s:=by
 refine Bk hT rfl (h _ ?_ (qY ..));rw[Hw _ hT rfl];simp[lM]
theorem item{z TI TO i1 i2 i3 l1 l2 l3:aa}{k:Nat}{xs ys zs:Array ab}{x y v a b c:ab}{Q:Option ab->ak->Prop}(D:Apart z TI TO i1 i2 i3 l1 l2 l3)
  (hz:eK s.heap z TI TO .none) (pTI:gu s.heap TI (.ref i1) (.ref i2) (.ref i3)) (pTO:gu s.heap TO a b c)
  (s1:s.heap.IsListIter i1 l1 k) (s2:s.heap.IsListIter i2 l2 k) (s3:s.heap.IsListIter i3 l3 k) (q1:s.heap.IsList l1 xs) (q2:s.heap.IsList l2 ys) (q3:s.heap.IsList l3 zs) (hx:xs[k]? =some x) (hy:ys[k]? =some y) (hv:zs[k]? =some v)
  (kk:∀h',eK h' z TI TO (rawInt s.heap.objs.size)->gu h' TO x y v->h'.IsListIter i1 l1 (k+1)->h'.IsListIter i2 l2 (k+1)->h'.IsListIter i3 l3 (k+1)->gu h' s.heap.objs.size x y v->
   (∀c o,c≠z->c≠TO->c≠i1->c≠i2->c≠i3->s.heap.get? c=some o->h'.get? c=some o)->Q (some (.ref s.heap.objs.size)) {s with heap:=h'}):
  wpAny (model prog w) A (pyNext (.ref z)) Q E s:=by
 have ty:s.TypeIs (.ref z) "zip":=⟨_,hz,rfl⟩;unfold pyNext;refine aq (xY (qW (name:=cU "__next__") ty F.slot_zip_next (mM F.slot_zip_next ty F.entry_zip_next (?body) (F.args_zip_next_1 _))));case body=>
  show wpAny _ _ (field (.ref z) 2>>=_) _ _ _
  refine aq (fY hz rfl (x:= .bool false) rfl (aq (fY hz rfl (x:= .ref TI) rfl (aq (iy pTI rfl (aq ?b1))))))
  unfold Hr
  refine aq (fY hz rfl (x:= .none) rfl (aO ?_))
  simp only[if_true]
  refine aq (Bw (aq (fY hz rfl (x:= .ref TO) rfl (aq (mL hz (by simp) fun g1 z1 e1=>aq ?_)))))
  have z1:eK g1 z TI TO .ellipsis:=z1
  simp only[xM,Ih,Bg,xT]
  refine aq (aq (rp ?_))
  show wpAny _ _ (ll (.ref i1)>>=_) _ _ _
  refine aq (A3 (s1.extBut e1.extBut D.i1z) (q1.extBut e1.extBut D.l1z) hx fun g2 t1 e2=>aO ?_)
  have p2:gu g2 TO a b c:=e2.extBut _ _ D.TOi1 (e1.extBut _ _ D.TOz pTO)
  refine aq (iy p2 rfl (aq (DR p2 fun g3 p3 e3=>aq (oJ (aO (aq (aq (rp ?_))))))))
  have p3:gu g3 TO x b c:=p3
  show wpAny _ _ (ll (.ref i2)>>=_) _ _ _
  have t2:g3.IsListIter i2 l2 k:=((s2.extBut e1.extBut D.i2z).extBut e2.extBut D.i12.symm).extBut e3.extBut D.TOi2.symm
  have r2:g3.IsList l2 ys:=((q2.extBut e1.extBut D.l2z).extBut e2.extBut D.l2i1).extBut e3.extBut D.l2TO
  refine aq (A3 t2 r2 hy fun g4 t4 e4=>aO ?_)
  have p4:gu g4 TO x b c:=e4.extBut _ _ D.TOi2 p3
  refine aq (iy p4 rfl (aq (DR p4 fun g5 p5 e5=>aq (oJ (aO (aq (aq (rp ?_))))))))
  have p5:gu g5 TO x y c:=p5
  show wpAny _ _ (ll (.ref i3)>>=_) _ _ _
  have t3:g5.IsListIter i3 l3 k:=((((s3.extBut e1.extBut D.zE).extBut e2.extBut D.Mr.symm).extBut e3.extBut D.zF.symm).extBut e4.extBut D.Ms.symm).extBut e5.extBut D.zF.symm
  have r3:g5.IsList l3 zs:=((((q3.extBut e1.extBut D.W6).extBut e2.extBut D.W7).extBut e3.extBut D.Mt).extBut e4.extBut D.W8).extBut e5.extBut D.Mt
  refine aq (A3 t3 r3 hv fun g6 t6 e6=>aO ?_)
  have p6:gu g6 TO x y c:=e6.extBut _ _ D.zF p5
  refine aq (iy p6 rfl (aq (DR p6 fun g7 p7 e7=>aq (oJ (aO (aO ?_))))))
  have p7:gu g7 TO x y v:=p7
  refine aq (iy p7 rfl (aq (wpAny_newTuple ?_)))
  have size7:g7.objs.size=s.heap.objs.size:=by rw[e7.1,e6.1,e5.1,e4.1,e3.1,e2.1,e1.1]
  have z7:eK g7 z TI TO .ellipsis:=e7.extBut _ _ D.TOz.symm (e6.extBut _ _ D.zE.symm (e5.extBut _ _ D.TOz.symm (e4.extBut _ _ D.i2z.symm (e3.extBut _ _ D.TOz.symm (e2.extBut _ _ D.i1z.symm z1)))))
  have keep7:∀c o,c≠z->c≠TO->c≠i1->c≠i2->c≠i3->s.heap.get? c=some o->g7.get? c=some o:=fun c o n1 n2 n3 n4 n5 q=>e7.extBut _ _ n2 (e6.extBut _ _ n5 (e5.extBut _ _ n2 (e4.extBut _ _ n4 (e3.extBut _ _ n2 (e2.extBut _ _ n3 (e1.extBut _ _ n1 q))))))
  have u1:g7.IsListIter i1 l1 (k+1):=((((t1.extBut e3.extBut D.TOi1.symm).extBut e4.extBut D.i12).extBut e5.extBut D.TOi1.symm).extBut e6.extBut D.Mr).extBut e7.extBut D.TOi1.symm
  have u2:g7.IsListIter i2 l2 (k+1):=((t4.extBut e5.extBut D.TOi2.symm).extBut e6.extBut D.Ms).extBut e7.extBut D.TOi2.symm
  have u3:g7.IsListIter i3 l3 (k+1):=t6.extBut e7.extBut D.zF.symm
  have zl:z<g7.objs.size:=br z7
  show wpAny _ _ (Hq (.ref z) (.ref g7.objs.size)>>=_) _ _ _
  refine aq ?_
  unfold Hq
  have z8:eK (g7.push {cls:= .type "tuple",data:= .seq #[x,y,v]}) z TI TO .ellipsis:=cx _ z7
  refine aq (mL z8 (by simp) fun g9 z9 e9=> ?_)
  have z9:eK g9 z TI TO (rawInt g7.objs.size):=z9
  refine mL z9 (by simp) fun g10 z10 e10=> ?_
  have z10:eK g10 z TI TO (rawInt g7.objs.size):=z10
  have up:∀c o,c≠z->g7.get? c=some o->g10.get? c=some o:=fun c o n1 q=>e10.extBut _ _ n1 (e9.extBut _ _ n1 (cx _ q))
  have tJ:gu g10 g7.objs.size x y v:=e10.extBut _ _ (jh zl) (e9.extBut _ _ (jh zl) (cG _ rfl))
  rw[size7] at z10 tJ
  refine aO ⟨_,rfl,?_⟩
  show wpAny _ _ (pure (some (cO g7.objs.size))) _ _ _
  rw[size7]
  exact aO (kk g10 z10 (up _ _ D.TOz p7) (u1.at fun o q=>up _ o D.i1z q) (u2.at fun o q=>up _ o D.i2z q) (u3.at fun o q=>up _ o D.zE q) tJ fun c o n1 n2 n3 n4 n5 q=>up c o n1 (keep7 c o n1 n2 n3 n4 n5 q))
theorem ended{z TI TO i1 i2 i3 l1 l2 l3:aa}{k:Nat}{xs:Array ab}{a b c:ab}{Q:Option ab->ak->Prop}(hh:A.handled=none)(D:Apart z TI TO i1 i2 i3 l1 l2 l3)
  (hz:eK s.heap z TI TO .none) (pTI:gu s.heap TI (.ref i1) (.ref i2) (.ref i3)) (pTO:gu s.heap TO a b c)
  (s1:s.heap.IsListIter i1 l1 k) (q1:s.heap.IsList l1 xs) (hx:xs[k]? =none)
  (kk:∀h',(∀c o,c≠z->c≠TO->c≠i1->c≠i2->c≠i3->s.heap.get? c=some o->h'.get? c=some o)->Q none {s with heap:=h'}):wpAny (model prog w) A (pyNext (.ref z)) Q E s:=by
 have ty:s.TypeIs (.ref z) "zip":=⟨_,hz,rfl⟩;unfold pyNext;have fin:∀{h':aB} {e:aa},(∀c o,c≠z->c≠TO->c≠i1->c≠i2->c≠i3->s.heap.get? c=some o->h'.get? c=some o)->(∃o,h'.get? e=some o/\o.cls= .type "StopIteration")->
   wpAny (model prog w) A (do if<-isInstance (.ref e) (.type "StopIteration") then pure none else throw (.ref e)) Q E {s with heap:=h'}:=fun {h' e} kp ⟨o,ho,hc⟩=>
  aq (P9 (T:="StopIteration") (b:=true) ⟨o,ho,hc⟩ Qp (aO (kk h' kp)))
 refine aq (xY (qW (name:=cU "__next__") ty F.slot_zip_next (mM F.slot_zip_next ty F.entry_zip_next (?body) (F.args_zip_next_1 _))));case body=>
  show wpAny _ _ (field (.ref z) 2>>=_) _ _ _
  refine aq (fY hz rfl (x:= .bool false) rfl (aq (fY hz rfl (x:= .ref TI) rfl (aq (iy pTI rfl (aq ?b1))))))
  unfold Hr
  refine aq (fY hz rfl (x:= .none) rfl (aO ?_))
  simp only[if_true]
  refine aq (Bw (aq (fY hz rfl (x:= .ref TO) rfl (aq (mL hz (by simp) fun g1 z1 e1=>aq ?_)))))
  have z1:eK g1 z TI TO .ellipsis:=z1
  simp only[xM,Ih,Bg,xT]
  refine aq (aq (rp ?_))
  show wpAny _ _ (ll (.ref i1)>>=_) _ _ _
  refine aq (afh hh (s1.extBut e1.extBut D.i1z) (q1.extBut e1.extBut D.l1z) hx fun g2 e e2 he=> ?_)
  obtain⟨oe,kY,jU⟩:=he
  have z2:eK g2 z TI TO .ellipsis:=e2 _ _ D.i1z.symm z1
  have wy:e≠z:=fun q=>by subst q;rw[z2] at kY;cases kY;simp at jU
  exact mL z2 (by simp) fun g3 _ e3=>fin (fun c o n1 _ n3 _ _ q=>e3.extBut _ _ n1 (e2 _ _ n3 (e1.extBut _ _ n1 q))) ⟨oe,e3.extBut _ _ wy kY,jU⟩
end
abbrev DS(l:aa):Obj:={cls:= .type "list_iterator",data:= .fields #[.ref l,.int 0 0]}
abbrev g1(h:aB)(l1:aa):aB:=h.push (DS l1)
abbrev g2(h:aB)(l1 l2:aa):aB:=(g1 h l1).push (DS l2)
abbrev g3(h:aB)(l1 l2 l3:aa):aB:=(g2 h l1 l2).push (DS l3)
abbrev g4(h:aB)(l1 l2 l3:aa):aB:=(g3 h l1 l2 l3).push {cls:= .type "tuple",data:= .seq #[.ref h.objs.size,.ref (g1 h l1).objs.size,.ref (g2 h l1 l2).objs.size]}
abbrev g5(h:aB)(l1 l2 l3:aa):aB:=(g4 h l1 l2 l3).push {cls:= .type "tuple",data:= .seq #[.none,.none,.none]}
abbrev g6(h:aB)(l1 l2 l3:aa):aB:=(g5 h l1 l2 l3).push {cls:= .type "zip",data:= .fields #[.none,.bool false,.bool false,.ref (g3 h l1 l2 l3).objs.size,.ref (g4 h l1 l2 l3).objs.size]}
theorem made(l1 l2 l3:aa)(xs ys zs:Array ab):
  Meets (Builtin.«zip.__new__» ⟨[.type "zip",.ref l1,.ref l2,.ref l3],[]⟩) (fun _ R s=>s.heap.IsList l1 xs/\s.heap.IsList l2 ys/\s.heap.IsList l3 zs/\R (.ok (.ret (.ref (g5 s.heap l1 l2 l3).objs.size))) {s with heap:=g6 s.heap l1 l2 l3}):=
 .of_wp fun prog w A R s hq=>by
  obtain⟨hp,g,d,tk,os⟩:=s;obtain⟨q1,q2,q3,hr⟩:=hq;have sb:=sub_zip;have a1:IE (Br ⟨hp,g,d,tk,os⟩) l1 xs:=q1;have a2:IE (Br ⟨g1 hp l1,g,d,tk,os⟩) l2 ys:=by
   obtain⟨ot,jA,r⟩:=q2;exact⟨ot,cx _ jA,r⟩
  have a3:IE (Br ⟨g2 hp l1 l2,g,d,tk,os⟩) l3 zs:=by
   obtain⟨ot,jA,r⟩:=q3;exact⟨ot,cx _ (cx _ jA),r⟩
  wp_walk using uE a1,uE a2,uE a3
  exact⟨_,rfl,hr⟩
theorem W9(a b c:ab):checkTypeCall "zip" ⟨[a,b,c],[]⟩=pure ():=by kernel_rfl
theorem Xa(a b c:ab):checkBuiltinCall "zip.__new__" ⟨[.type "zip",a,b,c],[]⟩=pure ():=by kernel_rfl
theorem Xb(a b c d:ab):argsOk "object.__init__" ⟨[a,b,c,d],[]⟩:=by
 unfold argsOk;rw[signature?_of (id:="object.__init__") (n:=['_','_','t','i','n','i','_','_']) (o:=['t','c','e','j','b','o']) (by kernel_rfl) F.owner_object];kernel_rfl
section
variable{prog:bg}{w:aW}{A:bY}{E:ab->ak->Prop}{s:ak}
theorem call{l1 l2 l3:aa}{xs ys zs:Array ab}{Q:ab->ak->Prop}(q1:s.heap.IsList l1 xs)(q2:s.heap.IsList l2 ys)(q3:s.heap.IsList l3 zs)
  (k:∀h',eK h' (s.heap.objs.size+5) (s.heap.objs.size+3) (s.heap.objs.size+4) .none->gu h' (s.heap.objs.size+3) (.ref s.heap.objs.size) (.ref (s.heap.objs.size+1)) (.ref (s.heap.objs.size+2))->
   gu h' (s.heap.objs.size+4) .none .none .none->h'.IsListIter s.heap.objs.size l1 0->h'.IsListIter (s.heap.objs.size+1) l2 0->h'.IsListIter (s.heap.objs.size+2) l3 0->
   (∀c o,s.heap.get? c=some o->h'.get? c=some o)->Q (.ref (s.heap.objs.size+5)) {s with heap:=h'}):wpAny (model prog w) A (Qv (.type "zip") [.ref l1,.ref l2,.ref l3]) Q E s:=by
 refine callType_new F.called_zip (by decide) (W9 _ _ _) (Xa _ _ _) (fun ob=>Xb ob _ _ _) F.entry_zip_new (made l1 l2 l3 xs ys zs) ⟨q1,q2,q3,?_⟩;have n1:(g1 s.heap l1).objs.size=s.heap.objs.size+1:=fI ..;have n2:(g2 s.heap l1 l2).objs.size=s.heap.objs.size+2:=by rw[fI,n1]
 have n3:(g3 s.heap l1 l2 l3).objs.size=s.heap.objs.size+3:=by rw[fI,n2]
 have n4:(g4 s.heap l1 l2 l3).objs.size=s.heap.objs.size+4:=by rw[fI,n3]
 have n5:(g5 s.heap l1 l2 l3).objs.size=s.heap.objs.size+5:=by rw[fI,n4]
 have up1:∀{h:aB} {o:Obj} {c:aa} {q:Obj},h.get? c=some q->(h.push o).get? c=some q:=fun e=>cx _ e;have f6:(g6 s.heap l1 l2 l3).get? (g5 s.heap l1 l2 l3).objs.size=some _:=cG _ rfl;have f5:(g6 s.heap l1 l2 l3).get? (g4 s.heap l1 l2 l3).objs.size=some _:=up1 (cG _ rfl);have f4:(g6 s.heap l1 l2 l3).get? (g3 s.heap l1 l2 l3).objs.size=some _:=up1 (up1 (cG _ rfl));have f3:(g6 s.heap l1 l2 l3).get? (g2 s.heap l1 l2).objs.size=some _:=up1 (up1 (up1 (cG _ rfl)));have f2:(g6 s.heap l1 l2 l3).get? (g1 s.heap l1).objs.size=some _:=up1 (up1 (up1 (up1 (cG _ rfl))));have f1:(g6 s.heap l1 l2 l3).get? s.heap.objs.size=some _:=up1 (up1 (up1 (up1 (up1 (cG _ rfl)))));show _/\_;rw[n3,n4,n5] at f6;rw[n1,n2,n3] at f4;rw[n4] at f5;rw[n2] at f3;rw[n1] at f2;rw[n5];exact⟨⟨_,f6,rfl⟩,k _ f6 f4 f5 ⟨_,f1,rfl,rfl⟩ ⟨_,f2,rfl,rfl⟩ ⟨_,f3,rfl,rfl⟩ fun c o e=>up1 (up1 (up1 (up1 (up1 (up1 e)))))⟩
end
end Z3
namespace L2
open PySem PySem.Spec PyProof.Rows
def DU(K:aC)(a b c:aa):It:=
 ⟨fun i H=>∃(xs ys zs:List V) (x y z:V),ah K H a xs/\ah K H b ys/\ah K H c zs/\xs[i]? =some x/\ys[i]? =some y/\zs[i]? =some z,
  fun i H v H'=>∃T x y z,v= .ref T/\H T=cu/\H'=upd H T (.tup [x,y,z])/\(∀xs,ah K H a xs->xs[i]? =some x)/\(∀ys,ah K H b ys->ys[i]? =some y)/\∀zs,ah K H c zs->zs[i]? =some z,
  fun i H=>∃xs:List V,ah K H a xs/\xs.length<=i⟩
theorem Xc{P:bg}{w:aW}{K:aC}{elts:List aG}{kk:Nat}{dP:Pos}{a b c z TI TO i1 i2 i3:aa}(D:Z3.Apart z TI TO i1 i2 i3 a b c):
  Turn P w K (.Tuple elts kk dP) (DU K a b c) [z,TI,TO,i1,i2,i3] z (fun i h=>eK h z TI TO .none/\Z3.gu h TI (.ref i1) (.ref i2) (.ref i3)/\(∃x y v,Z3.gu h TO x y v)/\h.IsListIter i1 a i/\h.IsListIter i2 b i/\h.IsListIter i3 c i) where
 mem:=by simp
 obj:=fun i h st c hc=>by
  obtain⟨hz,c6,⟨x,y,v,dE⟩,⟨o1,e1,_,d1⟩,⟨o2,e2,_,d2⟩,⟨o3,e3,_,d3⟩⟩:=st;have e':c=z\/c=TI\/c=TO\/c=i1\/c=i2\/c=i3:=by simpa using hc
  rcases e' with q|q|q|q|q|q
  ·rw[q];exact⟨_,hz,fun v q=>nomatch q⟩
  ·rw[q];exact⟨_,c6,fun v q=>nomatch q⟩
  ·rw[q];exact⟨_,dE,fun v q=>nomatch q⟩
  ·rw[q];exact⟨o1,e1,fun v q=>by rw[d1] at q;cases q⟩
  ·rw[q];exact⟨o2,e2,fun v q=>by rw[d2] at q;cases q⟩
  ·rw[q];exact⟨o3,e3,fun v q=>by rw[d3] at q;cases q⟩
 keep:=fun i h h' st k=>by
  obtain⟨hz,c6,⟨x,y,v,dE⟩,h1,h2,h3⟩:=st;exact⟨k z (by simp) _ hz,k TI (by simp) _ c6,⟨x,y,v,k TO (by simp) _ dE⟩,h1.at fun o q=>k i1 (by simp) o q,h2.at fun o q=>k i2 (by simp) o q,h3.at fun o q=>k i3 (by simp) o q⟩
 item:=by
  intro X hP hw hK hc i pins s σ H E I hf st hg;subst hP hw hK;obtain⟨hz,c6,⟨x0,y0,v0,dE⟩,h1,h2,h3⟩:=st;obtain⟨xs,ys,zs,x,y,v,fM,gk,pz,hx,hy,hv⟩:=hg;obtain⟨aj,rv,p,_⟩:=I.list fM;obtain⟨fi,rv2,p2,_⟩:=I.list gk;obtain⟨its3,rv3,p3,_⟩:=I.list pz;obtain⟨u,hu,ru⟩:=rv.get hx;obtain⟨u2,md,ru2⟩:=rv2.get hy;obtain⟨u3,mq,ru3⟩:=rv3.get hv;have oZ:z<s.heap.objs.size:=br hz;refine Z3.item D hz c6 dE h1 h2 h3 p.isList p2.isList p3.isList (x:=u) (y:=u2) (v:=u3) (by simpa using hu) (by simpa using md) (by simpa using mq) fun h' z' TO' h1' h2' h3' hT hk=> ?_;refine⟨_,rfl,Pk (s:={s with heap:=h'}) z' fun h'' z'' sb=> ?_⟩;have nu:h''.get? s.heap.objs.size=some {cls:= .type "tuple",data:= .seq #[u,u2,u3]}:=(sb.2 _ (jh oZ)).trans hT;have new:de X.prog X.w (upd H s.heap.objs.size (.tup [x,y,v])) h'' s.heap.objs.size (.tup [x,y,v]):=
   ⟨by show 3<=sizeLine;decide,[u,u2,u3],.cons ru (.cons ru2 (.cons ru3 .nil)),⟨_,nu,rfl,_,rfl⟩⟩
  have I1:Inv X pins σ (upd H s.heap.objs.size (.tup [x,y,v])) {s with heap:=h''}:=
   I.vH (t':=s.toks) (ch:=[z,TI,TO,i1,i2,i3]) (fun c o hb q=>(sb.2 c (fun q'=>hb (by simp[q']))).trans (hk c o (fun q'=>hb (by simp[q'])) (fun q'=>hb (by simp[q'])) (fun q'=>hb (by simp[q'])) (fun q'=>hb (by simp[q'])) (fun q'=>hb (by simp[q'])) q)) hf (aI _) new
  refine⟨.ref s.heap.objs.size,_,I1,rfl,⟨_,x,y,v,rfl,I.az.fresh (aI _),rfl,fun l hl=>by rw[I.oO hl fM];exact hx,fun l hl=>by rw[I.oO hl gk];exact hy,fun l hl=>by rw[I.oO hl pz];exact hv⟩,⟨z'',?_,⟨u,u2,u3,?_⟩,?_,?_,?_⟩,fun c eA=> ?_⟩
  ·exact(sb.2 _ D.TIz).trans (hk _ _ D.TIz D.TITO D.TIi1 D.TIi2 D.W5 c6)
  ·exact(sb.2 _ D.TOz).trans TO'
  ·exact h1'.at fun o q=>(sb.2 _ D.i1z).trans q
  ·exact h2'.at fun o q=>(sb.2 _ D.i2z).trans q
  ·exact h3'.at fun o q=>(sb.2 _ D.zE).trans q
  ·have aY:c<s.heap.objs.size:=by
    have e':c=z\/c=TI\/c=TO\/c=i1\/c=i2\/c=i3:=by simpa using eA
    rcases e' with q|q|q|q|q|q
    ·rw[q];exact oZ
    ·rw[q];exact br c6
    ·rw[q];exact br dE
    ·rw[q];obtain⟨_,e1,_⟩:=h1;exact br e1
    ·rw[q];obtain⟨_,e2,_⟩:=h2;exact br e2
    ·rw[q];obtain⟨_,e3,_⟩:=h3;exact br e3
   rw[ag (cW aY)];exact(hf c eA).1
 done:=by
  intro X hP hw hK hc i pins s σ H E I hf st hg;subst hP hw hK;obtain⟨hz,c6,⟨x0,y0,v0,dE⟩,h1,h2,h3⟩:=st;obtain⟨xs,fM,sf⟩:=hg;obtain⟨aj,rv,p,_⟩:=I.list fM;have l1:=rv.length;have he:aj.toArray[i]? =none:=by simp;omega
  exact Z3.ended (I.ok.hd hc) D hz c6 dE h1 p.isList he fun h' hk=>⟨rfl,I.Cr (t':=s.toks) (ch:=[z,TI,TO,i1,i2,i3]) (fun c o hb q=>
   hk c o (fun q'=>hb (by simp[q'])) (fun q'=>hb (by simp[q'])) (fun q'=>hb (by simp[q'])) (fun q'=>hb (by simp[q'])) (fun q'=>hb (by simp[q'])) q) hf⟩
 self:=fun A i s Q E st h=>xP st.1 h
theorem Xd(I l1 l2 l3:Nat)(h1:l1<I)(h2:l2<I)(h3:l3<I):Z3.Apart (I+5) (I+3) (I+4) I (I+1) (I+2) l1 l2 l3:=by
 constructor<;>(refine PySem.W.neN ?_;omega)
def Xe(K:aC)(ta:TA):TI:=fun σ H R=>ta σ H fun vs H1=>∃a b c xs ys zs,vs=[.ref a,.ref b,.ref c]/\ah K H1 a xs/\ah K H1 b ys/\ah K H1 c zs/\R (DU K a b c) H1
theorem Xf{X:Cx}{K:aC}{e e2 e3:aG}{ta:TA}{p pos dP:Pos}{elts:List aG}{kk:Nat}(hg:Gl X "zip")(hm:X.mg "zip"=cu)(ha:PA X [e,e2,e3] ta)(hK:X.K=K:=by rfl)
  (hs:starEach [e,e2,e3] X.env=(false,eval e X.env)::starEach [e2,e3] X.env:=by rfl) (cz:(backTo pos (starEach [e2,e3] X.env)).any (·.1)=false:=by rfl):
  PI X (.Tuple elts kk dP) (.Call (.Name "zip" p) [e,e2,e3] [] pos) (Xe K ta):=by
 subst hK;intro pins s σ H R I h;refine Call_ (kD I hg hm Cz (qU (aH (ha pos pins s σ H _ I h) fun us s1 ⟨vs,H1,I1,r1,q1⟩=> ?_) hs cz));obtain⟨a,b,c,xs,ys,zs,ex,fM,gk,pz,q⟩:=q1;subst ex;cases r1 with
 |cons r rr=>
  cases rr with
  |cons r' rr=>
   cases rr with
   |cons r'' rr=>
    cases rr
    cases r
    cases r'
    cases r''
    obtain⟨aj,rv,p1,_⟩:=I1.list fM
    obtain⟨fi,rv2,p2,_⟩:=I1.list gk
    obtain⟨its3,rv3,p3,_⟩:=I1.list pz
    refine Z3.call p1.isList p2.isList p3.isList fun h' hz c6 dE h1 h2 h3 hk=>xP hz ?_
    have I2:Inv X pins σ H1 {s1 with heap:=h'}:=I1.kept (t':=s1.toks) hk
    refine⟨s1.heap.objs.size+5,[s1.heap.objs.size+5,s1.heap.objs.size+3,s1.heap.objs.size+4,s1.heap.objs.size,s1.heap.objs.size+1,s1.heap.objs.size+2],_,_,H1,rfl,I2,Xc (Xd s1.heap.objs.size a b c p1.lt p2.lt p3.lt),⟨hz,c6,⟨_,_,_,dE⟩,h1,h2,h3⟩,fun c eA=> ?_,q⟩
    have e':c=s1.heap.objs.size+5\/c=s1.heap.objs.size+3\/c=s1.heap.objs.size+4\/c=s1.heap.objs.size\/c=s1.heap.objs.size+1\/c=s1.heap.objs.size+2:=by simpa using eA
    have hle:s1.heap.objs.size<=c:=by
     rcases e' with z|z|z|z|z|z
     ·rw[z];exact jH _ _
     ·rw[z];exact jH _ _
     ·rw[z];exact jH _ _
     ·rw[z];exact aI _
     ·rw[z];exact jH _ _
     ·rw[z];exact jH _ _
    exact I1.oT hle (I1.az.fresh hle)
open PySem PySem.Spec PyProof.Rows
def KGet(K:aC)(w:aW)(a:aa)(y:V)(r:Option V):Prop:=
 (a==sysModules)=false/\∃(es:Array iC) (n:Nat),K.lookup a=some ⟨.type "dict",cu,.dict es n,#[]⟩/\
  ((∃i:Int,y= .int i/\(∀e∈es.toList,∃k t,e.key= .int k t/\e.hash=hashInt k)/\eT r (findBy uR es i))\/
   (∃x:Str,y= .str x/\ae6 w.params es.toList/\eT r (findBy Bm es x)))
def Xg(K:aC)(w:aW)(td ty:TE):TE:=fun σ H Q=>td σ H fun x H1=>ty σ H1 fun y H2=>∃a v,x= .ref a/\KGet K w a y (some v)/\Q v H2
def Xh(K:aC)(w:aW)(ty td:TE):TE:=fun σ H Q=>ty σ H fun y H1=>td σ H1 fun x H2=>∃a o,x= .ref a/\KGet K w a y o/\Q (.bl o.isSome) H2
theorem Mu{v:V}{o:Option ab}(h:eT (some v) o):∃u,o=some u/\RelV v u:=by
 cases o with
 |none=>exact ft h
 |some u=>exact⟨u,rfl,h⟩
theorem Mv{r:Option V}{o:Option ab}(h:eT r o):o.isSome=r.isSome:=by
 cases o<;>cases r<;>first|rfl|exact ft h
section
variable{X:Cx}{K:aC}{w:aW}{o i:aG}{pos:Pos}{td ty:TE}
theorem Mw{prog:bg}{h:aB}{a:aa}{es:Array iC}{n:Nat}(KX:K.In h)(hl:K.lookup a=some ⟨.type "dict",cu,.dict es n,#[]⟩)(hk:∀e∈es.toList,∃k t,e.key= .int k t/\e.hash=hashInt k):
  h.MapOf (intKind prog w) a (fun k=>findBy uR es k):=
 ⟨_,es,n,KX _ _ hl,⟨rfl,rfl,rfl⟩,rfl,fun e he=>by
  obtain⟨k,t,e1,e2⟩:=hk e (aeI.mpr he);exact⟨k,by rw[e1];exact intKind_is prog w k t,e2⟩,fun _=>rfl⟩
theorem zG(ho:PE X o td)(hi:PE X i ty)(hs:Cp i)(hK:X.K=K:=by rfl)(hw:X.w=w:=by rfl):PE X (.Subscript o i pos) (Xg K w td ty):=by
 subst hK hw;intro pins s σ H Q I h;refine J5 ael.lookup hs (aH (ho pins s σ H _ I h) fun u s1 ⟨x,H1,I1,rx,q1⟩=>aH (hi pins s1 σ H1 _ I1 q1) fun iv s2 ⟨y,H2,I2,ry,a,v,ex,⟨hs,es,n,hl,g⟩,q2⟩=> ?_);subst ex;obtain rfl:u=cO a:=rx;rcases g with⟨k,rfl,hk,hv⟩|⟨k,rfl,hk,hv⟩
 ·obtain⟨t,rfl⟩:=ry;have hm:=Mw (prog:=X.prog) (w:=X.w) I2.gd hl hk;obtain⟨u,eu,ru⟩:=Mu hv;exact⟨hm.typeIs,Qa (intKind_is X.prog X.w k t) hm eu ⟨v,H2,I2.tok _,ru,q2⟩⟩
 ·obtain⟨t,rfl⟩:=ry;have hm:=ae5 (prog:=X.prog) (w:=X.w) I2.gd hl hk;obtain⟨u,eu,ru⟩:=Mu hv;exact⟨hm.typeIs,Qa (strKind_is X.prog X.w k t) hm eu ⟨v,H2,I2.tok _,ru,q2⟩⟩
theorem Xi(hi:PE X i ty)(ho:PE X o td)(hK:X.K=K:=by rfl)(hw:X.w=w:=by rfl):PC X .In i o (Xh K w ty td):=by
 subst hK hw;intro pins s σ H Q I h;refine aH (hi pins s σ H _ I h) fun iv s1 ⟨y,H1,I1,ry,q1⟩=>aH (ho pins s1 σ H1 _ I1 q1) fun u s2 ⟨x,H2,I2,rx,a,ov,ex,⟨hs,es,n,hl,g⟩,q2⟩=> ?_;subst ex;obtain rfl:u=cO a:=rx;rcases g with⟨k,rfl,hk,hv⟩|⟨k,rfl,hk,hv⟩
 ·obtain⟨t,rfl⟩:=ry;have hm:=Mw (prog:=X.prog) (w:=X.w) I2.gd hl hk;refine wpAny_in_of (intKind_is X.prog X.w k t) hs hm ⟨.bl ov.isSome,H2,I2.tok _,?_,q2⟩;show _=_;rw[Mv hv]
 ·obtain⟨t,rfl⟩:=ry;have hm:=ae5 (prog:=X.prog) (w:=X.w) I2.gd hl hk;refine wpAny_in_of (strKind_is X.prog X.w k t) hs hm ⟨.bl ov.isSome,H2,I2.tok _,?_,q2⟩;show _=_;rw[Mv hv]
end
def eX(K:aC)(a:aa)(xs:List V):Prop:=∃(o:Obj) (aj:Array ab) (n:Nat),K.lookup a=some o/\o.cls= .type "tuple"/\o.data= .seq aj n/\aj.size<=sizeLine/\Vals xs aj.toList
theorem eX.sq{K:aC}{H:Hp}{a:aa}{xs:List V}(h:eX K a xs):cH K H a xs:= .inr h
open PySem PySem.Spec PyProof.Rows PySem.W
mutual
theorem Xj{K:aC}{H H':Hp}(kl:∀a xs,ah K H a xs->ah K H' a xs)(kt:∀a xs,cH K H a xs->cH K H' a xs):∀{v:V} {d:eC},Dw K H v d->Dw K H' v d
 |_,_,.bc=> .bc
 |_,_,.bl b=> .bl b
 |_,_,.int i=> .int i
 |_,_,.str x=> .str x
 |_,_,.fZ b=> .fZ b
 |_,_,.lst h1 h2=> .lst (kl _ _ h1) (zH kl kt h2)
 |_,_,.tup h1 h2=> .tup (kt _ _ h1) (zH kl kt h2)
theorem zH{K:aC}{H H':Hp}(kl:∀a xs,ah K H a xs->ah K H' a xs)(kt:∀a xs,cH K H a xs->cH K H' a xs):∀{vs:List V} {ds:List eC},iL K H vs ds->iL K H' vs ds
 |_,_,.nil=> .nil
 |_,_,.cons h1 h2=> .cons (Xj kl kt h1) (zH kl kt h2)
end
def zI(H:Hp)(PA PB:aa):Prop:=(∀b,b≠PA->b≠PB->H b=cu\/∃o u,H b=some (.bF o u))/\H PA=some (.eD #[])/\H PB=some (.eD #[])
def wz(mg:Str->Option ab)(base:aB):Prop:=∃bm ob,mg "__builtins__"=some (.ref bm)/\bm≠builtinsNs/\base.get? bm=some ob/\ob.cls= .type "module"/\ob.dict=some builtinsNs/\ob.data= .plain
theorem Xk{P:bg}{w:aW}{K:aC}{mg mb:Str->Option ab}{CX:kG}{k:Nat}{fa:aa}{fd:aU}{ps:List Str}{sp:Sp}{s₁:ak}{vals:List ab}{ds:List eC}{R:aeZ}{cl:Str->Option aa}{d0:eC}{cA cB PA PB:aa}
  (KX:K.In s₁.heap) (nV:s₁.heap.Ns mainGlobals mg) (hb:s₁.heap.Ns builtinsNs mb) (Xl:∀x:Str,x≠"__name__"->mb x=bootBuiltins x) (Dv:s₁.heap.NoLimit) (hg:s₁.gens= #[])
  (qA:wz mg s₁.heap) (tA:s₁.heap.TableAt cA PA #[]) (tB:s₁.heap.TableAt cB PB #[]) (cdA:rJ s₁.heap cA PA) (cdB:rJ s₁.heap cB PB) (Mx:K.lookup PA=cu) (My:K.lookup PB=cu) (nW:PA≠PB) (zJ:PA≠cStatics) (zK:PB≠cStatics)
  (wA:rG w.params s₁.heap vals ds) (cz:jV ds=true) (Xm:∀d∈ds,d.weight<=1048576) (hr:dw k callerA)
  (F:∀base:aB,K.In base->base.Ns mainGlobals mg->wz mg base->rJ base cA PA->rJ base cB PB->aN P w K mg base CX k fa fd ps sp) (Dx:∀(s:ak) (us:List ab),us.length=ps.length->BindsTo s fd ⟨us,[]⟩ (ps.zip us)) (hlen:ds.length=ps.length)
  (iZ:∀(H:Hp) (xs:List V),zI H PA PB->iL K H xs ds->sp xs H (fun v H'=>Dw K H' v d0) fun _ _ _=>False)
  (DV:∀H e s',CX [] H s₁ (fun _ _ _=>False) e s'->False):
  codeAny (model P w) callerA (.call (.ref fa) ⟨vals,[]⟩) (fun r s'=>∃u as,r= .ok (.ret u)/\ReadsW R cl s'.heap u d0 as/\OldK s₁.heap s'.heap/\s'.os=s₁.os/\uX s'.gens) s₁:=by
 obtain⟨A,ho,ar⟩:=yO ds vals wA cz Xm;have hO:Kw (gn K s₁.heap A):=Ug ar;have Mz:cS P w (gn K s₁.heap A) s₁.heap:=Uh ar;have MA:=yT KX ar ds vals wA cz ho;have hV:=sh ho;have MB:∀b u,gn K s₁.heap A b=some u->K.lookup b=cu:=fun b u q=>(yR ar q).1;have isSeqO:∀{b:aa} {u:HO},gn K s₁.heap A b=some u->∃(c:ab) (vs:List ab),s₁.heap.get? b=some {cls:=c,data:= .seq vs.toArray}:=fun q=>by
  obtain⟨_,vs,_,_,⟨e2,_⟩|⟨e2,_⟩⟩:=yR ar q
  ·exact⟨_,vs,e2⟩
  ·exact⟨_,vs,e2⟩
 generalize gn K s₁.heap A=H1 at hO Mz MA MB isSeqO;have gA:=tA.2;have gB:=tB.2;have nA:H1 PA=cu:=by
  cases q:H1 PA with
  |none=>rfl
  |some u=>obtain⟨c,vs,e⟩:=isSeqO q;rw[gA] at e;cases e
 have nB:H1 PB=cu:=by
  cases q:H1 PB with
  |none=>rfl
  |some u=>obtain⟨c,vs,e⟩:=isSeqO q;rw[gB] at e;cases e
 let H:Hp:=upd (upd H1 PA (.eD #[])) PB (.eD #[]);have HPA:H PA=some (.eD #[]):=by show upd (upd H1 PA _) PB _ PA=_;rw[ag nW,au]
 have HPB:H PB=some (.eD #[]):=au;have Hne:∀b,b≠PA->b≠PB->H b=H1 b:=fun b n1 n2=>by show upd (upd H1 PA _) PB _ b=_;rw[ag n2,ag n1]
 have up:∀b u,H1 b=some u->H b=some u:=fun b u e=>by
  rw[Hne b (aV e nA) (aV e nB)];exact e
 have MC:zI H PA PB:=⟨fun b n1 n2=>by rw[Hne b n1 n2];exact hO b,HPA,HPB⟩;have az:cS P w H s₁.heap:=fun b u e=>by
  by_cases e1:b=PA
  ·subst e1;rw[HPA] at e;cases e;exact gA
  ·by_cases e2:b=PB
   ·subst e2;rw[HPB] at e;cases e;exact gB
   ·rw[Hne b e1 e2] at e;exact(Mz b u e).ji (fun _ _ _ q=>q) (fun c q=>up _ _ q) fun c xs q=>up _ _ q
 have hS:iL K H (vals.map toV) ds:=zH (fun a xs q=>by
   rcases q with(q|⟨o,q⟩)|q
   ·exact .inl (.inl (up _ _ q))
   ·exact .inl (.inr ⟨o,up _ _ q⟩)
   ·exact .inr q) (fun a xs q=>by
   rcases q with(q|⟨o,q⟩)|q
   ·exact .inl (.inl (up _ _ q))
   ·exact .inl (.inr ⟨o,up _ _ q⟩)
   ·exact .inr q) MA
 have noA:∀{b:aa} {o:Obj},s₁.heap.get? b=some o->(∀vs n,o.data≠.seq vs n)->o.cls≠.none->H b=cu:=fun {b o} e d c=>by
  have n1:b≠PA:=fun z=>by rw[z,gA] at e;cases e;exact c rfl
  have n2:b≠PB:=fun z=>by rw[z,gB] at e;cases e;exact c rfl
  rw[Hne b n1 n2];cases q:H1 b with
  |none=>rfl
  |some u=>
   obtain⟨cc,vs,e2⟩:=isSeqO q
   rw[e2] at e
   cases e
   exact absurd rfl (d _ _)
 have noD:∀{b:aa} {o:Obj} {es:Array iC} {ep:Nat},s₁.heap.get? b=some o->o.data= .dict es ep->H b=cu:=fun {b o es ep} e d=>by
  have n1:b≠PA:=fun z=>by rw[z,gA] at e;cases e;cases d
  have n2:b≠PB:=fun z=>by rw[z,gB] at e;cases e;cases d
  rw[Hne b n1 n2];cases q:H1 b with
  |none=>rfl
  |some u=>
   obtain⟨cc,vs,e2⟩:=isSeqO q
   rw[e2] at e
   cases e
   cases d
 have base_of:∀{b:aa} {o:Obj},s₁.heap.get? b=some o->H b=cu->(kx s₁.heap H).get? b=some o:=fun e n=>QM e n;have nsK:∀{b:aa} {m:Str->Option ab},s₁.heap.Ns b m->(kx s₁.heap H).Ns b m:=fun {b m} ⟨o,es,ep,e,d,r⟩=>⟨o,es,ep,base_of e (noD e d),d,r⟩;have nK:∀b o,K.lookup b=some o->H b=cu:=fun b o e=>by
  have n1:b≠PA:=fun z=>by rw[z,Mx] at e;cases e
  have n2:b≠PB:=fun z=>by rw[z,My] at e;cases e
  rw[Hne b n1 n2];cases q:H1 b with
  |none=>rfl
  |some u=>
   rw[MB b u q] at e
   cases e
 have MD:K.In (kx s₁.heap H):=fun b o e=>base_of (KX b o e) (nK b o e);have hM:Mod K mg (kx s₁.heap H):=⟨MD,nsK nV,⟨mb,nsK hb,Xl⟩,let ⟨mc,h1,h2⟩:=Dv;⟨mc,nsK h1,h2⟩⟩;have Xn:wz mg (kx s₁.heap H):=by
  obtain⟨bm,ob,b1,b2,b3,b4,b5,b6⟩:=qA;exact⟨bm,ob,b1,b2,base_of b3 (noA b3 (fun vs n z=>by rw[b6] at z;cases z) (by rw[b4];simp)),b4,b5,b6⟩
 have codeK:∀{c Pp:aa},rJ s₁.heap c Pp->rJ (kx s₁.heap H) c Pp:=fun {c Pp} x=>by
  obtain⟨o,vs,file,tf,flags,tg,inF,text,tt,e,r1,r2,r⟩:=x;exact⟨o,vs,file,tf,flags,tg,inF,text,tt,base_of e (noA e (fun v n z=>by rw[r2] at z;cases z) (by rw[r1];simp)),r1,r2,r⟩
 have e0:qm P w K mg (kx s₁.heap H) callerA [] s₁ H:=⟨rfl,hM,fun b o e=>QN e,IB (QL _ _),trivial,fun b hb=>absurd (show b∈([]:List aa) from hb) (by simp),az,.of_eq hg⟩;have hl:vals.length=ps.length:=by rw[yN wA];exact hlen
 refine Bt ((F _ MD (nsK nV) Xn (codeK cdA) (codeK cdB)).run callerA [] s₁ H ⟨vals,[]⟩ vals (vals.map toV) _ _ hr e0 (Dx s₁ vals hl) hV (iZ H _ MC hS)) fun r s' x=> ?_;cases r with
 |error e=>exact(DV H e s' x).elim
 |ok fl=>
  cases fl with
  |next=>exact ft x
  |brk=>exact ft x
  |cont=>exact ft x
  |ret u=>
   obtain⟨v,H',os,bare,un,DW,r',q⟩:=x
   have tabs:∀{Pp:aa},H Pp=some (.eD #[])->∃more,s'.heap.get? Pp=some {cls:= .none,data:= .fields (#[]++more)}:=fun {Pp} e=>by
    obtain⟨more,e1⟩:=un.lO Pp _ e;exact⟨more,DW _ _ e1⟩
   have kept:∀b o,b≠PA->b≠PB->s₁.heap.get? b=some o->s'.heap.get? b=some o:=fun b o n1 n2 e=>by
    cases q2:H b with
    |none=>exact un.keep b o e q2 (by intro z;exact absurd (show b∈([]:List aa) from z) (by simp)) (by simp)
    |some u2=>
     rcases MC.1 b n1 n2 with z|⟨ob,u3,z⟩
     ·rw[q2] at z
      cases z
     ·have z2:=un.ku b ob _ z
      obtain⟨e1,_⟩:=az b _ z
      obtain⟨e2,_⟩:=DW b _ z2
      rw[e] at e1
      cases e1
      exact e2
   have KX':K.In s'.heap:=fun b o e=>kept b o (fun z=>by rw[z,Mx] at e;cases e) (fun z=>by rw[z,My] at e;cases e) (KX b o e)
   have old:OldK s₁.heap s'.heap:=by
    refine⟨fun b o e=> ?_,fun b o e=> ?_⟩
    ·by_cases e1:b=PA
     ·subst e1;rw[gA] at e;cases e;obtain⟨more,h2⟩:=tabs HPA;exact .inr (.inl ⟨tA.isCodeTable,rfl,#[],more,rfl,h2⟩)
     ·by_cases e2:b=PB
      ·subst e2;rw[gB] at e;cases e;obtain⟨more,h2⟩:=tabs HPB;exact .inr (.inl ⟨tB.isCodeTable,rfl,#[],more,rfl,h2⟩)
      ·exact .inl (kept b o e1 e2 e)
    ·by_cases e1:b=PA
     ·subst e1;obtain⟨more,h2⟩:=tabs HPA;exact⟨_,h2⟩
     ·by_cases e2:b=PB
      ·subst e2;obtain⟨more,h2⟩:=tabs HPB;exact⟨_,h2⟩
      ·exact⟨o,kept b o e1 e2 e⟩
   obtain⟨as,ME⟩:=Dw.reads (R:=R) (cl:=cl) DW KX' d0 v u q r'
   exact⟨u,as,rfl,ME,old,os,bare⟩
structure TabOf(K:aC)(x:Str)(c P:aa):Prop where
 at_:xW K x=some (c,P)
 no:K.lookup P=cu
theorem Xo{r:OpenSpec}{k:Nat}{q:bg}{loose:List Str}{XP:(Str->Option ab)->aB->Prop}{YP:aW->aB->Prop}{d:DefRec}{K:rK->aC}{CX:kG}{ps:List Str}{sp:aC->Sp}{xA xB:Str}{cA cB PA PB:aa}
  (Xp:r.wellSaid=true) (DX:d.params.defaults=[]) (hlen:r.args.length=ps.length) (hr:dw k callerA)
  (hY:∀(w:aW) (h:aB),YP w h->(K w.params).In h)
  (hA:((recsOf q).find? (fun e=>e.name==xA)).isSome=true) (hB:((recsOf q).find? (fun e=>e.name==xB)).isSome=true)
  (tA:∀p,TabOf (K p) xA cA PA) (tB:∀p,TabOf (K p) xB cB PB) (nW:PA≠PB) (zJ:PA≠cStatics) (zK:PB≠cStatics)
  (F:∀(w:aW) (mg:Str->Option ab) (fa:aa) (h:aB),YP w h->(K w.params).In h->h.Ns mainGlobals mg->mg d.name=some (.ref fa)->
   ∃fd:aU,(∀(s:ak) (us:List ab),us.length=ps.length->BindsTo s fd ⟨us,[]⟩ (ps.zip us))/\
    ∀base:aB,(K w.params).In base->base.Ns mainGlobals mg->wz mg base->rJ base cA PA->rJ base cB PB->aN r.prog w (K w.params) mg base CX k fa fd ps (sp (K w.params)))
  (iZ:∀(K:aC) (H:Hp) (xs:List V) (a:PU r.args),zI H PA PB->Codec.withinAll r.args a=true->Qz r.args r.asked a=true->iL K H xs (Bp r.args a)->
   sp K xs H (fun v H'=>Dw K H' v (r.ret.enc (Qz r.args r.f a))) fun _ _ _=>False)
  (DV:∀(H:Hp) (s:ak) (e:ab) (s':ak),CX [] H s (fun _ _ _=>False) e s'->False):
  PySem.W.WalkOS q loose XP YP r d [] (fun f vs=>Qv f vs):=by
 intro w fJ s₁ mg mb G Y fa o pm cd doc dV kV ho hd eU hD DY hg args vals as Xq Xr ME wA hlo;obtain⟨dA,hA⟩:=AZ.mp hA;obtain⟨dB,hB⟩:=AZ.mp hB;obtain⟨a,e1,e2⟩:=PySem.W.os_pre_some Xq;obtain⟨e3,DZ⟩:=Codec.encAll_of_decAll r.args args a e1;subst e3;have KX:=hY w _ Y;obtain⟨fd,hb,hF⟩:=F w mg fa _ Y KX G.T.g DY;have D0:=afc G.T KX hA (tA w.params).at_;have D1:=afc G.T KX hB (tB w.params).at_;refine PySem.W.enter_call (Bt (Xk (R:=[]) (cl:=classAt fJ.heap) (d0:=r.ret.enc (Qz r.args r.f a)) KX G.T.g G.T.b G.T.builtins G.T.nolimit hg G.T.bmain (D0.1.tab D0.2) (D1.1.tab D1.2) D0.1 D1.1 (tA w.params).no (tB w.params).no nW zJ zK wA (Kq _ _) (Ul Xr) hr hF hb (by rw[Kz];exact hlen)
  (fun H xs hO hS=>iZ (K w.params) H xs a hO DZ e2 hS) fun H e s'=>DV H s₁ e s') fun r' s' hq=> ?_)
 obtain⟨u,as',rfl,h1,h2,h3,h4⟩:=hq;exact⟨.inl ⟨u,_,as',rfl,fun _=>rfl,h1,(OpenSpec.post_iff Xp DZ _ _).mpr rfl,fun z=>kd (show false=true from z)⟩,h2,h3,h4⟩
end L2
namespace CM
open PySem PySem.Spec PyProof.Rows L2
open Vbahak (State Carrier Part Ticket)
theorem fE:bootBuiltins "len"=some (.builtin "len"):=by decide+kernel
theorem zL:bootBuiltins "all"=some (.builtin "all"):=by decide+kernel
theorem jB:bootBuiltins "sum"=some (.builtin "sum"):=by decide+kernel
theorem D6:bootBuiltins "min"=some (.builtin "min"):=by decide+kernel
theorem Xs:bootBuiltins "max"=some (.builtin "max"):=by decide+kernel
theorem MF:bootBuiltins "sorted"=some (.builtin "sorted"):=by decide+kernel
theorem Xt:bootBuiltins "list"=some (.type "list"):=by decide+kernel
theorem Xu:bootBuiltins "dict"=some (.type "dict"):=by decide+kernel
theorem bo{N P:List Str}{sc:dY}(a:sc.kind= .function:=by rfl)(b:sc.isCoroutine=false:=by rfl)(c:sc.isGenerator=false:=by rfl)(d:N.Nodup:=by decide+kernel)(e:N.take P.length=P:=by rfl)(f:∀x∈P,sc.names.lookup x=some .local\/sc.names.lookup x=some .cell:=by decide+kernel)(g:∀y∈sc.names,y.2≠.free:=by decide+kernel):a9 N P sc:=⟨a,b,c,d,e,f,g⟩
def top(i:Nat):aL:=PySem.Challenge.pw_carriermoney_s01_answers.main.body.getD i (.Pass ⟨0,0,0,0⟩)
structure Txt(K:aC)(mg:Str->Option ab)(Z:aK):Prop where
 bZ:gh K Z.h
 ja:c5 K Z.h "carriers"
 wB:c5 K Z.h "rates"
 D7:c5 K Z.h "charges"
 mr:c5 K Z.h "tickets"
 mv:c5 K Z.h "claims"
 tM:c5 K Z.h "month"
 gv:gh K Z.c
 wC:c5 K Z.c "currency"
 wD:c5 K Z.c "suspended"
 zM:c5 K Z.c "paid"
 zN:c5 K Z.c "got"
 cY:gh K Z.p
 wF:c5 K Z.p "carrier"
 nY:c5 K Z.p "share"
 pA:c5 K Z.p "kept"
 mw:c5 K Z.p "state"
 zO:c5 K Z.p "claim"
 kZ:gh K Z.t
 zP:c5 K Z.t "issuer"
 MG:c5 K Z.t "value"
 wG:c5 K Z.t "parts"
 cD:gh K Z.k
 qE:c5 K Z.k "to"
 qF:c5 K Z.k "of"
 nZ:c5 K Z.k "amount"
 D8:c5 K Z.k "month"
 zQ:c5 K Z.k "depth"
 MH:c5 K Z.k "parent"
 tN:c5 K Z.k "rejected_by"
 tO:c5 K Z.k "settled"
 Xv:∃t,mg "MOST_CARRIERS"=some (.int (10) t)
 Xw:∃t,mg "MOST_TICKETS"=some (.int (40) t)
 MI:∃t,mg "MOST_CLAIMS"=some (.int (200) t)
 Xx:∃t,mg "MOST_DEPTH"=some (.int (3) t)
 Xy:∃t,mg "MOST_MONTHS_BACK"=some (.int (2) t)
 zR:∃t,mg "NOT_FLOWN"=some (.int (0) t)
 MJ:∃t,mg "FLOWN_BY_ISSUER"=some (.int (1) t)
 D9:∃t,mg "FLOWN_NOT_BILLED"=some (.int (2) t)
 MK:∃t,mg "FLOWN_AND_BILLED"=some (.int (3) t)
 ML:∃t,mg "REFUNDED"=some (.int (4) t)
 Xz:∃t,mg "OUT_OF_RANGE"=some (.int (-2) t)
 n9:∃t,mg "NO_CARRIER"=some (.int (-3) t)
 tP:∃t,mg "NOT_THERE"=some (.int (-4) t)
 MN:∃t,mg "THERE_ALREADY"=some (.int (-5) t)
 zS:∃t,mg "FULL"=some (.int (-6) t)
 zT:∃t,mg "NOT_AS_NEEDED"=some (.int (-7) t)
 zU:∃t,mg "NOT_FITTING"=some (.int (-8) t)
 fm:mg "len"=none
 jC:mg "sum"=none
 zV:mg "all"=none
 Ea:mg "sorted"=none
 zW:mg "min"=none
 XA:mg "max"=none
 Eb:mg "range"=none
 Ec:mg "enumerate"=none
 zX:mg "zip"=none
 XB:mg "list"=none
 XC:mg "dict"=none
open PySem PySem.Spec PyProof.Rows L2
def nameOf:Nat->Str
 |0=>"carrier"|1=>"rate"|2=>"charge"|3=>"issue"|4=>"cut"|5=>"fly"|6=>"refund"|7=>"bill"|8=>"reject"|9=>"effect"|10=>"owed"
 |11=>"nets"|12=>"plan"|13=>"suspend"|14=>"clear"|15=>"account"|16=>"books"|17=>"part"|18=>"claim"|19=>"unbilled"|20=>"month"|_=>"check"
def k5(K:aC):List aa->List (Int×Int)->Prop
 |[],[]=>True
 |b::bs,q::qs=>eX K b [.int q.1,.int q.2]/\k5 K bs qs
 |_,_=>False
theorem k5.len{K:aC}:∀{bs:List aa} {qs:List (Int×Int)},k5 K bs qs->bs.length=qs.length
 |[],[],_=>rfl
 |[],_::_,h=>ft h
 |_::_,[],h=>ft h
 |_::_,_::_,h=>congrArg (·+1) (k5.len h.2)
theorem k5.get{K:aC}:∀{bs:List aa} {qs:List (Int×Int)},k5 K bs qs->∀{j:Nat} {b:aa},bs[j]? =some b->∃q,qs[j]? =some q/\eX K b [.int q.1,.int q.2]
 |[],[],_,j,b,e=>by simp at e
 |[],_::_,h,_,_,_=>ft h
 |_::_,[],h,_,_,_=>ft h
 |b::bs,q::qs,h,0,b',e=>by simp at e;subst e;exact⟨q,rfl,h.1⟩
 |b::bs,q::qs,h,j+1,b',e=>by
  obtain⟨q',e1,e2⟩:=k5.get h.2 (j:=j) (b:=b') (by simpa using e);exact⟨q',by simpa using e1,e2⟩
structure pB(K:aC)(w:aW)(mg:Str->Option ab)(dF dR tT tK tC:aa):Prop where
 Ed:mg "FORMS"=some (.ref dF)
 MO:mg "ROWS"=some (.ref dR)
 Ee:∀p:Nat,p<=21->∃(T x:aa) (rg:List aa),KGet K w dF (nI p) (some (.ref T))/\eX K T [.str (nameOf p),.ref x]/\eX K x (rg.map V.ref)/\k5 K rg (MM.eE p)
 XD:∀p:Nat,p<=21->MM.me p=none->KGet K w dR (.str (nameOf p)) none
 MP:∀(p:Nat) (f:(Int×Int)×List (Int×Int)),p<=21->MM.me p=some f->∃(T b x:aa) (rg:List aa),KGet K w dR (.str (nameOf p)) (some (.ref T))/\eX K T [.ref b,.ref x]/\eX K b [.int f.1.1,.int f.1.2]/\eX K x (rg.map V.ref)/\k5 K rg f.2
 XE:mg "ON_TERMS"=some (.ref tT)
 XF:mg "ON_TICKETS"=some (.ref tK)
 XG:mg "ON_CLAIMS"=some (.ref tC)
 tQ:eX K tT [.str "carrier",.str "rate",.str "charge",.str "suspend"]
 tS:eX K tK [.str "issue",.str "cut",.str "fly",.str "refund",.str "part",.str "books"]
 tU:eX K tC [.str "bill",.str "reject",.str "effect",.str "owed",.str "claim",.str "unbilled"]
open PySem PySem.Spec PyProof.Rows L2
section
variable{K:aC}
theorem bX{a:aa}{xs:List V}{us:List ab}{n:Nat}{od:Option aa}{sl:Array (Option ab)}(l:K.lookup a=some ⟨.type "tuple",od,.seq ⟨us⟩ n,sl⟩)(v:Vals xs us)(h:us.length<=sizeLine:=by exact aeQ rfl):eX K a xs:=⟨_,⟨us⟩,n,l,rfl,rfl,h,v⟩
theorem cF{a:aa}{i j:Int}{t t':Tok}{n:Nat}{od:Option aa}{sl:Array (Option ab)}(l:K.lookup a=some ⟨.type "tuple",od,.seq ⟨[.int i t,.int j t']⟩ n,sl⟩):eX K a [.int i,.int j]:=
 bX l (.cons ⟨_,rfl⟩ (.cons ⟨_,rfl⟩ .nil))
theorem cR{x:Str}{t:Tok}:RelV (.str x) (Bv x t):=⟨t,rfl⟩
def FT(K:aC)(p:Nat)(T:aa):Prop:=∃(x:aa) (rg:List aa),eX K T [.str (nameOf p),.ref x]/\eX K x (rg.map V.ref)/\k5 K rg (MM.eE p)
def FL(K:aC):Nat->List iC->Prop
 |_,[]=>True
 |p,e::r=>(∃t T,e.key= .int p t/\e.hash=hashInt p/\e.val= .ref T/\FT K p T)/\FL K (p+1) r
theorem FL.keys{es:List iC}:∀{p:Nat},FL K p es->∀e∈es,∃k t,e.key= .int k t/\e.hash=hashInt k:=by
 induction es with
 |nil=>intro p h e m;cases m
 |cons a r ih=>
  intro p h e m
  rcases b0.mp m with rfl|m
  ·obtain⟨⟨t,T,h1,h2,_⟩,_⟩:=h
   exact⟨_,t,h1,h2⟩
  ·exact ih h.2 e m
theorem FL.get:∀{es:List iC} {p:Nat},FL K p es->∀i:Nat,p<=i->i<p+es.length->∃T,(es.find? fun e=>uR i e.key).map (·.val)=some (.ref T)/\FT K i T
 |[],p,_,i,h1,h2=>absurd h2 (by simp;omega)
 |e::r,p,⟨⟨t,T,k1,_,k3,k4⟩,hr⟩,i,h1,h2=>by
  rw[ke,k1];by_cases e1:p=i
  ·subst e1;refine⟨T,?_,k4⟩;simp[uR,k3]
  ·have:uR (i:Int) (jM (p:Int) t)=false:=by
    show((p:Int)==(i:Int))=false;simp;omega
   rw[this];exact hr.get i (by omega) (by simp at h2;omega)
def RT(K:aC)(f:(Int×Int)×List (Int×Int))(T:aa):Prop:=∃(b x:aa) (rg:List aa),eX K T [.ref b,.ref x]/\eX K b [.int f.1.1,.int f.1.2]/\eX K x (rg.map V.ref)/\k5 K rg f.2
theorem MQ{Key:Type}(P:Key->ab->Bool)(es:List iC)(k:Key):findBy P ⟨es⟩ k=(es.find? fun e=>P k e.key).map (·.val):=by
 unfold findBy;rw[<-ae3]
theorem XH{h1 h2 h3:Int}{t1 t2 t3:Tok}{v1 v2 v3:ab}(x:Str):
  findBy Bm ⟨[⟨h1,.str "issue" t1,v1⟩,⟨h2,.str "cut" t2,v2⟩,⟨h3,.str "check" t3,v3⟩]⟩ x=if ((("issue":Str)==x)=true) then some v1 else if ((("cut":Str)==x)=true) then some v2 else if ((("check":Str)==x)=true) then some v3 else none:=by
 rw[MQ];simp only[ke,List.find?_nil,Bm];cases (("issue":Str)==x)<;>cases (("cut":Str)==x)<;>cases (("check":Str)==x)<;>rfl
theorem XI{w:aW}{mg:Str->Option ab}{h:aB}{dF dR tT tK tC T1 T2 T3:aa}{es:List iC}{nF nR:Nat}{t1 t2 t3:Tok}(X:K.In h)(G:h.Ns mainGlobals mg)
  (a1:mQ K mainGlobals "FORMS"=some (some (.ref dF))) (a2:mQ K mainGlobals "ROWS"=some (some (.ref dR)))
  (a3:mQ K mainGlobals "ON_TERMS"=some (some (.ref tT))) (a4:mQ K mainGlobals "ON_TICKETS"=some (some (.ref tK))) (a5:mQ K mainGlobals "ON_CLAIMS"=some (some (.ref tC)))
  (lF:K.lookup dF=some ⟨.type "dict",cu,.dict ⟨es⟩ nF,#[]⟩)
  (lR:K.lookup dR=some ⟨.type "dict",cu,.dict ⟨[⟨xS w.params "issue",.str "issue" t1,.ref T1⟩,⟨xS w.params "cut",.str "cut" t2,.ref T2⟩,⟨xS w.params "check",.str "check" t3,.ref T3⟩]⟩ nR,#[]⟩)
  (tQ:eX K tT [.str "carrier",.str "rate",.str "charge",.str "suspend"]) (tS:eX K tK [.str "issue",.str "cut",.str "fly",.str "refund",.str "part",.str "books"]) (tU:eX K tC [.str "bill",.str "reject",.str "effect",.str "owed",.str "claim",.str "unbilled"])
  (sF:(dF==sysModules)=false) (sR:(dR==sysModules)=false) (hl:es.length=22) (hF:FL K 0 es)
  (r1:RT K ((1,8),[(0,675),(0,1000000),(0,1000000000)]) T1) (r2:RT K ((1,8),[(0,1000000),(0,1000000000)]) T2) (r3:RT K ((0,30),[(0,675),(0,675),(0,1000000000000000000)]) T3):pB K w mg dF dR tT tK tC:=by
 have kl:ae6 w.params [⟨xS w.params "issue",.str "issue" t1,.ref T1⟩,⟨xS w.params "cut",.str "cut" t2,.ref T2⟩,⟨xS w.params "check",.str "check" t3,.ref T3⟩]:=⟨⟨_,_,rfl,rfl⟩,⟨_,_,rfl,rfl⟩,⟨_,_,rfl,rfl⟩,trivial⟩;have kg:∀(x:Str) (r:Option V),eT r (if ((("issue":Str)==x)=true) then some (.ref T1) else if ((("cut":Str)==x)=true) then some (.ref T2) else if ((("check":Str)==x)=true) then some (.ref T3) else none)->KGet K w dR (.str x) r:=fun x r hr=>
  ⟨sR,_,nR,lR,.inr ⟨x,rfl,kl,by rw[XH];exact hr⟩⟩
 refine⟨oG X G a1,oG X G a2,fun p hp=> ?_,fun p hp hn=> ?_,fun p f hp hf=> ?_,oG X G a3,oG X G a4,oG X G a5,tQ,tS,tU⟩
 ·obtain⟨T,e,x,rg,h1,h2,h3⟩:=hF.get p (du _) (by omega);refine⟨T,x,rg,⟨sF,_,nF,lF,.inl ⟨p,rfl,hF.keys,?_⟩⟩,h1,h2,h3⟩;rw[MQ,e];rfl
 ·refine kg _ _ ?_
  match p,hp,hn with
  |0,_,_|1,_,_|2,_,_|5,_,_|6,_,_|7,_,_|8,_,_|9,_,_|10,_,_|11,_,_|12,_,_|13,_,_|14,_,_|15,_,_|16,_,_|17,_,_|18,_,_|19,_,_|20,_,_=>rw[if_neg (by decide),if_neg (by decide),if_neg (by decide)];trivial
  |3,_,hn|4,_,hn|21,_,hn=>cases hn
  |n+22,hp,_=>omega
 ·match p,hp,hf with
  |3,_,hf=>
   cases hf
   obtain⟨b,x,rg,q⟩:=r1
   exact⟨T1,b,x,rg,kg _ _ (by rw[if_pos (by decide)];rfl),q⟩
  |4,_,hf=>
   cases hf
   obtain⟨b,x,rg,q⟩:=r2
   exact⟨T2,b,x,rg,kg _ _ (by rw[if_neg (by decide),if_pos (by decide)];rfl),q⟩
  |21,_,hf=>
   cases hf
   obtain⟨b,x,rg,q⟩:=r3
   exact⟨T3,b,x,rg,kg _ _ (by rw[if_neg (by decide),if_neg (by decide),if_pos (by decide)];rfl),q⟩
  |0,_,hf|1,_,hf|2,_,hf|5,_,hf|6,_,hf|7,_,hf|8,_,hf|9,_,hf|10,_,hf|11,_,hf|12,_,hf|13,_,hf|14,_,hf|15,_,hf|16,_,hf|17,_,hf|18,_,hf|19,_,hf|20,_,hf=>cases hf
  |n+22,hp,_=>omega
end
open PySem PySem.Spec PyProof.Rows L2
open Vbahak (State Carrier Part Ticket)
variable{P:bg}{w:aW}{K:aC}{mg:Str->Option ab}{base:aB}{Z:aK}{tb:cf}{dF dR tT tK tC cA cB:aa}
abbrev Ef:aL:=inClass (top 11) 0
theorem XJ:a9 ["self","currency"] ["self","currency"] (aQ Ef):=bo
def MR(Z:aK):Sp:=fun vs H Q _=>∃(p dx:aa) (k:Nat),vs=[.ref p,nI k]/\H p=some (.ins Z.c dx [])/\∀H':Hp,bV H' p Z.c (mj ⟨0,k,false,0,0⟩)->bM p H H'->Q .bc H'
theorem XM{f:aa}{fd:aU}(F:aR K "__init__" "Carrier.__init__" Ef f fd)(T:Txt K mg Z):aN P w K mg base aT 1 f fd ["self","currency"] (MR Z):=by
 refine F.bA XJ fun aD A0 outer s0 H vs Q E hr h=> ?_
 ·obtain⟨p,dx,n,rfl,hp,k⟩:=h;refine⟨rfl,_,(aw (c7 (K:=K) (pv 0) (pv 1) rfl)
   (aw (c7 (K:=K) (pv 0) qf rfl)
   (aw (c7 (K:=K) (pv 0) ay rfl)
   (ax (c7 (K:=K) (pv 0) ay rfl))))),?_⟩
  refine⟨_,rfl,_,rfl,p,Z.c,_,_,rfl,hp,T.gv,T.wC,(by show 0<1000;decide),?_⟩;refine⟨_,rfl,p,Z.c,_,_,rfl,au,T.gv,T.wD,(by show 1<1000;decide),?_⟩;refine⟨_,rfl,p,Z.c,_,_,rfl,au,T.gv,T.zM,(by show 2<1000;decide),?_⟩;refine⟨_,rfl,p,Z.c,_,_,rfl,au,T.gv,T.zN,(by show 3<1000;decide),?_⟩;exact k _ ⟨dx,au⟩ fun b o e hb=>by rw[ag hb,ag hb,ag hb,ag hb];exact e
abbrev Eg:aL:=inClass (top 12) 0
theorem XN:a9 ["self","carrier","share"] ["self","carrier","share"] (aQ Eg):=bo
def MS(Z:aK):Sp:=fun vs H Q _=>∃(p dx:aa) (c n:Nat),vs=[.ref p,nI c,nI n]/\H p=some (.ins Z.p dx [])/\∀H':Hp,bV H' p Z.p (ic ⟨c,n,0,0,0⟩)->bM p H H'->Q .bc H'
theorem XO{f:aa}{fd:aU}(F:aR K "__init__" "Part.__init__" Eg f fd)(T:Txt K mg Z):aN P w K mg base aT 1 f fd ["self","carrier","share"] (MS Z):=by
 refine F.bA XN fun aD A0 outer s0 H vs Q E hr h=> ?_
 ·obtain⟨p,dx,c,n,rfl,hp,k⟩:=h;refine⟨rfl,_,(aw (c7 (K:=K) (pv 0) (pv 1) rfl)
   (aw (c7 (K:=K) (pv 0) (pv 2) rfl)
   (aw (c7 (K:=K) (pv 0) ay rfl)
   (aw (c7 (K:=K) (pv 0) (cq rfl T.zR) rfl)
   (ax (c7 (K:=K) (pv 0) ay rfl)))))),?_⟩
  refine⟨_,rfl,_,rfl,p,Z.p,_,_,rfl,hp,T.cY,T.wF,(by show 0<1000;decide),?_⟩;refine⟨_,rfl,_,rfl,p,Z.p,_,_,rfl,au,T.cY,T.nY,(by show 1<1000;decide),?_⟩;refine⟨_,rfl,p,Z.p,_,_,rfl,au,T.cY,T.pA,(by show 2<1000;decide),?_⟩;refine⟨_,rfl,p,Z.p,_,_,rfl,au,T.cY,T.mw,(by show 3<1000;decide),?_⟩;refine⟨_,rfl,p,Z.p,_,_,rfl,au,T.cY,T.zO,(by show 4<1000;decide),?_⟩;exact k _ ⟨dx,au⟩ fun b o e hb=>by rw[ag hb,ag hb,ag hb,ag hb,ag hb];exact e
abbrev Eh:aL:=inClass (top 13) 0
theorem XQ:a9 ["self","issuer","value","parts"] ["self","issuer","value","parts"] (aQ Eh):=bo
def MT(Z:aK):Sp:=fun vs H Q _=>∃(p dx l:aa) (c n:Nat),vs=[.ref p,nI c,nI n,.ref l]/\H p=some (.ins Z.t dx [])/\∀H':Hp,bV H' p Z.t (zr ⟨0,c,n,[]⟩ l)->bM p H H'->Q .bc H'
theorem XR{f:aa}{fd:aU}(F:aR K "__init__" "Ticket.__init__" Eh f fd)(T:Txt K mg Z):aN P w K mg base aT 1 f fd ["self","issuer","value","parts"] (MT Z):=by
 refine F.bA XQ fun aD A0 outer s0 H vs Q E hr h=> ?_
 ·obtain⟨p,dx,l,c,n,rfl,hp,k⟩:=h;refine⟨rfl,_,(aw (c7 (K:=K) (pv 0) (pv 1) rfl)
   (aw (c7 (K:=K) (pv 0) (pv 2) rfl)
   (ax (c7 (K:=K) (pv 0) (pv 3) rfl)))),?_⟩
  refine⟨_,rfl,_,rfl,p,Z.t,_,_,rfl,hp,T.kZ,T.zP,(by show 0<1000;decide),?_⟩;refine⟨_,rfl,_,rfl,p,Z.t,_,_,rfl,au,T.kZ,T.MG,(by show 1<1000;decide),?_⟩;refine⟨_,rfl,_,rfl,p,Z.t,_,_,rfl,au,T.kZ,T.wG,(by show 2<1000;decide),?_⟩;exact k _ ⟨dx,au⟩ fun b o e hb=>by rw[ag hb,ag hb,ag hb];exact e
abbrev Ei:aL:=inClass (top 14) 0
theorem XS:a9 ["self","to","of","amount","month","depth","parent"] ["self","to","of","amount","month","depth","parent"] (aQ Ei):=bo
def Ej(Z:aK):Sp:=fun vs H Q _=>∃(p dx:aa) (to of amount month depth parent:Nat),vs=[.ref p,nI to,nI of,nI amount,nI month,nI depth,nI parent]/\H p=some (.ins Z.k dx [])/\
 ∀H':Hp,bV H' p Z.k (gK ⟨0,to,of,amount,month,depth,parent,0,false⟩)->bM p H H'->Q .bc H'
theorem XT{f:aa}{fd:aU}(F:aR K "__init__" "Claim.__init__" Ei f fd)(T:Txt K mg Z):aN P w K mg base aT 1 f fd ["self","to","of","amount","month","depth","parent"] (Ej Z):=by
 refine F.bA XS fun aD A0 outer s0 H vs Q E hr h=> ?_
 ·obtain⟨p,dx,a1,a2,a3,a4,a5,a6,rfl,hp,k⟩:=h;refine⟨rfl,_,(aw (c7 (K:=K) (pv 0) (pv 1) rfl)
   (aw (c7 (K:=K) (pv 0) (pv 2) rfl)
   (aw (c7 (K:=K) (pv 0) (pv 3) rfl)
   (aw (c7 (K:=K) (pv 0) (pv 4) rfl)
   (aw (c7 (K:=K) (pv 0) (pv 5) rfl)
   (aw (c7 (K:=K) (pv 0) (pv 6) rfl)
   (aw (c7 (K:=K) (pv 0) ay rfl)
   (ax (c7 (K:=K) (pv 0) qf rfl))))))))),?_⟩
  refine⟨_,rfl,_,rfl,p,Z.k,_,_,rfl,hp,T.cD,T.qE,(by show 0<1000;decide),?_⟩;refine⟨_,rfl,_,rfl,p,Z.k,_,_,rfl,au,T.cD,T.qF,(by show 1<1000;decide),?_⟩;refine⟨_,rfl,_,rfl,p,Z.k,_,_,rfl,au,T.cD,T.nZ,(by show 2<1000;decide),?_⟩;refine⟨_,rfl,_,rfl,p,Z.k,_,_,rfl,au,T.cD,T.D8,(by show 3<1000;decide),?_⟩;refine⟨_,rfl,_,rfl,p,Z.k,_,_,rfl,au,T.cD,T.zQ,(by show 4<1000;decide),?_⟩;refine⟨_,rfl,_,rfl,p,Z.k,_,_,rfl,au,T.cD,T.MH,(by show 5<1000;decide),?_⟩;refine⟨_,rfl,p,Z.k,_,_,rfl,au,T.cD,T.tN,(by show 6<1000;decide),?_⟩;refine⟨_,rfl,p,Z.k,_,_,rfl,au,T.cD,T.tO,(by show 7<1000;decide),?_⟩;exact k _ ⟨dx,au⟩ fun b o e hb=>by rw[ag hb,ag hb,ag hb,ag hb,ag hb,ag hb,ag hb,ag hb];exact e
abbrev Ek:aL:=inClass (top 15) 0
theorem XU:a9 ["self"] ["self"] (aQ Ek):=bo
def g0:Gh:=⟨[],[],[],[],[],0⟩
def MU(Z:aK):Sp:=fun vs H Q _=>∃(p dx:aa),vs=[.ref p]/\H p=some (.ins Z.h dx [])/\∀(H':Hp) (A:Ad),A.p=p->aE Z A g0 H' Bo->(∀b o,H b=some o->b≠p->H' b=some o)->H A.lC=none->Q .bc H'
theorem XW{f:aa}{fd:aU}(F:aR K "__init__" "House.__init__" Ek f fd)(T:Txt K mg Z):aN P w K mg base aT 1 f fd ["self"] (MU Z):=by
 refine F.bA XU fun aD A0 outer s0 H vs Q E hr h=> ?_
 ·obtain⟨p,dx,rfl,hp,k⟩:=h;refine⟨rfl,_,(aw (c7 (K:=K) (pv 0) yI rfl)
   (aw (c7 (K:=K) (pv 0) yI rfl)
   (aw (c7 (K:=K) (pv 0) Tp rfl)
   (aw (c7 (K:=K) (pv 0) yI rfl)
   (aw (c7 (K:=K) (pv 0) (a7 ai) rfl)
   (ax (c7 (K:=K) (pv 0) ay rfl))))))),?_⟩
  intro dC nC;have pC:p≠dC:=aV hp nC;refine⟨_,rfl,p,Z.h,_,_,rfl,by rw[ag pC];exact hp,T.bZ,T.ja,(by show 0<1000;decide),?_⟩;intro dR nR;have pR:p≠dR:=aV au nR;have dCR:dC≠dR:=fun z=>by rw[<-z,ag pC.symm,au] at nR;cases nR
  refine⟨_,rfl,p,Z.h,_,_,rfl,by rw[ag pR];exact au,T.bZ,T.wB,(by show 1<1000;decide),?_⟩;intro dX nX;have pX:p≠dX:=aV au nX;have dCX:dC≠dX:=fun z=>by rw[<-z,ag pC.symm,ag dCR,ag pC.symm,au] at nX;cases nX
  have dRX:dR≠dX:=fun z=>by rw[<-z,ag pR.symm,au] at nX;cases nX
  refine⟨_,rfl,p,Z.h,_,_,rfl,by rw[ag pX];exact au,T.bZ,T.D7,(by show 2<1000;decide),?_⟩;intro dT nT;have pT:p≠dT:=aV au nT;have dCT:dC≠dT:=fun z=>by rw[<-z,ag pC.symm,ag dCX,ag pC.symm,ag dCR,ag pC.symm,au] at nT;cases nT
  have dRT:dR≠dT:=fun z=>by rw[<-z,ag pR.symm,ag dRX,ag pR.symm,au] at nT;cases nT
  have dXT:dX≠dT:=fun z=>by rw[<-z,ag pX.symm,au] at nT;cases nT
  refine⟨_,rfl,p,Z.h,_,_,rfl,by rw[ag pT];exact au,T.bZ,T.mr,(by show 3<1000;decide),?_⟩;refine⟨du _,fun lC nL=> ?_⟩;have pL:p≠lC:=aV au nL;have dCL:dC≠lC:=fun z=>by rw[<-z,ag pC.symm,ag dCT,ag pC.symm,ag dCX,ag pC.symm,ag dCR,ag pC.symm,au] at nL;cases nL
  have dRL:dR≠lC:=fun z=>by rw[<-z,ag pR.symm,ag dRT,ag pR.symm,ag dRX,ag pR.symm,au] at nL;cases nL
  have dXL:dX≠lC:=fun z=>by rw[<-z,ag pX.symm,ag dXT,ag pX.symm,au] at nL;cases nL
  have dTL:dT≠lC:=fun z=>by rw[<-z,ag pT.symm,au] at nL;cases nL
  refine⟨_,rfl,p,Z.h,_,_,rfl,by rw[ag pL];exact au,T.bZ,T.mv,(by show 4<1000;decide),?_⟩;refine⟨_,rfl,p,Z.h,_,_,rfl,au,T.bZ,T.tM,(by show 5<1000;decide),?_⟩;refine k _ ⟨p,dx,dC,dR,dX,dT,lC⟩ rfl ?_ ?_ ?_
  ·refine {dd:=⟨dCR,dRT.symm,dCT.symm⟩,hs:=au,hC:= ?_,cK:=Ib _,cV:=fun c x e=> ?_,cI:=fun c d a e=> ?_,hR:= ?_,rN:=fun _ _ _=>rfl,rV:=fun k r n e=> ?_,rL:=aI _,hX:= ?_,xV:=fun _ _=>rfl,xL:=aI _,hT:= ?_,tL:=rfl,tV:=fun i x g e=> ?_,tI:=fun i _ _ _ g _ _ e=> ?_,hK:= ?_,kL:=rfl,kN:=Io,kV:=fun i x a e=> ?_}
   ·show upd _ _ _ dC=_;rw[ag pC.symm,ag pC.symm,ag dCL,ag pC.symm,ag dCT,ag pC.symm,ag dCX,ag pC.symm,ag dCR,ag pC.symm,au];rfl
   ·exact nomatch (show(none:Option d8)=some x from e)
   ·exact nomatch (show(none:Option V)=some _ from e)
   ·show upd _ _ _ dR=_;rw[ag pR.symm,ag pR.symm,ag dRL,ag pR.symm,ag dRT,ag pR.symm,ag dRX,ag pR.symm,au];rfl
   ·unfold lG at e;rw[if_neg n] at e;exact nomatch (show(none:Option (Nat×Nat))=some r from e)
   ·show upd _ _ _ dX=_;rw[ag pX.symm,ag pX.symm,ag dXL,ag pX.symm,ag dXT,ag pX.symm,au];rfl
   ·show upd _ _ _ dT=_;rw[ag pT.symm,ag pT.symm,ag dTL,ag pT.symm,au];rfl
   ·have e:([]:List bI)[i]? =some x:=e;simp at e
   ·have e:([]:List Tg)[i]? =some g:=e;simp at e
   ·show upd _ _ _ lC=_;rw[ag pL.symm,ag pL.symm,au];rfl
   ·have e:([]:List dj)[i]? =some x:=e;simp at e
  ·intro b o e hb;have n1:b≠dC:=aV e nC;have e1:upd H dC (.dK []) b=some o:=by rw[ag n1];exact e
   have n2:b≠dR:=fun z=>by rw[<-z,ag hb,e1] at nR;cases nR
   have e2:=e1;have n3:b≠dX:=fun z=>by rw[<-z,ag hb,ag n2,ag hb,e1] at nX;cases nX
   have n4:b≠dT:=fun z=>by rw[<-z,ag hb,ag n3,ag hb,ag n2,ag hb,e1] at nT;cases nT
   have n5:b≠lC:=fun z=>by rw[<-z,ag hb,ag n4,ag hb,ag n3,ag hb,ag n2,ag hb,e1] at nL;cases nL
   rw[ag hb,ag hb,ag n5,ag hb,ag n4,ag hb,ag n3,ag hb,ag n2,ag hb,ag n1];exact e
  ·show H lC=none;have h:=nL;rw[ag pL.symm,ag dTL.symm,ag pL.symm,ag dXL.symm,ag pL.symm,ag dRL.symm,ag pL.symm,ag dCL.symm] at h;exact h
open PySem PySem.Spec PyProof.Rows L2
open Vbahak (State Carrier Part Ticket)
theorem cg{α β:Type}{f:α->β}{l:List α}{i:Nat}{y:β}(h:(l.map f)[i]? =some y):∃x,l[i]? =some x/\y=f x:=by
 rw[aS] at h;cases e:l[i]? with
 |none=>rw[e] at h;cases h
 |some x=>rw[e] at h;exact⟨x,rfl,(fe h).symm⟩
def vN:V->Nat
 | .int z=>z.toNat
 |_=>0
theorem MV(n:Nat):vN (nI n)=n:=by simp[vN,nI]
theorem jb{a b:Nat}(h:nI a=nI b):a=b:=by
 have:(a:Int)=(b:Int):=by injection h
 omega
theorem jD{a b:Nat}(h:¬nI a=nI b):¬a=b:=fun e=>h (by rw[e])
theorem wH{a:Nat}(h:nI a=V.int 0):a=0:=jb (b:=0) h
theorem wI{a:Nat}(h:¬nI a=V.int 0):¬a=0:=jD (b:=0) h
theorem dk{n:Nat}(h:n<=1000):n<sizeLine:=eO h
abbrev El:aL:=inClass (top 15) 1
theorem Em:a9 ["self","numbers","number"] ["self","numbers"] (aQ El):=bo
def mx(Z:aK):Sp:=fun vs H Q _=>∃(A:Ad) (G:Gh) (s:State) (l:aa) (ns:List Nat),vs=[.ref A.p,.ref l]/\aE Z A G H s/\H l=some (.lst (ns.map nI))/\ns.length<=1000/\
 ∀H':Hp,af H H'->Q (.bl (ns.all fun c=>bq s c)) H'
theorem XX{f:aa}{fd:aU}(F:aR K "has_carriers" "House.has_carriers" El f fd)(T:Txt K mg Z):aN P w K mg base aT 1 f fd ["self","numbers"] (mx Z):=by
 refine F.bA Em fun aD A0 outer s0 H vs Q E hr h=> ?_
 ·obtain⟨A,G,s,l,ns,rfl,hh,hl,hn,k⟩:=h;have hu:=fk hr;refine⟨rfl,_,(ax (aF (cC (zq (K:=K) rfl) (by rfl) T.zV zL (ae (eW (own:=[("number",2)]) rfl Em.nd (dh (K:=K) (pv 1)) (dD rfl) (fun _ _ _ _ _=>by exact(bU (i:=2) Em.nd rfl (.inl rfl))) (fun _ _ _ _ _=>by exact iJ) (fun _ _ _ _ _=>by exact(IQ (Cq hu (pv 2) (aJ (K:=K) (pv 0) rfl))))) ai)))),?_⟩;refine⟨_,rfl,l,rfl,⟨_,ah.of hl⟩,fun D hD=>Vv (fun v=>some (.bl (bq s (vN v)))) hD (ah.of hl) (by rw[ao];exact dk hn) (fun i H2 x R R0 hx s2 h1 h2=> ?_) (fun H2 s2 hd=> ?_)⟩
  ·obtain⟨c,hc,rfl⟩:=cg hx;refine⟨rfl,iP ?_⟩;refine⟨_,rfl,_,rfl,_,⟨A.p,Z.h,_,_,rfl,s2 _ _ hh.hs,T.bZ,T.ja,rfl⟩,A.dC,_,rfl,bj.k (k:=kI c) (s2 _ _ hh.hC),?_⟩;rw[hh.LW c];exact h1 _ _ (by rw[MV]) (af.refl _)
  ·have e:(ns.map nI).filterMap (fun v=>some (V.bl (bq s (vN v))))=(ns.map fun c=>bq s c).map V.bl:=by
    rw[pN,bw,<-Hx];exact congrArg (fun q=>List.filterMap q ns) (funext fun c=>by simp only[lE,MV])
   rw[e] at hd;refine⟨D,_,rfl,ah.of hd,?_⟩;have:=k H2 s2;rw[rA];exact this
abbrev En:aL:=inClass (top 15) 2
theorem XY:a9 ["self","t","i"] ["self","t","i"] (aQ En):=bo
def oa(s:State)(t i:Nat):Option (bI×bT):=match uI s t with
 |none=>none
 |some x=>(x.parts[i]?).map fun p=>(x,p)
def zY(Z:aK):Sp:=fun vs H Q _=>∃(A:Ad) (G:Gh) (s:State) (t i:Nat),vs=[.ref A.p,nI t,nI i]/\aE Z A G H s/\MM.Good s/\(oa s t i=none->Q .bc H)/\
 ∀(k:Nat) (x:bI) (g:Tg) (p:bT) (b:aa),oa s t i=some (x,p)->s.tickets[k]? =some x->x.t=t->G.tg[k]? =some g->x.parts[i]? =some p->g.ps[i]? =some b->bV H b Z.p (ic p)->Q (.ref b) H
theorem XZ{f:aa}{fd:aU}(F:aR K "part_or_none" "House.part_or_none" En f fd)(T:Txt K mg Z):aN P w K mg base aT 1 f fd ["self","t","i"] (zY Z):=by
 refine F.bA XY fun aD A0 outer s0 H vs Q E hr h=> ?_
 ·obtain⟨A,G,s,t,i,rfl,hh,hg,k0,k1⟩:=h;have hu:=fk hr;refine⟨rfl,_,(aw (bG (PW.pt (va (yh (J6 hu (pv 1) (aJ (K:=K) (pv 0) rfl))) (u7 (bb vk (pv 2) (cC (fT (K:=K)) (by rfl) T.fm fE (ae (aJ (K:=K) (fR hu (aJ (K:=K) (pv 0) rfl) (pv 1) (fun _ _=>rfl)) rfl) ai)) (aZ _)))))
   (ax (aF mX))
   bJ)
   (ax (aF (bK (cy (K:=K)) (aJ (K:=K) (fR hu (aJ (K:=K) (pv 0) rfl) (pv 1) (fun _ _=>rfl)) rfl) (pv 2) (fun _ _=>rfl))))),?_⟩
  refine⟨_,rfl,_,rfl,_,⟨A.p,Z.h,_,_,rfl,hh.hs,T.bZ,T.mr,rfl⟩,A.dT,_,rfl,bj.k (k:=kI t) hh.hT,_,rfl,?_⟩;cases e:uI s t with
  |none=>
   rw[zu (LZ e)]
   refine a8 (a8 ?_)
   exact k0 (by unfold oa;rw[e])
  |some x=>
   obtain⟨j,hj,rfl⟩:=LY e
   obtain⟨g,qC⟩:=kQ hh.tL hj
   have hv:=zt hg.gZ hj qC
   have tk:=hh.tV j x g hj qC
   obtain⟨dx,ha⟩:=tk.o
   rw[hv]
   refine ba (A:=_) ?_
   have hd:bj H A.dT (nI x.t) (some (.ref g.a)):=by rw[<-hv];exact bj.k (k:=kI x.t) hh.hT
   refine⟨_,rfl,_,rfl,_,⟨A.p,Z.h,_,_,rfl,hh.hs,T.bZ,T.mr,rfl⟩,_,rfl,A.dT,_,rfl,hd,_,⟨g.a,Z.t,_,_,rfl,ha,T.kZ,T.wG,rfl⟩,g.l,_,rfl,.inl (ah.of tk.l),_,_,rfl,rfl,_,rfl,?_⟩
   rw[ao,tk.len]
   refine dG (fun h=> ?_) (fun h=> ?_)
   ·have h:(x.parts.length:Int)<=(i:Int):=by simpa using h
    exact k0 (by unfold oa;rw[e];simp only;rw[jG (by omega)];rfl)
   ·have h:¬(x.parts.length:Int)<=(i:Int):=by simpa using h
    have hi:i<x.parts.length:=by omega
    obtain⟨p,hp⟩:∃p,x.parts[i]? =some p:=⟨_,cE hi⟩
    obtain⟨b,hb⟩:=kQ tk.len hp
    refine⟨_,rfl,_,⟨A.p,Z.h,_,_,rfl,hh.hs,T.bZ,T.mr,rfl⟩,_,rfl,A.dT,_,rfl,hd,_,⟨g.a,Z.t,_,_,rfl,ha,T.kZ,T.wG,rfl⟩,_,rfl,g.l,_,_,_,rfl,rfl,ah.of tk.l,bL (by rw[aS,hb];rfl),?_⟩
    exact k1 j x g p b (by unfold oa;rw[e];simp only;rw[hp];rfl) hj rfl qC hp hb (tk.p i p b hp hb)
abbrev Eo:aL:=inClass (top 15) 3
theorem X0:a9 ["self","number"] ["self","number"] (aQ Eo):=bo
def zZ(Z:aK):Sp:=fun vs H Q _=>∃(A:Ad) (G:Gh) (s:State) (n:Nat),vs=[.ref A.p,nI n]/\aE Z A G H s/\(n=0\/s.claims.length<n->Q .bc H)/\
 ∀(x:dj) (a:aa),1<=n->s.claims[n-1]? =some x->G.cl[n-1]? =some a->bV H a Z.k (gK x)->Q (.ref a) H
theorem X1{f:aa}{fd:aU}(F:aR K "claim_or_none" "House.claim_or_none" Eo f fd)(T:Txt K mg Z):aN P w K mg base aT 1 f fd ["self","number"] (zZ Z):=by
 refine F.bA X0 fun aD A0 outer s0 H vs Q E hr h=> ?_
 ·obtain⟨A,G,s,n,rfl,hh,k0,k1⟩:=h;refine⟨rfl,_,(aw (bG (PW.pt (va (bb rR (pv 1) ay (aZ _)) (u7 (bb vj (pv 1) (cC (fT (K:=K)) (by rfl) T.fm fE (ae (aJ (K:=K) (pv 0) rfl) ai)) (aZ _)))))
   (ax (aF mX))
   bJ)
   (ax (aF (bK (cy (K:=K)) (aJ (K:=K) (pv 0) rfl) (cp kF (pv 1) ay) (fun _ _=>rfl))))),?_⟩
  refine⟨_,rfl,_,_,rfl,rfl,_,rfl,?_⟩;refine dG (fun h=> ?_) (fun h=> ?_)
  ·refine a8 ?_;have h:(n:Int)<1:=by simpa using h
   exact k0 (.inl (by omega))
  ·have h:¬(n:Int)<1:=by simpa using h
   refine⟨_,rfl,_,rfl,_,⟨A.p,Z.h,_,_,rfl,hh.hs,T.bZ,T.mv,rfl⟩,A.lC,_,rfl,.inl (ah.of hh.hK),_,_,rfl,rfl,_,rfl,?_⟩;rw[ao,hh.kL];refine dG (fun h2=> ?_) (fun h2=> ?_)
   ·have h2:(s.claims.length:Int)<(n:Int):=by simpa using h2
    exact k0 (.inr (by omega))
   ·have h2:¬(s.claims.length:Int)<(n:Int):=by simpa using h2
    have hi:n-1<s.claims.length:=by omega
    obtain⟨x,hx⟩:∃x,s.claims[n-1]? =some x:=⟨_,cE hi⟩;obtain⟨a,ha⟩:=kQ hh.kL hx;refine⟨_,rfl,_,⟨A.p,Z.h,_,_,rfl,hh.hs,T.bZ,T.mv,rfl⟩,_,rfl,_,_,rfl,rfl,A.lC,_,_,_,rfl,rfl,ah.of hh.hK,at_of (j:=n-1) (by omega) (by rw[aS,ha];rfl),?_⟩;exact k1 x a (by omega) hx ha (hh.kV _ x a hx ha)
abbrev Ep:aL:=inClass (top 15) 4
theorem X2:a9 ["self","claim"] ["self","claim"] (aQ Ep):=bo
def Er(Z:aK):Sp:=fun vs H Q _=>∃(A:Ad) (G:Gh) (s:State) (x:dj) (a:aa),vs=[.ref A.p,.ref a]/\aE Z A G H s/\bV H a Z.k (gK x)/\a∉G.cl/\s.claims.length<=999/\
 ∀H':Hp,aE Z A {G with cl:=G.cl++[a]} H' {s with claims:=s.claims++[x]}->bM A.lC H H'->Q (nI (s.claims.length+1)) H'
theorem X3{f:aa}{fd:aU}(F:aR K "add_claim" "House.add_claim" Ep f fd)(T:Txt K mg Z):aN P w K mg base aT 1 f fd ["self","claim"] (Er Z):=by
 refine F.bA X2 fun aD A0 outer s0 H vs Q E hr h=> ?_
 ·obtain⟨A,G,s,x,a,rfl,hh,ha,hn,hz,k⟩:=h;refine⟨rfl,_,(aw (iX (jn ka xw xu rX (aJ (K:=K) (pv 0) rfl) (ae (pv 1) ai)))
   (ax (aF (cC (fT (K:=K)) (by rfl) T.fm fE (ae (aJ (K:=K) (pv 0) rfl) ai))))),?_⟩
  refine⟨_,rfl,_,⟨A.p,Z.h,_,_,rfl,hh.hs,T.bZ,T.mv,rfl⟩,.inl ⟨rfl,_,ah.of hh.hK⟩,_,rfl,A.lC,_,_,rfl,rfl,hh.hK,(by rw[ao,hh.kL];exact eO (by omega)),?_⟩;have nl:A.p≠A.lC:=cv hh.hs hh.hK (fun z=>nomatch z);refine⟨_,rfl,_,⟨A.p,Z.h,_,_,rfl,by rw[ag nl];exact hh.hs,T.bZ,T.mv,rfl⟩,A.lC,_,rfl,.inl (ah.of au),?_⟩;have e:((G.cl.map V.ref++[V.ref a]).length:Int)=((s.claims.length+1:Nat):Int):=by
   rw[dJ,ao,hh.kL];rfl
  rw[e];exact k _ (hh.VX ha hn bM.upd (by rw[au,cZ];rfl)) bM.upd
open PySem PySem.Spec PyProof.Rows L2
open Vbahak (State Carrier Part Ticket)
abbrev GM(P:bg)(w:aW)(K:aC)(mg:Str->Option ab)(base:aB)(Z:aK)(m:Str)(ps:List Str)(sp:Sp):Prop:=qy P w K mg base Z.h m 1 ps sp
abbrev Es:aL:=top 69
theorem X4:a9 ["house","c","currency"] ["house","c","currency"] (aQ Es):=bo
def Et(tb:cf)(Z:aK):Sp:=fun vs H Q _=>∃(A:Ad) (G:Gh) (s:State) (c k:Nat),vs=[.ref A.p,nI c,nI k]/\aE Z A G H s/\c8 tb Z A G H (bE s (.carrier c k)) Q
theorem X5{f:aa}{fd:aU}(F:aR K "add_carrier" "add_carrier" Es f fd)(T:Txt K mg Z)(X6:i7 P w K mg base "Carrier" Z.c 1 ["self","currency"] (MR Z)):aN P w K mg base aT 3 f fd ["house","c","currency"] (Et tb Z):=by
 refine F.bA X4 fun aD A0 outer s0 H vs Q E hr h=> ?_
 ·obtain⟨A,G,s,c,n,rfl,hh,k⟩:=h;have hu:=fk hr;refine⟨rfl,_,(aw (bG (yh (Cq hu (pv 1) (aJ (K:=K) (pv 0) rfl)))
   (ax (aF (a7 (ae (cq rfl T.MN) ai))))
   bJ)
   (aw (bG (bb vk (cC Kj (by rfl) T.fm fE (ae (aJ (K:=K) (pv 0) rfl) ai)) (cq rfl T.Xv) (aZ _))
   (ax (aF (a7 (ae (cq rfl T.zS) ai))))
   bJ)
   (aw (vG hu (aJ (K:=K) (pv 0) rfl) (pv 1) (vY X6 hr (by decide) rfl (ae (pv 2) ai)) rfl)
   (ax (aF (a7 (ae ay ai))))))),?_⟩
  refine⟨_,rfl,_,rfl,_,⟨A.p,Z.h,_,_,rfl,hh.hs,T.bZ,T.ja,rfl⟩,A.dC,_,rfl,bj.k (k:=kI c) hh.hC,_,rfl,?_⟩;rw[hh.LW c];simp only[bE] at k;refine dG (fun h1=> ?_) (fun h1=> ?_)
  ·rw[if_pos h1] at k;exact⟨by show 1<=sizeLine;decide,fun l hl=>k.out hh (af.refl _) hl⟩
  ·rw[if_neg h1] at k;refine⟨_,rfl,_,⟨A.p,Z.h,_,_,rfl,hh.hs,T.bZ,T.ja,rfl⟩,A.dC,_,rfl,hh.hC,_,_,rfl,rfl,_,rfl,?_⟩;rw[hh.Dr];refine dG (fun h2=> ?_) (fun h2=> ?_)
   ·have h2:(10:Int)<=(s.carriers.length:Int):=by simpa using h2
    rw[if_pos (show Hy<=s.carriers.length by unfold Hy;omega)] at k;exact⟨by show 1<=sizeLine;decide,fun l hl=>k.out hh (af.refl _) hl⟩
   ·have h2:¬(10:Int)<=(s.carriers.length:Int):=by simpa using h2
    rw[if_neg (show ¬Hy<=s.carriers.length by unfold Hy;omega)] at k;refine⟨_,rfl,fun x dx nx nd ne=> ?_⟩;refine⟨x,dx,n,rfl,au,fun H1 ho kp=>⟨rfl,?_⟩⟩;have s1:af H H1:=af.made nx nd kp;have h1':=hh.kp (Kp.of s1);refine⟨_,rfl,_,⟨A.p,Z.h,_,_,rfl,h1'.hs,T.bZ,T.ja,rfl⟩,_,rfl,A.dC,_,rfl,gj.k (k:=kI c) h1'.hC (by rw[hh.Dr];exact eO (by omega)),?_⟩;refine⟨by show 1<=sizeLine;decide,fun l hl=> ?_⟩;have kn:bq s c=false:=by simpa using h1
    have fr:∀d,bW G.ca (kI d)≠some (.ref x):=fun d e=>by
     cases q:bq s d with
     |false=>rw[hh.Dq q] at e;cases e
     |true=>
      obtain⟨y,a,_,g1,dy,g2⟩:=hh.pq q
      rw[g1] at e
      cases e
      rw[g2] at nx
      cases nx
    have put:=h1'.V1 (x:=⟨c,n,false,0,0⟩) kn ho fr bM.upd au;exact k.put hh put (iz _) ((cP.of s1).trans (bM.upd.fr h1'.hC rfl)) hl
abbrev Eu:aL:=top 70
theorem X7:a9 ["house","currency","num","den"] ["house","currency","num","den"] (aQ Eu):=bo
def Ew(tb:cf)(Z:aK):Sp:=fun vs H Q _=>∃(A:Ad) (G:Gh) (s:State) (c num den:Nat),vs=[.ref A.p,nI c,nI num,nI den]/\aE Z A G H s/\c≠0/\G.n<=999/\c8 tb Z A G H (bE s (.rate c num den)) Q
theorem X8{f:aa}{fd:aU}(F:aR K "set_rate" "set_rate" Eu f fd)(T:Txt K mg Z):aN P w K mg base aT 1 f fd ["house","currency","num","den"] (Ew tb Z):=by
 refine F.bA X7 fun aD A0 outer s0 H vs Q E hr h=> ?_
 ·obtain⟨A,G,s,c,num,den,rfl,hh,hc,hn,k⟩:=h;have hu:=fk hr;refine⟨rfl,_,(aw (vG hu (aJ (K:=K) (pv 0) rfl) (pv 1) (oU (ae (pv 2) (ae (pv 3) ai))) rfl)
   (ax (aF (a7 (ae ay ai))))),?_⟩
  refine⟨_,rfl,_,rfl,by show 2<=sizeLine;decide,fun t ht=> ?_⟩;have s1:af H (upd H t (.tup [nI num,nI den])):=af.new ht;have h1:=hh.kp (Kp.of s1);refine⟨_,rfl,_,⟨A.p,Z.h,_,_,rfl,h1.hs,T.bZ,T.wB,rfl⟩,_,rfl,A.dR,_,rfl,gj.k (k:=kI c) h1.hR (eO (dr hh.rL (by omega))),?_⟩;refine⟨by show 1<=sizeLine;decide,fun l hl=> ?_⟩;exact k.put hh (h1.VZ hc au bM.upd au) (aI _) ((cP.of s1).trans (bM.upd.fr h1.hR rfl)) hl
abbrev Ex:aL:=top 71
theorem X9:a9 ["house","a","b","bp"] ["house","a","b","bp"] (aQ Ex):=bo
def Ey(tb:cf)(Z:aK):Sp:=fun vs H Q _=>∃(A:Ad) (G:Gh) (s:State) (a b bp:Nat),vs=[.ref A.p,nI a,nI b,nI bp]/\aE Z A G H s/\G.n<=999/\c8 tb Z A G H (bE s (.charge a b bp)) Q
theorem Ya{f:aa}{fd:aU}(F:aR K "set_charge" "set_charge" Ex f fd)(T:Txt K mg Z)(gL:GM P w K mg base Z "has_carriers" ["self","numbers"] (mx Z)):aN P w K mg base aT 2 f fd ["house","a","b","bp"] (Ey tb Z):=by
 refine F.bA X9 fun aD A0 outer s0 H vs Q E hr h=> ?_
 ·obtain⟨A,G,s,a,b,bp,rfl,hh,hn,k⟩:=h;have hu:=fk hr;refine⟨rfl,_,(aw (bG (iE (fh (gr (pv 0) gL hr (by decide) (ae (a7 (ae (pv 1) (ae (pv 2) ai))) ai))))
   (ax (aF (a7 (ae (cq rfl T.n9) ai))))
   bJ)
   (aw (bG (bb cQ (pv 1) (pv 2) (aZ _))
   (ax (aF (a7 (ae (cq rfl T.zU) ai))))
   bJ)
   (aw (vG hu (aJ (K:=K) (pv 0) rfl) (oU (ae (pv 1) (ae (pv 2) ai))) (pv 3) rfl)
   (ax (aF (a7 (ae ay ai))))))),?_⟩
  refine⟨_,rfl,A.p,_,_,rfl,hh.hs,rfl,_,rfl,_,rfl,by show 2<=sizeLine;decide,fun l hl=> ?_⟩;have s1:af H (upd H l (.lst [nI a,nI b])):=af.new hl;have h1:=hh.kp (Kp.of s1);refine⟨A,G,s,l,[a,b],rfl,h1,au,(by show 2<=1000;decide),fun H2 s2=> ?_⟩;have cn:=s1.trans s2;have h2:=hh.kp (Kp.of cn);refine⟨_,rfl,?_⟩;simp only[bE] at k;have e:([a,b].all fun c=>bq s c)=(bq s a&&bq s b):=by simp
  rw[e];cases q:(bq s a&&bq s b) with
  |false=>
   rw[if_pos q] at k
   refine a8 ⟨by show 1<=sizeLine;decide,fun l hl=>k.out hh cn hl⟩
  |true=>
   rw[if_neg (by rw[q];simp)] at k
   refine ba ?_
   refine⟨_,rfl,_,rfl,rfl,_,rfl,?_⟩
   refine dG (fun h=> ?_) (fun h=> ?_)
   ·have h:a=b:=jb (by simpa using h)
    rw[if_pos h] at k
    exact⟨by show 1<=sizeLine;decide,fun l hl=>k.out hh cn hl⟩
   ·have h:¬a=b:=jD (by simpa using h)
    rw[if_neg h] at k
    refine⟨_,rfl,_,rfl,_,⟨A.p,Z.h,_,_,rfl,h2.hs,T.bZ,T.D7,rfl⟩,_,rfl,_,rfl,by show 2<=sizeLine;decide,fun t ht=> ?_⟩
    have s3:af H2 (upd H2 t (.tup [nI a,nI b])):=af.new ht
    have h3:=h2.kp (Kp.of s3)
    refine⟨A.dX,_,rfl,gj.t (k:=[kI a,kI b]) h3.hX au (eO (dr hh.xL (by omega))),?_⟩
    refine⟨by show 1<=sizeLine;decide,fun l hl=> ?_⟩
    exact k.put hh (h3.V0 bM.upd au) (aI _) ((cP.of (cn.trans s3)).trans (bM.upd.fr h3.hX rfl)) hl
abbrev Ez:aL:=top 72
theorem MW:a9 ["house","c","flag","carrier"] ["house","c","flag"] (aQ Ez):=bo
def EA(tb:cf)(Z:aK):Sp:=fun vs H Q _=>∃(A:Ad) (G:Gh) (s:State) (c fl:Nat),vs=[.ref A.p,nI c,nI fl]/\aE Z A G H s/\c8 tb Z A G H (bE s (.suspend c fl)) Q
theorem Yb{f:aa}{fd:aU}(F:aR K "suspend" "suspend" Ez f fd)(T:Txt K mg Z)(gL:GM P w K mg base Z "has_carriers" ["self","numbers"] (mx Z)):aN P w K mg base aT 2 f fd ["house","c","flag"] (EA tb Z):=by
 refine F.bA MW fun aD A0 outer s0 H vs Q E hr h=> ?_
 ·obtain⟨A,G,s,c,fl,rfl,hh,k⟩:=h;have hu:=fk hr;refine⟨rfl,_,(aw (bG (iE (fh (gr (pv 0) gL hr (by decide) (ae (a7 (ae (pv 1) ai)) ai))))
   (ax (aF (a7 (ae (cq rfl T.n9) ai))))
   bJ)
   (aw (aP (i:=3) MW.nd rfl (.inl rfl) (fR hu (aJ (K:=K) (pv 0) rfl) (pv 1) (fun _ _=>rfl)))
   (aw (c7 (K:=K) (pv 3) (qh cQ (pv 2) ay (aZ _)) rfl)
   (ax (aF (a7 (ae ay ai))))))),?_⟩
  refine⟨_,rfl,A.p,_,_,rfl,hh.hs,rfl,_,rfl,by show 1<=sizeLine;decide,fun l hl=> ?_⟩;have s1:af H (upd H l (.lst [nI c])):=af.new hl;have h1:=hh.kp (Kp.of s1);refine⟨A,G,s,l,[c],rfl,h1,au,(by show 1<=1000;decide),fun H2 s2=> ?_⟩;have cn:=s1.trans s2;have h2:=hh.kp (Kp.of cn);refine⟨_,rfl,?_⟩;simp only[bE] at k;have e:([c].all fun c=>bq s c)=bq s c:=by simp
  rw[e];cases q:bq s c with
  |false=>
   rw[if_pos q] at k
   refine a8 ⟨by show 1<=sizeLine;decide,fun l hl=>k.out hh cn hl⟩
  |true=>
   rw[if_neg (by rw[q];simp)] at k
   refine ba ?_
   obtain⟨x,a,hx,hv,dx,ha⟩:=h2.pq q
   have hd:bj H2 A.dC (nI c) (some (.ref a)):=by rw[<-hv];exact bj.k (k:=kI c) h2.hC
   refine⟨_,rfl,_,⟨A.p,Z.h,_,_,rfl,h2.hs,T.bZ,T.ja,rfl⟩,_,rfl,A.dC,_,rfl,hd,?_⟩
   refine⟨_,rfl,rfl,_,rfl,a,Z.c,_,_,rfl,ha,T.gv,T.wD,(by show 4<1000;decide),?_⟩
   refine⟨by show 1<=sizeLine;decide,fun l hl=> ?_⟩
   have e1:decide (nI fl=V.int 1)=(fl==1):=by
    by_cases z:fl=1
    ·subst z;rfl
    ·have:¬(nI fl=V.int 1):=by simp[nI];omega
     simp[this,z]
   have Yc:=h2.Ds (f:=fun y=>{y with suspended:=fl==1}) (fun _=>rfl) hx hv bM.upd (b:=a) (H':=upd H2 a (.ins Z.c dx (cX "suspended" (.bl (decide (nI fl=V.int 1))) (mj x)))) ⟨dx,by rw[au,e1];rfl⟩
   exact k.put hh Yc (iz _) ((cP.of cn).trans (bM.upd.fr ha rfl)) hl
open PySem PySem.Spec PyProof.Rows L2
open Vbahak (State Carrier Part Ticket)
theorem Yd{s:State}(g:MM.Good s){k:Nat}{r:Nat×Nat}(hk:k≠0)(h:lG s k=some r):1<=r.1/\r.1<=1000000/\1<=r.2/\r.2<=1000000:=by
 unfold lG at h;rw[if_neg hk] at h;obtain⟨z,hz,rfl⟩:=oy.mp h;exact g.rate z (AX hz)
theorem Ye(x:Nat):gz x 1 1=x:=by unfold gz;omega
theorem Yf{s:State}(g:MM.Good s){n:Nat}{x:dj}(f:dj->dj)(hn:1<=n)(h:s.claims[n-1]? =some x):s.claims.set (n-1) (f x)=s.claims.map fun y=>if y.id=n then f y else y:=by
 apply oA;intro i;rw[aS];by_cases e:i=n-1
 ·subst e;rw[lz (cJ.mp h).1,h];have:=g.ids _ x h;rw[iu,if_pos (by omega)]
 ·rw[lB (d7 e)];cases q:s.claims[i]? with
  |none=>rfl
  |some y=>
   have:=g.ids i y q
   rw[iu,if_neg (by omega)]
theorem bM.MX{A:Ad}{H H':Hp}(k:bM A.lC H H'):cP A H H':=fun b o e _ n=>k b o e n
abbrev EB:aL:=top 24
theorem z0:a9 ["house","currency","amount","rate","num","den"] ["house","currency","amount"] (aQ EB):=bo
def MY(Z:aK):Sp:=fun vs H Q _=>∃(A:Ad) (G:Gh) (s:State) (k x:Nat) (r:Nat×Nat),vs=[.ref A.p,nI k,nI x]/\aE Z A G H s/\(k≠0->r.1<=1000000/\1<=r.2/\r.2<=1000000)/\lG s k=some r/\Q (nI (gz x r.1 r.2)) H
theorem Yg{f:aa}{fd:aU}(F:aR K "in_clearing" "in_clearing" EB f fd)(T:Txt K mg Z):aN P w K mg base aT 1 f fd ["house","currency","amount"] (MY Z):=by
 refine F.bA z0 fun aD A0 outer s0 H vs Q E hr h=> ?_
 ·obtain⟨A,G,s,k,x,r,rfl,hh,g,z3,q⟩:=h;have hu:=fk hr;refine⟨rfl,_,(aw (bG (bb cQ (pv 1) ay (aZ _))
   (ax (aF (pv 2)))
   bJ)
   (aw (aP (i:=3) z0.nd rfl (.inl rfl) (fR hu (aJ (K:=K) (pv 0) rfl) (pv 1) (fun _ _=>rfl)))
   (aw (aP (i:=4) z0.nd rfl (.inl rfl) (bK (i8 (K:=K)) (pv 3) ay (fun _ _=>rfl)))
   (aw (aP (i:=5) z0.nd rfl (.inl rfl) (bK (i8 (K:=K)) (pv 3) ay (fun _ _=>rfl)))
   (ax (aF (cp zo (cp jR (cp qg (cp qg ay (pv 2)) (pv 4)) (pv 5)) (cp qg ay (pv 5))))))))),?_⟩
  refine⟨_,rfl,rfl,_,rfl,?_⟩;refine dG (fun h=> ?_) (fun h=> ?_)
  ·have h:k=0:=wH (by simpa using h);subst h;have e:r=(1,1):=(fe z3).symm;subst e;rw[Ye] at q;exact⟨_,rfl,q⟩
  ·have h:¬k=0:=wI (by simpa using h);obtain⟨t,hv,ht⟩:=hh.rV k r h z3;obtain⟨b2,b3,b4⟩:=g h;have hd:bj H A.dR (nI k) (some (.ref t)):=by rw[<-hv];exact bj.k (k:=kI k) hh.hR
   refine⟨_,rfl,_,⟨A.p,Z.h,_,_,rfl,hh.hs,T.bZ,T.wB,rfl⟩,_,rfl,A.dR,_,rfl,hd,?_⟩;refine⟨_,rfl,t,_,_,_,rfl,rfl,cH.of ht,bL (j:=0) rfl,?_⟩;refine⟨_,rfl,t,_,_,_,rfl,rfl,cH.of ht,bL (j:=1) rfl,?_⟩;refine⟨_,rfl,_,_,rfl,rfl,.inl ⟨by decide,by decide⟩,_,rfl,_,_,rfl,rfl,.inr ⟨?_,?_⟩,_,rfl,_,_,rfl,rfl,_,rfl,_,_,rfl,rfl,.inl ⟨by decide,by decide⟩,_,_,rfl,rfl,⟨?_,?_⟩,?_⟩
   ·show-(2^64)<((r.1:Nat):Int);omega
   ·show((r.1:Nat):Int)<2^64;omega
   ·show 0<(2:Int)*((r.2:Nat):Int);omega
   ·show(2:Int)*((r.2:Nat):Int)<1152921504606846976;omega
   ·have e:((2:Int)*(x:Int)*(r.1:Int)+(r.2:Int))/(2*(r.2:Int))=((gz x r.1 r.2:Nat):Int):=by
     unfold gz;rw[Ic];simp
    show Q (V.int (((2:Int)*(x:Int)*(r.1:Int)+(r.2:Int))/(2*(r.2:Int)))) H;rw[e];exact q
abbrev EC:aL:=top 28
theorem Yh:a9 ["house","claim"] ["house","claim"] (aQ EC):=bo
def MZ(Z:aK):Sp:=fun vs H Q _=>∃(A:Ad) (G:Gh) (s:State) (x:dj) (a:aa),vs=[.ref A.p,.ref a]/\aE Z A G H s/\bV H a Z.k (gK x)/\
 ∀b:Bool,(b=false↔(x.next≠0\/PJ<=x.depth\/x.month+P7<s.month))->Q (.bl b) H
theorem Yi{f:aa}{fd:aU}(F:aR K "may_be_rejected" "may_be_rejected" EC f fd)(T:Txt K mg Z):aN P w K mg base aT 1 f fd ["house","claim"] (MZ Z):=by
 refine F.bA Yh fun aD A0 outer s0 H vs Q E hr h=> ?_
 ·obtain⟨A,G,s,x,a,rfl,hh,⟨dx,ha⟩,k⟩:=h;refine⟨rfl,_,(aw (bG (PW.pt (va (bb lW (aJ (K:=K) (pv 1) rfl) ay (aZ _)) (u7 (bb vk (aJ (K:=K) (pv 1) rfl) (cq rfl T.Xx) (aZ _)))))
   (ax (aF qf))
   bJ)
   (ax (aF (qh BU (cp kF (aJ (K:=K) (pv 0) rfl) (aJ (K:=K) (pv 1) rfl)) (cq rfl T.Xy) (aZ _))))),?_⟩
  refine⟨_,rfl,_,⟨a,Z.k,_,_,rfl,ha,T.cD,T.tN,rfl⟩,rfl,_,rfl,?_⟩;refine dG (fun h=> ?_) (fun h=> ?_)
  ·have h:¬x.next=0:=wI (by simpa using h);exact a8 (k false ⟨fun _=> .inl h,fun _=>rfl⟩)
  ·have h:x.next=0:=wH (by simpa using h);refine⟨_,rfl,_,⟨a,Z.k,_,_,rfl,ha,T.cD,T.zQ,rfl⟩,_,_,rfl,rfl,_,rfl,?_⟩;refine dG (fun h2=> ?_) (fun h2=> ?_)
   ·have h2:(3:Int)<=(x.depth:Int):=by simpa using h2
    exact k false ⟨fun _=> .inr (.inl (by unfold PJ;omega)),fun _=>rfl⟩
   ·have h2:¬(3:Int)<=(x.depth:Int):=by simpa using h2
    refine⟨_,rfl,_,⟨A.p,Z.h,_,_,rfl,hh.hs,T.bZ,T.tM,rfl⟩,_,rfl,_,⟨a,Z.k,_,_,rfl,ha,T.cD,T.D8,rfl⟩,_,_,rfl,rfl,_,_,rfl,rfl,k _ ⟨fun e=> ?_,fun e=> ?_⟩⟩
    ·have e:¬((s.month:Int)-(x.month:Int)<=2):=by simpa using e
     exact .inr (.inr (by unfold P7;omega))
    ·show decide ((s.month:Int)-(x.month:Int)<=2)=false;rcases e with e|e|e
     ·exact absurd h e
     ·unfold PJ at e;omega
     ·unfold P7 at e;exact decide_eq_false (by omega)
abbrev ED:aL:=top 29
theorem EE:a9 ["house","number","r","claim","rejection"] ["house","number","r"] (aQ ED):=bo
def EF(tb:cf)(Z:aK):Sp:=fun vs H Q _=>∃(A:Ad) (G:Gh) (s:State) (n r:Nat),vs=[.ref A.p,nI n,nI r]/\aE Z A G H s/\MM.Good s/\1<=n/\c8 tb Z A G H (bE s (.reject n r)) Q
theorem Yj{f:aa}{fd:aU}(F:aR K "reject" "reject" ED f fd)(T:Txt K mg Z)(tW:GM P w K mg base Z "claim_or_none" ["self","number"] (zZ Z))(EG:GM P w K mg base Z "add_claim" ["self","claim"] (Er Z))
  (Yk:aA P w K mg base "may_be_rejected" 1 ["house","claim"] (MZ Z)) (EH:i7 P w K mg base "Claim" Z.k 1 ["self","to","of","amount","month","depth","parent"] (Ej Z)):aN P w K mg base aT 3 f fd ["house","number","r"] (EF tb Z):=by
 refine F.bA EE fun aD A0 outer s0 H vs Q E hr h=> ?_
 ·obtain⟨A,G,s,n,r,rfl,hh,g,hn,k⟩:=h;have hu:=fk hr;refine⟨rfl,_,(aw (aP (i:=3) EE.nd rfl (.inl rfl) (gr (pv 0) tW hr (by decide) (ae (pv 1) ai)))
   (aw (bG (bb rS (pv 3) mX (aZ _))
   (ax (aF (a7 (ae (cq rfl T.tP) ai))))
   bJ)
   (aw (bG (iE (fh (aX Yk hr (by decide) rfl (ae (pv 0) (ae (pv 3) ai)))))
   (ax (aF (a7 (ae (cq rfl T.zT) ai))))
   bJ)
   (aw (bG (bb vj (pv 2) (aJ (K:=K) (pv 3) rfl) (aZ _))
   (ax (aF (a7 (ae (cq rfl T.zU) ai))))
   bJ)
   (aw (bG (bb vk (cC (fT (K:=K)) (by rfl) T.fm fE (ae (aJ (K:=K) (pv 0) rfl) ai)) (cq rfl T.MI) (aZ _))
   (ax (aF (a7 (ae (cq rfl T.zS) ai))))
   bJ)
   (aw (aP (i:=4) EE.nd rfl (.inl rfl) (vY EH hr (by decide) rfl (ae (aJ (K:=K) (pv 3) rfl) (ae (aJ (K:=K) (pv 3) rfl) (ae (pv 2) (ae (aJ (K:=K) (pv 0) rfl) (ae (cp jR (aJ (K:=K) (pv 3) rfl) ay) (ae (pv 1) ai))))))))
   (aw (c7 (K:=K) (pv 3) (gr (pv 0) EG hr (by decide) (ae (pv 4) ai)) rfl)
   (ax (aF (a7 (ae ay (ae (aJ (K:=K) (pv 3) rfl) ai)))))))))))),?_⟩
  refine⟨_,rfl,A.p,_,_,rfl,hh.hs,rfl,_,rfl,A,G,s,n,rfl,hh,fun h0=> ?_,fun x a _ hx ha hi=> ?_⟩
  ·refine⟨_,rfl,rfl,_,rfl,a8 ?_⟩;have e:jJ s n=none:=by
    rw[g.claimOf hn];exact jG (by omega)
   simp only[bE,oF,e] at k;exact⟨by show 1<=sizeLine;decide,fun l hl=>k.out hh (af.refl _) hl⟩
  ·refine⟨_,rfl,rfl,_,rfl,ba ?_⟩;have e:jJ s n=some x:=by rw[g.claimOf hn];exact hx
   simp only[bE,oF,e] at k;refine⟨_,rfl,_,rfl,A,G,s,x,a,rfl,hh,hi,fun b hb=>⟨_,rfl,?_⟩⟩;cases b with
   |false=>
    rw[if_pos (hb.mp rfl)] at k
    refine a8 ⟨by show 1<=sizeLine;decide,fun l hl=>k.out hh (af.refl _) hl⟩
   |true=>
    rw[if_neg (fun z=>nomatch hb.mpr z)] at k
    refine ba ?_
    obtain⟨dx,hi⟩:=hi
    refine⟨_,rfl,_,rfl,_,⟨a,Z.k,_,_,rfl,hi,T.cD,T.nZ,rfl⟩,_,_,rfl,rfl,_,rfl,?_⟩
    refine dG (fun h=> ?_) (fun h=> ?_)
    ·have h:(x.amount:Int)<(r:Int):=by simpa using h
     rw[if_pos (show x.amount<r by omega)] at k
     exact⟨by show 1<=sizeLine;decide,fun l hl=>k.out hh (af.refl _) hl⟩
    ·have h:¬(x.amount:Int)<(r:Int):=by simpa using h
     rw[if_neg (show ¬x.amount<r by omega)] at k
     refine⟨_,rfl,_,⟨A.p,Z.h,_,_,rfl,hh.hs,T.bZ,T.mv,rfl⟩,A.lC,_,rfl,.inl (ah.of hh.hK),_,_,rfl,rfl,_,rfl,?_⟩
     rw[ao,hh.kL]
     refine dG (fun h=> ?_) (fun h=> ?_)
     ·have h:(200:Int)<=(s.claims.length:Int):=by simpa using h
      rw[if_pos (show pQ<=s.claims.length by unfold pQ;omega)] at k
      exact⟨by show 1<=sizeLine;decide,fun l hl=>k.out hh (af.refl _) hl⟩
     ·have h:¬(200:Int)<=(s.claims.length:Int):=by simpa using h
      rw[if_neg (show ¬pQ<=s.claims.length by unfold pQ;omega)] at k
      refine⟨_,rfl,_,⟨a,Z.k,_,_,rfl,hi,T.cD,T.qF,rfl⟩,_,rfl,_,⟨a,Z.k,_,_,rfl,hi,T.cD,T.qE,rfl⟩,_,rfl,_,rfl,_,⟨A.p,Z.h,_,_,rfl,hh.hs,T.bZ,T.tM,rfl⟩,_,rfl,_,⟨a,Z.k,_,_,rfl,hi,T.cD,T.zQ,rfl⟩,_,_,rfl,rfl,_,rfl,fun y dy ny nd ne=> ?_⟩
      refine⟨y,dy,x.of,x.to,r,s.month,x.depth+1,n,rfl,au,fun H1 ho kp=>⟨rfl,?_⟩⟩
      have s1:af H H1:=af.made ny nd kp
      have h1:=hh.kp (Kp.of s1)
      have yn:y∉G.cl:=fun z=>by
       obtain⟨j,hj⟩:=fH z;obtain⟨x',hx'⟩:=kQ (l:=G.cl) (m:=s.claims) hh.kL.symm hj;obtain⟨d',e'⟩:=hh.kV j x' y hx' hj;rw[e'] at ny;cases ny
      have Yl:=(cJ.mp ha).1
      have M0:=(cJ.mp hx).1
      refine⟨_,rfl,A.p,_,_,rfl,h1.hs,rfl,_,rfl,A,G,s,{ir s 0 x.of x.to r with depth:=x.depth+1,parent:=n},y,rfl,h1,ho,yn,(by omega),fun H2 h2 b2=> ?_⟩
      have M3:(G.cl++[y])[n-1]? =some a:=by rw[ox Yl];exact ha
      have Aa:(s.claims++[({ir s 0 x.of x.to r with depth:=x.depth+1,parent:=n}:dj)])[n-1]? =some x:=by rw[ox M0];exact hx
      obtain⟨dx2,gW⟩:=h2.kV (n-1) x a Aa M3
      refine⟨_,rfl,a,Z.k,_,_,rfl,gW,T.cD,T.tN,(by show 8<1000;decide),?_⟩
      refine⟨_,rfl,_,⟨a,Z.k,_,_,rfl,au,T.cD,T.tN,rfl⟩,by show 2<=sizeLine;decide,fun l hl=> ?_⟩
      have h3:=h2.L0 (x':={x with next:=s.claims.length+1}) Aa M3 bM.upd (H':=upd H2 a (.ins Z.k dx2 (cX "rejected_by" (nI (s.claims.length+1)) (gK x)))) ⟨dx2,au⟩
      have es:(s.claims++[({ir s 0 x.of x.to r with depth:=x.depth+1,parent:=n}:dj)]).set (n-1) {x with next:=s.claims.length+1}=(s.claims.map fun y=>if y.id=n then {y with next:=(ir s 0 x.of x.to r).id} else y)++[{ir s 0 x.of x.to r with depth:=x.depth+1,parent:=n}]:=by
       rw[List.set_append_left _ _ M0]
       congr 1
       exact Yf g (fun y=>{y with next:=s.claims.length+1}) hn hx
      have h3':aE Z A {G with cl:=G.cl++[y]} (upd H2 a (.ins Z.k dx2 (cX "rejected_by" (nI (s.claims.length+1)) (gK x)))) {s with claims:=(s.claims.map fun y=>if y.id=n then {y with next:=(ir s 0 x.of x.to r).id} else y)++[{ir s 0 x.of x.to r with depth:=x.depth+1,parent:=n}]}:=by
       rw[<-es];exact h3
      exact k.put hh h3' (iz _) (((cP.of s1).trans b2.MX).trans (bM.upd.fr gW rfl)) hl
open PySem PySem.Spec PyProof.Rows L2
open Vbahak (State Carrier Part Ticket)
theorem iQ{α β:Type}(p:α->Bool)(g:α->β):∀l:List α,(l.filterMap fun x=>if p x=true then some (g x) else none)=(l.filter p).map g
 |[]=>rfl
 |a::l=>by
  rw[jf,gO];by_cases h:p a=true
  ·simp only[h,if_true,bQ];rw[iQ p g l]
  ·simp only[h,if_false];rw[iQ p g l];simp
theorem eY(l:List Nat):l.map nI=(MM.ints l).map V.int:=by
 unfold MM.ints;rw[bw];rfl
theorem fF{K:aC}{a:aa}{xs:List V}{g:TG}{tt:TT}{te:TE}{vs:List Nat}{σ:L2.St}{H1:Hp}{D:aa}{Qd:Hp->Prop}(f:Nat->Option V)(hD:H1 D=none)(hx:ah K H1 a xs)(hn:xs.length<sizeLine)
  (hs:∀(i:Nat) H x (R:V->Hp->Prop) (R0:Hp->Prop),xs[i]? =some x->af H1 H->(∀y H4,f i=some y->af H H4->R y H4)->(∀H3,f i=none->af H H3->R0 H3)->
   g x (wipe σ vs) H fun σ2 H2=>wipe σ2 vs=wipe σ vs/\tt σ2 H2 fun b H3=>if b=true then te σ2 H3 R else R0 H3)
  (hd:∀H,af H1 H->H D=some (.lst ((cN xs.length).filterMap f))->Qd H):
  ∃W:Nat->Nat->Hp->Prop,(∃m,W 0 m (upd H1 D (.lst [])))/\∀i m H,W i m H->
   ((iY K a).stop i H/\Qd H)\/((iY K a).go i H/\∃Nx:Hp->Prop,(∀H',Nx H'->∃m',m'<m/\W (i+1) m' H')/\∀x H',(iY K a).fP i H x H'->g x (wipe σ vs) H' fun σ2 H2=>wipe σ2 vs=wipe σ vs/\tt σ2 H2 fun b H3=>
    if b=true then te σ2 H3 fun y H4=>∃acc,H4 D=some (.lst acc)/\acc.length<sizeLine/\Nx (upd H4 D (.lst (acc++[y]))) else Nx H3):=by
 refine ph (J:=iY K a) (n:=xs.length) f hD (fun i H hi s=>⟨xs,xs[i],s.seq hx,by simp[hi]⟩) (fun H s=>⟨xs,s.seq hx,aI _⟩) hn (fun i H x H' R R0 hi s y h1 h2=> ?_) hd;obtain⟨rfl,y⟩:=y;exact hs i _ x R R0 (y xs (s.seq hx)) s h1 h2
theorem Ym{s:State}{m i:Nat}{x:dj}(h:jJ s i=some x)(hm:1<=m):lI s m i=(x.amount:Int)-(if x.next=0 then 0 else lI s (m-1) x.next):=by
 obtain⟨m',rfl⟩:∃m',m=m'+1:=⟨m-1,by omega⟩;exact MM.UW h
abbrev EI:aL:=top 30
theorem qG:a9 ["house","number","claim","total","sign"] ["house","number"] (aQ EI):=bo
def EJ(tb:cf)(Z:aK):Sp:=fun vs H Q _=>∃(A:Ad) (G:Gh) (s:State) (n:Nat),vs=[.ref A.p,nI n]/\aE Z A G H s/\MM.Good s/\1<=n/\c8 tb Z A G H (bE s (.effect n)) Q
theorem Yn{f:aa}{fd:aU}(F:aR K "effect" "effect" EI f fd)(T:Txt K mg Z)(tW:GM P w K mg base Z "claim_or_none" ["self","number"] (zZ Z)):aN P w K mg base aT 2 f fd ["house","number"] (EJ tb Z):=by
 refine F.bA qG fun aD A0 outer s0 H vs Q E hr h=> ?_
 ·obtain⟨A,G,s,n,rfl,hh,g,hn,k⟩:=h;have hu:=fk hr;refine⟨rfl,_,(aw (aP (i:=2) qG.nd rfl (.inl rfl) (gr (pv 0) tW hr (by decide) (ae (pv 1) ai)))
   (aw (bG (bb rS (pv 2) mX (aZ _))
   (ax (aF (a7 (ae (cq rfl T.tP) ai))))
   bJ)
   (aw (aP (i:=3) qG.nd rfl (.inl rfl) ay)
   (aw (aP (i:=4) qG.nd rfl (.inl rfl) ay)
   (aw (vf fX (bb RA (pv 2) mX (aZ _))
   (aw (BK (i:=3) qG.nd rfl (.inl rfl) (cp qg (pv 4) (aJ (K:=K) (pv 2) rfl)) BL)
    (aw (aP (i:=4) qG.nd rfl (.inl rfl) (IW IX (pv 4)))
    (ax (aP (i:=2) qG.nd rfl (.inl rfl) (gr (pv 0) tW hr (by decide) (ae (aJ (K:=K) (pv 2) rfl) ai)))))))
   (ax (aF (a7 (ae ay (ae (pv 3) ai)))))))))),?_⟩
  refine⟨_,rfl,A.p,_,_,rfl,hh.hs,rfl,_,rfl,A,G,s,n,rfl,hh,fun h0=> ?_,fun x a _ hx ha hi=> ?_⟩
  ·refine⟨_,rfl,rfl,_,rfl,a8 ?_⟩;have e:jJ s n=none:=by
    rw[g.claimOf hn];exact jG (by omega)
   simp only[bE,oF,e] at k;exact⟨by show 1<=sizeLine;decide,fun l hl=>k.out hh (af.refl _) hl⟩
  ·refine⟨_,rfl,rfl,_,rfl,ba ?_⟩;have e:jJ s n=some x:=by rw[g.claimOf hn];exact hx
   simp only[bE,oF,e] at k;refine⟨fun m σ H'=>H=H'/\∃(v:V) (ie sgn:Int),σ=[some (.ref A.p),some (nI n),some v,some (.int ie),some (.int sgn)]/\(sgn=1\/sgn= -1)/\((v= .bc/\ie=lI s 4 n)\/
    ∃(i:Nat) (y:dj) (b:aa),v= .ref b/\1<=i/\s.claims[i-1]? =some y/\bV H b Z.k (gK y)/\4<=y.depth+m/\ie+sgn*lI s m i=lI s 4 n),⟨4,rfl,.ref a,0,1,rfl,.inl rfl,.inr ⟨n,x,a,rfl,hn,hx,hi,by omega,by omega⟩⟩,?_⟩
   rintro m σ H' ⟨rfl,v,ie,sgn,rfl,EK,hv⟩;refine⟨_,rfl,rfl,_,rfl,?_⟩;rcases hv with⟨rfl,ht⟩|⟨i,y,b,rfl,d9,hy,⟨dx,hb⟩,hm,ht⟩
   ·refine ba ⟨_,rfl,by show 2<=sizeLine;decide,fun l hl=> ?_⟩;rw[ht];exact k.out hh (af.refl _) hl
   ·refine a8 ?_;have ey:jJ s i=some y:=by rw[g.claimOf d9];exact hy
    have hd:=g.dep y (bP hy);have eV:=Ym ey (m:=m) (by omega);refine⟨fun σ' H'=>∃m',m'<m/\(H=H'/\∃(v:V) (ie sgn:Int),σ'=[some (.ref A.p),some (nI n),some v,some (.int ie),some (.int sgn)]/\(sgn=1\/sgn= -1)/\((v= .bc/\ie=lI s 4 n)\/
     ∃(i:Nat) (y:dj) (b:aa),v= .ref b/\1<=i/\s.claims[i-1]? =some y/\bV H b Z.k (gK y)/\4<=y.depth+m'/\ie+sgn*lI s m' i=lI s 4 n)),fun _ _ h=>h,?_⟩
    refine⟨_,rfl,_,rfl,_,rfl,_,⟨b,Z.k,_,_,rfl,hb,T.cD,T.nZ,rfl⟩,_,_,rfl,rfl,.inl ?_,_,_,rfl,rfl,?_⟩
    ·rcases EK with rfl|rfl
     ·exact⟨by decide,by decide⟩
     ·exact⟨by decide,by decide⟩
    refine⟨_,rfl,_,rfl,?_⟩;refine⟨_,rfl,A.p,_,_,rfl,hh.hs,rfl,_,rfl,_,⟨b,Z.k,_,_,rfl,hb,T.cD,T.tN,rfl⟩,A,G,s,y.next,rfl,hh,fun h0=> ?_,fun z c Yo hz hc yX=> ?_⟩
    ·refine⟨m-1,by omega,rfl,.bc,_,_,rfl,(by rcases EK with rfl|rfl;exact .inr rfl;exact .inl rfl),.inl ⟨rfl,?_⟩⟩;have Yp:y.next=0:=by
      apply aeg;intro cw;obtain⟨z,hz,_⟩:=g.jY y (bP hy) cw;have:=(cJ.mp hz).1;omega
     rw[if_pos Yp] at eV;rw[eV] at ht;show ie+sgn*(y.amount:Int)=_;rw[<-ht]
     congr 2<;>omega
    ·refine⟨m-1,by omega,rfl,.ref c,_,_,rfl,(by rcases EK with rfl|rfl;exact .inr rfl;exact .inl rfl),.inr ⟨y.next,z,c,rfl,Yo,hz,yX,?_,?_⟩⟩
     ·obtain⟨z',hz',hd'⟩:=g.jY y (bP hy) (by omega);rw[hz] at hz';cases hz';omega
     ·rw[if_neg (by omega)] at eV;rw[eV] at ht;show ie+sgn*(y.amount:Int)+ -sgn*lI s (m-1) y.next=_;rw[<-ht,Int.mul_sub,Int.neg_mul];omega
abbrev EL:aL:=top 31
theorem EM:a9 ["house","to","of","claim"] ["house","to","of"] (aQ EL):=bo
def M4(Z:aK):Sp:=fun vs H Q _=>∃(A:Ad) (G:Gh) (s:State) (to of:Nat),vs=[.ref A.p,nI to,nI of]/\aE Z A G H s/\MM.Good s/\∀H',af H H'->Q (nI (Vbahak.owes s of to)) H'
theorem Yq{f:aa}{fd:aU}(F:aR K "unsettled_sum" "unsettled_sum" EL f fd)(T:Txt K mg Z):aN P w K mg base aT 1 f fd ["house","to","of"] (M4 Z):=by
 refine F.bA EM fun aD A0 outer s0 H vs Q E hr h=> ?_
 ·obtain⟨A,G,s,to,of,rfl,hh,g,k⟩:=h;refine⟨rfl,_,(ax (aF (cC (jy (K:=K) rfl) (by rfl) T.jC jB (ae (eW (own:=[("claim",3)]) rfl EM.nd (dh (K:=K) (aJ (K:=K) (pv 0) rfl)) (dD rfl) (fun _ _ _ _ _=>by exact(bU (i:=3) EM.nd rfl (.inl rfl))) (fun _ _ _ _ _=>by exact(gF (PW.pt (u9 (bb cQ (aJ (K:=K) (pv 3) rfl) (pv 1) (aZ _)) (u9 (bb cQ (aJ (K:=K) (pv 3) rfl) (pv 2) (aZ _)) (yi (iE (fh (aJ (K:=K) (pv 3) rfl))))))))) (fun _ _ _ _ _=>by exact(aJ (K:=K) (pv 3) rfl))) ai)))),?_⟩;refine⟨_,rfl,_,⟨A.p,Z.h,_,_,rfl,hh.hs,T.bZ,T.mv,rfl⟩,A.lC,rfl,⟨_,ah.of hh.hK⟩,fun D hD=>fF (fun i=>(s.claims[i]?).bind fun x=>if (x.of==of&&(x.to==to&& !x.settled))=true then some (nI x.amount) else none) hD (ah.of hh.hK) (by rw[ao,hh.kL];exact dk (by have:=g.i5;omega)) (fun i H2 x R R0 hx s2 h1 h2=> ?_) (fun H2 s2 hd=> ?_)⟩
  ·obtain⟨a,ha,rfl⟩:=cg hx;obtain⟨x,hx⟩:=kQ (l:=G.cl) (m:=s.claims) hh.kL.symm ha;obtain⟨dx,hi⟩:=hh.kV i x a hx ha;have hi:=s2 _ _ hi;rw[hx] at h1 h2;refine⟨rfl,?_⟩;refine⟨_,rfl,_,⟨a,Z.k,_,_,rfl,hi,T.cD,T.qE,rfl⟩,_,rfl,rfl,_,rfl,?_⟩;refine dG (fun q1=> ?_) (fun q1=> ?_)
   ·have q1:x.to=to:=jb (by simpa using q1);refine⟨_,rfl,_,⟨a,Z.k,_,_,rfl,hi,T.cD,T.qF,rfl⟩,_,rfl,rfl,_,rfl,?_⟩;refine dG (fun q2=> ?_) (fun q2=> ?_)
    ·have q2:x.of=of:=jb (by simpa using q2);refine⟨_,rfl,_,⟨a,Z.k,_,_,rfl,hi,T.cD,T.tO,rfl⟩,_,rfl,?_⟩;cases q3:x.settled with
     |true=>exact ba (h2 _ (by simp[q3]) (af.refl _))
     |false=>exact a8 ⟨_,rfl,_,⟨a,Z.k,_,_,rfl,hi,T.cD,T.nZ,rfl⟩,h1 _ _ (by simp[q1,q2,q3]) (af.refl _)⟩
    ·have q2:¬x.of=of:=jD (by simpa using q2);exact ba (h2 _ (by simp[q2]) (af.refl _))
   ·have q1:¬x.to=to:=jD (by simpa using q1);exact ba (h2 _ (by simp[q1]) (af.refl _))
  ·rw[ao,hh.kL,eQ,iQ,show(fun x:dj=>nI x.amount)=nI∘(fun x=>x.amount) from rfl,<-bw,eY] at hd;refine⟨D,_,rfl,ah.of hd,?_⟩;rw[MM.sum_ints];exact k H2 s2
abbrev EN:aL:=top 32
theorem Yr:a9 ["house","a","b"] ["house","a","b"] (aQ EN):=bo
def EO(tb:cf)(Z:aK):Sp:=fun vs H Q _=>∃(A:Ad) (G:Gh) (s:State) (a b:Nat),vs=[.ref A.p,nI a,nI b]/\aE Z A G H s/\MM.Good s/\c8 tb Z A G H (bE s (.owed a b)) Q
theorem Ys{f:aa}{fd:aU}(F:aR K "owed" "owed" EN f fd)(T:Txt K mg Z)(gL:GM P w K mg base Z "has_carriers" ["self","numbers"] (mx Z))(M5:aA P w K mg base "unsettled_sum" 1 ["house","to","of"] (M4 Z)):aN P w K mg base aT 2 f fd ["house","a","b"] (EO tb Z):=by
 refine F.bA Yr fun aD A0 outer s0 H vs Q E hr h=> ?_
 ·obtain⟨A,G,s,a,b,rfl,hh,g,k⟩:=h;refine⟨rfl,_,(aw (bG (iE (fh (gr (pv 0) gL hr (by decide) (ae (a7 (ae (pv 1) (ae (pv 2) ai))) ai))))
   (ax (aF (a7 (ae (cq rfl T.n9) ai))))
   bJ)
   (ax (aF (a7 (ae ay (ae (aX M5 hr (by decide) rfl (ae (pv 0) (ae (pv 2) (ae (pv 1) ai)))) (ae (aX M5 hr (by decide) rfl (ae (pv 0) (ae (pv 1) (ae (pv 2) ai)))) ai))))))),?_⟩
  refine⟨_,rfl,A.p,_,_,rfl,hh.hs,rfl,_,rfl,_,rfl,by show 2<=sizeLine;decide,fun l hl=> ?_⟩;have s1:af H (upd H l (.lst [nI a,nI b])):=af.new hl;have h1:=hh.kp (Kp.of s1);refine⟨A,G,s,l,[a,b],rfl,h1,au,(by show 2<=1000;decide),fun H2 s2=> ?_⟩;have cn:=s1.trans s2;have h2:=hh.kp (Kp.of cn);refine⟨_,rfl,?_⟩;simp only[bE] at k;have e:([a,b].all fun c=>bq s c)=(bq s a&&bq s b):=by simp
  rw[e];cases q:(bq s a&&bq s b) with
  |false=>
   rw[if_pos q] at k
   refine a8 ⟨by show 1<=sizeLine;decide,fun l hl=>k.out hh cn hl⟩
  |true=>
   rw[if_neg (by rw[q];simp)] at k
   refine ba ?_
   refine⟨_,rfl,_,rfl,_,rfl,A,G,s,b,a,rfl,h2,g,fun H3 s3=> ?_⟩
   have h3:=h2.kp (Kp.of s3)
   refine⟨_,rfl,_,rfl,_,rfl,A,G,s,a,b,rfl,h3,g,fun H4 s4=> ?_⟩
   exact⟨by show 3<=sizeLine;decide,fun l hl=>k.out hh ((cn.trans s3).trans s4) hl⟩
abbrev ER:aL:=top 33
theorem ES:a9 ["house","number","claim","made"] ["house","number"] (aQ ER):=bo
def ET(tb:cf)(Z:aK):Sp:=fun vs H Q _=>∃(A:Ad) (G:Gh) (s:State) (n:Nat),vs=[.ref A.p,nI n]/\aE Z A G H s/\MM.Good s/\1<=n/\c8 tb Z A G H (bE s (.claim n)) Q
theorem Yt{f:aa}{fd:aU}(F:aR K "show_claim" "show_claim" ER f fd)(T:Txt K mg Z)(tW:GM P w K mg base Z "claim_or_none" ["self","number"] (zZ Z)):aN P w K mg base aT 2 f fd ["house","number"] (ET tb Z):=by
 refine F.bA ES fun aD A0 outer s0 H vs Q E hr h=> ?_
 ·obtain⟨A,G,s,n,rfl,hh,g,hn,k⟩:=h;have hu:=fk hr;refine⟨rfl,_,(aw (aP (i:=2) ES.nd rfl (.inl rfl) (gr (pv 0) tW hr (by decide) (ae (pv 1) ai)))
   (aw (bG (bb rS (pv 2) mX (aZ _))
   (ax (aF (a7 (ae (cq rfl T.tP) ai))))
   bJ)
   (aw (aP (i:=3) ES.nd rfl (.inl rfl) (a7 (ae (aJ (K:=K) (pv 2) rfl) (ae (aJ (K:=K) (pv 2) rfl) (ae (aJ (K:=K) (pv 2) rfl) (ae (aJ (K:=K) (pv 2) rfl) (ae (aJ (K:=K) (pv 2) rfl) (ae (aJ (K:=K) (pv 2) rfl) ai))))))))
   (ax (aF (cp qp (cp qp (a7 (ae ay ai)) (pv 3)) (a7 (ae (aJ (K:=K) (pv 2) rfl) (ae (yk (fh (aJ (K:=K) (pv 2) rfl)) ay ay) ai))))))))),?_⟩
  refine⟨_,rfl,A.p,_,_,rfl,hh.hs,rfl,_,rfl,A,G,s,n,rfl,hh,fun h0=> ?_,fun x a _ hx ha hi=> ?_⟩
  ·refine⟨_,rfl,rfl,_,rfl,a8 ?_⟩;have e:jJ s n=none:=by
    rw[g.claimOf hn];exact jG (by omega)
   simp only[bE,oF,e] at k;exact⟨by show 1<=sizeLine;decide,fun l hl=>k.out hh (af.refl _) hl⟩
  ·refine⟨_,rfl,rfl,_,rfl,ba ?_⟩;have e:jJ s n=some x:=by rw[g.claimOf hn];exact hx
   simp only[bE,oF,e] at k;obtain⟨dx,hi⟩:=hi;refine⟨_,rfl,_,⟨a,Z.k,_,_,rfl,hi,T.cD,T.qE,rfl⟩,_,rfl,_,⟨a,Z.k,_,_,rfl,hi,T.cD,T.qF,rfl⟩,_,rfl,_,⟨a,Z.k,_,_,rfl,hi,T.cD,T.nZ,rfl⟩,_,rfl,_,⟨a,Z.k,_,_,rfl,hi,T.cD,T.D8,rfl⟩,_,rfl,_,⟨a,Z.k,_,_,rfl,hi,T.cD,T.zQ,rfl⟩,_,rfl,_,⟨a,Z.k,_,_,rfl,hi,T.cD,T.MH,rfl⟩,by show 6<=sizeLine;decide,fun l1 dW=> ?_⟩;have s1:af H _:=af.new (o:= .lst [nI x.to,nI x.of,nI x.amount,nI x.month,nI x.depth,nI x.parent]) dW;have d9:=s1 _ _ hi;refine⟨by show 1<=sizeLine;decide,fun l2 eL=> ?_⟩;have s2:af _ _:=af.new (o:= .lst [.int 0]) eL;refine⟨_,rfl,l2,l1,_,_,rfl,rfl,au,s2 _ _ au,by show 7<=sizeLine;decide,fun l3 eZ=> ?_⟩;have s3:af _ _:=af.new (o:= .lst ([.int 0]++[nI x.to,nI x.of,nI x.amount,nI x.month,nI x.depth,nI x.parent])) eZ;have eP:=s3 _ _ (s2 _ _ d9);refine⟨_,rfl,_,⟨a,Z.k,_,_,rfl,eP,T.cD,T.tN,rfl⟩,_,rfl,_,⟨a,Z.k,_,_,rfl,eP,T.cD,T.tO,rfl⟩,_,rfl,?_⟩;have fin:∀z:Int,(z=if x.settled=true then 1 else 0)->∀l4,(upd (upd (upd H l1 (.lst [nI x.to,nI x.of,nI x.amount,nI x.month,nI x.depth,nI x.parent])) l2 (.lst [.int 0])) l3 (.lst ([.int 0]++[nI x.to,nI x.of,nI x.amount,nI x.month,nI x.depth,nI x.parent]))) l4=none->
     ∃l b xs zs,V.ref l3= .ref l/\V.ref l4= .ref b/\(upd (upd (upd (upd H l1 (.lst [nI x.to,nI x.of,nI x.amount,nI x.month,nI x.depth,nI x.parent])) l2 (.lst [.int 0])) l3 (.lst ([.int 0]++[nI x.to,nI x.of,nI x.amount,nI x.month,nI x.depth,nI x.parent]))) l4 (.lst [nI x.next,.int z])) l=some (.lst xs)/\
     (upd (upd (upd (upd H l1 (.lst [nI x.to,nI x.of,nI x.amount,nI x.month,nI x.depth,nI x.parent])) l2 (.lst [.int 0])) l3 (.lst ([.int 0]++[nI x.to,nI x.of,nI x.amount,nI x.month,nI x.depth,nI x.parent]))) l4 (.lst [nI x.next,.int z])) b=some (.lst zs)/\xs.length+zs.length<=sizeLine/\
     ∀p,(upd (upd (upd (upd H l1 (.lst [nI x.to,nI x.of,nI x.amount,nI x.month,nI x.depth,nI x.parent])) l2 (.lst [.int 0])) l3 (.lst ([.int 0]++[nI x.to,nI x.of,nI x.amount,nI x.month,nI x.depth,nI x.parent]))) l4 (.lst [nI x.next,.int z])) p=none->Q (.ref p) (upd (upd (upd (upd (upd H l1 (.lst [nI x.to,nI x.of,nI x.amount,nI x.month,nI x.depth,nI x.parent])) l2 (.lst [.int 0])) l3 (.lst ([.int 0]++[nI x.to,nI x.of,nI x.amount,nI x.month,nI x.depth,nI x.parent]))) l4 (.lst [nI x.next,.int z])) p (.lst (xs++zs))):=by
    intro z hz l4 qH;have s4:af _ _:=af.new (o:= .lst [nI x.next,.int z]) qH;refine⟨l3,l4,_,_,rfl,rfl,s4 _ _ au,au,by show 9<=sizeLine;decide,fun p hp=> ?_⟩;rw[<-hz] at k;exact k.out hh (((s1.trans s2).trans s3).trans s4) hp
   cases q:x.settled with
   |true=>exact a8 ⟨by show 2<=sizeLine;decide,fun l4 qH=>fin 1 (by rw[q];rfl) l4 qH⟩
   |false=>exact ba ⟨by show 2<=sizeLine;decide,fun l4 qH=>fin 0 (by rw[q];rfl) l4 qH⟩
abbrev EU:aL:=top 56
theorem Yu:a9 ["house"] ["house"] (aQ EU):=bo
def EV(tb:cf)(Z:aK):Sp:=fun vs H Q _=>∃(A:Ad) (G:Gh) (s:State),vs=[.ref A.p]/\aE Z A G H s/\c8 tb Z A G H (bE s .month) Q
theorem Yv{f:aa}{fd:aU}(F:aR K "show_month" "show_month" EU f fd)(T:Txt K mg Z):aN P w K mg base aT 1 f fd ["house"] (EV tb Z):=by
 refine F.bA Yu fun aD A0 outer s0 H vs Q E hr h=> ?_
 ·obtain⟨A,G,s,rfl,hh,k⟩:=h;refine⟨rfl,_,(ax (aF (a7 (ae ay (ae (aJ (K:=K) (pv 0) rfl) ai))))),?_⟩;refine⟨_,rfl,_,⟨A.p,Z.h,_,_,rfl,hh.hs,T.bZ,T.tM,rfl⟩,by show 2<=sizeLine;decide,fun l hl=>k.out hh (af.refl _) hl⟩
open PySem PySem.Spec PyProof.Rows L2
open Vbahak (State Carrier Part Ticket)
theorem EW{s:State}{t i:Nat}{k:bI->bT->State×List Int}(h:oa s t i=none):rn s t i k=(s,[-4]):=by
 unfold oa at h;unfold rn;cases e:uI s t with
 |none=>rfl
 |some x=>
  rw[e] at h
  simp only at h
  cases q:x.parts[i]? with
  |none=>simp only[q]
  |some p=>rw[q] at h;cases h
theorem EX{s:State}{t i:Nat}{k:bI->bT->State×List Int}{x:bI}{p:bT}(h:oa s t i=some (x,p)):rn s t i k=k x p:=by
 unfold oa at h;unfold rn;cases e:uI s t with
 |none=>rw[e] at h;cases h
 |some y=>
  rw[e] at h
  simp only at h
  cases q:y.parts[i]? with
  |none=>rw[q] at h;cases h
  |some p'=>
   rw[q] at h
   cases h
   simp only[q]
theorem Yw{s:State}(hn:(s.tickets.map (·.t)).Nodup){j:Nat}{x:bI}(f:bI->bI)(h:s.tickets[j]? =some x):s.tickets.set j (f x)=s.tickets.map fun y=>if y.t=x.t then f y else y:=by
 apply oA;intro i;rw[aS];by_cases e:i=j
 ·subst e;rw[lz (cJ.mp h).1,h,iu,if_pos rfl]
 ·rw[lB (d7 e)];cases q:s.tickets[i]? with
  |none=>rfl
  |some y=>
   rw[iu,if_neg (fun z=>e ?_)]
   have h1:(s.tickets.map (·.t))[i]? =some y.t:=by rw[aS,q];rfl
   have h2:(s.tickets.map (·.t))[j]? =some y.t:=by rw[aS,h,z];rfl
   exact vK hn h1 h2
theorem aE.part2{Z:aK}{A:Ad}{G:Gh}{H H':Hp}{s:State}(h:aE Z A G H s)(g:MM.Good s){j i:Nat}{x:bI}{p p':bT}{gg:Tg}{b:aa}(hj:s.tickets[j]? =some x)(hg:G.tg[j]? =some gg)(hp:x.parts[i]? =some p)(hb:gg.ps[i]? =some b)
  (k:bM b H H') (hb':bV H' b Z.p (ic p')):aE Z A G H' (Ik s x.t i p'):=by
 have h1:=h.setPart hj hg hp hb k hb';have e:=Yw g.gZ (fun y=>{y with parts:=y.parts.set i p'}) hj;unfold Ik;rw[<-e];exact h1
abbrev EY:aL:=top 79
theorem EZ:a9 ["house","t","i","part","issuer"] ["house","t","i"] (aQ EY):=bo
def E1(tb:cf)(Z:aK):Sp:=fun vs H Q _=>∃(A:Ad) (G:Gh) (s:State) (t i:Nat),vs=[.ref A.p,nI t,nI i]/\aE Z A G H s/\MM.Good s/\MM.Good2 s/\c8 tb Z A G H (bE s (.fly t i)) Q
theorem Yx{f:aa}{fd:aU}(F:aR K "fly" "fly" EY f fd)(T:Txt K mg Z)(wJ:GM P w K mg base Z "part_or_none" ["self","t","i"] (zY Z)):aN P w K mg base aT 2 f fd ["house","t","i"] (E1 tb Z):=by
 refine F.bA EZ fun aD A0 outer s0 H vs Q E hr h=> ?_
 ·obtain⟨A,G,s,t,i,rfl,hh,g,g2,k⟩:=h;have hu:=fk hr;refine⟨rfl,_,(aw (aP (i:=3) EZ.nd rfl (.inl rfl) (gr (pv 0) wJ hr (by decide) (ae (pv 1) (ae (pv 2) ai))))
   (aw (bG (bb rS (pv 3) mX (aZ _))
   (ax (aF (a7 (ae (cq rfl T.tP) ai))))
   bJ)
   (aw (bG (bb lW (aJ (K:=K) (pv 3) rfl) (cq rfl T.zR) (aZ _))
   (ax (aF (a7 (ae (cq rfl T.zT) ai))))
   bJ)
   (aw (aP (i:=4) EZ.nd rfl (.inl rfl) (aJ (K:=K) (fR hu (aJ (K:=K) (pv 0) rfl) (pv 1) (fun _ _=>rfl)) rfl))
   (aw (bG (bb cQ (aJ (K:=K) (pv 3) rfl) (pv 4) (aZ _))
   (ax (c7 (K:=K) (pv 3) (cq rfl T.MJ) rfl))
   (aw (c7 (K:=K) (pv 3) (cq rfl T.D9) rfl)
    (ax (c7 (K:=K) (pv 3) (cp zo (cp qg (aJ (K:=K) (pv 3) rfl) (Tt hu (aJ (K:=K) (pv 0) rfl) (oU (ae (pv 4) (ae (aJ (K:=K) (pv 3) rfl) ai))) ay ⟨rfl,rfl,rfl,rfl⟩)) ay) rfl))))
   (ax (aF (a7 (ae ay (ae (aJ (K:=K) (pv 3) rfl) (ae (aJ (K:=K) (pv 3) rfl) ai))))))))))),?_⟩
  simp only[bE] at k;refine eG fun n hn=> ?_;refine⟨_,rfl,A.p,_,_,rfl,hh.hs,rfl,_,rfl,_,rfl,A,G,s,t,i,rfl,hh,g,fun h0=> ?_,fun j x gg p b h0 hj ht jE hp hb hi=> ?_⟩
  ·refine hn _ _ ?_;refine⟨_,rfl,rfl,_,rfl,a8 ?_⟩;rw[EW h0] at k;exact⟨by show 1<=sizeLine;decide,fun l hl=>k.out hh (af.refl _) hl⟩
  ·refine hn _ _ ?_;refine eG fun n2 yw=> ?_;refine⟨_,rfl,rfl,_,rfl,ba ?_⟩;refine yw _ _ ?_;rw[EX h0] at k;obtain⟨dx,hi⟩:=hi;subst ht;refine⟨_,rfl,_,⟨b,Z.p,_,_,rfl,hi,T.cY,T.mw,rfl⟩,rfl,_,rfl,?_⟩;refine dG (fun q=> ?_) (fun q=> ?_)
   ·have q:¬p.stage=0:=wI (by simpa using q);rw[if_pos q] at k;exact⟨by show 1<=sizeLine;decide,fun l hl=>k.out hh (af.refl _) hl⟩
   ·have q:p.stage=0:=wH (by simpa using q);rw[if_neg (by omega)] at k;have tk:=hh.tV j x gg hj jE;obtain⟨dt,Yy⟩:=tk.o;have hv:=zt g.gZ hj jE;have hd:bj H A.dT (nI x.t) (some (.ref gg.a)):=by rw[<-hv];exact bj.k (k:=kI x.t) hh.hT
    refine⟨_,rfl,_,⟨A.p,Z.h,_,_,rfl,hh.hs,T.bZ,T.mr,rfl⟩,_,rfl,A.dT,_,rfl,hd,_,⟨gg.a,Z.t,_,_,rfl,Yy,T.kZ,T.zP,rfl⟩,?_⟩;refine⟨_,rfl,_,⟨b,Z.p,_,_,rfl,hi,T.cY,T.wF,rfl⟩,_,rfl,rfl,_,rfl,?_⟩;refine dG (fun q2=> ?_) (fun q2=> ?_)
    ·have q2:p.carrier=x.issuer:=jb (by simpa using q2);simp only[if_pos q2] at k;refine⟨_,rfl,b,Z.p,_,_,rfl,hi,T.cY,T.mw,(by show 5<1000;decide),?_⟩;refine⟨_,rfl,_,⟨b,Z.p,_,_,rfl,au,T.cY,T.nY,rfl⟩,_,rfl,_,⟨b,Z.p,_,_,rfl,au,T.cY,T.pA,rfl⟩,by show 3<=sizeLine;decide,fun l hl=> ?_⟩;have kz:p.kept=0:=g2.iO x (bP hj) p (bP hp) (by omega) (by omega);have e1:cX "state" (V.int 1) (ic p)=ic {p with stage:=1,kept:=0}:=by rw[<-kz];rfl
     have h1:=hh.part2 g (p':={p with stage:=1,kept:=0}) hj jE hp hb bM.upd (H':=upd H b (.ins Z.p dx (cX "state" (V.int 1) (ic p)))) ⟨dx,by rw[au,e1]⟩;have:=k.put hh h1 (iz _) (bM.upd.fr hi rfl) hl;rw[kz];exact this
    ·have q2:¬p.carrier=x.issuer:=jD (by simpa using q2);simp only[if_neg q2] at k;refine⟨_,rfl,b,Z.p,_,_,rfl,hi,T.cY,T.mw,(by show 5<1000;decide),?_⟩;have np:A.p≠b:=cv hh.hs hi (vZ (by rw[v9,tu];decide));have nX:A.dX≠b:=cv hh.hX hi (fun z=>nomatch z);refine⟨_,rfl,_,⟨b,Z.p,_,_,rfl,au,T.cY,T.nY,rfl⟩,_,rfl,_,⟨A.p,Z.h,_,_,rfl,by rw[ag np];exact hh.hs,T.bZ,T.D7,rfl⟩,A.dX,rfl,.inr ⟨_,.inl (by rw[ag nX];exact hh.hX)⟩,_,rfl,_,rfl,_,⟨b,Z.p,_,_,rfl,au,T.cY,T.wF,rfl⟩,by show 2<=sizeLine;decide,fun t ht=> ?_⟩;have tb':t≠b:=fun z=>by rw[z,au] at ht;cases ht
     have tH:H t=none:=by rw[ag tb'] at ht;exact ht
     refine⟨_,bj.t (k:=[kI x.issuer,kI p.carrier]) (by rw[ag (aV hh.hX tH),ag nX];exact hh.hX) au,?_⟩;rw[show(V.int 0)=nI 0 from rfl,hh.xV];have cb:=g.charge x.issuer p.carrier;refine⟨_,_,rfl,rfl,.inr ⟨?_,?_⟩,_,_,rfl,rfl,⟨by decide,by decide⟩,_,rfl,b,Z.p,_,_,rfl,by rw[ag tb'.symm];exact au,T.cY,T.pA,(by show 5<1000;decide),?_⟩
     ·show-(2^64)<((mN s x.issuer p.carrier:Nat):Int);omega
     ·show((mN s x.issuer p.carrier:Nat):Int)<2^64;omega
     refine⟨_,rfl,_,⟨b,Z.p,_,_,rfl,au,T.cY,T.nY,rfl⟩,_,rfl,_,⟨b,Z.p,_,_,rfl,au,T.cY,T.pA,rfl⟩,by show 3<=sizeLine;decide,fun l hl=> ?_⟩;have ek:((p.share:Nat):Int)*((mN s x.issuer p.carrier:Nat):Int)/10000=((p.share*mN s x.issuer p.carrier/10000:Nat):Int):=by
      rw[Ic];simp
     have tX:af H (upd H t (.tup [nI x.issuer,nI p.carrier])):=af.new tH;have Yz:=hh.kp (Kp.of tX);have bt:bM b (upd H t (.tup [nI x.issuer,nI p.carrier])) (upd (upd (upd H b (.ins Z.p dx (cX "state" (V.int 2) (ic p)))) t (.tup [nI x.issuer,nI p.carrier])) b (.ins Z.p dx (cX "kept" (V.int ((p.share:Int)*(mN s x.issuer p.carrier:Int)/10000)) (cX "state" (V.int 2) (ic p))))):=fun c o e n=>by
      rw[ag n];by_cases z:c=t
      ·subst z;rw[au] at e ⊢;exact e
      ·rw[ag z] at e ⊢;rw[ag n];exact e
     have h1:=Yz.part2 g (p':={p with stage:=2,kept:=p.share*mN s x.issuer p.carrier/10000}) hj jE hp hb bt ⟨dx,by rw[au,ek];rfl⟩;have:=k.put hh h1 (iz _) ((cP.of tX).trans (bt.fr (tX _ _ hi) rfl)) hl;show Q (.ref l) (upd _ l (.lst [.int 0,nI p.share,.int ((p.share:Int)*(mN s x.issuer p.carrier:Int)/10000)]));rw[ek] at this ⊢;exact this
abbrev E2:aL:=top 80
theorem M6:a9 ["house","t","i","part"] ["house","t","i"] (aQ E2):=bo
def E3(tb:cf)(Z:aK):Sp:=fun vs H Q _=>∃(A:Ad) (G:Gh) (s:State) (t i:Nat),vs=[.ref A.p,nI t,nI i]/\aE Z A G H s/\MM.Good s/\c8 tb Z A G H (bE s (.refund t i)) Q
theorem YA{f:aa}{fd:aU}(F:aR K "refund" "refund" E2 f fd)(T:Txt K mg Z)(wJ:GM P w K mg base Z "part_or_none" ["self","t","i"] (zY Z)):aN P w K mg base aT 2 f fd ["house","t","i"] (E3 tb Z):=by
 refine F.bA M6 fun aD A0 outer s0 H vs Q E hr h=> ?_
 ·obtain⟨A,G,s,t,i,rfl,hh,g,k⟩:=h;have hu:=fk hr;refine⟨rfl,_,(aw (aP (i:=3) M6.nd rfl (.inl rfl) (gr (pv 0) wJ hr (by decide) (ae (pv 1) (ae (pv 2) ai))))
   (aw (bG (bb rS (pv 3) mX (aZ _))
   (ax (aF (a7 (ae (cq rfl T.tP) ai))))
   bJ)
   (aw (bG (bb lW (aJ (K:=K) (pv 3) rfl) (cq rfl T.zR) (aZ _))
   (ax (aF (a7 (ae (cq rfl T.zT) ai))))
   bJ)
   (aw (c7 (K:=K) (pv 3) (cq rfl T.ML) rfl)
   (ax (aF (a7 (ae ay (ae (aJ (K:=K) (pv 3) rfl) ai))))))))),?_⟩
  simp only[bE] at k;refine⟨_,rfl,A.p,_,_,rfl,hh.hs,rfl,_,rfl,_,rfl,A,G,s,t,i,rfl,hh,g,fun h0=> ?_,fun j x gg p b h0 hj ht jE hp hb hi=> ?_⟩
  ·refine⟨_,rfl,rfl,_,rfl,a8 ?_⟩;rw[EW h0] at k;exact⟨by show 1<=sizeLine;decide,fun l hl=>k.out hh (af.refl _) hl⟩
  ·refine⟨_,rfl,rfl,_,rfl,ba ?_⟩;rw[EX h0] at k;obtain⟨dx,hi⟩:=hi;subst ht;refine⟨_,rfl,_,⟨b,Z.p,_,_,rfl,hi,T.cY,T.mw,rfl⟩,rfl,_,rfl,?_⟩;refine dG (fun q=> ?_) (fun q=> ?_)
   ·have q:¬p.stage=0:=wI (by simpa using q);rw[if_pos q] at k;exact⟨by show 1<=sizeLine;decide,fun l hl=>k.out hh (af.refl _) hl⟩
   ·have q:p.stage=0:=wH (by simpa using q);rw[if_neg (by omega)] at k;refine⟨_,rfl,b,Z.p,_,_,rfl,hi,T.cY,T.mw,(by show 5<1000;decide),?_⟩;refine⟨_,rfl,_,⟨b,Z.p,_,_,rfl,au,T.cY,T.nY,rfl⟩,by show 2<=sizeLine;decide,fun l hl=> ?_⟩;have h1:=hh.part2 g (p':={p with stage:=4}) hj jE hp hb bM.upd (H':=upd H b (.ins Z.p dx (cX "state" (V.int 4) (ic p)))) ⟨dx,au⟩;exact k.put hh h1 (iz _) (bM.upd.fr hi rfl) hl
abbrev E4:aL:=top 81
theorem M7:a9 ["house","t","i","part"] ["house","t","i"] (aQ E4):=bo
def E5(tb:cf)(Z:aK):Sp:=fun vs H Q _=>∃(A:Ad) (G:Gh) (s:State) (t i:Nat),vs=[.ref A.p,nI t,nI i]/\aE Z A G H s/\MM.Good s/\c8 tb Z A G H (bE s (.part t i)) Q
theorem YB{f:aa}{fd:aU}(F:aR K "show_part" "show_part" E4 f fd)(T:Txt K mg Z)(wJ:GM P w K mg base Z "part_or_none" ["self","t","i"] (zY Z)):aN P w K mg base aT 2 f fd ["house","t","i"] (E5 tb Z):=by
 refine F.bA M7 fun aD A0 outer s0 H vs Q E hr h=> ?_
 ·obtain⟨A,G,s,t,i,rfl,hh,g,k⟩:=h;refine⟨rfl,_,(aw (aP (i:=3) M7.nd rfl (.inl rfl) (gr (pv 0) wJ hr (by decide) (ae (pv 1) (ae (pv 2) ai))))
   (aw (bG (bb rS (pv 3) mX (aZ _))
   (ax (aF (a7 (ae (cq rfl T.tP) ai))))
   bJ)
   (ax (aF (a7 (ae ay (ae (aJ (K:=K) (pv 3) rfl) (ae (aJ (K:=K) (pv 3) rfl) (ae (aJ (K:=K) (pv 3) rfl) (ae (aJ (K:=K) (pv 3) rfl) (ae (aJ (K:=K) (pv 3) rfl) ai))))))))))),?_⟩
  simp only[bE] at k;refine⟨_,rfl,A.p,_,_,rfl,hh.hs,rfl,_,rfl,_,rfl,A,G,s,t,i,rfl,hh,g,fun h0=> ?_,fun j x gg p b h0 hj ht jE hp hb hi=> ?_⟩
  ·refine⟨_,rfl,rfl,_,rfl,a8 ?_⟩;rw[EW h0] at k;exact⟨by show 1<=sizeLine;decide,fun l hl=>k.out hh (af.refl _) hl⟩
  ·refine⟨_,rfl,rfl,_,rfl,ba ?_⟩;rw[EX h0] at k;obtain⟨dx,hi⟩:=hi;refine⟨_,rfl,_,⟨b,Z.p,_,_,rfl,hi,T.cY,T.wF,rfl⟩,_,rfl,_,⟨b,Z.p,_,_,rfl,hi,T.cY,T.nY,rfl⟩,_,rfl,_,⟨b,Z.p,_,_,rfl,hi,T.cY,T.pA,rfl⟩,_,rfl,_,⟨b,Z.p,_,_,rfl,hi,T.cY,T.mw,rfl⟩,_,rfl,_,⟨b,Z.p,_,_,rfl,hi,T.cY,T.zO,rfl⟩,by show 6<=sizeLine;decide,fun l hl=>k.out hh (af.refl _) hl⟩
open PySem PySem.Spec PyProof.Rows L2
open Vbahak (State Carrier Part Ticket)
theorem Ab{J:It}{n:Nat}{g:TG}{tb:TS}{D:Ends}{σ:L2.St}{H:Hp}(Pv:Nat->L2.St->Hp->Prop)(h0:Pv 0 σ H)(go:∀i σ H,i<n->Pv i σ H->J.go i H)(st:∀σ H,Pv n σ H->J.stop n H)
  (hs:∀i σ H x H',i<n->Pv i σ H->J.fP i H x H'->g x σ H' fun σ2 H2=>tb {D with nx:=Pv (i+1),ct:=Pv (i+1),bk:=D.nx} σ2 H2) (hd:∀σ H,Pv n σ H->D.nx σ H):
  ∃W:Nat->Nat->L2.St->Hp->Prop,(∃m,W 0 m σ H)/\∀i m σ H,W i m σ H->
   (J.stop i H/\D.nx σ H)\/(J.go i H/\∃N:L2.St->Hp->Prop,(∀σ' H',N σ' H'->∃m',m'<m/\W (i+1) m' σ' H')/\∀x H',J.fP i H x H'->g x σ H' fun σ2 H2=>tb {D with nx:=N,ct:=N,bk:=D.nx} σ2 H2):=by
 refine⟨fun i m σ H=>m=n-i/\i<=n/\Pv i σ H,⟨n,by simp,du _,h0⟩,?_⟩;rintro i m σ H ⟨rfl,hi,p⟩;by_cases aY:i<n
 ·exact .inr ⟨go i σ H aY p,Pv (i+1),fun σ' H' p'=>⟨n-(i+1),by omega,rfl,aY,p'⟩,fun x H' y=>hs i σ H x H' aY p y⟩
 ·have e:i=n:=by omega
  subst e;exact .inl ⟨st σ H p,hd σ H p⟩
theorem YC{d:aa}{od:Obj}{kvs:List (Key×V)}{g:TG}{tt:TT}{te:TE}{vs:List Nat}{σ:L2.St}{H1:Hp}{D:aa}{Qd:Hp->Prop}(f:Nat->Option V)(hD:H1 D=none)(hx:H1 d=some (.bF od (.dK kvs)))(hn:kvs.length<sizeLine)
  (hs:∀(i:Nat) H k x (R:V->Hp->Prop) (R0:Hp->Prop),kvs[i]? =some (k,x)->af H1 H->(∀y H4,f i=some y->af H H4->R y H4)->(∀H3,f i=none->af H H3->R0 H3)->
   g x (wipe σ vs) H fun σ2 H2=>wipe σ2 vs=wipe σ vs/\tt σ2 H2 fun b H3=>if b=true then te σ2 H3 R else R0 H3)
  (hd:∀H,af H1 H->H D=some (.lst ((cN kvs.length).filterMap f))->Qd H):
  ∃W:Nat->Nat->Hp->Prop,(∃m,W 0 m (upd H1 D (.lst [])))/\∀i m H,W i m H->
   ((kH d od kvs).stop i H/\Qd H)\/((kH d od kvs).go i H/\∃Nx:Hp->Prop,(∀H',Nx H'->∃m',m'<m/\W (i+1) m' H')/\∀x H',(kH d od kvs).fP i H x H'->g x (wipe σ vs) H' fun σ2 H2=>wipe σ2 vs=wipe σ vs/\tt σ2 H2 fun b H3=>
    if b=true then te σ2 H3 fun y H4=>∃acc,H4 D=some (.lst acc)/\acc.length<sizeLine/\Nx (upd H4 D (.lst (acc++[y]))) else Nx H3):=by
 refine ph (J:=kH d od kvs) (n:=kvs.length) f hD (fun i H hi s=>⟨s _ _ hx,hi⟩) (fun H s=>⟨s _ _ hx,aI _⟩) hn (fun i H x H' R R0 hi s y h1 h2=> ?_) hd;obtain⟨rfl,k,e⟩:=y;exact hs i _ k x R R0 e s h1 h2
theorem Ac{H H2:Hp}{d:aa}{u:HO}{od:Obj}(hd:H d=some u)(s:af (upd H d (.bF od u)) H2):af H (upd H2 d u):=fun b o e=>by
 by_cases z:b=d
 ·subst z;rw[au];rw[hd] at e;exact e
 ·rw[ag z];exact s _ _ (by rw[ag z];exact e)
def tz(s:State)(G:Gh):List (bI×Tg):=s.tickets.zip G.tg
theorem my{Z:aK}{A:Ad}{G:Gh}{H:Hp}{s:State}(h:aE Z A G H s){q:bI×Tg}(hq:q∈tz s G):i9 Z A H q.1 q.2:=by
 obtain⟨i,hi⟩:=fH hq;unfold tz at hi;rw[j9] at hi;exact h.tV i q.1 q.2 hi.1 hi.2
theorem YD{Z:aK}{A:Ad}{G:Gh}{H:Hp}{s:State}(h:aE Z A G H s):(tz s G).map (·.1)=s.tickets:=HV (by rw[h.tL];exact aI _)
theorem E6{Z:aK}{A:Ad}{G:Gh}{H:Hp}{s:State}(h:aE Z A G H s):(tz s G).length=s.tickets.length:=by
 unfold tz;rw[rk,h.tL,x8]
theorem Ae(s:State)(G:Gh):eI s.tickets G.tg=(tz s G).map fun q=>(kI q.1.t,V.ref q.2.a):=by
 unfold eI tz;rw[List.zip,List.map_zipWith]
def own(s:State)(G:Gh)(a:Nat):List (bI×Tg):=(tz s G).filter fun q=>q.1.issuer==a
theorem E7{Z:aK}{A:Ad}{G:Gh}{H:Hp}{s:State}(h:aE Z A G H s)(a:Nat):(own s G a).map (·.1)=s.tickets.filter fun t=>t.issuer==a:=by
 unfold own;rw[<-YD h,kh]
 rfl
def tY(Z:aK)(H:Hp)(l:List (aa×bT)):Prop:=∀q∈l,bV H q.1 Z.p (ic q.2)
theorem tY.kp{Z:aK}{H H':Hp}{l:List (aa×bT)}(k:Kp H H')(h:tY Z H l):tY Z H' l:=fun q hq=>(h q hq).kp k
def partsOf(q:bI×Tg):List (aa×bT):=q.2.ps.zip q.1.parts
theorem YE{Z:aK}{A:Ad}{H:Hp}{q:bI×Tg}(h:i9 Z A H q.1 q.2):tY Z H (partsOf q):=fun r hr=>by
 obtain⟨i,hi⟩:=fH hr;unfold partsOf at hi;rw[j9] at hi;exact h.p i r.2 r.1 hi.2 hi.1
theorem YF{Z:aK}{A:Ad}{H:Hp}{q:bI×Tg}(h:i9 Z A H q.1 q.2):(partsOf q).map (·.1)=q.2.ps:=HV (by rw[h.len];exact aI _)
theorem YG{Z:aK}{A:Ad}{H:Hp}{q:bI×Tg}(h:i9 Z A H q.1 q.2):(partsOf q).map (·.2)=q.1.parts:=xN (by rw[h.len];exact aI _)
theorem M8(n:Nat):∀ss:List Nat,jT (nI n) (ss.map nI)=ss.contains n
 |[]=>rfl
 |m::ss=>by
  have ih:=M8 n ss;unfold jT at *;rw[bQ,pW,ih,afa]
  congr 1
  show((m:Int)==(n:Int))=(n==m);rw[ki];simp only[beq_iff_eq];omega
theorem YH(ss:List Nat):(ss.map nI).all lZ=true:=by
 rw[oC];intro x hx;obtain⟨n,_,rfl⟩:=bh.mp hx
 rfl
def sumK(ps:List bT)(k:Nat)(f:bT->Nat):Nat:=bz ((ps.filter fun p=>p.stage==k).map f)
theorem tZ(p:bT)(ps:List bT)(k:Nat)(f:bT->Nat):sumK (p::ps) k f=(if p.stage=k then f p else 0)+sumK ps k f:=by
 unfold sumK;rw[gO];by_cases h:p.stage=k
 ·simp[h,MM.sum_cons]
 ·simp[h]
theorem M9:∀ps:List bT,(∀p∈ps,MM.sW p)->bz (ps.map fun p=>p.kept)=sumK ps 2 (fun p=>p.kept)+sumK ps 3 (fun p=>p.kept)
 |[],_=>rfl
 |p::ps,h=>by
  have ih:=M9 ps fun q hq=>h q (bR _ hq);have hp:=h p bS;rw[bQ,MM.sum_cons,ih,tZ,tZ];by_cases h2:p.stage=2
  ·rw[if_pos h2,if_neg (by omega)];omega
  ·by_cases h3:p.stage=3
   ·rw[if_neg h2,if_pos h3];omega
   ·rw[if_neg h2,if_neg h3,hp h2 h3];omega
def pD(ps:List bT)(ss:List Nat):Nat:=bz ((ps.filter fun p=>ss.contains p.stage).map fun p=>p.share)
theorem YI(p:bT)(ps:List bT)(ss:List Nat):pD (p::ps) ss=(if ss.contains p.stage=true then p.share else 0)+pD ps ss:=by
 unfold pD;rw[gO];by_cases h:ss.contains p.stage=true
 ·rw[if_pos h,if_pos h];rfl
 ·rw[if_neg h,if_neg h,Bq]
theorem E8(ps:List bT)(k:Nat):pD ps [k]=sumK ps k fun p=>p.share:=by
 unfold pD sumK
 congr 3
 funext p
 simp only[afa,List.contains_nil,Qg]
theorem Na:∀ps:List bT,(∀p∈ps,p.kept<=p.share)->pD ps [2,3]=(sumK ps 2 (fun p=>p.share-p.kept)+sumK ps 3 (fun p=>p.share-p.kept))+(sumK ps 2 (fun p=>p.kept)+sumK ps 3 (fun p=>p.kept))
 |[],_=>rfl
 |p::ps,h=>by
  have ih:=Na ps fun q hq=>h q (bR _ hq);have hp:=h p bS;rw[YI,tZ,tZ,tZ,tZ,ih];by_cases h2:p.stage=2
  ·rw[if_pos (by simp[h2]),if_pos h2,if_neg (by omega),if_pos h2,if_neg (by omega)];omega
  ·by_cases h3:p.stage=3
   ·rw[if_pos (by simp[h3]),if_neg h2,if_pos h3,if_neg h2,if_pos h3];omega
   ·rw[if_neg (by simp[h2,h3]),if_neg h2,if_neg h3,if_neg h2,if_neg h3];omega
abbrev E9:aL:=top 82
theorem Fb:a9 ["parts","states","part"] ["parts","states"] (aQ E9):=bo
def Nb(Z:aK):Sp:=fun vs H Q _=>∃(l t:aa) (bps:List (aa×bT)) (ss:List Nat),vs=[.ref l,.ref t]/\H l=some (.lst (bps.map fun q=>V.ref q.1))/\H t=some (.tup (ss.map nI))/\tY Z H bps/\bps.length<=1000/\
 ∀H',af H H'->Q (nI (pD (bps.map (·.2)) ss)) H'
theorem YJ{f:aa}{fd:aU}(F:aR K "shares_together" "shares_together" E9 f fd)(T:Txt K mg Z):aN P w K mg base aT 1 f fd ["parts","states"] (Nb Z):=by
 refine F.bA Fb fun aD A0 outer s0 H vs Q E hr h=> ?_
 ·obtain⟨l,t,bps,ss,rfl,hl,ht,hp,hn,k⟩:=h;refine⟨rfl,_,(ax (aF (cC (jy (K:=K) rfl) (by rfl) T.jC jB (ae (eW (own:=[("part",2)]) rfl Fb.nd (dh (K:=K) (pv 0)) (dD rfl) (fun _ _ _ _ _=>by exact(bU (i:=2) Fb.nd rfl (.inl rfl))) (fun _ _ _ _ _=>by exact(gF (bb (zp (K:=K)) (aJ (K:=K) (pv 2) rfl) (pv 1) (by with_unfolding_all rfl)))) (fun _ _ _ _ _=>by exact(aJ (K:=K) (pv 2) rfl))) ai)))),?_⟩;refine⟨_,rfl,l,rfl,⟨_,ah.of hl⟩,fun D hD=>fF (fun i=>(bps[i]?).bind fun q=>if ss.contains q.2.stage=true then some (nI q.2.share) else none) hD (ah.of hl) (by rw[ao];exact dk hn) (fun i H2 x R R0 hx s2 h1 h2=> ?_) (fun H2 s2 hd=> ?_)⟩
  ·obtain⟨q,hq,rfl⟩:=cg hx;obtain⟨dx,hi⟩:=hp q (bP hq);have hi:=s2 _ _ hi;rw[hq] at h1 h2;refine⟨rfl,?_⟩;refine⟨_,rfl,_,⟨q.1,Z.p,_,_,rfl,hi,T.cY,T.mw,rfl⟩,_,rfl,t,_,rfl,.inr (cH.of (s2 _ _ ht)),rfl,YH ss,_,rfl,?_⟩;rw[show(if false=true then !jT (nI q.2.stage) (ss.map nI) else jT (nI q.2.stage) (ss.map nI))=ss.contains q.2.stage from M8 _ _];refine dG (fun c=> ?_) (fun c=> ?_)
   ·exact⟨_,rfl,_,⟨q.1,Z.p,_,_,rfl,hi,T.cY,T.nY,rfl⟩,h1 _ _ (by show(if ss.contains q.2.stage=true then _ else _)=_;rw[if_pos c]) (af.refl _)⟩
   ·exact h2 _ (by show(if ss.contains q.2.stage=true then _ else _)=_;rw[if_neg c]) (af.refl _)
  ·rw[ao,eQ,iQ] at hd;have e:(List.filter (fun x=>ss.contains x.2.stage) bps).map (fun x=>nI x.2.share)=(((bps.map (·.2)).filter fun p=>ss.contains p.stage).map fun p=>p.share).map nI:=by
    rw[kh,bw,bw];rfl
   rw[e,eY] at hd;refine⟨D,_,rfl,ah.of hd,?_⟩;rw[MM.sum_ints];exact k H2 s2
open PySem PySem.Spec PyProof.Rows L2
open Vbahak (State Carrier Part Ticket)
theorem k8{α β:Type}{f:α->List β}{m:Nat}:∀{l:List α},(∀x∈l,(f x).length<=m)->(l.flatMap f).length<=m*l.length
 |[],_=>by simp
 |a::l,h=>by
  have h1:=h a bS;have h2:=k8 (f:=f) (m:=m) (l:=l) fun x hx=>h x (bR _ hx);rw[xJ,dJ,bH,Nat.mul_succ];omega
theorem fN{α:Type}{l:List α}{i:Nat}{x:α}(h:l[i]? =some x):l.take (i+1)=l.take i++[x]:=by
 rw[List.take_add_one,h];rfl
theorem wK{Z:aK}{A:Ad}{G:Gh}{H:Hp}{s:State}(h:aE Z A G H s)(g:MM.Good s)(a:Nat):(own s G a).length<=40:=by
 unfold own;refine dr (lA _ _) ?_;rw[E6 h];exact g.jw
theorem mz{s:State}{G:Gh}{a:Nat}{q:bI×Tg}(h:q∈own s G a):q∈tz s G:=(c9.mp h).1
theorem Af{s:State}{G:Gh}{q:bI×Tg}(h:q∈tz s G):q.1∈s.tickets:=(Ii h).1
theorem Nc{Z:aK}{A:Ad}{G:Gh}{H:Hp}{s:State}(h:aE Z A G H s)(g:MM.Good s)(a:Nat){l:List (bI×Tg)}(hl:∀q∈l,q∈own s G a)(hn:l.length<=40):(l.flatMap partsOf).length<=320:=by
 have:=k8 (f:=partsOf) (m:=8) (l:=l) fun q hq=>by
  have hm:=mz (hl q hq);have ht:=my h hm;have:=g.hJ q.1 (Af hm);unfold partsOf;rw[rk];omega
 omega
abbrev Fc:aL:=top 83
theorem jc:a9 ["house","a","tickets","parts","ticket","worth","unflown","own","kept","earned","part"] ["house","a"] (aQ Fc):=bo
def Fd(tb:cf)(Z:aK):Sp:=fun vs H Q _=>∃(A:Ad) (G:Gh) (s:State) (a:Nat),vs=[.ref A.p,nI a]/\aE Z A G H s/\MM.Good s/\MM.Good2 s/\c8 tb Z A G H (bE s (.books a)) Q
theorem YK{f:aa}{fd:aU}(F:aR K "show_books" "show_books" Fc f fd)(T:Txt K mg Z)(gL:GM P w K mg base Z "has_carriers" ["self","numbers"] (mx Z))(Ag:aA P w K mg base "shares_together" 1 ["parts","states"] (Nb Z)):aN P w K mg base aT 2 f fd ["house","a"] (Fd tb Z):=by
 refine F.bA jc fun aD A0 outer s0 H vs Q E hr h=> ?_
 ·obtain⟨A,G,s,a,rfl,hh,g,g2,k⟩:=h;refine⟨rfl,_,(aw (bG (iE (fh (gr (pv 0) gL hr (by decide) (ae (a7 (ae (pv 1) ai)) ai))))
   (ax (aF (a7 (ae (cq rfl T.n9) ai))))
   bJ)
   (aw (J9 (nh (i:=2) (own:=[("ticket",4)]) rfl jc.nd rfl rfl (nj rfl rfl rfl (by decide+kernel)) (Cy (aJ (K:=K) (pv 0) rfl)) (dD rfl) (fun _ _ _ _ _=>by exact(bU (i:=4) jc.nd rfl (.inl rfl))) (fun _ _ _ _ _=>by exact(gF (bb cQ (aJ (K:=K) (pv 4) rfl) (pv 1) (aZ _)))) (fun _ _ _ _ _=>by exact(pv 4))))
   (aw (aP (i:=3) jc.nd rfl (.inl rfl) (a7 ai))
   (aw (iF fX rfl (dh (K:=K) (pv 2)) (bU (i:=4) jc.nd rfl (.inl rfl))
   (ax (iX (jn ka uw uv rY (pv 3) (ae (aJ (K:=K) (pv 4) rfl) ai)))))
   (aw (aP (i:=5) jc.nd rfl (.inl rfl) (cC (jy (K:=K) rfl) (by rfl) T.jC jB (ae (eW (own:=[("ticket",4)]) rfl jc.nd (dh (K:=K) (pv 2)) (dD rfl) (fun _ _ _ _ _=>by exact(bU (i:=4) jc.nd rfl (.inl rfl))) (fun _ _ _ _ _=>by exact iJ) (fun _ _ _ _ _=>by exact(aJ (K:=K) (pv 4) rfl))) ai)))
   (aw (aP (i:=6) jc.nd rfl (.inl rfl) (aX Ag hr (by decide) rfl (ae (pv 3) (ae (oU (ae (cq rfl T.zR) ai)) ai))))
   (aw (aP (i:=7) jc.nd rfl (.inl rfl) (aX Ag hr (by decide) rfl (ae (pv 3) (ae (oU (ae (cq rfl T.MJ) ai)) ai))))
   (aw (aP (i:=8) jc.nd rfl (.inl rfl) (cC (jy (K:=K) rfl) (by rfl) T.jC jB (ae (eW (own:=[("part",10)]) rfl jc.nd (dh (K:=K) (pv 3)) (dD rfl) (fun _ _ _ _ _=>by exact(bU (i:=10) jc.nd rfl (.inl rfl))) (fun _ _ _ _ _=>by exact iJ) (fun _ _ _ _ _=>by exact(aJ (K:=K) (pv 10) rfl))) ai)))
   (aw (aP (i:=9) jc.nd rfl (.inl rfl) (cp kF (aX Ag hr (by decide) rfl (ae (pv 3) (ae (oU (ae (cq rfl T.D9) (ae (cq rfl T.MK) ai))) ai))) (pv 8)))
   (ax (aF (a7 (ae ay (ae (pv 5) (ae (pv 6) (ae (pv 7) (ae (pv 8) (ae (pv 9) (ae (aX Ag hr (by decide) rfl (ae (pv 3) (ae (oU (ae (cq rfl T.ML) ai)) ai))) ai))))))))))))))))))),?_⟩
  refine⟨_,rfl,A.p,_,_,rfl,hh.hs,rfl,_,rfl,by show 1<=sizeLine;decide,fun l hl=> ?_⟩;have s1:af H (upd H l (.lst [nI a])):=af.new hl;have h1:=hh.kp (Kp.of s1);refine⟨A,G,s,l,[a],rfl,h1,au,(by show 1<=1000;decide),fun H2 s2=> ?_⟩;have cn:=s1.trans s2;have h2:=hh.kp (Kp.of cn);refine⟨_,rfl,?_⟩;simp only[bE] at k;have e:([a].all fun c=>bq s c)=bq s a:=by simp
  rw[e];cases q:bq s a with
  |false=>
   rw[if_pos q] at k
   refine a8 ⟨by show 1<=sizeLine;decide,fun l hl=>k.out hh cn hl⟩
  |true=>
   rw[if_neg (by rw[q];simp)] at k
   refine ba ?_
   refine⟨A.dT,_,h2.hT,trivial,fun od=> ?_⟩
   have npT:A.p≠A.dT:=cv h2.hs h2.hT (fun z=>nomatch z)
   rw[Ae]
   refine⟨_,rfl,_,⟨A.p,Z.h,_,_,rfl,by rw[ag npT];exact h2.hs,T.bZ,T.mr,rfl⟩,A.dT,od,_,rfl,au,fun D hD=>YC (fun i=>((tz s G)[i]?).bind fun q=>if (q.1.issuer==a)=true then some (V.ref q.2.a) else none) hD au (by rw[ao,E6 h2];exact dk (by have:=g.jw;omega)) (fun i H3 kk x R R0 hx s3 r1 r2=> ?_) (fun H3 s3 hd=> ?_)⟩
   ·obtain⟨q,hq,e1⟩:=cg hx
    cases e1
    obtain⟨dx,hi⟩:=(my h2 (bP hq)).o
    have hi:H3 q.2.a=some (.ins Z.t dx (zr q.1 q.2.l)):=s3 _ _ (by rw[ag (cv hi h2.hT (fun z=>nomatch z))];exact hi)
    rw[hq] at r1 r2
    refine⟨rfl,?_⟩
    refine⟨_,rfl,_,⟨q.2.a,Z.t,_,_,rfl,hi,T.kZ,T.zP,rfl⟩,_,rfl,rfl,_,rfl,?_⟩
    refine dG (fun c=> ?_) (fun c=> ?_)
    ·have c:q.1.issuer=a:=jb (by simpa using c)
     exact⟨_,rfl,r1 _ _ (by simp[c]) (af.refl _)⟩
    ·have c:¬q.1.issuer=a:=jD (by simpa using c)
     exact r2 _ (by simp[c]) (af.refl _)
   ·rw[ao,eQ,iQ] at hd
    have hd:H3 D=some (.lst ((own s G a).map fun q=>V.ref q.2.a)):=hd
    refine⟨s3 _ _ au,?_⟩
    have Fe:H2 A.dT=some (.dK ((tz s G).map fun q=>(kI q.1.t,V.ref q.2.a))):=by rw[<-Ae];exact h2.hT
    have s23:af H2 (upd H3 A.dT (.dK ((tz s G).map fun q=>(kI q.1.t,V.ref q.2.a)))):=Ac Fe s3
    have DT:D≠A.dT:=fun z=>by rw[z,au] at hD;cases hD
    have hd:(upd H3 A.dT (.dK ((tz s G).map fun q=>(kI q.1.t,V.ref q.2.a)))) D=some (.lst ((own s G a).map fun q=>V.ref q.2.a)):=by rw[ag DT];exact hd
    revert s23 hd
    generalize (upd H3 A.dT (.dK ((tz s G).map fun q=>(kI q.1.t,V.ref q.2.a))))=H4
    intro s23 hd
    have s4:=cn.trans s23
    have h4:=hh.kp (Kp.of s4)
    refine⟨du _,fun lp fU=> ?_⟩
    refine⟨_,rfl,D,rfl,⟨_,ah.of (af.new fU _ _ hd)⟩,lV (K:=K) (a:=D) (xs:=(own s G a).map fun q=>V.ref q.2.a) (fun i σ H'=>∃v4:Option V,σ=[some (.ref A.p),some (nI a),some (.ref D),some (.ref lp),v4,none,none,none,none,none,none]/\af H4 H'/\H' lp=some (.lst ((((own s G a).take i).flatMap partsOf).map fun q=>V.ref q.1))) ⟨none,rfl,af.new fU,au⟩ (fun i σ H' _ ⟨_,_,s5,_⟩=>ah.of (s5 _ _ hd)) ?_ ?_⟩
    ·rintro i y σ H' hi ⟨v4,rfl,s5,mB⟩
     obtain⟨q,hq,rfl⟩:=cg hi
     have tk:=my h4 (mz (bP hq))
     obtain⟨dx,ho⟩:=tk.o
     have e1:((own s G a).take (i+1)).flatMap partsOf=((own s G a).take i).flatMap partsOf++partsOf q:=by rw[fN hq,xE];simp
     refine⟨_,rfl,.inl ⟨rfl,_,ah.of mB⟩,_,rfl,_,⟨q.2.a,Z.t,_,_,rfl,s5 _ _ ho,T.kZ,T.wG,rfl⟩,lp,q.2.l,_,_,rfl,rfl,mB,s5 _ _ tk.l,?_,?_⟩
     ·rw[ao,ao]
      have h1:=Nc h4 g a (l:=(own s G a).take i) (fun q hq=>A5 hq) (by rw[iU];have:=wK h4 g a;omega)
      have h2:=g.hJ q.1 (Af (mz (bP hq)))
      have h3:=tk.len
      exact fO (eO (by omega))
     ·refine⟨_,rfl,fun b o e=> ?_,?_⟩
      ·rw[ag (aV e fU)];exact s5 _ _ e
      ·rw[au,e1,cZ,<-YF tk,bw];rfl
    ·rintro σ H5 ⟨v4,rfl,s5,mB⟩
     rw[ao,iq] at mB
     have s5':=s4.trans s5
     have h5:=hh.kp (Kp.of s5')
     have bp:tY Z H5 ((own s G a).flatMap partsOf):=fun r hr=>by
      obtain⟨q,hq,hr⟩:=Bb.mp hr;exact YE (my h5 (mz hq)) r hr
     have bl:((own s G a).flatMap partsOf).length<=320:=Nc h5 g a (fun q hq=>hq) (wK h5 g a)
     have ep:((own s G a).flatMap partsOf).map (·.2)=(s.tickets.filter fun t=>t.issuer==a).flatMap fun t=>t.parts:=by
      rw[<-E7 h5,afp,PQ];have:∀l:List (bI×Tg),(∀q∈l,q∈tz s G)->(l.flatMap fun q=>(partsOf q).map (·.2))=l.flatMap fun q=>q.1.parts:=by
       intro l
       induction l with
       |nil=>intro _;rfl
       |cons q l ih=>
        intro hl
        rw[xJ,xJ,ih (fun r hr=>hl r (bR _ hr)),YG (my h5 (hl q bS))]
      exact this _ fun q hq=>mz hq
     refine⟨_,rfl,D,rfl,⟨_,ah.of (s5 _ _ hd)⟩,fun D2 fV=>fF (fun i=>((own s G a)[i]?).bind fun q=>some (nI q.1.value)) fV (ah.of (s5 _ _ hd)) (by rw[ao];exact dk (by have:=wK h5 g a;omega)) (fun i H6 x R R0 hx s6 r1 r2=> ?_) (fun H6 s6 j2=> ?_)⟩
     ·obtain⟨q,hq,rfl⟩:=cg hx
      obtain⟨dx,ho⟩:=(my h5 (mz (bP hq))).o
      rw[hq] at r1
      exact⟨rfl,iP ⟨_,rfl,_,⟨q.2.a,Z.t,_,_,rfl,s6 _ _ ho,T.kZ,T.MG,rfl⟩,r1 _ _ rfl (af.refl _)⟩⟩
     ·rw[ao,eQ] at j2
      have ew:(own s G a).filterMap (fun q=>some (nI q.1.value))=(MM.ints ((s.tickets.filter fun t=>t.issuer==a).map fun t=>t.value)).map V.int:=by
       rw[<-eY,<-E7 h5,bw,bw,<-Hx];rfl
      rw[ew] at j2
      refine⟨D2,_,rfl,ah.of j2,?_⟩
      rw[MM.sum_ints]
      have k6:=Kp.of s6
      refine⟨_,rfl,by show 1<=sizeLine;decide,fun t1 Ff=> ?_⟩
      have n1:af H6 _:=af.new (o:= .tup [V.int 0]) Ff
      have s61:=s6.trans n1
      refine⟨lp,t1,(own s G a).flatMap partsOf,[0],rfl,s61 _ _ mB,au,bp.kp (Kp.of s61),by omega,fun H7 s7=> ?_⟩
      have s67:=s61.trans s7
      refine⟨_,rfl,by show 1<=sizeLine;decide,fun t2 tX=> ?_⟩
      have n2:af H7 _:=af.new (o:= .tup [V.int 1]) tX
      have s72:=s67.trans n2
      refine⟨lp,t2,(own s G a).flatMap partsOf,[1],rfl,s72 _ _ mB,au,bp.kp (Kp.of s72),by omega,fun H8 s8=> ?_⟩
      have s68:=s72.trans s8
      refine⟨_,rfl,lp,rfl,⟨_,ah.of (s68 _ _ mB)⟩,fun D3 pE=>fF (fun i=>(((own s G a).flatMap partsOf)[i]?).bind fun q=>some (nI q.2.kept)) pE (ah.of (s68 _ _ mB)) (by rw[ao];exact dk (by omega)) (fun i H9 x R R0 hx s9 r1 r2=> ?_) (fun H9 s9 Fg=> ?_)⟩
      ·obtain⟨q,hq,rfl⟩:=cg hx
       obtain⟨dx,ho⟩:=bp q (bP hq)
       rw[hq] at r1
       exact⟨rfl,iP ⟨_,rfl,_,⟨q.1,Z.p,_,_,rfl,s9 _ _ (s68 _ _ ho),T.cY,T.pA,rfl⟩,r1 _ _ rfl (af.refl _)⟩⟩
      ·rw[ao,eQ] at Fg
       have ek:((own s G a).flatMap partsOf).filterMap (fun q=>some (nI q.2.kept))=(MM.ints ((((own s G a).flatMap partsOf).map (·.2)).map fun p=>p.kept)).map V.int:=by
        rw[<-eY,bw,bw,<-Hx];rfl
       rw[ek] at Fg
       refine⟨D3,_,rfl,ah.of Fg,?_⟩
       rw[MM.sum_ints]
       have s69:=s68.trans s9
       refine⟨_,rfl,by show 2<=sizeLine;decide,fun t3 YL=> ?_⟩
       have n3:af H9 _:=af.new (o:= .tup [V.int 2,V.int 3]) YL
       have s93:=s69.trans n3
       refine⟨lp,t3,(own s G a).flatMap partsOf,[2,3],rfl,s93 _ _ mB,au,bp.kp (Kp.of s93),by omega,fun H10 s10=> ?_⟩
       have s60:=s93.trans s10
       refine⟨_,rfl,_,_,rfl,rfl,?_⟩
       refine⟨_,rfl,_,rfl,_,rfl,_,rfl,_,rfl,_,rfl,by show 1<=sizeLine;decide,fun t4 YM=> ?_⟩
       have n4:af H10 _:=af.new (o:= .tup [V.int 4]) YM
       have s04:=s60.trans n4
       refine⟨lp,t4,(own s G a).flatMap partsOf,[4],rfl,s04 _ _ mB,au,bp.kp (Kp.of s04),by omega,fun H11 s11=> ?_⟩
       refine⟨by show 7<=sizeLine;decide,fun l hl=> ?_⟩
       have fin:=k.out hh (s5'.trans (s04.trans s11)) hl
       rw[ep]
       have pin:∀p∈(s.tickets.filter fun t=>t.issuer==a).flatMap (fun t=>t.parts),MM.sW p/\p.kept<=p.share:=fun p hp=>by
        obtain⟨t,ht,hp⟩:=Bb.mp hp;have ht:=(c9.mp ht).1;exact⟨g2.iO t ht p hp,g.part t ht p hp⟩
       have q1:=M9 _ fun p hp=>(pin p hp).1
       have q2:=Na _ fun p hp=>(pin p hp).2
       rw[E8,E8,E8,q1]
       have q3:((pD ((s.tickets.filter fun t=>t.issuer==a).flatMap fun t=>t.parts) [2,3]:Nat):Int)-((sumK ((s.tickets.filter fun t=>t.issuer==a).flatMap fun t=>t.parts) 2 (fun p=>p.kept)+sumK ((s.tickets.filter fun t=>t.issuer==a).flatMap fun t=>t.parts) 3 (fun p=>p.kept):Nat):Int)=((sumK ((s.tickets.filter fun t=>t.issuer==a).flatMap fun t=>t.parts) 2 (fun p=>p.share-p.kept)+sumK ((s.tickets.filter fun t=>t.issuer==a).flatMap fun t=>t.parts) 3 (fun p=>p.share-p.kept):Nat):Int):=by
        rw[q2];omega
       dsimp only
       rw[q3]
       exact fin
open PySem PySem.Spec PyProof.Rows L2
open Vbahak (State Carrier Part Ticket)
def jF(b:Nat)(q:bI×Tg):List (aa×Nat×Nat×bT):=
 ((q.2.ps.zip q.1.parts.zipIdx).filter fun r=>r.2.1.carrier==b&&r.2.1.stage==2).map fun r=>(r.1,q.1.t,r.2.2,r.2.1)
def mC(s:State)(G:Gh)(b a:Nat):List (aa×Nat×Nat×bT):=(own s G a).flatMap (jF b)
theorem YN{Z:aK}{A:Ad}{H:Hp}{b:Nat}{q:bI×Tg}(h:i9 Z A H q.1 q.2):(jF b q).map (·.2)=(q.1.parts.zipIdx.filter fun p=>p.1.carrier==b&&p.1.stage==2).map fun p=>(q.1.t,p.2,p.1):=by
 unfold jF;have e:q.1.parts.zipIdx=(q.2.ps.zip q.1.parts.zipIdx).map (·.2):=(xN (by rw[oz,h.len];exact aI _)).symm
 conv=>rhs;rw[e,kh,bw]
 rw[bw];rfl
theorem wL{Z:aK}{A:Ad}{G:Gh}{H:Hp}{s:State}(h:aE Z A G H s)(b a:Nat):(mC s G b a).map (·.2)=eR s b a:=by
 unfold mC eR;rw[<-E7 h,afp,PQ];have:∀l:List (bI×Tg),(∀q∈l,q∈tz s G)->(l.flatMap fun q=>(jF b q).map (·.2))=l.flatMap fun q=>(q.1.parts.zipIdx.filter fun p=>p.1.carrier==b&&p.1.stage==2).map fun p=>(q.1.t,p.2,p.1):=by
  intro l
  induction l with
  |nil=>intro _;rfl
  |cons q l ih=>
   intro hl
   rw[xJ,xJ,ih (fun r hr=>hl r (bR _ hr)),YN (my h (hl q bS))]
 exact this _ fun q hq=>mz hq
theorem Nd{Z:aK}{A:Ad}{G:Gh}{H:Hp}{s:State}(h:aE Z A G H s){b a:Nat}{e:aa×Nat×Nat×bT}(he:e∈mC s G b a):
  ∃(k:Nat) (x:bI) (g:Tg),s.tickets[k]? =some x/\G.tg[k]? =some g/\x.t=e.2.1/\x.issuer=a/\x.parts[e.2.2.1]? =some e.2.2.2/\g.ps[e.2.2.1]? =some e.1/\e.2.2.2.carrier=b/\e.2.2.2.stage=2:=by
 obtain⟨q,hq,he⟩:=Bb.mp he;have ht:=my h (mz hq);have hi:q.1.issuer=a:=by simpa using(c9.mp hq).2
 obtain⟨k,hk⟩:=fH (mz hq);unfold tz at hk;rw[j9] at hk;obtain⟨r,hr,rfl⟩:=bh.mp he;obtain⟨tE,kT⟩:=c9.mp hr;obtain⟨j,hj⟩:=fH tE;rw[j9] at hj;have hz:=hj.2;rw[qZ] at hz;obtain⟨p,hp,e2⟩:=oy.mp hz;simp only[Bq] at e2;have e3:r.2=(p,j):=e2.symm;simp only[cM,beq_iff_eq] at kT;refine⟨k,q.1,q.2,hk.1,hk.2,rfl,hi,?_,?_,kT.1,kT.2⟩
 ·show q.1.parts[r.2.2]? =some r.2.1;rw[e3];exact hp
 ·show q.2.ps[r.2.2]? =some r.1;rw[e3];exact hj.1
theorem Fh{Z:aK}{A:Ad}{G:Gh}{H:Hp}{s:State}(h:aE Z A G H s)(g:MM.Good s)(b a:Nat){l:List (bI×Tg)}(hl:∀q∈l,q∈own s G a)(hn:l.length<=40):(l.flatMap (jF b)).length<=320:=by
 have:=k8 (f:=jF b) (m:=8) (l:=l) fun q hq=>by
  have hm:=mz (hl q hq);have ht:=my h hm;have:=g.hJ q.1 (Af hm);unfold jF;rw[ao];refine dr (lA _ _) ?_;rw[rk,oz];omega
 omega
theorem YO{Z:aK}{A:Ad}{H:Hp}{b:Nat}{q:bI×Tg}(h:i9 Z A H q.1 q.2):
  ((cN (q.2.ps.map V.ref).length).filterMap fun i=>((partsOf q)[i]?).bind fun r=>if (r.2.carrier==b&&r.2.stage==2)=true then some (V.ref r.1) else none)=(jF b q).map fun e=>V.ref e.1:=by
 have e1:(q.2.ps.map V.ref).length=(partsOf q).length:=by
  unfold partsOf;rw[ao,rk,h.len,x8]
 rw[e1,eQ,iQ];unfold jF partsOf;rw[bw];have e2:q.2.ps.zip q.1.parts=(q.2.ps.zip q.1.parts.zipIdx).map fun r=>(r.1,r.2.1):=by
  have:q.1.parts=q.1.parts.zipIdx.map (·.1):=by simp
  conv=>lhs;rw[this]
  rw[List.zip_map_right]
  rfl
 rw[e2,kh,bw]
 rfl
abbrev Fi:aL:=top 25
theorem wM:a9 ["house","b","a","found","ticket","part"] ["house","b","a"] (aQ Fi):=bo
def Fj(Z:aK):Sp:=fun vs H Q _=>∃(A:Ad) (G:Gh) (s:State) (b a:Nat),vs=[.ref A.p,nI b,nI a]/\aE Z A G H s/\MM.Good s/\
 ∀H' l,af H H'->H l=none->H' l=some (.lst ((mC s G b a).map fun e=>V.ref e.1))->Q (.ref l) H'
theorem YQ{f:aa}{fd:aU}(F:aR K "unbilled_parts" "unbilled_parts" Fi f fd)(T:Txt K mg Z):aN P w K mg base aT 1 f fd ["house","b","a"] (Fj Z):=by
 refine F.bA wM fun aD A0 outer s0 H vs Q E hr h=> ?_
 ·obtain⟨A,G,s,b,a,rfl,hh,g,k⟩:=h;refine⟨rfl,_,(aw (aP (i:=3) wM.nd rfl (.inl rfl) (a7 ai))
   (aw (J9 (iF fX rfl (Cy (aJ (K:=K) (pv 0) rfl)) (bU (i:=4) wM.nd rfl (.inl rfl))
   (ax (bG (bb cQ (aJ (K:=K) (pv 4) rfl) (pv 2) (aZ _))
    (ax (iX (jn ka uw uv rY (pv 3) (ae (eW (own:=[("part",5)]) rfl wM.nd (dh (K:=K) (aJ (K:=K) (pv 4) rfl)) (dD rfl) (fun _ _ _ _ _=>by exact(bU (i:=5) wM.nd rfl (.inl rfl))) (fun _ _ _ _ _=>by exact(gF (PW.pt (u9 (bb cQ (aJ (K:=K) (pv 5) rfl) (pv 1) (aZ _)) (yi (bb cQ (aJ (K:=K) (pv 5) rfl) (cq rfl T.D9) (aZ _))))))) (fun _ _ _ _ _=>by exact(pv 5))) ai))))
    bJ))))
   (ax (aF (pv 3))))),?_⟩
  refine⟨du _,fun lf og=> ?_⟩;have s1:af H _:=af.new (o:= .lst []) og;have h1:=hh.kp (Kp.of s1);refine⟨A.dT,_,h1.hT,trivial,fun od=> ?_⟩;have npT:A.p≠A.dT:=cv hh.hs hh.hT (fun z=>nomatch z);have nfT:lf≠A.dT:=fun z=>by rw[z,hh.hT] at og;cases og
  rw[Ae];refine⟨_,rfl,_,⟨A.p,Z.h,_,_,rfl,by rw[ag npT];exact h1.hs,T.bZ,T.mr,rfl⟩,A.dT,od,_,rfl,au,?_⟩;refine Ab (J:=kH A.dT od ((tz s G).map fun q=>(kI q.1.t,V.ref q.2.a))) (n:=(tz s G).length) (fun i σ H'=>∃v4:Option V,σ=[some (.ref A.p),some (nI b),some (nI a),some (.ref lf),v4,none]/\af (upd H A.dT (.bF od (.dK ((tz s G).map fun q=>(kI q.1.t,V.ref q.2.a))))) H'/\H' lf=some (.lst (((((tz s G).take i).filter fun q=>q.1.issuer==a).flatMap (jF b)).map fun e=>V.ref e.1)))
   ⟨none,rfl,fun c o e=> ?_,?_⟩ (fun i σ H' hi ⟨_,_,s2,_⟩=>⟨s2 _ _ au,by rw[ao];exact hi⟩) (fun σ H' ⟨_,_,s2,_⟩=>⟨s2 _ _ au,by rw[ao];exact aI _⟩) ?_ ?_
  ·by_cases z:c=A.dT
   ·subst z;rw[au] at e ⊢;exact e
   ·rw[ag z] at e ⊢;exact s1 _ _ e
  ·rw[ag nfT,au];rfl
  ·rintro i σ H0 x H' hi ⟨v4,rfl,s2,hf⟩ ⟨rfl,kk,hx⟩;obtain⟨q,hq,e1⟩:=cg hx;cases e1;have tk:=my hh (bP hq);obtain⟨dx,ho⟩:=tk.o;have up:∀{c:aa} {o:HO},H c=some o->(∀l,o≠.dK l)->H' c=some o:=fun e n=>s2 _ _ (by rw[ag (cv e hh.hT (n _))];exact e);have ho:=up ho (fun _ z=>nomatch z);have hl:=up tk.l (fun _ z=>nomatch z);refine⟨_,rfl,_,⟨q.2.a,Z.t,_,_,rfl,ho,T.kZ,T.zP,rfl⟩,_,rfl,rfl,_,rfl,?_⟩;refine dG (fun c=> ?_) (fun c=> ?_)
   ·have c:q.1.issuer=a:=jb (by simpa using c);refine⟨_,rfl,.inl ⟨rfl,_,ah.of hf⟩,_,rfl,_,⟨q.2.a,Z.t,_,_,rfl,ho,T.kZ,T.wG,rfl⟩,q.2.l,rfl,⟨_,ah.of hl⟩,fun D hD=>fF (fun i=>((partsOf q)[i]?).bind fun r=>if (r.2.carrier==b&&r.2.stage==2)=true then some (V.ref r.1) else none) hD (ah.of hl) (by rw[ao];exact dk (by have:=tk.len;have:=g.hJ q.1 (Af (bP hq));omega)) (fun i H3 x R R0 hx s3 r1 r2=> ?_) (fun H3 s3 hd=> ?_)⟩
    ·obtain⟨pb,qI,rfl⟩:=cg hx;obtain⟨p,hp⟩:=kQ (l:=q.2.ps) (m:=q.1.parts) tk.len.symm qI;obtain⟨dp,Ah⟩:=tk.p i p pb hp qI;have Ah:=s3 _ _ (up Ah (fun _ z=>nomatch z));have er:(partsOf q)[i]? =some (pb,p):=by unfold partsOf;rw[j9];exact⟨qI,hp⟩
     rw[er] at r1 r2;refine⟨rfl,?_⟩;refine⟨_,rfl,_,⟨pb,Z.p,_,_,rfl,Ah,T.cY,T.wF,rfl⟩,_,rfl,rfl,_,rfl,?_⟩;refine dG (fun c1=> ?_) (fun c1=> ?_)
     ·have c1:p.carrier=b:=jb (by simpa using c1);refine⟨_,rfl,_,⟨pb,Z.p,_,_,rfl,Ah,T.cY,T.mw,rfl⟩,rfl,_,rfl,?_⟩;refine dG (fun c2=> ?_) (fun c2=> ?_)
      ·have c2:p.stage=2:=jb (b:=2) (of_decide_eq_true c2);exact⟨_,rfl,r1 _ _ (by simp[c1,c2]) (af.refl _)⟩
      ·have c2:¬p.stage=2:=jD (b:=2) (fun z=>c2 (decide_eq_true z));exact r2 _ (by simp[c2]) (af.refl _)
     ·have c1:¬p.carrier=b:=jD (by simpa using c1);exact ba (r2 _ (by simp[c1]) (af.refl _))
    ·rw[YO tk] at hd;have e1:(((tz s G).take (i+1)).filter fun q=>q.1.issuer==a).flatMap (jF b)=(((tz s G).take i).filter fun q=>q.1.issuer==a).flatMap (jF b)++jF b q:=by
      rw[fN hq,mK,xE];simp[c]
     refine⟨lf,D,_,_,rfl,rfl,s3 _ _ hf,hd,?_,?_⟩
     ·rw[ao,ao];have hm:∀r∈((tz s G).take (i+1)).filter (fun q=>q.1.issuer==a),r∈own s G a:=fun r hr=>by
       obtain⟨z1,z2⟩:=c9.mp hr;exact c9.mpr ⟨A5 z1,z2⟩
      have YR:(((tz s G).take (i+1)).filter fun q=>q.1.issuer==a).length<=40:=by
       refine dr (lA _ _) ?_;rw[iU,E6 hh];have:=g.jw;omega
      have:=Fh hh g b a hm YR;rw[e1,dJ] at this;exact fO (eO (by omega))
     ·refine⟨_,rfl,fun c o e=> ?_,?_⟩
      ·have:c≠lf:=fun z=>by
        rw[z,ag nfT,og] at e;cases e
       rw[ag this];exact s3 _ _ (s2 _ _ e)
      ·rw[au,e1,cZ]
   ·have c:¬q.1.issuer=a:=jD (by simpa using c);refine⟨_,rfl,s2,?_⟩;have e1:(((tz s G).take (i+1)).filter fun q=>q.1.issuer==a)=((tz s G).take i).filter fun q=>q.1.issuer==a:=by
     rw[fN hq,mK];simp[c]
    rw[e1];exact hf
  ·rintro σ H' ⟨v4,rfl,s2,hf⟩;rw[iq] at hf;refine⟨s2 _ _ au,?_⟩;have Fe:H A.dT=some (.dK ((tz s G).map fun q=>(kI q.1.t,V.ref q.2.a))):=by rw[<-Ae];exact hh.hT
   exact⟨_,rfl,k _ lf (Ac Fe s2) og (by rw[ag nfT];exact hf)⟩
abbrev Fl:aL:=top 34
theorem Ai:a9 ["house","b","a","parts","part"] ["house","b","a"] (aQ Fl):=bo
def Fm(tb:cf)(Z:aK):Sp:=fun vs H Q _=>∃(A:Ad) (G:Gh) (s:State) (b a:Nat),vs=[.ref A.p,nI b,nI a]/\aE Z A G H s/\MM.Good s/\c8 tb Z A G H (bE s (.unbilled b a)) Q
theorem YS{f:aa}{fd:aU}(F:aR K "unbilled" "unbilled" Fl f fd)(T:Txt K mg Z)(gL:GM P w K mg base Z "has_carriers" ["self","numbers"] (mx Z))(Fn:aA P w K mg base "unbilled_parts" 1 ["house","b","a"] (Fj Z)):aN P w K mg base aT 2 f fd ["house","b","a"] (Fm tb Z):=by
 refine F.bA Ai fun aD A0 outer s0 H vs Q E hr h=> ?_
 ·obtain⟨A,G,s,b,a,rfl,hh,g,k⟩:=h;refine⟨rfl,_,(aw (bG (iE (fh (gr (pv 0) gL hr (by decide) (ae (a7 (ae (pv 1) (ae (pv 2) ai))) ai))))
   (ax (aF (a7 (ae (cq rfl T.n9) ai))))
   bJ)
   (aw (bG (bb cQ (pv 2) (pv 1) (aZ _))
   (ax (aF (a7 (ae (cq rfl T.zU) ai))))
   bJ)
   (aw (aP (i:=3) Ai.nd rfl (.inl rfl) (aX Fn hr (by decide) rfl (ae (pv 0) (ae (pv 1) (ae (pv 2) ai)))))
   (ax (aF (a7 (ae ay (ae (cC (fT (K:=K)) (by rfl) T.fm fE (ae (pv 3) ai)) (ae (cC (jy (K:=K) rfl) (by rfl) T.jC jB (ae (eW (own:=[("part",4)]) rfl Ai.nd (dh (K:=K) (pv 3)) (dD rfl) (fun _ _ _ _ _=>by exact(bU (i:=4) Ai.nd rfl (.inl rfl))) (fun _ _ _ _ _=>by exact iJ) (fun _ _ _ _ _=>by exact(cp kF (aJ (K:=K) (pv 4) rfl) (aJ (K:=K) (pv 4) rfl)))) ai)) ai))))))))),?_⟩
  refine⟨_,rfl,A.p,_,_,rfl,hh.hs,rfl,_,rfl,_,rfl,by show 2<=sizeLine;decide,fun l hl=> ?_⟩;have s1:af H (upd H l (.lst [nI b,nI a])):=af.new hl;have h1:=hh.kp (Kp.of s1);refine⟨A,G,s,l,[b,a],rfl,h1,au,(by show 2<=1000;decide),fun H2 s2=> ?_⟩;have cn:=s1.trans s2;have h2:=hh.kp (Kp.of cn);refine⟨_,rfl,?_⟩;simp only[bE] at k;have e:([b,a].all fun c=>bq s c)=(bq s b&&bq s a):=by simp
  rw[e];cases q:(bq s b&&bq s a) with
  |false=>
   rw[if_pos q] at k
   refine a8 ⟨by show 1<=sizeLine;decide,fun l hl=>k.out hh cn hl⟩
  |true=>
   rw[if_neg (by rw[q];simp)] at k
   refine ba ?_
   refine⟨_,rfl,_,rfl,rfl,_,rfl,?_⟩
   refine dG (fun h=> ?_) (fun h=> ?_)
   ·have h:a=b:=jb (by simpa using h)
    rw[if_pos h] at k
    exact⟨by show 1<=sizeLine;decide,fun l hl=>k.out hh cn hl⟩
   ·have h:¬a=b:=jD (by simpa using h)
    rw[if_neg h] at k
    refine⟨_,rfl,_,rfl,_,rfl,A,G,s,b,a,rfl,h2,g,fun H3 lu s3 Fo mq=> ?_⟩
    have dm:=cn.trans s3
    have h3:=hh.kp (Kp.of dm)
    have bl:(mC s G b a).length<=320:=Fh h3 g b a (fun q hq=>hq) (wK h3 g a)
    refine⟨_,rfl,lu,_,rfl,.inl (ah.of mq),?_⟩
    refine⟨_,rfl,lu,rfl,⟨_,ah.of mq⟩,fun D hD=>fF (fun i=>((mC s G b a)[i]?).bind fun e=>some (nI (e.2.2.2.share-e.2.2.2.kept))) hD (ah.of mq) (by rw[ao];exact dk (by omega)) (fun i H4 x R R0 hx s4 r1 r2=> ?_) (fun H4 s4 hd=> ?_)⟩
    ·obtain⟨ee,wN,rfl⟩:=cg hx
     obtain⟨kk,xx,gg,t1,t2,t3,t4,t5,t6,_⟩:=Nd h3 (bP wN)
     obtain⟨dx,ho⟩:=(h3.tV kk xx gg t1 t2).p _ _ _ t5 t6
     have ho:=s4 _ _ ho
     have kl:=g.part xx (bP t1) _ (bP t5)
     rw[wN] at r1
     refine⟨rfl,iP ⟨_,rfl,_,⟨ee.1,Z.p,_,_,rfl,ho,T.cY,T.nY,rfl⟩,_,rfl,_,⟨ee.1,Z.p,_,_,rfl,ho,T.cY,T.pA,rfl⟩,_,_,rfl,rfl,r1 _ _ ?_ (af.refl _)⟩⟩
     show some (V.int ((ee.2.2.2.share-ee.2.2.2.kept:Nat):Int))=some (V.int ((ee.2.2.2.share:Int)-(ee.2.2.2.kept:Int)))
     rw[Int.ofNat_sub kl]
    ·rw[ao,eQ] at hd
     have ew:(mC s G b a).filterMap (fun e=>some (nI (e.2.2.2.share-e.2.2.2.kept)))=(MM.ints ((eR s b a).map fun z=>z.2.2.share-z.2.2.kept)).map V.int:=by
      rw[<-eY,<-wL h3,bw,bw,<-Hx];rfl
     rw[ew] at hd
     refine⟨D,_,rfl,ah.of hd,?_⟩
     rw[MM.sum_ints,ao]
     refine⟨by show 3<=sizeLine;decide,fun l hl=> ?_⟩
     have fin:=k.out hh (dm.trans s4) hl
     rw[<-wL h3,ao] at fin
     rw[<-wL h3]
     exact fin
open PySem PySem.Spec PyProof.Rows L2
open Vbahak (State Carrier Part Ticket)
abbrev Fp:aL:=top 26
theorem Nf:a9 ["house","b","a","part","amount"] ["house","b","a","part"] (aQ Fp):=bo
def Ng(Z:aK):Sp:=fun vs H Q _=>∃(A:Ad) (G:Gh) (s:State) (b a k i:Nat) (x:bI) (gg:Tg) (p:bT) (pb:aa) (y:d8) (r:Nat×Nat),vs=[.ref A.p,nI b,nI a,.ref pb]/\aE Z A G H s/\s.tickets[k]? =some x/\G.tg[k]? =some gg/\x.parts[i]? =some p/\gg.ps[i]? =some pb/\
 oB s a=some y/\lG s y.currency=some r/\(y.currency≠0->r.1<=1000000/\1<=r.2/\r.2<=1000000)/\p.kept<=p.share/\s.claims.length<=999/\
 ∀H' cl' l,aE Z A {G with cl:=cl'} H' {s with claims:=s.claims++[ir s 0 b a (gz (p.share-p.kept) r.1 r.2)],tickets:=s.tickets.set k {x with parts:=x.parts.set i {p with stage:=3,claim:=s.claims.length+1}}}->cP A H H'->H l=none->
  H' l=some (.lst [nI (s.claims.length+1),nI (gz (p.share-p.kept) r.1 r.2)])->Q (.ref l) H'
theorem YT{f:aa}{fd:aU}(F:aR K "bill_part" "bill_part" Fp f fd)(T:Txt K mg Z)(EG:GM P w K mg base Z "add_claim" ["self","claim"] (Er Z))(YU:aA P w K mg base "in_clearing" 1 ["house","currency","amount"] (MY Z))
  (EH:i7 P w K mg base "Claim" Z.k 1 ["self","to","of","amount","month","depth","parent"] (Ej Z)):aN P w K mg base aT 3 f fd ["house","b","a","part"] (Ng Z):=by
 refine F.bA Nf fun aD A0 outer s0 H vs Q E hr h=> ?_
 ·obtain⟨A,G,s,b,a,kk,i,x,gg,p,pb,y,r,rfl,hh,hk,jE,hp,qI,hy,z3,Fq,kl,hn,k⟩:=h;have hu:=fk hr;refine⟨rfl,_,(aw (aP (i:=4) Nf.nd rfl (.inl rfl) (aX YU hr (by decide) rfl (ae (pv 0) (ae (aJ (K:=K) (fR hu (aJ (K:=K) (pv 0) rfl) (pv 2) (fun _ _=>rfl)) rfl) (ae (cp kF (aJ (K:=K) (pv 3) rfl) (aJ (K:=K) (pv 3) rfl)) ai)))))
   (aw (c7 (K:=K) (pv 3) (gr (pv 0) EG hr (by decide) (ae (vY EH hr (by decide) rfl (ae (pv 1) (ae (pv 2) (ae (pv 4) (ae (aJ (K:=K) (pv 0) rfl) (ae ay (ae ay ai))))))) ai)) rfl)
   (aw (c7 (K:=K) (pv 3) (cq rfl T.MK) rfl)
   (ax (aF (a7 (ae (aJ (K:=K) (pv 3) rfl) (ae (pv 4) ai)))))))),?_⟩
  obtain⟨ya,hv,dy,Fs⟩:=hh.cV a y hy;have hd:bj H A.dC (nI a) (some (.ref ya)):=by rw[<-hv];exact bj.k (k:=kI a) hh.hC
  obtain⟨dp,Nh⟩:=(hh.tV kk x gg hk jE).p i p pb hp qI;refine⟨_,rfl,_,rfl,_,⟨A.p,Z.h,_,_,rfl,hh.hs,T.bZ,T.ja,rfl⟩,_,rfl,A.dC,_,rfl,hd,_,⟨ya,Z.c,_,_,rfl,Fs,T.gv,T.wC,rfl⟩,_,rfl,_,⟨pb,Z.p,_,_,rfl,Nh,T.cY,T.nY,rfl⟩,_,rfl,_,⟨pb,Z.p,_,_,rfl,Nh,T.cY,T.pA,rfl⟩,_,_,rfl,rfl,A,G,s,y.currency,p.share-p.kept,r,?_,hh,Fq,z3,?_⟩
  ·show[V.ref A.p,nI y.currency,V.int ((p.share:Int)-(p.kept:Int))]=[V.ref A.p,nI y.currency,V.int ((p.share-p.kept:Nat):Int)];rw[Int.ofNat_sub kl]
  refine⟨_,rfl,A.p,_,_,rfl,hh.hs,rfl,_,rfl,_,rfl,_,rfl,_,rfl,_,⟨A.p,Z.h,_,_,rfl,hh.hs,T.bZ,T.tM,rfl⟩,fun z dz nz nd ne=> ?_⟩;refine⟨z,dz,b,a,gz (p.share-p.kept) r.1 r.2,s.month,0,0,rfl,au,fun H1 ho kp=>⟨rfl,?_⟩⟩;have s1:af H H1:=af.made nz nd kp;have h1:=hh.kp (Kp.of s1);have zn:z∉G.cl:=fun q=>by
   obtain⟨j,hj⟩:=fH q;obtain⟨x',hx'⟩:=kQ (l:=G.cl) (m:=s.claims) hh.kL.symm hj;obtain⟨d',e'⟩:=hh.kV j x' z hx' hj;rw[e'] at nz;cases nz
  refine⟨A,G,s,ir s 0 b a (gz (p.share-p.kept) r.1 r.2),z,rfl,h1,ho,zn,hn,fun H2 h2 b2=> ?_⟩;obtain⟨dp2,Ni⟩:=(h2.tV kk x gg hk jE).p i p pb hp qI;refine⟨_,rfl,pb,Z.p,_,_,rfl,Ni,T.cY,T.zO,(by show 5<1000;decide),?_⟩;refine⟨_,rfl,pb,Z.p,_,_,rfl,au,T.cY,T.mw,(by show 5<1000;decide),?_⟩;refine⟨_,rfl,_,⟨pb,Z.p,_,_,rfl,au,T.cY,T.zO,rfl⟩,_,rfl,by show 2<=sizeLine;decide,fun l hl=> ?_⟩;have bt:bM pb H2 (upd (upd H2 pb (.ins Z.p dp2 (cX "claim" (nI (s.claims.length+1)) (ic p)))) pb (.ins Z.p dp2 (cX "state" (.int 3) (cX "claim" (nI (s.claims.length+1)) (ic p))))):=fun c o e n=>by rw[ag n,ag n];exact e
  have h3:=h2.setPart (p':={p with stage:=3,claim:=s.claims.length+1}) hk jE hp qI bt ⟨dp2,au⟩;have sl:=af.new (o:= .lst [nI (s.claims.length+1),nI (gz (p.share-p.kept) r.1 r.2)]) hl;have lpb:l≠pb:=fun q=>by rw[q,au] at hl;cases hl
  have l2:H2 l=none:=by rw[ag lpb,ag lpb] at hl;exact hl
  have lH:H l=none:=by
   cases q:H l with
   |none=>rfl
   |some o=>
    have e1:=s1 _ _ q
    have e2:H2 l=some o:=b2 _ _ e1 (fun w=>by rw[w,h2.hK] at l2;cases l2)
    rw[e2] at l2;cases l2
  exact k _ _ l (h3.kp (Kp.of sl)) ((((cP.of s1).trans b2.MX).trans (bt.fr Ni rfl)).trans (cP.of sl)) lH au
theorem YV{c:Prop}[Decidable c]{A B:Prop}(hB:B)(hA:c->B->A):if c then A else B:=by
 by_cases h:c
 ·rw[if_pos h];exact hA h hB
 ·rw[if_neg h];exact hB
theorem aE.off{Z:aK}{A:Ad}{G:Gh}{H H':Hp}{s:State}(h:aE Z A G H s){l:aa}{xs:List V}(hl:H l=some (.lst xs))(hC:l≠A.lC)(hT:∀(i:Nat) g,G.tg[i]? =some g->g.l≠l)(k:bM l H H'):aE Z A G H' s:=by
 have no:∀{c:aa} {o:HO},H c=some o->(∀xs,o≠.lst xs)->H' c=some o:=fun e n=>k _ _ e (cv e hl (n _));have ni:∀{c C:aa} {fs:List (Str×V)},bV H c C fs->bV H' c C fs:=fun⟨d,e⟩=>⟨d,no e (fun _ z=>nomatch z)⟩;refine {dd:=h.dd,hs:=no h.hs (fun _ z=>nomatch z),hC:=no h.hC (fun _ z=>nomatch z),cK:=h.cK,cV:=fun c y e=> ?_,cI:=h.cI,hR:=no h.hR (fun _ z=>nomatch z),rN:=h.rN,rV:=fun c r n e=> ?_,rL:=h.rL,hX:=no h.hX (fun _ z=>nomatch z),xV:=h.xV,xL:=h.xL,hT:=no h.hT (fun _ z=>nomatch z),tL:=h.tL,tV:=fun i' y g' e1 e2=> ?_,tI:=h.tI,hK:=k _ _ h.hK (d7 hC),kL:=h.kL,kN:=h.kN,kV:=fun i' y b e1 e2=>ni (h.kV i' y b e1 e2)}
 ·obtain⟨b,h1,h2⟩:=h.cV c y e;exact⟨b,h1,ni h2⟩
 ·obtain⟨b,h1,h2⟩:=h.rV c r n e;exact⟨b,h1,no h2 (fun _ z=>nomatch z)⟩
 ·have t:=h.tV i' y g' e1 e2;exact⟨ni t.o,k _ _ t.l (hT i' g' e2),t.n,t.len,fun j' q b' e3 e4=>ni (t.p j' q b' e3 e4)⟩
abbrev Ft:aL:=top 27
theorem wO:a9 ["house","b","a","currency","parts","answer","part"] ["house","b","a"] (aQ Ft):=bo
def Fu(tb:cf)(Z:aK):Sp:=fun vs H Q _=>∃(A:Ad) (G:Gh) (s:State) (b a:Nat),vs=[.ref A.p,nI b,nI a]/\aE Z A G H s/\MM.Good s/\c8 tb Z A G H (bE s (.bill b a)) Q
def j3(s:State)(b a:Nat)(r:Nat×Nat):List dj:=(eR s b a).zipIdx.map fun z=>ir s z.2 b a (gz (z.1.2.2.share-z.1.2.2.kept) r.1 r.2)
theorem Nj{s:State}{b a j:Nat}{r:Nat×Nat}{e:Nat×Nat×bT}(h:(eR s b a)[j]? =some e):(j3 s b a r)[j]? =some (ir s j b a (gz (e.2.2.share-e.2.2.kept) r.1 r.2)):=by
 unfold j3;rw[aS,qZ,h];simp
def ig(s:State)(b a j:Nat)(r:Nat×Nat):State:={s with claims:=s.claims++(j3 s b a r).take j,tickets:=s.tickets.map (MM.fD s (eR s b a) b a j)}
def j4(s:State)(b a j:Nat)(r:Nat×Nat):List Int:=0::((j3 s b a r).take j).flatMap fun x=>[(x.id:Int),(x.amount:Int)]
theorem YW{f:aa}{fd:aU}(F:aR K "bill" "bill" Ft f fd)(T:Txt K mg Z)(gL:GM P w K mg base Z "has_carriers" ["self","numbers"] (mx Z))(Fn:aA P w K mg base "unbilled_parts" 1 ["house","b","a"] (Fj Z))(YX:aA P w K mg base "bill_part" 3 ["house","b","a","part"] (Ng Z)):aN P w K mg base aT 4 f fd ["house","b","a"] (Fu tb Z):=by
 refine F.bA wO fun aD A0 outer s0 H vs Q E hr h=> ?_
 ·obtain⟨A,G,s,b,a,rfl,hh,g,k⟩:=h;have hu:=fk hr;refine⟨rfl,_,(aw (bG (iE (fh (gr (pv 0) gL hr (by decide) (ae (a7 (ae (pv 1) (ae (pv 2) ai))) ai))))
   (ax (aF (a7 (ae (cq rfl T.n9) ai))))
   bJ)
   (aw (bG (bb cQ (pv 2) (pv 1) (aZ _))
   (ax (aF (a7 (ae (cq rfl T.zU) ai))))
   bJ)
   (aw (aP (i:=3) wO.nd rfl (.inl rfl) (aJ (K:=K) (fR hu (aJ (K:=K) (pv 0) rfl) (pv 2) (fun _ _=>rfl)) rfl))
   (aw (bG (PW.pt (u9 (bb lW (pv 3) ay (aZ _)) (yi (yh (J6 hu (pv 3) (aJ (K:=K) (pv 0) rfl))))))
   (ax (aF (a7 (ae (cq rfl T.zT) ai))))
   bJ)
   (aw (aP (i:=4) wO.nd rfl (.inl rfl) (aX Fn hr (by decide) rfl (ae (pv 0) (ae (pv 1) (ae (pv 2) ai)))))
   (aw (bG (bb vj (cp jR (cC (fT (K:=K)) (by rfl) T.fm fE (ae (aJ (K:=K) (pv 0) rfl) ai)) (cC (fT (K:=K)) (by rfl) T.fm fE (ae (pv 4) ai))) (cq rfl T.MI) (aZ _))
   (ax (aF (a7 (ae (cq rfl T.zS) ai))))
   bJ)
   (aw (aP (i:=5) wO.nd rfl (.inl rfl) (a7 (ae ay ai)))
   (aw (iF fX rfl (dh (K:=K) (pv 4)) (bU (i:=6) wO.nd rfl (.inl rfl))
   (ax (iX (jn ka uw uv rY (pv 5) (ae (aX YX hr (by decide) rfl (ae (pv 0) (ae (pv 1) (ae (pv 2) (ae (pv 6) ai))))) ai)))))
   (ax (aF (pv 5))))))))))),?_⟩
  refine⟨_,rfl,A.p,_,_,rfl,hh.hs,rfl,_,rfl,_,rfl,by show 2<=sizeLine;decide,fun l hl=> ?_⟩;have s1:af H (upd H l (.lst [nI b,nI a])):=af.new hl;have h1:=hh.kp (Kp.of s1);refine⟨A,G,s,l,[b,a],rfl,h1,au,(by show 2<=1000;decide),fun H2 s2=> ?_⟩;have cn:=s1.trans s2;have h2:=hh.kp (Kp.of cn);refine⟨_,rfl,?_⟩;simp only[bE] at k;have e:([b,a].all fun c=>bq s c)=(bq s b&&bq s a):=by simp
  rw[e];cases qb:oB s b with
  |none=>
   have e1:bq s b=false:=by unfold bq;rw[qb];rfl
   rw[qb] at k
   rw[e1]
   refine a8 ⟨by show 1<=sizeLine;decide,fun l hl=>k.out hh cn hl⟩
  |some xb=>
   cases qa:oB s a with
   |none=>
    have e1:bq s a=false:=by unfold bq;rw[qa];rfl
    rw[qb,qa] at k
    rw[e1,Iq]
    refine a8 ⟨by show 1<=sizeLine;decide,fun l hl=>k.out hh cn hl⟩
   |some y=>
    have e1:bq s a=true:=by unfold bq;rw[qa];rfl
    have e2:bq s b=true:=by unfold bq;rw[qb];rfl
    rw[qb,qa] at k
    simp only at k
    rw[e1,e2]
    refine ba ?_
    refine⟨_,rfl,_,rfl,rfl,_,rfl,?_⟩
    refine dG (fun h=> ?_) (fun h=> ?_)
    ·have h:a=b:=jb (by simpa using h)
     rw[if_pos h] at k
     exact⟨by show 1<=sizeLine;decide,fun l hl=>k.out hh cn hl⟩
    ·have h:¬a=b:=jD (by simpa using h)
     rw[if_neg h] at k
     obtain⟨ya,hv,dy,Fs⟩:=h2.cV a y qa
     have hd:bj H2 A.dC (nI a) (some (.ref ya)):=by rw[<-hv];exact bj.k (k:=kI a) h2.hC
     refine⟨_,rfl,_,⟨A.p,Z.h,_,_,rfl,h2.hs,T.bZ,T.ja,rfl⟩,_,rfl,A.dC,_,rfl,hd,_,⟨ya,Z.c,_,_,rfl,Fs,T.gv,T.wC,rfl⟩,?_⟩
     refine⟨_,rfl,rfl,_,rfl,?_⟩
     cases qr:lG s y.currency with
     |none=>
      rw[qr] at k
      have c:¬y.currency=0:=fun z=>by unfold lG at qr;rw[if_pos z] at qr;cases qr
      have c2:¬nI y.currency=V.int 0:=fun z=>c (wH z)
      rw[decide_eq_false c2]
      refine a8 ?_
      refine⟨_,rfl,_,rfl,_,⟨A.p,Z.h,_,_,rfl,h2.hs,T.bZ,T.wB,rfl⟩,A.dR,_,rfl,bj.k (k:=kI y.currency) h2.hR,_,rfl,?_⟩
      rw[h2.rN _ c qr]
      exact a8 ⟨by show 1<=sizeLine;decide,fun l hl=>k.out hh cn hl⟩
     |some r=>
      rw[qr] at k
      simp only at k
      refine YV ?_ (fun c hB=> ?_)
      case refine_2=>
       have c:¬y.currency=0:=wI (by simpa using c)
       obtain⟨rt,YY,_⟩:=h2.rV _ r c qr
       refine⟨_,rfl,_,rfl,_,⟨A.p,Z.h,_,_,rfl,h2.hs,T.bZ,T.wB,rfl⟩,A.dR,_,rfl,bj.k (k:=kI y.currency) h2.hR,_,rfl,?_⟩
       rw[YY]
       exact hB
      case refine_1=>
       refine ba ?_
       have Fq:y.currency≠0->r.1<=1000000/\1<=r.2/\r.2<=1000000:=fun hc=>(Yd g hc qr).2
       refine⟨_,rfl,_,rfl,_,rfl,A,G,s,b,a,rfl,h2,g,fun H3 lu s3 Fo mq=> ?_⟩
       have dm:=cn.trans s3
       have h3:=hh.kp (Kp.of dm)
       have bl:(mC s G b a).length<=320:=Fh h3 g b a (fun q hq=>hq) (wK h3 g a)
       have blen:(mC s G b a).length=(eR s b a).length:=by rw[<-wL h3,ao]
       refine⟨_,rfl,_,⟨A.p,Z.h,_,_,rfl,h3.hs,T.bZ,T.mv,rfl⟩,A.lC,_,rfl,.inl (ah.of h3.hK),_,rfl,lu,_,rfl,.inl (ah.of mq),_,_,rfl,rfl,_,_,rfl,rfl,_,rfl,?_⟩
       rw[ao,ao,h3.kL,blen]
       refine dG (fun h=> ?_) (fun h=> ?_)
       ·have h:(200:Int)<(s.claims.length:Int)+((eR s b a).length:Int):=by simpa using h
        rw[if_pos (show pQ<s.claims.length+(eR s b a).length by unfold pQ;omega)] at k
        exact⟨by show 1<=sizeLine;decide,fun l hl=>k.out hh dm hl⟩
       ·have h:¬(200:Int)<(s.claims.length:Int)+((eR s b a).length:Int):=by simpa using h
        rw[if_neg (show ¬pQ<s.claims.length+(eR s b a).length by unfold pQ;omega)] at k
        refine⟨by show 1<=sizeLine;decide,fun la fo=> ?_⟩
        have s4:af H3 _:=af.new (o:= .lst [V.int 0]) fo
        have laC:la≠A.lC:=fun z=>by rw[z,h3.hK] at fo;cases fo
        have luC:lu≠A.lC:=fun z=>by rw[z,h2.hK] at Fo;cases Fo
        have lual:lu≠la:=fun z=>by rw[<-z,mq] at fo;cases fo
        refine⟨_,rfl,lu,rfl,⟨_,ah.of (s4 _ _ mq)⟩,lV (K:=K) (a:=lu) (xs:=(mC s G b a).map fun e=>V.ref e.1) (fun j σ H'=>∃(v6:Option V) (cl':List aa),σ=[some (.ref A.p),some (nI b),some (nI a),some (nI y.currency),some (.ref lu),some (.ref la),v6]/\aE Z A {G with cl:=cl'} H' (ig s b a j r)/\(∀c o,H3 c=some o->tj o=true->c≠A.lC->H' c=some o)/\H' la=some (.lst ((j4 s b a j r).map V.int)))
         ⟨none,G.cl,rfl,?_,fun c o e _ _=>s4 _ _ e,?_⟩ (fun j σ H' _ ⟨_,_,_,_,f5,_⟩=>ah.of (f5 _ _ mq rfl luC)) ?_ ?_⟩
        ·have:ig s b a 0 r=s:=by unfold ig;rw[MM.Vp];simp
         rw[this];exact h3.kp (Kp.of s4)
        ·rw[au];rfl
        ·rintro j yv σ H' hj ⟨v6,cl',rfl,h5,f5,qJ⟩
         obtain⟨ee,wN,rfl⟩:=cg hj
         obtain⟨kk,xx,gg,t1,t2,t3,t4,t5,t6,t7,t8⟩:=Nd h3 (bP wN)
         have jj:(eR s b a)[j]? =some (xx.t,ee.2.2.1,ee.2.2.2):=by
          rw[<-wL h3,aS,wN,t3];rfl
         have cz:=MM.zk (MM.LL g b a) jj
         have t5':(MM.fD s (eR s b a) b a j xx).parts[ee.2.2.1]? =some ee.2.2.2:=by
          rw[MM.Vr t4 t5];unfold MM.mi;rw[if_neg (fun z=>by have:=z.2.2;rw[show afg (eR s b a) xx.t ee.2.2.1=j from cz] at this;omega)]
         have jl:j<(eR s b a).length:=(cJ.mp jj).1
         have nl:(j3 s b a r).length=(eR s b a).length:=by unfold j3;rw[ao,oz]
         have cj:(ig s b a j r).claims.length=s.claims.length+j:=by
          show(s.claims++(j3 s b a r).take j).length=_;rw[dJ,iU];omega
         have kl:=g.part xx (bP t1) _ (bP t5)
         have t1':(ig s b a j r).tickets[kk]? =some (MM.fD s (eR s b a) b a j xx):=by
          show(s.tickets.map _)[kk]? =_;rw[aS,t1];rfl
         refine⟨_,rfl,.inl ⟨rfl,_,ah.of qJ⟩,_,rfl,_,rfl,_,rfl,_,rfl,A,{G with cl:=cl'},ig s b a j r,b,a,kk,ee.2.2.1,MM.fD s (eR s b a) b a j xx,gg,ee.2.2.2,ee.1,y,r,rfl,h5,t1',t2,t5',t6,qa,qr,Fq,kl,by rw[cj];have:=g.i5;omega,fun H6 cl6 l6 h6 f6 Aj Nk=> ?_⟩
         have enew:ir (ig s b a j r) 0 b a (gz (ee.2.2.2.share-ee.2.2.2.kept) r.1 r.2)=ir s j b a (gz (ee.2.2.2.share-ee.2.2.2.kept) r.1 r.2):=by
          unfold ir;rw[cj,show s.claims.length+j+1+0=s.claims.length+1+j by omega]
          rfl
         have es:ig s b a (j+1) r={ig s b a j r with claims:=(ig s b a j r).claims++[ir (ig s b a j r) 0 b a (gz (ee.2.2.2.share-ee.2.2.2.kept) r.1 r.2)],tickets:=(ig s b a j r).tickets.set kk {MM.fD s (eR s b a) b a j xx with parts:=(MM.fD s (eR s b a) b a j xx).parts.set ee.2.2.1 {ee.2.2.2 with stage:=3,claim:=(ig s b a j r).claims.length+1}}}:=by
          rw[enew,cj];unfold ig;rw[MM.Vs g jj t1 t4 t5 t7 t8,fN (Nj jj),xK]
         rw[<-es] at h6
         have Nl:H6 la=some (.lst ((j4 s b a j r).map V.int)):=f6 _ _ qJ rfl laC
         have l6a:l6≠la:=fun z=>by rw[z,qJ] at Aj;cases Aj
         have ea:j4 s b a (j+1) r=j4 s b a j r++[((s.claims.length+j+1:Nat):Int),((gz (ee.2.2.2.share-ee.2.2.2.kept) r.1 r.2:Nat):Int)]:=by
          unfold j4;rw[fN (Nj jj),xE,rh]
          congr 2
          simp only[xJ,List.flatMap_nil,uK,ir];rw[show s.claims.length+1+j=s.claims.length+j+1 by omega]
         rw[cj] at Nk
         refine⟨la,l6,_,_,rfl,rfl,Nl,Nk,?_,?_⟩
         ·rw[ao]
          show(j4 s b a j r).length+2<=sizeLine
          have:(j4 s b a j r).length<=2*200+1:=by
           unfold j4;rw[bH];have:=k8 (f:=fun x:dj=>[(x.id:Int),(x.amount:Int)]) (m:=2) (l:=(j3 s b a r).take j) (fun x _=>aI 2);rw[iU] at this;omega
          exact fO (eO (by omega))
         ·have bu:bM la H6 (upd H6 la (.lst ((j4 s b a j r).map V.int++[nI (s.claims.length+j+1),nI (gz (ee.2.2.2.share-ee.2.2.2.kept) r.1 r.2)]))):=bM.upd
          have sla:∀c o,H6 c=some o->c≠la->(upd H6 la (.lst ((j4 s b a j r).map V.int++[nI (s.claims.length+j+1),nI (gz (ee.2.2.2.share-ee.2.2.2.kept) r.1 r.2)]))) c=some o:=bu
          have YZ:∀c o,H3 c=some o->c≠la:=fun c o e=>aV e fo
          refine⟨_,cl6,rfl,?_,fun c o e q n=> ?_,?_⟩
          ·
           exact aE.off h6 Nl laC (fun i gq hi z=>by
            have:=(hh.tV i (s.tickets[i]'(by rw[<-hh.tL];exact(cJ.mp hi).1)) gq (cE _) hi).l;have e3:=dm _ _ this;rw[z,fo] at e3;cases e3) bu
          ·rw[ag (YZ c o e)];exact f6 _ _ (f5 _ _ e q n) q n
          ·rw[au,ea,cZ];rfl
        ·rintro σ H' ⟨v6,cl',rfl,h5,f5,qJ⟩
         rw[ao,blen] at h5 qJ
         have ef:ig s b a (eR s b a).length r={s with claims:=s.claims++j3 s b a r,tickets:=s.tickets.map fun x=>if x.issuer=a then {x with parts:=x.parts.zipIdx.map fun p=>if p.1.carrier=b/\p.1.stage=2 then {p.1 with stage:=3,claim:=s.claims.length+1+afg (eR s b a) x.t p.2} else p.1} else x}:=by
          unfold ig;rw[MM.Vq,A1 (by unfold j3;rw[ao,oz];exact aI _)]
         have eaf:j4 s b a (eR s b a).length r=0::(j3 s b a r).flatMap fun x=>[(x.id:Int),(x.amount:Int)]:=by
          unfold j4;rw[A1 (by unfold j3;rw[ao,oz];exact aI _)]
         rw[ef] at h5
         rw[eaf] at qJ
         have fr:cP A H3 H':=f5
         refine⟨_,rfl,?_⟩
         exact k {G with cl:=cl'} H' la h5 (iz _) qJ laC (fun xs e=>by rw[dm _ _ e] at fo;cases fo) ((cP.of dm).trans fr).L (fun t=>Tab.fr ((cP.of dm).trans fr) hh.hK t)
open PySem PySem.Spec PyProof.Rows L2
open Vbahak (State Carrier Part Ticket)
def kz(s:State)(G:Gh):List (dj×aa):=s.claims.zip G.cl
theorem Ak{Z:aK}{A:Ad}{G:Gh}{H:Hp}{s:State}(h:aE Z A G H s):(kz s G).map (·.1)=s.claims:=HV (by rw[h.kL];exact aI _)
theorem Nm{Z:aK}{A:Ad}{G:Gh}{H:Hp}{s:State}(h:aE Z A G H s):(kz s G).map (·.2)=G.cl:=xN (by rw[h.kL];exact aI _)
theorem Al{Z:aK}{A:Ad}{G:Gh}{H:Hp}{s:State}(h:aE Z A G H s):(kz s G).length=s.claims.length:=by
 unfold kz;rw[rk,h.kL,x8]
theorem Am{Z:aK}{A:Ad}{G:Gh}{H:Hp}{s:State}(h:aE Z A G H s){q:dj×aa}(hq:q∈kz s G):bV H q.2 Z.k (gK q.1)/\q.1∈s.claims:=by
 obtain⟨i,hi⟩:=fH hq;unfold kz at hi;rw[j9] at hi;exact⟨h.kV i q.1 q.2 hi.1 hi.2,bP hi.1⟩
theorem Nn{Z:aK}{A:Ad}{G:Gh}{H:Hp}{s:State}(h:aE Z A G H s):G.cl.map V.ref=(kz s G).map fun q=>V.ref q.2:=by rw[<-Nm h,bw];rfl
def kc(s:State)(G:Gh):List (dj×aa):=(kz s G).filter fun q=>km s q.1
theorem Y0{Z:aK}{A:Ad}{G:Gh}{H:Hp}{s:State}(h:aE Z A G H s):(kc s G).map (·.1)=s.claims.filter (km s):=by
 unfold kc;rw[<-Ak h,kh];rfl
theorem afG{Z:aK}{A:Ad}{G:Gh}{H:Hp}{s:State}(h:aE Z A G H s)(g:MM.Good s):(kc s G).length<=200:=by
 unfold kc;refine dr (lA _ _) ?_;rw[Al h];exact g.i5
theorem Np(c:Nat):∀l:List dj,oI l c=((bz ((l.filter fun x=>x.to==c).map fun x=>x.amount):Nat):Int)-((bz ((l.filter fun x=>x.of==c).map fun x=>x.amount):Nat):Int)
 |[]=>rfl
 |x::l=>by
  rw[MM.Vl,Np c l,gO,gO];unfold MM.share1;by_cases h1:x.to=c
  ·by_cases h2:x.of=c
   ·simp only[h1,h2,beq_self_eq_true,if_true,bQ,MM.sum_cons];omega
   ·have:(x.of==c)=false:=by simpa using h2
    simp only[h1,this,h2,beq_self_eq_true,if_true,if_false,uD,bQ,MM.sum_cons];omega
  ·have e1:(x.to==c)=false:=by simpa using h1
   by_cases h2:x.of=c
   ·simp only[h1,e1,h2,beq_self_eq_true,if_true,if_false,uD,bQ,MM.sum_cons];omega
   ·have:(x.of==c)=false:=by simpa using h2
    simp only[h1,e1,this,h2,if_false,uD];omega
abbrev Fv:aL:=top 46
theorem Y1:a9 ["house","claim"] ["house","claim"] (aQ Fv):=bo
def Nq(Z:aK):Sp:=fun vs H Q _=>∃(A:Ad) (G:Gh) (s:State) (x:dj) (a:aa),vs=[.ref A.p,.ref a]/\aE Z A G H s/\bV H a Z.k (gK x)/\bq s x.to=true/\bq s x.of=true/\Q (.bl (km s x)) H
theorem Y2{f:aa}{fd:aU}(F:aR K "would_be_cleared" "would_be_cleared" Fv f fd)(T:Txt K mg Z):aN P w K mg base aT 1 f fd ["house","claim"] (Nq Z):=by
 refine F.bA Y1 fun aD A0 outer s0 H vs Q E hr h=> ?_
 ·obtain⟨A,G,s,x,a,rfl,hh,⟨dx,ha⟩,k1,k2,q⟩:=h;have hu:=fk hr;refine⟨rfl,_,(aw (bG (fh (aJ (K:=K) (pv 1) rfl))
   (ax (aF qf))
   bJ)
   (ax (aF (BF (BG (aJ (K:=K) (fR hu (aJ (K:=K) (pv 0) rfl) (aJ (K:=K) (pv 1) rfl) (fun _ _=>rfl)) rfl)) (yj (BG (aJ (K:=K) (fR hu (aJ (K:=K) (pv 0) rfl) (aJ (K:=K) (pv 1) rfl) (fun _ _=>rfl)) rfl))))))),?_⟩
  refine⟨_,rfl,_,⟨a,Z.k,_,_,rfl,ha,T.cD,T.tO,rfl⟩,_,rfl,?_⟩;unfold km at q;cases e:x.settled with
  |true=>rw[e] at q;exact a8 q
  |false=>
   rw[e] at q
   refine ba ?_
   obtain⟨y1,a1,g1,g2,d1,g3⟩:=hh.pq k1
   obtain⟨y2,a2,g4,g5,d2,g6⟩:=hh.pq k2
   have fS:bj H A.dC (nI x.to) (some (.ref a1)):=by rw[<-g2];exact bj.k (k:=kI x.to) hh.hC
   have hd2:bj H A.dC (nI x.of) (some (.ref a2)):=by rw[<-g5];exact bj.k (k:=kI x.of) hh.hC
   have i1:uB s x.to=y1.suspended:=by unfold uB;rw[g1];rfl
   have i2:uB s x.of=y2.suspended:=by unfold uB;rw[g4];rfl
   rw[i1,i2] at q
   refine⟨_,rfl,_,⟨A.p,Z.h,_,_,rfl,hh.hs,T.bZ,T.ja,rfl⟩,_,rfl,_,⟨a,Z.k,_,_,rfl,ha,T.cD,T.qE,rfl⟩,A.dC,_,rfl,fS,_,⟨a1,Z.c,_,_,rfl,g3,T.gv,T.wD,rfl⟩,_,rfl,_,rfl,?_⟩
   cases e1:y1.suspended with
   |true=>rw[e1] at q;exact ba q
   |false=>
    rw[e1] at q
    exact a8 ⟨_,rfl,_,⟨A.p,Z.h,_,_,rfl,hh.hs,T.bZ,T.ja,rfl⟩,_,rfl,_,⟨a,Z.k,_,_,rfl,ha,T.cD,T.qF,rfl⟩,A.dC,_,rfl,hd2,_,⟨a2,Z.c,_,_,rfl,g6,T.gv,T.wD,rfl⟩,_,rfl,q⟩
abbrev Fw:aL:=top 47
theorem Fx:a9 ["house","claim"] ["house"] (aQ Fw):=bo
def Fy(Z:aK):Sp:=fun vs H Q _=>∃(A:Ad) (G:Gh) (s:State),vs=[.ref A.p]/\aE Z A G H s/\MM.Good s/\MM.Good2 s/\∀H' l,af H H'->H l=none->H' l=some (.lst ((kc s G).map fun q=>V.ref q.2))->Q (.ref l) H'
theorem Y3{f:aa}{fd:aU}(F:aR K "claims_to_clear" "claims_to_clear" Fw f fd)(T:Txt K mg Z)(Y4:aA P w K mg base "would_be_cleared" 1 ["house","claim"] (Nq Z)):aN P w K mg base aT 2 f fd ["house"] (Fy Z):=by
 refine F.bA Fx fun aD A0 outer s0 H vs Q E hr h=> ?_
 ·obtain⟨A,G,s,rfl,hh,g,g2,k⟩:=h;refine⟨rfl,_,(ax (aF (eW (own:=[("claim",1)]) rfl Fx.nd (dh (K:=K) (aJ (K:=K) (pv 0) rfl)) (dD rfl) (fun _ _ _ _ _=>by exact(bU (i:=1) Fx.nd rfl (.inl rfl))) (fun _ _ _ _ _=>by exact(gF (fh (aX Y4 hr (by decide) rfl (ae (pv 0) (ae (pv 1) ai)))))) (fun _ _ _ _ _=>by exact(pv 1))))),?_⟩;have hK:=hh.hK;rw[Nn hh] at hK;refine⟨_,rfl,_,⟨A.p,Z.h,_,_,rfl,hh.hs,T.bZ,T.mv,rfl⟩,A.lC,rfl,⟨_,ah.of hK⟩,fun D hD=>fF (fun i=>((kz s G)[i]?).bind fun q=>if km s q.1=true then some (V.ref q.2) else none) hD (ah.of hK) (by rw[ao,Al hh];exact dk (by have:=g.i5;omega)) (fun i H2 x R R0 hx s2 r1 r2=> ?_) (fun H2 s2 hd=> ?_)⟩
  ·obtain⟨q,hq,rfl⟩:=cg hx;obtain⟨ho,hm⟩:=Am hh (bP hq);obtain⟨k1,k2⟩:=g2.cls q.1 hm;rw[hq] at r1 r2;refine⟨rfl,?_⟩;refine⟨_,rfl,_,rfl,A,G,s,q.1,q.2,rfl,hh.kp (Kp.of s2),ho.kp (Kp.of s2),k1,k2,_,rfl,?_⟩;refine dG (fun c=> ?_) (fun c=> ?_)
   ·exact⟨_,rfl,r1 _ _ (by show(if _ then _ else _)=_;rw[if_pos c]) (af.refl _)⟩
   ·exact r2 _ (by show(if _ then _ else _)=_;rw[if_neg c]) (af.refl _)
  ·rw[ao,eQ,iQ] at hd;exact k H2 D s2 hD hd
abbrev Fz:aL:=top 54
theorem oh:a9 ["house","c","unsettled","to_get","to_pay","claim"] ["house","c"] (aQ Fz):=bo
def Nr(Z:aK):Sp:=fun vs H Q _=>∃(A:Ad) (G:Gh) (s:State) (c:Nat),vs=[.ref A.p,nI c]/\aE Z A G H s/\MM.Good s/\∀H',af H H'->Q (.int (oI (s.claims.filter fun y=> !y.settled) c)) H'
theorem Y5{f:aa}{fd:aU}(F:aR K "unsettled_balance" "unsettled_balance" Fz f fd)(T:Txt K mg Z):aN P w K mg base aT 1 f fd ["house","c"] (Nr Z):=by
 refine F.bA oh fun aD A0 outer s0 H vs Q E hr h=> ?_
 ·obtain⟨A,G,s,c,rfl,hh,g,k⟩:=h;refine⟨rfl,_,(aw (nh (i:=2) (own:=[("claim",5)]) rfl oh.nd rfl rfl (nj rfl rfl rfl (by decide+kernel)) (dh (K:=K) (aJ (K:=K) (pv 0) rfl)) (dD rfl) (fun _ _ _ _ _=>by exact(bU (i:=5) oh.nd rfl (.inl rfl))) (fun _ _ _ _ _=>by exact(gF (iE (fh (aJ (K:=K) (pv 5) rfl))))) (fun _ _ _ _ _=>by exact(pv 5)))
   (aw (aP (i:=3) oh.nd rfl (.inl rfl) (cC (jy (K:=K) rfl) (by rfl) T.jC jB (ae (eW (own:=[("claim",5)]) rfl oh.nd (dh (K:=K) (pv 2)) (dD rfl) (fun _ _ _ _ _=>by exact(bU (i:=5) oh.nd rfl (.inl rfl))) (fun _ _ _ _ _=>by exact(gF (bb cQ (aJ (K:=K) (pv 5) rfl) (pv 1) (aZ _)))) (fun _ _ _ _ _=>by exact(aJ (K:=K) (pv 5) rfl))) ai)))
   (aw (aP (i:=4) oh.nd rfl (.inl rfl) (cC (jy (K:=K) rfl) (by rfl) T.jC jB (ae (eW (own:=[("claim",5)]) rfl oh.nd (dh (K:=K) (pv 2)) (dD rfl) (fun _ _ _ _ _=>by exact(bU (i:=5) oh.nd rfl (.inl rfl))) (fun _ _ _ _ _=>by exact(gF (bb cQ (aJ (K:=K) (pv 5) rfl) (pv 1) (aZ _)))) (fun _ _ _ _ _=>by exact(aJ (K:=K) (pv 5) rfl))) ai)))
   (ax (aF (cp kF (pv 3) (pv 4))))))),?_⟩
  have hK:=hh.hK;rw[Nn hh] at hK;refine⟨_,rfl,_,⟨A.p,Z.h,_,_,rfl,hh.hs,T.bZ,T.mv,rfl⟩,A.lC,rfl,⟨_,ah.of hK⟩,fun D hD=>fF (fun i=>((kz s G)[i]?).bind fun q=>if (!q.1.settled)=true then some (V.ref q.2) else none) hD (ah.of hK) (by rw[ao,Al hh];exact dk (by have:=g.i5;omega)) (fun i H2 x R R0 hx s2 r1 r2=> ?_) (fun H2 s2 hd=> ?_)⟩
  ·obtain⟨q,hq,rfl⟩:=cg hx;obtain⟨⟨dx,ho⟩,hm⟩:=Am hh (bP hq);rw[hq] at r1 r2;refine⟨rfl,?_⟩;refine⟨_,rfl,_,⟨q.2,Z.k,_,_,rfl,s2 _ _ ho,T.cD,T.tO,rfl⟩,_,rfl,?_⟩;refine dG (fun c=> ?_) (fun c=> ?_)
   ·exact⟨_,rfl,r1 _ _ (by show(if _ then _ else _)=_;rw[if_pos c]) (af.refl _)⟩
   ·exact r2 _ (by show(if _ then _ else _)=_;rw[if_neg c]) (af.refl _)
  ·rw[ao,eQ,iQ] at hd;have md:∀q∈(kz s G).filter (fun q=> !q.1.settled),bV H2 q.2 Z.k (gK q.1):=fun q hq=>(Am hh (c9.mp hq).1).1.kp (Kp.of s2);have ul:((kz s G).filter fun q=> !q.1.settled).length<=200:=by
    refine dr (lA _ _) ?_;rw[Al hh];exact g.i5
   have ef:((kz s G).filter fun q=> !q.1.settled).map (·.1)=s.claims.filter fun y=> !y.settled:=by rw[<-Ak hh,kh];rfl
   revert hd md ul ef;generalize (kz s G).filter (fun q=> !q.1.settled)=us;intro hd md ul ef;refine⟨_,rfl,D,rfl,⟨_,ah.of hd⟩,fun D2 fV=>fF (fun i=>(us[i]?).bind fun q=>if (q.1.to==c)=true then some (nI q.1.amount) else none) fV (ah.of hd) (by rw[ao];exact dk (by omega)) (fun i H3 x R R0 hx s3 r1 r2=> ?_) (fun H3 s3 dn=> ?_)⟩
   ·obtain⟨q,hq,rfl⟩:=cg hx;obtain⟨dx,ho⟩:=md q (bP hq);have ho:=s3 _ _ ho;rw[hq] at r1 r2;refine⟨rfl,?_⟩;refine⟨_,rfl,_,⟨q.2,Z.k,_,_,rfl,ho,T.cD,T.qE,rfl⟩,_,rfl,rfl,_,rfl,?_⟩;refine dG (fun z=> ?_) (fun z=> ?_)
    ·have z:q.1.to=c:=jb (by simpa using z);exact⟨_,rfl,_,⟨q.2,Z.k,_,_,rfl,ho,T.cD,T.nZ,rfl⟩,r1 _ _ (by simp[z]) (af.refl _)⟩
    ·have z:¬q.1.to=c:=jD (by simpa using z);exact r2 _ (by simp[z]) (af.refl _)
   ·rw[ao,eQ,iQ] at dn;have e1:(us.filter fun q=>q.1.to==c).map (fun q=>nI q.1.amount)=(MM.ints (((us.map (·.1)).filter fun x=>x.to==c).map fun x=>x.amount)).map V.int:=by
     rw[<-eY,kh,bw,bw];rfl
    rw[e1] at dn;refine⟨D2,_,rfl,ah.of dn,?_⟩;rw[MM.sum_ints];refine⟨_,rfl,D,rfl,⟨_,ah.of (s3 _ _ hd)⟩,fun D3 pE=>fF (fun i=>(us[i]?).bind fun q=>if (q.1.of==c)=true then some (nI q.1.amount) else none) pE (ah.of (s3 _ _ hd)) (by rw[ao];exact dk (by omega)) (fun i H4 x R R0 hx s4 r1 r2=> ?_) (fun H4 s4 eJ=> ?_)⟩
    ·obtain⟨q,hq,rfl⟩:=cg hx;obtain⟨dx,ho⟩:=md q (bP hq);have ho:=s4 _ _ (s3 _ _ ho);rw[hq] at r1 r2;refine⟨rfl,?_⟩;refine⟨_,rfl,_,⟨q.2,Z.k,_,_,rfl,ho,T.cD,T.qF,rfl⟩,_,rfl,rfl,_,rfl,?_⟩;refine dG (fun z=> ?_) (fun z=> ?_)
     ·have z:q.1.of=c:=jb (by simpa using z);exact⟨_,rfl,_,⟨q.2,Z.k,_,_,rfl,ho,T.cD,T.nZ,rfl⟩,r1 _ _ (by simp[z]) (af.refl _)⟩
     ·have z:¬q.1.of=c:=jD (by simpa using z);exact r2 _ (by simp[z]) (af.refl _)
    ·rw[ao,eQ,iQ] at eJ;have e2:(us.filter fun q=>q.1.of==c).map (fun q=>nI q.1.amount)=(MM.ints (((us.map (·.1)).filter fun x=>x.of==c).map fun x=>x.amount)).map V.int:=by
      rw[<-eY,kh,bw,bw];rfl
     rw[e2] at eJ;refine⟨D3,_,rfl,ah.of eJ,?_⟩;rw[MM.sum_ints];refine⟨_,rfl,_,rfl,_,_,rfl,rfl,?_⟩;have:=k H4 ((s2.trans s3).trans s4);rw[Np,<-ef] at this;exact this
abbrev FA:aL:=top 55
theorem FC:a9 ["house","c","carrier","suspended"] ["house","c"] (aQ FA):=bo
def FD(tb:cf)(Z:aK):Sp:=fun vs H Q _=>∃(A:Ad) (G:Gh) (s:State) (c:Nat),vs=[.ref A.p,nI c]/\aE Z A G H s/\MM.Good s/\c8 tb Z A G H (bE s (.account c)) Q
theorem Y6{f:aa}{fd:aU}(F:aR K "show_account" "show_account" FA f fd)(T:Txt K mg Z)(gL:GM P w K mg base Z "has_carriers" ["self","numbers"] (mx Z))(Y7:aA P w K mg base "unsettled_balance" 1 ["house","c"] (Nr Z)):aN P w K mg base aT 2 f fd ["house","c"] (FD tb Z):=by
 refine F.bA FC fun aD A0 outer s0 H vs Q E hr h=> ?_
 ·obtain⟨A,G,s,c,rfl,hh,g,k⟩:=h;have hu:=fk hr;refine⟨rfl,_,(aw (bG (iE (fh (gr (pv 0) gL hr (by decide) (ae (a7 (ae (pv 1) ai)) ai))))
   (ax (aF (a7 (ae (cq rfl T.n9) ai))))
   bJ)
   (aw (aP (i:=2) FC.nd rfl (.inl rfl) (fR hu (aJ (K:=K) (pv 0) rfl) (pv 1) (fun _ _=>rfl)))
   (aw (aP (i:=3) FC.nd rfl (.inl rfl) (yk (fh (aJ (K:=K) (pv 2) rfl)) ay ay))
   (ax (aF (a7 (ae ay (ae (aJ (K:=K) (pv 2) rfl) (ae (pv 3) (ae (aJ (K:=K) (pv 2) rfl) (ae (aJ (K:=K) (pv 2) rfl) (ae (aX Y7 hr (by decide) rfl (ae (pv 0) (ae (pv 1) ai))) ai)))))))))))),?_⟩
  refine⟨_,rfl,A.p,_,_,rfl,hh.hs,rfl,_,rfl,by show 1<=sizeLine;decide,fun l hl=> ?_⟩;have s1:af H (upd H l (.lst [nI c])):=af.new hl;have h1:=hh.kp (Kp.of s1);refine⟨A,G,s,l,[c],rfl,h1,au,(by show 1<=1000;decide),fun H2 s2=> ?_⟩;have cn:=s1.trans s2;have h2:=hh.kp (Kp.of cn);refine⟨_,rfl,?_⟩;simp only[bE] at k;have e:([c].all fun c=>bq s c)=bq s c:=by simp
  rw[e];cases q:oB s c with
  |none=>
   have e1:bq s c=false:=by unfold bq;rw[q];rfl
   rw[q] at k
   rw[e1]
   refine a8 ⟨by show 1<=sizeLine;decide,fun l hl=>k.out hh cn hl⟩
  |some x=>
   have e1:bq s c=true:=by unfold bq;rw[q];rfl
   rw[q] at k
   simp only at k
   rw[e1]
   refine ba ?_
   obtain⟨a,hv,dx,ha⟩:=h2.cV c x q
   have hd:bj H2 A.dC (nI c) (some (.ref a)):=by rw[<-hv];exact bj.k (k:=kI c) h2.hC
   refine⟨_,rfl,_,⟨A.p,Z.h,_,_,rfl,h2.hs,T.bZ,T.ja,rfl⟩,_,rfl,A.dC,_,rfl,hd,?_⟩
   refine⟨_,rfl,_,⟨a,Z.c,_,_,rfl,ha,T.gv,T.wD,rfl⟩,_,rfl,?_⟩
   cases qs:x.suspended with
   |true=>
    rw[qs] at k
    refine a8 ?_
    refine⟨_,rfl,_,⟨a,Z.c,_,_,rfl,ha,T.gv,T.wC,rfl⟩,_,rfl,_,rfl,_,⟨a,Z.c,_,_,rfl,ha,T.gv,T.zM,rfl⟩,_,rfl,_,⟨a,Z.c,_,_,rfl,ha,T.gv,T.zN,rfl⟩,_,rfl,_,rfl,A,G,s,c,rfl,h2,g,fun H3 s3=> ?_⟩
    exact⟨by show 6<=sizeLine;decide,fun l hl=>k.out hh (cn.trans s3) hl⟩
   |false=>
    rw[qs] at k
    refine ba ?_
    refine⟨_,rfl,_,⟨a,Z.c,_,_,rfl,ha,T.gv,T.wC,rfl⟩,_,rfl,_,rfl,_,⟨a,Z.c,_,_,rfl,ha,T.gv,T.zM,rfl⟩,_,rfl,_,⟨a,Z.c,_,_,rfl,ha,T.gv,T.zN,rfl⟩,_,rfl,_,rfl,A,G,s,c,rfl,h2,g,fun H3 s3=> ?_⟩
    exact⟨by show 6<=sizeLine;decide,fun l hl=>k.out hh (cn.trans s3) hl⟩
def oj(H:Hp)(l:List (aa×Bu)):Prop:=∀q∈l,H q.1=some (.tup [nI q.2.src,nI q.2.dst,nI q.2.amount])
theorem oj.kp{H H':Hp}{l:List (aa×Bu)}(k:Kp H H')(h:oj H l):oj H' l:=fun q hq=>k _ _ (h q hq) rfl
abbrev FE:aL:=top 50
theorem FF:a9 ["payments","answer","payment"] ["payments"] (aQ FE):=bo
def FG(Z:aK):Sp:=fun vs H Q _=>∃(l:aa) (ps:List (aa×Bu)),vs=[.ref l]/\H l=some (.lst (ps.map fun q=>V.ref q.1))/\oj H ps/\ps.length<=100/\∀H' l',af H H'->H l'=none->H' l'=some (.lst ((0::(ps.map (·.2)).flatMap Bl).map V.int))->Q (.ref l') H'
theorem Y8{f:aa}{fd:aU}(F:aR K "answer_payments" "answer_payments" FE f fd)(T:Txt K mg Z):aN P w K mg base aT 1 f fd ["payments"] (FG Z):=by
 refine F.bA FF fun aD A0 outer s0 H vs Q E hr h=> ?_
 ·obtain⟨l,ps,rfl,hl,hp,hn,k⟩:=h;refine⟨rfl,_,(aw (aP (i:=1) FF.nd rfl (.inl rfl) (a7 (ae ay ai)))
   (aw (iF fX rfl (dh (K:=K) (pv 0)) (bU (i:=2) FF.nd rfl (.inl rfl))
   (ax (iX (jn ka uw uv (VO (K:=K)) (pv 1) (ae (pv 2) ai)))))
   (ax (aF (pv 1))))),?_⟩
  refine⟨by show 1<=sizeLine;decide,fun la fo=> ?_⟩;have s1:af H _:=af.new (o:= .lst [V.int 0]) fo;refine⟨_,rfl,l,rfl,⟨_,ah.of (s1 _ _ hl)⟩,lV (K:=K) (a:=l) (xs:=ps.map fun q=>V.ref q.1) (fun i σ H'=>∃v:Option V,σ=[some (.ref l),some (.ref la),v]/\af H H'/\H' la=some (.lst ((0::((ps.map (·.2)).take i).flatMap Bl).map V.int))) ⟨none,rfl,s1,au⟩ (fun i σ H' _ ⟨_,_,s2,_⟩=>ah.of (s2 _ _ hl)) ?_ ?_⟩
  ·rintro i y σ H' hi ⟨v,rfl,s2,ha⟩;obtain⟨q,hq,rfl⟩:=cg hi;have mD:(ps.map (·.2))[i]? =some q.2:=by rw[aS,hq];rfl
   have il:=(cJ.mp hq).1;refine⟨_,rfl,.inl ⟨rfl,_,ah.of ha⟩,_,rfl,la,q.1,_,_,rfl,rfl,ha,cH.of (s2 _ _ (hp q (bP hq))),?_,?_⟩
   ·rw[ao,bH];have:=k8 (f:=Bl) (m:=3) (l:=(ps.map (·.2)).take i) (fun x _=>aI 3);rw[iU] at this;show _+3<=sizeLine;exact fO (eO (by omega))
   ·refine⟨_,rfl,fun c o e=> ?_,?_⟩
    ·rw[ag (aV e fo)];exact s2 _ _ e
    ·rw[au,fN mD,xE,<-rh,cZ];simp[Bl,nI]
  ·rintro σ H' ⟨v,rfl,s2,ha⟩;rw[ao,show ps.length=(ps.map (·.2)).length by rw[ao],iq] at ha;exact⟨_,rfl,k H' la s2 fo ha⟩
abbrev FH:aL:=top 52
theorem FI:a9 ["house","payment","payer","getter"] ["house","payment"] (aQ FH):=bo
def FJ(s:State)(p:Bu):State:={s with carriers:=(s.carriers.map fun y=>if y.c=p.src then {y with paid:=y.paid+p.amount} else y).map fun y=>if y.c=p.dst then {y with got:=y.got+p.amount} else y}
def Nt(Z:aK):Sp:=fun vs H Q _=>∃(A:Ad) (G:Gh) (s:State) (t:aa) (p:Bu),vs=[.ref A.p,.ref t]/\aE Z A G H s/\H t=some (.tup [nI p.src,nI p.dst,nI p.amount])/\bq s p.src=true/\bq s p.dst=true/\
 ∀H',aE Z A G H' (FJ s p)->cP A H H'->Q .bc H'
theorem Y9{f:aa}{fd:aU}(F:aR K "make_payment" "make_payment" FH f fd)(T:Txt K mg Z):aN P w K mg base aT 1 f fd ["house","payment"] (Nt Z):=by
 refine F.bA FI fun aD A0 outer s0 H vs Q E hr h=> ?_
 ·obtain⟨A,G,s,t,p,rfl,hh,ht,k1,k2,k⟩:=h;have hu:=fk hr;refine⟨rfl,_,(aw (aP (i:=2) FI.nd rfl (.inl rfl) (fR hu (aJ (K:=K) (pv 0) rfl) (bK (i8 (K:=K)) (pv 1) ay (fun _ _=>rfl)) (fun _ _=>rfl)))
   (aw (aP (i:=3) FI.nd rfl (.inl rfl) (fR hu (aJ (K:=K) (pv 0) rfl) (bK (i8 (K:=K)) (pv 1) ay (fun _ _=>rfl)) (fun _ _=>rfl)))
   (aw (Dj (K:=K) (pv 2) (bK (i8 (K:=K)) (pv 1) ay (fun _ _=>rfl)) rT)
   (ax (Dj (K:=K) (pv 3) (bK (i8 (K:=K)) (pv 1) ay (fun _ _=>rfl)) rT))))),?_⟩
  obtain⟨y1,a1,g1,g2,d1,g3⟩:=hh.pq k1;obtain⟨y2,a2,g4,g5,d2,g6⟩:=hh.pq k2;have fS:bj H A.dC (nI p.src) (some (.ref a1)):=by rw[<-g2];exact bj.k (k:=kI p.src) hh.hC
  have hd2:bj H A.dC (nI p.dst) (some (.ref a2)):=by rw[<-g5];exact bj.k (k:=kI p.dst) hh.hC
  refine⟨_,rfl,_,⟨A.p,Z.h,_,_,rfl,hh.hs,T.bZ,T.ja,rfl⟩,_,rfl,t,_,_,_,rfl,rfl,cH.of ht,bL (j:=0) rfl,A.dC,_,rfl,fS,?_⟩;refine⟨_,rfl,_,⟨A.p,Z.h,_,_,rfl,hh.hs,T.bZ,T.ja,rfl⟩,_,rfl,t,_,_,_,rfl,rfl,cH.of ht,bL (j:=1) rfl,A.dC,_,rfl,hd2,?_⟩;refine⟨_,rfl,a1,Z.c,_,_,_,rfl,g3,T.gv,T.zM,rfl,_,rfl,t,_,_,_,rfl,rfl,cH.of ht,bL (j:=2) rfl,_,_,rfl,rfl,_,_,g3,(by show 4<1000;decide),?_⟩;have Ff:t≠a1:=cv ht g3 (fun z=>nomatch z);have tX:t≠a2:=cv ht g6 (fun z=>nomatch z);have hA:=hh.Ds (f:=fun y=>{y with paid:=y.paid+p.amount}) (fun _=>rfl) g1 g2 bM.upd (b:=a1) (H':=upd H a1 (.ins Z.c d1 (cX "paid" (.int ((y1.paid:Int)+(p.amount:Int))) (mj y1)))) ⟨d1,by rw[au];rfl⟩;have k2':bq {s with carriers:=s.carriers.map fun y=>if y.c=p.src then {y with paid:=y.paid+p.amount} else y} p.dst=true:=by
   rw[MM.sV (f:=fun y=>if y.c=p.src then {y with paid:=y.paid+p.amount} else y) (fun y=>by by_cases z:y.c=p.src<;>simp[z]) rfl];exact k2
  obtain⟨y3,a3,g7,g8,d3,g9⟩:=hA.pq k2';have ea:a3=a2:=by rw[g5] at g8;cases g8;rfl
  subst ea;refine⟨_,rfl,a3,Z.c,_,_,_,rfl,g9,T.gv,T.zN,rfl,_,rfl,t,_,_,_,rfl,rfl,cH.of (by rw[ag Ff];exact ht),bL (j:=2) rfl,_,_,rfl,rfl,_,_,g9,(by show 4<1000;decide),?_⟩;have hB:=hA.Ds (f:=fun y=>{y with got:=y.got+p.amount}) (fun _=>rfl) g7 g8 bM.upd (b:=a3) (H':=upd (upd H a1 (.ins Z.c d1 (cX "paid" (.int ((y1.paid:Int)+(p.amount:Int))) (mj y1)))) a3 (.ins Z.c d3 (cX "got" (.int ((y3.got:Int)+(p.amount:Int))) (mj y3)))) ⟨d3,by rw[au];rfl⟩;exact k _ hB ((bM.upd.fr g3 rfl).trans (bM.upd.fr g9 rfl))
open PySem PySem.Spec PyProof.Rows L2
open Vbahak (State Carrier Part Ticket)
def bN(cs:List Nat)(f:Nat->Int):List (Key×V):=cs.map fun c=>(kI c,V.int (f c))
theorem ij:∀{cs:List Nat} {f:Nat->Int} {c:Nat},c∈cs->bW (bN cs f) (kI c)=some (.int (f c))
 |[],_,_,h=>nomatch h
 |d::cs,f,c,h=>by
  show bW ((kI d,V.int (f d))::bN cs f) (kI c)=_;by_cases e:d=c
  ·subst e;exact jo (p:=(kI d,V.int (f d))) rfl
  ·rw[iK (p:=(kI d,V.int (f d))) (fun z=>e (j1 z))];exact ij (by rcases b0.mp h with z|z;exact absurd z.symm e;exact z)
theorem Nu:∀{cs:List Nat} {f:Nat->Int} {c:Nat},c∉cs->bW (bN cs f) (kI c)=none
 |[],_,_,_=>rfl
 |d::cs,f,c,h=>by
  show bW ((kI d,V.int (f d))::bN cs f) (kI c)=_;rw[iK (p:=(kI d,V.int (f d))) (fun z=>h (by rw[j1 z];exact bS))];exact Nu fun z=>h (bR _ z)
theorem t9{cs:List Nat}{f:Nat->Int}{c:Nat}{z:Int}(h:c∈cs):putK (bN cs f) (kI c) (.int z)=bN cs (MM.eF f c z):=by
 unfold putK;rw[qt,ij h,Pw,if_pos rfl];unfold bN;rw[bw];apply fW;intro d _;simp only[lE];by_cases e:d=c
 ·subst e;rw[if_pos rfl,MM.vX]
 ·rw[if_neg (fun q=>e (j1 q)),MM.kO e]
theorem mE(cs:List Nat)(f:Nat->Int):(bN cs f).length=cs.length:=by unfold bN;rw[ao]
theorem FK{cs:List Nat}{f g:Nat->Int}(h:∀c∈cs,f c=g c):bN cs f=bN cs g:=by
 unfold bN;exact fW fun c hc=>by rw[h c hc]
theorem FN:∀{a b:List Int},a.Perm b->a.Pairwise (·<=·)->b.Pairwise (·<=·)->a=b
 |[],b,h,_,_=>(List.Perm.nil_eq h)
 |x::a,[],h,_,_=>absurd h.symm.nil_eq (by simp)
 |x::a,y::b,h,h1,h2=>by
  rw[xG] at h1 h2;have hx:x=y:=by
   have m1:x∈y::b:=h.mem_iff.mp bS;have m2:y∈x::a:=h.mem_iff.mpr bS;rcases b0.mp m1 with z|z
   ·exact z
   ·rcases b0.mp m2 with z2|z2
    ·exact z2.symm
    ·have:=h1.1 y z2;have:=h2.1 x z;omega
  subst hx;rw[FN (List.Perm.cons_inv h) h1.2 h2.2]
def wQ:Key->Int
 | .inl z=>z
 | .inr _=>0
theorem aE.keys{Z:aK}{A:Ad}{G:Gh}{H:Hp}{s:State}(h:aE Z A G H s):G.ca.map (·.1)=((G.ca.map (·.1)).map wQ).map jN:=by
 rw[bw];have:∀k∈G.ca.map (·.1),(jN∘wQ) k=k:=fun k hk=>by
  have:=h.cK.mem_iff.mp hk;obtain⟨c,_,rfl⟩:=bh.mp this
  rfl
 conv=>lhs;rw[<-Bs (G.ca.map (·.1))]
 exact(fW fun k hk=>(this k hk).symm)
theorem aE.Za{Z:aK}{A:Ad}{G:Gh}{H:Hp}{s:State}(h:aE Z A G H s):((G.ca.map (·.1)).map wQ).Perm ((MM.nums s).map fun(c:Nat)=>(c:Int)):=by
 have:=h.cK.map wQ;rw[bw (f:=kI)] at this;exact this
theorem Zb{s:State}(g:MM.Good s):((MM.nums s).map fun(c:Nat)=>(c:Int)).Pairwise (·<=·):=by
 rw[gN];exact(MM.zj g).imp fun h=>by omega
theorem wR{s:State}:(MM.nums s).length=s.carriers.length:=by unfold MM.nums;rw[ao]
abbrev FO:aL:=top 48
theorem An:a9 ["house","nets","number","claim"] ["house"] (aQ FO):=bo
def wU(Z:aK):Sp:=fun vs H Q _=>∃(A:Ad) (G:Gh) (s:State),vs=[.ref A.p]/\aE Z A G H s/\MM.Good s/\MM.Good2 s/\∀H' d,af H H'->H d=none->H' d=some (.dK (bN (MM.nums s) (MM.ib s)))->Q (.ref d) H'
theorem Zc{f:aa}{fd:aU}(F:aR K "net_sums" "net_sums" FO f fd)(T:Txt K mg Z)(FP:aA P w K mg base "claims_to_clear" 2 ["house"] (Fy Z)):aN P w K mg base aT 3 f fd ["house"] (wU Z):=by
 refine F.bA An fun aD A0 outer s0 H vs Q E hr h=> ?_
 ·obtain⟨A,G,s,rfl,hh,g,g2,k⟩:=h;have hu:=fk hr;refine⟨rfl,_,(aw (aP (i:=1) An.nd rfl (.inl rfl) yI)
   (aw (iF fX rfl (dh (K:=K) (cC (VQ rfl) (by rfl) T.Ea MF (ae (aJ (K:=K) (pv 0) rfl) ai))) (bU (i:=2) An.nd rfl (.inl rfl))
   (ax (vG hu (pv 1) (pv 2) ay rfl)))
   (aw (iF fX rfl (dh (K:=K) (aX FP hr (by decide) rfl (ae (pv 0) ai))) (bU (i:=3) An.nd rfl (.inl rfl))
   (aw (r9 hu (pv 1) (aJ (K:=K) (pv 3) rfl) (aJ (K:=K) (pv 3) rfl) rT (fun _ _ _=>rfl))
    (ax (r9 hu (pv 1) (aJ (K:=K) (pv 3) rfl) (aJ (K:=K) (pv 3) rfl) B0 (fun _ _ _=>rfl)))))
   (ax (aF (pv 1)))))),?_⟩
  intro d hd;have s1:af H _:=af.new (o:= .dK []) hd;have h1:=hh.kp (Kp.of s1);have n10:(MM.nums s).length<=10:=by rw[wR];exact g.gY
  refine⟨_,rfl,_,⟨A.p,Z.h,_,_,rfl,h1.hs,T.bZ,T.ja,rfl⟩,A.dC,G.ca,(G.ca.map (·.1)).map wQ,rfl,.inl h1.hC,hh.keys,(by rw[ao,ao,hh.Dr];have:=g.gY;omega),fun eN p pm so hp=> ?_⟩;have en:eN=(MM.nums s).map fun(c:Nat)=>(c:Int):=FN (pm.trans hh.Za) so (Zb g);have el:eN.map V.int=(MM.nums s).map nI:=by rw[en,bw];rfl
  rw[el];have s2:af (upd H d (.dK [])) _:=af.new (o:= .lst ((MM.nums s).map nI)) hp;have dp:d≠p:=fun z=>by rw[<-z,au] at hp;cases hp
  have pH:H p=none:=by rw[ag dp.symm] at hp;exact hp
  refine⟨p,rfl,⟨_,ah.of au⟩,lV (K:=K) (a:=p) (xs:=(MM.nums s).map nI) (fun i σ H'=>∃v2:Option V,σ=[some (.ref A.p),some (.ref d),v2,none]/\af H H'/\H' p=some (.lst ((MM.nums s).map nI))/\H' d=some (.dK (bN ((MM.nums s).take i) fun _=>0))) ⟨none,rfl,s1.trans s2,au,by rw[ag dp,au];rfl⟩ (fun i σ H' _ ⟨_,_,_,s3,_⟩=>ah.of s3) ?_ ?_⟩
  ·rintro i y σ H' hi ⟨v2,rfl,s3,ua,dn⟩;obtain⟨c,hc,rfl⟩:=cg hi;have nin:c∉(MM.nums s).take i:=fun z=>by
    have nd:=MM.LK g;have e1:(MM.nums s).take (i+1)=(MM.nums s).take i++[c]:=fN hc;have nd2:((MM.nums s).take (i+1)).Nodup:=nd.sublist (HP _ _);rw[e1,xH] at nd2;exact nd2.2.2 c z c (by simp) rfl
   refine⟨_,rfl,_,rfl,d,_,rfl,gj.k (k:=kI c) dn (by rw[mE,iU];exact eO (by omega)),?_⟩;refine⟨_,rfl,fun b o e=> ?_,?_,?_⟩
   ·rw[ag (aV e hd)];exact s3 _ _ e
   ·rw[ag dp.symm];exact ua
   ·rw[au,Cn _ (Nu nin),fN hc];unfold bN;rw[cZ]
    rfl
  ·rintro σ H2 ⟨v2,rfl,s3,ua,dn⟩;rw[ao,iq] at dn;have h2:=hh.kp (Kp.of s3);refine⟨_,rfl,A,G,s,rfl,h2,g,g2,fun H3 l s4 hl eZ=> ?_⟩;have s34:=s3.trans s4;have dl:d≠l:=fun z=>by rw[<-z,dn] at hl;cases hl
   refine⟨l,rfl,⟨_,ah.of eZ⟩,lV (K:=K) (a:=l) (xs:=(kc s G).map fun q=>V.ref q.2) (fun i σ H'=>∃v3:Option V,σ=[some (.ref A.p),some (.ref d),v2,v3]/\af H H'/\H' l=some (.lst ((kc s G).map fun q=>V.ref q.2))/\H' d=some (.dK (bN (MM.nums s) (oI (((kc s G).map (·.1)).take i))))) ⟨none,rfl,s34,eZ,s4 _ _ dn⟩ (fun i σ H' _ ⟨_,_,_,s5,_⟩=>ah.of s5) ?_ ?_⟩
   ·rintro i y σ H' hi ⟨v3,rfl,s5,o9,mF⟩;obtain⟨q,hq,rfl⟩:=cg hi;have pz:=(c9.mp (bP hq)).1;obtain⟨⟨dx,ho⟩,hm⟩:=Am hh pz;obtain⟨k1,k2⟩:=g2.cls q.1 hm;have m1:=MM.nN.mpr k1;have m2:=MM.nN.mpr k2;have FQ:=s5 _ _ ho;have dq:q.2≠d:=aV ho hd;have om:((kc s G).map (·.1))[i]? =some q.1:=by rw[aS,hq];rfl
    have kX:bj H' d (nI q.1.to) (some (.int (oI (((kc s G).map (·.1)).take i) q.1.to))):=by rw[<-ij m1];exact bj.k (k:=kI q.1.to) mF
    refine⟨_,rfl,_,rfl,_,⟨q.2,Z.k,_,_,rfl,FQ,T.cD,T.qE,rfl⟩,d,_,rfl,kX,_,rfl,_,⟨q.2,Z.k,_,_,rfl,FQ,T.cD,T.nZ,rfl⟩,_,_,rfl,rfl,_,gj.k (k:=kI q.1.to) mF (by rw[mE];exact eO (by omega)),?_⟩;rw[t9 m1];have Nv:(upd H' d (.dK (bN (MM.nums s) (MM.eF (oI (((kc s G).map (·.1)).take i)) q.1.to (oI (((kc s G).map (·.1)).take i) q.1.to+(q.1.amount:Int)))))) q.2=some (.ins Z.k dx (gK q.1)):=by rw[ag dq];exact FQ
    have qC:bj (upd H' d (.dK (bN (MM.nums s) (MM.eF (oI (((kc s G).map (·.1)).take i)) q.1.to (oI (((kc s G).map (·.1)).take i) q.1.to+(q.1.amount:Int)))))) d (nI q.1.of) (some (.int (MM.eF (oI (((kc s G).map (·.1)).take i)) q.1.to (oI (((kc s G).map (·.1)).take i) q.1.to+(q.1.amount:Int)) q.1.of))):=by
     rw[<-ij m2];exact bj.k (k:=kI q.1.of) au
    refine⟨_,rfl,_,rfl,_,⟨q.2,Z.k,_,_,rfl,Nv,T.cD,T.qF,rfl⟩,d,_,rfl,qC,_,rfl,_,⟨q.2,Z.k,_,_,rfl,Nv,T.cD,T.nZ,rfl⟩,_,_,rfl,rfl,_,gj.k (k:=kI q.1.of) au (by rw[mE];exact eO (by omega)),?_⟩;rw[t9 m2,yb];refine⟨_,rfl,fun b o e=> ?_,?_,?_⟩
    ·rw[ag (aV e hd)];exact s5 _ _ e
    ·rw[ag dl.symm];exact o9
    ·rw[au,fN om]
     congr 2
     refine FK fun c _=> ?_;rw[MM.LI];unfold MM.share1 MM.eF;by_cases z1:c=q.1.of
     ·subst z1;by_cases z2:q.1.of=q.1.to
      ·rw[if_pos rfl,if_pos z2,if_pos z2.symm,if_pos rfl];rw[<-z2];omega
      ·rw[if_pos rfl,if_neg z2,if_neg (d7 z2),if_pos rfl];omega
     ·by_cases z2:c=q.1.to
      ·subst z2;rw[if_neg z1,if_pos rfl,if_pos rfl,if_neg (d7 z1)];omega
      ·rw[if_neg z1,if_neg z2,if_neg (d7 z2),if_neg (d7 z1)];omega
   ·rintro σ H' ⟨v3,rfl,s5,o9,mF⟩;rw[ao,show(kc s G).length=((kc s G).map (·.1)).length by rw[ao],iq,Y0 hh] at mF;exact⟨_,rfl,k H' d s5 hd mF⟩
abbrev FR:aL:=top 49
theorem Ao:a9 ["house","answer","number","net"] ["house"] (aQ FR):=bo
def FU(tb:cf)(Z:aK):Sp:=fun vs H Q _=>∃(A:Ad) (G:Gh) (s:State),vs=[.ref A.p]/\aE Z A G H s/\MM.Good s/\MM.Good2 s/\c8 tb Z A G H (bE s .nets) Q
theorem Zd{f:aa}{fd:aU}(F:aR K "show_nets" "show_nets" FR f fd)(T:Txt K mg Z)(qK:aA P w K mg base "net_sums" 3 ["house"] (wU Z)):aN P w K mg base aT 4 f fd ["house"] (FU tb Z):=by
 refine F.bA Ao fun aD A0 outer s0 H vs Q E hr h=> ?_
 ·obtain⟨A,G,s,rfl,hh,g,g2,k⟩:=h;refine⟨rfl,_,(aw (aP (i:=1) Ao.nd rfl (.inl rfl) (a7 (ae ay ai)))
   (aw (iF fX rfl (TV (VT (aX qK hr (by decide) rfl (ae (pv 0) ai)))) (pk (K:=K) rfl (gD (bU (i:=2) Ao.nd rfl (.inl rfl)) (gD (bU (i:=3) Ao.nd rfl (.inl rfl)) oS)))
   (ax (iX (jn ka uw uv rY (pv 1) (ae (a7 (ae (pv 2) (ae (pv 3) ai))) ai)))))
   (ax (aF (pv 1))))),?_⟩
  refine⟨by show 1<=sizeLine;decide,fun la fo=> ?_⟩;have s1:af H _:=af.new (o:= .lst [V.int 0]) fo;have h1:=hh.kp (Kp.of s1);have laC:la≠A.lC:=fun z=>by rw[z,hh.hK] at fo;cases fo
  have n10:(MM.nums s).length<=10:=by rw[wR];exact g.gY
  refine⟨_,rfl,A,G,s,rfl,h1,g,g2,fun H2 d s2 hd hd2=> ?_⟩;refine⟨d,_,rfl,hd2,fun od=>⟨d,od,_,rfl,au,?_⟩⟩;have da:la≠d:=fun z=>by rw[<-z,au] at hd;cases hd
  have dH:H d=none:=by rw[ag da.symm] at hd;exact hd
  have sH:∀b o,H b=some o->(upd H2 d (.bF od (.dK (bN (MM.nums s) (MM.ib s))))) b=some o:=fun b o e=>by rw[ag (aV e dH)];exact s2 _ _ (s1 _ _ e)
  refine Ab (J:=Cw d od (bN (MM.nums s) (MM.ib s))) (n:=(bN (MM.nums s) (MM.ib s)).length) (fun i σ H'=>∃v2 v3:Option V,σ=[some (.ref A.p),some (.ref la),v2,v3]/\af H H'/\H' d=some (.bF od (.dK (bN (MM.nums s) (MM.ib s))))/\H' la=some (.lst ((0::((gC s).take i).flatMap fun p=>[(p.1:Int),p.2]).map V.int)))
   ⟨none,none,rfl,sH,au,by rw[ag da];exact s2 _ _ au⟩ (fun i σ H' hi ⟨_,_,_,_,q,_⟩=>⟨q,hi⟩) (fun σ H' ⟨_,_,_,_,q,_⟩=>⟨q,aI _⟩) ?_ ?_
  ·rintro i σ H' x H'' hi ⟨v2,v3,rfl,s3,dn,wV⟩ ⟨tt,kk,vv,jq,rfl,hT,rfl⟩;obtain⟨c,hc,e1⟩:=cg jq;cases e1;have jU:(gC s)[i]? =some (c,MM.ib s c):=by rw[MM.qx,aS,hc];rfl
   have sT:af H' _:=af.new (o:= .tup [kV (kI c),V.int (MM.ib s c)]) hT;refine⟨tt,_,rfl,cH.of au,rfl,_,_,rfl,_,_,rfl,rfl,?_⟩;refine⟨_,rfl,.inl ⟨rfl,_,ah.of (sT _ _ wV)⟩,_,rfl,_,rfl,by show 2<=sizeLine;decide,fun l hl=> ?_⟩;have sl:af _ _:=af.new (o:= .lst [kV (kI c),V.int (MM.ib s c)]) hl;refine⟨la,l,_,_,rfl,rfl,sl _ _ (sT _ _ wV),au,?_,?_⟩
   ·rw[ao,bH];have:=k8 (f:=fun p:Nat×Int=>[(p.1:Int),p.2]) (m:=2) (l:=(gC s).take i) (fun x _=>aI 2);have eL:(gC s).length<=10:=by rw[MM.qx,ao];exact n10
    rw[iU] at this;show _+2<=sizeLine;exact fO (eO (by omega))
   ·refine⟨_,_,rfl,fun b o e=> ?_,?_,?_⟩
    ·rw[ag (aV e fo)];exact sl _ _ (sT _ _ (s3 _ _ e))
    ·rw[ag da.symm];exact sl _ _ (sT _ _ dn)
    ·rw[au,fN jU,xE,<-rh,cZ]
     rfl
  ·rintro σ H' ⟨v2,v3,rfl,s3,dn,wV⟩;rw[mE,show(MM.nums s).length=(gC s).length by rw[MM.qx,ao],iq] at wV;exact⟨_,rfl,k.same hh s3 wV laC fo⟩
open PySem PySem.Spec PyProof.Rows L2
open Vbahak (State Carrier Part Ticket)
theorem Ze:∀(a:List Int) (b:List (Int×Int)),a.length=b.length->(cN a.length).filterMap (fun i=>(a[i]?).bind fun z=>(b[i]?).map fun q=>V.bl (MM.bC z q))=(Qo MM.bC a b).map V.bl:=by
 intro a
 induction a with
 |nil=>intro b _;simp
 |cons z a ih=>
  intro b hb
  cases b with
  |nil=>simp at hb
  |cons q b=>
   rw[bH,xy,jf,pN]
   have e:((fun i=>((z::a)[i]?).bind fun z=>((q::b)[i]?).map fun q=>V.bl (MM.bC z q))∘rE)=fun i=>(a[i]?).bind fun z=>(b[i]?).map fun q=>V.bl (MM.bC z q):=by funext i;simp
   rw[e,ih b (by simpa using hb)]
   rfl
abbrev FV:aL:=top 61
theorem Zf:a9 ["place"] ["place"] (aQ FV):=bo
def Ap:Sp:=fun vs H Q _=>∃(p:Nat),vs=[nI p]/\p<=21/\Q (.str (nameOf p)) H
theorem Zg{f:aa}{fd:aU}(F:aR K "name_of" "name_of" FV f fd)(T:Txt K mg Z)(W:pB K w mg dF dR tT tK tC):aN P w K mg base aT 1 f fd ["place"] Ap:=by
 refine F.bA Zf fun aD A0 outer s0 H vs Q E hr h=> ?_
 ·obtain⟨p,rfl,hp,q⟩:=h;obtain⟨T1,x,rg,h1,h2,h3,h4⟩:=W.Ee p hp;refine⟨rfl,_,(ax (aF (bK (i8 (K:=K)) (zG (pf rfl W.Ed) (pv 0) (fun _ _=>rfl)) ay (fun _ _=>rfl)))),?_⟩;exact⟨_,rfl,dF,_,rfl,h1,T1,_,_,_,rfl,rfl,h2.sq,bL (j:=0) rfl,q⟩
abbrev FW:aL:=top 62
theorem Zh:a9 ["place"] ["place"] (aQ FW):=bo
def Nw:Sp:=fun vs H Q _=>∃(p:Nat),vs=[nI p]/\p<=21/\Q (nI (MM.eE p).length) H
theorem Zi{f:aa}{fd:aU}(F:aR K "plain_count" "plain_count" FW f fd)(T:Txt K mg Z)(W:pB K w mg dF dR tT tK tC):aN P w K mg base aT 1 f fd ["place"] Nw:=by
 refine F.bA Zh fun aD A0 outer s0 H vs Q E hr h=> ?_
 ·obtain⟨p,rfl,hp,q⟩:=h;obtain⟨T1,x,rg,h1,h2,h3,h4⟩:=W.Ee p hp;refine⟨rfl,_,(ax (aF (cC (fT (K:=K)) (by rfl) T.fm fE (ae (bK (i8 (K:=K)) (zG (pf rfl W.Ed) (pv 0) (fun _ _=>rfl)) ay (fun _ _=>rfl)) ai)))),?_⟩;refine⟨_,rfl,dF,_,rfl,h1,T1,_,_,_,rfl,rfl,h2.sq,bL (j:=1) rfl,x,_,rfl,.inr h3.sq,?_⟩;rw[ao,h4.len];exact q
abbrev FX:aL:=top 63
theorem Zj:a9 ["place"] ["place"] (aQ FX):=bo
def FY:Sp:=fun vs H Q _=>∃(p:Nat),vs=[nI p]/\p<=21/\Q (.bl (MM.mf p)) H
theorem Zk{f:aa}{fd:aU}(F:aR K "has_row" "has_row" FX f fd)(T:Txt K mg Z)(W:pB K w mg dF dR tT tK tC)(wW:aA P w K mg base "name_of" 1 ["place"] Ap):aN P w K mg base aT 2 f fd ["place"] FY:=by
 refine F.bA Zj fun aD A0 outer s0 H vs Q E hr h=> ?_
 ·obtain⟨p,rfl,hp,q⟩:=h;refine⟨rfl,_,(ax (aF (IQ (Xi (aX wW hr (by decide) rfl (ae (pv 0) ai)) (pf rfl W.MO))))),?_⟩;refine⟨_,rfl,p,rfl,hp,?_⟩;unfold MM.mf at q;cases e:MM.me p with
  |none=>rw[e] at q;exact⟨dR,none,rfl,W.XD p hp e,q⟩
  |some f=>
   rw[e] at q
   obtain⟨T1,b,x,rg,h1,_⟩:=W.MP p f hp e
   exact⟨dR,_,rfl,h1,q⟩
abbrev FZ:aL:=top 64
theorem Zl:a9 ["number","bounds"] ["number","bounds"] (aQ FZ):=bo
def F0(K:aC):Sp:=fun vs H Q _=>∃(z:Int) (b:aa) (q:Int×Int),vs=[.int z,.ref b]/\eX K b [.int q.1,.int q.2]/\Q (.bl (MM.bC z q)) H
theorem Zm{f:aa}{fd:aU}(F:aR K "within" "within" FZ f fd)(T:Txt K mg Z):aN P w K mg base aT 1 f fd ["number","bounds"] (F0 K):=by
 refine F.bA Zl fun aD A0 outer s0 H vs Q E hr h=> ?_
 ·obtain⟨z,b,q,rfl,hb,k⟩:=h;refine⟨rfl,_,(ax (aF (BF (qh BU (bK (i8 (K:=K)) (pv 1) ay (fun _ _=>rfl)) (pv 0) (aZ _)) (yj (qh BU (pv 0) (bK (i8 (K:=K)) (pv 1) ay (fun _ _=>rfl)) (aZ _)))))),?_⟩;unfold MM.bC at k;refine⟨_,rfl,b,_,_,_,rfl,rfl,hb.sq,bL (j:=0) rfl,_,rfl,_,_,rfl,rfl,_,rfl,?_⟩;by_cases h1:q.1<=z
  ·rw[decide_eq_true h1] at k ⊢;exact a8 ⟨_,rfl,_,rfl,b,_,_,_,rfl,rfl,hb.sq,bL (j:=1) rfl,_,_,rfl,rfl,k⟩
  ·rw[decide_eq_false h1] at k ⊢;exact ba k
abbrev F1:aL:=top 65
theorem wX:a9 ["place","plain","ranges","number","bounds"] ["place","plain"] (aQ F1):=bo
def Ny:Sp:=fun vs H Q _=>∃(p:Nat) (l:aa) (plain:List Int),vs=[nI p,.ref l]/\p<=21/\H l=some (.lst (plain.map V.int))/\plain.length=(MM.eE p).length/\plain.length<1000/\∀H',af H H'->Q (.bl ((MM.qv p plain).all id)) H'
theorem Zn{f:aa}{fd:aU}(F:aR K "plain_fits" "plain_fits" F1 f fd)(T:Txt K mg Z)(W:pB K w mg dF dR tT tK tC)(Aq:aA P w K mg base "within" 1 ["number","bounds"] (F0 K)):aN P w K mg base aT 2 f fd ["place","plain"] Ny:=by
 refine F.bA wX fun aD A0 outer s0 H vs Q E hr h=> ?_
 ·obtain⟨p,l,plain,rfl,hp,hl,hn,F2,k⟩:=h;obtain⟨T1,x,rg,h1,h2,h3,h4⟩:=W.Ee p hp;have F3:=h4.len;refine⟨rfl,_,(aw (aP (i:=2) wX.nd rfl (.inl rfl) (bK (i8 (K:=K)) (zG (pf rfl W.Ed) (pv 0) (fun _ _=>rfl)) ay (fun _ _=>rfl)))
   (ax (aF (cC (zq (K:=K) rfl) (by rfl) T.zV zL (ae (eW (own:=[("number",3),("bounds",4)]) rfl wX.nd (W3 (K:=K) rfl T.zX (ae (pv 1) (ae (pv 2) ai))) (dD rfl) (fun _ _ _ _ _=>by exact(pk (K:=K) (n:=2) rfl (gD (bU (i:=3) wX.nd rfl (.inl rfl)) (gD (bU (i:=4) wX.nd rfl (.inl rfl)) oS)))) (fun _ _ _ _ _=>by exact iJ) (fun _ _ _ _ _=>by exact(aX Aq hr (by decide) rfl (ae (pv 3) (ae (pv 4) ai))))) ai))))),?_⟩
  refine⟨_,rfl,dF,_,rfl,h1,T1,_,_,_,rfl,rfl,h2.sq,bL (j:=1) rfl,?_⟩;refine⟨_,rfl,_,rfl,l,x,_,_,rfl,ah.of hl,h3.sq,fun D hD=>W4 (fun i=>(plain[i]?).bind fun z=>((MM.eE p)[i]?).map fun q=>V.bl (MM.bC z q)) hD (ah.of hl) h3.sq (by rw[ao,ao];omega) (by rw[ao];exact dk (fO F2)) (fun _ _=>rfl) (fun i H2 y u R R0 hy hu s2 r1 r2=> ?_) (fun H2 s2 hd=> ?_)⟩
  ·obtain⟨z,hz,rfl⟩:=cg hy;obtain⟨b,hb,rfl⟩:=cg hu;obtain⟨q,hq,F4⟩:=h4.get hb;rw[hz,hq] at r1;exact iP ⟨_,rfl,_,rfl,z,b,q,rfl,F4,r1 _ _ rfl (af.refl _)⟩
  ·have e:(cN (plain.map V.int).length).filterMap (fun i=>(plain[i]?).bind fun z=>((MM.eE p)[i]?).map fun q=>V.bl (MM.bC z q))=(MM.qv p plain).map V.bl:=by
    rw[ao];unfold MM.qv;exact Ze _ _ hn
   rw[e] at hd;exact⟨D,_,rfl,ah.of hd,k H2 s2⟩
abbrev F5:aL:=top 66
theorem qL:a9 ["place","row","form","ranges","width","at","number"] ["place","row"] (aQ F5):=bo
theorem mG{α β:Type}(f:α->Option β)(g:α->β):∀{l:List α},(∀a∈l,f a=some (g a))->l.filterMap f=l.map g
 |[],_=>rfl
 |a::l,h=>by rw[jf,h a bS,bQ,mG f g fun b hb=>h b (bR _ hb)]
theorem Zo(rg:List (Int×Int))(row:List Int):(cN row.length).filterMap (fun i=>(row[i]?).bind fun z=>some (V.bl (MM.bC z (rg.getD (i%rg.length) (0,0)))))=(MM.vM rg row).map V.bl:=by
 unfold MM.vM;rw[bw];apply oA;intro i;have e:(cN row.length).filterMap (fun i=>(row[i]?).bind fun z=>some (V.bl (MM.bC z (rg.getD (i%rg.length) (0,0)))))=(cN row.length).map (fun i=>V.bl (MM.bC (row.getD i 0) (rg.getD (i%rg.length) (0,0)))):=by
  refine mG _ _ fun i hi=> ?_;have hi:=kj.mp hi;rw[ly (l:=row),cE hi]
  rfl
 rw[e,aS,aS,qZ];by_cases hi:i<row.length
 ·rw[xD hi,cE hi];simp only[iu,lE];rw[ly (l:=row),cE hi];simp
 ·rw[jG (by simpa using hi),jG (l:=row) (by omega)]
  rfl
def Nz:Sp:=fun vs H Q _=>∃(p:Nat) (l:aa) (row:List Int) (f:(Int×Int)×List (Int×Int)),vs=[nI p,.ref l]/\p<=21/\MM.me p=some f/\H l=some (.lst (row.map V.int))/\row.length<sizeLine/\∀H',af H H'->Q (.bl (MM.iM f row)) H'
theorem Zp{p:Nat}{f:(Int×Int)×List (Int×Int)}(h:MM.me p=some f):2<=f.2.length/\f.2.length<=3:=by
 unfold MM.me at h;split at h<;>first|(cases h;decide)|cases h
theorem Zq{f:aa}{fd:aU}(F:aR K "row_fits" "row_fits" F5 f fd)(T:Txt K mg Z)(W:pB K w mg dF dR tT tK tC)(wW:aA P w K mg base "name_of" 1 ["place"] Ap)(Aq:aA P w K mg base "within" 1 ["number","bounds"] (F0 K)):aN P w K mg base aT 2 f fd ["place","row"] Nz:=by
 refine F.bA qL fun aD A0 outer s0 H vs Q E hr h=> ?_
 ·obtain⟨p,l,row,fr,rfl,hp,hf,hl,hn,k⟩:=h;obtain⟨T1,b,x,rg,h1,h2,h3,h4,h5⟩:=W.MP p fr hp hf;have F3:=h5.len;obtain⟨l2,l3⟩:=Zp hf;have hlen:(row.map V.int).length=row.length:=ao ..;have ub:(rg.map V.ref).length=fr.2.length:=by rw[ao,F3]
  unfold MM.iM at k;refine⟨rfl,_,(aw (aP (i:=2) qL.nd rfl (.inl rfl) (zG (pf rfl W.MO) (aX wW hr (by decide) rfl (ae (pv 0) ai)) (fun _ _=>rfl)))
   (aw (aP (i:=3) qL.nd rfl (.inr rfl) (bK (i8 (K:=K)) (pv 2) ay (fun _ _=>rfl)))
   (aw (aP (i:=4) qL.nd rfl (.inr rfl) (cC (fT (K:=K)) (by rfl) T.fm fE (ae (pv 3) ai)))
   (aw (bG (PW.pt (va (bb lW (cp BS (cC (fT (K:=K)) (by rfl) T.fm fE (ae (pv 1) ai)) (pv 4)) ay (aZ _)) (u7 (iE (fh (aX Aq hr (by decide) rfl (ae (cp zo (cC (fT (K:=K)) (by rfl) T.fm fE (ae (pv 1) ai)) (pv 4)) (ae (bK (i8 (K:=K)) (pv 2) ay (fun _ _=>rfl)) ai))))))))
   (ax (aF qf))
   bJ)
   (ax (aF (cC (zq (K:=K) rfl) (by rfl) T.zV zL (ae (eW (own:=[("at",5),("number",6)]) rfl qL.nd (Dl (K:=K) rfl T.Ec (ae (pv 1) ai)) (dD rfl) (fun _ _ _ _ _=>by exact(pk (K:=K) (n:=2) rfl (gD (bU (i:=5) qL.nd rfl (.inl rfl)) (gD (bU (i:=6) qL.nd rfl (.inl rfl)) oS)))) (fun _ _ _ _ _=>by exact iJ) (fun _ _ _ _ _=>by exact(aX Aq hr (by decide) rfl (ae (pv 6) (ae (bK (i8 (K:=K)) (pv 3) (cp BS (pv 5) (pv 4)) (fun _ _=>rfl)) ai))))) ai)))))))),?_⟩
  refine⟨_,rfl,p,rfl,hp,dR,_,rfl,h1,?_⟩;refine⟨_,rfl,T1,_,_,_,rfl,rfl,h2.sq,bL (j:=1) rfl,?_⟩;refine⟨_,rfl,x,_,rfl,.inr h4.sq,?_⟩;refine⟨_,rfl,l,_,rfl,.inl (ah.of hl),_,rfl,_,_,rfl,rfl,(by show(0:Int)<_;rw[ub];omega),rfl,!decide (row.length%fr.2.length=0),?e,?_⟩;case e=>
   show V.bl (!decide (V.int ((((row.map V.int).length:Nat):Int)%(((rg.map V.ref).length:Nat):Int))=V.int 0))=_
   rw[hlen,ub]
   have:decide (V.int ((row.length:Int)%(fr.2.length:Int))=V.int 0)=decide (row.length%fr.2.length=0):=decide_eq_decide.mpr ⟨fun z=>by injection z with z;omega,fun z=>by congr 1;omega⟩
   rw[this]
  have em:((row.length:Int)%(fr.2.length:Int))=((row.length%fr.2.length:Nat):Int):=by omega
  have ed:((row.length:Int)/(fr.2.length:Int))=((row.length/fr.2.length:Nat):Int):=by omega
  by_cases c1:row.length%fr.2.length=0
  ·rw[decide_eq_true c1];refine ba ⟨_,rfl,l,_,rfl,.inl (ah.of hl),_,rfl,_,_,rfl,rfl,(by rw[ub];exact⟨by omega,by omega⟩),_,rfl,T1,_,_,_,rfl,rfl,h2.sq,bL (j:=0) rfl,((row.length/fr.2.length:Nat):Int),b,fr.1,(by show[V.int ((((row.map V.int).length:Nat):Int)/(((rg.map V.ref).length:Nat):Int)),V.ref b]=_;rw[hlen,ub,ed]),h3,_,rfl,?_⟩;cases c2:MM.bC ((row.length/fr.2.length:Nat):Int) fr.1 with
   |false=>
    rw[if_pos (.inr c2)] at k
    exact a8 (k H (af.refl _))
   |true=>
    rw[if_neg (by rw[c2];simp[c1])] at k
    refine ba ⟨_,rfl,l,_,rfl,ah.of hl,fun D hD=>Di (fun i v=>match v with| .int z=>some (V.bl (MM.bC z (fr.2.getD (i%fr.2.length) (0,0))))|_=>none) hD (ah.of hl) (by rw[hlen];exact hn) (fun _ _=>rfl) (fun i H2 y R R0 hy s2 r1 r2=> ?_) (fun H2 s2 hd=> ?_)⟩
    ·obtain⟨z,hz,rfl⟩:=cg hy
     have hi:i%fr.2.length<rg.length:=by rw[F3];exact QA _ (by omega)
     obtain⟨q,hq,F4⟩:=h5.get (cE hi)
     have eq:fr.2.getD (i%fr.2.length) (0,0)=q:=by rw[ly,hq];rfl
     have ei:((i:Int)%(((rg.map V.ref).length:Nat):Int))=((i%fr.2.length:Nat):Int):=by rw[ub];omega
     refine iP ⟨_,rfl,_,rfl,_,rfl,_,rfl,_,_,rfl,rfl,(by show(0:Int)<_;rw[ub];omega),x,_,_,_,rfl,rfl,h4.sq,(by rw[ei];exact bL (j:=i%fr.2.length) (by rw[aS,cE hi];rfl)),z,_,q,rfl,F4,r1 _ _ (by show some _=some _;rw[eq]) (af.refl _)⟩
    ·have e:(cN (row.map V.int).length).filterMap (fun i=>((row.map V.int)[i]?).bind ((fun i v=>match v with| .int z=>some (V.bl (MM.bC z (fr.2.getD (i%fr.2.length) (0,0))))|_=>none) i))=(MM.vM fr.2 row).map V.bl:=by
      rw[<-Zo,hlen]
      congr 1
      funext i
      rw[aS];cases row[i]? <;>rfl
     rw[e] at hd
     exact⟨D,_,rfl,ah.of hd,k H2 s2⟩
  ·rw[if_pos (.inl c1)] at k;rw[decide_eq_false c1];exact a8 (k H (af.refl _))
abbrev F6:aL:=top 67
theorem Zr:a9 ["place","plain","row"] ["place","plain","row"] (aQ F6):=bo
def NA:Sp:=fun vs H Q _=>∃(p:Nat) (l r:aa) (plain row:List Int),vs=[nI p,.ref l,.ref r]/\p<=21/\H l=some (.lst (plain.map V.int))/\plain.length=(MM.eE p).length/\plain.length<1000/\H r=some (.lst (row.map V.int))/\row.length<sizeLine/\∀H',af H H'->Q (.bl (MM.fits p plain row)) H'
theorem Zs{f:aa}{fd:aU}(F:aR K "call_fits" "call_fits" F6 f fd)(T:Txt K mg Z)(Zt:aA P w K mg base "plain_fits" 2 ["place","plain"] Ny)(F7:aA P w K mg base "has_row" 2 ["place"] FY)(Zu:aA P w K mg base "row_fits" 2 ["place","row"] Nz):aN P w K mg base aT 3 f fd ["place","plain","row"] NA:=by
 refine F.bA Zr fun aD A0 outer s0 H vs Q E hr h=> ?_
 ·obtain⟨p,l,r,plain,row,rfl,hp,hl,hn,F2,kM,hz,k⟩:=h;unfold MM.fits at k;refine⟨rfl,_,(aw (bG (iE (fh (aX Zt hr (by decide) rfl (ae (pv 0) (ae (pv 1) ai)))))
   (ax (aF qf))
   bJ)
   (ax (aF (Q3 (BG (aX F7 hr (by decide) rfl (ae (pv 0) ai))) (yj (aX Zu hr (by decide) rfl (ae (pv 0) (ae (pv 2) ai)))))))),?_⟩
  refine⟨_,rfl,_,rfl,p,l,plain,rfl,hp,hl,hn,F2,fun H1 s1=>⟨_,rfl,?_⟩⟩;cases c:(MM.qv p plain).all id with
  |false=>
   rw[c] at k
   exact a8 (k H1 s1)
  |true=>
   rw[c] at k
   refine ba ⟨_,rfl,p,rfl,hp,_,rfl,_,rfl,?_⟩
   unfold MM.mf
   cases e:MM.me p with
   |none=>
    rw[e] at k
    exact a8 (k H1 s1)
   |some f=>
    rw[e] at k
    exact ba ⟨_,rfl,_,rfl,p,r,row,f,rfl,hp,e,s1 _ _ kM,hz,fun H2 s2=>k H2 (s1.trans s2)⟩
end CM
namespace L2
open PySem PySem.Spec PyProof.Rows
def Zv:V->V->Hp->VK->Prop:=fun o i H Q=>∃(p:aa) (xs:List V) (k:Nat) (v:V),o= .ref p/\i= .int (k:Int)/\H p=some (.lst xs)/\xs[k]? =some v/\Q v H
theorem Zw{X:Cx}:IS X Zv:=by
 intro pins s σ H o i ov iv Q I ro ri h;obtain⟨p,xs,k,v,rfl,rfl,hp,hk,q⟩:=h;cases ro;obtain⟨t,rfl⟩:=ri;obtain⟨z,aj,n,r,e⟩:=I.az _ _ hp;obtain⟨u,hu,ru⟩:=r.get hk;have hn:=qi;have aY:=(cJ.mp hk).1;exact wpAny_getItem_list ⟨_,e,rfl,n,rfl⟩ (by omega) (by omega) (by simpa using hu) ⟨v,H,I,ru,q⟩
theorem aR.NB{P:bg}{w:aW}{K:aC}{mg:Str->Option ab}{base:aB}{x qual:Str}{st:aL}{f:aa}{fd:aU}{N ps:List Str}{k:Nat}{sp:Sp}(F:aR K x qual st f fd)(S:a9 N ps (aQ st))(len:∀vs H Q E,sp vs H Q E->vs.length=ps.length)
  (oV:∀(aD:ab) (A:bY) (outer:List Env) (s:ak) (H:Hp) (vs:List V) (Q:VK) (E:XK),fd.code=aD->dw k (A.deeper (envOfC qual (aQ st) s.heap.objs.size f aD))->sp vs H Q E->
   ∃t,gT (m7 aT P w K mg base N qual (aQ st) f aD A outer s H E).oP (jr st) t/\t {nx:=fun _ H'=>Q .bc H',rt:=Q} (start N vs) H):aN P w K mg base aT (k+1) f fd ps sp:=by
 obtain⟨oc,od,kV,doc,pm,an,aD,ct,osl,rfl,lk,eU⟩:=F.ex;refine Ju lk eU S len fun A outer s H vs Q E hr iZ=> ?_;obtain⟨t,h,q⟩:=oV aD A outer s H vs Q E rfl hr iZ;exact⟨t,h.oP,q⟩
theorem NC{n k:Nat}(h:k<n):m8 n (k:Int)=some k:=by
 unfold m8;rw[if_pos (by omega),if_pos (by omega),iT]
theorem Zx(xs:List V)(k:Nat):lY xs cu (some (k:Int))=xs.take k:=by
 unfold lY;rw[HT.R3,HT.B3,List.drop_zero,Nat.sub_zero];by_cases h:k<=xs.length
 ·rw[Im h]
 ·rw[Nat.min_eq_right (by omega),A1 (aI _),A1 (by omega)]
end L2
namespace CM
open PySem PySem.Spec PyProof.Rows L2
open Vbahak (State Carrier Part Ticket)
abbrev ND:Pos:=⟨336,44,336,65⟩
abbrev posB:Pos:=⟨185,27,185,63⟩
structure F8(mg:Str->Option ab)(base:aB)(tb:cf)(cA cB:aa):Prop where
 bl:zw mg base
 ne:tb.a.P≠tb.b.P
 Zy:tb.a.pos=ND
 Zz:tb.b.pos=posB
 qa:tb.a.q=cU "spread"++cU ".<locals>."++cU "<lambda>"
 qb:tb.b.q=cU "first_group"++cU ".<locals>."++cU "<lambda>"
 ca:uL base cA tb.a.P
 cb:uL base cB tb.b.P
theorem TabAt.but{H H':Hp}{t:Tb}{P:aa}(h:TabAt H t)(hn:t.P≠P)(hP:∃ps,H P=some (.eD ps))(k:∀b o,b≠P->H b=some o->H' b=some o):TabAt H' t:=by
 obtain⟨ps,h1,h2,h3⟩:=h;refine⟨ps,k _ _ hn h1,h2,?_⟩;rcases h3 with h3|⟨c,h3,h4⟩
 ·exact .inl h3
 ·obtain⟨ps2,hP⟩:=hP;exact .inr ⟨c,h3,k _ _ (cv h4 hP (by unfold nQ;simp)) h4⟩
structure Kt(H H':Hp):Prop where
 kp:Kp H H'
 up:∀b,H' b=none->H b=none
theorem Kt.of{H H':Hp}(s:af H H'):Kt H H':=⟨Kp.of s,fun b e=>by
 cases q:H b with
 |none=>rfl
 |some o=>rw[s _ _ q] at e;cases e⟩
theorem Kt.trans{H H1 H2:Hp}(a:Kt H H1)(b:Kt H1 H2):Kt H H2:=⟨a.kp.trans b.kp,fun c e=>a.up c (b.up c e)⟩
theorem Kt.refl(H:Hp):Kt H H:=Kt.of (af.refl H)
theorem Kt.tab{H H':Hp}{P:aa}(hP:∃ps,H P=some (.eD ps))(hP':∃ps,H' P=some (.eD ps))(k:∀b o,b≠P->H b=some o->H' b=some o):Kt H H':=⟨fun b o e t=>by
 obtain⟨ps,hP⟩:=hP;exact k b o (cv e hP (by rintro rfl;cases t)) e,fun b e=>by
 by_cases hb:b=P
 ·subst hb;obtain⟨ps,hP'⟩:=hP';rw[hP'] at e;cases e
 ·cases q:H b with
  |none=>rfl
  |some o=>rw[k b o hb q] at e;cases e⟩
theorem Kt.tp{H H':Hp}(A:Ad)(h:Kt H H'):kP A H H':=h.kp.tp A
theorem Kp.tab{H H':Hp}{P:aa}(hP:∃ps,H P=some (.eD ps))(k:∀b o,b≠P->H b=some o->H' b=some o):Kp H H':=fun b o e t=>by
 obtain⟨ps,hP⟩:=hP;exact k b o (cv e hP (by rintro rfl;cases t)) e
theorem ZA(x y s:Nat):nI (x*y/s)=V.int ((x:Int)*(y:Int)/(s:Int)):=by unfold nI;rw[Ic,P6]
theorem ZC(x y s:Nat):nI (x*y%s)=V.int ((x:Int)*(y:Int)%(s:Int)):=by unfold nI;rw[Int.natCast_emod,P6]
theorem ZD:∀ws:List Nat,(jg (((ws.map nI).length:Nat):Int).toNat [V.int 1]).flatten=(ws.map fun _=>1).map nI:=fun ws=>by
 rw[ao,iT]
 induction ws with
 |nil=>rfl
 |cons a ws ih=>rw[bH,xC,A9,ih];rfl
theorem ZE{us:List Nat}(h:us.length<=8)(hw:∀y∈us,y<=1000000000):bz us<=8000000000:=by
 have go:∀l:List Nat,(∀y∈l,y<=1000000000)->bz l<=l.length*1000000000:=by
  intro l
  induction l with
  |nil=>intro _;exact aI _
  |cons a l ih=>
   intro h
   rw[MM.sum_cons,bH,Nat.add_mul]
   have:=ih fun y hy=>h y (bR _ hy)
   have:=h a bS
   omega
 have:=go us hw;omega
variable{P:bg}{w:aW}{K:aC}{mg:Str->Option ab}{base:aB}{Z:aK}{tb:cf}{dF dR tT tK tC cA cB:aa}
abbrev wY:aL:=top 74
theorem k9:a9 ["amount","weights","total","given","rests","left","order","at","weight"] ["amount","weights"] (aQ wY):=bo
def F9(tb:cf):Sp:=fun vs H Q _=>∃(x:Nat) (l:aa) (ws:List Nat),vs=[nI x,.ref l]/\H l=some (.lst (ws.map nI))/\ws≠[]/\ws.length<=8/\(∀y∈ws,y<=1000000000)/\x<=1000000000/\Tab tb H/\
 ∀H' l',Kt H H'->Tab tb H'->H l'=none->H' l'=some (.lst ((pS x ws).map nI))->Q (.ref l') H'
theorem ZF{f:aa}{fd:aU}(F:aR K "spread" "spread" wY f fd)(T:Txt K mg Z)(B:F8 mg base tb cA cB)(ml:fd.code= .ref cA):aN P w K mg base aT 1 f fd ["amount","weights"] (F9 tb):=by
 refine aR.NB F k9 (fun vs H Q E h=> ?_) (fun aD A0 outer s0 H vs Q E ecd hr h=> ?_)
 ·obtain⟨x,l,ws,rfl,_⟩:=h;rfl
 ·obtain⟨x,l,ws,rfl,hl,cw,h8,hw,hx,fc,k⟩:=h;have eU:aD= .ref cA:=by rw[<-ecd];exact ml
  subst eU;obtain⟨tR,R,hR⟩:∃t,gT (m7 aT P w K mg base ["amount","weights","total","given","rests","left","order","at","weight"] "spread" (aQ wY) f (.ref cA) A0 outer s0 H E).oP ((jr wY).drop 1) t/\
    ∀l1 H1,af H H1->H1 l1=some (.lst ((MM.dI ws).map nI))->t {nx:=fun _ H'=>Q .bc H',rt:=Q} ((start ["amount","weights","total","given","rests","left","order","at","weight"] [nI x,.ref l]).set 1 (some (.ref l1))) H1:=by
   refine⟨_,(aw (aP (i:=2) k9.nd rfl (.inr rfl) (cC (jy (K:=K) rfl) (by rfl) T.jC jB (ae (pv 1) ai)))
   (aw (nh (i:=3) (own:=[("weight",8)]) rfl k9.nd rfl rfl (nj rfl rfl rfl (by decide+kernel)) (dh (K:=K) (pv 1)) (dD rfl) (fun _ _ _ _ _=>by exact(bU (i:=8) k9.nd rfl (.inl rfl))) (fun _ _ _ _ _=>by exact iJ) (fun _ _ _ _ _=>by exact(cp zo (cp qg (pv 0) (pv 8)) (pv 2))))
   (aw (aP (i:=4) k9.nd rfl (.inr rfl) (eW (own:=[("weight",8)]) rfl k9.nd (dh (K:=K) (pv 1)) (dD rfl) (fun _ _ _ _ _=>by exact(bU (i:=8) k9.nd rfl (.inl rfl))) (fun _ _ _ _ _=>by exact iJ) (fun _ _ _ _ _=>by exact(cp BS (cp qg (pv 0) (pv 8)) (pv 2)))))
   (aw (aP (i:=5) k9.nd rfl (.inl rfl) (cp kF (pv 0) (cC (jy (K:=K) rfl) (by rfl) T.jC jB (ae (pv 3) ai))))
   (aw (aP (i:=6) k9.nd rfl (.inl rfl) (Ws (i:=4) (t:=tb.a) (c:=cA) (cA:=s0.heap.objs.size+1+1+1) rfl hr.depth rfl T.Ea rfl T.Eb (ae (cC (fT (K:=K)) (by rfl) T.fm fE (ae (pv 1) ai)) ai) rfl B.ca B.bl B.qa.symm B.Zy.symm rfl rfl rfl rfl))
   (aw (iF fX rfl (dh (K:=K) (B5 (Dk (K:=K)) (pv 6) R6 (fw (pv 5)))) (bU (i:=7) k9.nd rfl (.inl rfl))
   (ax (Ri (pv 3) (pv 7) Zw ay BL set_list)))
   (ax (aF (pv 3))))))))),fun l1 H1 s1 dW=> ?_⟩
   have wl:=MM.KN ws;have wpos:=MM.KP cw;have Ga:∀y∈MM.dI ws,y<=1000000000:=by
    unfold MM.dI;split
    ·intro y hy;obtain⟨_,_,rfl⟩:=bh.mp hy;decide
    ·exact hw
   have wsum:bz (MM.dI ws)<=8000000000:=ZE (by omega) Ga;revert dW Ga wsum wpos wl;have Gb:=MM.Ur x ws;have iZ:=fun(o:List Int)=>MM.Us x ws (o:=o);revert Gb iZ;generalize MM.dI ws=us;intro Gb iZ dW wl wpos Ga wsum;have Gd:H1 l1=some (.lst ((MM.ints us).map V.int)):=by rw[dW,eY]
   refine⟨_,rfl,l1,MM.ints us,rfl,ah.of Gd,?_⟩;rw[MM.sum_ints];have u8:us.length<=8:=by omega
   refine⟨_,rfl,l1,rfl,⟨_,ah.of dW⟩,fun D hD=>fF (fun i=>(us[i]?).bind fun y=>some (nI (x*y/bz us))) hD (ah.of dW) (by rw[ao];exact dk (by omega)) (fun i H2 v R R0 hv s2 r1 r2=> ?_) (fun H2 s2 hd=> ?_)⟩
   ·obtain⟨y,hy,rfl⟩:=cg hv;rw[hy] at r1;exact⟨rfl,iP ⟨_,rfl,_,rfl,_,_,rfl,rfl,.inl ⟨by omega,by omega⟩,_,rfl,_,_,rfl,rfl,⟨by omega,by omega⟩,r1 _ _ (congrArg some (ZA x y (bz us))) (af.refl _)⟩⟩
   ·rw[ao,eQ,mG _ (fun y=>nI (x*y/bz us)) (fun _ _=>rfl)] at hd;have DX:H2 D=some (.lst ((MM.dS x us).map nI)):=by rw[hd];unfold MM.dS;rw[bw];rfl
    have eL:=s2 _ _ dW;refine⟨_,rfl,l1,rfl,⟨_,ah.of eL⟩,fun D2 fV=>fF (fun i=>(us[i]?).bind fun y=>some (nI (x*y%bz us))) fV (ah.of eL) (by rw[ao];exact dk (by omega)) (fun i H3 v R R0 hv s3 r1 r2=> ?_) (fun H3 s3 hd2=> ?_)⟩
    ·obtain⟨y,hy,rfl⟩:=cg hv;rw[hy] at r1;exact⟨rfl,iP ⟨_,rfl,_,rfl,_,_,rfl,rfl,.inl ⟨by omega,by omega⟩,_,rfl,_,_,rfl,rfl,(by show(0:Int)<_;omega),r1 _ _ (congrArg some (ZC x y (bz us))) (af.refl _)⟩⟩
    ·rw[ao,eQ,mG _ (fun y=>nI (x*y%bz us)) (fun _ _=>rfl)] at hd2;have ZG:H3 D2=some (.lst ((MM.res x us).map nI)):=by rw[hd2];unfold MM.res;rw[bw];rfl
     have NF:=s3 _ _ DX;have hDD:D≠D2:=fun z=>by rw[<-z,DX] at fV;cases fV
     have dm:af H H3:=(s1.trans s2).trans s3;have rl:(MM.res x us).length=us.length:=by unfold MM.res;rw[ao]
     refine⟨_,rfl,_,rfl,D,MM.ints (MM.dS x us),rfl,ah.of (by rw[NF,eY]),_,_,rfl,rfl,?_⟩;rw[MM.sum_ints];have eZ:=s3 _ _ eL;refine⟨_,rfl,l1,_,rfl,.inl (ah.of eZ),_,rfl,fun r hr=>⟨r,us.length,rfl,(by rw[ao];exact au),by omega,(Tab.same (af.new hr) (Tab.same dm fc)).1,fun H4 k4 t4=> ?_⟩⟩;rw[ao] at k4;have sr:af H3 (upd H3 r (.oM 0 (us.length:Int))):=af.new hr;have T3:=Tab.same sr (Tab.same dm fc);have kp4:Kp (upd H3 r (.oM 0 (us.length:Int))) H4:=Kp.tab (let ⟨ps,h,_⟩:=T3.1;⟨ps,h⟩) k4;have T4:Tab tb H4:=⟨t4,TabAt.but T3.2 B.ne.symm (let ⟨ps,h,_⟩:=T3.1;⟨ps,h⟩) k4⟩;have ZH:=kp4 _ _ (sr _ _ ZG) rfl;have Ar:=kp4 _ _ (sr _ _ NF) rfl;refine⟨D2,MM.res x us,rfl,ZH,rl,fun ord p lh j5 eV hp=> ?_⟩;have s5:af H4 (upd H4 p (.lst (ord.map V.int))):=af.new hp;have og:((x:Int)-((bz (MM.dS x us):Nat):Int))=((x-bz (MM.dS x us):Nat):Int):=by omega
     have key:=iZ ord lh j5 eV;refine⟨_,rfl,_,rfl,_,rfl,p,_,rfl,ah.of au,fun p2 fL=> ?_⟩;rw[og,Zx];have hpH:H4 p=none:=hp;have nDp:D≠p:=aV Ar hp;have nDp2:D≠p2:=fun z=>by rw[<-z,ag nDp,Ar] at fL;cases fL
     have ordl:ord.length=us.length:=by rw[lh.length_eq,MM.si,rl]
     have s6:af H4 (upd (upd H4 p (.lst (ord.map V.int))) p2 (.lst ((ord.map V.int).take (x-bz (MM.dS x us))))):=s5.trans (af.new fL);have DH:H D=none:=by
      cases q:H D with
      |none=>rfl
      |some o=>rw[s1 _ _ q] at hD;cases hD
     rw[<-Qc] at s6 ⊢;have cast0:MM.ints (MM.dS x us)=MM.jX (MM.ints (MM.dS x us)) ((ord.take (x-bz (MM.dS x us))).take 0):=rfl;revert s6;generalize NG:ord.take (x-bz (MM.dS x us))=os at key cast0 ⊢;intro s6;have osm:∀a∈os,a∈ord:=fun a ha=>by rw[<-NG] at ha;exact A5 ha
     have osl:os.length<=8:=by rw[<-NG,iU];omega
     refine⟨p2,rfl,⟨_,ah.of au⟩,lV (K:=K) (a:=p2) (xs:=os.map V.int) (fun i σ H'=>∃v5 v7:Option V,σ=[some (nI x),some (.ref l1),some (.int ((bz us:Nat):Int)),some (.ref D),some (.ref D2),v5,some (.ref p),v7,none]/\
       (∀b o,b≠D->H4 b=some o->H' b=some o)/\H' p2=some (.lst (os.map V.int))/\H' D=some (.lst ((MM.jX (MM.ints (MM.dS x us)) (os.take i)).map V.int))) ?_ (fun i σ H' _ ⟨_,_,_,_,q,_⟩=>ah.of q) ?_ ?_⟩
     ·refine⟨_,none,rfl,fun b o _ e=>s6 b o e,au,?_⟩;rw[ag nDp2,ag nDp,Ar,eY];rfl
     ·rintro i y σ H' hi ⟨v5,v7,rfl,k7,NH,dZ⟩;obtain⟨a,ha,rfl⟩:=cg hi;have ZI:=lh.mem_iff.mp (osm a (bP ha));obtain⟨ha0,ha1⟩:=MM.CC.mp ZI;have hlen:(MM.jX (MM.ints (MM.dS x us)) (os.take i)).length=us.length:=by rw[MM.KJ];unfold MM.ints MM.dS;rw[ao,ao]
      have hk:a.toNat<us.length:=by omega
      have ea:a=((a.toNat:Nat):Int):=by omega
      have hg:((MM.jX (MM.ints (MM.dS x us)) (os.take i)).map V.int)[a.toNat]? =some (.int ((MM.jX (MM.ints (MM.dS x us)) (os.take i)).getD a.toNat 0)):=by
       rw[aS,ly,cE (by omega)];rfl
      refine⟨_,rfl,_,rfl,D,_,a.toNat,_,rfl,(by rw[<-ea]),dZ,hg,_,_,rfl,rfl,D,_,_,a.toNat,rfl,rfl,dZ,(by rw[ea,ao];exact NC (by rw[hlen];exact hk)),?_⟩;refine⟨_,_,rfl,fun b o n e=>by rw[ag n];exact k7 b o n e,by rw[ag nDp2.symm];exact NH,?_⟩;rw[au,fN ha];unfold MM.jX;rw[List.foldl_append];show _=some (HO.lst ((MM.o5 (MM.jX (MM.ints (MM.dS x us)) (os.take i)) a).map V.int));unfold MM.o5;rw[List.map_set]
      rfl
     ·rintro σ H' ⟨v5,v7,rfl,k7,NH,dZ⟩;rw[ao,iq,key] at dZ;have kpH:Kp H H':=fun b o e t=>k7 b o (aV e DH) (kp4 _ _ (sr _ _ (dm _ _ e)) t);have upH:∀b,H' b=none->H b=none:=fun b e=>by
       cases q:H b with
       |none=>rfl
       |some o=>
        have q3:=sr _ _ (dm _ _ q)
        have q4:∃u,H4 b=some u:=by
         by_cases hb:b=tb.a.P
         ·obtain⟨ps,h,_⟩:=t4;exact⟨_,by rw[hb];exact h⟩
         ·exact⟨_,k4 _ _ hb q3⟩
        obtain⟨u,q4⟩:=q4
        rw[k7 b u (aV q DH) q4] at e;cases e
      refine⟨_,rfl,k H' D ⟨kpH,upH⟩ ?_ DH (by rw[dZ,eY])⟩;exact T4.keep fun b o e q=>k7 b o (cv e Ar (by rintro rfl;exact nomatch q.2)) e
  refine⟨_,aw (bG (bb cQ (cC (jy (K:=K) rfl) (by rfl) T.jC jB (ae (pv 1) ai)) ay (aZ _))
   (ax (aP (i:=1) k9.nd rfl (.inl rfl) (cp Sw (a7 (ae ay ai)) (cC (fT (K:=K)) (by rfl) T.fm fE (ae (pv 1) ai)))))
   bJ) R,?_⟩
  have Gd:H l=some (.lst ((MM.ints ws).map V.int)):=by rw[hl,eY]
  refine⟨_,rfl,l,MM.ints ws,rfl,ah.of Gd,?_⟩;rw[MM.sum_ints];refine⟨rfl,decide (bz ws=0),?_,?_⟩
  ·show V.bl (decide (V.int ((bz ws:Nat):Int)=V.int 0))=_
   congr 1
   exact decide_eq_decide.mpr ⟨fun z=>by injection z with z;omega,fun z=>by rw[z];rfl⟩
  by_cases c:bz ws=0
  ·rw[decide_eq_true c];refine a8 ⟨by show 1<=sizeLine;decide,fun l0 pF=>⟨_,rfl,l,_,rfl,.inl (ah.of (by rw[ag (aV hl pF)];exact hl)),l0,_,[V.int 1],rfl,rfl,au,(by omega),(by rw[ao];omega),?_,fun l1 dW=> ?_⟩⟩
   ·rw[ao];show 1*(ws.length:Int).toNat<=sizeLine;exact fO (eO (by omega))
   ·have n10:l1≠l0:=fun z=>by rw[z,au] at dW;cases dW
    refine hR l1 _ (af.put (af.new pF) (by rw[ag n10] at dW;exact dW)) ?_
    ·rw[au];unfold MM.dI;rw[if_pos c,<-ZD]
  ·rw[decide_eq_false c];refine ba ?_;refine hR l H (af.refl _) ?_;unfold MM.dI;rw[if_neg c];exact hl
open PySem PySem.Spec PyProof.Rows L2
open Vbahak (State Carrier Part Ticket)
theorem NI(xs:List Nat):∀k,k<=xs.length->(cN k).filterMap (fun(i:Nat)=>((xs.map nI)[i]?).bind fun v=>if v=nI 0 then some (V.int (i:Int)) else none)=(MM.dM 0 (xs.take k)).map V.int
 |0,_=>rfl
 |k+1,h=>by
  have hk:k<xs.length:=by omega
  have e1:xs.take (k+1)=xs.take k++[xs[k]]:=fN (cE hk);rw[xQ,A2,NI xs k (by omega),e1,MM.KS,cZ]
  congr 1
  rw[jf,List.filterMap_nil,aS,cE hk];simp only[iu,Option.bind_some];by_cases c:xs[k]=0
  ·rw[if_pos (by rw[c]),if_pos c,iU,Im (by omega)];simp
  ·rw[if_neg (fun z=>c (jb z)),if_neg c]
   rfl
theorem ZJ{xs:List Nat}:jT (V.int 0) (xs.map nI)=decide (0∈xs):=by
 unfold jT;rw[List.any_map]
 induction xs with
 |nil=>rfl
 |cons a l ih=>
  rw[pW,ih]
  have:((fun y=>m9 y (V.int 0))∘nI) a=decide (a=0):=by
   show((a:Int)==0)=_;by_cases c:a=0
   ·subst c;rfl
   ·rw[decide_eq_false c];simpa using c
  rw[this]
  by_cases c:a=0
  ·subst c;simp
  ·have:¬0=a:=fun z=>c z.symm
   simp[c,this]
abbrev Ge:aL:=top 75
theorem lj:a9 ["value","factors","fixed","left","others","spread_shares","shares","at","share"] ["value","factors","fixed"] (aQ Ge):=bo
def As(tb:cf):Sp:=fun vs H Q _=>∃(v:Nat) (lf lx:aa) (fs xs:List Nat),vs=[nI v,.ref lf,.ref lx]/\H lf=some (.lst (fs.map nI))/\H lx=some (.lst (xs.map nI))/\fs.length=xs.length/\xs≠[]/\xs.length<=8/\(∀y∈fs,y<=1000000000)/\(∀y∈xs,y<=1000000000)/\v<=1000000000/\Tab tb H/\
 ∀H' l',Kt H H'->Tab tb H'->H l'=none->H' l'=some (.lst ((mT v (fs.zip xs)).map nI))->Q (.ref l') H'
theorem ZK{f:aa}{fd:aU}(F:aR K "cut_value" "cut_value" Ge f fd)(T:Txt K mg Z)(NJ:aA P w K mg base "spread" 1 ["amount","weights"] (F9 tb)):aN P w K mg base aT 2 f fd ["value","factors","fixed"] (As tb):=by
 refine F.bA lj fun aD A0 outer s0 H vs Q E hr h=> ?_
 ·obtain⟨v,lf,lx,fs,xs,rfl,hf,hx,hlen,cw,h8,bf,bx,hv,fc,k⟩:=h;refine⟨rfl,_,(aw (aP (i:=3) lj.nd rfl (.inl rfl) (cp kF (pv 0) (cC (jy (K:=K) rfl) (by rfl) T.jC jB (ae (pv 2) ai))))
   (aw (bG (PW.pt (va (bb rR (pv 3) ay (aZ _)) (u7 (bb (VI (K:=K)) ay (pv 2) (by with_unfolding_all rfl)))))
   (ax (aF (aX NJ hr (by decide) rfl (ae (pv 0) (ae (pv 2) ai)))))
   bJ)
   (aw (nh (i:=4) (own:=[("at",7),("share",8)]) rfl lj.nd rfl rfl (nj rfl rfl rfl (by decide+kernel)) (Dl (K:=K) rfl T.Ec (ae (pv 2) ai)) (dD rfl) (fun _ _ _ _ _=>by exact(pk (K:=K) (n:=2) rfl (gD (bU (i:=7) lj.nd rfl (.inl rfl)) (gD (bU (i:=8) lj.nd rfl (.inl rfl)) oS)))) (fun _ _ _ _ _=>by exact(gF (bb cQ (pv 8) ay (aZ _)))) (fun _ _ _ _ _=>by exact(pv 7)))
   (aw (aP (i:=5) lj.nd rfl (.inl rfl) (aX NJ hr (by decide) rfl (ae (pv 3) (ae (eW (own:=[("at",7)]) rfl lj.nd (dh (K:=K) (pv 4)) (dD rfl) (fun _ _ _ _ _=>by exact(bU (i:=7) lj.nd rfl (.inl rfl))) (fun _ _ _ _ _=>by exact iJ) (fun _ _ _ _ _=>by exact(bK (cy (K:=K)) (pv 1) (pv 7) (fun _ _=>rfl)))) ai))))
   (aw (aP (i:=6) lj.nd rfl (.inl rfl) (Jv (VL (K:=K)) (by rfl) T.XB Xt (ae (pv 2) ai)))
   (aw (iF fX rfl (LS (K:=K) rfl T.zX (ae (pv 4) (ae (pv 5) ai))) (pk (K:=K) (n:=2) rfl (gD (bU (i:=7) lj.nd rfl (.inl rfl)) (gD (bU (i:=8) lj.nd rfl (.inl rfl)) oS)))
   (ax (Rf (pv 8) (Rc (pv 6) (pv 7) set_list))))
   (ax (aF (pv 6))))))))),?_⟩
  have ZL:H lx=some (.lst ((MM.ints xs).map V.int)):=by rw[hx,eY]
  refine⟨_,rfl,_,rfl,lx,MM.ints xs,rfl,ah.of ZL,_,_,rfl,rfl,?_⟩;rw[MM.sum_ints];have flat:(xs.map nI).all lZ=true:=by rw[rA];exact oC.mpr fun _ _=>rfl
  refine⟨_,rfl,_,_,rfl,rfl,decide (v<bz xs),?_,?_⟩
  ·show V.bl (decide (((v:Int)-((bz xs:Nat):Int))<0))=_
   congr 1
   exact decide_eq_decide.mpr ⟨fun z=>by omega,fun z=>by omega⟩
  by_cases c1:v<bz xs
  ·rw[decide_eq_true c1];refine a8 ?_;rw[MM.KZ hlen (.inl c1)] at k;exact⟨_,rfl,_,rfl,v,lx,xs,rfl,hx,cw,h8,bx,hv,fc,k⟩
  ·rw[decide_eq_false c1];refine ba ⟨_,rfl,lx,_,rfl,.inl (ah.of hx),rfl,flat,!decide (0∈xs),?_,?_⟩
   ·show V.bl (!jT (V.int 0) (xs.map nI))=_;rw[ZJ]
   by_cases c2:0∈xs
   ·rw[decide_eq_true c2];refine ba ?_;have jm:=MM.Uv (value:=v) hlen (by omega) c2;have og:((v:Int)-((bz xs:Nat):Int))=((v-bz xs:Nat):Int):=by omega
    refine⟨_,rfl,lx,_,rfl,ah.of hx,fun D hD=>Di (fun i v=>if v=nI 0 then some (V.int (i:Int)) else none) hD (ah.of hx) (by rw[ao];exact dk (by omega)) (fun _ _=>rfl) (fun i H2 y R R0 hy s2 r1 r2=> ?_) (fun H2 s2 hd=> ?_)⟩
    ·obtain⟨z,hz,rfl⟩:=cg hy;refine⟨_,rfl,rfl,decide (nI z=nI 0),rfl,?_⟩;by_cases c:nI z=nI 0
     ·rw[decide_eq_true c];exact a8 ⟨_,rfl,r1 _ _ (if_pos c) (af.refl _)⟩
     ·rw[decide_eq_false c];exact ba (r2 _ (if_neg c) (af.refl _))
    ·rw[ao,NI xs _ (aI _),iq] at hd;have zm:=MM.CI xs 0;have zl:(MM.dM 0 xs).length<=xs.length:=by rw[MM.CH];exact lA _ _
     have znil:MM.dM 0 xs≠[]:=fun z=>by
      have:=MM.CH xs 0;rw[z] at this;have h0:xs.filter (fun x=>x==0)=[]:=eB.mp this.symm;have m:(0:Nat)∈xs.filter fun x=>x==0:=c9.mpr ⟨c2,rfl⟩;rw[h0] at m;cases m
     revert hd jm zm zl znil;generalize MM.dM 0 xs=zs;intro jm hd zm zl znil;have ZM:=s2 _ _ hf;refine⟨_,rfl,_,rfl,D,rfl,⟨_,ah.of hd⟩,fun D2 fV=>fF (fun i=>(zs[i]?).bind fun a=>some (nI (fs.getD a.toNat 0))) fV (ah.of hd) (by rw[ao];exact dk (by omega)) (fun i H3 y R R0 hy s3 r1 r2=> ?_) (fun H3 s3 dn=> ?_)⟩
     ·obtain⟨a,ha,rfl⟩:=cg hy;obtain⟨a0,a1⟩:=zm a (bP ha);rw[ha] at r1;have ea:a=((a.toNat:Nat):Int):=by omega
      have hg:(fs.map nI)[a.toNat]? =some (nI (fs.getD a.toNat 0)):=by rw[aS,ly,cE (by omega)];rfl
      refine⟨rfl,iP ⟨_,rfl,_,rfl,lf,_,_,_,rfl,rfl,ah.of (s3 _ _ ZM),(by rw[ea];exact bL (j:=a.toNat) hg),r1 _ _ rfl (af.refl _)⟩⟩
     ·rw[ao,eQ,mG _ (fun(a:Int)=>nI (fs.getD a.toNat 0)) (fun _ _=>rfl)] at dn;have Gf:H3 D2=some (.lst ((zs.map fun a=>fs.getD a.toNat 0).map nI)):=by rw[dn,bw];rfl
      have dm:=s2.trans s3;refine⟨v-bz xs,D2,zs.map fun a=>fs.getD a.toNat 0,(by show[V.int ((v:Int)-((bz xs:Nat):Int)),V.ref D2]=_;rw[og];rfl),Gf,(by simpa using znil),(by rw[ao];omega),(fun y hy=> ?_),(by omega),Tab.same dm fc,fun H4 l4 k4 T4 qH eJ=> ?_⟩
      ·obtain⟨a,ha,rfl⟩:=bh.mp hy;obtain⟨a0,a1⟩:=zm a ha;rw[ly,cE (by omega)];exact bf _ (afo _)
      ·have kH4:Kt H H4:=(Kt.of dm).trans k4;have ZN:=kH4.kp _ _ hx rfl;have wZ:=k4.kp _ _ (s3 _ _ hd) rfl;refine⟨_,rfl,lx,_,rfl,.inl (ah.of ZN),fun L hL=> ?_⟩;have sL:af H4 _:=af.new (o:= .lst (xs.map nI)) hL;have qM:(pS (v-bz xs) (zs.map fun a=>fs.getD a.toNat 0)).length=zs.length:=by rw[MM.CG,ao]
       revert eJ jm qM;generalize pS (v-bz xs) (zs.map fun a=>fs.getD a.toNat 0)=ss;intro jm eJ qM;have nDL:D≠L:=aV wZ hL;have nlL:l4≠L:=aV eJ hL;have LH:H L=none:=kH4.up L hL;refine⟨_,rfl,_,rfl,D,l4,_,_,rfl,ah.of (sL _ _ wZ),ah.of (sL _ _ eJ),?_⟩;refine Ab (J:=yL K D l4) (n:=zs.length) (fun i σ H'=>∃v7 v8:Option V,σ=[some (nI v),some (.ref lf),some (.ref lx),some (.int ((v:Int)-((bz xs:Nat):Int))),some (.ref D),some (.ref l4),some (.ref L),v7,v8]/\
         (∀b o,b≠L->H4 b=some o->H' b=some o)/\H' L=some (.lst ((MM.ju (MM.ints xs) (zs.take i) ((MM.ints ss).take i)).map V.int))) ⟨none,none,rfl,fun b o _ e=>sL b o e,by rw[au,eY];rfl⟩ ?_ ?_ ?_ ?_
       ·rintro i σ H' hi ⟨_,_,_,k7,_⟩;exact⟨_,_,_,_,ah.of (k7 _ _ nDL wZ),ah.of (k7 _ _ nlL eJ),(by rw[aS,cE hi];rfl),(by rw[aS,cE (by omega)];rfl)⟩
       ·rintro σ H' ⟨_,_,_,k7,_⟩;exact⟨_,_,ah.of (k7 _ _ nDL wZ),ah.of (k7 _ _ nlL eJ),.inl (by rw[ao];exact aI _)⟩
       ·rintro i σ H' y H'' hi ⟨v7,v8,rfl,k7,uc⟩ ⟨T1,x1,x2,rfl,oo,rfl,e1,e2⟩;have e1:=e1 _ (ah.of (k7 _ _ nDL wZ));have e2:=e2 _ (ah.of (k7 _ _ nlL eJ));obtain⟨a,ha,rfl⟩:=cg e1;obtain⟨g,hg,rfl⟩:=cg e2;obtain⟨a0,a1⟩:=zm a (bP ha);have ea:a=((a.toNat:Nat):Int):=by omega
        have ZO:(MM.ints ss)[i]? =some (g:Int):=by unfold MM.ints;rw[aS,hg];rfl
        have nLT:L≠T1:=fun z=>by rw[<-z,uc] at oo;cases oo
        have cz:(MM.ju (MM.ints xs) (zs.take i) ((MM.ints ss).take i)).length=xs.length:=by rw[MM.KY];unfold MM.ints;rw[ao]
        refine⟨T1,_,rfl,cH.of au,rfl,_,_,rfl,_,_,rfl,rfl,?_⟩;refine⟨_,rfl,_,rfl,_,rfl,L,_,a,a.toNat,rfl,rfl,(by rw[ag nLT];exact uc),(by rw[ea,ao];exact NC (by rw[cz];omega)),?_⟩;refine⟨_,_,rfl,fun b o n e=> ?_,?_⟩
        ·have:=k7 b o n e;rw[ag n,ag (aV this oo)];exact this
        ·rw[au,MM.KW zs (MM.ints ss) (MM.ints xs) i ha ZO];unfold MM.nE;rw[List.map_set]
         rfl
       ·rintro σ H' ⟨v7,v8,rfl,k7,uc⟩;rw[iq] at uc;have e3:(MM.ints ss).take zs.length=MM.ints ss:=by
         rw[<-qM];have:(MM.ints ss).length=ss.length:=by unfold MM.ints;rw[ao]
         rw[<-this,iq]
        rw[e3,<-jm] at uc;refine⟨_,rfl,k H' L ⟨fun b o e t=>k7 b o (aV e LH) (kH4.kp _ _ e t),fun b e=> ?_⟩ ?_ LH (by rw[uc,eY])⟩
        ·cases q:H b with
         |none=>rfl
         |some o=>
          cases q4:H4 b with
          |none=>rw[kH4.up b q4] at q;cases q
          |some u=>rw[k7 b u (aV q LH) q4] at e;cases e
        ·exact T4.keep fun b o e q=>k7 b o (aV e hL) e
   ·rw[decide_eq_false c2];refine a8 ?_;rw[MM.KZ hlen (.inr c2)] at k;exact⟨_,rfl,_,rfl,v,lx,xs,rfl,hx,cw,h8,bx,hv,fc,k⟩
open PySem PySem.Spec PyProof.Rows L2
open Vbahak (State Carrier Part Ticket)
theorem NK{J:It}{n:Nat}{g:TG}{tt:TT}{te:TE}{vs:List Nat}{σ:L2.St}{H1:Hp}{D:aa}{Qd:Hp->Prop}(Pv:Nat->Hp->Prop)(h0:Pv 0 (upd H1 D (.lst [])))(go:∀i H,i<n->Pv i H->J.go i H)(st:∀H,Pv n H->J.stop n H)
  (hs:∀i H x H',i<n->Pv i H->J.fP i H x H'->g x (wipe σ vs) H' fun σ2 H2=>wipe σ2 vs=wipe σ vs/\tt σ2 H2 fun b H3=>
    if b=true then te σ2 H3 fun y H4=>∃acc,H4 D=some (.lst acc)/\acc.length<sizeLine/\Pv (i+1) (upd H4 D (.lst (acc++[y]))) else Pv (i+1) H3)
  (hd:∀H,Pv n H->Qd H):
  ∃W:Nat->Nat->Hp->Prop,(∃m,W 0 m (upd H1 D (.lst [])))/\∀i m H,W i m H->
   (J.stop i H/\Qd H)\/(J.go i H/\∃Nx:Hp->Prop,(∀H',Nx H'->∃m',m'<m/\W (i+1) m' H')/\∀x H',J.fP i H x H'->g x (wipe σ vs) H' fun σ2 H2=>wipe σ2 vs=wipe σ vs/\tt σ2 H2 fun b H3=>
    if b=true then te σ2 H3 fun y H4=>∃acc,H4 D=some (.lst acc)/\acc.length<sizeLine/\Nx (upd H4 D (.lst (acc++[y]))) else Nx H3):=by
 refine⟨fun i m H=>m=n-i/\i<=n/\Pv i H,⟨n,by simp,du _,h0⟩,?_⟩;rintro i m H ⟨rfl,hi,p⟩;by_cases aY:i<n
 ·exact .inr ⟨go i H aY p,Pv (i+1),fun H' p'=>⟨n-(i+1),by omega,rfl,aY,p'⟩,fun x H' y=>hs i H x H' aY p y⟩
 ·have e:i=n:=by omega
  subst e;exact .inl ⟨st H p,hd H p⟩
theorem pG{α β:Type}(f:α->β)(xs:List α)(a k:Nat):MM.hU (xs.map f) a k=(MM.hU xs a k).map f:=by
 unfold MM.hU;rw[ao,ae8]
 congr 1
 funext i
 rw[aS]
theorem pI{α:Type}(f:α->Nat)(l:List α):(l.map fun x=>(f x:Int)).map V.int=(l.map f).map nI:=by rw[bw,bw];rfl
theorem NL:∀l:List Nat,(∀z∈l,z<=1000000000)->∀p∈uP l,p.1<=1000000000/\p.2<=1000000000
 |[],_,p,hp=>by cases hp
 |[_],_,p,hp=>by cases hp
 |a::b::r,h,p,hp=>by
  rcases b0.mp hp with rfl|hp
  ·exact⟨h a (by simp),h b (by simp)⟩
  ·exact NL r (fun z hz=>h z (bR _ (bR _ hz))) p hp
theorem NM{row:List Int}{m:Nat}(h:∀z∈row,0<=z/\z<=(m:Int)):∀z∈jL row,z<=m:=fun z hz=>by
 obtain⟨y,hy,rfl⟩:=bh.mp hz;have:=h y hy;omega
theorem ZP{row:List Int}(h:∀z∈row,0<=z/\z<=1000000000):∀p∈uP (jL row),p.1<=1000000000/\p.2<=1000000000:=NL _ (NM (m:=1000000000) h)
theorem NN(m:Nat):∀l:List Nat,(∀z∈l,z<=m)->∀p∈rm l,p.1<=m/\p.2.1<=m/\p.2.2<=m
 |[],_,p,hp=>by cases hp
 |[_],_,p,hp=>by cases hp
 |[_,_],_,p,hp=>by cases hp
 |a::b::c::r,h,p,hp=>by
  rcases b0.mp hp with rfl|hp
  ·exact⟨h a (by simp),h b (by simp),h c (by simp)⟩
  ·exact NN m r (fun z hz=>h z (bR _ (bR _ (bR _ hz)))) p hp
theorem zip_map{α β γ:Type}(f:α->β)(g:α->γ):∀l:List α,(l.map f).zip (l.map g)=l.map fun x=>(f x,g x)
 |[]=>rfl
 |a::l=>by rw[bQ,bQ,List.zip_cons_cons,zip_map f g l,bQ]
theorem ZQ(l:List Nat):l.map nI=(Vbahak.ints l).map V.int:=by unfold Vbahak.ints;rw[bw];rfl
abbrev Gg:aL:=top 78
theorem ZR:a9 ["value","row"] ["value","row"] (aQ Gg):=bo
def Gi(tb:cf):Sp:=fun vs H Q _=>∃(v n:Nat) (lr:aa) (row:List Int),vs=[nI v,.ref lr]/\H lr=some (.lst (row.map V.int))/\row.length=2*n/\1<=n/\n<=8/\(∀z∈row,0<=z/\z<=1000000000)/\v<=1000000000/\Tab tb H/\
 ∀H' l',Kt H H'->Tab tb H'->H l'=none->H' l'=some (.lst ((0::MM.ints (mT v (uP (jL row)))).map V.int))->Q (.ref l') H'
theorem ZS{f:aa}{fd:aU}(F:aR K "cut" "cut" Gg f fd)(T:Txt K mg Z)(Gj:aA P w K mg base "cut_value" 2 ["value","factors","fixed"] (As tb)):aN P w K mg base aT 3 f fd ["value","row"] (Gi tb):=by
 refine F.bA ZR fun aD A0 outer s0 H vs Q E hr h=> ?_
 ·obtain⟨v,n,lr,row,rfl,fq,hn,n1,n8,hb,hv,fc,k⟩:=h;obtain⟨c1,c2,c3⟩:=MM.K8 n row hn fun z hz=>(hb z hz).1;have pm:=ZP hb;generalize j5:uP (jL row)=ps at c1 c2 c3 pm k;refine⟨rfl,_,(ax (aF (cp qp (a7 (ae ay ai)) (aX Gj hr (by decide) rfl (ae (pv 0) (ae (pj (K:=K) (pv 1) (fw ay) (fw ay)) (ae (pj (K:=K) (pv 1) (fw ay) (fw ay)) ai))))))),?_⟩;refine⟨by show 1<=sizeLine;decide,fun l0 pF=> ?_⟩;have s1:af H _:=af.new (o:= .lst [V.int 0]) pF;refine⟨_,rfl,_,rfl,_,rfl,_,rfl,lr,_,0,2,rfl,rfl,rfl,by decide,ah.of (s1 _ _ fq),fun q1 om=> ?_⟩;rw[pG,MM.K7 row hn (by decide),c1,pI];have s2:af (upd H l0 (.lst [V.int 0])) _:=af.new (o:= .lst ((ps.map fun p=>p.1).map nI)) om;refine⟨_,rfl,_,rfl,_,rfl,lr,_,1,2,rfl,rfl,rfl,by decide,ah.of (s2 _ _ (s1 _ _ fq)),fun q2 mD=> ?_⟩;rw[pG,MM.K7 row hn (by decide),c2,pI];have s3:=af.new (o:= .lst ((ps.map fun p=>p.2).map nI)) mD;have dm:=(s1.trans s2).trans s3;have ez:(ps.map fun p=>p.1).zip (ps.map fun p=>p.2)=ps:=by
   rw[zip_map];exact List.map_id' ps
  refine⟨v,q1,q2,ps.map fun p=>p.1,ps.map fun p=>p.2,rfl,s3 _ _ au,au,by simp,(fun z=> ?_),(by rw[ao,c3];exact n8),(fun y hy=> ?_),(fun y hy=> ?_),hv,Tab.same dm fc,fun H4 l4 k4 T4 qH eJ=> ?_⟩
  ·have:=congrArg iV z;rw[ao,c3] at this;simp at this;omega
  ·obtain⟨p,hp,rfl⟩:=bh.mp hy;exact(pm p hp).1
  ·obtain⟨p,hp,rfl⟩:=bh.mp hy;exact(pm p hp).2
  ·rw[ez] at eJ;refine⟨l0,l4,_,_,rfl,rfl,k4.kp _ _ (s3 _ _ (s2 _ _ au)) rfl,eJ,?_,fun l5 o9=> ?_⟩
   ·rw[ao,MM.vL,c3];exact fO (eO (show 1+n<=1000 by omega))
   ·have s5:=af.new (o:= .lst ([V.int 0]++(mT v ps).map nI)) o9;have kt:=((Kt.of dm).trans k4).trans (Kt.of s5);refine k _ l5 kt (Tab.same s5 T4) (((Kt.of dm).trans k4).up _ o9) ?_;rw[au,bQ,eY]
    rfl
abbrev Gk:aL:=top 77
theorem ud:a9 ["house","t","a","value","row","carriers","shares","parts","carrier","share"] ["house","t","a","value","row"] (aQ Gk):=bo
def Gm(tb:cf)(Z:aK):Sp:=fun vs H Q _=>∃(A:Ad) (G:Gh) (s:State) (t a v n:Nat) (lr:aa) (row:List Int),vs=[.ref A.p,nI t,nI a,nI v,.ref lr]/\aE Z A G H s/\MM.Good s/\H lr=some (.lst (row.map V.int))/\row.length=3*n/\1<=n/\n<=8/\(∀z∈row,0<=z/\z<=1000000000)/\v<=1000000000/\Tab tb H/\c8 tb Z A G H (bE s (.issue t a v (rm (jL row)))) Q
theorem aE.ZU{Z:aK}{A:Ad}{G:Gh}{H:Hp}{s:State}(hh:aE Z A G H s){b:aa}(hb:H b=none){i:Nat}{g:Tg}(hg:G.tg[i]? =some g):b∉g.ps:=fun hm=>by
 obtain⟨j,hj⟩:=fH hm;obtain⟨x,hx⟩:=kQ hh.tL.symm hg;have t:=hh.tV i x g hx hg;obtain⟨p,hp⟩:=kQ t.len.symm hj;obtain⟨dx,e⟩:=t.p j p b hp hj;rw[hb] at e;cases e
theorem ZV{f:aa}{fd:aU}(F:aR K "issue" "issue" Gk f fd)(T:Txt K mg Z)(gL:GM P w K mg base Z "has_carriers" ["self","numbers"] (mx Z))(Gj:aA P w K mg base "cut_value" 2 ["value","factors","fixed"] (As tb))
  (ZW:i7 P w K mg base "Part" Z.p 1 ["self","carrier","share"] (MS Z)) (ZX:i7 P w K mg base "Ticket" Z.t 1 ["self","issuer","value","parts"] (MT Z)):aN P w K mg base aT 3 f fd ["house","t","a","value","row"] (Gm tb Z):=by
 refine F.bA ud fun aD A0 outer s0 H vs Q E hr h=> ?_
 ·obtain⟨A,G,s,t,a,v,n,lr,row,rfl,hh,g,fq,hn,n1,n8,hb,hv,fc,k⟩:=h;have hu:=fk hr;obtain⟨c1,c2,c3,c4⟩:=MM.yY n row hn fun z hz=>(hb z hz).1;have pm:=NN 1000000000 _ (NM (m:=1000000000) hb);generalize j5:rm (jL row)=ps at c1 c2 c3 c4 pm k;refine⟨rfl,_,(aw (aP (i:=5) ud.nd rfl (.inl rfl) (pj (K:=K) (pv 4) (fw ay) (fw ay)))
   (aw (bG (iE (fh (gr (pv 0) gL hr (by decide) (ae (cp qp (a7 (ae (pv 2) ai)) (pv 5)) ai))))
   (ax (aF (a7 (ae (cq rfl T.n9) ai))))
   bJ)
   (aw (bG (yh (Cq hu (pv 1) (aJ (K:=K) (pv 0) rfl)))
   (ax (aF (a7 (ae (cq rfl T.MN) ai))))
   bJ)
   (aw (bG (bb vk (cC Kj (by rfl) T.fm fE (ae (aJ (K:=K) (pv 0) rfl) ai)) (cq rfl T.Xw) (aZ _))
   (ax (aF (a7 (ae (cq rfl T.zS) ai))))
   bJ)
   (aw (aP (i:=6) ud.nd rfl (.inl rfl) (aX Gj hr (by decide) rfl (ae (pv 3) (ae (pj (K:=K) (pv 4) (fw ay) (fw ay)) (ae (pj (K:=K) (pv 4) (fw ay) (fw ay)) ai)))))
   (aw (nh (i:=7) (own:=[("carrier",8),("share",9)]) rfl ud.nd rfl rfl (nj rfl rfl rfl (by decide+kernel)) (LS (K:=K) rfl T.zX (ae (pv 5) (ae (pv 6) ai))) (dD rfl) (fun _ _ _ _ _=>by exact(pk (K:=K) (n:=2) rfl (gD (bU (i:=8) ud.nd rfl (.inl rfl)) (gD (bU (i:=9) ud.nd rfl (.inl rfl)) oS)))) (fun _ _ _ _ _=>by exact iJ) (fun _ _ _ _ _=>by exact(vY ZW hr (by decide) rfl (ae (pv 8) (ae (pv 9) ai)))))
   (aw (vG hu (aJ (K:=K) (pv 0) rfl) (pv 1) (vY ZX hr (by decide) rfl (ae (pv 2) (ae (pv 3) (ae (pv 7) ai)))) rfl)
   (ax (aF (cp qp (a7 (ae ay ai)) (pv 6))))))))))),?_⟩
  refine eG fun n1 m1=> ?_;refine⟨_,rfl,_,rfl,_,rfl,lr,_,0,3,rfl,rfl,rfl,by decide,ah.of fq,fun q1 om=> ?_⟩;rw[pG,MM.sy row hn (by decide),c1,pI];refine m1 _ _ ?_;refine eG fun n2 m2=> ?_;have s1:af H _:=af.new (o:= .lst ((ps.map fun p=>p.1).map nI)) om;have h1:=hh.kp (Kp.of s1);refine⟨_,rfl,A.p,_,_,rfl,h1.hs,rfl,_,rfl,by show 1<=sizeLine;decide,fun q2 mD=> ?_⟩;have s2:af _ _:=af.new (o:= .lst [nI a]) mD;refine⟨_,rfl,q2,q1,_,_,rfl,rfl,au,s2 _ _ au,?_,fun q3 qN=> ?_⟩
  ·rw[ao,ao,c4];exact fO (eO (show 1+n<=1000 by omega))
  have s3:af _ _:=af.new (o:= .lst ([nI a]++(ps.map fun p=>p.1).map nI)) qN;have dm:=(s1.trans s2).trans s3;have h3:=hh.kp (Kp.of dm);refine⟨A,G,s,q3,a::ps.map fun p=>p.1,rfl,h3,au,(by rw[bH,ao,c4];omega),fun H4 s4=> ?_⟩;have s14:=dm.trans s4;have h4:=hh.kp (Kp.of s14);have e1:((a::ps.map fun p=>p.1).all fun c=>bq s c)=(bq s a&&ps.all fun p=>bq s p.1):=by rw[pY,rA];rfl
  rw[e1];simp only[bE] at k;refine⟨_,rfl,?_⟩;cases ck:(bq s a&&ps.all fun p=>bq s p.1) with
  |false=>
   rw[ck,if_pos rfl] at k
   exact a8 ⟨by show 1<=sizeLine;decide,fun l hl=>k.out hh s14 hl⟩
  |true=>
   rw[ck,if_neg (by decide)] at k
   refine ba (m2 _ _ ?_)
   refine eG fun n3 m3=> ?_
   refine⟨_,rfl,_,rfl,_,⟨A.p,Z.h,_,_,rfl,h4.hs,T.bZ,T.mr,rfl⟩,A.dT,bW (eI s.tickets G.tg) (kI t),rfl,bj.k (k:=kI t) h4.hT,_,rfl,?_⟩
   cases ct:uI s t with
   |some x=>
    rw[ct,if_pos (show(some x).isSome=true from rfl)] at k
    obtain⟨i,hi,rfl⟩:=LY ct
    obtain⟨gg,jE⟩:=kQ hh.tL hi
    rw[zt g.gZ hi jE]
    exact a8 ⟨by show 1<=sizeLine;decide,fun l hl=>k.out hh s14 hl⟩
   |none=>
    rw[ct,if_neg (show ¬(none:Option bI).isSome=true by decide)] at k
    have NO:=LZ ct
    rw[zu NO]
    refine ba (m3 _ _ ?_)
    refine eG fun n4 m4=> ?_
    refine⟨_,rfl,_,⟨A.p,Z.h,_,_,rfl,h4.hs,T.bZ,T.mr,rfl⟩,A.dT,_,rfl,h4.hT,_,_,rfl,rfl,_,rfl,?_⟩
    rw[LX hh.tL]
    refine dG (fun c=> ?_) (fun c=> ?_)
    ·have c:(40:Int)<=(s.tickets.length:Int):=by simpa using c
     rw[if_pos (show HH<=s.tickets.length by unfold HH;omega)] at k
     exact⟨by show 1<=sizeLine;decide,fun l hl=>k.out hh s14 hl⟩
    ·have c:¬(40:Int)<=(s.tickets.length:Int):=by simpa using c
     rw[if_neg (show ¬HH<=s.tickets.length by unfold HH;omega)] at k
     have NP:=s14 _ _ fq
     refine m4 _ _ ?_
     refine eG fun n5 m5=> ?_
     refine⟨_,rfl,_,rfl,_,rfl,_,rfl,lr,_,1,3,rfl,rfl,rfl,by decide,ah.of NP,fun q5 ZY=> ?_⟩
     rw[pG,MM.sy row hn (by decide),c2,pI]
     have s5:af _ _:=af.new (o:= .lst ((ps.map fun p=>p.2.1).map nI)) ZY
     refine⟨_,rfl,_,rfl,_,rfl,lr,_,2,3,rfl,rfl,rfl,by decide,ah.of (s5 _ _ NP),fun q6 Gn=> ?_⟩
     rw[pG,MM.sy row hn (by decide),c3,pI]
     have s6:af _ _:=af.new (o:= .lst ((ps.map fun p=>p.2.2).map nI)) Gn
     have s46:=s5.trans s6
     have s16:=s14.trans s46
     refine⟨v,q5,q6,ps.map fun p=>p.2.1,ps.map fun p=>p.2.2,rfl,s6 _ _ au,au,by simp,(fun z=> ?_),(by rw[ao,c4];exact n8),(fun y hy=> ?_),(fun y hy=> ?_),hv,Tab.same s16 fc,fun H7 l7 k7 T7 qO dZ=> ?_⟩
     ·have:=congrArg iV z
      rw[ao,c4] at this
      simp at this;omega
     ·obtain⟨p,hp,rfl⟩:=bh.mp hy;exact(pm p hp).2.1
     ·obtain⟨p,hp,rfl⟩:=bh.mp hy;exact(pm p hp).2.2
     ·have ez:(ps.map fun p=>p.2.1).zip (ps.map fun p=>p.2.2)=ps.map fun p=>p.2:=zip_map _ _ ps
      rw[ez] at dZ
      refine m5 _ _ ?_
      have kH7:=(Kt.of s16).trans k7
      have h7:=hh.kp kH7.kp
      have w6:=k7.kp _ _ (s46 _ _ (s4 _ _ (s3 _ _ (s2 _ _ au)))) rfl
      have shl:(mT v (ps.map fun p=>p.2)).length=n:=by rw[MM.vL,ao,c4]
      generalize yW:mT v (ps.map fun p=>p.2)=shs at dZ shl k
      let pt:Nat->bT:=fun j=>⟨(ps.getD j (0,0,0)).1,shs.getD j 0,0,0,0⟩
      have NQ:∀j x y,ps[j]? =some x->shs[j]? =some y->pt j=⟨x.1,y,0,0,0⟩:=fun j x y e1 e2=>by
       show(⟨(ps.getD j (0,0,0)).1,shs.getD j 0,0,0,0⟩:bT)=_;rw[ly,e1,ly,e2];rfl
      refine⟨_,rfl,_,rfl,q1,l7,_,_,rfl,ah.of w6,ah.of dZ,fun D hD=> ?_⟩
      have nq1:q1≠D:=aV w6 hD
      have nl7:l7≠D:=aV dZ hD
      refine NK (J:=yL K q1 l7) (n:=n) (fun i H'=>∃bs:List aa,bs.length=i/\(∀b o,b≠D->H7 b=some o->H' b=some o)/\H' D=some (.lst (bs.map V.ref))/\(∀(j:Nat) b,bs[j]? =some b->bV H' b Z.p (ic (pt j)))/\bs.Nodup/\(∀b∈bs,H7 b=none/\b≠D))
       ⟨[],rfl,fun b o m e=>by rw[ag m];exact e,au,fun j b e=>by simp at e,Io,fun b hb=>by cases hb⟩ ?_ ?_ ?_ ?_
      ·rintro i H' hi ⟨bs,_,kb,_⟩
       exact⟨_,_,_,_,ah.of (kb _ _ nq1 w6),ah.of (kb _ _ nl7 dZ),(by rw[aS,aS,cE (by omega)];rfl),(by rw[aS,cE (by omega)];rfl)⟩
      ·rintro H' ⟨bs,_,kb,_⟩
       exact⟨_,_,ah.of (kb _ _ nq1 w6),ah.of (kb _ _ nl7 dZ),.inl (by rw[ao,ao,c4];exact aI _)⟩
      ·rintro i H' y H'' hi ⟨bs,qD,kb,qP,ue,Gp,Au⟩ ⟨T1,x1,x2,rfl,oo,rfl,e1,e2⟩
       have e1:=e1 _ (ah.of (kb _ _ nq1 w6))
       have e2:=e2 _ (ah.of (kb _ _ nl7 dZ))
       obtain⟨c',hc',rfl⟩:=cg e1
       obtain⟨x,hx,rfl⟩:=cg hc'
       obtain⟨y,hy,rfl⟩:=cg e2
       refine⟨T1,_,rfl,cH.of au,rfl,_,_,rfl,_,_,rfl,rfl,rfl,?_⟩
       have sT:af H' _:=af.new (o:= .tup [nI x.1,nI y]) oo
       refine iP ⟨_,rfl,_,rfl,fun b dx nb nd ne=> ?_⟩
       refine⟨b,dx,x.1,y,rfl,au,fun H8 ho kp=>⟨rfl,?_⟩⟩
       have s8:af _ H8:=af.made nb nd kp
       have s78:=sT.trans s8
       have bH':H' b=none:=(Kt.of sT).up b nb
       have bD:b≠D:=fun z=>by rw[z,qP] at bH';cases bH'
       have b7:H7 b=none:=by
        cases q:H7 b with
        |none=>rfl
        |some o=>rw[kb b o bD q] at bH';cases bH'
       refine⟨_,s78 _ _ qP,?_,bs++[b],by simp[qD],fun d o m e=> ?_,?_,fun j d e=> ?_,?_,fun d hd=> ?_⟩
       ·rw[ao,qD];exact dk (by omega)
       ·rw[ag m];exact s78 _ _ (kb d o m e)
       ·rw[au,cZ];rfl
       ·by_cases hj:j<bs.length
        ·rw[ox hj] at e
         have hd:=Au d (bP e)
         exact((ue j d e).kp (Kp.of s78)).tD bM.upd hd.2
        ·rw[qV (by omega)] at e
         have ej:j=i:=by
          have:=(cJ.mp e).1;simp at this;omega
         rw[ej,qD,IA] at e
         simp at e
         subst e
         rw[ej,NQ i x y hx hy]
         exact ho.tD bM.upd bD
       ·rw[xH]
        refine⟨Gp,by simp,fun d hd d' hd'=> ?_⟩
        rw[ik.mp hd']
        rintro rfl
        obtain⟨j,hj⟩:=fH hd
        obtain⟨dy,e⟩:=ue j d hj
        rw[bH'] at e;cases e
       ·rcases ff.mp hd with hd|hd
        ·exact Au d hd
        ·rw[ik.mp hd];exact⟨b7,bD⟩
      ·rintro H8 ⟨bs,qD,kb,qP,ue,Gp,Au⟩
       have s8:∀b o,H7 b=some o->H8 b=some o:=fun b o e=>kb b o (aV e hD) e
       have s78:af H7 H8:=s8
       refine⟨_,rfl,_,rfl,_,rfl,fun tk dx ntk nd ne=> ?_⟩
       refine⟨tk,dx,D,a,v,rfl,au,fun H9 ho kp=>⟨rfl,?_⟩⟩
       have s9:af H8 H9:=af.made ntk nd kp
       have s79:=s78.trans s9
       have h9:=h7.kp (Kp.of s79)
       have kH9:=kH7.trans (Kt.of s79)
       refine⟨_,rfl,_,⟨A.p,Z.h,_,_,rfl,h9.hs,T.bZ,T.mr,rfl⟩,_,rfl,A.dT,_,rfl,gj.k (k:=kI t) h9.hT (by rw[LX hh.tL];exact eO (by have:=g.jw;omega)),?_⟩
       refine⟨by show 1<=sizeLine;decide,fun l10 w9=> ?_⟩
       let TK:bI:={t:=t,issuer:=a,value:=v,parts:=(ps.zip shs).map fun z=>{carrier:=z.1.1,share:=z.2,kept:=0,stage:=0,claim:=0}}
       have cz:TK.parts.length=n:=by
        show((ps.zip shs).map _).length=n;rw[ao,rk,c4,shl,x8]
       have tko:i9 Z A H9 TK ⟨tk,D,bs⟩:=by
        refine⟨ho,s9 _ _ qP,fun z=> ?_,by rw[cz];exact qD,fun j p b e1 e2=> ?_⟩
        ·have z:D=A.lC:=z;rw[z] at hD;rw[h7.hK] at hD;cases hD
        ·have e1:((ps.zip shs).map fun z=>({carrier:=z.1.1,share:=z.2,kept:=0,stage:=0,claim:=0}:bT))[j]? =some p:=e1;rw[aS,oy] at e1;obtain⟨z,hz,rfl⟩:=e1;rw[j9] at hz;have:=ue j b e2;rw[NQ j z.1 z.2 hz.1 hz.2] at this;exact this.kp (Kp.of s9)
       have put:=h9.V2 (x:=TK) NO tko Gp (fun b hb i g' hg'=>h7.ZU (Au b hb).1 hg') bM.upd au
       have NR:l7≠A.dT:=cv (s79 _ _ dZ) h9.hT (by simp)
       have ZZ:(upd (upd H9 A.dT (.dK (putK (eI s.tickets G.tg) (kI t) (.ref tk)))) l10 (.lst [V.int 0])) l7=some (.lst (shs.map nI)):=by
        rw[ag (fun z=> ?_),ag NR]
        ·exact s79 _ _ dZ
        ·rw[<-z,ag NR,s79 _ _ dZ] at w9;cases w9
       refine⟨_,rfl,l10,l7,_,_,rfl,rfl,au,ZZ,?_,fun l11 xc=> ?_⟩
       ·rw[ao,shl]
        exact fO (eO (show 1+n<=1000 by omega))
       ·have s11:=(af.new (o:= .lst [V.int 0]) w9).trans (af.new (o:= .lst ([V.int 0]++shs.map nI)) xc)
        have fr:kP A H _:=(kH9.tp A).trans ((bM.upd (o:= .dK (putK (eI s.tickets G.tg) (kI t) (.ref tk)))).fr h9.hT rfl).L
        have tb9:Tab tb (upd H9 A.dT (.dK (putK (eI s.tickets G.tg) (kI t) (.ref tk)))):=Tab.fr ((bM.upd (o:= .dK (putK (eI s.tickets G.tg) (kI t) (.ref tk)))).fr h9.hT rfl) h9.hK (Tab.same s79 T7)
        have n11:l11≠A.lC:=fun z=>by rw[z,(put.kp (Kp.of (af.new (o:= .lst [V.int 0]) w9))).hK] at xc;cases xc
        refine k {G with tg:=G.tg++[⟨tk,D,bs⟩]} _ l11 (put.kp (Kp.of s11)) (iz _) ?_ n11 (fun xs e=>by rw[af.new (o:= .lst [V.int 0]) w9 _ _ (fr _ _ e rfl n11)] at xc;cases xc) (fr.trans (cP.of s11).L) (fun _=>Tab.same s11 tb9)
        ·rw[au,ZQ]
         rfl
open PySem PySem.Spec PyProof.Rows L2
open Vbahak (State Carrier Part Ticket Nets total)
def bitsOf(n:Nat):List Nat:=(cN n).map fun i=>2^i
theorem qQ(n:Nat):(bitsOf n).length=n:=by unfold bitsOf;rw[ao,xI]
theorem xf{n i:Nat}(h:i<n):(bitsOf n)[i]? =some (2^i):=by unfold bitsOf;rw[aS,xD h];rfl
theorem NS{n i b:Nat}(h:(bitsOf n)[i]? =some b):i<n/\b=2^i:=by
 have hi:i<n:=by have:=(cJ.mp h).1;rw[qQ] at this;exact this
 rw[xf hi] at h;exact⟨hi,(fe h).symm⟩
theorem NT(n:Nat):bitsOf (n+1)=bitsOf n++[2^n]:=by unfold bitsOf;rw[xQ,cZ];rfl
theorem Av(m n:Nat):uM (m:Int) (n:Int)=((m&&& n:Nat):Int):=by
 unfold uM;rw[decide_eq_true (by omega),decide_eq_true (by omega)];simp
theorem uf(m i:Nat):(m&&& 2^i=0)↔m.testBit i=false:=by
 constructor
 ·intro h;have:(m&&& 2^i).testBit i=false:=by rw[h];simp
  rw[Il,Nat.testBit_two_pow_self,mO] at this;exact this
 ·intro h;apply ae1;intro j;rw[Il,afu];by_cases e:i=j
  ·subst e;rw[h];rfl
  ·rw[Nat.testBit_two_pow_of_ne e,Iq]
theorem tJ{n:Nat}(h:n<=10):2^n<=1024:=ae0 (by decide) h
theorem Z0{m n:Nat}(hn:n<=10)(h:m<2^n):m<1024:=d6 h (tJ hn)
theorem xg{n:Nat}(h:n<=2000):n<sizeLine:=by rw[uS];omega
theorem Gq{α β:Type}{f g:α->Option β}:∀{l:List α},(∀a∈l,f a=g a)->l.filterMap f=l.filterMap g
 |[],_=>rfl
 |a::l,h=>by rw[jf,jf,h a bS,Gq fun b hb=>h b (bR _ hb)]
theorem afL(a b:V):(!decide (a=b))=true↔¬a=b:=by simp
abbrev Gs:aL:=top 36
theorem Aw:a9 ["count","bits","bit"] ["count"] (aQ Gs):=bo
def NU:Sp:=fun vs H Q _=>∃(n:Nat),vs=[nI n]/\n<=10/\∀H' l,af H H'->H l=none->H' l=some (.lst ((bitsOf n).map nI))->Q (.ref l) H'
theorem Z1{f:aa}{fd:aU}(F:aR K "bits_for" "bits_for" Gs f fd)(T:Txt K mg Z):aN P w K mg base aT 1 f fd ["count"] NU:=by
 refine F.bA Aw fun aD A0 outer s0 H vs Q E hr h=> ?_
 ·obtain⟨n,rfl,hn,k⟩:=h;refine⟨rfl,_,(aw (aP (i:=1) Aw.nd rfl (.inl rfl) (a7 ai))
   (aw (aP (i:=2) Aw.nd rfl (.inl rfl) ay)
   (aw (vf fX (bb rR (cC (fT (K:=K)) (by rfl) T.fm fE (ae (pv 1) ai)) (pv 0) (aZ _))
   (aw (iX (jn ka xw xu rX (pv 1) (ae (pv 2) ai)))
    (ax (BK (i:=2) Aw.nd rfl (.inl rfl) (pv 2) BL))))
   (ax (aF (pv 1)))))),?_⟩
  refine⟨by show 0<=sizeLine;decide,fun l hl=> ?_⟩;refine⟨fun m σ H'=>∃i:Nat,m=n-i/\i<=n/\σ=[some (nI n),some (.ref l),some (nI (2^i))]/\af H H'/\H' l=some (.lst ((bitsOf i).map nI)),⟨n,0,rfl,du _,rfl,af.new hl,au⟩,?_⟩;rintro m σ H' ⟨i,rfl,hi,rfl,s1,dW⟩;refine⟨_,rfl,l,_,rfl,.inl (ah.of dW),_,rfl,_,_,rfl,rfl,decide (i<n),?_,?_⟩
  ·show V.bl (decide ((((bitsOf i).map nI).length:Int)<(n:Int)))=_;rw[ao,qQ]
   congr 1
   exact decide_eq_decide.mpr (by omega)
  by_cases c:i<n
  ·rw[decide_eq_true c];refine a8 ⟨fun σ' H2=>σ'=[some (nI n),some (.ref l),some (nI (2^(i+1)))]/\af H H2/\H2 l=some (.lst ((bitsOf (i+1)).map nI)),fun σ' H2 ⟨e,s2,eL⟩=>⟨n-(i+1),by omega,i+1,rfl,c,e,s2,eL⟩,?_⟩;refine⟨_,rfl,.inl ⟨rfl,_,ah.of dW⟩,_,rfl,l,_,_,rfl,rfl,dW,(by rw[ao,qQ];exact dk (by omega)),?_⟩;refine⟨_,rfl,_,rfl,_,_,rfl,rfl,?_,fun b o e=> ?_,?_⟩
   ·show _=[some (nI n),some (.ref l),some (V.int ((2^(i+1):Nat):Int))];have:((2^(i+1):Nat):Int)=((2^i:Nat):Int)+((2^i:Nat):Int):=by rw[jK];omega
    rw[this]
    rfl
   ·rw[ag (aV e hl)];exact s1 _ _ e
   ·rw[au,NT,cZ]
    rfl
  ·rw[decide_eq_false c];have:i=n:=by omega
   subst this;exact ba ⟨_,rfl,k H' l s1 hl dW⟩
abbrev Gu:aL:=top 37
theorem Ax:a9 ["chosen","bits","place","bit"] ["chosen","bits"] (aQ Gu):=bo
def NV:Sp:=fun vs H Q _=>∃(m n:Nat) (lb:aa),vs=[nI m,.ref lb]/\H lb=some (.lst ((bitsOf n).map nI))/\n<=10/\∀H' l,af H H'->H l=none->H' l=some (.lst ((MM.places m n).map nI))->Q (.ref l) H'
theorem Z2(m n:Nat):(cN n).filterMap (fun(i:Nat)=>if m.testBit i=true then some (nI i) else none)=(MM.places m n).map nI:=by
 unfold MM.places
 induction n with
 |zero=>rfl
 |succ n ih=>
  rw[xQ,A2,ih,mK,cZ]
  congr 1
  by_cases c:m.testBit n=true
  ·simp[c]
  ·simp[c]
theorem Z4{f:aa}{fd:aU}(F:aR K "places_in" "places_in" Gu f fd)(T:Txt K mg Z):aN P w K mg base aT 1 f fd ["chosen","bits"] NV:=by
 refine F.bA Ax fun aD A0 outer s0 H vs Q E hr h=> ?_
 ·obtain⟨m,n,lb,rfl,hb,hn,k⟩:=h;refine⟨rfl,_,(ax (aF (eW (own:=[("place",2),("bit",3)]) rfl Ax.nd (Dl (K:=K) rfl T.Ec (ae (pv 1) ai)) (dD rfl) (fun _ _ _ _ _=>by exact(pk (K:=K) (n:=2) rfl (gD (bU (i:=2) Ax.nd rfl (.inl rfl)) (gD (bU (i:=3) Ax.nd rfl (.inl rfl)) oS)))) (fun _ _ _ _ _=>by exact(gF (bb lW (cp yu (pv 0) (pv 3)) ay (aZ _)))) (fun _ _ _ _ _=>by exact(pv 2))))),?_⟩;refine⟨_,rfl,lb,_,rfl,ah.of hb,fun D hD=>Di (fun i v=>if m.testBit i=true then some (nI i) else none) hD (ah.of hb) (by rw[ao,qQ];exact dk (by omega)) (fun _ _=>rfl) (fun i H2 y R R0 hy s2 r1 r2=> ?_) (fun H2 s2 hd=> ?_)⟩
  ·obtain⟨b,hb',rfl⟩:=cg hy;obtain⟨hi,rfl⟩:=NS hb';refine⟨_,rfl,_,rfl,_,_,rfl,rfl,rfl,!decide (m&&& 2^i=0),?_,?_⟩
   ·show V.bl (!decide (V.int (uM (m:Int) ((2^i:Nat):Int))=V.int 0))=_;rw[Av]
    congr 2
    exact decide_eq_decide.mpr ⟨fun z=>by injection z with z;omega,fun z=>by rw[z];rfl⟩
   by_cases c:m.testBit i=true
   ·have:¬m&&& 2^i=0:=fun z=>by rw[uf,c] at z;cases z
    rw[decide_eq_false this];exact a8 ⟨_,rfl,r1 _ _ (if_pos c) (af.refl _)⟩
   ·have:m&&& 2^i=0:=(uf m i).mpr (by simpa using c);rw[decide_eq_true this];exact ba (r2 _ (if_neg c) (af.refl _))
  ·have e:(cN ((bitsOf n).map nI).length).filterMap (fun i=>(((bitsOf n).map nI)[i]?).bind fun v=>if m.testBit i=true then some (nI i) else none)=(MM.places m n).map nI:=by
    rw[<-Z2,ao,qQ];refine Gq fun i hi=> ?_;have hi:=kj.mp hi;rw[aS,xf hi]
    rfl
   rw[e] at hd;exact k H2 D s2 hD hd
open PySem PySem.Spec PyProof.Rows L2
open Vbahak (State Carrier Part Ticket Nets total)
abbrev Gv:aL:=top 38
theorem ug:a9 ["amounts","sums","amount","known"] ["amounts"] (aQ Gv):=bo
def NW:Sp:=fun vs H Q _=>∃(us:aM) (la:aa),vs=[.ref la]/\H la=some (.lst ((us.map (·.2)).map V.int))/\us.length<=10/\∀H' l,af H H'->H l=none->H' l=some (.lst ((MM.hW us).map V.int))->Q (.ref l) H'
theorem Z5{f:aa}{fd:aU}(F:aR K "sums_of_sets" "sums_of_sets" Gv f fd)(T:Txt K mg Z):aN P w K mg base aT 1 f fd ["amounts"] NW:=by
 refine F.bA ug fun aD A0 outer s0 H vs Q E hr h=> ?_
 ·obtain⟨us,la,rfl,ha,hn,k⟩:=h;refine⟨rfl,_,(aw (aP (i:=1) ug.nd rfl (.inl rfl) (a7 (ae ay ai)))
   (aw (iF fX rfl (dh (K:=K) (pv 0)) (bU (i:=2) ug.nd rfl (.inr rfl))
   (ax (aP (i:=1) ug.nd rfl (.inl rfl) (cp qp (pv 1) (eW (own:=[("known",3)]) rfl ug.nd (dh (K:=K) (pv 1)) (dD rfl) (fun _ _ _ _ _=>by exact(bU (i:=3) ug.nd rfl (.inl rfl))) (fun _ _ _ _ _=>by exact iJ) (fun _ _ _ _ _=>by exact(cp jR (pv 3) (pv 2))))))))
   (ax (aF (pv 1))))),?_⟩
  refine⟨by show 1<=sizeLine;decide,fun l0 pF=> ?_⟩;refine⟨_,rfl,la,rfl,⟨_,ah.of (by rw[ag (aV ha pF)];exact ha)⟩,lV (K:=K) (a:=la) (xs:=(us.map (·.2)).map V.int) (fun i σ H'=>∃(l:aa) (v2:Option V),σ=[some (.ref la),some (.ref l),v2,none]/\af H H'/\H l=none/\H' l=some (.lst ((MM.hW (us.take i)).map V.int))) ⟨l0,none,rfl,af.new pF,pF,au⟩ (fun i σ H' _ ⟨_,_,_,s1,_⟩=>ah.of (s1 _ _ ha)) ?_ ?_⟩
  ·rintro i y σ H' hi ⟨l,v2,rfl,s1,hl,dW⟩;obtain⟨z,hz,rfl⟩:=cg hi;obtain⟨p,hp,rfl⟩:=cg hz;have CF:i<us.length:=(cJ.mp hp).1;have tl:(us.take i).length<=9:=by rw[iU];omega
   have pw:2^(us.take i).length<=512:=ae0 (n:=2) (by decide) tl;refine⟨_,rfl,_,rfl,l,rfl,⟨_,ah.of dW⟩,fun D hD=>fF (fun j=>((MM.hW (us.take i))[j]?).bind fun z=>some (V.int (z+p.2))) hD (ah.of dW) (by rw[ao,MM.vV];exact dk (by omega)) (fun j H2 v R R0 hv s2 r1 r2=> ?_) (fun H2 s2 hd=> ?_)⟩
   ·obtain⟨z,hz,rfl⟩:=cg hv;rw[hz] at r1;exact⟨rfl,iP ⟨_,rfl,_,rfl,_,_,rfl,rfl,r1 _ _ rfl (af.refl _)⟩⟩
   ·rw[ao,eQ,mG _ (fun z=>V.int (z+p.2)) (fun _ _=>rfl)] at hd;have eL:=s2 _ _ dW;refine⟨l,D,_,_,rfl,rfl,eL,hd,?_,fun l3 eZ=> ?_⟩
    ·rw[ao,ao,MM.vV];exact fO (xg (by omega))
    ·have cn:=s1.trans s2;refine⟨l3,_,rfl,cn.trans (af.new eZ),(Kt.of cn).up _ eZ,?_⟩;rw[au,fN hp,MM.U2,cZ,bw]
     rfl
  ·rintro σ H' ⟨l,v2,rfl,s1,hl,dW⟩;rw[ao,ao,iq] at dW;exact⟨_,rfl,k H' l s1 hl dW⟩
abbrev Gw:aL:=top 39
theorem uh:a9 ["sums","bits","most","chosen","found","bit"] ["sums","bits"] (aQ Gw):=bo
def NX:Sp:=fun vs H Q _=>∃(us:aM) (ls lb:aa),vs=[.ref ls,.ref lb]/\H ls=some (.lst ((MM.hW us).map V.int))/\H lb=some (.lst ((bitsOf us.length).map nI))/\us.length<=10/\∀H' l,af H H'->H l=none->H' l=some (.lst ((MM.jx us (2^us.length)).map nI))->Q (.ref l) H'
theorem NY(us:aM)(n:Nat):(MM.jx us n).length=n:=by unfold MM.jx;rw[ao,xI]
theorem Z6(us:aM):MM.jx us (0+1)=[0]:=by
 show[MM.chain (MM.sel 0 us)]=[0];rw[MM.CV]
 rfl
theorem NZ{m n:Nat}(h0:m≠0)(h:m<2^n):MM.places m n≠[]:=fun z=>by
 have:=MM.vU (jg n 0) m (by rw[Po];exact h) h0;rw[<-MM.vT,Po,z] at this;exact this rfl
theorem Z7{f:aa}{fd:aU}(F:aR K "most_groups_of_sets" "most_groups_of_sets" Gw f fd)(T:Txt K mg Z):aN P w K mg base aT 1 f fd ["sums","bits"] NX:=by
 refine F.bA uh fun aD A0 outer s0 H vs Q E hr h=> ?_
 ·obtain⟨us,ls,lb,rfl,hs,hb,hn,k⟩:=h;have p2:=tJ hn;have p1:1<=2^us.length:=PH;refine⟨rfl,_,(aw (aP (i:=2) uh.nd rfl (.inr rfl) (a7 (ae ay ai)))
   (aw (iF fX rfl (Rr rfl T.Eb (ae ay (ae (cC (fT (K:=K)) (by rfl) T.fm fE (ae (pv 0) ai)) ai))) (bU (i:=3) uh.nd rfl (.inr rfl))
   (aw (aP (i:=4) uh.nd rfl (.inl rfl) (cC (VM (K:=K) rfl) (by rfl) T.XA Xs (ae (eW (own:=[("bit",5)]) rfl uh.nd (dh (K:=K) (pv 1)) (dD rfl) (fun _ _ _ _ _=>by exact(bU (i:=5) uh.nd rfl (.inl rfl))) (fun _ _ _ _ _=>by exact(gF (bb lW (cp yu (pv 3) (pv 5)) ay (aZ _)))) (fun _ _ _ _ _=>by exact(bK (cy (K:=K)) (pv 2) (cp kF (pv 3) (pv 5)) (fun _ _=>rfl)))) ai)))
    (ax (iX (jn ka xw xu rX (pv 2) (ae (yk (bb cQ (bK (cy (K:=K)) (pv 0) (pv 3) (fun _ _=>rfl)) ay (aZ _)) (cp jR (pv 4) ay) (pv 4)) ai))))))
   (ax (aF (pv 2))))),?_⟩
  refine⟨by show 1<=sizeLine;decide,fun l hl=> ?_⟩;have s1:af H _:=af.new (o:= .lst [V.int 0]) hl;refine⟨_,rfl,ls,_,rfl,.inl (ah.of (s1 _ _ hs)),_,_,rfl,⟨by omega,by omega,by rw[ao,MM.vV];omega,by rw[ao,MM.vV];omega⟩,?_⟩;rw[ao,MM.vV];have en:((2^us.length:Nat):Int)-1=((2^us.length-1:Nat):Int):=by omega
  rw[en,iT];refine Rv (fun i σ H'=>∃v3 v4:Option V,σ=[some (.ref ls),some (.ref lb),some (.ref l),v3,v4,none]/\af H H'/\H' l=some (.lst ((MM.jx us (i+1)).map nI))) ⟨none,none,rfl,s1,by rw[au,Z6];rfl⟩ ?_ ?_
  ·rintro i σ H' hi ⟨v3,v4,rfl,s2,eL⟩;have em:(1:Int)+((i:Nat):Int)=((i+1:Nat):Int):=by omega
   rw[em];have hm:i+1<2^us.length:=by omega
   have i6:=s2 _ _ hb;refine⟨_,rfl,lb,rfl,⟨_,ah.of i6⟩,fun D hD=>fF (fun j=>((bitsOf us.length)[j]?).bind fun _=>if (i+1).testBit j=true then some (nI (MM.chain (MM.sel (i+1-2^j) us))) else none) hD (ah.of i6) (by rw[ao,qQ];exact dk (by omega)) (fun j H3 v R R0 hv s3 r1 r2=> ?_) (fun H3 s3 hd=> ?_)⟩
   ·obtain⟨b,hb',rfl⟩:=cg hv;obtain⟨hj,rfl⟩:=NS hb';rw[hb'] at r1 r2;refine⟨rfl,?_⟩;refine⟨_,rfl,_,rfl,_,_,rfl,rfl,rfl,!decide ((i+1)&&& 2^j=0),?_,?_⟩
    ·show V.bl (!decide (V.int (uM ((i+1:Nat):Int) ((2^j:Nat):Int))=V.int 0))=_;rw[Av]
     congr 2
     exact decide_eq_decide.mpr ⟨fun z=>by injection z with z;omega,fun z=>by rw[z];rfl⟩
    by_cases c:(i+1).testBit j=true
    ·have cw:¬(i+1)&&& 2^j=0:=fun z=>by rw[uf,c] at z;cases z
     rw[decide_eq_false cw];have hle:=MM.Lp c;have fL:0<2^j:=P4 j;have es:(((i+1:Nat):Int)-((2^j:Nat):Int))=((i+1-2^j:Nat):Int):=by omega
     refine a8 ⟨_,rfl,_,rfl,_,rfl,_,_,rfl,rfl,l,_,_,_,rfl,rfl,ah.of (s3 _ _ eL),(by rw[es];exact bL (j:=i+1-2^j) (by rw[aS,MM.Lq us (show i+1-2^j<i+1 by omega)];rfl)),r1 _ _ (if_pos c) (af.refl _)⟩
    ·have h0:(i+1)&&& 2^j=0:=(uf (i+1) j).mpr (by simpa using c);rw[decide_eq_true h0];exact ba (r2 _ (if_neg c) (af.refl _))
   ·have e:(cN ((bitsOf us.length).map nI).length).filterMap (fun j=>((bitsOf us.length)[j]?).bind fun _=>if (i+1).testBit j=true then some (nI (MM.chain (MM.sel (i+1-2^j) us))) else none)=(MM.ints ((MM.places (i+1) us.length).map fun j=>MM.chain (MM.sel (i+1-2^j) us))).map V.int:=by
     rw[<-eY,ao,qQ];have e1:(cN us.length).filterMap (fun j=>((bitsOf us.length)[j]?).bind fun _=>if (i+1).testBit j=true then some (nI (MM.chain (MM.sel (i+1-2^j) us))) else none)=(cN us.length).filterMap (fun j=>if (i+1).testBit j=true then some (nI (MM.chain (MM.sel (i+1-2^j) us))) else none):=
      Gq fun j hj=>by rw[xf (kj.mp hj)];rfl
     rw[e1];unfold MM.places;rw[bw];exact iQ _ _ _
    rw[e] at hd;have pne:=NZ (m:=i+1) (by omega) hm;refine⟨D,_,rfl,ah.of hd,?_,fun M hM N0=> ?_⟩
    ·unfold MM.ints;rw[ao,ao];exact Hz.mpr pne
    ·unfold MM.ints at hM N0;obtain⟨M',hM',rfl⟩:=bh.mp hM;have jQ:=MM.U3 us (m:=i+1) (M:=M') (by omega) hm hM' (fun a ha=>by have:=N0 (a:Int) (iS ha);omega);have dm:=s2.trans s3;have eZ:=s3 _ _ eL;have Z8:=dm _ _ hs;have ga:jS ((MM.hW us).map V.int) ((i+1:Nat):Int)=some (.int (total (MM.sel (i+1) us))):=bL (j:=i+1) (by rw[aS,MM.Lo us hm];rfl);refine⟨_,rfl,.inl ⟨rfl,_,ah.of eZ⟩,_,rfl,_,rfl,ls,_,_,_,rfl,rfl,ah.of Z8,ga,rfl,decide (total (MM.sel (i+1) us)=0),?_,?_⟩
     ·show V.bl (decide (V.int (total (MM.sel (i+1) us))=V.int 0))=_
      congr 1
      exact decide_eq_decide.mpr ⟨fun z=>by injection z,fun z=>by rw[z]⟩
     by_cases c:total (MM.sel (i+1) us)=0
     ·rw[decide_eq_true c];rw[if_pos c] at jQ;refine a8 ⟨_,rfl,_,_,rfl,rfl,l,_,_,rfl,rfl,eZ,(by rw[ao,NY];exact xg (by omega)),?_⟩;refine⟨_,_,rfl,fun b o e=>by rw[ag (aV e hl)];exact dm _ _ e,?_⟩;rw[au,jQ,cZ]
      rfl
     ·rw[decide_eq_false c];rw[if_neg c] at jQ;refine ba ⟨_,rfl,l,_,_,rfl,rfl,eZ,(by rw[ao,NY];exact xg (by omega)),?_⟩;refine⟨_,_,rfl,fun b o e=>by rw[ag (aV e hl)];exact dm _ _ e,?_⟩;rw[au,jQ,cZ]
      rfl
  ·rintro σ H' ⟨v3,v4,rfl,s2,eL⟩;rw[Nat.sub_add_cancel p1] at eL;exact⟨_,rfl,k H' l s2 hl eL⟩
abbrev Gx:aL:=top 40
theorem Z9:a9 ["group","left","sums","most"] ["group","left","sums","most"] (aQ Gx):=bo
def N1:Sp:=fun vs H Q _=>∃(us:aM) (c m:Nat) (ls lm:aa),vs=[nI c,nI m,.ref ls,.ref lm]/\H ls=some (.lst ((MM.hW us).map V.int))/\H lm=some (.lst ((MM.jx us (2^us.length)).map nI))/\us.length<=10/\m<2^us.length/\c<=m/\
 Q (.bl (decide (total (MM.sel c us)=0)&&decide (MM.chain (MM.sel (m-c) us)+1=MM.chain (MM.sel m us)))) H
theorem aaa{f:aa}{fd:aU}(F:aR K "may_be_first" "may_be_first" Gx f fd)(T:Txt K mg Z):aN P w K mg base aT 1 f fd ["group","left","sums","most"] N1:=by
 refine F.bA Z9 fun aD A0 outer s0 H vs Q E hr h=> ?_
 ·obtain⟨us,c,m,ls,lm,rfl,hs,hm,hn,px,eA,k⟩:=h;refine⟨rfl,_,(ax (aF (BF (qh cQ (bK (cy (K:=K)) (pv 2) (pv 0) (fun _ _=>rfl)) ay (aZ _)) (yj (qh cQ (bK (cy (K:=K)) (pv 3) (cp kF (pv 1) (pv 0)) (fun _ _=>rfl)) (cp kF (bK (cy (K:=K)) (pv 3) (pv 1) (fun _ _=>rfl)) ay) (aZ _)))))),?_⟩;have hc:c<2^us.length:=by omega
  have g1:jS ((MM.hW us).map V.int) (c:Int)=some (.int (total (MM.sel c us))):=bL (j:=c) (by rw[aS,MM.Lo us hc];rfl);have gm:∀j:Nat,j<2^us.length->jS ((MM.jx us (2^us.length)).map nI) (j:Int)=some (nI (MM.chain (MM.sel j us))):=fun j hj=>bL (j:=j) (by rw[aS,MM.Lq us hj];rfl);refine⟨_,rfl,_,rfl,ls,_,_,_,rfl,rfl,ah.of hs,g1,rfl,decide (total (MM.sel c us)=0),?_,?_⟩
  ·show V.bl (decide (V.int (total (MM.sel c us))=V.int 0))=_
   congr 1
   exact decide_eq_decide.mpr ⟨fun z=>by injection z,fun z=>by rw[z]⟩
  by_cases c1:total (MM.sel c us)=0
  ·rw[decide_eq_true c1] at k ⊢;rw[Qe] at k;have es:((m:Int)-(c:Int))=((m-c:Nat):Int):=by omega
   refine a8 ⟨_,rfl,_,rfl,_,rfl,_,_,rfl,rfl,lm,_,_,_,rfl,rfl,ah.of hm,(by rw[es];exact gm (m-c) (by omega)),_,rfl,_,rfl,lm,_,_,_,rfl,rfl,ah.of hm,gm m px,_,_,rfl,rfl,rfl,?_⟩;have e2:decide (nI (MM.chain (MM.sel (m-c) us))=V.int ((MM.chain (MM.sel m us):Int)-1))=decide (MM.chain (MM.sel (m-c) us)+1=MM.chain (MM.sel m us)):=
    decide_eq_decide.mpr ⟨fun z=>by injection z with z;omega,fun z=>by unfold nI;congr 1;omega⟩
   rw[<-e2] at k;exact k
  ·rw[decide_eq_false c1] at k ⊢;rw[Bj] at k;exact ba k
open PySem PySem.Spec PyProof.Rows L2
open Vbahak (State Carrier Part Ticket Nets total)
theorem N2:∀(a b:List Nat),a.length=b.length->HT.lexLt (a.map fun(n:Nat)=>(n:Int)) (b.map fun(n:Nat)=>(n:Int))=aeW a b
 |[],[],_=>rfl
 |[],_::_,h=>by simp at h
 |_::_,[],h=>by simp at h
 |x::a,y::b,h=>by
  rw[bQ,bQ,HT.rW];unfold aeW;rw[N2 a b (by simpa using h)];by_cases e:x=y
  ·subst e;simp
  ·rw[if_neg (by omega)];have:(x==y)=false:=by simpa using e
   rw[this,Bj,Qg];exact decide_eq_decide.mpr (by omega)
theorem aab(p q:aa×List Nat):HT.lexLt (wx p) (wx q)=MM.before p.2 q.2:=by
 unfold wx MM.before;rw[HT.rW];by_cases e:p.2.length=q.2.length
 ·rw[if_pos (by rw[e]),N2 _ _ e];simp[e]
 ·rw[if_neg (by omega),decide_eq_false e,Bj,Qg];exact decide_eq_decide.mpr (by omega)
def mH(m i c:Nat):Bool:=decide (c&&& m=c)&&c.testBit i
def xh(us:aM)(m c:Nat):Bool:=decide (total (MM.sel c us)=0)&&decide (MM.chain (MM.sel (m-c) us)+1=MM.chain (MM.sel m us))
theorem N3{us:aM}{m i c:Nat}:MM.pd us m i c↔mH m i c=true/\xh us m c=true:=by
 unfold mH xh;simp only[cM,decide_eq_true_eq];exact⟨fun h=>⟨⟨MM.Lr.mpr h.sub,h.has⟩,h.zero,h.most⟩,fun⟨⟨h1,h2⟩,h3,h4⟩=>⟨MM.Lr.mp h1,h2,h3,h4⟩⟩
abbrev Gy:aL:=top 41
theorem ui:a9 ["left","sums","most","bits","smallest","with_smallest","groups","chosen"] ["left","sums","most","bits"] (aQ Gy):=bo
def Gz(tb:cf):Sp:=fun vs H Q _=>∃(us:aM) (m:Nat) (ls lm lb:aa),vs=[nI m,.ref ls,.ref lm,.ref lb]/\H ls=some (.lst ((MM.hW us).map V.int))/\H lm=some (.lst ((MM.jx us (2^us.length)).map nI))/\H lb=some (.lst ((bitsOf us.length).map nI))/\us.length<=10/\m<2^us.length/\m≠0/\total (MM.sel m us)=0/\Tab tb H/\
 ∀H' l c i ps,Kt H H'->Tab tb H'->H l=none->MM.places m us.length=i::ps->MM.pd us m i c->(∀d,MM.pd us m i d->MM.before (MM.places d us.length) (MM.places c us.length)=false)->H' l=some (.lst ((MM.places c us.length).map nI))->Q (.ref l) H'
theorem aac{f:aa}{fd:aU}(F:aR K "first_group" "first_group" Gy f fd)(T:Txt K mg Z)(B:F8 mg base tb cA cB)(ml:fd.code= .ref cB)(N4:aA P w K mg base "places_in" 1 ["chosen","bits"] NV)(aad:aA P w K mg base "may_be_first" 1 ["group","left","sums","most"] N1):aN P w K mg base aT 2 f fd ["left","sums","most","bits"] (Gz tb):=by
 refine aR.NB F ui (fun vs H Q E h=> ?_) (fun aD A0 outer s0 H vs Q E ecd hr h=> ?_)
 ·obtain⟨us,m,ls,lm,lb,rfl,_⟩:=h;rfl
 ·obtain⟨us,m,ls,lm,lb,rfl,hs,hm,hb,hn,px,hm0,tm,fc,k⟩:=h;have eU:aD= .ref cB:=by rw[<-ecd];exact ml
  subst eU;have m1024:=Z0 hn px;obtain⟨i,ps,hp⟩:∃i ps,MM.places m us.length=i::ps:=by
   cases e:MM.places m us.length with
   |nil=>exact absurd e (NZ hm0 px)
   |cons i ps=>exact⟨i,ps,rfl⟩
  have hi:i<us.length:=(MM.sQ (show i∈MM.places m us.length by rw[hp];exact bS)).1;refine⟨_,(aw (aP (i:=4) ui.nd rfl (.inr rfl) (bK (cy (K:=K)) (pv 3) (bK (cy (K:=K)) (aX N4 hr (by decide) rfl (ae (pv 0) (ae (pv 3) ai))) ay (fun _ _=>rfl)) (fun _ _=>rfl)))
   (aw (nh (i:=5) (own:=[("chosen",7)]) rfl ui.nd rfl rfl (nj rfl rfl rfl (by decide+kernel)) (Rq rfl T.Eb (ae (cp jR (pv 0) ay) ai)) (dD rfl) (fun _ _ _ _ _=>by exact(bU (i:=7) ui.nd rfl (.inl rfl))) (fun _ _ _ _ _=>by exact(gF (PW.pt (u9 (bb cQ (cp yu (pv 7) (pv 0)) (pv 7) (aZ _)) (yi (bb lW (cp yu (pv 7) (pv 4)) ay (aZ _))))))) (fun _ _ _ _ _=>by exact(pv 7)))
   (aw (nh (i:=6) (own:=[("chosen",7)]) rfl ui.nd rfl rfl (nj rfl rfl rfl (by decide+kernel)) (dh (K:=K) (pv 5)) (dD rfl) (fun _ _ _ _ _=>by exact(bU (i:=7) ui.nd rfl (.inl rfl))) (fun _ _ _ _ _=>by exact(gF (fh (aX aad hr (by decide) rfl (ae (pv 7) (ae (pv 0) (ae (pv 1) (ae (pv 2) ai)))))))) (fun _ _ _ _ _=>by exact(aX N4 hr (by decide) rfl (ae (pv 7) (ae (pv 3) ai)))))
   (ax (aF (WW (t:=tb.b) (c:=cB) rfl hr.depth hr.units rfl T.zW T.fm (ae (pv 6) ai) rfl B.cb B.bl B.qb.symm B.Zz.symm)))))),?_⟩
  refine⟨_,rfl,_,rfl,_,rfl,m,us.length,lb,rfl,hb,hn,fun H1 l1 s1 dW fS=> ?_⟩;rw[hp] at fS;refine⟨l1,_,_,_,rfl,rfl,ah.of fS,bL (j:=0) rfl,lb,_,_,_,rfl,rfl,ah.of (s1 _ _ hb),bL (j:=i) (by rw[aS,xf hi];rfl),?_⟩;refine⟨_,rfl,_,_,rfl,rfl,_,rfl,by omega,by omega,?_⟩;have et:((m:Int)+1).toNat=m+1:=by omega
  rw[et];refine fun D hD=>Vw (lo:=0) (fun c=>if mH m i c=true then some (nI c) else none) hD (xg (by omega)) (fun c H2 R R0 hc s2 r1 r2=> ?_) (fun H2 s2 hd=> ?_)
  ·have ec:(0:Int)+((c:Nat):Int)=(c:Int):=by omega
   rw[ec];refine⟨rfl,?_⟩;refine⟨_,rfl,_,rfl,_,_,rfl,rfl,_,rfl,rfl,decide (c&&& m=c),?_,?_⟩
   ·show V.bl (decide (V.int (uM (c:Int) (m:Int))=V.int (c:Int)))=_;rw[Av]
    congr 1
    exact decide_eq_decide.mpr ⟨fun z=>by injection z with z;omega,fun z=>by rw[z]⟩
   unfold mH at r1 r2;by_cases c1:c&&& m=c
   ·rw[decide_eq_true c1] at r1 r2 ⊢;rw[Qe] at r1 r2;refine a8 ⟨_,rfl,_,rfl,_,_,rfl,rfl,rfl,!decide (c&&& 2^i=0),?_,?_⟩
    ·show V.bl (!decide (V.int (uM (c:Int) ((2^i:Nat):Int))=V.int 0))=_;rw[Av]
     congr 2
     exact decide_eq_decide.mpr ⟨fun z=>by injection z with z;omega,fun z=>by rw[z];rfl⟩
    by_cases c2:c.testBit i=true
    ·have cw:¬c&&& 2^i=0:=fun z=>by rw[uf,c2] at z;cases z
     rw[decide_eq_false cw];exact a8 ⟨_,rfl,r1 _ _ (if_pos c2) (af.refl _)⟩
    ·have h0:c&&& 2^i=0:=(uf c i).mpr (by simpa using c2);rw[decide_eq_true h0];exact ba (r2 _ (if_neg c2) (af.refl _))
   ·rw[decide_eq_false c1] at r1 r2 ⊢;rw[Bj] at r1 r2;exact ba (ba (r2 _ (if_neg (by decide)) (af.refl _)))
  ·rw[iQ] at hd;have wm:∀c∈(cN (m+1)).filter (mH m i),c<=m:=fun c hc=>by have:=kj.mp (c9.mp hc).1;omega
   have wl:((cN (m+1)).filter (mH m i)).length<=m+1:=by have:=lA (mH m i) (cN (m+1));rw[xI] at this;exact this
   have wc:∀c,c∈(cN (m+1)).filter (mH m i)↔c<=m/\mH m i c=true:=fun c=>by rw[c9,kj];constructor<;>(rintro⟨a,b⟩;exact⟨by omega,b⟩)
   generalize (cN (m+1)).filter (mH m i)=ws at hd wm wl wc;have cn:=s1.trans s2;refine⟨_,rfl,D,rfl,⟨_,ah.of hd⟩,fun D2 fV=> ?_⟩;have nD2:D≠D2:=aV hd fV;refine NK (J:=iY K D) (n:=ws.length) (fun j H'=>∃gs:List (aa×Nat),gs.map (·.2)=(ws.take j).filter (xh us m)/\(∀b o,b≠D2->H2 b=some o->H' b=some o)/\H' D2=some (.lst (gs.map fun p=>V.ref p.1))/\(∀p∈gs,H' p.1=some (.lst ((MM.places p.2 us.length).map nI))/\H2 p.1=none/\p.1≠D2))
    ⟨[],rfl,fun b o n e=>by rw[ag n];exact e,au,fun p hp=>by cases hp⟩ ?_ ?_ ?_ ?_
   ·rintro j H' hj ⟨gs,_,kb,_⟩;exact⟨_,_,ah.of (kb _ _ nD2 hd),(by rw[aS,cE hj];rfl)⟩
   ·rintro H' ⟨gs,_,kb,_⟩;exact⟨_,ah.of (kb _ _ nD2 hd),by rw[ao];exact aI _⟩
   ·rintro j H' y H'' hj ⟨gs,kX,kb,xi,qR⟩ ⟨rfl,e1⟩;have e1:=e1 _ (ah.of (kb _ _ nD2 hd));obtain⟨c,hc,rfl⟩:=cg e1;have eA:=wm c (bP hc);have gsl:gs.length<=j:=by
     have:=congrArg iV kX;rw[ao] at this;rw[this];refine dr (lA _ _) ?_;rw[iU];omega
    refine⟨rfl,?_⟩;have k2:∀b o,H b=some o->H'' b=some o:=fun b o e=>kb b o (fun z=>by rw[<-z,cn _ _ e] at fV;cases fV) (cn _ _ e);refine⟨_,rfl,_,rfl,_,rfl,_,rfl,us,c,m,ls,lm,rfl,k2 _ _ hs,k2 _ _ hm,hn,px,eA,xh us m c,rfl,?_⟩;cases c1:xh us m c with
    |true=>
     refine a8 ⟨_,rfl,_,rfl,c,us.length,lb,rfl,k2 _ _ hb,hn,fun H3 l3 s3 eZ dn=> ?_⟩
     have l3D:l3≠D2:=fun z=>by rw[z,xi] at eZ;cases eZ
     have l32:H2 l3=none:=by
      cases q:H2 l3 with
      |none=>rfl
      |some o=>rw[kb l3 o l3D q] at eZ;cases eZ
     refine⟨_,s3 _ _ xi,(by rw[ao];exact xg (by omega)),gs++[(l3,c)],?_,fun b o n e=> ?_,?_,fun p hp=> ?_⟩
     ·rw[cZ,kX,fN hc,mK]
      simp[c1]
     ·rw[ag n];exact s3 _ _ (kb b o n e)
     ·rw[au,cZ];rfl
     ·rcases ff.mp hp with hp|hp
      ·obtain⟨a1,a2,a3⟩:=qR p hp
       exact⟨by rw[ag a3];exact s3 _ _ a1,a2,a3⟩
      ·rw[ik.mp hp]
       exact⟨by rw[ag l3D];exact dn,l32,l3D⟩
    |false=>
     refine ba ⟨gs,?_,kb,xi,qR⟩
     rw[kX,fN hc,mK]
     simp[c1]
   ·rintro H3 ⟨gs,kX,kb,xi,qR⟩;rw[iq] at kX;have gm:∀d,d∈gs.map (·.2)↔MM.pd us m i d:=fun d=>by
     rw[kX,c9,wc,N3];constructor
     ·rintro⟨⟨_,a⟩,b⟩;exact⟨a,b⟩
     ·rintro⟨a,b⟩;have:=(N3.mpr ⟨a,b⟩).sub;exact⟨⟨MM.Sub.le d (aI _) this,a⟩,b⟩
    have s3:af H H3:=fun b o e=>kb b o (fun z=>by rw[<-z,cn _ _ e] at fV;cases fV) (cn _ _ e);refine⟨_,rfl,D2,gs.map fun p=>(p.1,MM.places p.2 us.length),rfl,(by rw[bw];exact xi),fun p hp=> ?_,?_,(Tab.same s3 fc).2,fun H4 k4 t4 p hpp vW=> ?_⟩
    ·obtain⟨q,hq,rfl⟩:=bh.mp hp;exact(qR q hq).1
    ·obtain⟨c,hc⟩:=MM.Va px hp tm;have:=(gm c).mpr hc;rw[ao];rw[bh] at this;obtain⟨q,hq,_⟩:=this;exact List.length_pos_of_mem hq
    ·obtain⟨q,hq,rfl⟩:=bh.mp hpp;have T3:=Tab.same s3 fc;have hP:∃ps,H3 tb.b.P=some (.eD ps):=let ⟨ps,h,_⟩:=T3.2;⟨ps,h⟩;have kt4:Kt H3 H4:=Kt.tab hP (let ⟨ps,h,_⟩:=t4;⟨ps,h⟩) k4;obtain⟨a1,a2,a3⟩:=qR q hq;refine k H4 q.1 q.2 i ps ((Kt.of s3).trans kt4) ⟨TabAt.but T3.1 B.ne hP k4,t4⟩ ((Kt.of cn).up _ a2) hp ((gm q.2).mp (iS hq)) (fun d hd=> ?_) (kt4.kp _ _ a1 rfl);obtain⟨q',hq',rfl⟩:=bh.mp ((gm d).mpr hd);have:=vW (q'.1,MM.places q'.2 us.length) (iS (f:=fun p:aa×Nat=>(p.1,MM.places p.2 us.length)) hq');rw[aab] at this;exact this
open PySem PySem.Spec PyProof.Rows L2
open Vbahak (State Carrier Part Ticket Nets total)
theorem xj:∀a b:List Nat,bz (a++b)=bz a+bz b
 |[],b=>by show bz b=0+_;omega
 |x::a,b=>by rw[rh,MM.sum_cons,MM.sum_cons,xj a b];omega
theorem N5:∀(n m:Nat),m<2^n->bz ((MM.places m n).map fun i=>2^i)=m
 |0,m,h=>by
  have:m=0:=by simpa using h
  subst this;rfl
 |n+1,m,h=>by
  rw[MM.sO,cZ,xj,bw];have ih:=N5 n (m/2) (by rw[jK] at h;omega);have e:∀l:List Nat,bz (l.map ((fun i=>2^i)∘rE))=2*bz (l.map fun i=>2^i):=by
   intro l
   induction l with
   |nil=>rfl
   |cons a l ih=>rw[bQ,bQ,MM.sum_cons,MM.sum_cons,ih];simp only[lE];rw[jK];omega
  rw[e,ih];by_cases o:m%2=1
  ·rw[if_pos o];show 1+0+2*(m/2)=m;omega
  ·rw[if_neg o];show 0+2*(m/2)=m;omega
theorem N6:∀n,bz (bitsOf n)=2^n-1
 |0=>rfl
 |n+1=>by
  rw[NT,xj,N6 n];have:1<=2^n:=PH;show 2^n-1+(2^n+0)=2^(n+1)-1;rw[jK];omega
def uj(cs:List Nat)(g:Nat->Int):Key->Option V:=fun k=>match bW (bN cs g) k with
 |some (.int z)=>if z≠0 then some (kV k) else none
 |_=>none
theorem N7{cs:List Nat}{g:Nat->Int}{c:Nat}(h:c∈cs):uj cs g (kI c)=if g c≠0 then some (nI c) else none:=by
 unfold uj;rw[ij h];rfl
theorem aag(cs:List Nat)(g:Nat->Int):(MM.view cs g).map (·.1)=cs.filter fun c=>g c !=0:=by
 unfold MM.view;rw[kh,bw];have:((fun x:Nat×Int=>x.1)∘fun c=>(c,g c))=id:=rfl;rw[this,Bs]
 rfl
theorem aah(cs:List Nat)(g:Nat->Int):(MM.view cs g).map (·.2)=((MM.view cs g).map (·.1)).map g:=by
 unfold MM.view;rw[kh,bw,bw,bw]
 rfl
theorem GA{cs:List Nat}{g:Nat->Int}{p:Nat×Int}(h:p∈MM.view cs g):p.1∈cs/\p.2=g p.1/\p.2≠0:=by
 unfold MM.view at h;obtain⟨h1,h2⟩:=c9.mp h;obtain⟨c,hc,rfl⟩:=bh.mp h1;exact⟨hc,rfl,by simpa using h2⟩
theorem De{cs:List Nat}{g:Nat->Int}(h:cs.Pairwise (·<·)):MM.nJ (MM.view cs g):=by
 unfold MM.nJ MM.view;refine aei _ ?_;rw[gN];exact h
theorem Ay(cs:List Nat)(g:Nat->Int):(MM.view cs g).length<=cs.length:=by
 unfold MM.view;refine dr (lA _ _) ?_;rw[ao];exact aI _
theorem aai(cs:List Nat)(g:Nat->Int):((bN cs g).map (·.1)).filterMap (uj cs g)=((MM.view cs g).map (·.1)).map nI:=by
 rw[aag];have:(bN cs g).map (·.1)=cs.map kI:=by unfold bN;rw[bw];rfl
 rw[this,pN];have go:∀l:List Nat,(∀c∈l,c∈cs)->l.filterMap (uj cs g∘kI)=(l.filter fun c=>g c !=0).map nI:=by
  intro l
  induction l with
  |nil=>intro _;rfl
  |cons a l ih=>
   intro h
   have e:(uj cs g∘kI) a=if g a≠0 then some (nI a) else none:=N7 (h a bS)
   rw[jf,gO,e,ih fun c hc=>h c (bR _ hc)]
   by_cases c:g a=0
   ·rw[if_neg (by simpa using c),if_neg (by simpa using c)]
   ·rw[if_pos c,if_pos (by simpa using c)];rfl
 exact go cs fun _ h=>h
structure Kl(l:aa)(H H':Hp):Prop where
 kp:∀b o,b≠l->Dp o=false->H b=some o->H' b=some o
 up:∀b,H' b=none->H b=none
theorem split_len:∀(k:Nat) (l:aM),(pZ k l).length<=k
 |0,_=>aI _
 |k+1,l=>by
  cases l with
  |nil=>exact du _
  |cons a l=>
   simp only[pZ]
   split
   ·exact du _
   ·rw[bH];exact HY (split_len k _)
theorem aaj(k:Nat):pZ k []=[]:=by cases k<;>rfl
structure N8(tb:cf)(us:aM)(HF:Hp)(d lc lb ls lm lg:aa)(k:Nat)(σ:L2.St)(H':Hp)(m kf:Nat)(gs:List (aa×aM))(v7:Option V):Prop where
 k:k=(MM.sel m us).length
 st:σ=[some (.ref d),some (.ref lc),some (.ref lb),some (.ref ls),some (.ref lm),some (.ref lg),some (nI m),v7,none,none]
 lt:m<2^us.length
 ie:total (MM.sel m us)=0
 fuel:(MM.sel m us).length<=kf
 qM:gs.map (·.2)++pZ kf (MM.sel m us)=pZ us.length us
 kl:Kl lg HF H'
 tab:Tab tb H'
 hg:H' lg=some (.lst (gs.map fun p=>V.ref p.1))
 gp:∀p∈gs,H' p.1=some (.lst ((p.2.map (·.1)).map nI))/\HF p.1=none/\p.1≠lg
theorem Kl.step{l:aa}{H H1 H2:Hp}(a:Kl l H H1)(b:Kt H1 H2):Kl l H H2:=⟨fun c o n t e=>b.kp c o (a.kp c o n t e) t,fun c e=>a.up c (b.up c e)⟩
theorem Kl.put{l:aa}{H H1:Hp}{o:HO}(a:Kl l H H1)(h:∃u,H1 l=some u):Kl l H (upd H1 l o):=⟨fun c u n t e=>by rw[ag n];exact a.kp c u n t e,fun c e=>by
 by_cases n:c=l
 ·rw[n,au] at e;cases e
 ·rw[ag n] at e;exact a.up c e⟩
abbrev GB:aL:=top 42
theorem gM:a9 ["nets","carriers","bits","sums","most","groups","left","places","carrier","place"] ["nets"] (aQ GB):=bo
def GC(tb:cf):Sp:=fun vs H Q _=>∃(cs:List Nat) (g:Nat->Int) (d:aa),vs=[.ref d]/\H d=some (.dK (bN cs g))/\cs.Pairwise (·<·)/\cs.length<=10/\(cs.map g).sum=0/\Tab tb H/\
 ∀H' l (gs:List (aa×aM)),Kt H H'->Tab tb H'->H l=none->H' l=some (.lst (gs.map fun p=>V.ref p.1))->gs.map (·.2)=pZ (MM.view cs g).length (MM.view cs g)->(∀p∈gs,H' p.1=some (.lst ((p.2.map (·.1)).map nI))/\H p.1=none/\p.1≠l)->Q (.ref l) H'
theorem aak{f:aa}{fd:aU}(F:aR K "part_into_groups" "part_into_groups" GB f fd)(T:Txt K mg Z)(aal:aA P w K mg base "bits_for" 1 ["count"] NU)(aam:aA P w K mg base "sums_of_sets" 1 ["amounts"] NW)(aan:aA P w K mg base "most_groups_of_sets" 1 ["sums","bits"] NX)(aao:aA P w K mg base "first_group" 2 ["left","sums","most","bits"] (Gz tb)):aN P w K mg base aT 3 f fd ["nets"] (GC tb):=by
 refine F.bA gM fun aD A0 outer s0 H vs Q E hr h=> ?_
 ·obtain⟨cs,g,d,rfl,hd,mm,h10,xk,fc,k⟩:=h;have hu:=fk hr;refine⟨rfl,_,(aw (aP (i:=1) gM.nd rfl (.inr rfl) (cC (VN (K:=K)) (by rfl) T.Ea MF (ae (Ka (eW (own:=[("carrier",8)]) rfl gM.nd (TU (pv 0)) (dD rfl) (fun _ _ _ _ _=>by exact(bU (i:=8) gM.nd rfl (.inl rfl))) (fun _ _ _ _ _=>by exact(gF (bb lW (fR hu (pv 0) (pv 8) (fun _ _=>rfl)) ay (aZ _)))) (fun _ _ _ _ _=>by exact(pv 8)))) ai)))
   (aw (aP (i:=2) gM.nd rfl (.inr rfl) (aX aal hr (by decide) rfl (ae (cC (fT (K:=K)) (by rfl) T.fm fE (ae (pv 1) ai)) ai)))
   (aw (aP (i:=3) gM.nd rfl (.inl rfl) (aX aam hr (by decide) rfl (ae (eW (own:=[("carrier",8)]) rfl gM.nd (dh (K:=K) (pv 1)) (dD rfl) (fun _ _ _ _ _=>by exact(bU (i:=8) gM.nd rfl (.inl rfl))) (fun _ _ _ _ _=>by exact iJ) (fun _ _ _ _ _=>by exact(fR hu (pv 0) (pv 8) (fun _ _=>rfl)))) ai)))
   (aw (aP (i:=4) gM.nd rfl (.inl rfl) (aX aan hr (by decide) rfl (ae (pv 3) (ae (pv 2) ai))))
   (aw (aP (i:=5) gM.nd rfl (.inl rfl) (a7 ai))
   (aw (aP (i:=6) gM.nd rfl (.inl rfl) (cC (jy (K:=K) rfl) (by rfl) T.jC jB (ae (pv 2) ai)))
   (aw (vf fX (bb lW (pv 6) ay (aZ _))
   (aw (aP (i:=7) gM.nd rfl (.inl rfl) (aX aao hr (by decide) rfl (ae (pv 6) (ae (pv 3) (ae (pv 4) (ae (pv 2) ai))))))
    (aw (iX (jn ka xw xu rX (pv 5) (ae (eW (own:=[("place",9)]) rfl gM.nd (dh (K:=K) (pv 7)) (dD rfl) (fun _ _ _ _ _=>by exact(bU (i:=9) gM.nd rfl (.inl rfl))) (fun _ _ _ _ _=>by exact iJ) (fun _ _ _ _ _=>by exact(bK (cy (K:=K)) (pv 1) (pv 9) (fun _ _=>rfl)))) ai)))
    (ax (BK (i:=6) gM.nd rfl (.inl rfl) (cC (jy (K:=K) rfl) (by rfl) T.jC jB (ae (eW (own:=[("place",9)]) rfl gM.nd (dh (K:=K) (pv 7)) (dD rfl) (fun _ _ _ _ _=>by exact(bU (i:=9) gM.nd rfl (.inl rfl))) (fun _ _ _ _ _=>by exact iJ) (fun _ _ _ _ _=>by exact(bK (cy (K:=K)) (pv 2) (pv 9) (fun _ _=>rfl)))) ai)) Rj)))))
   (ax (aF (pv 5)))))))))),?_⟩
  have vl:=Ay cs g;have u10:(MM.view cs g).length<=10:=by omega
  refine⟨d,_,hd,p9,fun od=> ?_⟩;have fz:(upd H d (.bF od (.dK (bN cs g)))) d=some (.bF od (.dK (bN cs g))):=au;refine⟨_,rfl,d,od,rfl,.inl ⟨_,fz,fun D hD=>Vy (uj cs g) hD fz (by rw[mE];exact dk (by omega)) (fun i H2 kk x R R0 hk s2 r1 r2=> ?_) (fun H2 s2 hd2=> ?_)⟩⟩
  ·obtain⟨c,hc,e1⟩:=cg hk;cases e1;have eA:=bP hc;refine⟨rfl,?_⟩;have hg:bj H2 d (nI c) (some (.int (g c))):=by rw[<-ij eA];exact .inl ⟨_,kI c,.inr ⟨_,s2 _ _ fz⟩,rfl,rfl⟩
   refine⟨_,rfl,_,rfl,d,_,rfl,hg,rfl,!decide (g c=0),?_,?_⟩
   ·show V.bl (!decide (V.int (g c)=V.int 0))=_
    congr 2
    exact decide_eq_decide.mpr ⟨fun z=>by injection z,fun z=>by rw[z]⟩
   rw[N7 eA] at r1 r2;by_cases c1:g c=0
   ·rw[decide_eq_true c1];exact ba (r2 _ (if_neg (by simpa using c1)) (af.refl _))
   ·rw[decide_eq_false c1];exact a8 ⟨_,rfl,r1 _ _ (if_pos c1) (af.refl _)⟩
  ·rw[aai] at hd2;refine⟨s2 _ _ fz,?_⟩;have sA:af H (upd H2 d (.dK (bN cs g))):=Ac hd s2;have nDd:D≠d:=fun z=>by rw[z,fz] at hD;cases hD
   have aap:(upd H2 d (.dK (bN cs g))) D=some (.lst ((MM.ints ((MM.view cs g).map (·.1))).map V.int)):=by rw[ag nDd,hd2,eY]
   have dA:(upd H2 d (.dK (bN cs g))) d=some (.dK (bN cs g)):=au;revert sA aap dA;generalize upd H2 d (.dK (bN cs g))=HA;intro sA N9 dA;have GD:=De (g:=g) mm;have Oa:total (MM.view cs g)=0:=by rw[MM.C7];exact xk
   have vs2:=aah cs g;have vm:=fun p=>GA (cs:=cs) (g:=g) (p:=p);generalize hus:MM.view cs g=us at N9 u10 GD Oa vs2 vm k vl;have hso:(MM.ints (us.map (·.1))).Pairwise (·<=·):=by
    unfold MM.ints;rw[gN,gN];exact GD.imp fun h=>by omega
   refine⟨D,MM.ints (us.map (·.1)),rfl,ah.of N9,(by unfold MM.ints;rw[ao,ao];omega),fun eN lc pm so qS=> ?_⟩;have en:=FN pm so hso;subst en;have sB:af HA _:=af.new (o:= .lst ((MM.ints (us.map (·.1))).map V.int)) qS;have Az:(upd HA lc (.lst ((MM.ints (us.map (·.1))).map V.int))) lc=some (.lst ((us.map (·.1)).map nI)):=by rw[au,eY]
   have dB:=sB _ _ dA;revert sB Az dB;generalize upd HA lc (.lst ((MM.ints (us.map (·.1))).map V.int))=HB;intro sB Az dB;have sHB:=sA.trans sB;refine⟨_,rfl,lc,_,rfl,.inl (ah.of Az),us.length,(by rw[ao,ao];rfl),u10,fun HC lb sC DF hdC=> ?_⟩;have GF:=sC _ _ Az;have dC:=sC _ _ dB;refine⟨_,rfl,lc,rfl,⟨_,ah.of GF⟩,fun D2 fV=>fF (fun i=>(us[i]?).bind fun p=>some (V.int p.2)) fV (ah.of GF) (by rw[ao,ao];exact dk (by omega)) (fun i H3 v R R0 hv s3 r1 r2=> ?_) (fun H3 s3 dn=> ?_)⟩
   ·obtain⟨c,hc,rfl⟩:=cg hv;obtain⟨p,hp,rfl⟩:=cg hc;obtain⟨m1,m2,m3⟩:=vm p (bP hp);rw[hp] at r1;have hg:bj H3 d (nI p.1) (some (.int (g p.1))):=by rw[<-ij m1];exact bj.k (k:=kI p.1) (s3 _ _ dC)
    exact⟨rfl,iP ⟨_,rfl,_,rfl,d,_,rfl,hg,r1 _ _ (by show some (V.int p.2)=_;rw[m2]) (af.refl _)⟩⟩
   ·rw[ao,ao,eQ,mG _ (fun(p:Nat×Int)=>V.int p.2) (fun _ _=>rfl)] at dn;have Gf:H3 D2=some (.lst ((us.map (·.2)).map V.int)):=by rw[dn,bw];rfl
    refine⟨us,D2,rfl,Gf,u10,fun HD ls sD wu qk=> ?_⟩;have sHD:=((sHB.trans sC).trans s3).trans sD;have qP:=sD _ _ (s3 _ _ hdC);have BW:=sD _ _ (s3 _ _ GF);refine⟨_,rfl,_,rfl,us,ls,lb,rfl,qk,qP,u10,fun HE lm sE hlm Ob=> ?_⟩;have sHE:=sHD.trans sE;have GG:=sE _ _ qP;have Oc:=sE _ _ BW;have Od:=sE _ _ qk;refine⟨by show 0<=sizeLine;decide,fun lg iR=> ?_⟩;have sF:af HE _:=af.new (o:= .lst []) iR;have ue:(upd HE lg (.lst [])) lb=some (.lst ((MM.ints (bitsOf us.length)).map V.int)):=by rw[sF _ _ GG,eY]
    refine⟨_,rfl,lb,_,rfl,ah.of ue,?_⟩;rw[MM.sum_ints,N6];have p1:1<=2^us.length:=PH;have p2:=tJ u10;have TF:Tab tb (upd HE lg (.lst [])):=Tab.same sF (Tab.same sHE fc);have sfull:MM.sel (2^us.length-1) us=us:=MM.Lm us;have Oe:=sF _ _ Od;have Of:=sF _ _ Ob;have Og:=sF _ _ GG;have Oh:=sF _ _ Oc;have lgH:H lg=none:=(Kt.of sHE).up _ iR;have sHF:=sHE.trans sF;have Oi:(upd HE lg (.lst [])) lg=some (.lst []):=au;have nls:ls≠lg:=aV Od iR;have nlm:lm≠lg:=aV Ob iR;have nlb:lb≠lg:=aV GG iR;have nlc:lc≠lg:=aV Oc iR;generalize upd HE lg (.lst [])=HF at Oi TF Oe Of Og Oh sHF;refine⟨fun kk σ H'=>∃m kf gs v7,N8 tb us HF d lc lb ls lm lg kk σ H' m kf gs v7,⟨us.length,2^us.length-1,us.length,[],none,by rw[sfull],rfl,by omega,by rw[sfull];exact Oa,by rw[sfull];exact aI _,by rw[sfull];rfl,⟨fun b o n _ e=>e,fun b e=>e⟩,TF,Oi,fun p hp=>by cases hp⟩,?_⟩;rintro kk σ H' ⟨m,kf,gs,v7,W⟩;have est:=W.st;subst est;refine⟨_,rfl,rfl,!decide (m=0),?_,?_⟩
    ·show V.bl (!decide (nI m=V.int 0))=_
     congr 2
     exact decide_eq_decide.mpr ⟨fun z=>by injection z with z;omega,fun z=>by rw[z];rfl⟩
    by_cases c0:m=0
    ·rw[decide_eq_true c0];refine ba ⟨_,rfl,?_⟩;have esp:=W.qM;rw[c0,MM.CV,aaj,uK] at esp;refine k H' lg gs ⟨fun b o e t=>W.kl.kp b o (aV e lgH) t (sHF _ _ e),fun b e=>(Kt.of sHF).up b (W.kl.up b e)⟩ W.tab lgH W.hg esp fun p hp=> ?_;obtain⟨a1,a2,a3⟩:=W.gp p hp;exact⟨a1,(Kt.of sHF).up _ a2,a3⟩
    ·rw[decide_eq_false c0];have hs':=W.kl.kp _ _ nls rfl Oe;have hm':=W.kl.kp _ _ nlm rfl Of;have hb':=W.kl.kp _ _ nlb rfl Og;have hc':=W.kl.kp _ _ nlc rfl Oh;refine a8 ⟨fun σ2 H2=>∃k',k'<kk/\∃m kf gs v7,N8 tb us HF d lc lb ls lm lg k' σ2 H2 m kf gs v7,fun σ2 H2 ⟨k',h1,h2⟩=>⟨k',h1,h2⟩,?_⟩;refine⟨_,rfl,_,rfl,_,rfl,_,rfl,us,m,ls,lm,lb,rfl,hs',hm',hb',u10,W.lt,c0,W.ie,W.tab,fun H4 lp c i ps k4 T4 fU hp hc vW eJ=> ?_⟩;have sub:=MM.sS us hc.sub;have cle:=MM.Sub.le c (aI _) hc.sub;have clt:c<2^us.length:=by have:=W.lt;omega
     have cpl:∀j∈MM.places c us.length,j<us.length:=fun j hj=>(MM.sQ hj).1;have pl10:(MM.places c us.length).length<=10:=by
      unfold MM.places;refine dr (lA _ _) ?_;rw[xI];exact u10
     have GI:=k4.kp _ _ W.hg rfl;have hc4:=k4.kp _ _ hc' rfl;have hb4:=k4.kp _ _ hb' rfl;have nlp:lp≠lg:=fun z=>by rw[z,W.hg] at fU;cases fU
     refine⟨_,rfl,.inl ⟨rfl,_,ah.of GI⟩,_,rfl,lp,rfl,⟨_,ah.of eJ⟩,fun D3 pE=>fF (fun j=>((MM.places c us.length)[j]?).bind fun a=>some (nI (MM.mh us a))) pE (ah.of eJ) (by rw[ao];exact dk (by omega)) (fun j H5 v R R0 hv s5 r1 r2=> ?_) (fun H5 s5 mF=> ?_)⟩
     ·obtain⟨a,ha,rfl⟩:=cg hv;have AA:=cpl a (bP ha);rw[ha] at r1;refine⟨rfl,iP ⟨_,rfl,_,rfl,lc,_,_,_,rfl,rfl,ah.of (s5 _ _ hc4),bL (j:=a) ?_,r1 _ _ rfl (af.refl _)⟩⟩;rw[aS,aS,cE AA,MM.zf AA]
      rfl
     ·rw[ao,eQ,mG _ (fun a=>nI (MM.mh us a)) (fun _ _=>rfl)] at mF;have aau:H5 D3=some (.lst (((MM.sel c us).map (·.1)).map nI)):=by rw[mF,MM.C1,bw];rfl
      have GJ:=s5 _ _ GI;have nD3:D3≠lg:=fun z=>by rw[z,GI] at pE;cases pE
      have gl:gs.length<=10:=by
       have h1:=congrArg iV W.qM;rw[dJ,ao] at h1;have h2:=split_len us.length us;omega
      refine⟨lg,_,_,rfl,rfl,GJ,(by rw[ao];exact dk (by omega)),?_⟩;have GK:(upd H5 lg (.lst (gs.map (fun p=>V.ref p.1)++[.ref D3]))) lp=some (.lst ((MM.places c us.length).map nI)):=by rw[ag nlp];exact s5 _ _ eJ
      have Oj:(upd H5 lg (.lst (gs.map (fun p=>V.ref p.1)++[.ref D3]))) lb=some (.lst ((bitsOf us.length).map nI)):=by rw[ag nlb];exact s5 _ _ hb4
      have KL5:Kl lg HF (upd H5 lg (.lst (gs.map (fun p=>V.ref p.1)++[.ref D3]))):=((W.kl.step k4).step (Kt.of s5)).put ⟨_,GJ⟩;have T5:Tab tb (upd H5 lg (.lst (gs.map (fun p=>V.ref p.1)++[.ref D3]))):=(Tab.same s5 T4).keep fun b o e q=>by rw[ag (cv e GJ (by rintro rfl;exact nomatch q.2))];exact e
      have Ol:(upd H5 lg (.lst (gs.map (fun p=>V.ref p.1)++[.ref D3]))) lg=some (.lst ((gs++[(D3,MM.sel c us)]).map fun p=>V.ref p.1)):=by rw[au,cZ];rfl
      have qk:(upd H5 lg (.lst (gs.map (fun p=>V.ref p.1)++[.ref D3]))) D3=some (.lst (((MM.sel c us).map (·.1)).map nI)):=by rw[ag nD3];exact aau
      have gp6:∀p∈gs,(upd H5 lg (.lst (gs.map (fun p=>V.ref p.1)++[.ref D3]))) p.1=some (.lst ((p.2.map (·.1)).map nI)):=fun p hp=>by
       obtain⟨a1,a2,a3⟩:=W.gp p hp;rw[ag a3];exact s5 _ _ (k4.kp _ _ a1 rfl)
      have D3F:HF D3=none:=(W.kl.step k4).up _ pE;generalize upd H5 lg (.lst (gs.map (fun p=>V.ref p.1)++[.ref D3]))=H6 at GK Oj KL5 T5 Ol qk gp6;refine⟨_,rfl,_,rfl,lp,rfl,⟨_,ah.of GK⟩,fun D4 hD4=>fF (fun j=>((MM.places c us.length)[j]?).bind fun a=>some (nI (2^a))) hD4 (ah.of GK) (by rw[ao];exact dk (by omega)) (fun j H7 v R R0 hv s7 r1 r2=> ?_) (fun H7 s7 dZ=> ?_)⟩
      ·obtain⟨a,ha,rfl⟩:=cg hv;have AA:=cpl a (bP ha);rw[ha] at r1;exact⟨rfl,iP ⟨_,rfl,_,rfl,lb,_,_,_,rfl,rfl,ah.of (s7 _ _ Oj),bL (j:=a) (by rw[aS,xf AA];rfl),r1 _ _ rfl (af.refl _)⟩⟩
      ·rw[ao,eQ,mG _ (fun a=>nI (2^a)) (fun _ _=>rfl)] at dZ;have aaw:H7 D4=some (.lst ((MM.ints ((MM.places c us.length).map fun a=>2^a)).map V.int)):=by rw[dZ,<-eY,bw];rfl
       refine⟨D4,_,rfl,ah.of aaw,?_⟩;rw[MM.sum_ints,N5 us.length c clt];refine⟨_,_,rfl,rfl,?_⟩;obtain⟨kf',rfl⟩:∃kf',kf=kf'+1:=by
        cases kf with
        |zero=>
         have:=W.fuel
         have h2:=MM.vU us m W.lt c0
         exact absurd (eB.mp (by omega)) h2
        |succ kf'=>exact⟨kf',rfl⟩
       have ss:=MM.Vb GD W.lt hp W.ie hc vW W.fuel;have wlen:=sub.len;have wtot:=sub.total;have lQ:MM.sel c us≠[]:=MM.vU us c clt (fun z=>by have:=hc.has;rw[z,afu] at this;cases this);have d4:=Hz.mpr lQ;have es:((m:Int)-(c:Int))=((m-c:Nat):Int):=by omega
       refine⟨(MM.sel (m-c) us).length,(by rw[W.k];omega),m-c,kf',gs++[(D3,MM.sel c us)],some (.ref lp),rfl,?_,(by have:=W.lt;omega),(by have:=W.ie;have:=hc.zero;omega),(by have:=W.fuel;omega),?_,KL5.step (Kt.of s7),Tab.same s7 T5,s7 _ _ Ol,fun p hp=> ?_⟩
       ·show _=[some (.ref d),some (.ref lc),some (.ref lb),some (.ref ls),some (.ref lm),some (.ref lg),some (V.int ((m-c:Nat):Int)),some (.ref lp),none,none];rw[<-es]
        rfl
       ·have:=W.qM;rw[ss] at this;rw[cZ,xK];exact this
       ·rcases ff.mp hp with hp|hp
        ·obtain⟨a1,a2,a3⟩:=W.gp p hp;exact⟨s7 _ _ (gp6 p hp),a2,a3⟩
        ·rw[ik.mp hp];exact⟨s7 _ _ qk,D3F,nD3⟩
open PySem PySem.Spec PyProof.Rows L2
open Vbahak (State Carrier Part Ticket Nets total Pay)
theorem xl:∀(k:Nat) (l:aM),(mS k l).length<=k
 |0,_=>aI _
 |k+1,l=>by
  simp only[mS];split
  ·rw[bH];exact HY (xl k _)
  ·exact du _
theorem Om{l:List Nat}{a:Nat}{r:List Nat}{M:Int}(h:l.Pairwise (·<·))(e:l=a::r)(hm:M∈MM.ints l)(hl:∀y∈MM.ints l,M<=y):M=(a:Int):=by
 obtain⟨m,hm',rfl⟩:=bh.mp hm;rw[MM.Vi h e hm' fun x hx=>by have:=hl (x:Int) (iS hx);omega]
theorem aax{l:List Nat}(h:l.Pairwise (·<·)):l.Nodup:=h.imp fun h=>cW h
structure Oo(g cs:List Nat)(f:Nat->Int)(H:Hp)(lg d dl lp:aa)(k:Nat)(σ:L2.St)(H':Hp)(h:Nat->Int)(kf:Nat)(ps:List (aa×Pay))(lq:aa)(v5 v6 v7:Option V):Prop where
 k:k=(MM.view g h).length
 st:σ=[some (.ref lg),some (.ref d),some (.ref dl),some (.ref lp),some (.ref lq),v5,v6,v7,none]
 fuel:(MM.view g h).length<=kf
 sm:af H H'
 hd:H' dl=some (.dK (bN cs h))
 hp:H' lp=some (.lst (ps.map fun p=>V.ref p.1))
 pa:oj H' ps
 hq:H' lq=some (.lst ((g.filter fun c=>decide (h c<0)).map nI))
 nq:lq≠dl/\lq≠lp
 sum:(g.map h).sum=0
 Oq:ps.map (·.2)++mS kf (MM.view g h)=mS (MM.view g f).length (MM.view g f)
 new:∀p∈ps,H p.1=none
abbrev GL:aL:=top 43
theorem j6:a9 ["group","nets","left","payments","payers","payer","getter","amount","carrier"] ["group","nets"] (aQ GL):=bo
def Ot:Sp:=fun vs H Q _=>∃(g cs:List Nat) (f:Nat->Int) (lg d:aa),vs=[.ref lg,.ref d]/\H lg=some (.lst (g.map nI))/\H d=some (.dK (bN cs f))/\g.Pairwise (·<·)/\(∀c∈g,c∈cs)/\g.length<=10/\cs.length<=10/\(g.map f).sum=0/\
 ∀H' l (ps:List (aa×Pay)),af H H'->H l=none->H' l=some (.lst (ps.map fun p=>V.ref p.1))->oj H' ps->ps.map (·.2)=mS (MM.view g f).length (MM.view g f)->(∀p∈ps,H p.1=none)->Q (.ref l) H'
theorem aay{fa:aa}{fd:aU}(F:aR K "payments_in_group" "payments_in_group" GL fa fd)(T:Txt K mg Z):aN P w K mg base aT 1 fa fd ["group","nets"] Ot:=by
 refine F.bA j6 fun aD A0 outer s0 H vs Q E hr h=> ?_
 ·obtain⟨g,cs,f,lg,d,rfl,iR,hd,mm,j0,g10,c10,xk,kk⟩:=h;have hu:=fk hr;refine⟨rfl,_,(aw (aP (i:=2) j6.nd rfl (.inr rfl) (Jv VE (by rfl) T.XC Xu (ae (pv 1) ai)))
   (aw (aP (i:=3) j6.nd rfl (.inl rfl) (a7 ai))
   (aw (nh (i:=4) (own:=[("carrier",8)]) rfl j6.nd rfl rfl (nj rfl rfl rfl (by decide+kernel)) (dh (K:=K) (pv 0)) (dD rfl) (fun _ _ _ _ _=>by exact(bU (i:=8) j6.nd rfl (.inl rfl))) (fun _ _ _ _ _=>by exact(gF (bb rR (fR hu (pv 2) (pv 8) (fun _ _=>rfl)) ay (aZ _)))) (fun _ _ _ _ _=>by exact(pv 8)))
   (aw (vf fX (bb vj (cC (fT (K:=K)) (by rfl) T.fm fE (ae (pv 4) ai)) ay (aZ _))
   (aw (aP (i:=5) j6.nd rfl (.inl rfl) (cC (LR (K:=K) rfl) (by rfl) T.zW D6 (ae (pv 4) ai)))
    (aw (aP (i:=6) j6.nd rfl (.inl rfl) (cC (LR (K:=K) rfl) (by rfl) T.zW D6 (ae (eW (own:=[("carrier",8)]) rfl j6.nd (dh (K:=K) (pv 0)) (dD rfl) (fun _ _ _ _ _=>by exact(bU (i:=8) j6.nd rfl (.inl rfl))) (fun _ _ _ _ _=>by exact(gF (bb vj (fR hu (pv 2) (pv 8) (fun _ _=>rfl)) ay (aZ _)))) (fun _ _ _ _ _=>by exact(pv 8))) ai)))
    (aw (aP (i:=7) j6.nd rfl (.inl rfl) (cC (RC rfl) (by rfl) T.zW D6 (ae (IW IX (fR hu (pv 2) (pv 5) (fun _ _=>rfl))) (ae (fR hu (pv 2) (pv 6) (fun _ _=>rfl)) ai))))
    (aw (iX (jn ka xw xu rX (pv 3) (ae (oU (ae (pv 5) (ae (pv 6) (ae (pv 7) ai)))) ai)))
    (aw (r9 hu (pv 2) (pv 5) (pv 7) rT (fun _ _ _=>rfl))
    (aw (r9 hu (pv 2) (pv 6) (pv 7) B0 (fun _ _ _=>rfl))
    (ax (nh (i:=4) (own:=[("carrier",8)]) rfl j6.nd rfl rfl (nj rfl rfl rfl (by decide+kernel)) (dh (K:=K) (pv 0)) (dD rfl) (fun _ _ _ _ _=>by exact(bU (i:=8) j6.nd rfl (.inl rfl))) (fun _ _ _ _ _=>by exact(gF (bb rR (fR hu (pv 2) (pv 8) (fun _ _=>rfl)) ay (aZ _)))) (fun _ _ _ _ _=>by exact(pv 8)))))))))))
   (ax (aF (pv 3))))))),?_⟩
  refine⟨_,rfl,d,_,rfl,.inl hd,fun dl Ou=> ?_⟩;have s1:af H _:=af.new (o:= .dK (bN cs f)) Ou;refine⟨by show 0<=sizeLine;decide,fun lp fU=> ?_⟩;have s2:af (upd H dl (.dK (bN cs f))) _:=af.new (o:= .lst []) fU;have cn:=s1.trans s2;have nlp:lp≠dl:=fun z=>by rw[z,au] at fU;cases fU
  have AB:(upd (upd H dl (.dK (bN cs f))) lp (.lst [])) dl=some (.dK (bN cs f)):=s2 _ _ au;have uk:(upd (upd H dl (.dK (bN cs f))) lp (.lst [])) lp=some (.lst []):=au;have lpH:H lp=none:=(Kt.of s1).up _ fU;generalize upd (upd H dl (.dK (bN cs f))) lp (.lst [])=HA at cn AB uk;refine⟨_,rfl,lg,rfl,⟨_,ah.of (cn _ _ iR)⟩,fun D hD=>fF (fun i=>(g[i]?).bind fun c=>if decide (f c<0)=true then some (nI c) else none) hD (ah.of (cn _ _ iR)) (by rw[ao];exact dk (by omega)) (fun i H2 v R R0 hv s3 r1 r2=> ?_) (fun H2 s3 dn=> ?_)⟩
  ·obtain⟨c,hc,rfl⟩:=cg hv;have eA:=j0 c (bP hc);rw[hc] at r1 r2;have hg:bj H2 dl (nI c) (some (.int (f c))):=by rw[<-ij eA];exact bj.k (k:=kI c) (s3 _ _ AB)
   refine⟨rfl,_,rfl,_,rfl,dl,_,rfl,hg,_,_,rfl,rfl,_,rfl,?_⟩;refine dG (fun c1=> ?_) (fun c1=> ?_)
   ·exact⟨_,rfl,r1 _ _ (if_pos c1) (af.refl _)⟩
   ·exact r2 _ (if_neg c1) (af.refl _)
  ·rw[ao,eQ,iQ] at dn;have dm:=cn.trans s3;have nD:D≠dl/\D≠lp:=⟨(fun z=>by rw[z,AB] at hD;cases hD),(fun z=>by rw[z,uk] at hD;cases hD)⟩;refine⟨fun k σ H'=>∃h kf ps lq v5 v6 v7,Oo g cs f H lg d dl lp k σ H' h kf ps lq v5 v6 v7,⟨(MM.view g f).length,f,(MM.view g f).length,[],D,none,none,none,rfl,rfl,aI _,dm,s3 _ _ AB,s3 _ _ uk,(fun p hp=>by cases hp),dn,nD,xk,rfl,(fun p hp=>by cases hp)⟩,?_⟩;rintro k σ H' ⟨h,kf,ps,lq,v5,v6,v7,W⟩;have est:=W.st;subst est;have fl:(g.filter fun c=>decide (h c<0)).length<=10:=dr (lA _ _) g10;refine⟨_,rfl,lq,_,rfl,.inl (ah.of W.hq),_,_,rfl,rfl,decide (0<(g.filter fun c=>decide (h c<0)).length),?_,?_⟩
   ·show V.bl (decide ((0:Int)<((((g.filter fun c=>decide (h c<0)).map nI).length:Nat):Int)))=_;rw[ao]
    congr 1
    exact decide_eq_decide.mpr (by omega)
   cases ep:g.filter (fun c=>decide (h c<0)) with
   |nil=>
    refine ba ⟨_,rfl,?_⟩
    have:=W.Oq
    rw[MM.Vc ep,uK] at this
    exact kk H' lp ps W.sm lpH W.hp W.pa this W.new
   |cons a ra=>
    have ham:a∈g.filter (fun c=>decide (h c<0)):=by rw[ep];exact bS
    obtain⟨um,AD⟩:=c9.mp ham
    have AD:h a<0:=by simpa using AD
    obtain⟨b,rb,eb⟩:=MM.Ve W.sum um AD
    have qA:b∈g.filter (fun c=>decide (0<h c)):=by rw[eb];exact bS
    obtain⟨xm,GN⟩:=c9.mp qA
    have GN:0<h b:=by simpa using GN
    have Ov:b≠a:=by rintro rfl;omega
    have hqi:H' lq=some (.lst ((MM.ints (g.filter fun c=>decide (h c<0))).map V.int)):=by rw[W.hq,eY]
    refine a8 ⟨fun σ2 H2=>∃k',k'<k/\∃h kf ps lq v5 v6 v7,Oo g cs f H lg d dl lp k' σ2 H2 h kf ps lq v5 v6 v7,fun σ2 H2 ⟨k',h1,h2⟩=>⟨k',h1,h2⟩,?_⟩
    refine⟨_,rfl,lq,_,rfl,ah.of hqi,(by unfold MM.ints;rw[ao,ep];simp),fun M hM GO=> ?_⟩
    have eM:=Om (mm.filter _) ep hM GO
    subst eM
    have Ow:=W.sm _ _ iR
    refine⟨_,rfl,lg,rfl,⟨_,ah.of Ow⟩,fun D2 fV=>fF (fun i=>(g[i]?).bind fun c=>if decide (0<h c)=true then some (nI c) else none) fV (ah.of Ow) (by rw[ao];exact dk (by omega)) (fun i H3 v R R0 hv s4 r1 r2=> ?_) (fun H3 s4 eJ=> ?_)⟩
    ·obtain⟨c,hc,rfl⟩:=cg hv
     have eA:=j0 c (bP hc)
     rw[hc] at r1 r2
     have hg:bj H3 dl (nI c) (some (.int (h c))):=by rw[<-ij eA];exact bj.k (k:=kI c) (s4 _ _ W.hd)
     refine⟨rfl,_,rfl,_,rfl,dl,_,rfl,hg,_,_,rfl,rfl,_,rfl,?_⟩
     refine dG (fun c1=> ?_) (fun c1=> ?_)
     ·exact⟨_,rfl,r1 _ _ (if_pos c1) (af.refl _)⟩
     ·exact r2 _ (if_neg c1) (af.refl _)
    ·rw[ao,eQ,iQ] at eJ
     have aaB:H3 D2=some (.lst ((MM.ints (g.filter fun c=>decide (0<h c))).map V.int)):=by rw[eJ,eY]
     refine⟨D2,_,rfl,ah.of aaB,(by unfold MM.ints;rw[ao,eb];simp),fun M hM GO=> ?_⟩
     have eM:=Om (mm.filter _) eb hM GO
     subst eM
     have dn:=s4 _ _ W.hd
     have ga:bj H3 dl (nI a) (some (.int (h a))):=by rw[<-ij (j0 a um)];exact bj.k (k:=kI a) dn
     have gb:bj H3 dl (nI b) (some (.int (h b))):=by rw[<-ij (j0 b xm)];exact bj.k (k:=kI b) dn
     refine⟨_,rfl,_,rfl,dl,_,rfl,ga,_,rfl,_,rfl,_,rfl,dl,_,rfl,gb,_,_,rfl,?_⟩
     have en:(if h b< -(h a) then h b else-(h a))=min (-(h a)) (h b):=by
      by_cases q:h b< -(h a)
      ·rw[if_pos q];omega
      ·rw[if_neg q];omega
     rw[en]
     have npos:0<min (-(h a)) (h b):=by omega
     have enat:((min (-(h a)) (h b)).toNat:Int)=min (-(h a)) (h b):=by omega
     have j5:=MM.Vd (k:=kf-1) ep eb
     have cz:=MM.Vg (f:=h) um xm AD GN
     have GP:=MM.Vf (f:=h) (n:=min (-(h a)) (h b)) (aax mm) um xm Ov
     have hlen:0<(MM.view g h).length:=by omega
     have kfs:kf-1+1=kf:=by have:=W.fuel;omega
     rw[kfs] at j5
     have xn:=W.Oq
     rw[j5] at xn
     have epaid:MM.paid h a b (min (-(h a)) (h b))=MM.eF (MM.eF h a (h a+min (-(h a)) (h b))) b (h b-min (-(h a)) (h b)):=rfl
     revert j5 cz GP xn epaid
     generalize hN:min (-(h a)) (h b)=N at npos enat
     intro j5 cz GP xn epaid
     have ua:=s4 _ _ W.hp
     have psl:ps.length<=10:=by
      have h1:=congrArg iV xn;rw[dJ,ao] at h1;have h2:=xl (MM.view g f).length (MM.view g f);have h3:=Ay g f;omega
     refine⟨_,rfl,.inl ⟨rfl,_,ah.of ua⟩,_,rfl,_,rfl,_,rfl,by show 3<=sizeLine;decide,fun t ht=> ?_⟩
     have sT:af H3 _:=af.new (o:= .tup [V.int (a:Int),V.int (b:Int),V.int N]) ht
     have hpT:=sT _ _ ua
     have AE:=sT _ _ dn
     have nt:t≠dl/\t≠lp:=⟨(fun z=>by rw[z,dn] at ht;cases ht),(fun z=>by rw[z,ua] at ht;cases ht)⟩
     have tH:H t=none:=(Kt.of (W.sm.trans s4)).up _ ht
     refine⟨lp,_,_,rfl,rfl,hpT,(by rw[ao];exact dk (by omega)),?_⟩
     have Ox:(upd (upd H3 t (.tup [V.int (a:Int),V.int (b:Int),V.int N])) lp (.lst (ps.map (fun p=>V.ref p.1)++[.ref t]))) dl=some (.dK (bN cs h)):=by rw[ag nlp.symm];exact AE
     have gaU:bj (upd (upd H3 t (.tup [V.int (a:Int),V.int (b:Int),V.int N])) lp (.lst (ps.map (fun p=>V.ref p.1)++[.ref t]))) dl (nI a) (some (.int (h a))):=by rw[<-ij (j0 a um)];exact bj.k (k:=kI a) Ox
     refine⟨_,rfl,_,rfl,dl,_,rfl,gaU,_,rfl,_,_,rfl,rfl,_,gj.k (k:=kI a) Ox (by rw[mE];exact eO (by omega)),?_⟩
     rw[t9 (j0 a um)]
     have gbU:bj (upd (upd (upd H3 t (.tup [V.int (a:Int),V.int (b:Int),V.int N])) lp (.lst (ps.map (fun p=>V.ref p.1)++[.ref t]))) dl (.dK (bN cs (MM.eF h a (h a+N))))) dl (nI b) (some (.int (h b))):=by
      have:MM.eF h a (h a+N) b=h b:=MM.kO Ov;rw[<-this,<-ij (j0 b xm)];exact bj.k (k:=kI b) au
     refine⟨_,rfl,_,rfl,dl,_,rfl,gbU,_,rfl,_,_,rfl,rfl,_,gj.k (k:=kI b) au (by rw[mE];exact eO (by omega)),?_⟩
     rw[t9 (j0 b xm),yb,<-epaid]
     have sX:∀c o,c≠lp->c≠dl->H3 c=some o->(upd (upd (upd H3 t (.tup [V.int (a:Int),V.int (b:Int),V.int N])) lp (.lst (ps.map (fun p=>V.ref p.1)++[.ref t]))) dl (.dK (bN cs (MM.paid h a b N)))) c=some o:=fun c o n1 n2 e=>by
      rw[ag n2,ag n1];exact sT _ _ e
     have AF:(upd (upd (upd H3 t (.tup [V.int (a:Int),V.int (b:Int),V.int N])) lp (.lst (ps.map (fun p=>V.ref p.1)++[.ref t]))) dl (.dK (bN cs (MM.paid h a b N)))) dl=some (.dK (bN cs (MM.paid h a b N))):=au
     have GQ:(upd (upd (upd H3 t (.tup [V.int (a:Int),V.int (b:Int),V.int N])) lp (.lst (ps.map (fun p=>V.ref p.1)++[.ref t]))) dl (.dK (bN cs (MM.paid h a b N)))) lp=some (.lst (ps.map (fun p=>V.ref p.1)++[.ref t])):=by rw[ag nlp,au]
     have Oy:(upd (upd (upd H3 t (.tup [V.int (a:Int),V.int (b:Int),V.int N])) lp (.lst (ps.map (fun p=>V.ref p.1)++[.ref t]))) dl (.dK (bN cs (MM.paid h a b N)))) t=some (.tup [V.int (a:Int),V.int (b:Int),V.int N]):=by rw[ag nt.1,ag nt.2,au]
     generalize upd (upd (upd H3 t (.tup [V.int (a:Int),V.int (b:Int),V.int N])) lp (.lst (ps.map (fun p=>V.ref p.1)++[.ref t]))) dl (.dK (bN cs (MM.paid h a b N)))=HX at sX AF GQ Oy
     have sHX:af H HX:=fun c o e=>sX c o (aV e lpH) (aV e Ou) (s4 _ _ (W.sm _ _ e))
     have Oz:=sHX _ _ iR
     refine⟨_,rfl,lg,rfl,⟨_,ah.of Oz⟩,fun D5 xo=>fF (fun i=>(g[i]?).bind fun c=>if decide (MM.paid h a b N c<0)=true then some (nI c) else none) xo (ah.of Oz) (by rw[ao];exact dk (by omega)) (fun i H6 v R R0 hv s6 r1 r2=> ?_) (fun H6 s6 j2=> ?_)⟩
     ·obtain⟨c,hc,rfl⟩:=cg hv
      have eA:=j0 c (bP hc)
      rw[hc] at r1 r2
      have hg:bj H6 dl (nI c) (some (.int (MM.paid h a b N c))):=by rw[<-ij eA];exact bj.k (k:=kI c) (s6 _ _ AF)
      refine⟨rfl,_,rfl,_,rfl,dl,_,rfl,hg,_,_,rfl,rfl,_,rfl,?_⟩
      refine dG (fun c1=> ?_) (fun c1=> ?_)
      ·exact⟨_,rfl,r1 _ _ (if_pos c1) (af.refl _)⟩
      ·exact r2 _ (if_neg c1) (af.refl _)
     ·rw[ao,eQ,iQ] at j2
      refine⟨(MM.view g (MM.paid h a b N)).length,(by rw[W.k];exact cz),MM.paid h a b N,kf-1,ps++[(t,⟨a,b,N.toNat⟩)],D5,_,_,_,rfl,rfl,(by have:=W.fuel;omega),sHX.trans s6,s6 _ _ AF,(by rw[s6 _ _ GQ,cZ];rfl),(fun p hp=> ?_),j2,⟨(fun z=>by rw[z,AF] at xo;cases xo),(fun z=>by rw[z,GQ] at xo;cases xo)⟩,(by rw[GP];exact W.sum),(by rw[cZ,xK];exact xn),(fun p hp=> ?_)⟩
      ·rcases ff.mp hp with hp|hp
       ·have GR:=W.pa p hp
        exact s6 _ _ (sX _ _ (cv GR W.hp (by simp)) (cv GR W.hd (by simp)) (s4 _ _ GR))
       ·rw[ik.mp hp]
        show H6 t=some (.tup [nI a,nI b,V.int ((N.toNat:Nat):Int)])
        rw[enat]
        exact s6 _ _ Oy
      ·rcases ff.mp hp with hp|hp
       ·exact W.new p hp
       ·rw[ik.mp hp];exact tH
open PySem PySem.Spec PyProof.Rows L2
open Vbahak (State Carrier Part Ticket Nets total Pay)
theorem AG:∀(k:Nat) (l:aM) (x:aM),x∈pZ k l->x.Sublist l/\total x=0
 |0,_,_,h=>by cases h
 |k+1,l,x,h=>by
  cases l with
  |nil=>cases h
  |cons a l=>
   simp only[pZ] at h
   split at h
   ·cases h
   ·rename_i p hp
    have hm:=MM.C2 hp
    obtain⟨c,r⟩:=p
    obtain⟨d,rfl,w,t⟩:=MM.y9.mp (c9.mp hm).1
    rcases b0.mp h with rfl|h
    ·exact⟨List.Sublist.cons₂ _ w.yZ,t⟩
    ·obtain⟨h1,h2⟩:=AG k r x h
     exact⟨(h1.trans w.UX).cons _,h2⟩
theorem aaD{cs:List Nat}{f:Nat->Int}{x:aM}(h:x.Sublist (MM.view cs f)):MM.view (x.map (·.1)) f=x:=MM.Vh fun p hp=>by
 obtain⟨_,h2,h3⟩:=GA (h.subset hp);exact⟨h2,h3⟩
theorem OA{s:State}(g:MM.Good s)(g2:MM.Good2 s):((MM.nums s).map (MM.ib s)).sum=0:=MM.LJ (MM.LK g) fun x hx=>by
 obtain⟨k1,k2⟩:=g2.cls x (c9.mp hx).1;exact⟨MM.nN.mpr k1,MM.nN.mpr k2⟩
abbrev GS:aL:=top 44
theorem GU:a9 ["nets","payments","group"] ["nets"] (aQ GS):=bo
def AH(tb:cf):Sp:=fun vs H Q _=>∃(cs:List Nat) (f:Nat->Int) (d:aa),vs=[.ref d]/\H d=some (.dK (bN cs f))/\cs.Pairwise (·<·)/\cs.length<=10/\(cs.map f).sum=0/\Tab tb H/\
 ∀H' l (ps:List (aa×Pay)),Kt H H'->Tab tb H'->H l=none->H' l=some (.lst (ps.map fun p=>V.ref p.1))->oj H' ps->ps.map (·.2)=gQ (cs.map fun c=>(c,f c))->ps.length<=100->Q (.ref l) H'
theorem aaE{fa:aa}{fd:aU}(F:aR K "plan_payments" "plan_payments" GS fa fd)(T:Txt K mg Z)(aaF:aA P w K mg base "part_into_groups" 3 ["nets"] (GC tb))(aaG:aA P w K mg base "payments_in_group" 1 ["group","nets"] Ot):aN P w K mg base aT 4 fa fd ["nets"] (AH tb):=by
 refine F.bA GU fun aD A0 outer s0 H vs Q E hr h=> ?_
 ·obtain⟨cs,f,d,rfl,hd,mm,c10,xk,fc,k⟩:=h;refine⟨rfl,_,(aw (aP (i:=1) GU.nd rfl (.inl rfl) (a7 ai))
   (aw (iF fX rfl (dh (K:=K) (aX aaF hr (by decide) rfl (ae (pv 0) ai))) (bU (i:=2) GU.nd rfl (.inl rfl))
   (ax (iX (jn ka uw uv rY (pv 1) (ae (aX aaG hr (by decide) rfl (ae (pv 2) (ae (pv 0) ai))) ai)))))
   (ax (aF (pv 1))))),?_⟩
  refine⟨by show 0<=sizeLine;decide,fun lp fU=> ?_⟩;have s1:af H _:=af.new (o:= .lst []) fU;refine⟨_,rfl,cs,f,d,rfl,s1 _ _ hd,mm,c10,xk,Tab.same s1 fc,fun H1 la gs k1 T1 fo fS kR qR=> ?_⟩;have kH1:=(Kt.of s1).trans k1;have hd':=kH1.kp _ _ hd rfl;have OB:H1 lp=some (.lst []):=k1.kp _ _ au rfl;have nla:la≠lp:=fun z=>by rw[z,au] at fo;cases fo
  have gl:gs.length<=10:=by
   have h1:=congrArg iV kR;rw[ao] at h1;have h2:=split_len (MM.view cs f).length (MM.view cs f);have h3:=Ay cs f;omega
  have gm:∀p∈gs,p.2.Sublist (MM.view cs f)/\total p.2=0:=fun p hp=>AG _ _ _ (by rw[<-kR];exact iS hp);have fl:∀l:List aM,(∀x∈l,x.length<=10)->(l.flatMap fun g=>mS g.length g).length<=10*l.length:=fun l hl=>by
   have:=k8 (f:=fun g:aM=>mS g.length g) (m:=10) (l:=l) (fun x hx=>dr (xl _ _) (hl x hx));omega
  have gx:∀x∈gs.map (·.2),x.length<=10:=fun x hx=>by
   obtain⟨p,hp,rfl⟩:=bh.mp hx;have:=(gm p hp).1.length_le;have:=Ay cs f;omega
  refine⟨la,rfl,⟨_,ah.of fS⟩,lV (K:=K) (a:=la) (xs:=gs.map fun p=>V.ref p.1) (fun i σ H'=>∃(ps:List (aa×Pay)) (v2:Option V),σ=[some (.ref d),some (.ref lp),v2]/\(∀b o,b≠lp->H1 b=some o->H' b=some o)/\H' lp=some (.lst (ps.map fun p=>V.ref p.1))/\oj H' ps/\ps.map (·.2)=((gs.map (·.2)).take i).flatMap fun g=>mS g.length g)
   ⟨[],none,rfl,fun b o _ e=>e,OB,(fun p hp=>by cases hp),rfl⟩ (fun i σ H' _ ⟨_,_,_,k2,_⟩=>ah.of (k2 _ _ nla fS)) ?_ ?_⟩
  ·rintro i y σ H' hi ⟨ps,v2,rfl,k2,eL,pa2,fL⟩;obtain⟨p,hp,rfl⟩:=cg hi;have lh:=bP hp;obtain⟨g1,g2,g3⟩:=qR p lh;obtain⟨sub,ie⟩:=gm p lh;have vs:=aaD sub;have npl:p.1≠lp:=fun z=>by rw[z,au] at g2;cases g2
   have GV:(gs.map (·.2))[i]? =some p.2:=by rw[aS,hp];rfl
   have pl10:=gx p.2 (iS lh);have psl:ps.length<=100:=by
    have h1:=congrArg iV fL;rw[ao] at h1;have h2:=fl ((gs.map (·.2)).take i) (fun x hx=>gx x (A5 hx));rw[iU,ao] at h2;omega
   refine⟨_,rfl,.inl ⟨rfl,_,ah.of eL⟩,_,rfl,_,rfl,p.2.map (·.1),cs,f,p.1,d,rfl,k2 _ _ npl g1,k2 _ _ (aV hd fU) hd',?_,fun c hc=> ?_,(by rw[ao];omega),c10,(by rw[<-MM.C7,vs];exact ie),fun H3 l3 qs s3 eZ dn pa3 qN new3=> ?_⟩
   ·rw[gN];exact(De mm).sublist sub
   ·obtain⟨q,hq,rfl⟩:=bh.mp hc;exact(GA (sub.subset hq)).1
   ·rw[vs] at qN;have ql:qs.length<=10:=by
     have h1:=congrArg iV qN;rw[ao] at h1;have:=xl p.2.length p.2;omega
    refine⟨lp,l3,_,_,rfl,rfl,s3 _ _ eL,dn,(by rw[ao,ao];exact fO (eO (by omega))),?_⟩;refine⟨ps++qs,_,rfl,fun b o n e=>by rw[ag n];exact s3 _ _ (k2 b o n e),(by rw[au,cZ]),fun q hq=> ?_,?_⟩
    ·have nq:∀{u:aa} {xs:List V},H3 u=some (.tup xs)->u≠lp:=fun e=>cv e (s3 _ _ eL) (by simp);rcases ff.mp hq with hq|hq
     ·have:=s3 _ _ (pa2 q hq);rw[ag (nq this)];exact this
     ·have:=pa3 q hq;rw[ag (nq this)];exact this
    ·rw[cZ,fL,qN,fN GV,xE];simp
  ·rintro σ H' ⟨ps,v2,rfl,k2,eL,pa2,fL⟩;rw[ao,show gs.length=(gs.map (·.2)).length by rw[ao],iq,kR] at fL;have kt:Kt H H':=⟨fun b o e t=>k2 b o (aV e fU) (kH1.kp _ _ e t),fun b e=>by
    by_cases n:b=lp
    ·rw[n];exact fU
    ·cases q:H b with
     |none=>rfl
     |some o=>
      cases q1:H1 b with
      |none=>rw[kH1.up b q1] at q;cases q
      |some u=>rw[k2 b u n q1] at e;cases e⟩
   refine⟨_,rfl,k H' lp ps kt (T1.keep fun b o e q=>k2 b o (cv e OB (by rintro rfl;exact nomatch q.2)) e) fU eL pa2 ?_ ?_⟩
   ·rw[fL];rfl
   ·have h1:=congrArg iV fL;rw[ao,<-kR] at h1;have h2:=fl (gs.map (·.2)) gx;rw[ao] at h2;omega
abbrev GW:aL:=top 51
theorem aaH:a9 ["house"] ["house"] (aQ GW):=bo
def GX(tb:cf)(Z:aK):Sp:=fun vs H Q _=>∃(A:Ad) (G:Gh) (s:State),vs=[.ref A.p]/\aE Z A G H s/\MM.Good s/\MM.Good2 s/\Tab tb H/\c8 tb Z A G H (bE s .plan) Q
theorem aaI{fa:aa}{fd:aU}(F:aR K "show_plan" "show_plan" GW fa fd)(T:Txt K mg Z)(qK:aA P w K mg base "net_sums" 3 ["house"] (wU Z))(GY:aA P w K mg base "plan_payments" 4 ["nets"] (AH tb))(GZ:aA P w K mg base "answer_payments" 1 ["payments"] (FG Z)):aN P w K mg base aT 5 fa fd ["house"] (GX tb Z):=by
 refine F.bA aaH fun aD A0 outer s0 H vs Q E hr h=> ?_
 ·obtain⟨A,G,s,rfl,hh,g,g2,fc,k⟩:=h;refine⟨rfl,_,(ax (aF (aX GZ hr (by decide) rfl (ae (aX GY hr (by decide) rfl (ae (aX qK hr (by decide) rfl (ae (pv 0) ai)) ai)) ai)))),?_⟩;have n10:(MM.nums s).length<=10:=by rw[wR];exact g.gY
  refine⟨_,rfl,A,G,s,rfl,hh,g,g2,fun H1 d s1 hd fS=> ?_⟩;refine⟨MM.nums s,MM.ib s,d,rfl,fS,MM.zj g,n10,OA g g2,Tab.same s1 fc,fun H2 l ps k2 T2 hl hd2 pa2 fL cz=> ?_⟩;have kt:=(Kt.of s1).trans k2;refine⟨l,ps,rfl,hd2,pa2,cz,fun H3 l3 s3 eZ dn=> ?_⟩;rw[fL,<-MM.qx] at dn;have kt3:=kt.trans (Kt.of s3);exact k G H3 l3 (hh.kp kt3.kp) (iz _) dn (fun z=>by rw[z,(hh.kp kt.kp).hK] at eZ;cases eZ) (fun xs e=>by rw[kt.up _ eZ] at e;cases e) (kt3.tp A) (fun _=>Tab.same s3 T2)
open PySem PySem.Spec PyProof.Rows L2
open Vbahak (State Carrier Part Ticket Nets total Pay)
theorem AI(l:aM)(c:Nat)(z:Int):∀x∈(afq l c z).map (·.1),x∈l.map (·.1):=fun x hx=>by
 unfold afq at hx;obtain⟨p,hp,rfl⟩:=bh.mp hx;obtain⟨q,hq,rfl⟩:=bh.mp (c9.mp hp).1;by_cases e:q.1=c
 ·rw[if_pos e];exact bh.mpr ⟨q,hq,e⟩
 ·rw[if_neg e];exact iS hq
theorem OC:∀(k:Nat) (l:aM) (p:Pay),p∈mS k l->p.src∈l.map (·.1)/\p.dst∈l.map (·.1)
 |0,_,_,h=>by cases h
 |k+1,l,p,h=>by
  simp only[mS] at h;split at h
  ·rename_i a b ha hb;rcases b0.mp h with rfl|h
   ·exact⟨iS (AX ha),iS (AX hb)⟩
   ·obtain⟨h1,h2⟩:=OC k _ p h;exact⟨AI _ _ _ _ (AI _ _ _ _ h1),AI _ _ _ _ (AI _ _ _ _ h2)⟩
  ·cases h
theorem aaJ{l:aM}{p:Pay}(h:p∈gQ l):p.src∈l.map (·.1)/\p.dst∈l.map (·.1):=by
 unfold gQ at h;obtain⟨g,hg,hp⟩:=Bb.mp h;have sub:=(AG _ _ _ hg).1;have sub2:g.Sublist l:=sub.trans (HG (l:=l));obtain⟨h1,h2⟩:=OC _ _ _ hp;exact⟨(sub2.map _).subset h1,(sub2.map _).subset h2⟩
theorem aaK{s:State}(g:MM.Good s){h:d8->d8}(hh:∀x,(h x).c=x.c):MM.Good {s with carriers:=s.carriers.map h}:=by
 refine⟨?_,?_,g.rate,g.chg,g.gZ,g.jw,g.hJ,g.part,g.ids,g.i5,g.dep,g.jY⟩
 ·show(s.carriers.map h).Pairwise _;rw[gN];exact g.kK.imp fun {a b} e=>by rw[hh,hh];exact e
 ·show(s.carriers.map h).length<=10;rw[ao];exact g.gY
theorem aaL{s:State}(g:MM.Good2 s){h:d8->d8}(hh:∀x,(h x).c=x.c):MM.Good2 {s with carriers:=s.carriers.map h}:=
 ⟨fun x hx=>⟨(MM.sV (s:=s) (s':={s with carriers:=s.carriers.map h}) hh rfl).trans (g.cls x hx).1,(MM.sV (s:=s) (s':={s with carriers:=s.carriers.map h}) hh rfl).trans (g.cls x hx).2⟩,g.iO⟩
theorem OD(l:List Pay)(p:Pay)(c:Nat):pU (l++[p]) c=pU l c+(if c=p.src then p.amount else 0):=by
 unfold pU;rw[mK,cZ,xj];by_cases e:c=p.src
 ·subst e;simp[MM.sum_cons,bz]
 ·have:(p.src==c)=false:=by simpa using d7 e
  simp[this,e,bz]
theorem OE(l:List Pay)(p:Pay)(c:Nat):p0 (l++[p]) c=p0 l c+(if c=p.dst then p.amount else 0):=by
 unfold p0;rw[mK,cZ,xj];by_cases e:c=p.dst
 ·subst e;simp[MM.sum_cons,bz]
 ·have:(p.dst==c)=false:=by simpa using d7 e
  simp[this,e,bz]
def pJ(l:List Pay)(x:d8):d8:={x with paid:=x.paid+pU l x.c,got:=x.got+p0 l x.c}
def j7(s:State)(l:List Pay):State:={s with carriers:=s.carriers.map (pJ l)}
theorem aaM(s:State):j7 s []=s:=by
 unfold j7;have:s.carriers.map (pJ [])=s.carriers:=by
  have e:pJ []=id:=by funext x;rfl
  rw[e,Bs]
 rw[this]
theorem aaN(s:State)(l:List Pay)(p:Pay):FJ (j7 s l) p=j7 s (l++[p]):=by
 unfold FJ j7;simp only
 congr 1
 rw[bw,bw];apply fW;intro x _;simp only[lE];unfold pJ;rw[OD,OE];by_cases e1:x.c=p.src
 ·by_cases e2:x.c=p.dst
  ·simp only[e1,e2,if_true];have:p.src=p.dst:=e1.symm.trans e2;simp[this,Qk]
  ·have:¬p.src=p.dst:=fun z=>e2 (e1.trans z);simp[e1,this,Qk]
 ·by_cases e2:x.c=p.dst
  ·have:¬p.dst=p.src:=fun z=>e1 (e2.trans z);simp[e2,this,Qk]
  ·simp[e1,e2]
theorem OF(s:State)(l:List Pay)(c:Nat):bq (j7 s l) c=bq s c:=MM.sV (f:=pJ l) (fun _=>rfl) rfl
theorem aaO(s:State)(l:List Pay)(x:dj):km (j7 s l) x=km s x:=by
 have e:∀c,uB (j7 s l) c=uB s c:=fun c=>by
  unfold uB oB j7;simp only;rw[List.find?_map];have:((fun x:d8=>x.c==c)∘pJ l)=fun x=>x.c==c:=rfl;rw[this];cases s.carriers.find? (fun x=>x.c==c)<;>rfl
 unfold km;rw[e,e]
def mI(s:State)(G:Gh)(as:List aa):List dj:=(kz s G).map fun q=>if q.2∈as then {q.1 with settled:=true} else q.1
theorem aaP{Z:aK}{A:Ad}{G:Gh}{H:Hp}{s:State}(h:aE Z A G H s):mI s G []=s.claims:=by
 unfold mI;rw[<-Ak h];apply fW;intro q _;rw[if_neg (by simp)]
theorem aaQ{s:State}{G:Gh}(nd:G.cl.Nodup)(as:List aa){i:Nat}{x:dj}{a:aa}(hx:s.claims[i]? =some x)(ha:G.cl[i]? =some a):mI s G (as++[a])=(mI s G as).set i {x with settled:=true}:=by
 unfold mI;apply oA;intro j;have hz:∀{j:Nat} {q:dj×aa},(kz s G)[j]? =some q->s.claims[j]? =some q.1/\G.cl[j]? =some q.2:=fun e=>by unfold kz at e;rw[j9] at e;exact e
 have hi:(kz s G)[i]? =some (x,a):=by unfold kz;rw[j9];exact⟨hx,ha⟩
 have oY:=(cJ.mp hi).1;by_cases e:j=i
 ·subst e;rw[lz (by rw[ao];exact oY),aS,hi];simp
 ·rw[lB (d7 e),aS,aS];cases q:(kz s G)[j]? with
  |none=>rfl
  |some p=>
   have hp:=(hz q).2
   have n:p.2≠a:=fun z=>by
    rw[z] at hp;exact e (vK nd hp ha)
   simp[n]
theorem aaR{s:State}{G:Gh}(nd:G.cl.Nodup)(as:List aa){i:Nat}{x:dj}{a:aa}(hx:s.claims[i]? =some x)(ha:G.cl[i]? =some a)(hn:a∉as):(mI s G as)[i]? =some x:=by
 unfold mI;have hi:(kz s G)[i]? =some (x,a):=by unfold kz;rw[j9];exact⟨hx,ha⟩
 rw[aS,hi];simp[hn]
theorem aaS{Z:aK}{A:Ad}{G:Gh}{H:Hp}{s:State}(h:aE Z A G H s):mI s G ((kc s G).map (·.2))=s.claims.map fun x=>if km s x=true then {x with settled:=true} else x:=by
 unfold mI
 conv=>rhs;rw[<-Ak h,bw]
 apply fW;intro q hq;simp only[lE];by_cases c:km s q.1=true
 ·rw[if_pos c,if_pos];exact iS (c9.mpr ⟨hq,c⟩)
 ·rw[if_neg c,if_neg];intro hm;obtain⟨r,hr,e⟩:=bh.mp hm;obtain⟨tE,kT⟩:=c9.mp hr;have:r=q:=by
   obtain⟨i,hi⟩:=fH tE;obtain⟨j,hj⟩:=fH hq;have h1:G.cl[i]? =some r.2:=by unfold kz at hi;rw[j9] at hi;exact hi.2
   have h2:G.cl[j]? =some q.2:=by unfold kz at hj;rw[j9] at hj;exact hj.2
   rw[e] at h1;have:=vK h.kN h1 h2;rw[this,hj] at hi;exact(fe hi).symm
  subst this;exact c kT
abbrev G0:aL:=top 53
theorem AJ:a9 ["house","payments","payment","claim"] ["house"] (aQ G0):=bo
def G3(tb:cf)(Z:aK):Sp:=fun vs H Q _=>∃(A:Ad) (G:Gh) (s:State),vs=[.ref A.p]/\aE Z A G H s/\MM.Good s/\MM.Good2 s/\Tab tb H/\c8 tb Z A G H (bE s .clear) Q
theorem aaT{fa:aa}{fd:aU}(F:aR K "clear_claims" "clear_claims" G0 fa fd)(T:Txt K mg Z)(qK:aA P w K mg base "net_sums" 3 ["house"] (wU Z))(GY:aA P w K mg base "plan_payments" 4 ["nets"] (AH tb))(GZ:aA P w K mg base "answer_payments" 1 ["payments"] (FG Z))
  (aaU:aA P w K mg base "make_payment" 1 ["house","payment"] (Nt Z)) (FP:aA P w K mg base "claims_to_clear" 2 ["house"] (Fy Z)):aN P w K mg base aT 5 fa fd ["house"] (G3 tb Z):=by
 refine F.bA AJ fun aD A0 outer s0 H vs Q E hr h=> ?_
 ·obtain⟨A,G,s,rfl,hh,g,g2,fc,k⟩:=h;refine⟨rfl,_,(aw (aP (i:=1) AJ.nd rfl (.inl rfl) (aX GY hr (by decide) rfl (ae (aX qK hr (by decide) rfl (ae (pv 0) ai)) ai)))
   (aw (iF fX rfl (dh (K:=K) (pv 1)) (bU (i:=2) AJ.nd rfl (.inl rfl))
   (ax (iX (aX aaU hr (by decide) rfl (ae (pv 0) (ae (pv 2) ai))))))
   (aw (iF fX rfl (dh (K:=K) (aX FP hr (by decide) rfl (ae (pv 0) ai))) (bU (i:=3) AJ.nd rfl (.inl rfl))
   (ax (c7 (K:=K) (pv 3) qf rfl)))
   (aw (Dj (K:=K) (pv 0) ay rT)
   (ax (aF (aX GZ hr (by decide) rfl (ae (pv 1) ai)))))))),?_⟩
  have n10:(MM.nums s).length<=10:=by rw[wR];exact g.gY
  refine⟨_,rfl,A,G,s,rfl,hh,g,g2,fun H1 d s1 hd fS=> ?_⟩;refine⟨MM.nums s,MM.ib s,d,rfl,fS,MM.zj g,n10,OA g g2,Tab.same s1 fc,fun H2 l ps k2 T2 hl hd2 pa2 fL cz=> ?_⟩;rw[<-MM.qx] at fL;have kt:=(Kt.of s1).trans k2;have h2:=hh.kp kt.kp;have nlC:l≠A.lC:=fun z=>by rw[z,s1 _ _ hh.hK] at hl;cases hl
  have pm:∀p∈ps,bq s p.2.src=true/\bq s p.2.dst=true:=fun p hp=>by
   have hm:p.2∈gQ (gC s):=by rw[<-fL];exact iS hp
   obtain⟨m1,m2⟩:=aaJ hm;have e:(gC s).map (·.1)=MM.nums s:=by rw[MM.qx,bw];exact List.map_id' _
   rw[e] at m1 m2;exact⟨MM.nN.mp m1,MM.nN.mp m2⟩
  refine⟨_,rfl,l,rfl,⟨_,ah.of hd2⟩,lV (K:=K) (a:=l) (xs:=ps.map fun p=>V.ref p.1) (fun i σ H'=>∃v2:Option V,σ=[some (.ref A.p),some (.ref l),v2,none]/\aE Z A G H' (j7 s ((ps.map (·.2)).take i))/\cP A H2 H') ⟨none,rfl,by rw[List.take_zero,aaM];exact h2,cP.refl _ _⟩ (fun i σ H' _ ⟨_,_,_,f2⟩=>ah.of (f2 _ _ hd2 rfl nlC)) ?_ ?_⟩
  ·rintro i y σ H' hi ⟨v2,rfl,h3,f3⟩;obtain⟨p,hp,rfl⟩:=cg hi;have lh:=bP hp;obtain⟨m1,m2⟩:=pm p lh;have GV:(ps.map (·.2))[i]? =some p.2:=by rw[aS,hp];rfl
   have ht:=f3 _ _ (pa2 p lh) rfl (fun z=>by have:=pa2 p lh;rw[z,h2.hK] at this;cases this);refine⟨_,rfl,_,rfl,A,G,_,p.1,p.2,rfl,h3,ht,(by rw[OF];exact m1),(by rw[OF];exact m2),fun H4 h4 f4=> ?_⟩;refine⟨_,rfl,?_,f3.trans f4⟩;rw[fN GV,<-aaN];exact h4
  ·rintro σ H3 ⟨v2,rfl,h3,f3⟩;rw[ao,show ps.length=(ps.map (·.2)).length by rw[ao],iq,fL] at h3;have gP:=aaK g (h:=pJ (gQ (gC s))) (fun _=>rfl);have gP2:=aaL g2 (h:=pJ (gQ (gC s))) (fun _=>rfl);refine⟨_,rfl,A,G,_,rfl,h3,gP,gP2,fun H4 lc s4 qS eJ=> ?_⟩;have h4:=h3.kp (Kp.of s4);have nc:lc≠A.lC:=fun z=>by rw[z,h3.hK] at qS;cases qS
   generalize OG:j7 s (gQ (gC s))=sP at h3 h4 eJ;have kcl:((kc sP G).map (·.2)).Nodup:=by
    unfold kc;refine aeA ((HG (l:=kz sP G)).map _) ?_;rw[Nm h4];exact h4.kN
   refine⟨lc,rfl,⟨_,ah.of eJ⟩,lV (K:=K) (a:=lc) (xs:=(kc sP G).map fun q=>V.ref q.2) (fun i σ H'=>∃v3:Option V,σ=[some (.ref A.p),some (.ref l),v2,v3]/\aE Z A G H' {sP with claims:=mI sP G (((kc sP G).map (·.2)).take i)}/\cP A H4 H') ⟨none,rfl,by rw[List.take_zero,aaP h4];exact h4,cP.refl _ _⟩ (fun i σ H' _ ⟨_,_,_,f2⟩=>ah.of (f2 _ _ eJ rfl nc)) ?_ ?_⟩
   ·rintro i y σ H' hi ⟨v3,rfl,h5,f5⟩;obtain⟨q,hq,rfl⟩:=cg hi;have pz:=(c9.mp (bP hq)).1;obtain⟨j,hj⟩:=fH pz;have uo:sP.claims[j]? =some q.1/\G.cl[j]? =some q.2:=by unfold kz at hj;rw[j9] at hj;exact hj
    have mD:((kc sP G).map (·.2))[i]? =some q.2:=by rw[aS,hq];rfl
    have aaV:q.2∉((kc sP G).map (·.2)).take i:=fun z=>by
     have nd2:=kcl.sublist (HP (i+1) _);rw[fN mD,xH] at nd2;exact nd2.2.2 _ z _ (by simp) rfl
    have qz:=aaR h4.kN (((kc sP G).map (·.2)).take i) uo.1 uo.2 aaV;obtain⟨dx,ho⟩:=h5.kV j q.1 q.2 qz uo.2;refine⟨_,rfl,q.2,Z.k,_,_,rfl,ho,T.cD,T.tO,(by show 8<1000;decide),?_⟩;refine⟨_,rfl,?_,f5.trans (bM.upd.fr ho rfl)⟩;have:=h5.L0 (x':={q.1 with settled:=true}) qz uo.2 bM.upd (H':=upd H' q.2 (.ins Z.k dx (cX "settled" (.bl true) (gK q.1)))) ⟨dx,by rw[au];rfl⟩;rw[fN mD,aaQ h4.kN _ uo.1 uo.2];exact this
   ·rintro σ H5 ⟨v3,rfl,h5,f5⟩;rw[ao,show(kc sP G).length=((kc sP G).map (·.2)).length by rw[ao],iq,aaS h4] at h5;refine⟨_,rfl,A.p,Z.h,_,_,_,rfl,h5.hs,T.bZ,T.tM,rfl,_,_,rfl,rfl,_,_,h5.hs,(by show 6<1000;decide),?_⟩;have h6:=h5.VY (m:=s.month+1) bM.upd (H':=upd H5 A.p (.ins Z.h A.dx (cX "month" (.int ((sP.month:Int)+1)) (sZ A sP.month)))) (by rw[au,<-OG];rfl);have f6:=(f3.trans (cP.of s4)).trans (f5.trans ((bM.upd (H:=H5) (a:=A.p) (o:= .ins Z.h A.dx (cX "month" (.int ((sP.month:Int)+1)) (sZ A sP.month)))).fr h5.hs rfl));have Aj:=f6 _ _ hd2 rfl nlC;have pa6:oj (upd H5 A.p (.ins Z.h A.dx (cX "month" (.int ((sP.month:Int)+1)) (sZ A sP.month)))) ps:=fun p hp=>f6 _ _ (pa2 p hp) rfl (fun z=>by have:=pa2 p hp;rw[z,h2.hK] at this;cases this);refine⟨_,rfl,l,ps,rfl,Aj,pa6,cz,fun H7 l7 s7 qO dZ=> ?_⟩;rw[fL] at dZ;have aaW:({({sP with claims:=sP.claims.map fun x=>if km sP x=true then {x with settled:=true} else x}:State) with month:=s.month+1}:State)=(bE s .clear).1:=by
     rw[<-OG];have e:(fun x=>if km (j7 s (gQ (gC s))) x=true then({x with settled:=true}:dj) else x)=fun x=>if km s x=true then {x with settled:=true} else x:=by funext x;rw[aaO]
     rw[e]
     rfl
    rw[aaW] at h6;have n7:l7≠A.lC:=fun z=>by rw[z,h6.hK] at qO;cases qO
    refine k G H7 l7 (h6.kp (Kp.of s7)) (iz _) dZ n7 (fun xs e=>by rw[f6 _ _ (kt.kp _ _ e rfl) rfl n7] at qO;cases qO) ((kt.tp A).trans (f6.L.trans (cP.of s7).L)) (fun _=>Tab.same s7 (Tab.fr f6 h2.hK T2))
open PySem PySem.Spec PyProof.Rows L2
open Vbahak (State Carrier Part Ticket Nets total Pay)
def jd(s:State)(l:List Pay)(c:Nat):Int:=MM.ib s c+(pU l c:Int)-(p0 l c:Int)
theorem OH{α:Type}(p q:α->Bool):∀l:List α,(l.all p&&l.all q)=l.all fun x=>p x&&q x
 |[]=>rfl
 |a::l=>by
  rw[pY,pY,pY,<-OH p q l];cases p a<;>cases q a<;>cases l.all p<;>cases l.all q<;>rfl
abbrev G4:aL:=top 57
theorem oq:a9 ["house","row","payers","getters","left","payer","getter","amount","net"] ["house","row"] (aQ G4):=bo
def G5(tb:cf)(Z:aK):Sp:=fun vs H Q _=>∃(A:Ad) (G:Gh) (s:State) (n:Nat) (lr:aa) (row:List Int),vs=[.ref A.p,.ref lr]/\aE Z A G H s/\MM.Good s/\MM.Good2 s/\H lr=some (.lst (row.map V.int))/\row.length=3*n/\n<=30/\(∀z∈row,0<=z)/\c8 tb Z A G H (bE s (.check (rm (jL row)))) Q
theorem aaX{fa:aa}{fd:aU}(F:aR K "check_payments" "check_payments" G4 fa fd)(T:Txt K mg Z)(gL:GM P w K mg base Z "has_carriers" ["self","numbers"] (mx Z))(qK:aA P w K mg base "net_sums" 3 ["house"] (wU Z)):aN P w K mg base aT 4 fa fd ["house","row"] (G5 tb Z):=by
 refine F.bA oq fun aD A0 outer s0 H vs Q E hr h=> ?_
 ·obtain⟨A,G,s,n,lr,row,rfl,hh,g,g2,fq,hn,n30,hb,k⟩:=h;have hu:=fk hr;obtain⟨c1,c2,c3,c4⟩:=MM.yY n row hn hb;generalize j5:rm (jL row)=ps at c1 c2 c3 c4 k;refine⟨rfl,_,(aw (aP (i:=2) oq.nd rfl (.inl rfl) (pj (K:=K) (pv 1) (fw ay) (fw ay)))
   (aw (aP (i:=3) oq.nd rfl (.inl rfl) (pj (K:=K) (pv 1) (fw ay) (fw ay)))
   (aw (bG (iE (fh (gr (pv 0) gL hr (by decide) (ae (cp qp (pv 2) (pv 3)) ai))))
   (ax (aF (a7 (ae (cq rfl T.n9) ai))))
   bJ)
   (aw (aP (i:=4) oq.nd rfl (.inl rfl) (aX qK hr (by decide) rfl (ae (pv 0) ai)))
   (aw (iF fX rfl (Xf (K:=K) rfl T.zX (ae (pv 2) (ae (pv 3) (ae (pj (K:=K) (pv 1) (fw ay) (fw ay)) ai)))) (pk (K:=K) (n:=3) rfl (gD (bU (i:=5) oq.nd rfl (.inl rfl)) (gD (bU (i:=6) oq.nd rfl (.inl rfl)) (gD (bU (i:=7) oq.nd rfl (.inl rfl)) oS))))
   (aw (r9 hu (pv 4) (pv 5) (pv 7) rT (fun _ _ _=>rfl))
    (ax (r9 hu (pv 4) (pv 6) (pv 7) B0 (fun _ _ _=>rfl)))))
   (ax (aF (a7 (ae ay (ae (yk (fh (cC (zq (K:=K) rfl) (by rfl) T.zV zL (ae (Ka (eW (own:=[("net",8)]) rfl oq.nd (Cy (pv 4)) (dD rfl) (fun _ _ _ _ _=>by exact(bU (i:=8) oq.nd rfl (.inl rfl))) (fun _ _ _ _ _=>by exact iJ) (fun _ _ _ _ _=>by exact(qh cQ (pv 8) ay (aZ _))))) ai))) ay ay) ai)))))))))),?_⟩
  refine⟨_,rfl,_,rfl,_,rfl,lr,_,0,3,rfl,rfl,rfl,by decide,ah.of fq,fun q1 om=> ?_⟩;rw[pG,MM.sy row hn (by decide),c1,pI];have s1:af H _:=af.new (o:= .lst ((ps.map fun p=>p.1).map nI)) om;refine⟨_,rfl,_,rfl,_,rfl,lr,_,1,3,rfl,rfl,rfl,by decide,ah.of (s1 _ _ fq),fun q2 mD=> ?_⟩;rw[pG,MM.sy row hn (by decide),c2,pI];have s2:af (upd H q1 (.lst ((ps.map fun p=>p.1).map nI))) _:=af.new (o:= .lst ((ps.map fun p=>p.2.1).map nI)) mD;have cn:=s1.trans s2;have h2:=hh.kp (Kp.of cn);have OI:(upd (upd H q1 (.lst ((ps.map fun p=>p.1).map nI))) q2 (.lst ((ps.map fun p=>p.2.1).map nI))) q1=some (.lst ((ps.map fun p=>p.1).map nI)):=s2 _ _ au;have OJ:(upd (upd H q1 (.lst ((ps.map fun p=>p.1).map nI))) q2 (.lst ((ps.map fun p=>p.2.1).map nI))) q2=some (.lst ((ps.map fun p=>p.2.1).map nI)):=au;refine⟨_,rfl,A.p,_,_,rfl,h2.hs,rfl,_,rfl,_,rfl,q1,q2,_,_,rfl,rfl,OI,OJ,?_,fun q3 qN=> ?_⟩
  ·rw[ao,ao,ao,ao,c4];exact fO (eO (by omega))
  have s3:=af.new (o:= .lst ((ps.map fun p=>p.1).map nI++(ps.map fun p=>p.2.1).map nI)) qN;have dm:=cn.trans s3;have h3:=hh.kp (Kp.of dm);have aaY:=s3 _ _ OI;have aaZ:=s3 _ _ OJ;refine⟨A,G,s,q3,(ps.map fun p=>p.1)++ps.map fun p=>p.2.1,rfl,h3,(by rw[au,cZ]),(by rw[dJ,ao,ao,c4];omega),fun H4 s4=> ?_⟩;have s14:=dm.trans s4;have h4:=hh.kp (Kp.of s14);have e1:(((ps.map fun p=>p.1)++ps.map fun p=>p.2.1).all fun c=>bq s c)=(ps.all fun p=>bq s p.1&&bq s p.2.1):=by
   rw[List.all_append,rA,rA,OH];rfl
  rw[e1];simp only[bE] at k;refine⟨_,rfl,?_⟩;cases ck:(ps.all fun p=>bq s p.1&&bq s p.2.1) with
  |false=>
   rw[ck,if_pos rfl] at k
   exact a8 ⟨by show 1<=sizeLine;decide,fun l hl=>k.out hh s14 hl⟩
  |true=>
   rw[ck,if_neg (by decide)] at k
   have kn:∀p∈ps,p.1∈MM.nums s/\p.2.1∈MM.nums s:=fun p hp=>by
    have:=oC.mp ck p hp;rw[cM] at this;exact⟨MM.nN.mpr this.1,MM.nN.mpr this.2⟩
   have n10:(MM.nums s).length<=10:=by rw[wR];exact g.gY
   refine ba ⟨_,rfl,A,G,s,rfl,h4,g,g2,fun H5 d s5 hd mF=> ?_⟩
   have s15:=s14.trans s5
   have q1H:=s5 _ _ (s4 _ _ aaY)
   have q2H:=s5 _ _ (s4 _ _ aaZ)
   have dH:H d=none:=(Kt.of s14).up _ hd
   refine⟨_,rfl,_,rfl,_,rfl,_,rfl,_,rfl,lr,_,2,3,rfl,rfl,rfl,by decide,ah.of (s15 _ _ fq),fun q6 Gn=> ?_⟩
   rw[pG,MM.sy row hn (by decide),c3,pI]
   have s6:=af.new (o:= .lst ((ps.map fun p=>p.2.2).map nI)) Gn
   have q1H6:=s6 _ _ q1H
   have q2H6:=s6 _ _ q2H
   have j2:=s6 _ _ mF
   have xp:(upd H5 q6 (.lst ((ps.map fun p=>p.2.2).map nI))) q6=some (.lst ((ps.map fun p=>p.2.2).map nI)):=au
   have s16:=s15.trans s6
   generalize upd H5 q6 (.lst ((ps.map fun p=>p.2.2).map nI))=H6 at q1H6 q2H6 j2 xp s16
   have n1:q1≠d:=cv q1H6 j2 (by simp)
   have n2:q2≠d:=cv q2H6 j2 (by simp)
   have n6:q6≠d:=cv xp j2 (by simp)
   refine⟨q1,q2,q6,_,_,_,rfl,ah.of q1H6,ah.of q2H6,ah.of xp,?_⟩
   let fG:List Pay:=ps.map fun p=>{src:=p.1,dst:=p.2.1,amount:=p.2.2}
   refine Ab (J:=DU K q1 q2 q6) (n:=n) (fun i σ H'=>∃v5 v6 v7:Option V,σ=[some (.ref A.p),some (.ref lr),some (.ref q1),some (.ref q2),some (.ref d),v5,v6,v7,none]/\(∀b o,b≠d->H6 b=some o->H' b=some o)/\H' d=some (.dK (bN (MM.nums s) (jd s (fG.take i))))) ⟨none,none,none,rfl,(fun b o _ e=>e),?_⟩ ?_ ?_ ?_ ?_
   ·rw[j2]
    congr 2
    refine FK fun c _=> ?_
    show _=MM.ib s c+((pU [] c:Nat):Int)-((p0 [] c:Nat):Int)
    show _=MM.ib s c+0-0
    omega
   ·rintro i σ H' hi ⟨_,_,_,_,k7,_⟩
    exact⟨_,_,_,_,_,_,ah.of (k7 _ _ n1 q1H6),ah.of (k7 _ _ n2 q2H6),ah.of (k7 _ _ n6 xp),(by rw[aS,aS,cE (by omega)];rfl),(by rw[aS,aS,cE (by omega)];rfl),(by rw[aS,aS,cE (by omega)];rfl)⟩
   ·rintro σ H' ⟨_,_,_,_,k7,_⟩
    exact⟨_,ah.of (k7 _ _ n1 q1H6),by rw[ao,ao,c4];exact aI _⟩
   ·rintro i σ H' y H'' hi ⟨v5,v6,v7,rfl,k7,dZ⟩ ⟨T1,x1,x2,x3,rfl,oo,rfl,e1,e2,e3⟩
    have e1:=e1 _ (ah.of (k7 _ _ n1 q1H6))
    have e2:=e2 _ (ah.of (k7 _ _ n2 q2H6))
    have e3:=e3 _ (ah.of (k7 _ _ n6 xp))
    obtain⟨p,hp⟩:∃p,ps[i]? =some p:=⟨_,cE (by omega)⟩
    rw[aS,aS,hp] at e1 e2 e3
    cases e1;cases e2;cases e3
    obtain⟨m1,m2⟩:=kn p (bP hp)
    have nT:d≠T1:=fun z=>by rw[<-z,dZ] at oo;cases oo
    have AE:(upd H' T1 (.tup [nI p.1,nI p.2.1,nI p.2.2])) d=some (.dK (bN (MM.nums s) (jd s (fG.take i)))):=by rw[ag nT];exact dZ
    refine⟨T1,_,rfl,cH.of au,rfl,_,_,rfl,_,_,rfl,_,_,rfl,rfl,?_⟩
    have g1:bj (upd H' T1 (.tup [nI p.1,nI p.2.1,nI p.2.2])) d (nI p.1) (some (.int (jd s (fG.take i) p.1))):=by rw[<-ij m1];exact bj.k (k:=kI p.1) AE
    refine⟨_,rfl,_,rfl,d,_,rfl,g1,_,rfl,_,_,rfl,rfl,_,gj.k (k:=kI p.1) AE (by rw[mE];exact eO (by omega)),?_⟩
    rw[t9 m1]
    have g3:bj (upd (upd H' T1 (.tup [nI p.1,nI p.2.1,nI p.2.2])) d (.dK (bN (MM.nums s) (MM.eF (jd s (fG.take i)) p.1 (jd s (fG.take i) p.1+(p.2.2:Int)))))) d (nI p.2.1) (some (.int (MM.eF (jd s (fG.take i)) p.1 (jd s (fG.take i) p.1+(p.2.2:Int)) p.2.1))):=by
     rw[<-ij m2];exact bj.k (k:=kI p.2.1) au
    refine⟨_,rfl,_,rfl,d,_,rfl,g3,_,rfl,_,_,rfl,rfl,_,gj.k (k:=kI p.2.1) au (by rw[mE];exact eO (by omega)),?_⟩
    rw[t9 m2,yb]
    have Cm:fG[i]? =some ⟨p.1,p.2.1,p.2.2⟩:=by show(ps.map _)[i]? =_;rw[aS,hp];rfl
    refine⟨_,_,_,rfl,fun b o n e=> ?_,?_⟩
    ·have:=k7 b o n e
     rw[ag n,ag (aV this oo)];exact this
    ·rw[au,fN Cm]
     congr 2
     refine FK fun c _=> ?_
     unfold jd
     rw[OD,OE]
     unfold MM.eF
     by_cases z1:c=p.2.1
     ·subst z1
      by_cases z2:p.2.1=p.1
      ·simp only[z2,if_true];omega
      ·simp only[z2,if_true,if_false];omega
     ·by_cases z2:c=p.1
      ·subst z2
       simp only[z1,if_true,if_false];omega
      ·simp only[z1,z2,if_false];omega
   ·rintro σ H7 ⟨v5,v6,v7,rfl,k7,dZ⟩
    have pl:fG.length=n:=by show(ps.map _).length=n;rw[ao,c4]
    rw[<-pl,iq] at dZ
    have s17:af H H7:=fun b o e=>k7 b o (aV e dH) (s16 _ _ e)
    refine⟨d,_,dZ,p9,fun od=> ?_⟩
    have fz:(upd H7 d (.bF od (.dK (bN (MM.nums s) (jd s fG))))) d=some (.bF od (.dK (bN (MM.nums s) (jd s fG)))):=au
    refine⟨_,rfl,d,od,_,rfl,fz,fun D hD=>Vx (fun v=>some (.bl (decide (v=V.int 0)))) hD fz (by rw[mE];exact dk (by omega)) (fun i H8 kk x R R0 hk s8 r1 r2=> ?_) (fun H8 s8 OK=> ?_)⟩
    ·obtain⟨c,hc,e1⟩:=cg hk
     cases e1
     exact⟨rfl,iP ⟨_,rfl,rfl,r1 _ _ rfl (af.refl _)⟩⟩
    ·refine⟨s8 _ _ fz,?_⟩
     have s78:af H7 (upd H8 d (.dK (bN (MM.nums s) (jd s fG)))):=Ac dZ s8
     have nDd:D≠d:=fun z=>by rw[z,fz] at hD;cases hD
     have e:((bN (MM.nums s) (jd s fG)).map (·.2)).filterMap (fun v=>some (V.bl (decide (v=V.int 0))))=((MM.nums s).map fun c=>decide (jd s fG c=0)).map V.bl:=by
      rw[mG _ (fun v=>V.bl (decide (v=V.int 0))) (fun _ _=>rfl)];unfold bN;rw[bw,bw,bw];apply fW;intro c _;simp only[lE]
      congr 1
      exact decide_eq_decide.mpr ⟨fun z=>by injection z,fun z=>by rw[z]⟩
     rw[e] at OK
     refine⟨D,_,rfl,ah.of (by rw[ag nDd];exact OK),_,rfl,?_⟩
     have ea:(((MM.nums s).map fun c=>decide (jd s fG c=0)).all id)=((gC s).all fun p=>p.2+(pU fG p.1:Int)-(p0 fG p.1:Int)==0):=by
      rw[MM.qx,rA,rA]
      congr 1
     have s18:=s17.trans s78
     rw[ea]
     have k':c8 tb Z A G H (s,[0,if ((gC s).all fun p=>p.2+(pU fG p.1:Int)-(p0 fG p.1:Int)==0)=true then 1 else 0]) Q:=k
     revert k'
     cases (gC s).all fun p=>p.2+(pU fG p.1:Int)-(p0 fG p.1:Int)==0 with
     |true=>exact fun k'=>a8 ⟨by show 2<=sizeLine;decide,fun l hl=>k'.out hh s18 hl⟩
     |false=>exact fun k'=>ba ⟨by show 2<=sizeLine;decide,fun l hl=>k'.out hh s18 hl⟩
open PySem PySem.Spec PyProof.Rows L2
open Vbahak (State Carrier Part Ticket Nets total Pay)
theorem gw{a:Str}{X:Bool->Prop}(h:X true):∃k,V.bl (decide (V.str a=V.str a))=V.bl k/\X k:=⟨true,by rw[decide_eq_true rfl],h⟩
theorem gy{a b:Str}{X:Bool->Prop}(n:a≠b)(h:X false):∃k,V.bl (decide (V.str a=V.str b))=V.bl k/\X k:=⟨false,by rw[decide_eq_false (fun z=>n (by injection z))],h⟩
structure AK(tb:cf)(Z:aK)(A:Ad)(G:Gh)(H:Hp)(s:State):Prop where
 hh:aE Z A G H s
 g:MM.Good s
 g2:MM.Good2 s
 n:G.n<=999
 tab:Tab tb H
theorem natOf{x:Int}(h:0<=x):∃n:Nat,x=(n:Int):=⟨x.toNat,(Int.toNat_of_nonneg h).symm⟩
theorem iB{x a b:Int}(h:MM.bC x (a,b)=true):a<=x/\x<=b:=MM.iN.mp h
theorem AL{x a b:Int}(h:((MM.bC x (a,b)&&true)&&true)=true):a<=x/\x<=b:=by
 rw[mO,mO] at h;exact iB h
theorem ou{x y a b c d:Int}(h:((MM.bC x (a,b)&&(MM.bC y (c,d)&&true))&&true)=true):(a<=x/\x<=b)/\c<=y/\y<=d:=by
 rw[mO,mO,cM] at h;exact⟨iB h.1,iB h.2⟩
theorem OL{x y z a b c d e f:Int}{r:Bool}(h:((MM.bC x (a,b)&&(MM.bC y (c,d)&&(MM.bC z (e,f)&&true)))&&r)=true):((a<=x/\x<=b)/\(c<=y/\y<=d)/\e<=z/\z<=f)/\r=true:=by
 rw[mO,cM,cM,cM] at h;exact⟨⟨iB h.1.1,iB h.1.2.1,iB h.1.2.2⟩,h.2⟩
theorem vR{x y z a b c d e f:Int}(h:((MM.bC x (a,b)&&(MM.bC y (c,d)&&(MM.bC z (e,f)&&true)))&&true)=true):(a<=x/\x<=b)/\(c<=y/\y<=d)/\e<=z/\z<=f:=(OL h).1
theorem aa0{x a b:Int}{r:Bool}(h:((MM.bC x (a,b)&&true)&&r)=true):(a<=x/\x<=b)/\r=true:=by
 rw[mO,cM] at h;exact⟨iB h.1,h.2⟩
theorem aa1{r:Bool}(h:(true&&r)=true):r=true:=h
theorem G6{lo hi:Int}{a b c:Int×Int}{row:List Int}{m:Int}(h:MM.iM ((lo,hi),[a,b,c]) row=true)(ha:0<=a.1/\a.2<=m)(hb:0<=b.1/\b.2<=m)(hc:0<=c.1/\c.2<=m):∃n:Nat,row.length=3*n/\lo<=(n:Int)/\(n:Int)<=hi/\∀z∈row,0<=z/\z<=m:=by
 obtain⟨h1,h2,h3⟩:=MM.su.mp h;have h1:row.length%3=0:=h1;have h2:MM.bC ((row.length/3:Nat):Int) (lo,hi)=true:=h2;rw[MM.iN] at h2;refine⟨row.length/3,by omega,h2.1,h2.2,?_⟩;have h4:=(MM.yU [a,b,c] row 0).trans h3;intro z hz;obtain⟨i,hi⟩:=fH hz;have hm:MM.bC z ([a,b,c].getD (i%3) (0,0))=true:=by
  have:=oC.mp h4 (MM.bC z ([a,b,c].getD (i%3) (0,0))) (bh.mpr ⟨(z,i),by rw[AW];exact hi,rfl⟩);exact this
 have hl:i%3<3:=QA _ (by decide);rcases(show i%3=0\/i%3=1\/i%3=2 by omega) with e|e|e
 ·rw[e] at hm;have hm:a.1<=z/\z<=a.2:=MM.iN.mp hm;constructor<;>omega
 ·rw[e] at hm;have hm:b.1<=z/\z<=b.2:=MM.iN.mp hm;constructor<;>omega
 ·rw[e] at hm;have hm:c.1<=z/\z<=c.2:=MM.iN.mp hm;constructor<;>omega
theorem aa2{lo hi:Int}{a b:Int×Int}{row:List Int}{m:Int}(h:MM.iM ((lo,hi),[a,b]) row=true)(ha:0<=a.1/\a.2<=m)(hb:0<=b.1/\b.2<=m):∃n:Nat,row.length=2*n/\lo<=(n:Int)/\(n:Int)<=hi/\∀z∈row,0<=z/\z<=m:=by
 obtain⟨h1,h2,h3⟩:=MM.su.mp h;have h1:row.length%2=0:=h1;have h2:MM.bC ((row.length/2:Nat):Int) (lo,hi)=true:=h2;rw[MM.iN] at h2;refine⟨row.length/2,by omega,h2.1,h2.2,?_⟩;have h4:=(MM.yU [a,b] row 0).trans h3;intro z hz;obtain⟨i,hi⟩:=fH hz;have hm:MM.bC z ([a,b].getD (i%2) (0,0))=true:=by
  have:=oC.mp h4 (MM.bC z ([a,b].getD (i%2) (0,0))) (bh.mpr ⟨(z,i),by rw[AW];exact hi,rfl⟩);exact this
 rcases(show i%2=0\/i%2=1 by omega) with e|e
 ·rw[e] at hm;have hm:a.1<=z/\z<=a.2:=MM.iN.mp hm;constructor<;>omega
 ·rw[e] at hm;have hm:b.1<=z/\z<=b.2:=MM.iN.mp hm;constructor<;>omega
def uq(tb:cf)(Z:aK)(ok:List Nat):Sp:=fun vs H Q _=>∃(A:Ad) (G:Gh) (s:State) (p:Nat) (l:aa) (plain row:List Int),vs=[.ref A.p,.str (nameOf p),.ref l]/\AK tb Z A G H s/\p∈ok/\H l=some (.lst (plain.map V.int))/\plain.length=(MM.eE p).length/\MM.fits p plain row=true/\c8 tb Z A G H (bE s (MM.o8 p plain row)) Q
def ur(tb:cf)(Z:aK)(ok:List Nat):Sp:=fun vs H Q _=>∃(A:Ad) (G:Gh) (s:State) (p:Nat) (l lr:aa) (plain row:List Int),vs=[.ref A.p,.str (nameOf p),.ref l,.ref lr]/\AK tb Z A G H s/\p∈ok/\H l=some (.lst (plain.map V.int))/\H lr=some (.lst (row.map V.int))/\plain.length=(MM.eE p).length/\MM.fits p plain row=true/\c8 tb Z A G H (bE s (MM.o8 p plain row)) Q
abbrev G7:aL:=top 88
theorem aa3:a9 ["house","name","plain"] ["house","name","plain"] (aQ G7):=bo
theorem aa4{fa:aa}{fd:aU}(F:aR K "answer_on_terms" "answer_on_terms" G7 fa fd)(T:Txt K mg Z)(aa5:aA P w K mg base "add_carrier" 3 ["house","c","currency"] (Et tb Z))(aa6:aA P w K mg base "set_rate" 1 ["house","currency","num","den"] (Ew tb Z))(aa7:aA P w K mg base "set_charge" 2 ["house","a","b","bp"] (Ey tb Z))(aa8:aA P w K mg base "suspend" 2 ["house","c","flag"] (EA tb Z)):aN P w K mg base aT 4 fa fd ["house","name","plain"] (uq tb Z [0,1,2,13]):=by
 refine F.bA aa3 fun aD A0 outer s0 H vs Q E hr h=> ?_
 ·obtain⟨A,G,s,p,l,plain,row,rfl,P,hp,hl,hn,hf,k⟩:=h;refine⟨rfl,_,(aw (bG (bb cQ (pv 1) gf (aZ _))
   (ax (aF (aX aa5 hr (by decide) rfl (ae (pv 0) (ae (bK (cy (K:=K)) (pv 2) ay (fun _ _=>rfl)) (ae (bK (cy (K:=K)) (pv 2) ay (fun _ _=>rfl)) ai))))))
   bJ)
   (aw (bG (bb cQ (pv 1) gf (aZ _))
   (ax (aF (aX aa6 hr (by decide) rfl (ae (pv 0) (ae (bK (cy (K:=K)) (pv 2) ay (fun _ _=>rfl)) (ae (bK (cy (K:=K)) (pv 2) ay (fun _ _=>rfl)) (ae (bK (cy (K:=K)) (pv 2) ay (fun _ _=>rfl)) ai)))))))
   bJ)
   (aw (bG (bb cQ (pv 1) gf (aZ _))
   (ax (aF (aX aa7 hr (by decide) rfl (ae (pv 0) (ae (bK (cy (K:=K)) (pv 2) ay (fun _ _=>rfl)) (ae (bK (cy (K:=K)) (pv 2) ay (fun _ _=>rfl)) (ae (bK (cy (K:=K)) (pv 2) ay (fun _ _=>rfl)) ai)))))))
   bJ)
   (ax (aF (aX aa8 hr (by decide) rfl (ae (pv 0) (ae (bK (cy (K:=K)) (pv 2) ay (fun _ _=>rfl)) (ae (bK (cy (K:=K)) (pv 2) ay (fun _ _=>rfl)) ai))))))))),?_⟩
  simp only[b0,uG,or_false] at hp;refine eG fun n0 q0=> ?_;rcases hp with rfl|hp
  ·obtain⟨x,y,rfl⟩:=MM.eg hn;have hf:=ou hf;obtain⟨x',rfl⟩:=natOf (dO (by decide) hf.1.1);obtain⟨y',rfl⟩:=natOf (dO (by decide) hf.2.1);exact⟨_,rfl,rfl,gw (a8 ⟨_,rfl,_,rfl,l,_,_,_,rfl,rfl,ah.of hl,bL (j:=0) rfl,_,rfl,l,_,_,_,rfl,rfl,ah.of hl,bL (j:=1) rfl,A,G,s,x',y',rfl,P.hh,k⟩)⟩
  refine⟨_,rfl,rfl,gy (by rcases hp with rfl|rfl|rfl<;>decide) (ba (q0 _ _ ?_))⟩;refine eG fun n1 q1=> ?_;rcases hp with rfl|hp
  ·obtain⟨x,y,z,rfl⟩:=MM.kJ hn;have hf:=vR hf;obtain⟨x',rfl⟩:=natOf (dO (by decide) hf.1.1);obtain⟨y',rfl⟩:=natOf (dO (by decide) hf.2.1.1);obtain⟨z',rfl⟩:=natOf (dO (by decide) hf.2.2.1);exact⟨_,rfl,rfl,gw (a8 ⟨_,rfl,_,rfl,l,_,_,_,rfl,rfl,ah.of hl,bL (j:=0) rfl,_,rfl,l,_,_,_,rfl,rfl,ah.of hl,bL (j:=1) rfl,_,rfl,l,_,_,_,rfl,rfl,ah.of hl,bL (j:=2) rfl,A,G,s,x',y',z',rfl,P.hh,(by omega),P.n,k⟩)⟩
  refine⟨_,rfl,rfl,gy (by rcases hp with rfl|rfl<;>decide) (ba (q1 _ _ ?_))⟩;refine eG fun n2 q2=> ?_;rcases hp with rfl|hp
  ·obtain⟨x,y,z,rfl⟩:=MM.kJ hn;have hf:=vR hf;obtain⟨x',rfl⟩:=natOf (dO (by decide) hf.1.1);obtain⟨y',rfl⟩:=natOf (dO (by decide) hf.2.1.1);obtain⟨z',rfl⟩:=natOf (dO (by decide) hf.2.2.1);exact⟨_,rfl,rfl,gw (a8 ⟨_,rfl,_,rfl,l,_,_,_,rfl,rfl,ah.of hl,bL (j:=0) rfl,_,rfl,l,_,_,_,rfl,rfl,ah.of hl,bL (j:=1) rfl,_,rfl,l,_,_,_,rfl,rfl,ah.of hl,bL (j:=2) rfl,A,G,s,x',y',z',rfl,P.hh,P.n,k⟩)⟩
  refine⟨_,rfl,rfl,gy (by subst hp;decide) (ba (q2 _ _ ?_))⟩;subst hp;obtain⟨x,y,rfl⟩:=MM.eg hn;have hf:=ou hf;obtain⟨x',rfl⟩:=natOf (dO (by decide) hf.1.1);obtain⟨y',rfl⟩:=natOf (dO (by decide) hf.2.1);exact⟨_,rfl,_,rfl,l,_,_,_,rfl,rfl,ah.of hl,bL (j:=0) rfl,_,rfl,l,_,_,_,rfl,rfl,ah.of hl,bL (j:=1) rfl,A,G,s,x',y',rfl,P.hh,k⟩
abbrev G8:aL:=top 89
theorem aa9:a9 ["house","name","plain","row"] ["house","name","plain","row"] (aQ G8):=bo
theorem aba{fa:aa}{fd:aU}(F:aR K "answer_on_tickets" "answer_on_tickets" G8 fa fd)(T:Txt K mg Z)(abb:aA P w K mg base "issue" 3 ["house","t","a","value","row"] (Gm tb Z))(abc:aA P w K mg base "cut" 3 ["value","row"] (Gi tb))(abd:aA P w K mg base "fly" 2 ["house","t","i"] (E1 tb Z))(abe:aA P w K mg base "refund" 2 ["house","t","i"] (E3 tb Z))(abf:aA P w K mg base "show_part" 2 ["house","t","i"] (E5 tb Z))(abg:aA P w K mg base "show_books" 2 ["house","a"] (Fd tb Z)):aN P w K mg base aT 4 fa fd ["house","name","plain","row"] (ur tb Z [3,4,5,6,17,16]):=by
 refine F.bA aa9 fun aD A0 outer s0 H vs Q E hr h=> ?_
 ·obtain⟨A,G,s,p,l,lr,plain,row,rfl,P,hp,hl,fq,hn,hf,k⟩:=h;refine⟨rfl,_,(aw (bG (bb cQ (pv 1) gf (aZ _))
   (ax (aF (aX abb hr (by decide) rfl (ae (pv 0) (ae (bK (cy (K:=K)) (pv 2) ay (fun _ _=>rfl)) (ae (bK (cy (K:=K)) (pv 2) ay (fun _ _=>rfl)) (ae (bK (cy (K:=K)) (pv 2) ay (fun _ _=>rfl)) (ae (pv 3) ai))))))))
   bJ)
   (aw (bG (bb cQ (pv 1) gf (aZ _))
   (ax (aF (aX abc hr (by decide) rfl (ae (bK (cy (K:=K)) (pv 2) ay (fun _ _=>rfl)) (ae (pv 3) ai)))))
   bJ)
   (aw (bG (bb cQ (pv 1) gf (aZ _))
   (ax (aF (aX abd hr (by decide) rfl (ae (pv 0) (ae (bK (cy (K:=K)) (pv 2) ay (fun _ _=>rfl)) (ae (bK (cy (K:=K)) (pv 2) ay (fun _ _=>rfl)) ai))))))
   bJ)
   (aw (bG (bb cQ (pv 1) gf (aZ _))
   (ax (aF (aX abe hr (by decide) rfl (ae (pv 0) (ae (bK (cy (K:=K)) (pv 2) ay (fun _ _=>rfl)) (ae (bK (cy (K:=K)) (pv 2) ay (fun _ _=>rfl)) ai))))))
   bJ)
   (aw (bG (bb cQ (pv 1) gf (aZ _))
   (ax (aF (aX abf hr (by decide) rfl (ae (pv 0) (ae (bK (cy (K:=K)) (pv 2) ay (fun _ _=>rfl)) (ae (bK (cy (K:=K)) (pv 2) ay (fun _ _=>rfl)) ai))))))
   bJ)
   (ax (aF (aX abg hr (by decide) rfl (ae (pv 0) (ae (bK (cy (K:=K)) (pv 2) ay (fun _ _=>rfl)) ai)))))))))),?_⟩
  simp only[b0,uG,or_false] at hp;refine eG fun n0 q0=> ?_;rcases hp with rfl|hp
  ·obtain⟨x,y,z,rfl⟩:=MM.kJ hn;have hf:=OL hf;obtain⟨x',rfl⟩:=natOf (dO (by decide) hf.1.1.1);obtain⟨y',rfl⟩:=natOf (dO (by decide) hf.1.2.1.1);obtain⟨z',rfl⟩:=natOf (dO (by decide) hf.1.2.2.1);obtain⟨n,r1,r2,r3,r4⟩:=G6 (m:=1000000000) hf.2 (by decide) (by decide) (by decide);exact⟨_,rfl,rfl,gw (a8 ⟨_,rfl,_,rfl,l,_,_,_,rfl,rfl,ah.of hl,bL (j:=0) rfl,_,rfl,l,_,_,_,rfl,rfl,ah.of hl,bL (j:=1) rfl,_,rfl,l,_,_,_,rfl,rfl,ah.of hl,bL (j:=2) rfl,_,rfl,A,G,s,x',y',z',n,lr,row,rfl,P.hh,P.g,fq,r1,by omega,by omega,r4,by omega,P.tab,k⟩)⟩
  refine⟨_,rfl,rfl,gy (by rcases hp with rfl|rfl|rfl|rfl|rfl<;>decide) (ba (q0 _ _ ?_))⟩;refine eG fun n1 q1=> ?_;rcases hp with rfl|hp
  ·obtain⟨x,rfl⟩:=MM.gG hn;have hf:=aa0 hf;obtain⟨x',rfl⟩:=natOf (dO (by decide) hf.1.1);obtain⟨n,r1,r2,r3,r4⟩:=aa2 (m:=1000000000) hf.2 (by decide) (by decide);exact⟨_,rfl,rfl,gw (a8 ⟨_,rfl,l,_,_,_,rfl,rfl,ah.of hl,bL (j:=0) rfl,_,rfl,x',n,lr,row,rfl,fq,r1,by omega,by omega,r4,by omega,P.tab,fun H1 l1 k1 T1 dW fS=>k G H1 l1 (P.hh.kp k1.kp) (iz _) fS (fun z=>by rw[z,P.hh.hK] at dW;cases dW) (fun xs e=>by rw[dW] at e;cases e) (k1.tp A) (fun _=>T1)⟩)⟩
  refine⟨_,rfl,rfl,gy (by rcases hp with rfl|rfl|rfl|rfl<;>decide) (ba (q1 _ _ ?_))⟩;refine eG fun n2 q2=> ?_;rcases hp with rfl|hp
  ·obtain⟨x,y,rfl⟩:=MM.eg hn;have hf:=ou hf;obtain⟨x',rfl⟩:=natOf (dO (by decide) hf.1.1);obtain⟨y',rfl⟩:=natOf (dO (by decide) hf.2.1);exact⟨_,rfl,rfl,gw (a8 ⟨_,rfl,_,rfl,l,_,_,_,rfl,rfl,ah.of hl,bL (j:=0) rfl,_,rfl,l,_,_,_,rfl,rfl,ah.of hl,bL (j:=1) rfl,A,G,s,x',y',rfl,P.hh,P.g,P.g2,k⟩)⟩
  refine⟨_,rfl,rfl,gy (by rcases hp with rfl|rfl|rfl<;>decide) (ba (q2 _ _ ?_))⟩;refine eG fun n3 q3=> ?_;rcases hp with rfl|hp
  ·obtain⟨x,y,rfl⟩:=MM.eg hn;have hf:=ou hf;obtain⟨x',rfl⟩:=natOf (dO (by decide) hf.1.1);obtain⟨y',rfl⟩:=natOf (dO (by decide) hf.2.1);exact⟨_,rfl,rfl,gw (a8 ⟨_,rfl,_,rfl,l,_,_,_,rfl,rfl,ah.of hl,bL (j:=0) rfl,_,rfl,l,_,_,_,rfl,rfl,ah.of hl,bL (j:=1) rfl,A,G,s,x',y',rfl,P.hh,P.g,k⟩)⟩
  refine⟨_,rfl,rfl,gy (by rcases hp with rfl|rfl<;>decide) (ba (q3 _ _ ?_))⟩;refine eG fun n4 q4=> ?_;rcases hp with rfl|hp
  ·obtain⟨x,y,rfl⟩:=MM.eg hn;have hf:=ou hf;obtain⟨x',rfl⟩:=natOf (dO (by decide) hf.1.1);obtain⟨y',rfl⟩:=natOf (dO (by decide) hf.2.1);exact⟨_,rfl,rfl,gw (a8 ⟨_,rfl,_,rfl,l,_,_,_,rfl,rfl,ah.of hl,bL (j:=0) rfl,_,rfl,l,_,_,_,rfl,rfl,ah.of hl,bL (j:=1) rfl,A,G,s,x',y',rfl,P.hh,P.g,k⟩)⟩
  refine⟨_,rfl,rfl,gy (by subst hp;decide) (ba (q4 _ _ ?_))⟩;subst hp;obtain⟨x,rfl⟩:=MM.gG hn;have hf:=AL hf;obtain⟨x',rfl⟩:=natOf (dO (by decide) hf.1);exact⟨_,rfl,_,rfl,l,_,_,_,rfl,rfl,ah.of hl,bL (j:=0) rfl,A,G,s,x',rfl,P.hh,P.g,P.g2,k⟩
abbrev G9:aL:=top 90
theorem abh:a9 ["house","name","plain"] ["house","name","plain"] (aQ G9):=bo
theorem abi{fa:aa}{fd:aU}(F:aR K "answer_on_claims" "answer_on_claims" G9 fa fd)(T:Txt K mg Z)(abj:aA P w K mg base "bill" 4 ["house","b","a"] (Fu tb Z))(abk:aA P w K mg base "reject" 3 ["house","number","r"] (EF tb Z))(abl:aA P w K mg base "effect" 2 ["house","number"] (EJ tb Z))(abm:aA P w K mg base "owed" 2 ["house","a","b"] (EO tb Z))(abn:aA P w K mg base "show_claim" 2 ["house","number"] (ET tb Z))(abo:aA P w K mg base "unbilled" 2 ["house","b","a"] (Fm tb Z)):aN P w K mg base aT 5 fa fd ["house","name","plain"] (uq tb Z [7,8,9,10,18,19]):=by
 refine F.bA abh fun aD A0 outer s0 H vs Q E hr h=> ?_
 ·obtain⟨A,G,s,p,l,plain,row,rfl,P,hp,hl,hn,hf,k⟩:=h;refine⟨rfl,_,(aw (bG (bb cQ (pv 1) gf (aZ _))
   (ax (aF (aX abj hr (by decide) rfl (ae (pv 0) (ae (bK (cy (K:=K)) (pv 2) ay (fun _ _=>rfl)) (ae (bK (cy (K:=K)) (pv 2) ay (fun _ _=>rfl)) ai))))))
   bJ)
   (aw (bG (bb cQ (pv 1) gf (aZ _))
   (ax (aF (aX abk hr (by decide) rfl (ae (pv 0) (ae (bK (cy (K:=K)) (pv 2) ay (fun _ _=>rfl)) (ae (bK (cy (K:=K)) (pv 2) ay (fun _ _=>rfl)) ai))))))
   bJ)
   (aw (bG (bb cQ (pv 1) gf (aZ _))
   (ax (aF (aX abl hr (by decide) rfl (ae (pv 0) (ae (bK (cy (K:=K)) (pv 2) ay (fun _ _=>rfl)) ai)))))
   bJ)
   (aw (bG (bb cQ (pv 1) gf (aZ _))
   (ax (aF (aX abm hr (by decide) rfl (ae (pv 0) (ae (bK (cy (K:=K)) (pv 2) ay (fun _ _=>rfl)) (ae (bK (cy (K:=K)) (pv 2) ay (fun _ _=>rfl)) ai))))))
   bJ)
   (aw (bG (bb cQ (pv 1) gf (aZ _))
   (ax (aF (aX abn hr (by decide) rfl (ae (pv 0) (ae (bK (cy (K:=K)) (pv 2) ay (fun _ _=>rfl)) ai)))))
   bJ)
   (ax (aF (aX abo hr (by decide) rfl (ae (pv 0) (ae (bK (cy (K:=K)) (pv 2) ay (fun _ _=>rfl)) (ae (bK (cy (K:=K)) (pv 2) ay (fun _ _=>rfl)) ai))))))))))),?_⟩
  simp only[b0,uG,or_false] at hp;refine eG fun n0 q0=> ?_;rcases hp with rfl|hp
  ·obtain⟨x,y,rfl⟩:=MM.eg hn;have hf:=ou hf;obtain⟨x',rfl⟩:=natOf (dO (by decide) hf.1.1);obtain⟨y',rfl⟩:=natOf (dO (by decide) hf.2.1);exact⟨_,rfl,rfl,gw (a8 ⟨_,rfl,_,rfl,l,_,_,_,rfl,rfl,ah.of hl,bL (j:=0) rfl,_,rfl,l,_,_,_,rfl,rfl,ah.of hl,bL (j:=1) rfl,A,G,s,x',y',rfl,P.hh,P.g,k⟩)⟩
  refine⟨_,rfl,rfl,gy (by rcases hp with rfl|rfl|rfl|rfl|rfl<;>decide) (ba (q0 _ _ ?_))⟩;refine eG fun n1 q1=> ?_;rcases hp with rfl|hp
  ·obtain⟨x,y,rfl⟩:=MM.eg hn;have hf:=ou hf;obtain⟨x',rfl⟩:=natOf (dO (by decide) hf.1.1);obtain⟨y',rfl⟩:=natOf (dO (by decide) hf.2.1);exact⟨_,rfl,rfl,gw (a8 ⟨_,rfl,_,rfl,l,_,_,_,rfl,rfl,ah.of hl,bL (j:=0) rfl,_,rfl,l,_,_,_,rfl,rfl,ah.of hl,bL (j:=1) rfl,A,G,s,x',y',rfl,P.hh,P.g,(by omega),k⟩)⟩
  refine⟨_,rfl,rfl,gy (by rcases hp with rfl|rfl|rfl|rfl<;>decide) (ba (q1 _ _ ?_))⟩;refine eG fun n2 q2=> ?_;rcases hp with rfl|hp
  ·obtain⟨x,rfl⟩:=MM.gG hn;have hf:=AL hf;obtain⟨x',rfl⟩:=natOf (dO (by decide) hf.1);exact⟨_,rfl,rfl,gw (a8 ⟨_,rfl,_,rfl,l,_,_,_,rfl,rfl,ah.of hl,bL (j:=0) rfl,A,G,s,x',rfl,P.hh,P.g,(by omega),k⟩)⟩
  refine⟨_,rfl,rfl,gy (by rcases hp with rfl|rfl|rfl<;>decide) (ba (q2 _ _ ?_))⟩;refine eG fun n3 q3=> ?_;rcases hp with rfl|hp
  ·obtain⟨x,y,rfl⟩:=MM.eg hn;have hf:=ou hf;obtain⟨x',rfl⟩:=natOf (dO (by decide) hf.1.1);obtain⟨y',rfl⟩:=natOf (dO (by decide) hf.2.1);exact⟨_,rfl,rfl,gw (a8 ⟨_,rfl,_,rfl,l,_,_,_,rfl,rfl,ah.of hl,bL (j:=0) rfl,_,rfl,l,_,_,_,rfl,rfl,ah.of hl,bL (j:=1) rfl,A,G,s,x',y',rfl,P.hh,P.g,k⟩)⟩
  refine⟨_,rfl,rfl,gy (by rcases hp with rfl|rfl<;>decide) (ba (q3 _ _ ?_))⟩;refine eG fun n4 q4=> ?_;rcases hp with rfl|hp
  ·obtain⟨x,rfl⟩:=MM.gG hn;have hf:=AL hf;obtain⟨x',rfl⟩:=natOf (dO (by decide) hf.1);exact⟨_,rfl,rfl,gw (a8 ⟨_,rfl,_,rfl,l,_,_,_,rfl,rfl,ah.of hl,bL (j:=0) rfl,A,G,s,x',rfl,P.hh,P.g,(by omega),k⟩)⟩
  refine⟨_,rfl,rfl,gy (by subst hp;decide) (ba (q4 _ _ ?_))⟩;subst hp;obtain⟨x,y,rfl⟩:=MM.eg hn;have hf:=ou hf;obtain⟨x',rfl⟩:=natOf (dO (by decide) hf.1.1);obtain⟨y',rfl⟩:=natOf (dO (by decide) hf.2.1);exact⟨_,rfl,_,rfl,l,_,_,_,rfl,rfl,ah.of hl,bL (j:=0) rfl,_,rfl,l,_,_,_,rfl,rfl,ah.of hl,bL (j:=1) rfl,A,G,s,x',y',rfl,P.hh,P.g,k⟩
abbrev Ha:aL:=top 91
theorem abp:a9 ["house","name","plain","row"] ["house","name","plain","row"] (aQ Ha):=bo
theorem abq{fa:aa}{fd:aU}(F:aR K "answer_on_clearing" "answer_on_clearing" Ha fa fd)(T:Txt K mg Z)(abr:aA P w K mg base "show_nets" 4 ["house"] (FU tb Z))(abt:aA P w K mg base "show_plan" 5 ["house"] (GX tb Z))(abu:aA P w K mg base "clear_claims" 5 ["house"] (G3 tb Z))(abv:aA P w K mg base "show_account" 2 ["house","c"] (FD tb Z))(abw:aA P w K mg base "show_month" 1 ["house"] (EV tb Z))(abx:aA P w K mg base "check_payments" 4 ["house","row"] (G5 tb Z)):aN P w K mg base aT 6 fa fd ["house","name","plain","row"] (ur tb Z [11,12,14,15,20,21]):=by
 refine F.bA abp fun aD A0 outer s0 H vs Q E hr h=> ?_
 ·obtain⟨A,G,s,p,l,lr,plain,row,rfl,P,hp,hl,fq,hn,hf,k⟩:=h;refine⟨rfl,_,(aw (bG (bb cQ (pv 1) gf (aZ _))
   (ax (aF (aX abr hr (by decide) rfl (ae (pv 0) ai))))
   bJ)
   (aw (bG (bb cQ (pv 1) gf (aZ _))
   (ax (aF (aX abt hr (by decide) rfl (ae (pv 0) ai))))
   bJ)
   (aw (bG (bb cQ (pv 1) gf (aZ _))
   (ax (aF (aX abu hr (by decide) rfl (ae (pv 0) ai))))
   bJ)
   (aw (bG (bb cQ (pv 1) gf (aZ _))
   (ax (aF (aX abv hr (by decide) rfl (ae (pv 0) (ae (bK (cy (K:=K)) (pv 2) ay (fun _ _=>rfl)) ai)))))
   bJ)
   (aw (bG (bb cQ (pv 1) gf (aZ _))
   (ax (aF (aX abw hr (by decide) rfl (ae (pv 0) ai))))
   bJ)
   (ax (aF (aX abx hr (by decide) rfl (ae (pv 0) (ae (pv 3) ai)))))))))),?_⟩
  simp only[b0,uG,or_false] at hp;refine eG fun n0 q0=> ?_;rcases hp with rfl|hp
  ·obtain rfl:plain=[]:=eB.mp hn;exact⟨_,rfl,rfl,gw (a8 ⟨_,rfl,A,G,s,rfl,P.hh,P.g,P.g2,k⟩)⟩
  refine⟨_,rfl,rfl,gy (by rcases hp with rfl|rfl|rfl|rfl|rfl<;>decide) (ba (q0 _ _ ?_))⟩;refine eG fun n1 q1=> ?_;rcases hp with rfl|hp
  ·obtain rfl:plain=[]:=eB.mp hn;exact⟨_,rfl,rfl,gw (a8 ⟨_,rfl,A,G,s,rfl,P.hh,P.g,P.g2,P.tab,k⟩)⟩
  refine⟨_,rfl,rfl,gy (by rcases hp with rfl|rfl|rfl|rfl<;>decide) (ba (q1 _ _ ?_))⟩;refine eG fun n2 q2=> ?_;rcases hp with rfl|hp
  ·obtain rfl:plain=[]:=eB.mp hn;exact⟨_,rfl,rfl,gw (a8 ⟨_,rfl,A,G,s,rfl,P.hh,P.g,P.g2,P.tab,k⟩)⟩
  refine⟨_,rfl,rfl,gy (by rcases hp with rfl|rfl|rfl<;>decide) (ba (q2 _ _ ?_))⟩;refine eG fun n3 q3=> ?_;rcases hp with rfl|hp
  ·obtain⟨x,rfl⟩:=MM.gG hn;have hf:=AL hf;obtain⟨x',rfl⟩:=natOf (dO (by decide) hf.1);exact⟨_,rfl,rfl,gw (a8 ⟨_,rfl,_,rfl,l,_,_,_,rfl,rfl,ah.of hl,bL (j:=0) rfl,A,G,s,x',rfl,P.hh,P.g,k⟩)⟩
  refine⟨_,rfl,rfl,gy (by rcases hp with rfl|rfl<;>decide) (ba (q3 _ _ ?_))⟩;refine eG fun n4 q4=> ?_;rcases hp with rfl|hp
  ·obtain rfl:plain=[]:=eB.mp hn;exact⟨_,rfl,rfl,gw (a8 ⟨_,rfl,A,G,s,rfl,P.hh,k⟩)⟩
  refine⟨_,rfl,rfl,gy (by subst hp;decide) (ba (q4 _ _ ?_))⟩;subst hp;obtain rfl:plain=[]:=eB.mp hn;have hf:=aa1 hf;obtain⟨n,r1,r2,r3,r4⟩:=G6 (m:=1000000000000000000) hf (by decide) (by decide) (by decide);exact⟨_,rfl,_,rfl,A,G,s,n,lr,row,rfl,P.hh,P.g,P.g2,fq,r1,by omega,(fun z hz=>(r4 z hz).1),k⟩
open PySem PySem.Spec PyProof.Rows L2
open Vbahak (State Carrier Part Ticket Nets total Pay)
theorem OM(l:aM)(h:l.length<=10):(gQ l).length<=100:=by
 unfold gQ;have hn:(Bi l).length<=10:=dr (lA _ _) h;have h1:=k8 (f:=fun g:aM=>mS g.length g) (m:=10) (l:=pZ (Bi l).length (Bi l)) (fun x hx=>by
  have:=(AG _ _ _ hx).1.length_le;have:=xl x.length x;omega)
 have h2:=split_len (Bi l).length (Bi l);omega
theorem Hb{s:State}(g:MM.Good s):(gC s).length<=10:=by
 unfold gC;rw[ao];exact g.gY
theorem Hc{s:State}{t i:Nat}{k:bI->bT->State×List Int}(h:∀x p,(k x p).2.length<=500):(rn s t i k).2.length<=500:=by
 unfold rn;split
 ·exact(by decide:1<=500)
 ·split
  ·exact(by decide:1<=500)
  ·exact h _ _
theorem Hd{s:State}{i:Nat}{k:dj->State×List Int}(h:∀x,(k x).2.length<=500):(oF s i k).2.length<=500:=by
 unfold oF;split
 ·exact(by decide:1<=500)
 ·exact h _
theorem ON(l:List Nat):(Vbahak.ints l).length=l.length:=by unfold Vbahak.ints;rw[ao]
theorem OO(l:List Pay):(l.flatMap Bl).length<=3*l.length:=k8 fun _ _=>aI 3
theorem aby{s:State}(g:MM.Good s)(c:Qm)(hi:∀t a v ps,c= .issue t a v ps->ps.length<=100)(hc:∀v ps,c= .cut v ps->ps.length<=100):(bE s c).2.length<=500:=by
 have one:∀(s:State) (z:Int),((s,[z]):State×List Int).2.length<=500:=fun _ _=>(by decide:1<=500);cases c with
 |carrier c k=>
  simp only[bE]
  split
  ·exact one _ _
  ·split<;>exact one _ _
 |rate k n d=>exact one _ _
 |charge a b bp=>
  simp only[bE]
  split
  ·exact one _ _
  ·split<;>exact one _ _
 |issue t a v ps=>
  simp only[bE]
  have:=hi t a v ps rfl
  split
  ·exact one _ _
  ·split
   ·exact one _ _
   ·split
    ·exact one _ _
    ·show(0::Vbahak.ints _).length<=500
     rw[bH,ON,MM.vL,ao];omega
 |cut v ps=>
  have:=hc v ps rfl
  show(0::Vbahak.ints _).length<=500
  rw[bH,ON,MM.vL];omega
 |fly t i=>
  exact Hc fun x p=>by
   split
   ·exact one _ _
   ·exact(by decide:3<=500)
 |refund t i=>
  exact Hc fun x p=>by
   split
   ·exact one _ _
   ·exact(by decide:2<=500)
 |bill b a=>
  simp only[bE]
  split
  ·split
   ·exact one _ _
   ·split
    ·exact one _ _
    ·split
     ·exact one _ _
     ·rename_i r _ hm
      show(0::Iy _ _).length<=500
      rw[bH]
      have h1:=k8 (f:=fun x:dj=>[(x.id:Int),(x.amount:Int)]) (m:=2) (l:=(eR s b a).zipIdx.map fun z=>ir s z.2 b a (gz (z.1.2.2.share-z.1.2.2.kept) r.1 r.2)) (fun _ _=>aI 2)
      rw[ao,oz] at h1
      have:(eR s b a).length<=200:=by unfold pQ at hm;omega
      exact dr (HY h1) (by omega)
  ·exact one _ _
 |reject i r=>
  exact Hd fun x=>by
   split
   ·exact one _ _
   ·split
    ·exact one _ _
    ·split
     ·exact one _ _
     ·exact(by decide:2<=500)
 |effect i=>exact Hd fun x=>(by decide:2<=500)
 |owed a b=>
  simp only[bE]
  split
  ·exact one _ _
  ·exact(by decide:3<=500)
 |nets=>
  show(0::Iy _ _).length<=500
  rw[bH]
  have h1:=k8 (f:=fun p:Nat×Int=>[(p.1:Int),p.2]) (m:=2) (l:=gC s) (fun _ _=>aI 2)
  have h2:=Hb g
  omega
 |plan=>
  show(0::Iy _ _).length<=500
  rw[bH]
  have h1:=OO (gQ (gC s))
  have h2:=OM _ (Hb g)
  omega
 |suspend c f=>
  simp only[bE]
  split<;>exact one _ _
 |clear=>
  show(0::Iy _ _).length<=500
  rw[bH]
  have h1:=OO (gQ (gC s))
  have h2:=OM _ (Hb g)
  omega
 |account c=>
  simp only[bE]
  split
  ·exact one _ _
  ·exact(by decide:6<=500)
 |books a=>
  simp only[bE]
  split
  ·exact one _ _
  ·exact(by decide:7<=500)
 |part t i=>exact Hc fun x p=>(by decide:6<=500)
 |claim i=>exact Hd fun x=>(by decide:9<=500)
 |unbilled b a=>
  simp only[bE]
  split
  ·exact one _ _
  ·split
   ·exact one _ _
   ·exact(by decide:3<=500)
 |month=>exact(by decide:2<=500)
 |check ps=>
  simp only[bE]
  split
  ·exact one _ _
  ·exact(by decide:2<=500)
theorem vQ:∀l:List Nat,(rm l).length<=l.length
 |[]=>aI _
 |[_]=>du _
 |[_,_]=>du _
 |_::_::_::r=>by have:=vQ r;simp only[rm,bH];omega
theorem pairs_len:∀l:List Nat,(uP l).length<=l.length
 |[]=>aI _
 |[_]=>du _
 |_::_::r=>by have:=pairs_len r;simp only[uP,bH];omega
def isI:Qm->Nat
 | .issue _ _ _ _=>1
 | .cut _ _=>2
 |_=>0
theorem OP{p:Nat}{plain row:List Int}(h:isI (MM.o8 p plain row)≠0):(p=3/\plain.length=3)\/(p=4/\plain.length=1):=by
 rcases p with _|_|_|_|_|_|_|_|_|_|_|_|_|_|_|_|_|_|_|_|_|_|p<;>rcases plain with _|⟨x,_|⟨y,_|⟨z,_|_⟩⟩⟩<;>first|exact absurd rfl h|exact .inl ⟨rfl,rfl⟩|exact .inr ⟨rfl,rfl⟩
theorem OQ{p:Nat}{plain row:List Int}{t a v:Nat}{ps:List (Nat×Nat×Nat)}(h:MM.o8 p plain row= .issue t a v ps):p=3/\ps=rm (jL row):=by
 rcases OP (row:=row) (by rw[h];exact Nat.one_ne_zero) with⟨rfl,hl⟩|⟨rfl,hl⟩
 ·obtain⟨x,y,z,rfl⟩:=MM.kJ hl;injection h with _ _ _ h;exact⟨rfl,h.symm⟩
 ·obtain⟨x,rfl⟩:=MM.gG hl;cases h
theorem abA{p:Nat}{plain row:List Int}{v:Nat}{ps:List (Nat×Nat)}(h:MM.o8 p plain row= .cut v ps):ps=uP (jL row):=by
 rcases OP (row:=row) (by rw[h];exact Nat.succ_ne_zero 1) with⟨rfl,hl⟩|⟨rfl,hl⟩
 ·obtain⟨x,y,z,rfl⟩:=MM.kJ hl;cases h
 ·obtain⟨x,rfl⟩:=MM.gG hl;injection h with _ h;exact h.symm
theorem abB{s:State}(g:MM.Good s)(p:Nat)(plain row:List Int)(hr:row.length<=100):(MM.gX s p plain row).2.length<=500:=by
 unfold MM.gX;have nl:(jL row).length=row.length:=by unfold jL;rw[ao]
 split
 ·refine aby g _ (fun t a v ps e=> ?_) (fun v ps e=> ?_)
  ·rw[(OQ e).2];have:=vQ (jL row);omega
  ·rw[abA e];have:=pairs_len (jL row);omega
 ·exact(by decide:1<=500)
theorem abC{s:State}(g:MM.Good2 s)(p:Nat)(plain row:List Int):MM.Good2 (MM.gX s p plain row).1:=by
 unfold MM.gX;split
 ·exact MM.Vk g _
 ·exact g
def Ne(s:State):Prop:=∀x∈s.tickets,x.parts≠[]
theorem OR{s:State}(h:Ne s)(t i:Nat)(p:bT):Ne (Ik s t i p):=fun x hx=>by
 unfold Ik at hx;obtain⟨y,hy,rfl⟩:=bh.mp hx;by_cases e:y.t=t
 ·rw[if_pos e];intro z;have z:y.parts.set i p=[]:=z;have:=congrArg iV z;rw[uJ] at this;exact h y hy (eB.mp this)
 ·rw[if_neg e];exact h y hy
theorem He{s:State}{t i:Nat}{k:bI->bT->State×List Int}(h:Ne s)(hk:∀x p,Ne (k x p).1):Ne (rn s t i k).1:=by
 unfold rn;split
 ·exact h
 ·split
  ·exact h
  ·exact hk _ _
theorem Hf{s:State}{i:Nat}{k:dj->State×List Int}(h:Ne s)(hk:∀x,Ne (k x).1):Ne (oF s i k).1:=by
 unfold oF;split
 ·exact h
 ·exact hk _
theorem abD{s:State}(h:Ne s)(c:Qm)(hi:∀t a v ps,c= .issue t a v ps->ps≠[]):Ne (bE s c).1:=by
 cases c with
 |carrier c k=>
  simp only[bE]
  split
  ·exact h
  ·split<;>exact h
 |rate k n d=>exact h
 |charge a b bp=>
  simp only[bE]
  split
  ·exact h
  ·split<;>exact h
 |issue t a v ps=>
  simp only[bE]
  have cw:=hi t a v ps rfl
  split
  ·exact h
  ·split
   ·exact h
   ·split
    ·exact h
    ·intro x hx
     have hx:x∈s.tickets++[_]:=hx
     rcases ff.mp hx with hx|hx
     ·exact h x hx
     ·rw[ik.mp hx]
      intro z
      have z:=congrArg iV z
      have z:((ps.zip (mT v (ps.map fun p=>p.2))).map fun z=>({carrier:=z.1.1,share:=z.2,kept:=0,stage:=0,claim:=0}:bT)).length=0:=z
      rw[ao,rk,MM.vL,ao,x8] at z
      exact cw (eB.mp z)
 |cut v ps=>exact h
 |fly t i=>
  exact He h fun x p=>by
   split
   ·exact h
   ·exact OR h _ _ _
 |refund t i=>
  exact He h fun x p=>by
   split
   ·exact h
   ·exact OR h _ _ _
 |bill b a=>
  simp only[bE]
  split
  ·split
   ·exact h
   ·split
    ·exact h
    ·split
     ·exact h
     ·intro x hx
      obtain⟨y,hy,rfl⟩:=bh.mp hx
      by_cases e:y.issuer=a
      ·rw[if_pos e]
       intro z
       have z:=congrArg iV z
       simp only[ao,oz,Ij] at z
       exact h y hy (eB.mp z)
      ·rw[if_neg e];exact h y hy
  ·exact h
 |reject i r=>
  exact Hf h fun x=>by
   split
   ·exact h
   ·split
    ·exact h
    ·split<;>exact h
 |effect i=>exact Hf h fun x=>h
 |owed a b=>
  simp only[bE]
  split<;>exact h
 |nets=>exact h
 |plan=>exact h
 |suspend c f=>
  simp only[bE]
  split<;>exact h
 |clear=>exact h
 |account c=>
  simp only[bE]
  split<;>exact h
 |books a=>
  simp only[bE]
  split<;>exact h
 |part t i=>exact He h fun x p=>h
 |claim i=>exact Hf h fun x=>h
 |unbilled b a=>
  simp only[bE]
  split
  ·exact h
  ·split<;>exact h
 |month=>exact h
 |check ps=>
  simp only[bE]
  split<;>exact h
theorem abE{s:State}(h:Ne s)(p:Nat)(plain row:List Int):Ne (MM.gX s p plain row).1:=by
 unfold MM.gX;split
 ·rename_i hf;refine abD h _ fun t a v ps e=> ?_;obtain⟨e3,e4⟩:=OQ e;rw[e4];subst e3;have hf:((MM.qv 3 plain).all id&&MM.iM ((1,8),[(0,675),(0,1000000),(0,1000000000)]) row)=true:=hf;rw[cM] at hf;obtain⟨n,r1,r2,r3,r4⟩:=G6 (m:=1000000000) hf.2 (by decide) (by decide) (by decide);have:=(MM.yY n row r1 fun z hz=>(r4 z hz).1).2.2.2;intro z;rw[z] at this;have:(0:Nat)=n:=this;omega
 ·exact h
theorem aE.abF{Z:aK}{A:Ad}{G:Gh}{H:Hp}{s:State}(hh:aE Z A G H s)(hn:Ne s){l:aa}{zs:List Int}(hl:H l=some (.lst (zs.map V.int))):∀(i:Nat) g,G.tg[i]? =some g->g.l≠l:=fun i g hg z=>by
 obtain⟨x,hx⟩:=kQ hh.tL.symm hg;have t:=hh.tV i x g hx hg;have cw:=hn x (bP hx);have e:=t.l;rw[z,hl] at e;have e2:zs.map V.int=g.ps.map V.ref:=by injection e with e;injection e
 cases j5:g.ps with
 |nil=>
  have:=t.len
  rw[j5] at this
  exact cw (eB.mp this.symm)
 |cons b bs=>
  rw[j5] at e2
  cases zs with
  |nil=>simp at e2
  |cons y ys=>simp at e2
abbrev Hg:aL:=top 92
theorem abG:a9 ["house","name","plain","row"] ["house","name","plain","row"] (aQ Hg):=bo
def Hh(tb:cf)(Z:aK):Sp:=fun vs H Q _=>∃(A:Ad) (G:Gh) (s:State) (p:Nat) (l lr:aa) (plain row:List Int),vs=[.ref A.p,.str (nameOf p),.ref l,.ref lr]/\AK tb Z A G H s/\p<=21/\H l=some (.lst (plain.map V.int))/\H lr=some (.lst (row.map V.int))/\plain.length=(MM.eE p).length/\MM.fits p plain row=true/\c8 tb Z A G H (bE s (MM.o8 p plain row)) Q
theorem OS:∀q:_root_.Fin 22,jT (.str (nameOf q.val)) [.str "carrier",.str "rate",.str "charge",.str "suspend"]=decide (q.val∈[0,1,2,13]):=by decide+kernel
theorem in_K:∀q:_root_.Fin 22,jT (.str (nameOf q.val)) [.str "issue",.str "cut",.str "fly",.str "refund",.str "part",.str "books"]=decide (q.val∈[3,4,5,6,17,16]):=by decide+kernel
theorem OT:∀q:_root_.Fin 22,jT (.str (nameOf q.val)) [.str "bill",.str "reject",.str "effect",.str "owed",.str "claim",.str "unbilled"]=decide (q.val∈[7,8,9,10,18,19]):=by decide+kernel
theorem abH:∀q:_root_.Fin 22,q.val∉[0,1,2,13]->q.val∉[3,4,5,6,17,16]->q.val∉[7,8,9,10,18,19]->q.val∈[11,12,14,15,20,21]:=by decide+kernel
theorem abI{fa:aa}{fd:aU}(F:aR K "answer_fitting" "answer_fitting" Hg fa fd)(T:Txt K mg Z)(W:pB K w mg dF dR tT tK tC)
  (abJ:aA P w K mg base "answer_on_terms" 4 ["house","name","plain"] (uq tb Z [0,1,2,13])) (abK:aA P w K mg base "answer_on_tickets" 4 ["house","name","plain","row"] (ur tb Z [3,4,5,6,17,16]))
  (abL:aA P w K mg base "answer_on_claims" 5 ["house","name","plain"] (uq tb Z [7,8,9,10,18,19])) (abM:aA P w K mg base "answer_on_clearing" 6 ["house","name","plain","row"] (ur tb Z [11,12,14,15,20,21])):aN P w K mg base aT 7 fa fd ["house","name","plain","row"] (Hh tb Z):=by
 refine F.bA abG fun aD A0 outer s0 H vs Q E hr h=> ?_
 ·obtain⟨A,G,s,p,l,lr,plain,row,rfl,P,hp,hl,fq,hn,hf,k⟩:=h;refine⟨rfl,_,(aw (bG (bb (zp (K:=K)) (pv 1) (pf rfl W.XE) (by with_unfolding_all rfl))
   (ax (aF (aX abJ hr (by decide) rfl (ae (pv 0) (ae (pv 1) (ae (pv 2) ai))))))
   bJ)
   (aw (bG (bb (zp (K:=K)) (pv 1) (pf rfl W.XF) (by with_unfolding_all rfl))
   (ax (aF (aX abK hr (by decide) rfl (ae (pv 0) (ae (pv 1) (ae (pv 2) (ae (pv 3) ai)))))))
   bJ)
   (aw (bG (bb (zp (K:=K)) (pv 1) (pf rfl W.XG) (by with_unfolding_all rfl))
   (ax (aF (aX abL hr (by decide) rfl (ae (pv 0) (ae (pv 1) (ae (pv 2) ai))))))
   bJ)
   (ax (aF (aX abM hr (by decide) rfl (ae (pv 0) (ae (pv 1) (ae (pv 2) (ae (pv 3) ai)))))))))),?_⟩
  have hp':p<22:=by omega
  by_cases c1:p∈[0,1,2,13]
  ·exact⟨_,rfl,tT,_,rfl,.inr W.tQ.sq,rfl,rfl,true,congrArg V.bl ((OS ⟨p,hp'⟩).trans (decide_eq_true c1)),a8 ⟨_,rfl,_,rfl,_,rfl,A,G,s,p,l,plain,row,rfl,P,c1,hl,hn,hf,k⟩⟩
  refine⟨_,rfl,tT,_,rfl,.inr W.tQ.sq,rfl,rfl,false,congrArg V.bl ((OS ⟨p,hp'⟩).trans (decide_eq_false c1)),ba ?_⟩;by_cases c2:p∈[3,4,5,6,17,16]
  ·exact⟨_,rfl,tK,_,rfl,.inr W.tS.sq,rfl,rfl,true,congrArg V.bl ((in_K ⟨p,hp'⟩).trans (decide_eq_true c2)),a8 ⟨_,rfl,_,rfl,_,rfl,_,rfl,A,G,s,p,l,lr,plain,row,rfl,P,c2,hl,fq,hn,hf,k⟩⟩
  refine⟨_,rfl,tK,_,rfl,.inr W.tS.sq,rfl,rfl,false,congrArg V.bl ((in_K ⟨p,hp'⟩).trans (decide_eq_false c2)),ba ?_⟩;by_cases c3:p∈[7,8,9,10,18,19]
  ·exact⟨_,rfl,tC,_,rfl,.inr W.tU.sq,rfl,rfl,true,congrArg V.bl ((OT ⟨p,hp'⟩).trans (decide_eq_true c3)),a8 ⟨_,rfl,_,rfl,_,rfl,A,G,s,p,l,plain,row,rfl,P,c3,hl,hn,hf,k⟩⟩
  refine⟨_,rfl,tC,_,rfl,.inr W.tU.sq,rfl,rfl,false,congrArg V.bl ((OT ⟨p,hp'⟩).trans (decide_eq_false c3)),ba ?_⟩;exact⟨_,rfl,_,rfl,_,rfl,_,rfl,A,G,s,p,l,lr,plain,row,rfl,P,abH ⟨p,hp'⟩ c1 c2 c3,hl,fq,hn,hf,k⟩
abbrev Hi:aL:=top 93
theorem abN:a9 ["house","place","plain","row"] ["house","place","plain","row"] (aQ Hi):=bo
theorem c8.pre{tb:cf}{Z:aK}{A:Ad}{G:Gh}{H H1:Hp}{r:State×List Int}{Q:VK}(s1:af H H1)(k:c8 tb Z A G H r Q):c8 tb Z A G H1 r Q:=
 fun G' H' l h1 h2 h3 h4 h5 h6 h7=>k G' H' l h1 h2 h3 h4 (fun xs e=>h5 xs (s1 _ _ e)) ((cP.of s1).L.trans h6) (fun t=>h7 (Tab.same s1 t))
def AM(tb:cf)(Z:aK):Sp:=fun vs H Q _=>∃(A:Ad) (G:Gh) (s:State) (p:Nat) (l lr:aa) (plain row:List Int),vs=[.ref A.p,nI p,.ref l,.ref lr]/\AK tb Z A G H s/\p<=21/\H l=some (.lst (plain.map V.int))/\H lr=some (.lst (row.map V.int))/\plain.length=(MM.eE p).length/\row.length<=100/\c8 tb Z A G H (MM.gX s p plain row) Q
theorem abO{p:Nat}:(MM.eE p).length<=3:=by
 rcases p with _|_|_|_|_|_|_|_|_|_|_|_|_|_|_|_|_|_|_|_|_|_|p<;>exact aeQ rfl
theorem abP{fa:aa}{fd:aU}(F:aR K "answer_call" "answer_call" Hi fa fd)(T:Txt K mg Z)(abQ:aA P w K mg base "call_fits" 3 ["place","plain","row"] NA)(wW:aA P w K mg base "name_of" 1 ["place"] Ap)(abR:aA P w K mg base "answer_fitting" 7 ["house","name","plain","row"] (Hh tb Z)):aN P w K mg base aT 8 fa fd ["house","place","plain","row"] (AM tb Z):=by
 refine F.bA abN fun aD A0 outer s0 H vs Q E hr h=> ?_
 ·obtain⟨A,G,s,p,l,lr,plain,row,rfl,P,hp,hl,fq,hn,kM,k⟩:=h;refine⟨rfl,_,(aw (bG (iE (fh (aX abQ hr (by decide) rfl (ae (pv 1) (ae (pv 2) (ae (pv 3) ai))))))
   (ax (aF (a7 (ae (cq rfl T.Xz) ai))))
   bJ)
   (ax (aF (aX abR hr (by decide) rfl (ae (pv 0) (ae (aX wW hr (by decide) rfl (ae (pv 1) ai)) (ae (pv 2) (ae (pv 3) ai)))))))),?_⟩
  have f3:=abO (p:=p);refine⟨_,rfl,_,rfl,_,rfl,p,l,lr,plain,row,rfl,hp,hl,hn,by omega,fq,dk (by omega),fun H1 s1=>⟨_,rfl,?_⟩⟩;unfold MM.gX at k;cases c:MM.fits p plain row with
  |false=>
   rw[c,if_neg (by decide)] at k
   exact a8 ⟨by show 1<=sizeLine;decide,fun l hl=>k.out P.hh s1 hl⟩
  |true=>
   rw[c,if_pos rfl] at k
   refine ba ⟨_,rfl,_,rfl,p,rfl,hp,_,rfl,_,rfl,A,G,s,p,l,lr,plain,row,rfl,⟨P.hh.kp (Kp.of s1),P.g,P.g2,P.n,Tab.same s1 P.tab⟩,hp,s1 _ _ hl,s1 _ _ fq,hn,c,k.pre s1⟩
end CM
namespace L2
theorem OU(xs:List V){i j:Nat}(h1:i<=j)(h2:j<=xs.length):lY xs (some (i:Int)) (some (j:Int))=(xs.drop i).take (j-i):=by
 unfold lY;rw[HT.B3,HT.B3,Im h2,Im (dr h1 h2)]
end L2
namespace CM
open PySem PySem.Spec PyProof.Rows L2
open Vbahak (State Carrier Part Ticket Nets total Pay)
def Lk(K:aC)(A:Ad)(H:Hp)(l:aa)(xs:List V):Prop:=((∃o,H l=some (.bF o (.lst xs)))/\l≠A.lC)\/∃(o:Obj) (aj:Array ab) (n:Nat),K.lookup l=some o/\o.cls= .type "list"/\o.dict=none/\o.data= .seq aj n/\aj.size<=sizeLine/\Vals xs aj.toList
theorem Lk.sq{K:aC}{A:Ad}{H:Hp}{l:aa}{xs:List V}(h:Lk K A H l xs):ah K H l xs:=by
 rcases h with⟨⟨o,e⟩,_⟩|h
 ·exact .inl (.inr ⟨o,e⟩)
 ·exact .inr h
theorem Lk.fr{K:aC}{A:Ad}{H H':Hp}{l:aa}{xs:List V}(f:kP A H H')(h:Lk K A H l xs):Lk K A H' l xs:=by
 rcases h with⟨⟨o,e⟩,n⟩|h
 ·exact .inl ⟨⟨o,f _ _ e rfl n⟩,n⟩
 ·exact .inr h
theorem kP.but{A:Ad}{H:Hp}{l:aa}{xs:List V}{o:HO}{b:aa}{u:HO}(e:H b=some u)(n:b≠l):upd H l o b=some u:=by rw[ag n];exact e
structure AN(tb:cf)(Z:aK)(K:aC)(calls:List Int)(l lg:aa)(A:Ad)(k:Nat)(σ:L2.St)(H':Hp)(s:State)(G:Gh)(at_ f:Nat)(cs:List (List (List Int)))(done:List Int)(v4 v5 v6 v7 v8:Option V):Prop where
 k:k=calls.length-at_
 st:σ=[some (.ref l),some (.ref A.p),some (.ref lg),some (nI at_),v4,v5,v6,v7,v8]
 le:at_<=calls.length
 cl:lK iw f (calls.drop at_)=some cs
 lk:Lk K A H' l (calls.map V.int)
 hh:aE Z A G H' s
 g:MM.Good s
 g2:MM.Good2 s
 tab:Tab tb H'
 n:G.n+cs.length<=400
 hg:H' lg=some (.lst (done.map V.int))
 ng:lg≠A.lC
 ne:Ne s
 len:done.length+501*cs.length<=200400
 OV:done++MM.sv s cs=HL calls
 ask:∀c∈cs,Pe c=true
theorem abS(s:State):MM.sv s []=[]:=rfl
theorem abT{q:Nat}{plain row:List Int}(h:Pe (MM.rowsOf q plain row)=true)(hr:MM.mf q=true):row.length<=100:=by
 unfold MM.rowsOf at h;rw[if_pos hr] at h;have rw1:∀r:List Int,A6 r=true->r.length<=100:=fun r hr=>by
  unfold A6 at hr;rw[cM] at hr;exact of_decide_eq_true hr.1
 have big:∀l:List Int,(decide (1<=[l,row].length)&&(decide ([l,row].length<=3)&&[l,row].all A6))=true->row.length<=100:=fun l h=>by
  rw[cM,cM] at h;exact rw1 _ (oC.mp h.2.2 row (bR _ bS))
 rcases q with _|_|_|_|_|_|_|_|_|_|_|_|_|_|_|_|_|_|_|_|_|_|q;any_goals (cases hr;done)
 ·match plain,h with
  |[x,y,z],h=>
   have h:(Hv x&&(Hv y&&(Hv z&&A6 row)))=true:=h
   rw[cM,cM,cM] at h
   exact rw1 _ h.2.2.2
  |[],h=>exact big [3] h
  |[_],h=>exact big _ h
  |[_,_],h=>exact big _ h
  |_::_::_::_::_,h=>exact big _ h
 ·match plain,h with
  |[x],h=>
   have h:(Hv x&&A6 row)=true:=h
   rw[cM] at h
   exact rw1 _ h.2
  |[],h=>exact big [4] h
  |_::_::_,h=>exact big _ h
 ·match plain,h with
  |[],h=>exact rw1 _ h
  |_::_,h=>exact big _ h
variable{P:bg}{w:aW}{K:aC}{mg:Str->Option ab}{base:aB}{Z:aK}{tb:cf}{dF dR tT tK tC cA cB:aa}
def Hj(tb:cf)(Z:aK)(K:aC):TS:=yl (yp (B1 (AM tb Z) [] E0 (lX (lT 1) (lX (lT 4) (lX (lT 6) (lX (lT 7) m6))))) (mY 8)) (yl (BH (B6 K "list" JH (lT 2) (lX (B2 (LQ K) (lX (lT 8) m6)) m6))) (BH (B6 K "list" JI (lT 2) (lX (lT 8) m6))))
theorem OW{D:Ends}{calls:List Int}{l lg:aa}{A:Ad}{k:Nat}{σ:L2.St}{H' H2:Hp}{s:State}{G:Gh}{at_ at2 f f' q:Nat}{plain row:List Int}{cs cs':List (List (List Int))}{done:List Int}{v4 v5 v6 v7 v8 w5 w8:Option V}{lp lr:aa}(W:AN tb Z K calls l lg A k σ H' s G at_ f cs done v4 v5 v6 v7 v8)(s2:af H' H2)(hp:H2 lp=some (.lst (plain.map V.int)))(hw:H2 lr=some (.lst (row.map V.int)))(hq:q<=21)(hl:plain.length=(MM.eE q).length)(kM:row.length<=100)(AO:cs=MM.rowsOf q plain row::cs')(h1:at_<at2)(h2:at2<=calls.length)(hc:lK iw f' (calls.drop at2)=some cs')
  (hN:∀σ' H'',(∃m',m'<k/\∃s G at_ f cs done v4 v5 v6 v7 v8,AN tb Z K calls l lg A m' σ' H'' s G at_ f cs done v4 v5 v6 v7 v8)->D.nx σ' H''):
  Hj tb Z K D [some (.ref l),some (.ref A.p),some (.ref lg),some (nI at2),some (nI q),w5,some (.ref lp),some (.ref lr),w8] H2:=by
 subst AO;have hn:=W.n;have hlen:=W.len;rw[bH] at hn hlen;refine⟨_,rfl,_,rfl,_,rfl,_,rfl,A,G,s,q,lp,lr,plain,row,rfl,⟨W.hh.kp (Kp.of s2),W.g,W.g2,by omega,Tab.same s2 W.tab⟩,hq,hp,hw,hl,kM,fun G' H3 l8 h3 hG Hk n8 hnl f3 t3=> ?_⟩;have OX:H2 lg=some (.lst (done.map V.int)):=s2 _ _ W.hg;have uu:H3 lg=some (.lst (done.map V.int)):=f3 _ _ OX rfl W.ng;have n89:l8≠lg:=fun z=>hnl _ (z▸OX);have slen:=abB W.g q plain row kM;generalize eV:MM.gX s q plain row=st at h3 Hk slen;have lk3:Lk K A H3 l (calls.map V.int):=(W.lk.fr ((cP.of s2).L)).fr f3;have neS:Ne st.1:=by rw[<-eV];exact abE W.ne q plain row
 refine⟨_,rfl,.inl ⟨rfl,_,ah.of uu⟩,_,rfl,l8,_,rfl,.inl (ah.of Hk),?_⟩;have big:(16777216:Nat)=sizeLine:=rfl;refine⟨lg,_,_,rfl,rfl,uu,by rw[ao,<-big];omega,?_⟩;refine⟨_,rfl,.inl ⟨rfl,_,ah.of au⟩,_,rfl,lg,l8,_,_,rfl,rfl,au,by rw[ag n89];exact Hk,?_,?_⟩
 ·rw[dJ,ao,ao,<-big];show done.length+1+_<=_;omega
 rw[yb];have bt:bM lg H3 (upd H3 lg (.lst (done.map V.int++[V.int ((st.2.map V.int).length:Nat)]++st.2.map V.int))):=bM.upd;refine hN _ _ ⟨calls.length-at2,by rw[W.k];omega,st.1,G',at2,f',cs',done++((st.2.length:Int)::st.2),_,_,_,_,_,rfl,rfl,h2,hc,?_,?_,?_,?_,?_,by omega,?_,W.ng,neS,?_,?_,fun c hc=>W.ask c (bR _ hc)⟩
 ·rcases lk3 with⟨⟨o,e⟩,n⟩|h
  ·exact .inl ⟨⟨o,by rw[ag (cv e uu (by simp))];exact e⟩,n⟩
  ·exact .inr h
 ·exact aE.off h3 uu W.ng (h3.abF neS uu) bt
 ·rw[<-eV];exact MM.UU W.g q plain row hq hl
 ·rw[<-eV];exact abC W.g2 q plain row
 ·exact(t3 (Tab.same s2 W.tab)).keep fun b o e qq=>bt _ _ e (cv e uu (by rintro rfl;exact nomatch qq.2))
 ·rw[au,cZ,ao];simp
 ·rw[dJ,bH];omega
 ·rw[<-W.OV,MM.UJ _ _ _ _ _ hq hl,eV,xK]
abbrev AQ:aL:=top 94
theorem j8:a9 ["calls","house","given","at","place","plain_end","plain","row","answer"] ["calls"] (aQ AQ):=bo
def AR(tb:cf)(Z:aK)(K:aC):Sp:=fun vs H Q _=>∃(l:aa) (calls:List Int),vs=[.ref l]/\((∃o,H l=some (.bF o (.lst (calls.map V.int))))\/∃(o:Obj) (aj:Array ab) (n:Nat),K.lookup l=some o/\o.cls= .type "list"/\o.dict=none/\o.data= .seq aj n/\aj.size<=sizeLine/\Vals (calls.map V.int) aj.toList)/\
 Pf calls=true/\Tab tb H/\∀H' l',H' l'=some (.lst ((HL calls).map V.int))->Q (.ref l') H'
theorem abV{fa:aa}{fd:aU}(F:aR K "answers" "answers" AQ fa fd)(T:Txt K mg Z)(abW:i7 P w K mg base "House" Z.h 1 ["self"] (MU Z))(abX:aA P w K mg base "plain_count" 1 ["place"] Nw)(F7:aA P w K mg base "has_row" 2 ["place"] FY)(abY:aA P w K mg base "answer_call" 8 ["house","place","plain","row"] (AM tb Z)):aN P w K mg base aT 9 fa fd ["calls"] (AR tb Z K):=by
 refine F.bA j8 fun aD A0 outer s0 H vs Q E hr h=> ?_
 ·obtain⟨l,calls,rfl,hl,xq,fc,kk⟩:=h;obtain⟨cs0,AO,iI,abZ⟩:=MM.UL xq;have ab0:=MM.UK AO;refine⟨rfl,_,(aw (aP (i:=1) j8.nd rfl (.inl rfl) (Vt abW hr (by decide) rfl ))
   (aw (aP (i:=2) j8.nd rfl (.inl rfl) (a7 ai))
   (aw (aP (i:=3) j8.nd rfl (.inl rfl) ay)
   (aw (vf fX (bb rR (pv 3) (cC (fT (K:=K)) (by rfl) T.fm fE (ae (pv 0) ai)) (aZ _))
   (aw (aP (i:=4) j8.nd rfl (.inl rfl) (bK (cy (K:=K)) (pv 0) (pv 3) (fun _ _=>rfl)))
    (aw (aP (i:=5) j8.nd rfl (.inl rfl) (cp jR (cp jR (pv 3) ay) (aX abX hr (by decide) rfl (ae (pv 4) ai))))
    (aw (aP (i:=6) j8.nd rfl (.inl rfl) (B5 (Dk (K:=K)) (pv 0) (fw (cp jR (pv 3) ay)) (fw (pv 5))))
    (aw (aP (i:=7) j8.nd rfl (.inl rfl) (a7 ai))
    (aw (aP (i:=3) j8.nd rfl (.inl rfl) (pv 5))
    (aw (bG (fh (aX F7 hr (by decide) rfl (ae (pv 4) ai)))
    (aw (aP (i:=3) j8.nd rfl (.inl rfl) (cp jR (cp jR (pv 5) ay) (bK (cy (K:=K)) (pv 0) (pv 5) (fun _ _=>rfl))))
     (ax (aP (i:=7) j8.nd rfl (.inl rfl) (B5 (Dk (K:=K)) (pv 0) (fw (cp jR (pv 5) ay)) (fw (pv 3))))))
    bJ)
    (aw (aP (i:=8) j8.nd rfl (.inl rfl) (aX abY hr (by decide) rfl (ae (pv 1) (ae (pv 4) (ae (pv 6) (ae (pv 7) ai))))))
    (aw (iX (jn ka xw xu rX (pv 2) (ae (cC (fT (K:=K)) (by rfl) T.fm fE (ae (pv 8) ai)) ai)))
    (ax (iX (jn ka uw uv rY (pv 2) (ae (pv 8) ai)))))))))))))
   (ax (aF (pv 2))))))),?_⟩
  refine fun p dx np nd ne=>⟨p,dx,rfl,au,fun H1 A ep hh kp qS=>⟨rfl,?_⟩⟩;have s1:af H H1:=af.made np nd kp;subst ep;refine⟨by show 0<=sizeLine;decide,fun lg iR=> ?_⟩;have s2:af H1 _:=af.new (o:= .lst []) iR;have lk1:Lk K A H1 l (calls.map V.int):=by
   rcases hl with⟨o,e⟩|e
   ·refine .inl ⟨⟨o,s1 _ _ e⟩,fun z=> ?_⟩;rw[z] at e;have n1:A.lC≠A.p:=fun y=>by rw[y,np] at e;cases e
    have n2:A.lC≠dx:=fun y=>by rw[y,nd] at e;cases e
    rw[ag n1,ag n2,e] at qS;cases qS
   ·exact .inr e
  refine⟨fun k σ H'=>∃s G at_ f cs done v4 v5 v6 v7 v8,AN tb Z K calls l lg A k σ H' s G at_ f cs done v4 v5 v6 v7 v8,⟨calls.length,Bo,g0,0,calls.length,cs0,[],none,none,none,none,none,rfl,rfl,du _,AO,?_,hh.kp (Kp.of s2),MM.UM,MM.Vj,Tab.same s2 (Tab.same s1 fc),?_,au,?_,?_,?_,?_,abZ⟩,?_⟩
  ·rcases lk1 with⟨⟨o,e⟩,n⟩|h
   ·exact .inl ⟨⟨o,s2 _ _ e⟩,n⟩
   ·exact .inr h
  ·show 0+cs0.length<=400;omega
  ·exact fun z=>by rw[z,hh.hK] at iR;cases iR
  ·exact fun x hx=>nomatch hx
  ·show 0+501*cs0.length<=200400;omega
  ·rw[ab0];rfl
  rintro k σ H' ⟨s,G,at_,f,cs,done,v4,v5,v6,v7,v8,W⟩;obtain rfl:=W.st;have lc:(calls.map V.int).length=calls.length:=ao ..;refine⟨_,rfl,_,rfl,l,_,rfl,.inl W.lk.sq,_,_,rfl,rfl,_,rfl,?_⟩;have wle:=W.le;have wcl:=W.cl;by_cases qz:at_<calls.length
  ·rw[decide_eq_true (by rw[lc];omega)];refine a8 ⟨fun σ' H'=>∃m',m'<k/\∃s G at_ f cs done v4 v5 v6 v7 v8,AN tb Z K calls l lg A m' σ' H' s G at_ f cs done v4 v5 v6 v7 v8,fun _ _ h=>h,?_⟩;rw[AY qz] at wcl;cases f with
   |zero=>cases wcl
   |succ f=>
    obtain⟨q,row,t,cs',om,hq,Gb,OY,Hl,kM⟩:=MM.UI wcl
    have hix:jS (calls.map V.int) (at_:Int)=some (nI q):=by
     refine bL ?_;rw[aS,cE qz,om];rfl
    have dl:(calls.drop (at_+1)).length=calls.length-(at_+1):=PR ..
    refine⟨_,rfl,_,rfl,l,_,_,_,rfl,rfl,W.lk.sq,hix,_,rfl,_,_,rfl,rfl,_,rfl,q,rfl,hq,_,_,rfl,rfl,?_⟩
    generalize hn:(MM.eE q).length=n at *
    have en:calls.drop (at_+1)=calls.drop (at_+1):=rfl
    have e1:(at_:Int)+1=((at_+1:Nat):Int):=by omega
    have e2:(at_:Int)+1+(n:Int)=((at_+1+n:Nat):Int):=by omega
    refine⟨_,rfl,_,rfl,_,_,rfl,rfl,_,rfl,_,rfl,_,rfl,l,_,rfl,W.lk.sq,fun lp fU=> ?_⟩
    have ec:lY (calls.map V.int) (some ((at_:Int)+1)) (some ((at_:Int)+1+(n:Int)))=((calls.drop (at_+1)).take n).map V.int:=by
     rw[e1,show((at_+1:Nat):Int)+(n:Int)=((at_+1+n:Nat):Int) by omega,OU _ (by omega) (by rw[lc];omega),<-List.map_drop,<-Qc]
     congr 2;omega
    rw[ec]
    have sa:=af.new (o:= .lst (((calls.drop (at_+1)).take n).map V.int)) fU
    have OZ:((calls.drop (at_+1)).take n).length=n:=by rw[iU];omega
    refine⟨by show 0<=sizeLine;decide,fun lr fq=> ?_⟩
    have sb:=af.new (o:= .lst []) fq
    have sab:=sa.trans sb
    have uk:=sb _ _ (au (H:=H') (a:=lp) (o:= .lst (((calls.drop (at_+1)).take n).map V.int)))
    refine⟨_,rfl,_,rfl,q,rfl,hq,_,rfl,?_⟩
    cases kT:MM.mf q with
    |false=>
     rw[kT,if_neg df] at kM
     obtain⟨rfl,ht⟩:=kM
     refine ba ?_
     show Hj tb Z K _ [_,_,_,some (.int ((at_:Int)+1+(n:Int))),_,_,_,_,_] _
     rw[e2]
     exact OW W sab uk au hq (by rw[OZ,hn]) (by decide) Hl (by omega) (by omega) (by rw[<-OY,<-ht,Ip]) (fun _ _ h=>h)
    |true=>
     rw[kT,if_pos rfl] at kM
     obtain⟨m,hd,hm⟩:=kM
     rw[Ip] at hd
     have dl2:=congrArg iV hd
     rw[PR,bH,dJ] at dl2
     have Aa:jS (calls.map V.int) ((at_:Int)+1+(n:Int))=some (nI m):=by
      rw[e2];refine bL ?_;have hg:calls[at_+1+n]? =some (m:Int):=by
       have:=congrArg (fun z=>z[0]?) hd;simpa using this
      rw[aS,hg];rfl
     have O0:ah K (upd (upd H' lp (.lst (((calls.drop (at_+1)).take n).map V.int))) lr (.lst [])) l (calls.map V.int):=(W.lk.fr (cP.of sab).L).sq
     refine a8 ⟨_,rfl,_,_,rfl,rfl,_,rfl,_,rfl,l,_,_,_,rfl,rfl,O0,Aa,_,_,rfl,rfl,?_⟩
     refine⟨_,rfl,_,rfl,_,_,rfl,rfl,_,rfl,_,rfl,_,rfl,l,_,rfl,O0,fun l7 qO=> ?_⟩
     have e3:(at_:Int)+1+(n:Int)+1+(m:Int)=((at_+1+n+1+m:Nat):Int):=by omega
     have ec2:lY (calls.map V.int) (some ((at_:Int)+1+(n:Int)+1)) (some ((at_:Int)+1+(n:Int)+1+(m:Int)))=row.map V.int:=by
      rw[e3,show(at_:Int)+1+(n:Int)+1=((at_+1+n+1:Nat):Int) by omega,OU _ (by omega) (by rw[lc];omega),<-List.map_drop,<-Qc,show at_+1+n+1+m-(at_+1+n+1)=m by omega,<-Ip,hd];show(List.take m (row++t)).map V.int=_;rw[<-hm,List.take_left']
      rfl
     rw[ec2]
     have sc:=af.new (o:= .lst (row.map V.int)) qO
     show Hj tb Z K _ [_,_,_,some (.int ((at_:Int)+1+(n:Int)+1+(m:Int))),_,_,_,_,_] _
     rw[e3]
     refine OW (f':=f) W (sab.trans sc) (sc _ _ uk) au hq (by rw[OZ,hn]) ?_ Hl (by omega) (by omega) ?_ (fun _ _ h=>h)
     ·have:=W.ask (MM.rowsOf q ((calls.drop (at_+1)).take n) row) (by rw[Hl];exact bS)
      exact abT this kT
     ·rw[<-OY,show at_+1+n+1+m=at_+1+n+(1+m) by omega,<-Ip,hd,<-hm,Qq 1]
      show lK iw f ((row++t).drop row.length)=_
      rw[List.drop_left']
      rfl
  ·rw[decide_eq_false (by rw[lc];omega)];have e:calls.drop at_=[]:=List.drop_eq_nil_of_le (by omega);rw[e] at wcl;have ec:cs=[]:=by cases f<;>(cases wcl;rfl)
   have:=W.OV;rw[ec,abS,uK] at this;exact ba ⟨_,rfl,kk _ lg (this▸W.hg)⟩
open PySem PySem.Spec PyProof.Rows L2
def bB(K:aC)(x:Str)(st:aL)(ps:List Str):Prop:=∃f fd,mQ K mainGlobals x=some (some (.ref f))/\aR K x x st f fd/\Binds K fd ps []
def qT(K:aC)(C:aa)(m q:Str)(st:aL)(ps:List Str):Prop:=∃f fd,Meth K C m f/\aR K m q st f fd/\Binds K fd ps []
def pK(K:aC)(C:aa)(x q:Str)(st:aL)(ps:List Str):Prop:=∃f fd,mQ K mainGlobals x=some (some (.ref C))/\Mk K C f/\aR K "__init__" q st f fd/\Binds K fd ps []
def Bd(x q:Str)(st:aL)(ps:List Str):Prop:=∀(kV doc pm:ab) (an:Option aa) (aD ct:ab) (us:List ab),us.length=ps.length->bindArgs (mR x q (nv st) (jr st) (aQ st) .none kV doc pm an aD ct) ⟨us,[]⟩=pure (ps.zip us)
theorem AS{x q:Str}{st:aL}{ps:List Str}(h:∀(kV doc pm:ab) (an:Option aa) (aD ct:ab) (g:_root_.Fin ps.length->ab),bindArgs (mR x q (nv st) (jr st) (aQ st) .none kV doc pm an aD ct) ⟨QB g,[]⟩=pure (ps.zip (QB g))):Bd x q st ps:=fun kV doc pm an aD ct us hu=>by
 have e:QB (fun i:_root_.Fin ps.length=>us.get (i.cast hu.symm))=us:=List.ext_getElem (by simp[hu]) (by simp);have:=h kV doc pm an aD ct fun i=>us.get (i.cast hu.symm)
 rwa [e] at this
section
variable{K:aC}{f C:aa}{oc:ab}{od an:Option aa}{osl:Array (Option ab)}{kV doc pm aD ct:ab}{x q:Str}{st:aL}{ps:List Str}
theorem bO(a:mQ K mainGlobals x=some (some (.ref f)))(l:K.lookup f=some ⟨oc,od,.func (mR x x (nv st) (jr st) (aQ st) .none kV doc pm an aD ct),osl⟩)(c:xR K aD x=true)(k:oE K (.ref f)=true)(hb:Bd x x st ps:=by exact CM.AS fun _ _ _ _ _ _ _=>rfl):bB K x st ps:=⟨f,_,a,sg l c k,(sg l c k).binds hb⟩
theorem AU(a:lD K (.ref C) x=some (some (.ref f)))(i:Bn K (.ref f)=true)(l:K.lookup f=some ⟨oc,od,.func (mR x q (nv st) (jr st) (aQ st) .none kV doc pm an aD ct),osl⟩)(c:xR K aD q=true)(k:oE K (.ref f)=true)(hb:Bd x q st ps:=by exact CM.AS fun _ _ _ _ _ _ _=>rfl):qT K C x q st ps:=⟨f,_,⟨a,i,k⟩,sg l c k,(sg l c k).binds hb⟩
theorem xr(n:mQ K mainGlobals x=some (some (.ref C)))(mk:PM K C=true)(kc:oE K (.ref C)=true)(a:lD K (.ref C) "__init__"=some (some (.ref f)))(i:Bn K (.ref f)=true)(l:K.lookup f=some ⟨oc,od,.func (mR "__init__" q (nv st) (jr st) (aQ st) .none kV doc pm an aD ct),osl⟩)(c:xR K aD q=true)(k:oE K (.ref f)=true)(hb:Bd "__init__" q st ps:=by exact CM.AS fun _ _ _ _ _ _ _=>rfl):pK K C x q st ps:=⟨f,_,n,⟨mk,a,i,kc⟩,sg l c k,(sg l c k).binds hb⟩
end
section
variable{P:bg}{w:aW}{K:aC}{mg:Str->Option ab}{h base:aB}{C:aa}{x q:Str}{st:aL}{ps:List Str}{k:Nat}{sp:Sp}
theorem bB.g(a:bB K x st ps)(X:K.In h)(G:h.Ns mainGlobals mg)(ok:∀f fd,aR K x x st f fd->aN P w K mg base aT k f fd ps sp):aA P w K mg base x k ps sp:=
 let ⟨f,fd,a,F,b⟩:=a
 ⟨f,fd,ok f fd F,oG X G a,F.kp,b⟩
theorem qT.g(a:qT K C x q st ps)(c:gh K C)(ok:∀f fd,aR K x q st f fd->aN P w K mg base aT k f fd ps sp):qy P w K mg base C x k ps sp:=
 let ⟨f,fd,m,F,b⟩:=a
 ⟨f,fd,ok f fd F,m,c,b⟩
theorem pK.g(a:pK K C x q st ps)(X:K.In h)(G:h.Ns mainGlobals mg)(ok:∀f fd,aR K "__init__" q st f fd->aN P w K mg base aT k f fd ps sp):i7 P w K mg base x C k ps sp:=
 let ⟨f,fd,n,m,F,b⟩:=a
 ⟨f,fd,ok f fd F,m,oG X G n,b⟩
theorem ab2{c Pp f:aa}{fd:aU}(ht:xW K x=some (c,Pp))(a:mQ K mainGlobals x=some (some (.ref f)))(F:aR K x q st f fd):fd.code= .ref c:=by
 obtain⟨oc,od,kV,doc,pm,an,aD,ct,osl,_,lk,eU⟩:=F.ex;unfold xW at ht;rw[a] at ht;simp only[lk] at ht;cases e:fd.code with
 |ref c'=>
  rw[e] at ht
  simp only at ht
  split at ht
  ·split at ht
   ·cases ht;rfl
   ·cases ht
  ·cases ht
 |_=>rw[e] at ht;cases ht
theorem bB.gc{c Pp:aa}(ht:xW K x=some (c,Pp))(a:bB K x st ps)(X:K.In h)(G:h.Ns mainGlobals mg)(ok:∀f fd,fd.code= .ref c->aR K x x st f fd->aN P w K mg base aT k f fd ps sp):aA P w K mg base x k ps sp:=
 let ⟨f,fd,a,F,b⟩:=a
 ⟨f,fd,ok f fd (ab2 ht a F) F,oG X G a,F.kp,b⟩
end
theorem ab3:Bd "answers" "answers" AQ ["calls"]:=AS fun _ _ _ _ _ _ _=>rfl
theorem na{K:aC}{C:aa}{f:Str}(h:lD K (.ref C) f=some none):c5 K C f:=h
theorem gi{K:aC}{h:aB}{mg:Str->Option ab}{x:Str}{i:Int}{t:Tok}(X:K.In h)(G:h.Ns mainGlobals mg)(e:mQ K mainGlobals x=some (some (.int i t))):∃t,mg x=some (.int i t):=⟨t,oG X G e⟩
def cT(PA PB:aa):cf:=⟨⟨PA,ND,cU "spread"++cU ".<locals>."++cU "<lambda>"⟩,⟨PB,posB,cU "first_group"++cU ".<locals>."++cU "<lambda>"⟩⟩
theorem ab4{P:bg}{w:aW}{K:aC}{h:aB}{mg:Str->Option ab}{fa:aa}{Z:aK}{cA cB PA PB dF dR tT tK tC:aa}(X:K.In h)(G:h.Ns mainGlobals mg)(hfa:mg "answers"=some (.ref fa))(T:Txt K mg Z)(W:pB K w mg dF dR tT tK tC)(nW:PA≠PB)
  (tA:xW K "spread"=some (cA,PA)) (tB:xW K "first_group"=some (cB,PB))
  (ab6:pK K Z.c "Carrier" "Carrier.__init__" Ef ["self","currency"])
  (ab7:pK K Z.p "Part" "Part.__init__" Eg ["self","carrier","share"])
  (ab8:pK K Z.t "Ticket" "Ticket.__init__" Eh ["self","issuer","value","parts"])
  (ab9:pK K Z.k "Claim" "Claim.__init__" Ei ["self","to","of","amount","month","depth","parent"])
  (aca:pK K Z.h "House" "House.__init__" Ek ["self"])
  (acb:qT K Z.h "has_carriers" "House.has_carriers" El ["self","numbers"])
  (acd:qT K Z.h "part_or_none" "House.part_or_none" En ["self","t","i"])
  (ace:qT K Z.h "claim_or_none" "House.claim_or_none" Eo ["self","number"])
  (acf:qT K Z.h "add_claim" "House.add_claim" Ep ["self","claim"])
  (acg:bB K "add_carrier" Es ["house","c","currency"])
  (ach:bB K "set_rate" Eu ["house","currency","num","den"])
  (aci:bB K "set_charge" Ex ["house","a","b","bp"])
  (acj:bB K "suspend" Ez ["house","c","flag"])
  (ack:bB K "in_clearing" EB ["house","currency","amount"])
  (acm:bB K "may_be_rejected" EC ["house","claim"])
  (acn:bB K "reject" ED ["house","number","r"])
  (aco:bB K "effect" EI ["house","number"])
  (acp:bB K "unsettled_sum" EL ["house","to","of"])
  (acq:bB K "owed" EN ["house","a","b"])
  (acr:bB K "show_claim" ER ["house","number"])
  (acs:bB K "show_month" EU ["house"])
  (acu:bB K "fly" EY ["house","t","i"])
  (acv:bB K "refund" E2 ["house","t","i"])
  (acw:bB K "show_part" E4 ["house","t","i"])
  (acx:bB K "shares_together" E9 ["parts","states"])
  (acy:bB K "show_books" Fc ["house","a"])
  (acz:bB K "unbilled_parts" Fi ["house","b","a"])
  (acA:bB K "unbilled" Fl ["house","b","a"])
  (acB:bB K "bill_part" Fp ["house","b","a","part"])
  (acC:bB K "bill" Ft ["house","b","a"])
  (acD:bB K "would_be_cleared" Fv ["house","claim"])
  (acE:bB K "claims_to_clear" Fw ["house"])
  (acF:bB K "unsettled_balance" Fz ["house","c"])
  (acG:bB K "show_account" FA ["house","c"])
  (acH:bB K "answer_payments" FE ["payments"])
  (acI:bB K "make_payment" FH ["house","payment"])
  (acJ:bB K "net_sums" FO ["house"])
  (acK:bB K "show_nets" FR ["house"])
  (acL:bB K "name_of" FV ["place"])
  (acM:bB K "plain_count" FW ["place"])
  (acN:bB K "has_row" FX ["place"])
  (acO:bB K "within" FZ ["number","bounds"])
  (acP:bB K "plain_fits" F1 ["place","plain"])
  (acQ:bB K "row_fits" F5 ["place","row"])
  (acR:bB K "call_fits" F6 ["place","plain","row"])
  (acS:bB K "spread" wY ["amount","weights"])
  (acT:bB K "cut_value" Ge ["value","factors","fixed"])
  (acU:bB K "cut" Gg ["value","row"])
  (acV:bB K "issue" Gk ["house","t","a","value","row"])
  (acW:bB K "bits_for" Gs ["count"])
  (acX:bB K "places_in" Gu ["chosen","bits"])
  (acY:bB K "sums_of_sets" Gv ["amounts"])
  (acZ:bB K "most_groups_of_sets" Gw ["sums","bits"])
  (ac0:bB K "may_be_first" Gx ["group","left","sums","most"])
  (ac1:bB K "first_group" Gy ["left","sums","most","bits"])
  (ac2:bB K "part_into_groups" GB ["nets"])
  (ac3:bB K "payments_in_group" GL ["group","nets"])
  (ac4:bB K "plan_payments" GS ["nets"])
  (ac5:bB K "show_plan" GW ["house"])
  (ac6:bB K "clear_claims" G0 ["house"])
  (ac7:bB K "check_payments" G4 ["house","row"])
  (ac8:bB K "answer_on_terms" G7 ["house","name","plain"])
  (ac9:bB K "answer_on_tickets" G8 ["house","name","plain","row"])
  (ada:bB K "answer_on_claims" G9 ["house","name","plain"])
  (adb:bB K "answer_on_clearing" Ha ["house","name","plain","row"])
  (ade:bB K "answer_fitting" Hg ["house","name","plain","row"])
  (adf:bB K "answer_call" Hi ["house","place","plain","row"])
  (adg:bB K "answers" AQ ["calls"]):
  ∃fd:aU,(∀(s:ak) (us:List ab),us.length=(["calls"]:List Str).length->BindsTo s fd ⟨us,[]⟩ ((["calls"]:List Str).zip us))/\∀base:aB,K.In base->base.Ns mainGlobals mg->wz mg base->uL base cA PA->uL base cB PB->aN P w K mg base aT 9 fa fd ["calls"] (AR (cT PA PB) Z K):=by
 obtain⟨f0,fd,a0,F,b⟩:=adg;have e:=hfa.symm.trans (oG X G a0);cases e;refine⟨fd,fun s us hu=> ?_,fun base X' G' bl ca cb=> ?_⟩
 ·obtain⟨oc,od,kV,doc,pm,an,aD,ct,osl,rfl,lk,eU⟩:=F.ex;exact .of_eq (ab3 kV doc pm an aD ct us hu)
 have B:F8 mg base (cT PA PB) cA cB:=⟨bl,nW,rfl,rfl,rfl,rfl,ca,cb⟩;have adh:i7 P w K mg base _ _ _ _ _:=ab6.g X G fun _ _ F=>XM F T;have adi:i7 P w K mg base _ _ _ _ _:=ab7.g X G fun _ _ F=>XO F T;have adj:i7 P w K mg base _ _ _ _ _:=ab8.g X G fun _ _ F=>XR F T;have O1:i7 P w K mg base _ _ _ _ _:=ab9.g X G fun _ _ F=>XT F T;have adk:i7 P w K mg base _ _ _ _ _:=aca.g X G fun _ _ F=>XW F T;have ow:qy P w K mg base _ _ _ _ _:=acb.g T.bZ fun _ _ F=>XX F T;have Hm:qy P w K mg base _ _ _ _ _:=acd.g T.bZ fun _ _ F=>XZ F T;have Hn:qy P w K mg base _ _ _ _ _:=ace.g T.bZ fun _ _ F=>X1 F T;have O2:qy P w K mg base _ _ _ _ _:=acf.g T.bZ fun _ _ F=>X3 F T;have adl:aA P w K mg base _ _ _ (Et (cT PA PB) Z):=acg.g X G fun _ _ F=>X5 F T adh;have adm:aA P w K mg base _ _ _ (Ew (cT PA PB) Z):=ach.g X G fun _ _ F=>X8 F T;have adn:aA P w K mg base _ _ _ (Ey (cT PA PB) Z):=aci.g X G fun _ _ F=>Ya F T ow;have ado:aA P w K mg base _ _ _ (EA (cT PA PB) Z):=acj.g X G fun _ _ F=>Yb F T ow;have adp:aA P w K mg base _ _ _ _:=ack.g X G fun _ _ F=>Yg F T;have adq:aA P w K mg base _ _ _ _:=acm.g X G fun _ _ F=>Yi F T;have ads:aA P w K mg base _ _ _ (EF (cT PA PB) Z):=acn.g X G fun _ _ F=>Yj F T Hn O2 adq O1;have adt:aA P w K mg base _ _ _ (EJ (cT PA PB) Z):=aco.g X G fun _ _ F=>Yn F T Hn;have adu:aA P w K mg base _ _ _ _:=acp.g X G fun _ _ F=>Yq F T;have adv:aA P w K mg base _ _ _ (EO (cT PA PB) Z):=acq.g X G fun _ _ F=>Ys F T ow adu;have adw:aA P w K mg base _ _ _ (ET (cT PA PB) Z):=acr.g X G fun _ _ F=>Yt F T Hn;have adx:aA P w K mg base _ _ _ (EV (cT PA PB) Z):=acs.g X G fun _ _ F=>Yv F T;have ady:aA P w K mg base _ _ _ (E1 (cT PA PB) Z):=acu.g X G fun _ _ F=>Yx F T Hm;have adz:aA P w K mg base _ _ _ (E3 (cT PA PB) Z):=acv.g X G fun _ _ F=>YA F T Hm;have adA:aA P w K mg base _ _ _ (E5 (cT PA PB) Z):=acw.g X G fun _ _ F=>YB F T Hm;have adB:aA P w K mg base _ _ _ _:=acx.g X G fun _ _ F=>YJ F T;have adC:aA P w K mg base _ _ _ (Fd (cT PA PB) Z):=acy.g X G fun _ _ F=>YK F T ow adB;have O3:aA P w K mg base _ _ _ _:=acz.g X G fun _ _ F=>YQ F T;have adD:aA P w K mg base _ _ _ (Fm (cT PA PB) Z):=acA.g X G fun _ _ F=>YS F T ow O3;have adE:aA P w K mg base _ _ _ _:=acB.g X G fun _ _ F=>YT F T O2 adp O1;have adF:aA P w K mg base _ _ _ (Fu (cT PA PB) Z):=acC.g X G fun _ _ F=>YW F T ow O3 adE;have adG:aA P w K mg base _ _ _ _:=acD.g X G fun _ _ F=>Y2 F T;have O4:aA P w K mg base _ _ _ _:=acE.g X G fun _ _ F=>Y3 F T adG;have adH:aA P w K mg base _ _ _ _:=acF.g X G fun _ _ F=>Y5 F T;have adI:aA P w K mg base _ _ _ (FD (cT PA PB) Z):=acG.g X G fun _ _ F=>Y6 F T ow adH;have O5:aA P w K mg base _ _ _ _:=acH.g X G fun _ _ F=>Y8 F T;have adJ:aA P w K mg base _ _ _ _:=acI.g X G fun _ _ F=>Y9 F T;have AV:aA P w K mg base _ _ _ _:=acJ.g X G fun _ _ F=>Zc F T O4;have adK:aA P w K mg base _ _ _ (FU (cT PA PB) Z):=acK.g X G fun _ _ F=>Zd F T AV;have Ho:aA P w K mg base _ _ _ _:=acL.g X G fun _ _ F=>Zg F T W;have adL:aA P w K mg base _ _ _ _:=acM.g X G fun _ _ F=>Zi F T W;have O6:aA P w K mg base _ _ _ _:=acN.g X G fun _ _ F=>Zk F T W Ho;have O7:aA P w K mg base _ _ _ _:=acO.g X G fun _ _ F=>Zm F T;have adM:aA P w K mg base _ _ _ _:=acP.g X G fun _ _ F=>Zn F T W O7;have adN:aA P w K mg base _ _ _ _:=acQ.g X G fun _ _ F=>Zq F T W Ho O7;have adO:aA P w K mg base _ _ _ _:=acR.g X G fun _ _ F=>Zs F T adM O6 adN;have adP:aA P w K mg base _ _ _ (F9 (cT PA PB)):=bB.gc tA acS X G fun _ _ eU F=>ZF F T B eU;have O8:aA P w K mg base _ _ _ (As (cT PA PB)):=acT.g X G fun _ _ F=>ZK F T adP;have adQ:aA P w K mg base _ _ _ (Gi (cT PA PB)):=acU.g X G fun _ _ F=>ZS F T O8;have adR:aA P w K mg base _ _ _ (Gm (cT PA PB) Z):=acV.g X G fun _ _ F=>ZV F T ow O8 adi adj;have adS:aA P w K mg base _ _ _ _:=acW.g X G fun _ _ F=>Z1 F T;have adT:aA P w K mg base _ _ _ _:=acX.g X G fun _ _ F=>Z4 F T;have adU:aA P w K mg base _ _ _ _:=acY.g X G fun _ _ F=>Z5 F T;have adV:aA P w K mg base _ _ _ _:=acZ.g X G fun _ _ F=>Z7 F T;have adW:aA P w K mg base _ _ _ _:=ac0.g X G fun _ _ F=>aaa F T;have adX:aA P w K mg base _ _ _ (Gz (cT PA PB)):=bB.gc tB ac1 X G fun _ _ eU F=>aac F T B eU adT adW;have adY:aA P w K mg base _ _ _ (GC (cT PA PB)):=ac2.g X G fun _ _ F=>aak F T adS adU adV adX;have adZ:aA P w K mg base _ _ _ _:=ac3.g X G fun _ _ F=>aay F T;have O9:aA P w K mg base _ _ _ (AH (cT PA PB)):=ac4.g X G fun _ _ F=>aaE F T adY adZ;have ad0:aA P w K mg base _ _ _ (GX (cT PA PB) Z):=ac5.g X G fun _ _ F=>aaI F T AV O9 O5;have ad1:aA P w K mg base _ _ _ (G3 (cT PA PB) Z):=ac6.g X G fun _ _ F=>aaT F T AV O9 O5 adJ O4;have ad2:aA P w K mg base _ _ _ (G5 (cT PA PB) Z):=ac7.g X G fun _ _ F=>aaX F T ow AV;have ad3:aA P w K mg base _ _ _ (uq (cT PA PB) Z [0,1,2,13]):=ac8.g X G fun _ _ F=>aa4 F T adl adm adn ado;have ad4:aA P w K mg base _ _ _ (ur (cT PA PB) Z [3,4,5,6,17,16]):=ac9.g X G fun _ _ F=>aba F T adR adQ ady adz adA adC;have ad5:aA P w K mg base _ _ _ (uq (cT PA PB) Z [7,8,9,10,18,19]):=ada.g X G fun _ _ F=>abi F T adF ads adt adv adw adD;have ad6:aA P w K mg base _ _ _ (ur (cT PA PB) Z [11,12,14,15,20,21]):=adb.g X G fun _ _ F=>abq F T adK ad0 ad1 adI adx ad2;have ad7:aA P w K mg base _ _ _ (Hh (cT PA PB) Z):=ade.g X G fun _ _ F=>abI F T W ad3 ad4 ad5 ad6;have ad8:aA P w K mg base _ _ _ (AM (cT PA PB) Z):=adf.g X G fun _ _ F=>abP F T adO Ho ad7;exact abV F T adk adL O6 ad8
open PySem PySem.Spec PyProof.Rows L2
theorem ad9{Z:aK}{PA PB:aa}(K:aC)(H:Hp)(xs:List V)(a:PySem.W.Codec.denoteAll pM.args)(hO:zI H PA PB)
  (xq:aen pM.args pM.asked a=true) (hx:iL K H xs (PySem.W.Codec.encAll pM.args a)):
  AR (cT PA PB) Z K xs H (fun v H'=>Dw K H' v (pM.ret.enc (aen pM.args pM.f a))) fun _ _ _=>False:=by
 cases hx with
 |cons h1 h2=>
  cases h2
  cases h1 with
  |lst hs ha=>
   rename_i l xs
   have e:=L2.Kn a.1 _ ha
   subst e
   refine⟨l,a.1,rfl,?_,xq,⟨⟨#[],hO.2.1,trivial,.inl rfl⟩,⟨#[],hO.2.2,trivial,.inl rfl⟩⟩,fun H' p hp=> .lst (L2.ah.of hp) (L2.Km _)⟩
   rcases hs with(hs|hs)|hs
   ·refine absurd hs ?_
    by_cases e1:l=PA
    ·rw[e1,hO.2.1];exact fun z=>nomatch z
    ·by_cases e2:l=PB
     ·rw[e2,hO.2.2];exact fun z=>nomatch z
     ·rcases hO.1 l e1 e2 with z|⟨o,u,z⟩
      ·rw[z];exact fun z=>nomatch z
      ·rw[z];exact fun z=>nomatch z
   ·exact .inl hs
   ·exact .inr hs
end CM
namespace PySem.W.Fast
def tw2547176260719006805:=0
def tw13772154989195324149:=0
def tw1059523926363105346:=0
def tw13962689943097825229:=0
def tw8552261662103205984:=0
def tw13897858259553035083:=0
def tw3357798652440826576:=0
def tw9715327120602299738:=0
def tw16615400880233416448:=0
def tw2987150348963734036:=0
def tw9544090986047283025:=0
def tw10578357428432143417:=0
def tw2857543110231414303:=0
def tw14387334678305450700:=0
def tw11918766300610574086:=0
def tw15441506181159430580:=0
def tw4952115251327091515:=0
def tw970870723848395806:=0
def tw8717531370316063779:=0
def tw11628647205714937726:=0
def tw16146969884858639649:=0
def tw4147743094982758881:=0
def tw11602735954413324300:=0
def tw7273593928358821804:=0
def tw8775840253973711497:=0
def tw532498064853570111:=0
def tw8496181263044112614:=0
def tw9530051619724778475:=0
def tw7704212815414559084:=0
def tw9241146145414926652:=0
def tw511042894515434214:=0
def tw15530113858211338533:=0
def tw11879751848584498502:=0
def tw1933321090948520990:=0
def tw7877052427228980835:=0
def tw10313333357970793705:=0
def tw8344815998354568874:=0
def tw17545106945916335368:=0
def tw15289488168221140213:=0
def tw16915439424174418316:=0
def tw2426136899708095989:=0
def tw18226044584536240748:=0
def tw15226931009174914328:=0
def tw16207835487754421951:=0
def tw2804878092897600711:=0
def tw5280525804311273349:=0
def tw15288904360902073873:=0
def tw8685932383146500254:=0
def tw14670894076353429310:=0
def tw15906619304070101062:=0
def tw11896491757884488345:=0
def tw15077877810830257625:=0
def tw10229762191615393887:=0
def tw640098609384107594:=0
def tw7732610277923531789:=0
def tw10229130096477536697:=0
def tw12502242167047499779:=0
def tw17839318062583863749:=0
def tw8750568661748896130:=0
def tw11706300316015967691:=0
def tw11802461608905918535:=0
def tw8156484640900283485:=0
def tw1533635668173702259:=0
def tw15178418263677331594:=0
def tw2620686844411300348:=0
def tw17477528664368023382:=0
def tw9482130969877405281:=0
def tw7695901169859025919:=0
def tw8106844963166745148:=0
def tw13896905560164875213:=0
def tw11750886117432255813:=0
def tw13492389904313503646:=0
def tw15875396608462923544:=0
def tw4954927758954254417:=0
def tw5151392984546358955:=0
def tw16342033876418618312:=0
def tw10459339639958558341:=0
def tw15672969015722365344:=0
def tw11432754983459760039:=0
def tw4619623811849462639:=0
def tw14552742024977481945:=0
def tw16669619975228173471:=0
def tw6895883933327108095:=0
def tw9732467339801447815:=0
def tw4389265510512185108:=0
def tw14690591344807557459:=0
def tw9594731732351233502:=0
def tw17037036726423996815:=0
def tw15864205604323207366:=0
def tw3711259547983889493:=0
def tw14804155038586687088:=0
def tw12013926736686996735:=0
def tw17163345888766272581:=0
def tw12364182439100471483:=0
def tw1448213485673423113:=0
def tw1933871542170500003:=0
def tw2237429742030078090:=0
def tw17582353074387408511:=0
def tw9563385904370139896:=0
def tw15320740749746801026:=0
def tw4846889463398317418:=0
def tw17337780818404236013:=0
def tw17074933875812126061:=0
def tw3128250345338548690:=0
def tw3586671243473676094:=0
def tw15046173086544844185:=0
def tw979268195057320631:=0
def tw3223562423215551951:=0
def tw9789448657524034047:=0
def tw13342409154354313032:=0
def tw1655413288184954818:=0
def tw2283778286599574206:=0
def tw704945881652413494:=0
def tw3769323865861399877:=0
def tw6306920997963365713:=0
def tw585725094476348905:=0
def tw13582863904941557194:=0
def tw6546270485840171712:=0
def tw10305447094973359547:=0
def tw7214646066248429935:=0
def tw3977993726010075567:=0
def tw11256698112788064093:=0
def tw6960487763317164243:=0
def tw14576583979188907973:=0
def tw1987962589818515486:=0
def tw4465133054153250302:=0
def tw165579446284738141:=0
def tw17977466800351363018:=0
def tw6381863742599242470:=0
def tw390901498593871049:=0
def tw6461811810127016117:=0
def tw18228440045705062683:=0
def tw644893133820091525:=0
def tw2102576665707981007:=0
def tw5414349291703320074:=0
def tw13542947006374619622:=0
def tw1039108839280819146:=0
def tw14397681016742456852:=0
def tw17846671909494619530:=0
def tw10284544493398806517:=0
def tw4514864571093807703:=0
def tw10065018124493327394:=0
def tw5170274166953640702:=0
def tw10655273041519125644:=0
def tw2526399056829153948:=0
def tw11316647980139054263:=0
def tw14933996181178580464:=0
def tw3935712591796868254:=0
def tw12294781596214903114:=0
def tw1137434370347166803:=0
def tw18284424237512915559:=0
def tw16333638944027883006:=0
def tw15754981967678092812:=0
def tw8473695449784086075:=0
def tw8879612316247748009:=0
def tw4287265718074200196:=0
def tw12037523962531924202:=0
def tw3013150044094918204:=0
def tw17791718675857216475:=0
def tw13230768545579539722:=0
def tw17875723898950841315:=0
def tw12140044625493161557:=0
def tw16046963088919645217:=0
def tw4887655222600427063:=0
def tw7639263603748951925:=0
def tw8783059368324161800:=0
def tw9369605863698119981:=0
def tw5479431172745521752:=0
def tw16242892572141232883:=0
def tw10407107456013601515:=0
def tw1653270662876821046:=0
def tw6517474465800095346:=0
def tw15180709486379943743:=0
def tw17516801041179788246:=0
def tw16108894872329231419:=0
def tw13538818669316326373:=0
def tw14676568539626383336:=0
def tw12934554963691719495:=0
def tw6838846165154509850:=0
def tw12716475580321578139:=0
def tw10554086551994280142:=0
def tw7707225489748434320:=0
def tw12662378715457887219:=0
def tw12164604170156051230:=0
def tw13895250418183640963:=0
def tw11066412212073232512:=0
def tw18099266408605868987:=0
def tw12389090286967318521:=0
def tw9662166866408068416:=0
def tw13063542743403146813:=0
def tw3971765460268954387:=0
def tw3683868545449986550:=0
def tw15926010115342575715:=0
def tw1899994032144242897:=0
def tw1321302455270698715:=0
def tw1330824878114075951:=0
def tw132043328128484352:=0
def tw1539117460564199095:=0
def tw12119346973134349998:=0
def tw14084931697559976514:=0
def tw10137098773131757765:=0
def tw17065838164462444207:=0
def tw14204339766477655969:=0
def tw13949066486105723150:=0
def tw5746858057673041331:=0
def tw6468984884232513460:=0
def tw5009238717089166292:=0
def tw16389736260900172131:=0
def tw13675072786417472429:=0
def tw5689100040664009016:=0
def tw3601078402782204722:=0
def tw3175436238399321983:=0
def tw17970548747612639690:=0
def tw16938233094330059997:=0
def tw1103259123765726574:=0
def tw10808870172112892056:=0
def tw10222115536433423204:=0
def tw7531573911396487541:=0
def tw7008995182421550977:=0
def tw1847390984273151524:=0
def tw17720322952019142711:=0
def tw17676666126676997933:=0
def tw15387448533614756867:=0
def tw12799475851667437298:=0
def tw11435928778165491120:=0
def tw11239608314142994213:=0
def tw16096202867481669498:=0
def tw14518154427255683925:=0
def tw12751238570278161345:=0
def tw7761363962913483315:=0
def tw5300097818520904134:=0
def tw2486955534339033867:=0
def tw14712462887520064123:=0
def tw11348947938004688048:=0
def tw4988219817313616593:=0
def tw17117002953107108300:=0
def tw15351886350508103558:=0
def tw9457507420786246884:=0
def tw9108514511946739837:=0
def tw2221879061701008822:=0
def tw16695961720670435390:=0
def tw16051291878883865426:=0
def tw14040662433270548382:=0
def tw10057933581351643814:=0
def tw17700789398502502423:=0
def tw16631127226178633334:=0
def tw16128062387723392560:=0
def tw9112214926865466092:=0
def tw15261630157329408291:=0
def tw1403494224725891304:=0
def tw8241004989579434179:=0
def tw7657753836156370115:=0
def tw6746229530872864688:=0
def tw4504487001200522919:=0
def tw16537188348935451633:=0
def tw13823547149020348552:=0
def tw11746231825540030540:=0
def tw2727700370582008817:=0
def tw8912154983819423088:=0
def tw8561888907738819361:=0
def tw7492183956458859069:=0
def tw7472029795309904873:=0
def tw7147021561742502757:=0
def tw5867104551586953015:=0
end PySem.W.Fast
open PySem PySem.W PyProof.Rows
set_option maxRecDepth 100000 in
set_option maxHeartbeats 0 in
theorem PySem.Challenge.cw_carriermoney_s01_answers_holds : PySem.Challenge.rw_carriermoney_s01_answers.Holds := by
 w_on;k_headS;(case hw=>exact⟨[.list [.int 11]],by decide+kernel,by decide+kernel⟩)
 k_fillS
 refine' L2.Xo (r:=pM) (k:=9) (CX:=L2.aT) (ps:=["calls"]) (sp:=fun K=>CM.AR (CM.cT 516 247) ⟨141,31,52,73,94⟩ K) (xA:="spread") (xB:="first_group") (cA:=518) (cB:=249) (PA:=516) (PB:=247) (by decide+kernel) rfl rfl ⟨rfl,by decide,by decide⟩ (fun w h Y=>PySem.W.kIn_of Y) ?hA ?hB ?tA ?tB ?nW ?zJ ?zK ?F ?S (fun _ _ _ _ z=>z)
 (case hA=>decide+kernel);(case hB=>decide+kernel)
 (case tA=>exact fun p=>⟨rfl,rfl⟩);(case tB=>exact fun p=>⟨rfl,rfl⟩)
 (case nW=>decide);(case zJ=>decide);(case zK=>decide)
 case F=>
  intro w mg fa h Y KX G DY
  refine' CM.ab4 (Z:=⟨141,31,52,73,94⟩) (dF:=346) (dR:=424) (tT:=568) (tK:=569) (tC:=570) KX G DY ⟨⟨?_,?_,?_,?_⟩,CM.na ?_,CM.na ?_,CM.na ?_,CM.na ?_,CM.na ?_,CM.na ?_,⟨?_,?_,?_,?_⟩,CM.na ?_,CM.na ?_,CM.na ?_,CM.na ?_,⟨?_,?_,?_,?_⟩,CM.na ?_,CM.na ?_,CM.na ?_,CM.na ?_,CM.na ?_,⟨?_,?_,?_,?_⟩,CM.na ?_,CM.na ?_,CM.na ?_,⟨?_,?_,?_,?_⟩,CM.na ?_,CM.na ?_,CM.na ?_,CM.na ?_,CM.na ?_,CM.na ?_,CM.na ?_,CM.na ?_,CM.gi KX G ?_,CM.gi KX G ?_,CM.gi KX G ?_,CM.gi KX G ?_,CM.gi KX G ?_,CM.gi KX G ?_,CM.gi KX G ?_,CM.gi KX G ?_,CM.gi KX G ?_,CM.gi KX G ?_,CM.gi KX G ?_,CM.gi KX G ?_,CM.gi KX G ?_,CM.gi KX G ?_,CM.gi KX G ?_,CM.gi KX G ?_,CM.gi KX G ?_,mU KX G ?_,mU KX G ?_,mU KX G ?_,mU KX G ?_,mU KX G ?_,mU KX G ?_,mU KX G ?_,mU KX G ?_,mU KX G ?_,mU KX G ?_,mU KX G ?_⟩ ?W ?nW ?tA ?tB (CM.xr ?_ ?_ ?_ ?_ ?_ ?_ ?_ ?_) (CM.xr ?_ ?_ ?_ ?_ ?_ ?_ ?_ ?_) (CM.xr ?_ ?_ ?_ ?_ ?_ ?_ ?_ ?_) (CM.xr ?_ ?_ ?_ ?_ ?_ ?_ ?_ ?_) (CM.xr ?_ ?_ ?_ ?_ ?_ ?_ ?_ ?_) (CM.AU ?_ ?_ ?_ ?_ ?_) (CM.AU ?_ ?_ ?_ ?_ ?_) (CM.AU ?_ ?_ ?_ ?_ ?_) (CM.AU ?_ ?_ ?_ ?_ ?_) (CM.bO ?_ ?_ ?_ ?_) (CM.bO ?_ ?_ ?_ ?_) (CM.bO ?_ ?_ ?_ ?_) (CM.bO ?_ ?_ ?_ ?_) (CM.bO ?_ ?_ ?_ ?_) (CM.bO ?_ ?_ ?_ ?_) (CM.bO ?_ ?_ ?_ ?_) (CM.bO ?_ ?_ ?_ ?_) (CM.bO ?_ ?_ ?_ ?_) (CM.bO ?_ ?_ ?_ ?_) (CM.bO ?_ ?_ ?_ ?_) (CM.bO ?_ ?_ ?_ ?_) (CM.bO ?_ ?_ ?_ ?_) (CM.bO ?_ ?_ ?_ ?_) (CM.bO ?_ ?_ ?_ ?_) (CM.bO ?_ ?_ ?_ ?_) (CM.bO ?_ ?_ ?_ ?_) (CM.bO ?_ ?_ ?_ ?_) (CM.bO ?_ ?_ ?_ ?_) (CM.bO ?_ ?_ ?_ ?_) (CM.bO ?_ ?_ ?_ ?_) (CM.bO ?_ ?_ ?_ ?_) (CM.bO ?_ ?_ ?_ ?_) (CM.bO ?_ ?_ ?_ ?_) (CM.bO ?_ ?_ ?_ ?_) (CM.bO ?_ ?_ ?_ ?_) (CM.bO ?_ ?_ ?_ ?_) (CM.bO ?_ ?_ ?_ ?_) (CM.bO ?_ ?_ ?_ ?_) (CM.bO ?_ ?_ ?_ ?_) (CM.bO ?_ ?_ ?_ ?_) (CM.bO ?_ ?_ ?_ ?_) (CM.bO ?_ ?_ ?_ ?_) (CM.bO ?_ ?_ ?_ ?_) (CM.bO ?_ ?_ ?_ ?_) (CM.bO ?_ ?_ ?_ ?_) (CM.bO ?_ ?_ ?_ ?_) (CM.bO ?_ ?_ ?_ ?_) (CM.bO ?_ ?_ ?_ ?_) (CM.bO ?_ ?_ ?_ ?_) (CM.bO ?_ ?_ ?_ ?_) (CM.bO ?_ ?_ ?_ ?_) (CM.bO ?_ ?_ ?_ ?_) (CM.bO ?_ ?_ ?_ ?_) (CM.bO ?_ ?_ ?_ ?_) (CM.bO ?_ ?_ ?_ ?_) (CM.bO ?_ ?_ ?_ ?_) (CM.bO ?_ ?_ ?_ ?_) (CM.bO ?_ ?_ ?_ ?_) (CM.bO ?_ ?_ ?_ ?_) (CM.bO ?_ ?_ ?_ ?_) (CM.bO ?_ ?_ ?_ ?_) (CM.bO ?_ ?_ ?_ ?_) (CM.bO ?_ ?_ ?_ ?_) (CM.bO ?_ ?_ ?_ ?_) (CM.bO ?_ ?_ ?_ ?_) (CM.bO ?_ ?_ ?_ ?_) (CM.bO ?_ ?_ ?_ ?_) (CM.bO ?_ ?_ ?_ ?_)
  (case W=>(refine' CM.XI (dF:=346) (dR:=424) (tT:=568) (tK:=569) (tC:=570) KX G ?a1 ?a2 ?a3 ?a4 ?a5 ?lF ?lR ?tQ ?tS ?tU (by decide) (by decide) ?zl ?hF ?r1 ?r2 ?r3;(case a1=>k_is);(case a2=>k_is);(case a3=>k_is);(case a4=>k_is);(case a5=>k_is);(case lF=>k_is);(case lR=>k_is);(case tQ=>(refine' CM.bX ?_ (.cons CM.cR (.cons CM.cR (.cons CM.cR (.cons CM.cR .nil))));any_goals k_is));(case tS=>(refine' CM.bX ?_ (.cons CM.cR (.cons CM.cR (.cons CM.cR (.cons CM.cR (.cons CM.cR (.cons CM.cR .nil))))));any_goals k_is));(case tU=>(refine' CM.bX ?_ (.cons CM.cR (.cons CM.cR (.cons CM.cR (.cons CM.cR (.cons CM.cR (.cons CM.cR .nil))))));any_goals k_is));(case zl=>rfl);(case hF=>(refine'⟨⟨_,_,rfl,rfl,rfl,?f0⟩,⟨_,_,rfl,rfl,rfl,?f1⟩,⟨_,_,rfl,rfl,rfl,?f2⟩,⟨_,_,rfl,rfl,rfl,?f3⟩,⟨_,_,rfl,rfl,rfl,?f4⟩,⟨_,_,rfl,rfl,rfl,?f5⟩,⟨_,_,rfl,rfl,rfl,?f6⟩,⟨_,_,rfl,rfl,rfl,?f7⟩,⟨_,_,rfl,rfl,rfl,?f8⟩,⟨_,_,rfl,rfl,rfl,?f9⟩,⟨_,_,rfl,rfl,rfl,?f10⟩,⟨_,_,rfl,rfl,rfl,?f11⟩,⟨_,_,rfl,rfl,rfl,?f12⟩,⟨_,_,rfl,rfl,rfl,?f13⟩,⟨_,_,rfl,rfl,rfl,?f14⟩,⟨_,_,rfl,rfl,rfl,?f15⟩,⟨_,_,rfl,rfl,rfl,?f16⟩,⟨_,_,rfl,rfl,rfl,?f17⟩,⟨_,_,rfl,rfl,rfl,?f18⟩,⟨_,_,rfl,rfl,rfl,?f19⟩,⟨_,_,rfl,rfl,rfl,?f20⟩,⟨_,_,rfl,rfl,rfl,?f21⟩,trivial⟩;(case f0=>(refine'⟨349,[347,348],CM.bX ?_ (.cons CM.cR (.cons rfl .nil)),CM.bX ?_ (.cons rfl (.cons rfl .nil)),CM.cF ?_,CM.cF ?_,trivial⟩;any_goals k_is));(case f1=>(refine'⟨354,[351,352,353],CM.bX ?_ (.cons CM.cR (.cons rfl .nil)),CM.bX ?_ (.cons rfl (.cons rfl (.cons rfl .nil))),CM.cF ?_,CM.cF ?_,CM.cF ?_,trivial⟩;any_goals k_is));(case f2=>(refine'⟨359,[356,357,358],CM.bX ?_ (.cons CM.cR (.cons rfl .nil)),CM.bX ?_ (.cons rfl (.cons rfl (.cons rfl .nil))),CM.cF ?_,CM.cF ?_,CM.cF ?_,trivial⟩;any_goals k_is));(case f3=>(refine'⟨364,[361,362,363],CM.bX ?_ (.cons CM.cR (.cons rfl .nil)),CM.bX ?_ (.cons rfl (.cons rfl (.cons rfl .nil))),CM.cF ?_,CM.cF ?_,CM.cF ?_,trivial⟩;any_goals k_is));(case f4=>(refine'⟨367,[366],CM.bX ?_ (.cons CM.cR (.cons rfl .nil)),CM.bX ?_ (.cons rfl .nil),CM.cF ?_,trivial⟩;any_goals k_is));(case f5=>(refine'⟨371,[369,370],CM.bX ?_ (.cons CM.cR (.cons rfl .nil)),CM.bX ?_ (.cons rfl (.cons rfl .nil)),CM.cF ?_,CM.cF ?_,trivial⟩;any_goals k_is));(case f6=>(refine'⟨375,[373,374],CM.bX ?_ (.cons CM.cR (.cons rfl .nil)),CM.bX ?_ (.cons rfl (.cons rfl .nil)),CM.cF ?_,CM.cF ?_,trivial⟩;any_goals k_is));(case f7=>(refine'⟨379,[377,378],CM.bX ?_ (.cons CM.cR (.cons rfl .nil)),CM.bX ?_ (.cons rfl (.cons rfl .nil)),CM.cF ?_,CM.cF ?_,trivial⟩;any_goals k_is));(case f8=>(refine'⟨383,[381,382],CM.bX ?_ (.cons CM.cR (.cons rfl .nil)),CM.bX ?_ (.cons rfl (.cons rfl .nil)),CM.cF ?_,CM.cF ?_,trivial⟩;any_goals k_is));(case f9=>(refine'⟨386,[385],CM.bX ?_ (.cons CM.cR (.cons rfl .nil)),CM.bX ?_ (.cons rfl .nil),CM.cF ?_,trivial⟩;any_goals k_is));(case f10=>(refine'⟨390,[388,389],CM.bX ?_ (.cons CM.cR (.cons rfl .nil)),CM.bX ?_ (.cons rfl (.cons rfl .nil)),CM.cF ?_,CM.cF ?_,trivial⟩;any_goals k_is));(case f11=>(refine'⟨392,[],CM.bX ?_ (.cons CM.cR (.cons rfl .nil)),CM.bX ?_ .nil,trivial⟩;any_goals k_is));(case f12=>(refine'⟨394,[],CM.bX ?_ (.cons CM.cR (.cons rfl .nil)),CM.bX ?_ .nil,trivial⟩;any_goals k_is));(case f13=>(refine'⟨398,[396,397],CM.bX ?_ (.cons CM.cR (.cons rfl .nil)),CM.bX ?_ (.cons rfl (.cons rfl .nil)),CM.cF ?_,CM.cF ?_,trivial⟩;any_goals k_is));(case f14=>(refine'⟨400,[],CM.bX ?_ (.cons CM.cR (.cons rfl .nil)),CM.bX ?_ .nil,trivial⟩;any_goals k_is));(case f15=>(refine'⟨403,[402],CM.bX ?_ (.cons CM.cR (.cons rfl .nil)),CM.bX ?_ (.cons rfl .nil),CM.cF ?_,trivial⟩;any_goals k_is));(case f16=>(refine'⟨406,[405],CM.bX ?_ (.cons CM.cR (.cons rfl .nil)),CM.bX ?_ (.cons rfl .nil),CM.cF ?_,trivial⟩;any_goals k_is));(case f17=>(refine'⟨411,[409,410],CM.bX ?_ (.cons CM.cR (.cons rfl .nil)),CM.bX ?_ (.cons rfl (.cons rfl .nil)),CM.cF ?_,CM.cF ?_,trivial⟩;any_goals k_is));(case f18=>(refine'⟨414,[413],CM.bX ?_ (.cons CM.cR (.cons rfl .nil)),CM.bX ?_ (.cons rfl .nil),CM.cF ?_,trivial⟩;any_goals k_is));(case f19=>(refine'⟨418,[416,417],CM.bX ?_ (.cons CM.cR (.cons rfl .nil)),CM.bX ?_ (.cons rfl (.cons rfl .nil)),CM.cF ?_,CM.cF ?_,trivial⟩;any_goals k_is));(case f20=>(refine'⟨420,[],CM.bX ?_ (.cons CM.cR (.cons rfl .nil)),CM.bX ?_ .nil,trivial⟩;any_goals k_is));(case f21=>(refine'⟨422,[],CM.bX ?_ (.cons CM.cR (.cons rfl .nil)),CM.bX ?_ .nil,trivial⟩;any_goals k_is))));(case r1=>(refine'⟨425,429,[426,427,428],CM.bX ?_ (.cons rfl (.cons rfl .nil)),CM.cF ?_,CM.bX ?_ (.cons rfl (.cons rfl (.cons rfl .nil))),CM.cF ?_,CM.cF ?_,CM.cF ?_,trivial⟩;any_goals k_is));(case r2=>(refine'⟨431,434,[432,433],CM.bX ?_ (.cons rfl (.cons rfl .nil)),CM.cF ?_,CM.bX ?_ (.cons rfl (.cons rfl .nil)),CM.cF ?_,CM.cF ?_,trivial⟩;any_goals k_is));(case r3=>(refine'⟨436,440,[437,438,439],CM.bX ?_ (.cons rfl (.cons rfl .nil)),CM.cF ?_,CM.bX ?_ (.cons rfl (.cons rfl (.cons rfl .nil))),CM.cF ?_,CM.cF ?_,CM.cF ?_,trivial⟩;any_goals k_is))))
  (case nW=>decide);(case tA=>rfl);(case tB=>rfl)
  any_goals k_is
 case S=>
  intro K H xs a hO DZ xq hx
  exact CM.ad9 K H xs a hO xq hx
